import PyProof.Rows.All
import Wide.All
import OpenK.AllK
import Wide.FinOn
import Lean
import PyProof.EqAt
import PyProof.EqKinds
import PyProof.TupleCall
import PySem.Challenge.RW_stoke_k54_whole_finer_gauges
set_option compiler.extract_closed false
set_option maxHeartbeats 0
set_option Elab.async false
set_option linter.all false
set_option maxRecDepth 100000
abbrev dW:=PySem.Str->Option PySem.Value
abbrev jF:=Option PySem.Value
abbrev bM:=List PySem.Value
abbrev bK:=List PySem.Addr
abbrev cZ:=List PySem.Str
abbrev aR:=List Nat
abbrev az:=PySem.Value
abbrev am:=PySem.Addr
abbrev aD:=PySem.W.Frag
abbrev bG:=PySem.Heap
abbrev bE:=PySem.Program
abbrev bz:=PySem.World
def Bj:=@List.getElem?_eq_some_iff
def M1:=@List.length_map
def Qm:=@List.getD_eq_getElem?_getD
def Sb:=@List.getElem?_map
def Yb:=@List.getElem?_eq_getElem
def aaa:=@List.mem_cons
def aab:=@List.length_append
def aac:=@List.mem_singleton
def aad:=@List.not_mem_nil
def aae:=@List.mem_of_getElem?
def aaf:=@List.map_append
def aah:=@PySem.wpAny_bind
def aai:=@List.mem_cons_of_mem
def aaj:=@Nat.le_refl
def aak:=@List.length_range
def aal:=@List.getElem?_append_left
def aam:=@PySem.Heap.get?_push_of_some
def aan:=@if_pos
def aao:=@Option.some.inj
def aap:=@if_neg
def aaq:=@decide_eq_false
def aar:=@List.getElem_mem
def aas:=@List.mem_cons_self
def aat:=@Nat.lt_of_le_of_lt
def aau:=@List.mem_append
def aav:=@Nat.lt_of_lt_of_le
def aaw:=@PySem.Heap.lt_size
def aax:=@Nat.le_trans
def aaz:=@List.size_toArray
def aaA:=@List.take_length
def aaB:=@PySem.wpAny_pure
def aaC:=@List.length_singleton
def aaD:=@List.mem_range
def aaE:=@Bool.false_ne_true
def aaF:=@List.length_take
def aaG:=@PySem.F.plainAttrs_list
def aaH:=@decide_eq_true
def aaI:=@PySem.PassesOwn.never
def aaJ:=@List.mem_map
def aaK:=@Int.mul_pos
def aaL:=@PySem.F.type_list_append
def aaM:=@PySem.F.slot_list_append
def aaN:=@Nat.ne_of_lt
def aaO:=@List.getElem?_append_right
def aaP:=@List.nodup_cons
def aaQ:=@PySem.Heap.get?_push_size
def aaR:=@or_false
def aaS:=@List.map_cons
def aaT:=@Int.mul_right_comm
def aaU:=@List.mem_append_left
def aaW:=@Int.toNat_natCast
def aaX:=@List.length_cons
def aaY:=@Bool.and_eq_true
def aaZ:=@Nat.zero_le
def aa0:=@Int.zero_add
def aa1:=@List.mem_append_right
def aa2:=@List.getElem?_concat_length
def aa3:=@Int.natCast_nonneg
def aa4:=@List.eq_nil_of_length_eq_zero
def aa5:=@List.range_succ
def aa6:=@List.take_of_length_le
def aa7:=@List.mem_filter
def aa8:=@List.length_filter_le
def aa9:=@List.find?_cons
def aba:=@Int.le_of_lt
def abb:=@PyProof.Rows.callWith_type1
def abc:=@List.length_set
def abd:=@List.getElem?_range
def abe:=@List.getElem?_eq_none
def abf:=@List.append_nil
def abg:=@Int.mul_lt_mul_of_pos_right
def abh:=@List.all_eq_true
def abi:=@List.append_assoc
def abj:=@Int.lt_of_mul_lt_mul_right
def abk:=@List.mem_iff_getElem
def abl:=@Option.map_eq_some_iff
def abm:=@PySem.W.mg_none_of
def abn:=@Nat.not_lt_zero
def abo:=@List.filter_append
def abp:=@Int.le_refl
def abq:=@Nat.pow_le_pow_right
def abr:=@Int.eq_of_mul_eq_mul_right
def abt:=@Int.mul_assoc
def abu:=@Nat.testBit_and
def abv:=@Int.mul_le_mul_of_nonneg_right
def abw:=@PySem.wpAny_truthy_bool
def abx:=@PySem.wpAny_mono
def aby:=@Nat.add_sub_cancel
def abA:=@List.mem_flatMap
def abB:=@List.lookup_cons
def abC:=@List.take_add_one
def abD:=@List.foldl_append
def abE:=@beq_eq_false_iff_ne
def abF:=@PySem.mem_of_lookup
def abG:=@List.map_congr_left
def abH:=@Nat.lt_irrefl
def abI:=@Bool.false_eq_true
def abJ:=@not_or
def abK:=@Nat.mul_le_mul_right
def abM:=@of_decide_eq_true
def abN:=@Option.isSome_iff_exists
def abO:=@List.pairwise_singleton
def abP:=@List.length_eq_zero_iff
def abQ:=@List.countP_eq_zero
def abR:=@List.cons.inj
def abS:=@Nat.le_add_right
def abT:=@List.length_drop
def abU:=@List.getElem?_set_self
def abV:=@congrArg
def abW:=@PySem.wpAny_holding
def abX:=@Option.map_some
def abY:=@Nat.le_of_lt
def abZ:=@List.length_replicate
def ab0:=@Int.ne_of_gt
def ab1:=@Bool.eq_iff_iff
def ab2:=@decide_eq_true_eq
def ab3:=@PySem.wpAny_Call_Name_kw
def ab4:=@Int.fdiv_eq_ediv_of_nonneg
def ab5:=@List.getElem?_set_ne
def ab6:=@PySem.wpAny_passesOwn
def ab7:=@PySem.wpAny_field
def ab8:=@decide_eq_decide
def ab9:=@PySem.wpAny_pyIter_enum
def aca:=@PySem.Paired.length
def acb:=@Nat.le_succ
def acd:=@Int.toNat_of_nonneg
def ace:=@beq_iff_eq
def acf:=@Nat.ne_of_gt
def acg:=@Int.mul_fdiv_cancel_left
def ach:=@Int.mul_comm
def aci:=@PySem.F.slot_tuple_iterator_next
def acj:=@PySem.W.mg_of
def ack:=@of_decide_eq_false
def acl:=@List.map_singleton
def acm:=@PySem.PyData.tuple.inj
def acn:=@List.take_succ
def aco:=@List.nodup_nil
def acp:=@PySem.wpAny_callSpecial?_slot
def acq:=@PySem.W.kia_one
def acr:=@List.mem_iff_getElem?
def acs:=@List.map_map
def act:=@Int.mul_le_mul_of_nonneg_left
def acu:=@PySem.intBits_le_iff
def acv:=@Nat.eq_of_testBit_eq
def acw:=@Bool.and_eq_true_iff
def acx:=@PySem.wpAny_seqItems
def acy:=@Ne.symm
def acz:=@PySem.Around.in1_units
def acA:=@if_false
def acB:=@Option.toList_some
def acC:=@Nat.add_comm
def acD:=@Array.forIn_toList
def acE:=@Nat.lt_pow_two_of_testBit
def acF:=@List.take_zero
def acG:=@List.getElem?_zip_eq_some
def acI:=@Int.natAbs_mul
def acJ:=@Int.mul_nonneg
def acK:=@PySem.F.args_tuple_add_2
def acL:=@PySem.Paired.snoc
def acM:=@Nat.lt_succ_of_lt
def acN:=@List.nodup_append
def acO:=@Bool.not_eq_true'
def acP:=@PySem.F.entry_tuple_add
def acQ:=@List.filter_cons_of_pos
def acR:=@List.filter_cons_of_neg
def acS:=@List.any_cons
def acT:=@Int.one_mul
def acU:=@Nat.succ_ne_zero
def acV:=@Nat.succ_ne_self
def acW:=@Nat.succ_le_succ
def acX:=@Nat.and_le_right
def acY:=@List.length_tail
def acZ:=@PySem.Calls.spliced_cons
def ac0:=@PySem.F.slot_tuple_add
def ac1:=@PySem.PyData.int.inj
def ac2:=@PySem.Heap.size_push
def ac3:=@PySem.F.slot_dict_get
def ac4:=@Nat.pow_succ
def ac6:=@Nat.lt_trans
def ac7:=@List.nil_append
def ac8:=@List.length_nil
def ac9:=@List.forIn_cons
def ada:=@PySem.AutoSeq1.wpAny_loadPart'
def adb:=@List.replicate_succ'
def adc:=@List.pairwise_append
def ade:=@List.mem_of_mem_take
def adg:=@List.getElem?_of_mem
def adh:=@PySem.wpAny_call_entry
def adi:=@Nat.testBit_two_pow
def adj:=@List.length_zipWith
def adk:=@List.filterMap_cons
def adl:=@PySem.Calls.callWith_builtin
def adm:=@Array.length_toList
def adn:=@PySem.wpAny_execs_nil
def ado:=@Int.ofNat.inj
def adp:=@Int.emod_lt_of_pos
def adq:=@PySem.F.slot_zip_next
def adr:=@if_true
def ads:=@Option.isSome_map
def adt:=@List.ext_getElem?
def adu:=@Int.not_lt
def adv:=@PySem.Heap.get?_none_of_le
def adw:=@Nat.sub_self
def adx:=@List.map_set
def ady:=@List.Nodup.length_le_of_subset
def adz:=@Nat.lt_succ_self
def adA:=@List.getElem_inj
def adB:=@List.cons_append
def adC:=@Nat.two_pow_add_eq_or_of_lt
def adD:=@List.of_mem_zip
def adE:=@List.foldl_cons
def adF:=@List.cons.injEq
def adG:=@Int.emod_nonneg
def adH:=@Int.le_of_mul_le_mul_right
def adI:=@PySem.wpAny_newObj_type
def adJ:=@Nat.testBit_or
def adK:=@List.mem_or_eq_of_mem_set
def adM:=@PySem.Calls.spliced_nil
def adN:=@Bool.false_and
def adO:=@PySem.codeAny_mono
def adP:=@PySem.F.type_list_extend
def adQ:=@PySem.F.slot_list_extend
def adR:=@List.getElem?_take_of_lt
def adS:=@List.Pairwise.imp_of_mem
def adT:=@PySem.wpAny_pyIter_zip
def adU:=@PySem.noFill_tuple_add
def adV:=@PySem.F.args_dict_get_3
def adW:=@Nat.add_sub_cancel_left
def adX:=@List.getElem?_replicate
def adY:=@Int.eq_ofNat_of_zero_le
def adZ:=@PySem.F.entry_dict_get
def ad0:=@List.pairwise_lt_range
def ad1:=@List.flatMap_singleton
def ad2:=@PySem.F.args_tuple_iterator_next_1
def ad3:=@Nat.succ_pos
def ad4:=@Nat.succ.inj
def ad5:=@Nat.add_zero
def ad6:=@List.getElem?_toArray
def ad7:=@Int.natAbs_dvd_natAbs
def ad8:=@Int.le_trans
def ad9:=@PySem.F.entry_tuple_iterator_next
def aea:=@PySem.wpAny_letOwnedTupleGo_enum
def aeb:=@List.mem_of_mem_drop
def aec:=@PySem.Calls.Name_function_global
def aed:=@Nat.mul_one
def aee:=@List.take_succ_cons
def aef:=@List.flatMap_append
def aeg:=@List.drop_succ_cons
def aeh:=@Int.mul_neg
def aei:=@true_and
def aej:=@List.pairwise_cons
def aek:=@List.mem_filterMap
def ael:=@List.getElem?_tail
def aem:=@List.getElem?_eq_some_iff
theorem za_ (h:True:=by rfl):True:=⟨⟩
theorem zb_ (h:True:=by decide):True:=⟨⟩
theorem zc_ (h:True:=by decide +kernel):True:=⟨⟩
theorem zd_ (h:True:=by first|exact .inl rfl|exact .inr rfl|assumption):True:=⟨⟩
theorem ze_ (h:True:=by with_unfolding_all rfl):True:=⟨⟩
namespace L2
open PySem PySem.Spec PyProof.Rows
variable {H:Hp} {Q:VK} {es:List Expr} {g:TG} {pos':Pos} {qual:Str} {s':Shared} {t':Nat} {tb:TS} {te ti to:TE} {tg:Expr} {u:HO} {v:V} {U:St}
abbrev Key:=Sum Int Str
def vK:Key->az->Bool
 | .inl k,v=>Value.isInt k v
 | .inr x,v=>Value.isStrOf x v
def UX (w:bz):Key->Int
 | .inl k=>hashInt k
 | .inr x=>hashStr w x
def dG:∀ {k:Key} {v:az},vK k v=true->(∃ i t,k=Sum.inl i/\v=Value.int i t)\/(∃ x t,k=Sum.inr x/\v=Value.str x t)
 | .inl i,v,h=>by
   obtain ⟨t,e⟩:=Value.isInt_shape (k:=i) (v:=v) h
   exact .inl ⟨i,t,rfl,e⟩
 | .inr x,v,h=>by
   obtain ⟨t,e⟩:=Value.isStrOf_shape (x:=x) (v:=v) h
   exact .inr ⟨x,t,rfl,e⟩
def D3 (i:Int) (t:Tok):vK (.inl i) (.int i t)=true:=by simp [vK,Value.isInt]
def DH (x:Str) (t:Tok):vK (.inr x) (.str x t)=true:=by simp [vK,Value.isStrOf]
def MF (a b:Int):decide ((Sum.inl a:Key)=Sum.inl b)=(a == b):=by
 by_cases e:a=b
 . subst e;simp
 . have h:¬ (Sum.inl a:Key)=Sum.inl b:=λ q=>e (Sum.inl.inj q)
   rw [aaq h]
   exact (abE.mpr e).symm
def LN (a b:Str):decide ((Sum.inr a:Key)=Sum.inr b)=decide (a=b):=by
 by_cases e:a=b
 . subst e;simp
 . have h:¬ (Sum.inr a:Key)=Sum.inr b:=λ q=>e (Sum.inr.inj q)
   rw [aaq h,aaq e]
def LD (a:Int) (b:Str):decide ((Sum.inl a:Key)=Sum.inr b)=false:=aaq (λ q=>nomatch q)
def KD (a:Str) (b:Int):decide ((Sum.inr a:Key)=Sum.inl b)=false:=aaq (λ q=>nomatch q)
def eL (prog:bE) (w:bz):PySem.KeyKind prog w Key where
 is:=vK
 hash:=UX w
 inj:=λ v a b d c=>by
   rcases dG d with ⟨i,t,rfl,rfl⟩|⟨x,t,rfl,rfl⟩
   . rcases dG c with ⟨j,u,rfl,e⟩|⟨y,u,rfl,e⟩
     . injection e with e1 _;rw [e1]
     . exact nomatch e
   . rcases dG c with ⟨j,u,rfl,e⟩|⟨y,u,rfl,e⟩
     . exact nomatch e
     . injection e with e1 _;rw [e1]
 byValue:=λ k v h=>by
   rcases dG h with ⟨i,t,rfl,rfl⟩|⟨x,t,rfl,rfl⟩<;>rfl
 pyHash:=λ H h=>by
   rcases dG H with ⟨i,t,rfl,rfl⟩|⟨x,t,rfl,rfl⟩
   . exact wpAny_pyHash_int h
   . exact wpAny_pyHash_str h
 eqBool:=λ f H h=>by
   rcases dG f with ⟨i,t,rfl,rfl⟩|⟨x,t,rfl,rfl⟩
   . rcases dG H with ⟨j,u,rfl,rfl⟩|⟨y,u,rfl,rfl⟩
     . rw [MF] at h;exact wpAny_eqBool_int h
     . rw [LD] at h;exact SeqAt.EqAt.int_str i t y u _ _ _ _ h
   . rcases dG H with ⟨j,u,rfl,rfl⟩|⟨y,u,rfl,rfl⟩
     . rw [KD] at h;exact SeqAt.EqAt.str_int x t j u _ _ _ _ h
     . rw [LN] at h;exact wpAny_eqBool_str h
 «strs»:=λ k x t v h=>by
   rcases dG h with ⟨i,u,rfl,e⟩|⟨y,u,rfl,e⟩
   . exact nomatch e
   . injection e with e1 _
     subst e1
     cases v<;>rfl
def zh (prog:bE) (w:bz) (i:Int) (t:Tok):(eL prog w).is (.inl i) (.int i t)=true:=D3 i t
def yE (prog:bE) (w:bz) (x:Str) (t:Tok):(eL prog w).is (.inr x) (.str x t)=true:=DH x t
inductive V where
 | cL|bl (b:Bool)|int (i:Int)|str (x:Str)|Ei (b:Array UInt8)|Kb (b:UInt64)|ref (a:am)|ty (n:String)
 deriving DecidableEq
abbrev aB:=List V
abbrev eG:=Option V
def RelV:V->az->Prop
 | .cL,u=>u=Value.none
 | .bl b,u=>u=Value.bool b
 | .int i,u=>∃ t,u=Value.int i t
 | .str x,u=>∃ t,u=Value.str x t
 | .Ei b,u=>∃ t,u=Value.bytes b t
 | .Kb b,u=>∃ t,u=Value.float b t
 | .ref a,u=>u=Value.ref a
 | .ty n,u=>u=Value.type n
abbrev Vals:aB->bM->Prop:=Paired RelV
theorem Vals.length {xs:aB} {us:bM} (r:Vals xs us):xs.length=us.length:=aca r
theorem Vals.get:∀ {xs:aB} {us:bM} {i:Nat} {x:V},Vals xs us->xs[i]?=some x->∃ u,us[i]?=some u/\RelV x u
 | _,_,_,_,.nil,e=>by simp at e
 | _,_,0,_,.cons r _,e=>by simp at e;subst e;exact ⟨_,rfl,r⟩
 | _,_,i+1,x,.cons _ t,e=>by
   obtain ⟨u,h,H⟩:=Vals.get (i:=i) (x:=x) t (by simpa using e)
   exact ⟨u,by simpa using h,H⟩
theorem Vals.set {x:V} {u:az} (r:RelV x u):∀ {xs:aB} {us:bM} (i:Nat),Vals xs us->Vals (xs.set i x) (us.set i u)
 | _,_,_,.nil => .nil
 | _,_,0,.cons _ t => .cons r t
 | _,_,i+1,.cons q t => .cons q (Vals.set r i t)
theorem Vals.append:∀ {xs ys:aB} {us w:bM},Vals xs us->Vals ys w->Vals (xs++ys) (us++w)
 | _,_,_,_,.nil,s=>s
 | _,_,_,_,.cons r t,s => .cons r (Vals.append t s)
theorem Vals.take:∀ {xs:aB} {us:bM} (n:Nat),Vals xs us->Vals (xs.take n) (us.take n)
 | _,_,0,_ => .nil
 | _,_,_+1,.nil => .nil
 | _,_,n+1,.cons r t => .cons r (Vals.take n t)
theorem Vals.drop:∀ {xs:aB} {us:bM} (n:Nat),Vals xs us->Vals (xs.drop n) (us.drop n)
 | _,_,0,r=>r
 | _,_,_+1,.nil => .nil
 | _,_,n+1,.cons _ t=>Vals.drop n t
def kX:eG->jF->Prop
 | some v,some u=>RelV v u
 | none,none=>True
 | _,_=>False
def KV {a:Type}:List (a×V)->List (a×az)->Prop:=Paired λ (p:a×V) (q:a×az)=>p.1=q.1/\RelV p.2 q.2
def kV:Key->V
 | .inl i => .int i
 | .inr x => .str x
inductive HO where
 | lst (xs:aB)
 | tup (xs:aB)
 | dK (aE:List (Key×V))|dT (aE:List (List Key×V))
 | set (S:Int->Bool) (n:Nat)
 | ins (C dx:am) (fs:List (Str×V))
 | own (x:am)
 | xd (fs:List (Str×V))
 | met (f x:am)
 | Vl (lo hi:Int)
 | Ao (o:Obj) (u:HO)
 | Ls (ps:Array az)
 | ext (φ:bG->Prop)
abbrev Hp:=am->Option HO
def upd (H:Hp) (a:am) (o:HO):Hp:=λ b=>if b=a then some o else H b
def af {a:am} {o:HO}:upd H a o a=some o:=by unfold upd;rw [aan rfl]
def aw {a b:am} {o:HO} (h:b≠a):upd H a o b=H b:=by unfold upd;rw [aap h]
def mQ {a:am} {o:HO}:upd (upd H a o) a u=upd H a u:=by
 funext b;unfold upd;split<;>rfl
def Nk {a b:am} {o:HO} (h:H a=some o) (h':H b=some u) (d:o≠u):a≠b:=by
 intro e;subst e;rw [h] at h';exact d (aao h')
def aA {a b:am} {o:HO} (h:H a=some o) (h':H b=none):a≠b:=by
 intro e;subst e;rw [h] at h';cases h'
section
variable (P:bE) (w:bz)
def dA (H:Hp) (h:bG) (a:am):HO->Prop
 | .lst xs=>xs.length<=sizeLine/\∃ (b:bM) (n:Nat),Vals xs b/\h.get? a=some { cls:=.type "list",data:=.seq b.toArray n }
 | .tup xs=>xs.length<=sizeLine/\∃ b:bM,Vals xs b/\IsTup h a b.toArray
 | .dK A=>A.length<=sizeLine/\(a == sysModules)=false/\∃ vs,KV A vs/\h.DictOf (eL P w) a vs
 | .dT A=>A.length<=sizeLine/\(a == sysModules)=false/\∃ xs:List (List Key×am×az),
     Paired (λ (p:List Key×V) (q:List Key×am×az)=>p.1=q.1/\H q.2.1=some (.tup (p.1.map kV))/\RelV p.2 q.2.2) A xs /\
     ∃ o es E,h.get? a=some o/\o.ExactDict/\o.data = .dict es E/\es.toList=xs.map (entryOfKey (tupleKind (eL P w)))/\(xs.map (·.1)).Nodup
 | .set S n=>h.SetOf (intKind P w) a S n
 | .ins C dx fs=>H dx=some (.own a)/\fs.length<=1000/\dx≠a/\h.get? a=some (W.instObj C dx) /\
     ∃ m,h.Ns1 dx m/\(∀ f,kX (fs.lookup f) (m f))/\PySem.Within m (fs.map (·.1))
 | .own _=>∃ o,h.get? a=some o
 | .xd fs=>∃ m,h.Ns1 a m/\∀ f,kX (fs.lookup f) (m f)
 | .Vl lo g=>∃ t u v,h.get? a=some { cls:=.type "range",data:=.fields #[.int lo t,.int g u,.int 1 v]}
 | .Ao o u=>h.get? a=some o/\dA H h a u
 | .Ls i=>h.get? a=some { cls:=.none,data:=.fields i }
 | .met f x=>h.get? a=some (W.methodObj (.ref f) (.ref x))
 | .ext c=>c h/\(∃ o,h.get? a=some o)/\∀ d e:bG,c d->(∀ o,d.get? a=some o->e.get? a=some o)->c e
def oJ (H:Hp) (h:bG):Prop:=∀ a o,H a=some o->dA P w H h a o
end
section
variable {P:bE} {w:bz} {H H':Hp} {h h':bG} {a:am} {o:HO}
theorem dA.lt (x:dA P w H h a o):a<h.objs.size:=by
 cases o with
 | lst X=>obtain ⟨Z,Z,Z,Z,e⟩:=x;exact aaw e
 | tup X=>obtain ⟨Z,Z,Z,p⟩:=x;exact p.lt
 | dK A=>obtain ⟨Z,Z,Z,Z,o,Z,Z,e,Z⟩:=x;exact aaw e
 | dT A=>obtain ⟨Z,Z,Z,Z,o,Z,Z,e,Z⟩:=x;exact aaw e
 | set S n=>obtain ⟨o,Z,Z,Z,e,Z⟩:=x;exact aaw e
 | ins C d F=>obtain ⟨Z,Z,Z,e,Z⟩:=x;exact aaw e
 | own y=>obtain ⟨Z,e⟩:=x;exact aaw e
 | xd F=>obtain ⟨Z,⟨Z,Z,Z,e,Z⟩,Z⟩:=x;exact aaw e
 | Vl l b=>obtain ⟨Z,Z,Z,e⟩:=x;exact aaw e
 | Ao O u=>obtain ⟨e,Z⟩:=x;exact aaw e
 | Ls c=>exact aaw (show h.get? a=some _ from x)
 | met f y=>exact aaw (show h.get? a=some _ from x)
 | ext g=>obtain ⟨Z,⟨Z,e⟩,Z⟩:=x;exact aaw e
theorem Paired.wD {c d:Type} {F G:c->d->Prop}:∀ {l₁:List c} {l₂:List d},Paired F l₁ l₂->(∀ a b,F a b->G a b)->Paired G l₁ l₂
 | _,_,.nil,_ => .nil
 | _,_,.cons r t,f => .cons (f _ _ r) (Paired.wD t f)
def dA.eE (x:dA P w H h a o) (k:∀ b u,(b=a\/H b=some (.own a))->h.get? b=some u->h'.get? b=some u) (l:∀ b,H b=some (.own a)->H' b=some (.own a)) (D:∀ b xs,H b=some (.tup xs)->H' b=some (.tup xs)):dA P w H' h' a o:=by
 induction o with
 | lst xs=>obtain ⟨z,B,n,r,e⟩:=x;exact ⟨z,B,n,r,k _ _ (.inl rfl) e⟩
 | tup xs=>obtain ⟨z,B,r,O,e,c⟩:=x;exact ⟨z,B,r,O,k _ _ (.inl rfl) e,c⟩
 | dK A=>obtain ⟨z,y,V,r,O,es,E,e,c⟩:=x;exact ⟨z,y,V,r,O,es,E,k _ _ (.inl rfl) e,c⟩
 | dT A =>
   obtain ⟨z,y,xs,r,O,es,E,e,c⟩:=x
   exact ⟨z,y,xs,Paired.wD r λ p q z=>⟨z.1,D _ _ z.2.1,z.2.2⟩,O,es,E,k _ _ (.inl rfl) e,c⟩
 | set S n=>obtain ⟨O,es,E,t,e,c⟩:=x;exact ⟨O,es,E,t,k _ _ (.inl rfl) e,c⟩
 | ins C G F =>
   obtain ⟨d,z,N,e,m,⟨g,es,E,j,c⟩,r⟩:=x
   exact ⟨l _ d,z,N,k _ _ (.inl rfl) e,m,⟨g,es,E,k _ _ (.inr d) j,c⟩,r⟩
 | own y=>obtain ⟨O,e⟩:=x;exact ⟨O,k _ _ (.inl rfl) e⟩
 | xd F=>obtain ⟨m,⟨g,es,E,e,c⟩,r⟩:=x;exact ⟨m,⟨g,es,E,k _ _ (.inl rfl) e,c⟩,r⟩
 | Vl L J=>obtain ⟨t,u,v,e⟩:=x;exact ⟨t,u,v,k _ _ (.inl rfl) e⟩
 | Ao O u I=>obtain ⟨e,q⟩:=x;exact ⟨k _ _ (.inl rfl) e,I q⟩
 | Ls i =>
   have e:h.get? a=some { cls:=.none,data:=.fields i }:=x
   show h'.get? a=some { cls:=.none,data:=.fields i }
   exact k a _ (.inl rfl) e
 | met f y =>
   have e:h.get? a=some (W.methodObj (.ref f) (.ref y)):=x
   show h'.get? a=some (W.methodObj (.ref f) (.ref y))
   exact k a _ (.inl rfl) e
 | ext K=>obtain ⟨p,⟨o,e⟩,s⟩:=x;exact ⟨s _ _ p λ o q=>k _ _ (.inl rfl) q,⟨o,k _ _ (.inl rfl) e⟩,s⟩
theorem oJ.lt (x:oJ P w H h) (e:H a=some o):a<h.objs.size:=(x a o e).lt
def oJ.fresh (x:oJ P w H h) (e:h.objs.size<=a):H a=none:=by
 cases q:H a with
 | none=>rfl
 | some u=>exact absurd (aav (x.lt q) e) (abH _)
def oJ.kept (x:oJ P w H h) (k:∀ b u,h.get? b=some u->h'.get? b=some u):oJ P w H h':=λ a o e =>
 (x a o e).eE (λ b u Z q=>k b u q) (λ Z q=>q) λ Z Z q=>q
def oJ.laid (x:oJ P w H h) (k:∀ b u,h.get? b=some u->h'.get? b=some u) (g:h.objs.size<=a) (n:dA P w (upd H a o) h' a o):oJ P w (upd H a o) h':=λ b u e=>by
 have f:=x.fresh g
 by_cases d:b=a
 . subst d;rw [af] at e;cases e;exact n
 . rw [aw d] at e
   exact (x b u e).eE (λ c v Z q=>k c v q) (λ c q=>by rw [aw (aA q f)];exact q) λ c X q=>by rw [aw (aA q f)];exact q
end
def Rd (H:Hp) (a:am) (u:HO):Prop:=H a=some u\/∃ o,H a=some (.Ao o u)
def Rd.ok {P:bE} {w:bz} {h:bG} {a:am} (r:Rd H a u) (x:oJ P w H h):dA P w H h a u:=by
 rcases r with r|⟨o,r⟩
 . exact x a u r
 . obtain ⟨Z,q⟩:=x a _ r
   exact q
def OL:Option HO->Prop
 | some (.lst _)=>True
 | some (.dK _)=>True
 | some (.dT _)=>True
 | some (.set _ _)=>True
 | some (.ins _ _ _)=>True
 | some (.ext _)=>True
 | _=>False
section
variable {P:bE} {w:bz} {H:Hp} {h h':bG} {x e:am} {o':HO}
def oJ.write (ok:oJ P w H h) (m:OL (H x)) (f:e=x\/H e=some (.own x)) (k:∀ b u,b≠e->h.get? b=some u->h'.get? b=some u) (N:∃ u,h'.get? e=some u) (n:dA P w (upd H x o') h' x o'):oJ P w (upd H x o') h':=λ b u q=>by
 have p:∀ c y,H c=some (.own y)->c≠x:=λ c y r z=>by subst z;rw [r] at m;exact m
 have W:∀ c X,H c=some (.tup X)->c≠x:=λ c X r z=>by subst z;rw [r] at m;exact m
 by_cases a:b=x
 . subst a;rw [af] at q;cases q;exact n
 .
  rw [aw a] at q
  by_cases L:b=e
  .
   have Q:H b=some (.own x):=by
     rcases f with z|z
     . exact absurd (L.trans z) a
     . rw [L];exact z
   rw [q] at Q;cases Q
   obtain ⟨v,g⟩:=N
   exact ⟨v,by rw [L];exact g⟩
  .
   refine (ok b u q).eE (λ c v d r=>k c v ?_ r) (λ c r=>by rw [aw (p c b r)];exact r) λ c X r=>by rw [aw (W c X r)];exact r
   rcases d with rfl|d
   . exact L
   . rintro rfl
     rcases f with z|z
     . exact p c b d z
     . rw [d] at z;cases z;exact a rfl
end
structure Un (fs ex:bK) (H H':Hp) (h h':bG):Prop where
 keep:∀ b o,h.get? b=some o->H b=none->b∉fs->b∉ex->h'.get? b=some o
 slot:∀ b o,h.get? b=some o->H b=none->b∈fs->b∉ex->∃ sl,h'.get? b=some { o with slots:=sl }
 free:∀ b o,h.get? b=some o->H b=none->b∉ex->H' b=none
 there:∀ b o,h.get? b=some o->b∉ex->∃ o',h'.get? b=some o'
 zP:∀ b xs,H b=some (.tup xs)->H' b=some (.tup xs)
 wO:∀ b o u,H b=some (.Ao o u)->H' b=some (.Ao o u)
 zy:∀ b ps,H b=some (.Ls ps)->∃ more,H' b=some (.Ls (ps++more))
section
variable {fs ex:bK} {H H1:Hp} {h h1 h':bG} {a x e:am} {o:HO}
def Un.any (u:Un fs ex H H1 h h1) {b:am} {o:Obj} (q:h.get? b=some o) (n:H b=none) (c:b∉ex):∃ sl,h1.get? b=some { o with slots:=sl }:=by
 by_cases a:b∈fs
 . exact u.slot b o q n a c
 . exact ⟨o.slots,u.keep b o q n a c⟩
def Un.kept (k:∀ b u,h.get? b=some u->h'.get? b=some u):Un fs ex H H h h' :=
 ⟨λ b o q Z Z Z=>k b o q,λ b o q Z Z Z=>⟨o.slots,k b o q⟩,λ Z Z Z n Z=>n,λ b o q Z=>⟨o,k b o q⟩,λ Z Z q=>q,λ Z Z Z q=>q,λ Z p q=>⟨#[],by rw [q];simp⟩⟩
def Un.refl:Un fs ex H H h h:=Un.kept λ Z Z q=>q
def Un.laid (k:∀ b u,h.get? b=some u->h'.get? b=some u) (d:h.objs.size<=a) (c:H a=none):Un fs ex H (upd H a o) h h' where
 keep:=λ b u q Z Z Z=>k b u q
 slot:=λ b u q Z Z Z=>⟨u.slots,k b u q⟩
 free:=λ b u q n Z=>by rw [aw (aaN (aav (aaw q) d))];exact n
 there:=λ b u q Z=>⟨u,k b u q⟩
 zP:=λ b x q=>by rw [aw (aA q c)];exact q
 wO:=λ b u x q=>by rw [aw (aA q c)];exact q
 zy:=λ b p q=>⟨#[],by rw [aw (aA q c),q];simp⟩
def Un.write (m:OL (H x)) (f:e=x\/H e=some (.own x)) (k:∀ b u,b≠e->h.get? b=some u->h'.get? b=some u) (N:∃ u,h'.get? e=some u):Un fs ex H (upd H x o) h h':=by
 have d:∀ b,H b=none->b≠x:=λ b n z=>by subst z;rw [n] at m;exact m
 have c:∀ b,H b=none->b≠e:=λ b n z=>by
   subst z
   rcases f with r|r
   . exact d b n r
   . rw [n] at r;cases r
 have a:∀ b u,H b=some u->¬ OL (some u)->b≠x:=λ b u q g z=>by subst z;rw [q] at m;exact g m
 refine ⟨λ b u q n Z Z=>k b u (c b n) q,λ b u q n Z Z=>⟨u.slots,k b u (c b n) q⟩,λ b u q n Z=>by rw [aw (d b n)];exact n,λ b u q Z=>?_,
   λ b X q=>by rw [aw (a b _ q λ z=>z)];exact q,λ b u X q=>by rw [aw (a b _ q λ z=>z)];exact q,λ b p q=>⟨#[],by rw [aw (a b _ q λ z=>z),q];simp⟩⟩
 by_cases L:b=e
 . subst L;exact N
 . exact ⟨u,k b u L q⟩
end
def RC (h:bG) (H:Hp):bK:=(List.range h.objs.size).filter λ a=>(H a).isSome
def wT (h:bG) (H:Hp):bG:=W.hideAll h (RC h H)
def Dv (h:bG) (H:Hp):(wT h H).objs.size=h.objs.size:=W.hideAll_size _ _
def FG {h:bG} {b:am} {o:Obj} (e:h.get? b=some o) (n:H b=none):(wT h H).get? b=some o :=
 W.hideAll_get _ e λ a=>by
   have q:(H b).isSome=true:=(aa7.mp a).2
   rw [n] at q;simp at q
def HW {h:bG} {b:am} {o:Obj} (e:(wT h H).get? b=some o):h.get? b=some o/\H b=none:=by
 have E:h.get? b=some o:=W.of_hideAll (RC h H) e
 refine ⟨E,?_⟩
 cases q:H b with
 | none=>rfl
 | some x =>
   have a:b∈RC h H:=aa7.mpr ⟨aaD.mpr (aaw E),by simp [q]⟩
   have z:(wT h H).get? b=none:=W.hideAll_none (RC h H) a
   rw [z] at e;cases e
def Ju (g h:bG) (L:am):List (am×Obj):=(List.range h.objs.size).filterMap λ a=>if a=L\/(g.get? a).isSome=true then none else (h.get? a).map λ o=>(a,o)
def rest (g h:bG) (L d:am):List (am×Obj):=(Ju g h L).filter λ p=>decide (p.1≠d)
structure Mod (K:aD) (mg:dW) (base:bG):Prop where
 N8:K.In base
 glob:base.Ns mainGlobals mg
 blt:∃ mb,base.Ns builtinsNs mb/\∀ x:Str,x ≠ "__name__"->mb x=bootBuiltins x
 nolimit:base.NoLimit
structure Cx where
 prog:bE
 w:bz
 K:aD
 mg:dW
 base:bG
 A:Around
 N:cZ
 s₀:Shared
 H₀:Hp
 env:Env
 outer:List Env
 stack:List Env
 ex:bK
 fn:Str->Bool
 calm:Bool
 pn:List (am×Obj)
 xe:az->Shared->Prop
abbrev CU (X:Cx) (e:Expr) (es:List Expr):Prop:=starEach (e::es) X.env=(false,eval e X.env)::starEach es X.env
abbrev Eu (X:Cx) (es:List Expr) (pos:Pos):Prop:=(backTo pos (starEach es X.env)).any (·.1)=false
abbrev OV (X:Cx) (x:Str):Prop:=X.fn x=true\/X.env.scope.names.lookup x=some .local
abbrev Ar (x:Str):Prop:=(x == ("__debug__" : Str))=false
def Ez (l:List Env):bK:=l.filterMap (·.frame)
abbrev Cx.fs (X:Cx):bK:=Ez X.outer
def O4 (s:Scope) (x:Str):Prop:=s.names.lookup x=some .local\/s.names.lookup x=some .cell\/s.names.lookup x=some .free
def Loc (s:Scope) (x:Str):Prop:=s.names.lookup x=some .local\/s.names.lookup x=some .cell
def Look (env:Env) (h:bG) (m:dW) (x:Str) (u:az):Prop :=
 (env.kindOf x=some .local/\m x=some u)\/((env.kindOf x=some .cell\/env.kindOf x=some .free)/\∃ c,env.cells.lookup x=some c/\h.IsCell c (some u))
structure Cx.Ok (X:Cx):Prop where
 mod:Mod X.K X.mg X.base
 kind:X.env.scope.kind = .function
 glob:X.env.globals=mainGlobals
 blt:X.env.builtins=builtinsNs
 above:X.s₀.heap.objs.size<=X.env.locals
 inj:∀ x y c,X.env.cells.lookup x=some c->X.env.cells.lookup y=some c->x=y
 has:∀ x,(X.env.kindOf x=some .cell\/X.env.kindOf x=some .free)->∃ c,X.env.cells.lookup x=some c
 Ot:∀ x c,X.fn x=true->X.env.cells.lookup x=some c->X.s₀.heap.objs.size<=c
 hd:X.calm=true->X.A.handled=none
 frames:X.A.frames=some X.stack
 Ry:X.stack=X.outer\/(X.stack=X.env::X.outer/\X.env.frame=some X.env.locals)
 Y3:∀ b∈X.ex,b≠X.env.locals/\∀ x c,X.env.cells.lookup x=some c->c≠b
 bs:∀ b o,X.base.get? b=some o->X.s₀.heap.get? b=some o/\X.H₀ b=none
 JF:X.base.objs.size<=X.s₀.heap.objs.size
 GW:∀ b o,X.base.get? b=some o->b∉X.ex
 Js:∀ b∈X.ex,b∉X.fs
 sL:X.s₀.heap.FunFrames X.base X.outer
 Mm:∀ b∈X.fs,X.H₀ b=none
structure Inv (X:Cx) (pins:List (am×Obj)) (U:List (eG)) (H:Hp) (s:Shared):Prop where
 ok:X.Ok
 os:s.os=X.s₀.os
 bare:AllBare s.gens
 base:Un X.fs X.ex X.H₀ H X.s₀.heap s.heap
 loc:∃ m,s.heap.Ns X.env.locals m/\∀ (i:Nat) (x:Str) (v:V),X.N[i]?=some x->U[i]?=some (some v)->O4 X.env.scope x->∃ u,RelV v u/\Look X.env s.heap m x u
 cell:∀ x c,X.env.cells.lookup x=some c->∃ v,s.heap.IsCell c v
 free:H X.env.locals=none
 nH:∀ x c,X.env.cells.lookup x=some c->H c=none
 pin:∀ p∈X.pn++pins,s.heap.get? p.1=some p.2/\H p.1=none/\p.1≠X.env.locals/\p.1∉X.fs/\∀ v,p.2.data ≠ .cell v
 dR:oJ X.prog X.w H s.heap
 len:U.length=X.N.length
section
variable {X:Cx} {pins:List (am×Obj)} {U:List (eG)} {H H':Hp} {s:Shared} {h':bG}
def Cx.Ok.U4 (ok:X.Ok) {b:am} {o:Obj} (e:X.base.get? b=some o):b∉X.fs:=λ h=>by
 have:=(ok.sL.mem h).1
 rw [e] at this;cases this
theorem Inv.bs (I:Inv X pins U H s):∀ b o,X.base.get? b=some o->s.heap.get? b=some o/\H b=none:=λ b o e =>
 ⟨I.base.keep b o (I.ok.bs b o e).1 (I.ok.bs b o e).2 (I.ok.U4 e) (I.ok.GW b o e),I.base.free b o (I.ok.bs b o e).1 (I.ok.bs b o e).2 (I.ok.GW b o e)⟩
def Inv.bk (I:Inv X pins U H s):∀ b o,X.base.get? b=some o->s.heap.get? b=some o:=λ b o e=>(I.bs b o e).1
theorem Inv.mod (I:Inv X pins U H s):Mod X.K X.mg X.base:=I.ok.mod
def Inv.sI (I:Inv X pins U H s):X.K.In s.heap:=I.ok.mod.N8.keeps I.bk
theorem Inv.lt (I:Inv X pins U H s):X.env.locals<s.heap.objs.size:=let ⟨_,h,_⟩:=I.loc;h.lt
def Inv.sz (I:Inv X pins U H s):X.s₀.heap.objs.size<=s.heap.objs.size:=aax I.ok.above (abY I.lt)
def Inv.WL (I:Inv X pins U H s) {a:am} (h:s.heap.objs.size<=a):a∉X.fs:=λ b=>by
 obtain ⟨Z,o,c,Z⟩:=I.ok.sL.mem b
 exact absurd (aav (aaw c) (aax I.sz h)) (abH _)
def Inv.LP (I:Inv X pins U H s):∀ x c,X.env.cells.lookup x=some c->c≠X.env.locals:=λ x c e z=>by
 obtain ⟨v,o,a,h⟩:=I.cell x c e
 obtain ⟨m,⟨O,es,E,C,u,Z⟩,Z⟩:=I.loc
 rw [z,C] at a;cases a;rw [u] at h;cases h
theorem Inv.sL (I:Inv X pins U H s):s.heap.FunFrames X.base X.outer:=by
 have all:∀ (l:List Env),(∀ b∈Ez l,b∈X.fs)->X.s₀.heap.FunFrames X.base l->s.heap.FunFrames X.base l:=by
   intro l
   induction l with
   | nil=>intro Z Z;trivial
   | cons env r n =>
     intro d i
     obtain ⟨g,⟨L,o,c,j,k,f⟩,m⟩:=i
     have h:L∈X.fs:=d L (by unfold Ez;rw [adk,c];exact aas)
     obtain ⟨sl,e⟩:=I.base.slot L o k (I.ok.Mm L h) h λ z=>I.ok.Js L z h
     exact ⟨g,⟨L,_,c,j,e,f⟩,n (λ b a=>d b (by unfold Ez;rw [adk,c];exact aai _ a)) m⟩
 exact all X.outer (λ Z a=>a) I.ok.sL
theorem Inv.stack (I:Inv X pins U H s):s.heap.FunFrames X.base X.stack:=by
 rcases I.ok.Ry with e|⟨e,h⟩
 . rw [e];exact I.sL
 .
  rw [e]
  obtain ⟨m,a,Z⟩:=I.loc
  refine .cons (by rw [I.ok.kind];decide) h a ?_ I.sL
  exact adv (aax I.ok.JF I.ok.above)
def Inv.BA (I:Inv X pins U H s):∀ b∈Ez X.stack,b∈X.env.locals::X.fs:=λ b h=>by
 rcases I.ok.Ry with e|⟨e,a⟩
 . rw [e] at h;exact aai _ h
 .
  rw [e] at h
  unfold Ez at h
  rw [adk,a] at h
  exact h
def Inv.Ce (I:Inv X pins U H s):∀ b∈Ez X.stack,H b=none:=λ b h=>by
 rcases aaa.mp (I.BA b h) with e|h
 . rw [e];exact I.free
 . obtain ⟨Z,o,a,Z⟩:=I.ok.sL.mem h
   exact I.base.free b o a (I.ok.Mm b h) λ z=>I.ok.Js b z h
def Inv.step {g':Array GenState} {t':Nat} {d':Drawn} {ch:bK} (I:Inv X pins U H s) (W:∀ b∈ch,(b∈X.ex\/X.s₀.heap.objs.size<=b)/\b≠X.env.locals/\(∀ x c,X.env.cells.lookup x=some c->c≠b)/\∀ p∈X.pn++pins,p.1≠b) (K:∀ b o,b≠X.env.locals->b∉X.fs->b∉ch->s.heap.get? b=some o->H b=none->h'.get? b=some o) (S:∀ b o,b≠X.env.locals->b∈X.fs->b∉ch->s.heap.get? b=some o->H b=none->∃ sl,h'.get? b=some { o with slots:=sl }) (f:∀ b o,b∉ch->s.heap.get? b=some o->H b=none->H' b=none) (t:∀ b o,b∉ch->s.heap.get? b=some o->∃ O,h'.get? b=some O) (zP:∀ b xs,H b=some (.tup xs)->H' b=some (.tup xs)) (wO:∀ b o u,H b=some (.Ao o u)->H' b=some (.Ao o u)) (zy:∀ b y,H b=some (.Ls y)->∃ M,H' b=some (.Ls (y++M))) (ns:∀ m,s.heap.Ns X.env.locals m->h'.Ns X.env.locals m) (L:oJ X.prog X.w H' h') (T:AllBare g') :
   Inv X pins U H' { s with heap:=h',gens:=g',drawn:=d',toks:=t' }:=by
 have D:∀ b o,X.s₀.heap.get? b=some o->b≠X.env.locals:=λ b o e=>aaN (aav (aaw e) I.ok.above)
 have R:∀ b o,X.s₀.heap.get? b=some o->b∉X.ex->b∉ch:=λ b o e h a=>by
   rcases (W b a).1 with z|z
   . exact h z
   . exact absurd (aav (aaw e) z) (abH _)
 have C:∀ x c,X.env.cells.lookup x=some c->∀ v,s.heap.IsCell c v->h'.IsCell c v:=λ x c e v ⟨o,g,A⟩=>by
   have N:c∉ch:=λ z=>(W c z).2.2.1 x c e rfl
   by_cases F:c∈X.fs
   . obtain ⟨sl,q⟩:=S c o (I.LP x c e) F N g (I.nH x c e)
     exact ⟨_,q,A⟩
   . exact ⟨o,K c o (I.LP x c e) F N g (I.nH x c e),A⟩
 refine ⟨I.ok,I.os,T,⟨λ b o e n a h=>?_,λ b o e n a h=>?_,λ b o e n h=>?_,λ b o e h=>?_,λ b xs e=>zP b xs (I.base.zP b xs e),λ b o xs e=>wO b o xs (I.base.wO b o xs e),λ b y e=>?_⟩,?_,λ x c e=>?_,?_,λ x c e=>?_,λ p G=>?_,L,I.len⟩
 . exact K b o (D b o e) a (R b o e h) (I.base.keep b o e n a h) (I.base.free b o e n h)
 . obtain ⟨sl,E⟩:=I.base.slot b o e n a h
   obtain ⟨B,j⟩:=S b _ (D b o e) a (R b o e h) E (I.base.free b o e n h)
   exact ⟨B,j⟩
 . obtain ⟨O,E⟩:=I.base.there b o e h
   exact f b O (R b o e h) E (I.base.free b o e n h)
 . obtain ⟨O,E⟩:=I.base.there b o e h
   exact t b O (R b o e h) E
 . obtain ⟨m1,E⟩:=I.base.zy b y e
   obtain ⟨m2,j⟩:=zy b _ E
   exact ⟨m1++m2,by rw [j,Array.append_assoc]⟩
 .
  obtain ⟨m,Y,V⟩:=I.loc
  refine ⟨m,ns m Y,λ i x v E j Q=>?_⟩
  obtain ⟨u,r,l⟩:=V i x v E j Q
  refine ⟨u,r,?_⟩
  rcases l with l|⟨k,c,e,z⟩
  . exact .inl l
  . exact .inr ⟨k,c,e,C x c e _ z⟩
 . obtain ⟨v,z⟩:=I.cell x c e
   exact ⟨v,C x c e v z⟩
 . obtain ⟨m,⟨o,Z,Z,g,Z⟩,Z⟩:=I.loc
   exact f _ o (λ z=>(W _ z).2.1 rfl) g I.free
 . obtain ⟨v,o,g,A⟩:=I.cell x c e
   exact f c o (λ z=>(W c z).2.2.1 x c e rfl) g (I.nH x c e)
 . obtain ⟨e,n,J,nf,d⟩:=I.pin p G
   have N:p.1∉ch:=λ z=>(W p.1 z).2.2.2 p G rfl
   exact ⟨K p.1 p.2 J nf N e n,f p.1 p.2 N e n,J,nf,d⟩
def Inv.un {t':Nat} (I:Inv X pins U H s) (u:Un X.fs [] H H' s.heap h') (d:oJ X.prog X.w H' h'):Inv X pins U H' { s with heap:=h',toks:=t' }:=by
 obtain ⟨m,⟨o,es,E,a,r⟩,Z⟩:=id I.loc
 obtain ⟨sl,c⟩:=u.any a I.free (by simp)
 exact I.step (g':=s.gens) (d':=s.drawn) (ch:=[]) (λ Z z=>nomatch z) (λ b o Z h Z e n=>u.keep b o e n h (by simp)) (λ b o Z h Z e n=>u.slot b o e n h (by simp)) (λ b o Z e n=>u.free b o e n (by simp)) (λ b o Z e=>u.there b o e (by simp)) u.zP u.wO u.zy (λ M f=>by
   obtain ⟨O,V,T,C,R⟩:=f
   rw [a] at C;cases C
   exact ⟨_,V,T,c,R⟩) d I.bare
def Inv.call {g':Array GenState} {t':Nat} {d':Drawn} {ch:bK} (I:Inv X pins U H s) (u:Un (Ez X.stack) ch H H' s.heap h') (D:oJ X.prog X.w H' h') (g:AllBare g') (W:∀ b∈ch,(b∈X.ex\/X.s₀.heap.objs.size<=b)/\b≠X.env.locals/\(∀ x c,X.env.cells.lookup x=some c->c≠b)/\∀ p∈X.pn++pins,p.1≠b) :
   Inv X pins U H' { s with heap:=h',gens:=g',drawn:=d',toks:=t' }:=by
 obtain ⟨m,⟨o,es,E,d,r⟩,Z⟩:=id I.loc
 obtain ⟨sl,a⟩:=u.any d I.free λ z=>(W _ z).2.1 rfl
 exact I.step (ch:=ch) W (λ b o a f h e n=>u.keep b o e n (λ z=>(aaa.mp (I.BA b z)).elim a f) h) (λ b o Z Z h e n=>u.any e n h) (λ b o h e n=>u.free b o e n h) (λ b o h e=>u.there b o e h) u.zP u.wO u.zy (λ M i=>by
   obtain ⟨O,V,T,C,R⟩:=i
   rw [d] at C;cases C
   exact ⟨_,V,T,a,R⟩) D g
def Inv.turned {t':Nat} {i:am} (I:Inv X pins U H s) (k:∀ b o,b≠i->s.heap.get? b=some o->h'.get? b=some o) (t:H i=none) (a:i≠X.env.locals) (d:i∈X.ex\/X.s₀.heap.objs.size<=i) (f:∀ x c,X.env.cells.lookup x=some c->c≠i) (g:∀ p∈X.pn++pins,p.1≠i):Inv X pins U H { s with heap:=h',toks:=t' }:=by
 have Y:∀ b u,H b=some u->b≠i:=λ b u e z=>by rw [z,t] at e;cases e
 refine I.step (g':=s.gens) (d':=s.drawn) (ch:=[i]) (λ b j=>?_) (λ b o Z Z h e Z=>k b o (λ z=>h (by simp [z])) e) (λ b o Z Z h e Z=>⟨o.slots,k b o (λ z=>h (by simp [z])) e⟩) (λ Z Z Z Z n=>n)
   (λ b o h e=>⟨o,k b o (λ z=>h (by simp [z])) e⟩) (λ Z Z e=>e) (λ Z Z Z e=>e) (λ b y e=>⟨#[],by rw [e];simp⟩) (λ m l=>?_) (λ b u e=>?_) I.bare
 . have e:b=i:=by simpa using j
   subst e
   exact ⟨d,a,f,g⟩
 . obtain ⟨o,es,E,w,r⟩:=l
   exact ⟨o,es,E,k _ o (acy a) w,r⟩
 .
  refine (I.dR b u e).eE (λ c v h q=>k c v ?_ q) (λ Z q=>q) λ Z Z q=>q
  rcases h with z|z
  . rw [z];exact Y b u e
  . exact Y c _ z
def Inv.tok (I:Inv X pins U H s) (t:Nat):Inv X pins U H { s with toks:=t }:=I.un (h':=s.heap) (t':=t) Un.refl I.dR
theorem Inv.kept {t':Nat} (I:Inv X pins U H s) (k:∀ b u,s.heap.get? b=some u->h'.get? b=some u):Inv X pins U H { s with heap:=h',toks:=t' }:=I.un (Un.kept k) (I.dR.kept k)
theorem Inv.laid {a:am} {o:HO} {t':Nat} (I:Inv X pins U H s) (k:∀ b u,s.heap.get? b=some u->h'.get? b=some u) (h:s.heap.objs.size<=a) (n:dA X.prog X.w (upd H a o) h' a o) :
   Inv X pins U (upd H a o) { s with heap:=h',toks:=t' }:=I.un (Un.laid k h (I.dR.fresh h)) (I.dR.laid k h n)
theorem Inv.write {x e:am} {o:HO} {t':Nat} (I:Inv X pins U H s) (m:OL (H x)) (h:e=x\/H e=some (.own x)) (k:∀ b u,b≠e->s.heap.get? b=some u->h'.get? b=some u) (N:∃ u,h'.get? e=some u) (n:dA X.prog X.w (upd H x o) h' x o):Inv X pins U (upd H x o) { s with heap:=h',toks:=t' }:=I.un (Un.write m h k N) (I.dR.write m h k N n)
def Inv.BU {J:List (am×Obj)} (I:Inv X pins U H s) (h:∀ p∈J,s.heap.get? p.1=some p.2/\H p.1=none/\p.1≠X.env.locals/\p.1∉X.fs/\∀ v,p.2.data ≠ .cell v):Inv X J U H s :=
 ⟨I.ok,I.os,I.bare,I.base,I.loc,I.cell,I.free,I.nH,λ p a=>(aau.mp a).elim (λ z=>I.pin p (aaU _ z)) (h p),I.dR,I.len⟩
def zx {N:cZ} (h:N.Nodup) {i j:Nat} {x:Str} (a:N[i]?=some x) (b:N[j]?=some x):i=j:=by
 obtain ⟨H,e⟩:=Bj.mp a
 obtain ⟨c,E⟩:=Bj.mp b
 exact (adA h).mp (e.trans E.symm)
def wa {M:Model} {A:Around} {E:az->Shared->Prop} {i:Nat} {x:Str} {u:az} {Q:Unit->Shared->Prop} (I:Inv X pins U H s) (hN:X.N.Nodup) (J:X.N[i]?=some x) (B:Loc X.env.scope x) (r:RelV v u) (h:∀ s',Inv X pins (U.set i (some v)) H s'->(∃ a,Heap.SameBut a s.heap s'.heap/\(a=X.env.locals\/X.env.cells.lookup x=some a))->Q () s') (hf:autoParam (OV X x) zd_._auto_1):wpAny M A (storeName X.env x u) Q E s:=by
 obtain ⟨m,S,hl⟩:=id I.loc
 have Wv:(X.env.scope.kind == .class || (X.env.scope.kind == .module && X.env.locals != X.env.globals))=false:=by rw [I.ok.kind];rfl
 have YW:i<U.length:=by rw [I.len];exact (Bj.mp J).1
 have O:=I.LP
 have t:∀ {a:am} {h':bG},(∃ o,s.heap.get? a=some o/\H a=none)->Heap.SameBut a s.heap h'->oJ X.prog X.w H h':=λ {a h'} ha f b ob e=>by
   obtain ⟨Z,Z,jT⟩:=ha
   refine (I.dR b ob e).eE (λ c W l q=>(f.2 c ?_).trans q) (λ Z q=>q) λ Z Z q=>q
   rintro rfl
   rcases l with rfl|l
   . rw [jT] at e;cases e
   . rw [jT] at l;cases l
 rcases B with D|D
 .
  refine wpAny_storeName_local D S (λ h' V f=>?_) Wv
  obtain ⟨oL,Z,Z,Y,Z⟩:=id S
  refine h _ ⟨I.ok,I.os,I.bare,⟨λ b o e n F B=>?_,λ b o e n F B=>?_,I.base.free,λ b o e B=>?_,I.base.zP,I.base.wO,I.base.zy⟩,⟨_,V,λ j y v' g C R=>?_⟩,λ y c e=>?_,I.free,I.nH,λ p hp=>?_,t ⟨oL,Y,I.free⟩ f,by simpa using I.len⟩ ⟨_,f,.inl rfl⟩
  . exact (f.2 b (aaN (aav (aaw e) I.ok.above))).trans (I.base.keep b o e n F B)
  . obtain ⟨sl,g⟩:=I.base.slot b o e n F B
    exact ⟨sl,(f.2 b (aaN (aav (aaw e) I.ok.above))).trans g⟩
  . obtain ⟨o',g⟩:=I.base.there b o e B
    exact ⟨o',(f.2 b (aaN (aav (aaw e) I.ok.above))).trans g⟩
  .
   by_cases G:j=i
   . subst G
     rw [J] at g;cases g
     rw [abU YW] at C
     cases C
     exact ⟨u,r,.inl ⟨D,by simp⟩⟩
   .
    rw [ab5 (acy G)] at C
    obtain ⟨u',r',q⟩:=hl j y v' g C R
    refine ⟨u',r',?_⟩
    rcases q with ⟨k,e⟩|⟨k,c,e,z⟩
    . refine .inl ⟨k,?_⟩
      have:y≠x:=λ e=>G (zx hN g (e ▸ J))
      simp [this,e]
    . exact .inr ⟨k,c,e,z.sameBut f (O y c e)⟩
  . obtain ⟨W,z⟩:=I.cell y c e
    exact ⟨W,z.sameBut f (O y c e)⟩
  . obtain ⟨e,n,L,nf,d⟩:=I.pin p hp
    exact ⟨(f.2 p.1 L).trans e,n,L,nf,d⟩
 .
  have T:X.fn x=true:=by
    rcases hf with z|z
    . exact z
    . rw [z] at D;cases D
  obtain ⟨c,l⟩:=I.ok.has x (.inl D)
  obtain ⟨W,z⟩:=I.cell x c l
  refine wpAny_storeName_cell I.ok.kind D l z (λ h' xu f=>?_)
  obtain ⟨oc,YO,Xm⟩:=id z
  refine h { s with heap:=h' } ⟨I.ok,I.os,I.bare,⟨λ b o e n F B=>?_,λ b o e n F B=>?_,I.base.free,λ b o e B=>?_,I.base.zP,I.base.wO,I.base.zy⟩,⟨m,S.sameBut f (acy (O x c l)),λ j y v' g C R=>?_⟩,λ y K e=>?_,I.free,I.nH,λ p hp=>?_,t ⟨oc,YO,I.nH x c l⟩ f,by simpa using I.len⟩ ⟨c,f,.inr l⟩
  . exact (f.2 b (aaN (aav (aaw e) (I.ok.Ot x c T l)))).trans (I.base.keep b o e n F B)
  . obtain ⟨sl,g⟩:=I.base.slot b o e n F B
    exact ⟨sl,(f.2 b (aaN (aav (aaw e) (I.ok.Ot x c T l)))).trans g⟩
  . obtain ⟨o',g⟩:=I.base.there b o e B
    exact ⟨o',(f.2 b (aaN (aav (aaw e) (I.ok.Ot x c T l)))).trans g⟩
  .
   by_cases G:j=i
   . subst G
     rw [J] at g;cases g
     rw [abU YW] at C
     cases C
     exact ⟨u,r,.inr ⟨.inl D,c,l,xu⟩⟩
   .
    rw [ab5 (acy G)] at C
    obtain ⟨u',r',q⟩:=hl j y v' g C R
    refine ⟨u',r',?_⟩
    rcases q with q|⟨k,K,e,z'⟩
    . exact .inl q
    . refine .inr ⟨k,K,e,z'.sameBut f ?_⟩
      rintro rfl
      exact G (zx hN g (I.ok.inj _ _ _ e l ▸ J))
  . by_cases Zo:K=c
    . subst Zo;exact ⟨_,xu⟩
    . obtain ⟨w2,z2⟩:=I.cell y K e
      exact ⟨w2,z2.sameBut f Zo⟩
  .
   obtain ⟨e,n,L,nf,d⟩:=I.pin p hp
   refine ⟨(f.2 p.1 ?_).trans e,n,L,nf,d⟩
   intro q
   rw [q,YO] at e
   have q':oc=p.2:=aao e
   exact d W (by rw [<- q'];exact Xm)
def uq {M:Model} {A:Around} {E:az->Shared->Prop} {i:Nat} {x:Str} {u:az} {Q:Unit->Shared->Prop} (I:Inv X pins U H s) (b:X.N.Nodup) (d:X.N[i]?=some x) (e:Loc X.env.scope x) (r:RelV v u) (h:∀ s',Inv X pins (U.set i (some v)) H s'->Q () s') (c:autoParam (OV X x) zd_._auto_1):wpAny M A (storeName X.env x u) Q E s :=
 wa I b d e r (λ s' a Z=>h s' a) c
def Inv.Pu {ch:bK} (I:Inv X pins U H s) (a:s'.os=s.os) (u:Un (Ez X.stack) ch H H' s.heap s'.heap) (D:oJ X.prog X.w H' s'.heap) (h:AllBare s'.gens) (W:∀ b∈ch,(b∈X.ex\/X.s₀.heap.objs.size<=b)/\b≠X.env.locals/\(∀ x c,X.env.cells.lookup x=some c->c≠b)/\∀ p∈X.pn++pins,p.1≠b):Inv X pins U H' s':=by
 obtain ⟨h',g,d,t',o⟩:=s'
 have e:o=s.os:=a
 subst e
 exact I.call (g':=g) (t':=t') (d':=d) u D h W
end
abbrev XK:=az->Option am->Hp->Prop
abbrev St:=List (eG)
abbrev VK:=V->Hp->Prop
abbrev TE:=St->Hp->VK->Prop
abbrev TT:=St->Hp->(Bool->Hp->Prop)->Prop
abbrev TA:=St->Hp->(aB->Hp->Prop)->Prop
structure Ends where
 nx:St->Hp->Prop
 rt:VK
 bk:St->Hp->Prop:=λ _ _=>False
 ct:St->Hp->Prop:=λ _ _=>False
abbrev TS:=Ends->St->Hp->Prop
inductive EP (X:Cx) (pins:List (am×Obj)) (U:St) (Q:VK) (u:az) (s':Shared):Prop|mk (v:V) (H':Hp) (_:Inv X pins U H' s') (_:RelV v u) (_:Q v H')
def TP (X:Cx) (p:List (am×Obj)) (U:St) (Q:Bool->Hp->Prop) (b:Bool) (s':Shared):Prop:=∃ H,Inv X p U H s'/\Q b H
inductive AP (X:Cx) (pins:List (am×Obj)) (U:St) (Q:aB->Hp->Prop) (us:bM) (s':Shared):Prop|mk (vs:aB) (H':Hp) (_:Inv X pins U H' s') (_:Vals vs us) (_:Q vs H')
def SP (X:Cx) (p:List (am×Obj)) (D:Ends) (f:Flow) (s':Shared):Prop :=
 match f with
 | .next=>∃ a H,Inv X p a H s'/\D.nx a H
 | .brk=>∃ a H,Inv X p a H s'/\D.bk a H
 | .cont=>∃ a H,Inv X p a H s'/\D.ct a H
 | .ret u=>∃ v a H,Inv X p a H s'/\RelV v u/\D.rt v H
def PE (X:Cx) (e:Expr) (t:TE):Prop :=
 ∀ (p:List (am×Obj)) (s:Shared) (U:St) (H:Hp) (Q:VK),Inv X p U H s->t U H Q->wpAny (model X.prog X.w) X.A (eval e X.env) (EP X p U Q) X.xe s
def PT (X:Cx) (e:Expr) (t:TT):Prop :=
 ∀ (p:List (am×Obj)) (s:Shared) (U:St) (H:Hp) (Q:Bool->Hp->Prop),Inv X p U H s->t U H Q->wpAny (model X.prog X.w) X.A (isTrue e X.env (eval e X.env)) (TP X p U Q) X.xe s
def PW (X:Cx) (e:Expr) (t:TT):Prop :=
 ∀ (W:Sem az) (p:List (am×Obj)) (s:Shared) (U:St) (H:Hp) (Q:Bool->Hp->Prop),Inv X p U H s->t U H Q->wpAny (model X.prog X.w) X.A (isTrue e X.env W) (TP X p U Q) X.xe s
def PW.pt {X:Cx} {e:Expr} {t:TT} (h:PW X e t):PT X e t:=h _
def PA (X:Cx) (es:List Expr) (t:TA):Prop :=
 ∀ (a:Pos) (p:List (am×Obj)) (s:Shared) (U:St) (H:Hp) (Q:aB->Hp->Prop),Inv X p U H s->t U H Q->wpAny (model X.prog X.w) X.A (spliced (backTo a (starEach es X.env))) (AP X p U Q) X.xe s
def PS (X:Cx) (st:Stmt) (t:TS):Prop :=
 ∀ (p:List (am×Obj)) (s:Shared) (U:St) (H:Hp) (D:Ends),Inv X p U H s->t D U H->wpAny (model X.prog X.w) X.A (exec st X.env) (SP X p D) X.xe s
def vH (X:Cx) (st:List Stmt) (t:TS):Prop :=
 ∀ (p:List (am×Obj)) (s:Shared) (U:St) (H:Hp) (D:Ends),Inv X p U H s->t D U H->wpAny (model X.prog X.w) X.A (execs st X.env) (SP X p D) X.xe s
def cU {b:Type} {t:Sem b} {Q q:b->Shared->Prop} {M:Model} {A:Around} {E:az->Shared->Prop} {s:Shared} (h:wpAny M A t Q E s) (H:∀ a s,Q a s->q a s):wpAny M A t q E s:=abx h H λ Z Z x=>x
section
variable {X:Cx}
inductive N0 (i:Nat) (U:St) (H:Hp) (Q:VK):Prop|mk (v:_) (_:U[i]?=some (some v)) (_:Q v H)
def tC (v:V):TE:=λ Z H Q=>Q v H
def LC {i:Nat} {x:Str} {d:Pos} (k:X.N[i]?=some x) (t:O4 X.env.scope x) (b:autoParam (Ar x) zb_._auto_1) (A:autoParam ((x == ("__classdict__" : Str))=false) zb_._auto_1):PE X (.Name x d) (N0 i):=by
 intro p s U H Q I h
 obtain ⟨v,e,h⟩:=h
 obtain ⟨m,q,n⟩:=I.loc
 obtain ⟨u,r,l⟩:=n i x v k e t
 have f:EP X p U Q u s:=⟨v,H,I,r,h⟩
 rcases l with ⟨a,o⟩|⟨a,c,j,g⟩
 . exact wpAny_Name (wpAny_loadName_local I.ok.kind a q o f) b
 . rcases a with a|a
   . exact wpAny_Name (wpAny_loadName_cell I.ok.kind a j g f) b
   . exact wpAny_Name (wpAny_loadName_free I.ok.kind a j g f A) b
def ac {i j p}:PE X (.Constant (.int i) j p) (tC (.int i)):=λ Z Z Z H Z I h=>wpAny_Constant_int ⟨.int i,H,I.tok _,⟨_,rfl⟩,h⟩
def fX {b j p}:PE X (.Constant (.bool b) j p) (tC (.bl b)):=λ Z Z Z H Z I h=>Constant_bool ⟨.bl b,H,I,rfl,h⟩
def c5 {j p}:PE X (.Constant .none j p) (tC .cL):=λ Z Z Z H Z I h=>Constant_none ⟨.cL,H,I,rfl,h⟩
def Gl (X:Cx) (x:Str):Prop:=X.env.kindOf x=some .globalImplicit
def ye {E:az->Shared->Prop} {p:List (am×Obj)} {s:Shared} {x:Str} {u:az} {a:Pos} {Q:az->Shared->Prop} (I:Inv X p U H s) (c:Gl X x) (d:X.mg x=some u) (h:Q u s) (b:autoParam (Ar x) zb_._auto_1):wpAny (model X.prog X.w) X.A (eval (.Name x a) X.env) Q E s :=
 aec I.ok.kind c (Calls.loadGlobal_global (by rw [I.ok.glob];exact I.mod.glob.keeps I.bk) d h) b
def jB {E:az->Shared->Prop} {p:List (am×Obj)} {s:Shared} {x:Str} {u:az} {a:Pos} {Q:az->Shared->Prop} (I:Inv X p U H s) (e:Gl X x) (f:X.mg x=none) (i:bootBuiltins x=some u) (h:Q u s) (g:autoParam (x ≠ "__name__") zb_._auto_1) (d:autoParam (Ar x) zb_._auto_1):wpAny (model X.prog X.w) X.A (eval (.Name x a) X.env) Q E s:=by
 obtain ⟨m,b,c⟩:=I.mod.blt
 exact aec I.ok.kind e (Calls.loadGlobal_builtin (by rw [I.ok.glob];exact I.mod.glob.keeps I.bk) f (by rw [I.ok.blt];exact b.keeps I.bk) ((c x g).trans i) h) d
def g8 {x:Str} {u:az} {p:Pos} (b:Gl X x) (c:X.mg x=some u) (r:RelV v u) (a:autoParam (Ar x) zb_._auto_1):PE X (.Name x p) (tC v) :=
 λ Z Z Z H Z I h=>ye I b c ⟨v,H,I,r,h⟩ a
def CC {x:Str} {u:az} {p:Pos} (b:Gl X x) (c:X.mg x=none) (e:bootBuiltins x=some u) (r:RelV v u) (d:autoParam (x ≠ "__name__") zb_._auto_1) (a:autoParam (Ar x) zb_._auto_1):PE X (.Name x p) (tC v) :=
 λ Z Z Z H Z I h=>jB I b c e ⟨v,H,I,r,h⟩ d a
variable {a b:Expr} {ta tb:TE} {pos:Pos}
def tB (t:TE):TT:=λ U H Q=>t U H λ x h=>∃ c,x = .bl c/\Q c h
def cP {e:Expr} {t:TE} (h:PE X e t) (b:∀ w,isTrue e X.env w=(do let v <- w;standAt e.pos;holding [v] (truthy v)):=by intro Z;rfl):PT X e (tB t):=by
 intro p s U H Q I c
 refine isTrue_plain (cU (h p s U H _ I c) λ v S ⟨x,a,i,r,f⟩=>?_) (b _)
 obtain ⟨d,rfl,q⟩:=f
 cases r
 exact abw ⟨a,i,q⟩
variable {tA Rx:TT} {rest:List Expr}
def UV (t u:TT):TT:=λ U H Q=>t U H λ c h=>if c=true then u U h Q else Q false h
def tOr (t u:TT):TT:=λ U H Q=>t U H λ c h=>if c=true then Q true h else u U h Q
def Vi (t:TT):TT:=λ U H Q=>t U H λ c h=>Q (!c) h
def mV (b:PT X a tA):PW X (.BoolOp .And [a] pos) tA:=by
 intro w p s U H Q I h
 refine isTrue_and (cU (b p s U H Q I h) λ c S e=>?_)
 cases c with
 | true=>exact isTrue_and_nil e
 | false=>exact e
def oA (b:PT X a tA):PW X (.BoolOp .Or [a] pos) tA:=by
 intro w p s U H Q I h
 refine isTrue_or (cU (b p s U H Q I h) λ c S e=>?_)
 cases c with
 | false=>exact isTrue_or_nil e
 | true=>exact e
def qZ (e:PT X a tA) (f:PW X (.BoolOp .And (b::rest) pos) Rx):PW X (.BoolOp .And (a::b::rest) pos) (UV tA Rx):=by
 intro w p s U H Q I h
 refine isTrue_and (cU (e p s U H _ I h) λ c S ⟨d,i,q⟩=>?_)
 cases c with
 | true=>exact f w p S U d Q i q
 | false=>exact ⟨d,i,q⟩
def rD (e:PT X a tA) (f:PW X (.BoolOp .Or (b::rest) pos) Rx):PW X (.BoolOp .Or (a::b::rest) pos) (tOr tA Rx):=by
 intro w p s U H Q I h
 refine isTrue_or (cU (e p s U H _ I h) λ c S ⟨d,i,q⟩=>?_)
 cases c with
 | true=>exact ⟨d,i,q⟩
 | false=>exact f w p S U d Q i q
def eK (d:PT X a tA):PT X (.UnaryOp .Not a pos) (Vi tA):=by
 intro p s U H Q I h
 exact isTrue_not (d p s U H (λ c b=>Q (!c) b) I h)
def OU (t tb:TE):TE:=λ U H Q=>t U H λ x h=>∃ c,x = .bl c/\if c=true then tb U h Q else Q (.bl false) h
def V3 (t tb:TE):TE:=λ U H Q=>t U H λ x h=>∃ c,x = .bl c/\if c=true then Q (.bl true) h else tb U h Q
def Ri (t:TE):TE:=λ U H Q=>t U H λ x h=>∃ c,x = .bl c/\Q (.bl (!c)) h
def qS {o} {t:TE} (h:PE X a t):PE X (.BoolOp o [a] pos) t:=λ p s U H Q I b=>BoolOp_one (h p s U H Q I b)
def tR (e:PE X a ta) (f:PE X (.BoolOp .And (b::rest) pos) tb):PE X (.BoolOp .And (a::b::rest) pos) (OU ta tb):=by
 intro p s U H Q I h
 refine BoolOp_and (cU (e p s U H _ I h) λ v S ⟨x,d,i,r,q⟩=>?_)
 obtain ⟨c,rfl,q⟩:=q
 cases r
 refine abw ?_
 cases c with
 | true=>exact f p S U d Q i q
 | false=>exact ⟨.bl false,d,i,rfl,q⟩
def Ki (e:PE X a ta) (f:PE X (.BoolOp .Or (b::rest) pos) tb):PE X (.BoolOp .Or (a::b::rest) pos) (V3 ta tb):=by
 intro p s U H Q I h
 refine BoolOp_or (cU (e p s U H _ I h) λ v S ⟨x,d,i,r,q⟩=>?_)
 obtain ⟨c,rfl,q⟩:=q
 cases r
 refine abw ?_
 cases c with
 | false=>exact f p S U d Q i q
 | true=>exact ⟨.bl true,d,i,rfl,q⟩
def uj (d:PE X a ta):PE X (.UnaryOp .Not a pos) (Ri ta):=by
 intro p s U H Q I h
 refine UnaryOp_ (cU (d p s U H _ I h) λ v S ⟨x,b,i,r,q⟩=>?_)
 obtain ⟨c,rfl,q⟩:=q
 cases r
 exact not_of (abw ⟨.bl (!c),b,i,rfl,q⟩)
def tIf (t:TT) (T tb:TE):TE:=λ U H Q=>t U H λ c h=>if c=true then T U h Q else tb U h Q
def uz {c:Expr} (j:PT X c tA) (f:PE X a ta) (g:PE X b tb):PE X (.IfExp c a b pos) (tIf tA ta tb):=by
 intro p s U H Q I h
 refine wpAny_IfExp (cU (j p s U H _ I h) λ d S ⟨e,i,q⟩=>?_)
 cases d with
 | true=>exact f p S U e Q i q
 | false=>exact g p S U e Q i q
end
def aT (K:aD) (H:Hp) (a:am) (xs:aB):Prop :=
 Rd H a (.lst xs) \/
   ∃ (o:Obj) (b:Array az) (n:Nat),K.lookup a=some o/\o.cls = .type "list"/\o.dict=none/\o.data = .seq b n/\b.size<=sizeLine/\Vals xs b.toList
def bY (K:aD) (H:Hp) (a:am) (xs:aB):Prop :=
 Rd H a (.tup xs) \/
   ∃ (o:Obj) (b:Array az) (n:Nat),K.lookup a=some o/\o.cls = .type "tuple"/\o.data = .seq b n/\b.size<=sizeLine/\Vals xs b.toList
def Vs:az->eG
 | .none=>some .cL
 | .bool b=>some (.bl b)
 | .int i _=>some (.int i)
 | .str x _=>some (.str x)
 | .bytes b _=>some (.Ei b)
 | .float b _=>some (.Kb b)
 | .ref a=>some (.ref a)
 | .type n=>some (.ty n)
 | _=>none
def RelV.abs {x:V} {u:az} (r:RelV x u):Vs u=some x:=by
 cases x with
 | cL=>cases r;rfl
 | bl _=>cases r;rfl
 | int _=>obtain ⟨t,rfl⟩:=r;rfl
 | str _=>obtain ⟨t,rfl⟩:=r;rfl
 | Ei _=>obtain ⟨t,rfl⟩:=r;rfl
 | Kb _=>obtain ⟨t,rfl⟩:=r;rfl
 | ref _=>cases r;rfl
 | ty _=>cases r;rfl
def RelV.inj {x y:V} {u:az} (r:RelV x u) (q:RelV y u):x=y:=aao (r.abs.symm.trans q.abs)
theorem Vals.inj:∀ {xs ys:aB} {us:bM},Vals xs us->Vals ys us->xs=ys
 | _,_,_,.nil,.nil=>rfl
 | _,_,_,.cons r t,.cons R t'=>by rw [r.inj R,Vals.inj t t']
section
variable {X:Cx} {pins:List (am×Obj)} {U:St} {H:Hp} {s:Shared} {a:am} {xs ys:aB}
def aT.of {K:aD} (h:H a=some (.lst xs)):aT K H a xs:=.inl (.inl h)
def bY.of {K:aD} (h:H a=some (.tup xs)):bY K H a xs:=.inl (.inl h)
def Inv.list (I:Inv X pins U H s) (h:aT X.K H a xs):∃ b:bM,Vals xs b/\PlainL s.heap a b.toArray/\xs.length<=sizeLine:=by
 rcases h with h|⟨o,b,n,f,c,d,g,i,r⟩
 . obtain ⟨z,b,n,r,e⟩:=h.ok I.dR
   exact ⟨b,r,⟨_,n,e,rfl,rfl,rfl⟩,z⟩
 .
  refine ⟨b.toList,r,⟨o,n,I.sI a o f,c,d,by simpa using g⟩,?_⟩
  have e:=r.length
  simp only [adm] at e
  lia
def Inv.tuple (I:Inv X pins U H s) (h:bY X.K H a xs):∃ b:bM,Vals xs b/\IsTup s.heap a b.toArray/\xs.length<=sizeLine:=by
 rcases h with h|⟨o,b,n,d,c,f,g,r⟩
 . obtain ⟨z,b,r,p⟩:=h.ok I.dR
   exact ⟨b,r,p,z⟩
 .
  refine ⟨b.toList,r,⟨o,I.sI a o d,c,n,by simpa using f⟩,?_⟩
  have e:=r.length
  simp only [adm] at e
  lia
def Inv.oQ (I:Inv X pins U H s) (h:aT X.K H a xs) (h':aT X.K H a ys):xs=ys:=by
 obtain ⟨b,r,⟨o,n,e,Z,Z,d⟩,Z⟩:=I.list h
 obtain ⟨i,R,⟨O,N,E,Z,Z,D⟩,Z⟩:=I.list h'
 rw [e] at E;cases E
 rw [d] at D
 injection D with d1 _
 have:b=i:=by simpa using abV Array.toList d1
 subst this
 exact r.inj R
def Inv.Di (I:Inv X pins U H s) (h:bY X.K H a xs) (h':bY X.K H a ys):xs=ys:=by
 obtain ⟨b,r,⟨o,e,Z,n,d⟩,Z⟩:=I.tuple h
 obtain ⟨i,R,⟨O,E,Z,N,D⟩,Z⟩:=I.tuple h'
 rw [e] at E;cases E
 rw [d] at D
 injection D with d1 _
 have:b=i:=by simpa using abV Array.toList d1
 subst this
 exact r.inj R
end
abbrev Cx.nN (X:Cx) (E:az->Shared->Prop):Cx:={ X with xe:=E }
abbrev Cx.Ev (X:Cx):Cx:=X.nN λ _ _=>False
theorem Cx.Ok.nN {X:Cx} (ok:X.Ok) (E:az->Shared->Prop):(X.nN E).Ok :=
 ⟨ok.mod,ok.kind,ok.glob,ok.blt,ok.above,ok.inj,ok.has,ok.Ot,ok.hd,ok.frames,ok.Ry,ok.Y3,ok.bs,ok.JF,ok.GW,ok.Js,ok.sL,ok.Mm⟩
def Cx.Ok.mF {X:Cx} {E:az->Shared->Prop} (ok:(X.nN E).Ok):X.Ok :=
 ⟨ok.mod,ok.kind,ok.glob,ok.blt,ok.above,ok.inj,ok.has,ok.Ot,ok.hd,ok.frames,ok.Ry,ok.Y3,ok.bs,ok.JF,ok.GW,ok.Js,ok.sL,ok.Mm⟩
section
variable {X:Cx} {pins:List (am×Obj)} {U:St} {H:Hp} {s:Shared} {E:az->Shared->Prop}
theorem Inv.nN (I:Inv X pins U H s) (E:az->Shared->Prop):Inv (X.nN E) pins U H s:=⟨I.ok.nN E,I.os,I.bare,I.base,I.loc,I.cell,I.free,I.nH,I.pin,I.dR,I.len⟩
theorem Inv.mF (I:Inv (X.nN E) pins U H s):Inv X pins U H s:=⟨I.ok.mF,I.os,I.bare,I.base,I.loc,I.cell,I.free,I.nH,I.pin,I.dR,I.len⟩
theorem SP.mF {D:Ends} {f:Flow} (h:SP (X.nN E) pins D f s'):SP X pins D f s':=by
 cases f with
 | next=>obtain ⟨a,H,I,q⟩:=h;exact ⟨a,H,I.mF,q⟩
 | brk=>obtain ⟨a,H,I,q⟩:=h;exact ⟨a,H,I.mF,q⟩
 | cont=>obtain ⟨a,H,I,q⟩:=h;exact ⟨a,H,I.mF,q⟩
 | ret u=>obtain ⟨v,a,H,I,r,q⟩:=h;exact ⟨v,a,H,I.mF,r,q⟩
theorem vH.Ev {st:List Stmt} {t:TS} (h:vH X.Ev st t):vH X st t:=λ pins s U H D I a =>
 abx (h pins s U H D (I.nN _) a) (λ Z Z q=>q.mF) λ Z Z z=>False.elim z
end
section
variable {X:Cx} {st:Stmt} {rest:List Stmt} {t u:TS} {e:Expr} {te:TE} {pos:Pos}
def NK:TS:=λ D U H=>D.nx U H
def aY (t u:TS):TS:=λ D U H=>t { D with nx:=u D } U H
def aK:vH X [] NK:=λ Z Z U H Z I h=>adn ⟨U,H,I,h⟩
def ai (c:PS X st t) (d:vH X rest u):vH X (st::rest) (aY t u):=by
 intro p s U H D I h
 refine wpAny_execs_cons (cU (c p s U H { D with nx:=u D } I h) λ f S q=>?_)
 cases f with
 | next =>
   obtain ⟨a,b,i,q⟩:=q
   exact d p S a b D i q
 | ret v=>exact q
 | brk=>exact q
 | cont=>exact q
def ap (a:PS X st t):vH X [st] t:=by
 intro p s U H D I h
 refine wpAny_execs_cons (cU (a p s U H D I h) λ f S q=>?_)
 cases f with
 | next=>exact adn q
 | ret v=>exact q
 | brk=>exact q
 | cont=>exact q
def Inv.quiet {p:List (am×Obj)} {s:Shared} (I:Inv X p U H s):interactive X.env=false:=by simp [interactive,I.ok.kind]
def Pa (t:TE):TS:=λ D U H=>t U H λ Z h=>D.nx U h
def bA (b:PE X e te) (c:autoParam (swapsWith e none pos.line X.env=pure false) za_._auto_1):PS X (.Expr e pos) (Pa te):=by
 intro p s U H D I h
 exact wpAny_Expr_any (cU (b p s U H _ I h) λ v S ⟨x,a,i,r,q⟩=>⟨U,a,i,q⟩) I.quiet c
def Xl (t:TE):TS:=λ D U H=>t U H D.rt
def aH (b:PE X e te):PS X (.Return (some e) pos) (Xl te):=by
 intro p s U H D I h
 exact wpAny_Return_some (cU (b p s U H _ I h) λ v S ⟨x,a,i,r,q⟩=>⟨x,U,a,i,r,q⟩)
def Va (c:TT) (t u:TS):TS:=λ D U H=>c U H λ b h=>if b=true then t D U h else u D U h
def bC {c:Expr} {a b:List Stmt} {T:TT} (j:PT X c T) (f:vH X a t) (g:vH X b u):PS X (.If c a b pos) (Va T t u):=by
 intro p s U H D I h
 refine wpAny_If (cU (j p s U H _ I h) λ d S ⟨e,i,q⟩=>?_)
 cases d with
 | true=>exact f p S U e D i q
 | false=>exact g p S U e D i q
def Mp:TS:=λ Z Z Z=>False
def cB:PS X st Mp:=λ Z Z Z Z Z Z h=>h.elim
end
abbrev TG:=V->St->Hp->(St->Hp->Prop)->Prop
abbrev KJ:=aB->St->Hp->(St->Hp->Prop)->Prop
def PG (X:Cx) (T:Expr) (t:TG):Prop :=
 ∀ (p:List (am×Obj)) (s:Shared) (U:St) (H:Hp) (v:V) (u:az) (Q:St->Hp->Prop),Inv X p U H s->RelV v u->t v U H Q ->
   wpAny (model X.prog X.w) X.A (assign T X.env u) (λ Z s'=>∃ a h,Inv X p a h s'/\Q a h) X.xe s
def Nd (X:Cx) (T:List Expr) (t:KJ):Prop :=
 ∀ (p:List (am×Obj)) (s:Shared) (U:St) (H:Hp) (v:aB) (u:bM) (Q:St->Hp->Prop),Inv X p U H s->Vals v u->t v U H Q ->
   wpAny (model X.prog X.w) X.A (assignInOrder ((assignEach T X.env).map (·.2)) u) (λ Z s'=>∃ a h,Inv X p a h s'/\Q a h) X.xe s
abbrev Fn:=V->V->V->Hp->(Hp->Prop)->Prop
def Lh (X:Cx) (t:Fn):Prop :=
 ∀ (p:List (am×Obj)) (s:Shared) (U:St) (H:Hp) (o i v:V) (O I u:az) (Q:Hp->Prop),Inv X p U H s->RelV o O->RelV i I->RelV v u->t o i v H Q ->
   wpAny (model X.prog X.w) X.A (setItem O I u) (λ Z s'=>∃ h,Inv X p U h s'/\Q h) X.xe s
abbrev MP:=V->V->Hp->VK->Prop
def SB (X:Cx) (o:Operator) (t:MP):Prop :=
 ∀ (p:List (am×Obj)) (s:Shared) (U:St) (H:Hp) (x y:V) (v u:az) (Q:VK),Inv X p U H s->RelV x v->RelV y u->t x y H Q ->
   wpAny (model X.prog X.w) X.A (inplaceOp o v u) (EP X p U Q) X.xe s
section
variable {X:Cx} {pos:Pos}
def uM (i:Nat):TG:=λ v U H Q=>Q (U.set i (some v)) H
def Cp {i:Nat} {x:Str} (b:X.N.Nodup) (d:X.N[i]?=some x) (e:Loc X.env.scope x) (c:autoParam (OV X x) zd_._auto_1):PG X (.Name x pos) (uM i):=by
 intro p s U H v u Q I r h
 exact wpAny_assign_Name (uq I b d e r (λ s' a=>⟨_,H,a,h⟩) c)
def XM:KJ:=λ v U H Q=>v=[]/\Q U H
inductive QB (t:TG) (u:KJ) (vs:aB) (U:St) (H:Hp) (Q:(St->Hp->Prop)):Prop|mk (v r:_) (_:vs=v::r) (_:t v U H λ σ' H'=>u r σ' H' Q)
def db:Nd X [] XM:=by
 intro p s U H v u Q I r h
 obtain ⟨e,h⟩:=h
 subst e
 cases r
 exact assignInOrder_nil ⟨U,H,I,h⟩
def aS {e:Expr} {t:TG} {u:KJ} (c:PG X e t) (d:Nd X es u) (f:autoParam ((assignEach (e::es) X.env).map (·.2)=assign e X.env::(assignEach es X.env).map (·.2)) za_._auto_1):Nd X (e::es) (QB t u):=by
 intro p s U H j g Q I r h
 obtain ⟨v,V,E,h⟩:=h
 subst E
 cases r with
 | cons r R =>
   rw [f]
   refine assignInOrder_cons (cU (c p s U H _ _ _ I r h) λ Z S ⟨a,b,i,q⟩=>?_)
   exact d p S a b _ _ Q i R q
inductive QH (K:aD) (n:Nat) (t:KJ) (v:V) (U:St) (H:Hp) (Q:(St->Hp->Prop)):Prop|mk (a xs:_) (_:v = .ref a) (_:bY K H a xs) (_:xs.length=n) (_:t xs U H Q)
def L7 {k:Nat} {t:KJ} {n:Nat} (f:X.calm=true) (h:Nd X es t) (j:autoParam ((assignEach es X.env).length=n) za_._auto_1) (J:autoParam ((assignEach es X.env).findIdx? (·.1)=none) za_._auto_1):PG X (.Tuple es k pos) (QH X.K n t):=by
 intro p s U H v u Q I r c
 obtain ⟨a,x,E,l,g,c⟩:=c
 subst E
 cases r
 obtain ⟨B,R,m,w⟩:=I.tuple l
 refine assign_Tuple_tuple (I.ok.hd f) m (by simp [j,<- g,R.length]) J λ d q=>?_
 have i:Inv X p U H { s with heap:=d }:=I.kept (t':=s.toks) λ b o e=>q b o (aaN (aaw e)) e
 exact h p _ U H x _ Q i (by simpa using R) c
def Xp (c T:TE) (t:Fn):TG:=λ v U H Q=>c U H λ o h=>T U h λ i a=>t o i v a λ b=>Q U b
def qC {o i:Expr} {t:Fn} (l:PE X o to) (k:PE X i ti) (m:Lh X t) (j:∀ v,assign (.Subscript o i pos) X.env v=(do
     let O <- holding [v] (eval o X.env)
     let a <- holding [v,O] (eval i X.env)
     standAt pos
     holding [v,O,a] (setItem O a v)
     release [v,O,a] []):=by intro Z;rfl):PG X (.Subscript o i pos) (Xp to ti t):=by
 intro p s U H v u Q I r h
 rw [j]
 refine aah (abW (cU (l p s U H _ I h) λ O S ⟨x,b,e,R,q⟩=>?_))
 refine aah (abW (cU (k p S U b _ e q) λ a A ⟨y,c,f,z,n⟩=>?_))
 refine aah (wpAny_standAt (aah (abW (cU (m p A U c x y v O a u _ f R z r n) λ Z B ⟨d,g,w⟩=>?_))))
 exact wpAny_release ⟨U,d,g,w⟩
def FN (t:TE) (g:TG):TS:=λ D U H=>t U H λ x h=>g x U h D.nx
def ii {e:Expr} (c:PE X e te) (d:PG X tg g) (f:autoParam (swapsWithSole [tg] e pos.line X.env=pure false) za_._auto_1) (hw:autoParam (swappedStores [tg] e X.env=pure none) za_._auto_1) (b:autoParam ((assignEach [tg] X.env).map (·.2)=[assign tg X.env]) za_._auto_1):PS X (.Assign [tg] e pos) (FN te g):=by
 intro p s U H D I h
 refine wpAny_Assign_stores (cU (c p s U H _ I h) λ v S ⟨x,a,i,r,Q⟩=>?_) f hw
 rw [b]
 exact cU (d p S U a x v _ i r Q) λ Z j q=>q
def L4 {i:Nat} {x:Str} {e:Expr} (d:X.N.Nodup) (j:X.N[i]?=some x) (l:Loc X.env.scope x) (f:PE X e te) (k:autoParam (swapsWith e (some (.Name x pos')) pos.line X.env=pure false) za_._auto_1) (g:autoParam (OV X x) zd_._auto_1) :
   PS X (.Assign [.Name x pos'] e pos) (FN te (uM i)):=by
 intro p s U H D I h
 refine wpAny_Assign_Name (cU (f p s U H _ I h) λ v S ⟨y,a,b,r,q⟩=>?_) k
 exact uq b d j l r (λ m c=>⟨_,a,c,q⟩) g
def WE (i:Nat) (t:TE) (T:MP):TS:=λ D U H=>∃ x,U[i]?=some (some x)/\t U H λ y h=>T x y h λ z a=>D.nx (U.set i (some z)) a
def Kt {i:Nat} {x:Str} {e:Expr} {o:Operator} {t:MP} (F:X.N.Nodup) (f:X.N[i]?=some x) (d:Loc X.env.scope x) (K:PE X e te) (R:SB X o t) (L:autoParam (OV X x) zd_._auto_1) :
   PS X (.AugAssign (.Name x pos') o e pos) (WE i te t):=by
 intro p s U H D I h
 obtain ⟨v,E,h⟩:=h
 obtain ⟨m,Q,M⟩:=I.loc
 have V:O4 X.env.scope x:=by rcases d with k|k;exact .inl k;exact .inr (.inl k)
 obtain ⟨u,r,l⟩:=M i x v f E V
 refine wpAny_AugAssign_Name ?_
 have g:wpAny (model X.prog X.w) X.A (eval e X.env) (λ w S=>wpAny (model X.prog X.w) X.A (inplaceOp o u w) (λ r b=>wpAny (model X.prog X.w) X.A (storeName X.env x r) (λ Z=>SP X p D .next) X.xe b) X.xe S) X.xe s:=by
   refine cU (K p s U H _ I h) λ w s1 ⟨y,j,q,Y,T⟩=>?_
   refine cU (R p s1 U j v y u w _ q r Y T) λ z s2 ⟨zv,n,B,r2,W⟩=>?_
   exact uq B F f d r2 (λ s3 C=>⟨_,n,C,W⟩) L
 rcases l with ⟨a,O⟩|⟨a,c,J,G⟩
 . exact wpAny_loadName_local I.ok.kind a Q O g
 .
  rcases a with a|a
  . exact wpAny_loadName_cell I.ok.kind a J G g
  .
   rcases d with k|k
   . have:X.env.scope.names.lookup x=some .free:=a
     rw [k] at this;cases this
   . have:X.env.scope.names.lookup x=some .free:=a
     rw [k] at this;cases this
def Ob (g T t:TE) (f:V->V->Hp->VK->Prop) (R:MP) (I:Fn):TS:=λ D U H=>g U H λ o h=>T U h λ i a=>f o i a λ x b=>t U b λ y c=>R x y c λ z d=>I o i z d λ e=>D.nx U e
def N1 (X:Cx) (t:V->V->Hp->VK->Prop):Prop :=
 ∀ (p:List (am×Obj)) (s:Shared) (U:St) (H:Hp) (o i:V) (O I:az) (Q:VK),Inv X p U H s->RelV o O->RelV i I->t o i H Q ->
   wpAny (model X.prog X.w) X.A (getItem O I) (EP X p U Q) X.xe s
def Hz {o i e:Expr} {c:V->V->Hp->VK->Prop} {R:MP} {d:Fn} {f:Operator} {N:Pos} (K:PE X o to) (J:PE X i ti) (G:N1 X c) (F:PE X e te) (L:SB X f R) (M:Lh X d) (E:∀ O a n,augStore i O a n=(do holding [n,O,a] (setItem O a n);release [n,O,a] [];pure .next):=by intros;rfl):PS X (.AugAssign (.Subscript o i N) f e pos) (Ob to ti te c R d):=by
 intro p s U H D I h
 refine wpAny_AugAssign_SubscriptAny (cU (K p s U H _ I h) λ O s1 ⟨x,k,w,r,Q⟩=>?_) E
 refine cU (J p s1 U k _ w Q) λ a s2 ⟨j,l,y,g,S⟩=>?_
 refine cU (G p s2 U l x j O a _ y r g S) λ b s3 ⟨x3,m,z,r3,T⟩=>?_
 refine cU (F p s3 U m _ z T) λ v s4 ⟨x4,q,A,r4,W⟩=>?_
 refine cU (L p s4 U q x3 x4 b v _ A r3 r4 W) λ n s5 ⟨x5,t,B,r5,Y⟩=>?_
 exact cU (M p s5 U t x j x5 O a n _ B r g r5 Y) λ Z s6 ⟨u,C,q6⟩=>⟨U,u,C,q6⟩
def Y2 (f:Int->Int->Int):MP:=λ x y H Q=>∃ i j,x = .int i/\y = .int j/\Q (.int (f i j)) H
def Mb:SB X .Add (Y2 λ i j=>i+j):=by
 intro p s U H x y v u Q I r R h
 obtain ⟨i,j,e,E,q⟩:=h
 subst e;subst E
 obtain ⟨t,rfl⟩:=r
 obtain ⟨t',rfl⟩:=R
 exact iadd_int ⟨.int _,H,I.tok _,⟨_,rfl⟩,q⟩
def K8:SB X .Sub (Y2 λ i j=>i - j):=by
 intro p s U H x y v u Q I r R h
 obtain ⟨i,j,e,E,q⟩:=h
 subst e;subst E
 obtain ⟨t,rfl⟩:=r
 obtain ⟨t',rfl⟩:=R
 exact isub_int ⟨.int _,H,I.tok _,⟨_,rfl⟩,q⟩
end
section
variable {X:Cx} {pos:Pos}
def Le (c:TT) (tb:TS):TS:=λ D U H=>∃ W:Nat->St->Hp->Prop,(∃ m,W m U H)/\∀ m U H,W m U H ->
 c U H λ b d=>if b=true then ∃ N:St->Hp->Prop,(∀ a h,N a h->∃ M,M<m/\W M a h)/\tb { D with nx:=N,ct:=N,bk:=D.nx } U d else D.nx U d
def o9 {c:Expr} {B:List Stmt} {T:TT} (z:PassesOwn (model X.prog X.w) X.A X.env X.xe) (F:PT X c T) (E:vH X B tb):PS X (.While c B [] pos) (Le T tb):=by
 intro p s U H D I h
 obtain ⟨W,⟨M,J⟩,t⟩:=h
 refine wpAny_While (codeAny_whileLoop (λ n s'=>∃ g o,Inv X p g o s'/\W n g o) ?_ M ⟨U,H,I,J⟩)
 rintro n S ⟨d,r,C,K⟩
 refine ab6 z (cU (F p S d r _ C (t n d r K)) λ b G ⟨u,x,q⟩=>?_)
 cases b with
 | true =>
   obtain ⟨N,y,q⟩:=q
   rw [aan rfl]
   refine ab6 z (cU (E p G d u _ x q) λ f L Q=>?_)
   cases f with
   | next =>
     obtain ⟨a,e,i,k⟩:=Q
     obtain ⟨m,j,l⟩:=y a e k
     exact ⟨m,j,a,e,i,l⟩
   | cont =>
     obtain ⟨a,e,i,k⟩:=Q
     obtain ⟨m,j,l⟩:=y a e k
     exact ⟨m,j,a,e,i,l⟩
   | brk=>exact Q
   | ret v=>exact Q
 | false =>
   rw [aap aaE]
   exact adn ⟨d,u,x,q⟩
end
structure It where
 go:Nat->Hp->Prop
 G6:Nat->Hp->V->Hp->Prop
 stop:Nat->Hp->Prop
def u5 (X:Cx) (a:List (am×Obj)) (H:Hp) (b:am):Prop :=
 H b=none/\b≠X.env.locals/\b∉X.fs/\(b∈X.ex\/X.s₀.heap.objs.size<=b)/\(∀ x c,X.env.cells.lookup x=some c->c≠b)/\∀ p∈X.pn++a,p.1≠b
def Inv.yD {X:Cx} {a:List (am×Obj)} {d:Hp} {s:Shared} {b:am} (I:Inv X a U H s) (h:s.heap.objs.size<=b) (f:d b=none):u5 X a d b:=by
 refine ⟨f,acf (aav I.lt h),I.WL h,.inr (aax I.sz h),λ x c e z=>?_,λ p g z=>?_⟩
 . obtain ⟨v,q⟩:=I.cell x c e
   exact absurd (aav q.lt (by rw [z];exact h)) (abH _)
 . exact absurd (aav (aaw (I.pin p g).1) (by rw [z];exact h)) (abH _)
structure Turn (P:bE) (w:bz) (K:aD) (tg:Expr) (J:It) (fp:bK) (it:am) (tn:Nat->bG->Prop):Prop where
 mem:it∈fp
 obj:∀ i h,tn i h->∀ b∈fp,∃ o,h.get? b=some o/\∀ v,o.data ≠ .cell v
 keep:∀ i h h',tn i h->(∀ b∈fp,∀ o,h.get? b=some o->h'.get? b=some o)->tn i h'
 item:∀ (X:Cx),X.prog=P->X.w=w->X.K=K->X.calm=true->∀ (i:Nat) (pins:List (am×Obj)) (s:Shared) (U:St) (H:Hp) (E:az->Shared->Prop),Inv X pins U H s->(∀ b∈fp,u5 X pins H b)->tn i s.heap->J.go i H ->
   wpAny (model P w) X.A (pyNext (.ref it)) (λ r s1=>∃ u,r=some u /\
     wpAny (model P w) X.A (letOwnedTupleGo tg (.ref it) u) (λ _ s2=>∃ x H',Inv X pins U H' s2/\RelV x u/\J.G6 i H x H'/\tn (i+1) s2.heap/\∀ b∈fp,H' b=none) E s1) E s
 done:∀ (X:Cx),X.prog=P->X.w=w->X.K=K->X.calm=true->∀ (i:Nat) (pins:List (am×Obj)) (s:Shared) (U:St) (H:Hp) (E:az->Shared->Prop),Inv X pins U H s->(∀ b∈fp,u5 X pins H b)->tn i s.heap->J.stop i H ->
   wpAny (model P w) X.A (pyNext (.ref it)) (λ r s1=>r=none/\Inv X pins U H s1) E s
 self:∀ (A:Around) (i:Nat) (s:Shared) (Q:az->Shared->Prop) (E:az->Shared->Prop),tn i s.heap->Q (.ref it) s->wpAny (model P w) A (pyIter (.ref it)) Q E s
abbrev TI:=St->Hp->(It->Hp->Prop)->Prop
def YF (X:Cx) (p:List (am×Obj)) (U:St) (T:Expr) (R:It->Hp->Prop) (V:az) (s:Shared):Prop :=
 ∃ (i:am) (f:bK) (t:Nat->bG->Prop) (J:It) (H:Hp),V = .ref i/\Inv X p U H s/\Turn X.prog X.w X.K T J f i t/\t 0 s.heap/\(∀ b∈f,u5 X p H b)/\R J H
def PI (X:Cx) (t i:Expr) (W:TI):Prop :=
 ∀ (p:List (am×Obj)) (s:Shared) (U:St) (H:Hp) (R:It->Hp->Prop),Inv X p U H s->W U H R ->
   wpAny (model X.prog X.w) X.A (eval i X.env) (λ v S=>wpAny (model X.prog X.w) X.A (pyIter v) (YF X p U t R) X.xe S) X.xe s
def JZ {M:Model} {A:Around} {E:az->Shared->Prop} {s:Shared} {i:am} {u:az} {o:Obj} {n:String} {vs:Array az} {Q:Unit->Shared->Prop} (d:s.heap.get? i=some o) (a:o.cls = .type n) (b:o.data = .fields vs) (c:["enumerate","zip","dict_itemiterator","dict_reverseitemiterator","odict_iterator","itertools.zip_longest","itertools.pairwise"].contains n=false) (H:Q () s):wpAny M A (letOwnedTupleGo tg (.ref i) u) Q E s:=by
 unfold letOwnedTupleGo
 cases tg<;>first
   | exact aaB H
   | (cases u<;>first
       | exact aaB H
       | (refine aah (wpAny_load d ?_)
          rw [a,b]
          show wpAny M A (if (["enumerate","zip","dict_itemiterator","dict_reverseitemiterator","odict_iterator","itertools.zip_longest","itertools.pairwise"].contains n && vs[0]? == some (rawInt _))=true then _ else _) Q E s
          rw [aap (by intro h;rw [c,adN] at h;cases h)]
          exact aaB H))
def Kk (K:aD) (a:am):It :=
 ⟨λ i H=>∃ X x,aT K H a X/\X[i]?=some x,λ i H x h=>h=H/\∀ X,aT K H a X->X[i]?=some x,λ i H=>∃ X,aT K H a X/\X.length<=i⟩
def HM (lo:Int) (n:Nat):It:=⟨λ i Z=>i<n,λ i H x h=>h=H/\x = .int (lo+i),λ i Z=>n<=i⟩
def DW {P:bE} {w:bz} {K:aD} (a j:am):Turn P w K tg (Kk K a) [j] j (λ i h=>h.IsListIter j a i) where
 mem:=by simp
 obj:=λ i h S b g=>by
   have e:b=j:=by simpa using g
   subst e
   obtain ⟨o,e,c,d⟩:=S
   exact ⟨o,e,λ v z=>by rw [d] at z;cases z⟩
 keep:=λ i h l S k=>S.at λ o e=>k j (by simp) o e
 item:=by
   intro X B D A L i f s U H E I m S C
   subst B D A
   obtain ⟨xs,x,n,G⟩:=C
   obtain ⟨N,R,p,W⟩:=I.list n
   obtain ⟨u,T,Y⟩:=R.get G
   obtain ⟨F,q,Q,r,t,y⟩:=m j (by simp)
   refine wpAny_pyNext_list_item S p.isList (x:=u) (by simpa using T) λ l J sb=>?_
   have M:Inv X f U H { s with heap:=l }:=I.turned (t':=s.toks) (λ b o g e=>(sb.2 b g).trans e) F q r t y
   obtain ⟨o,e,c,d⟩:=id J
   exact ⟨u,rfl,JZ (s:={ s with heap:=l }) e c d (by decide) ⟨x,H,M,Y,⟨rfl,λ ys V=>by rw [I.oQ V n];exact G⟩,J,λ b g=>(m b g).1⟩⟩
 done:=by
   intro X B D A L i f s U H E I m S C
   subst B D A
   obtain ⟨xs,n,G⟩:=C
   obtain ⟨N,R,p,W⟩:=I.list n
   obtain ⟨F,q,Q,r,t,y⟩:=m j (by simp)
   have hl:=R.length
   exact wpAny_pyNext_list_end (I.ok.hd L) S p.isList (by simp;lia) λ l O=>⟨rfl,I.turned (t':=s.toks) (λ b o g e=>O b o g e) F q r t y⟩
 self:=λ Z Z Z Z Z S h=>wpAny_pyIter_listiter S h
def BD {P:bE} {w:bz} {K:aD} (a:am) (lo:Int) (n:Nat):Turn P w K tg (HM lo n) [a] a (λ i h=>IsRangeIter h a (lo+(i:Nat) * 1) ((n:Int) - (i:Nat)) 1) where
 mem:=by simp
 obj:=λ i h S b c=>by
   have e:b=a:=by simpa using c
   subst e
   exact ⟨_,S,λ v z=>by
     have L:Data.fields _=Data.cell v:=z
     cases L⟩
 keep:=λ i h d S k=>k a (by simp) _ S
 item:=by
   intro X r y q u i p s U H E I f S x
   subst r y q
   obtain ⟨F,g,D,j,l,m⟩:=f a (by simp)
   have W:=Walks.range (prog:=X.prog) (w:=X.w) (I.ok.hd u) a lo 1 n
   refine W.item i s _ _ x S λ v d T G A J=>?_
   obtain ⟨t,rfl⟩:=G
   have B:Inv X p U H { s with heap:=d,toks:=T }:=I.turned (λ b o c e=>J b o (by simpa using c) e) F g j l m
   refine ⟨_,rfl,JZ (s:={ s with heap:=d,toks:=T }) (n:="range_iterator") A rfl rfl (by decide) ⟨.int (lo+i),H,B,⟨t,?_⟩,⟨rfl,rfl⟩,A,λ b c=>(f b c).1⟩⟩
   rw [Int.mul_one]
 done:=by
   intro X r y q u i p s U H E I f S x
   subst r y q
   obtain ⟨F,g,D,j,l,m⟩:=f a (by simp)
   exact wpAny_pyNext_range_end (I.ok.hd u) S (by have:n<=i:=x;lia) λ d C=>⟨rfl,I.turned (t':=s.toks) (λ b o c e=>C b o c e) F g j l m⟩
 self:=λ Z Z Z Z Z S h=>wpAny_pyIter_rangeiter S h
section
variable {X:Cx} {tg:Expr}
inductive U3 (K:aD) (R:It->Hp->Prop) (x:V) (H1:Hp):Prop|mk (a:am) (h1:x = .ref a) (h2:∃ xs,aT K H1 a xs) (q:R (Kk K a) H1)
def JD (K:aD) (t:TE):TI:=λ U H R=>t U H (U3 K R)
def cf {l:Expr} {t:TE} (g:PE X l t):PI X tg l (JD X.K t):=by
 intro c s U H R I h
 refine cU (g c s U H _ I h) λ v S ⟨x,d,i,r,Q⟩=>?_
 obtain ⟨a,e,⟨n,j⟩,q⟩:=Q
 subst e
 cases r
 obtain ⟨B,m,p,k⟩:=i.list j
 refine wpAny_pyIter_list p.isList ?_
 refine ⟨S.heap.objs.size,[S.heap.objs.size],_,_,d,rfl,i.kept (t':=S.toks) λ b o e=>aam _ e,DW a _,⟨_,aaQ _ rfl,rfl,rfl⟩,λ b f=>?_,q⟩
 have e:b=S.heap.objs.size:=by simpa using f
 subst e
 exact i.yD (aaj _) (i.dR.fresh (aaj _))
def Gw {p:List (am×Obj)} {s:Shared} {R:It->Hp->Prop} {E:az->Shared->Prop} {lo h:Int} {t u v:Tok} {T:Nat} (I:Inv X p U H s) (d : -(2 ^ 62)<=lo) (f:lo<2 ^ 62) (g : -(2 ^ 62)<=h) (j:h<2 ^ 62) (q:R (HM lo (h - lo).toNat) H):wpAny (model X.prog X.w) X.A (pyIter (.ref s.heap.objs.size)) (YF X p U tg R) E { s with heap:=s.heap.push { cls:=.type "range",data:=.fields #[.int lo t,.int h u,.int 1 v]},toks:=T }:=by
 refine wpAny_pyIter_range (IsRange.new ..) (small_one d f g j) ?_
 have i:Inv X p U H { s with heap:=s.heap.push { cls:=.type "range",data:=.fields #[.int lo t,.int h u,.int 1 v]},toks:=T }:=I.kept λ b o e=>aam _ e
 refine ⟨(s.heap.push { cls:=.type "range",data:=.fields #[.int lo t,.int h u,.int 1 v]}).objs.size,[(s.heap.push { cls:=.type "range",data:=.fields #[.int lo t,.int h u,.int 1 v]}).objs.size],_,_,H,rfl,
   i.kept (t':=T) λ b o e=>aam _ e,BD _ lo (h - lo).toNat,?_,λ b k=>?_,q⟩
 .
  have a:lo+((0:Nat):Int) * 1=lo:=by simp
  have c:(((h - lo).toNat:Nat):Int) - ((0:Nat):Int)=Builtin.Range.rangeSize lo h 1:=by rw [rangeSize_one];split<;>lia
  show IsRangeIter _ _ (lo+((0:Nat):Int) * 1) ((((h - lo).toNat:Nat):Int) - ((0:Nat):Int)) 1
  rw [a,c]
  exact aaQ _ rfl
 . have e:b=(s.heap.push { cls:=.type "range",data:=.fields #[.int lo t,.int h u,.int 1 v]}).objs.size:=by simpa using k
   subst e
   exact i.yD (aaj _) (i.dR.fresh (aaj _))
inductive Wk (R:It->Hp->Prop) (vs:aB) (H1:Hp):Prop|mk (j:Int) (h1:vs=[.int j]) (h2 : -(2 ^ 62)<=j) (h3:j<2 ^ 62) (q:R (HM 0 j.toNat) H1)
def NB (t:TA):TI:=λ U H R=>t U H (Wk R)
def ck {a:Expr} {T:TA} {p c:Pos} (f:Gl X "range") (g:X.mg "range" = none) (d:PA X [a] T) (k:autoParam (starEach [a] X.env=[(false,eval a X.env)]) za_._auto_1):PI X tg (.Call (.Name "range" p) [a] [] c) (NB T):=by
 intro b s U H R I h
 refine Call_ (jB I f g boot_range (abb (cU (d c b s U H _ I h) λ u S ⟨v,o,i,m,Q⟩=>?_) k rfl))
 obtain ⟨j,e,Q,l,q⟩:=Q
 subst e
 cases m with
 | cons r n =>
   cases n
   obtain ⟨t,rfl⟩:=r
   exact call_range_1 (Gw i (by lia) (by lia) Q l (by simpa using q))
def U1 (w:TI) (g:TG) (tb:TS):TS:=λ D U H=>w U H λ J c=>∃ W:Nat->Nat->St->Hp->Prop,(∃ m,W 0 m U c)/\∀ i m U H,W i m U H ->
 (J.stop i H/\D.nx U H)\/(J.go i H/\∃ N:St->Hp->Prop,(∀ a h,N a h->∃ M,M<m/\W (i+1) M a h)/\∀ x h,J.G6 i H x h->g x U h λ b d=>tb { D with nx:=N,ct:=N,bk:=D.nx } b d)
def uB (f:bK) (h:bG):List (am×Obj):=f.filterMap λ b=>(h.get? b).map λ o=>(b,o)
def ki {f:bK} {h:bG} {b:am} {o:Obj} (H:b∈f) (e:h.get? b=some o):(b,o)∈uB f h:=aek.mpr ⟨b,H,by rw [e];rfl⟩
def DU {f:bK} {h:bG} {p:am×Obj} (a:p∈uB f h):p.1∈f/\h.get? p.1=some p.2:=by
 obtain ⟨b,H,e⟩:=aek.mp a
 cases q:h.get? b with
 | none=>rw [q] at e;cases e
 | some o =>
   rw [q] at e
   have E:(b,o)=p:=aao e
   subst E
   exact ⟨H,q⟩
def Inv.pinned {a:List (am×Obj)} {s:Shared} {f:bK} (I:Inv X a U H s) (i:∀ b∈f,u5 X a H b) (j:∀ b∈f,∃ o,s.heap.get? b=some o/\∀ v,o.data ≠ .cell v):Inv X (a++uB f s.heap) U H s :=
 I.BU λ p k=>(aau.mp k).elim (λ z=>I.pin p (aa1 _ z)) λ z=>by
   obtain ⟨h,e⟩:=DU z
   obtain ⟨F,c,g,Z⟩:=i p.1 h
   obtain ⟨o,E,d⟩:=j p.1 h
   rw [e] at E;cases E
   exact ⟨e,F,c,g,d⟩
def Inv.pB {a pl:List (am×Obj)} {s:Shared} (I:Inv X (a++pl) U H s):Inv X a U H s:=I.BU λ p h=>I.pin p (aa1 _ (aaU _ h))
def cR {q:Expr} {B:List Stmt} {wi:TI} {V:Pos} (z:PassesOwn (model X.prog X.w) X.A X.env X.xe) (hc:X.calm=true) (hi:PI X tg q wi) (hg:PG X tg g) (l:vH X B tb) (hs:∀ x,foldedSetIterable q X.env x=pure x:=by intro _;rfl):PS X (.For tg q B [] V) (U1 wi g tb):=by
 intro p s U H D I h
 refine wpAny_For (cU (hi p s U H _ I h) λ v s1 h1=>cU h1 λ Vq s2 h2=>?_) hs
 obtain ⟨it,F,tn,J,H2,e,I2,T,Sr,f2,W,⟨m0,w0⟩,G⟩:=h2
 subst e
 have M:∀ {H':Hp},(∀ b∈F,H' b=none)->∀ b∈F,u5 X p H' b:=λ hn b l=>⟨hn b l,(f2 b l).2⟩
 refine codeAny_forLoop_any (λ n s'=>∃ i t H',Inv X p t H' s'/\tn i s'.heap/\(∀ b∈F,H' b=none)/\W i n t H') ?_ m0 ⟨0,U,H2,I2,Sr,λ b l=>(f2 b l).1,w0⟩
 rintro n s3 ⟨i,y,K,I3,ZK,Z0,w3⟩
 rcases G i n y K w3 with ⟨E,qn⟩|⟨go,N,hN,S⟩
 . refine ab6 z (cU (T.done X rfl rfl rfl hc i p s3 y K X.xe I3 (M Z0) ZK E) λ r s4 ⟨R,I4⟩=>?_)
   subst R
   exact adn ⟨y,K,I4,qn⟩
 .
  refine ab6 z (cU (T.item X rfl rfl rfl hc i p s3 y K X.xe I3 (M Z0) ZK go) λ r s4 ⟨u,R,h4⟩=>?_)
  subst R
  refine ab6 z (cU h4 λ _ s5 ⟨x,H5,I5,r5,y5,O,Sy⟩=>?_)
  have L:=I5.pinned (M Sy) (T.obj _ _ O)
  refine ab6 z (cU (hg _ s5 y H5 x u _ L r5 (S x H5 y5)) λ _ s6 ⟨ab,H6,I6,q6⟩=>?_)
  refine ab6 z (cU (l _ s6 ab H6 _ I6 q6) λ f Y Q=>?_)
  have k:∀ {a:St} {c:Hp},Inv X (p++uB F s5.heap) a c Y->N a c->∃ m,m<n/\∃ i t H',Inv X p t H' Y/\tn i Y.heap/\(∀ b∈F,H' b=none)/\W i m t H':=λ {a c} j C=>by
    obtain ⟨m',hm,w7⟩:=hN a c C
    refine ⟨m',hm,i+1,a,c,j.pB,T.keep _ _ _ O λ b l o e=>(j.pin (b,o) (aa1 _ (aa1 _ (ki l e)))).1,λ b l=>?_,w7⟩
    obtain ⟨o,e,d⟩:=T.obj _ _ O b l
    exact (j.pin (b,o) (aa1 _ (aa1 _ (ki l e)))).2.1
  cases f with
  | next=>obtain ⟨a,c,j,C⟩:=Q;exact k j C
  | cont=>obtain ⟨a,c,j,C⟩:=Q;exact k j C
  | brk=>obtain ⟨a,c,j,Q⟩:=Q;exact ⟨a,c,j.pB,Q⟩
  | ret v=>obtain ⟨x7,a,c,j,r7,Q⟩:=Q;exact ⟨x7,a,c,j.pB,r7,Q⟩
end
def jN {K:aD} {a:am} {xs:aB} {D:Ends} (b:Nat->St->Hp->Prop) (h0:b 0 U H) (l:∀ i U H,i<=xs.length->b i U H->aT K H a xs) (o:∀ i x U H,xs[i]?=some x->b i U H->g x U H λ d f=>tb { D with nx:=b (i+1),ct:=b (i+1),bk:=D.nx } d f) (j:∀ U H,b xs.length U H->D.nx U H) :
   ∃ W:Nat->Nat->St->Hp->Prop,(∃ m,W 0 m U H)/\∀ i m U H,W i m U H ->
     ((Kk K a).stop i H/\D.nx U H)\/((Kk K a).go i H/\∃ N:St->Hp->Prop,(∀ c h,N c h->∃ M,M<m/\W (i+1) M c h)/\∀ x h,(Kk K a).G6 i H x h->g x U h λ d f=>tb { D with nx:=N,ct:=N,bk:=D.nx } d f):=by
 refine ⟨λ i m U H=>m=xs.length - i/\i<=xs.length/\b i U H,⟨xs.length,by simp,aaZ _,h0⟩,?_⟩
 rintro i m U H ⟨rfl,k,p⟩
 have q:=l i U H k p
 by_cases n:i<xs.length
 .
  refine .inr ⟨⟨xs,xs[i],q,by simp [n]⟩,b (i+1),λ c h r=>⟨xs.length - (i+1),by lia,rfl,n,r⟩,λ x h y=>?_⟩
  obtain ⟨e,y⟩:=y
  subst e
  exact o i x U _ (y xs q) p
 . have e:i=xs.length:=by lia
   subst e
   exact .inl ⟨⟨xs,q,aaj _⟩,j U H p⟩
def vO {lo:Int} {n:Nat} {D:Ends} (a:Nat->St->Hp->Prop) (h0:a 0 U H) (k:∀ i U H,i<n->a i U H->g (.int (lo+i)) U H λ c d=>tb { D with nx:=a (i+1),ct:=a (i+1),bk:=D.nx } c d) (j:∀ U H,a n U H->D.nx U H) :
   ∃ W:Nat->Nat->St->Hp->Prop,(∃ m,W 0 m U H)/\∀ i m U H,W i m U H ->
     ((HM lo n).stop i H/\D.nx U H)\/((HM lo n).go i H/\∃ N:St->Hp->Prop,(∀ b h,N b h->∃ M,M<m/\W (i+1) M b h)/\∀ x h,(HM lo n).G6 i H x h->g x U h λ c d=>tb { D with nx:=N,ct:=N,bk:=D.nx } c d):=by
 refine ⟨λ i m U H=>m=n - i/\i<=n/\a i U H,⟨n,by simp,aaZ _,h0⟩,?_⟩
 rintro i m U H ⟨rfl,o,p⟩
 by_cases f:i<n
 .
  refine .inr ⟨f,a (i+1),λ b h l=>⟨n - (i+1),by lia,rfl,f,l⟩,λ x h y=>?_⟩
  obtain ⟨e,y⟩:=y
  subst e y
  exact k i U _ f p
 . have e:i=n:=by lia
   subst e
   exact .inl ⟨aaj _,j U H p⟩
abbrev R2:=V->V->Hp->VK->Prop
def ji (X:Cx) (f:az->az->Sem az) (r:R2):Prop :=
 ∀ (p:List (am×Obj)) (s:Shared) (U:St) (H:Hp) (x y:V) (v u:az) (Q:VK),Inv X p U H s->RelV x v->RelV y u->r x y H Q ->
   wpAny (model X.prog X.w) X.A (f v u) (EP X p U Q) X.xe s
def RW (X:Cx) (f:az->Sem az) (r:V->Hp->VK->Prop):Prop :=
 ∀ (p:List (am×Obj)) (s:Shared) (U:St) (H:Hp) (x:V) (v:az) (Q:VK),Inv X p U H s->RelV x v->r x H Q ->
   wpAny (model X.prog X.w) X.A (f v) (EP X p U Q) X.xe s
def jg (X:Cx) (f:az) (r:aB->Hp->VK->Prop):Prop :=
 ∀ (p:List (am×Obj)) (s:Shared) (U:St) (H:Hp) (x:aB) (u:bM) (Q:VK),Inv X p U H s->Vals x u->r x H Q ->
   wpAny (model X.prog X.w) X.A (call f u) (EP X p U Q) X.xe s
def Rz (r:R2) (t tb:TE):TE:=λ U H Q=>t U H λ x h=>tb U h λ y a=>r x y a Q
def tUn (r:V->Hp->VK->Prop) (t:TE):TE:=λ U H Q=>t U H λ x h=>r x h Q
inductive rI (C:Int->Int->Prop) (g:Int->Int->V) (x:V) (y:V) (H:Hp) (Q:VK):Prop|mk (i j:_) (_:x = .int i) (_:y = .int j) (_:C i j) (_:Q (g i j) H)
inductive Hh (g:Int->Int->V) (x:V) (y:V) (H:Hp) (Q:VK):Prop|mk (i j:_) (_:x = .int i) (_:y = .int j) (_:Q (g i j) H)
inductive rU (g:Int->V) (x:V) (H:Hp) (Q:VK):Prop|mk (i:_) (_:x = .int i) (_:Q (g i) H)
section
variable {X:Cx} {a b c:Expr} {ta tb:TE} {pos:Pos}
def ML (j:PE X a ta) (k:PE X b tb) {p:List (am×Obj)} {s:Shared} {R:V->V->Hp->Prop} (I:Inv X p U H s) (h:ta U H λ x H1=>tb U H1 λ y c=>R x y c) {Q:az->Shared->Prop} {f:az->az->Sem az} (l:∀ v u e x y c,Inv X p U c e->RelV x v->RelV y u->R x y c->wpAny (model X.prog X.w) X.A (f v u) Q X.xe e) :
   wpAny (model X.prog X.w) X.A (eval a X.env) (λ v S=>wpAny (model X.prog X.w) X.A (eval b X.env) (λ u d=>wpAny (model X.prog X.w) X.A (f v u) Q X.xe d) X.xe S) X.xe s:=by
 refine cU (j p s U H _ I h) λ v o ⟨x,H1,i,r,q⟩=>?_
 refine cU (k p o U H1 _ i q) λ u e ⟨y,c,g,n,m⟩=>?_
 exact l v u e x y c g r n m
def ax {o:Operator} {r:R2} (f:ji X (binaryOp o) r) (d:PE X a ta) (e:PE X b tb):PE X (.BinOp a o b pos) (Rz r ta tb):=by
 intro p s U H Q I h
 exact wpAny_BinOp (ML d e I h λ v u S x y c i R g q=>f p S U c x y v u Q i R g q)
def rN {o:UnaryOp} {r:V->Hp->VK->Prop} (d:RW X (unaryOp o) r) (c:PE X a ta):PE X (.UnaryOp o a pos) (tUn r ta):=by
 intro p s U H Q I h
 exact UnaryOp_ (cU (c p s U H _ I h) λ v S ⟨x,b,i,R,q⟩=>d p S U b x v Q i R q)
def M9 {f:az->az->Sem az} {C:Int->Int->Prop} {g:Int->Int->Int} (r:∀ (i j:Int) (t u:Tok) (s:Shared) (Q:az->Shared->Prop) (E:az->Shared->Prop),C i j->Q (.int (g i j) s.toks) { s with toks:=s.toks+1 }->wpAny (model X.prog X.w) X.A (f (.int i t) (.int j u)) Q E s) :
   ji X f (rI C λ i j => .int (g i j)):=by
 intro p s U H x y v u Q I R b h
 obtain ⟨i,j,rfl,rfl,a,q⟩:=h
 obtain ⟨t,rfl⟩:=R
 obtain ⟨t',rfl⟩:=b
 exact r i j t t' s _ _ a ⟨.int (g i j),H,I.tok _,⟨_,rfl⟩,q⟩
def IT {f:az->az->Sem az} {g:Int->Int->Int} (r:∀ (i j:Int) (t u:Tok) (s:Shared) (Q:az->Shared->Prop) (E:az->Shared->Prop),Q (.int (g i j) s.toks) { s with toks:=s.toks+1 }->wpAny (model X.prog X.w) X.A (f (.int i t) (.int j u)) Q E s) :
   ji X f (Hh λ i j => .int (g i j)):=by
 intro p s U H x y v u Q I R a h
 obtain ⟨i,j,rfl,rfl,q⟩:=h
 obtain ⟨t,rfl⟩:=R
 obtain ⟨t',rfl⟩:=a
 exact r i j t t' s _ _ ⟨.int (g i j),H,I.tok _,⟨_,rfl⟩,q⟩
def HU {f:az->az->Sem az} {g:Int->Int->Bool} (r:∀ (i j:Int) (t u:Tok) (s:Shared) (Q:az->Shared->Prop) (E:az->Shared->Prop),Q (.bool (g i j)) s->wpAny (model X.prog X.w) X.A (f (.int i t) (.int j u)) Q E s) :
   ji X f (Hh λ i j => .bl (g i j)):=by
 intro p s U H x y v u Q I R a h
 obtain ⟨i,j,rfl,rfl,q⟩:=h
 obtain ⟨t,rfl⟩:=R
 obtain ⟨t',rfl⟩:=a
 exact r i j t t' s _ _ ⟨.bl (g i j),H,I,rfl,q⟩
def HA (i j:Int):Prop:=0<=j/\j<=1000000/\i.natAbs<2 ^ 64
def AO (k:Nat):(0:Int)<=2 ^ k:=by
 rw [two_pow_cast]
 exact aa3 _
def Mx:ji X (binaryOp .Add) (Hh λ i j => .int (i+j)):=IT λ Z Z Z Z Z Z Z q=>add_int q
def Mu:ji X (binaryOp .Sub) (Hh λ i j => .int (i - j)):=IT λ Z Z Z Z Z Z Z q=>sub_int q
def Kv:ji X (binaryOp .Mod) (rI (λ Z j=>0<j) λ i j => .int (i % j)):=M9 λ i j Z Z Z Z Z h q=>by
 have H:(0:Int)<j:=h
 exact mod_int' (by lia) (by rw [Int.fmod_eq_emod_of_nonneg i (by lia)];exact q)
def K7:ji X (binaryOp .Pow) (rI HA λ i j => .int (i ^ j.toNat)):=M9 λ Z Z Z Z Z Z Z h q=>pow_int_small h.1 h.2.1 h.2.2 q
def MK:ji X (binaryOp .LShift) (rI HA λ i j => .int (i * 2 ^ j.toNat)):=M9 λ Z Z Z Z Z Z Z h q=>lshift_int_small h.1 h.2.1 h.2.2 q
def LQ:ji X (binaryOp .RShift) (rI (λ Z j=>0<=j) λ i j => .int (i / 2 ^ j.toNat)):=M9 λ i j Z Z Z Z Z h q =>
 rshift_int h (by rw [ab4 i (AO _)];exact q)
def Mz:ji X (binaryOp .BitAnd) (Hh λ i j => .int (Builtin.bitAnd i j)):=IT λ Z Z Z Z Z Z Z q=>and_int q
def O2:ji X (binaryOp .BitOr) (Hh λ i j => .int (Builtin.bitOr i j)):=IT λ Z Z Z Z Z Z Z q=>or_int q
def Yx {f:az->Sem az} {g:Int->Int} (r:∀ (i:Int) (t:Tok) (s:Shared) (Q:az->Shared->Prop) (E:az->Shared->Prop),Q (.int (g i) s.toks) { s with toks:=s.toks+1 }->wpAny (model X.prog X.w) X.A (f (.int i t)) Q E s) :
   RW X f (rU λ i => .int (g i)):=by
 intro p s U H x v Q I R h
 obtain ⟨i,rfl,q⟩:=h
 obtain ⟨t,rfl⟩:=R
 exact r i t s _ _ ⟨.int (g i),H,I.tok _,⟨_,rfl⟩,q⟩
def tV:RW X (unaryOp .USub) (rU λ i => .int (-i)):=Yx λ Z Z Z Z Z q=>neg_int q
def BI:RW X (unaryOp .Invert) (rU λ i => .int (Builtin.bitNot i)):=Yx λ Z Z Z Z Z q=>invert_int q
end
def NT:V->V->Bool
 | .cL,.cL=>true | .cL,.int _=>true | .int _,.cL=>true | .cL,.bl _=>true | .bl _,.cL=>true | .cL,.str _=>true | .str _,.cL=>true
 | .int _,.int _=>true | .bl _,.bl _=>true | .str _,.str _=>true | .Ei _,.Ei _=>true
 | .int _,.str _=>true | .str _,.int _=>true | .bl _,.str _=>true | .str _,.bl _=>true
 | _,_=>false
def rEq:R2:=λ x y H Q=>NT x y=true/\Q (.bl (decide (x=y))) H
def rNe:R2:=λ x y H Q=>NT x y=true/\Q (.bl (!decide (x=y))) H
def Cq {i j:Int}:decide (V.int i=V.int j)=(i == j):=by
 rw [ab1]
 simp
def Fy {i j:Bool}:decide (V.bl i=V.bl j)=(i == j):=by
 rw [ab1]
 simp
def CB {i j:Str}:decide (V.str i=V.str j)=(i == j):=by
 rw [ab1]
 simp
def Co {i j:Array UInt8}:decide (V.Ei i=V.Ei j)=(i.toList == j.toList):=by
 rw [ab1]
 cases i
 cases j
 simp
section
variable {X:Cx} {a b c:Expr} {ta tb tc:TE} {pos:Pos}
def cq {p:List (am×Obj)} {s:Shared} {k K:Bool} (I:Inv X p U H s) (q:Q (.bl k) H) (e:k=K):EP X p U Q (.bool K) s:=by
 subst e
 exact ⟨.bl k,H,I,rfl,q⟩
def cV:ji X (compareOp .Eq) rEq:=by
 intro p s U H x y v u Q I R r h
 obtain ⟨a,q⟩:=h
 cases x with
 | cL =>
   cases R
   cases y with
   | cL=>cases r;exact PySem.EqNone.eq_none_none (cq I q (by simp))
   | bl j=>cases r;exact PySem.EqNone.eq_none_bool (cq I q (by simp))
   | int j=>obtain ⟨t',rfl⟩:=r;exact PySem.EqNone.eq_none_int (cq I q (by simp))
   | str j=>obtain ⟨t',rfl⟩:=r;exact PySem.EqNone.eq_none_str (cq I q (by simp))
   | _=>exact absurd (show false=true from a) aaE
 | bl i =>
   cases R
   cases y with
   | cL=>cases r;exact PySem.EqNone.eq_bool_none (cq I q (by simp))
   | bl j=>cases r;exact eq_bool (cq I q Fy)
   | str j=>obtain ⟨t',rfl⟩:=r;exact PySem.EqMixed.eq_bool_str (cq I q (by simp))
   | _=>exact absurd (show false=true from a) aaE
 | int i =>
   obtain ⟨t,rfl⟩:=R
   cases y with
   | cL=>cases r;exact PySem.EqNone.eq_int_none (cq I q (by simp))
   | int j=>obtain ⟨t',rfl⟩:=r;exact eq_int (cq I q Cq)
   | str j=>obtain ⟨t',rfl⟩:=r;exact PySem.EqMixed.eq_int_str (cq I q (by simp))
   | _=>exact absurd (show false=true from a) aaE
 | str i =>
   obtain ⟨t,rfl⟩:=R
   cases y with
   | cL=>cases r;exact PySem.EqNone.eq_str_none (cq I q (by simp))
   | bl j=>cases r;exact PySem.EqMixed.eq_str_bool (cq I q (by simp))
   | int j=>obtain ⟨t',rfl⟩:=r;exact PySem.EqMixed.eq_str_int (cq I q (by simp))
   | str j=>obtain ⟨t',rfl⟩:=r;exact eq_str (cq I q CB)
   | _=>exact absurd (show false=true from a) aaE
 | Ei i =>
   obtain ⟨t,rfl⟩:=R
   cases y with
   | Ei j=>obtain ⟨t',rfl⟩:=r;exact W.eq_bytes (cq I q Co)
   | _=>exact absurd (show false=true from a) aaE
 | _=>cases y<;>exact absurd (show false=true from a) aaE
def rS:ji X (compareOp .NotEq) rNe:=by
 intro p s U H x y v u Q I R r h
 obtain ⟨a,q⟩:=h
 cases x with
 | cL =>
   cases R
   cases y with
   | cL=>cases r;exact PySem.EqNone.ne_none_none (cq I q (by simp))
   | bl j=>cases r;exact PySem.EqNone.ne_none_bool (cq I q (by simp))
   | int j=>obtain ⟨t',rfl⟩:=r;exact PySem.EqNone.ne_none_int (cq I q (by simp))
   | str j=>obtain ⟨t',rfl⟩:=r;exact PySem.EqNone.ne_none_str (cq I q (by simp))
   | _=>exact absurd (show false=true from a) aaE
 | bl i =>
   cases R
   cases y with
   | cL=>cases r;exact PySem.EqNone.ne_bool_none (cq I q (by simp))
   | bl j=>cases r;exact ne_bool (cq I q (abV not Fy))
   | str j=>obtain ⟨t',rfl⟩:=r;exact PySem.EqMixed.ne_bool_str (cq I q (by simp))
   | _=>exact absurd (show false=true from a) aaE
 | int i =>
   obtain ⟨t,rfl⟩:=R
   cases y with
   | cL=>cases r;exact PySem.EqNone.ne_int_none (cq I q (by simp))
   | int j=>obtain ⟨t',rfl⟩:=r;exact ne_int (cq I q (abV not Cq))
   | str j=>obtain ⟨t',rfl⟩:=r;exact PySem.EqMixed.ne_int_str (cq I q (by simp))
   | _=>exact absurd (show false=true from a) aaE
 | str i =>
   obtain ⟨t,rfl⟩:=R
   cases y with
   | cL=>cases r;exact PySem.EqNone.ne_str_none (cq I q (by simp))
   | bl j=>cases r;exact PySem.EqMixed.ne_str_bool (cq I q (by simp))
   | int j=>obtain ⟨t',rfl⟩:=r;exact PySem.EqMixed.ne_str_int (cq I q (by simp))
   | str j=>obtain ⟨t',rfl⟩:=r;exact ne_str (cq I q (abV not CB))
   | _=>exact absurd (show false=true from a) aaE
 | Ei i =>
   obtain ⟨t,rfl⟩:=R
   cases y with
   | Ei j=>obtain ⟨t',rfl⟩:=r;exact W.ne_bytes (cq I q (abV not Co))
   | _=>exact absurd (show false=true from a) aaE
 | _=>cases y<;>exact absurd (show false=true from a) aaE
def jR:ji X (compareOp .Lt) (Hh λ i j => .bl (decide (i<j))):=HU λ Z Z Z Z Z Z Z q=>lt_int q
def jq:ji X (compareOp .LtE) (Hh λ i j => .bl (decide (i<=j))):=HU λ Z Z Z Z Z Z Z q=>le_int q
def tJ:ji X (compareOp .Gt) (Hh λ i j => .bl (decide (j<i))):=HU λ Z Z Z Z Z Z Z q=>gt_int q
def Fe:ji X (compareOp .GtE) (Hh λ i j => .bl (decide (j<=i))):=HU λ Z Z Z Z Z Z Z q=>ge_int q
def lM:ji X (compareOp .Is) (λ x y H Q=>y = .cL/\Q (.bl (decide (x = .cL))) H):=by
 intro p s U H x y v u Q I r R h
 obtain ⟨rfl,q⟩:=h
 cases R
 refine is_none_gen (cq I q ?_)
 cases x<;>first
   | (cases r;rfl)
   | (obtain ⟨t,rfl⟩:=r;rfl)
def pF:ji X (compareOp .IsNot) (λ x y H Q=>y = .cL/\Q (.bl (!decide (x = .cL))) H):=by
 intro p s U H x y v u Q I r R h
 obtain ⟨rfl,q⟩:=h
 cases R
 refine isnot_none_gen (cq I q ?_)
 cases x<;>first
   | (cases r;rfl)
   | (obtain ⟨t,rfl⟩:=r;rfl)
def aM (b:Expr) {o:CmpOp} (h:autoParam (o ≠ .In) zb_._auto_1) (H:autoParam (o ≠ .NotIn) zb_._auto_1):behindInMarks o b=false:=by
 have e:(o == CmpOp.In)=false:=by cases o<;>first|rfl|exact absurd rfl h
 have E:(o == CmpOp.NotIn)=false:=by cases o<;>first|rfl|exact absurd rfl H
 cases b<;>simp [behindInMarks,e,E]
def dh {o:CmpOp} {r:R2} (g:ji X (compareOp o) r) (d:PE X a ta) (e:PE X b tb) (f:behindInMarks o b=false):PE X (.Compare a [o] [b] pos) (Rz r ta tb):=by
 intro p s U H Q I h
 exact wpAny_Compare1 (ML d e I h λ v u S x y c i R j q=>g p S U c x y v u Q i R j q) f
inductive UC (Q:Bool->Hp->Prop) (x:V) (H:Hp):Prop|mk (k:Bool) (h:x = .bl k) (q:Q k H)
def JJ (t:TE):TT:=λ U H Q=>t U H (UC Q)
def aL {o:CmpOp} {r:R2} (t:ji X (compareOp o) r) (m:PE X a ta) (n:PE X b tb) (q:behindInMarks o b=false):PT X (.Compare a [o] [b] pos) (JJ (Rz r ta tb)):=by
 intro p s U H Q I h
 refine wpAny_isTrue_Compare1 (cU (m p s U H _ I h) λ v S ⟨x,d,i,R,w⟩=>cU (n p S U d _ i w) λ u E ⟨y,f,j,C,A⟩ =>
   cU (t p E U f x y v u _ j R C A) λ c F ⟨z,g,l,D,k,e,B⟩=>?_) q
 subst e
 cases D
 exact abw ⟨g,l,B⟩
def GJ (r R:R2) (t tb T:TE):TE:=λ U H Q=>t U H λ x a=>tb U a λ y b=>r x y b λ z h=>∃ k,z = .bl k /\
 (if k=true then T U h λ w c=>R y w c Q else Q (.bl false) h)
def GV {o M:CmpOp} {r R:R2} (F:ji X (compareOp o) r) (C:ji X (compareOp M) R) (A:PE X a ta) (B:PE X b tb) (D:PE X c tc) (E:autoParam (lastMarks [o,M] [b,c]=false) ze_._auto_1):PE X (.Compare a [o,M] [b,c] pos) (GJ r R ta tb tc):=by
 intro p s U H Q I h
 refine Compare_chain (cU (A p s U H _ I h) λ v S ⟨x,j,n,L,G⟩=>chain_link (cU (B p S U j _ n G) λ u T ⟨y,l,t,g,J⟩ =>
   cU (F p T U l x y v u _ t L g J) λ d V ⟨z,f,i,N,k,e,q⟩=>?_)) E
 subst e
 cases N
 refine abw ?_
 cases k with
 | false=>exact ite_ff ⟨.bl false,f,i,rfl,q⟩
 | true=>exact ite_tt (chain_last (cU (D p V U f _ i q) λ Y W ⟨z',m,w,O,K⟩=>C p W U m y z' u Y Q w g O K))
def jQ {o M:CmpOp} {r R:R2} (L:ji X (compareOp o) r) (C:ji X (compareOp M) R) (F:PE X a ta) (G:PE X b tb) (J:PE X c tc) (K:autoParam (lastMarks [o,M] [b,c]=false) ze_._auto_1):PT X (.Compare a [o,M] [b,c] pos) (JJ (GJ r R ta tb tc)):=by
 intro p s U H Q I h
 refine isTrue_chain (cU (F p s U H _ I h) λ v s1 ⟨x,j,t,W,O⟩=>test_link (cU (G p s1 U j _ t O) λ u s2 ⟨y,l,w,g,S⟩ =>
   cU (L p s2 U l x y v u _ w W g S) λ d s3 ⟨z,f,i,Y,k,e,q⟩=>?_)) K
 subst e
 cases Y
 refine abw ?_
 cases k with
 | false =>
   obtain ⟨k',E,N⟩:=q
   cases E
   exact ite_ff ⟨f,i,N⟩
 | true =>
   refine ite_tt (test_last (cU (J p s3 U f _ i q) λ w' s4 ⟨z',m,A,r4,T⟩=>cU (C p s4 U m y z' u w' _ A g r4 T) λ d' s5 ⟨z2,n,B,r5,k2,D,V⟩=>?_))
   subst D
   cases r5
   exact abw ⟨n,B,V⟩
def uo:(sizeLine:Nat)<2 ^ 63:=by rw [sizeLine_eq];decide
def vals1 {x:V} {us:bM} (r:Vals [x] us):∃ u,us=[u]/\RelV x u:=by
 cases r with
 | cons R a=>cases a;exact ⟨_,rfl,R⟩
def vals2 {x y:V} {us:bM} (r:Vals [x,y] us):∃ u w',us=[u,w']/\RelV x u/\RelV y w':=by
 cases r with
 | cons R a =>
   cases a with
   | cons b c=>cases c;exact ⟨_,_,rfl,R,b⟩
def GD:jg X (.builtin "abs") (λ xs H Q=>∃ i,xs=[.int i]/\Q (.int (if i<0 then -i else i)) H):=by
 intro p s U H xs a Q I r h
 obtain ⟨i,rfl,q⟩:=h
 obtain ⟨u,rfl,t,rfl⟩:=vals1 r
 exact call_abs_int λ u T=>⟨.int (if i<0 then -i else i),H,I.tok _,⟨_,rfl⟩,q⟩
def qz (b:X.calm=true):jg X (.builtin "max") (λ xs H Q=>∃ i j,xs=[.int i,.int j]/\Q (.int (if j > i then j else i)) H):=by
 intro p s U H xs d Q I r h
 obtain ⟨i,j,rfl,q⟩:=h
 obtain ⟨u,w,rfl,⟨t,rfl⟩,⟨t',rfl⟩⟩:=vals2 r
 refine max_two_ints (I.ok.hd b) λ c T k=>⟨_,H,I.kept k,?_,q⟩
 by_cases a:j > i
 . rw [aan a,aan a];exact ⟨_,rfl⟩
 . rw [aap a,aap a];exact ⟨_,rfl⟩
def vM (b:X.calm=true):jg X (.builtin "min") (λ xs H Q=>∃ i j,xs=[.int i,.int j]/\Q (.int (if j<i then j else i)) H):=by
 intro p s U H xs d Q I r h
 obtain ⟨i,j,rfl,q⟩:=h
 obtain ⟨u,w,rfl,⟨t,rfl⟩,⟨t',rfl⟩⟩:=vals2 r
 refine min_two_ints (I.ok.hd b) λ c T k=>⟨_,H,I.kept k,?_,q⟩
 by_cases a:j<i
 . rw [aan a,aan a];exact ⟨_,rfl⟩
 . rw [aap a,aap a];exact ⟨_,rfl⟩
def qF:jg X (.type "int") (λ xs H Q=>(∃ i,xs=[.int i]/\Q (.int i) H)\/∃ k,xs=[.bl k]/\Q (.int (if k then 1 else 0)) H):=by
 intro p s U H xs a Q I r h
 rcases h with ⟨i,rfl,q⟩|⟨k,rfl,q⟩
 . obtain ⟨u,rfl,t,rfl⟩:=vals1 r
   exact call_int_int ⟨.int i,H,I,⟨_,rfl⟩,q⟩
 . obtain ⟨u,rfl,R⟩:=vals1 r
   cases R
   exact call_int_bool ⟨.int (if k then 1 else 0),H,I.tok _,⟨_,rfl⟩,q⟩
end
structure AI (h:bG) (x dx C:am) (mA:dW):Prop where
 obj:h.get? x=some (W.instObj C dx)
 ns:h.Ns1 dx mA
 ne:dx≠x
def DM {h:bG} {dx:am} {m:dW} (n:h.Ns1 dx m):∃ O,h.get? dx=some O/\∀ name,W.lookIn name O=some (m name):=by
 obtain ⟨o,es,E,f,H,c,_,d⟩:=n
 refine ⟨o,f,λ name=>?_⟩
 have e:=d name
 unfold nsFind findBy at e
 rw [<- Array.find?_toList] at e
 unfold W.lookIn
 rw [H]
 dsimp only
 split
 . rename_i y q
   rw [q] at e
   exact abV some e
 .
  rename_i q
  rw [q] at e
  have a:es.toList.any (·.refKey)=false:=by
    rw [List.any_eq_false]
    intro y g
    obtain ⟨z,t,A⟩:=c y (Array.mem_toList_iff.mp g)
    simp [DictEntry.refKey,A]
  have b:¬ es.toList.any (·.refKey)=true:=by rw [a];exact aaE
  rw [aap b]
  exact abV some e
def AI.look {h:bG} {x dx C:am} {m:dW} (I:AI h x dx C m):∃ o,W.InstAt h x (W.instObj C dx) C (some o)/\∀ name,W.lookIn name o=some (m name) :=
 let ⟨o,a,H⟩:=DM I.ns
 ⟨o,⟨I.obj,rfl,rfl,a⟩,H⟩
section
variable {prog:bE} {w:bz} {A:Around} {E:az->Shared->Prop} {s:Shared} {K:aD} {x dx C f:am} {mA:dW} {name:Str} {v:az}
def get_map {e:Bool} {Q:az->Shared->Prop} (X:K.In s.heap) (I:AI s.heap x dx C mA) (b:W.plainGet K C name=true) (c:W.hasDictIn K C=true) (a:W.findIn K (.ref C) name=some none) (f:mA name=some v) (H:W.handedIn v=true) (h:Q v { s with toks:=s.toks+1 }) :
   wpAny (model prog w) A (getAttr (.ref x) name e) Q E s:=by
 obtain ⟨o,J,d⟩:=I.look
 exact W.get_value X J (W.plainGet_of b).1 (W.findObj_own c a rfl (by rw [d,f])) H h
def GQ {pl:Sem Bool} {Q:az×bM->Shared->Prop} (X:K.In s.heap) (I:AI s.heap x dx C mA) (H:W.plainGet K C name=true) (a:W.findIn K (.ref C) name=some (some (.ref f))) (c:W.isFn K (.ref f)=true) (d:mA name=none) (h:Q (.ref f,[.ref x]) s) :
   wpAny (model prog w) A (getMethod (.ref x) name pl) Q E s:=by
 obtain ⟨o,J,b⟩:=I.look
 exact W.method_fn X J (W.plainGet_of H).1 (W.plainGet_of H).2 a (ace.mp c) (by show (W.lookIn name o).map (·.isSome)=some false;rw [b,d];rfl) h
def II {ns:cZ} {Q:Unit->Shared->Prop} (X:K.In s.heap) (I:AI s.heap x dx C mA) (k:W.findIn K (.ref C) "__setattr__" = some (some (.builtin "object.__setattr__"))) (j:W.plainOver K C=true) (l:W.takerIn K C name=some none) (i:W.hasDictIn K C=true) (hw:PySem.Within mA ns) (hsz:ns.length<=sizeLine) (h:∀ h',AI h' x dx C (λ y=>if y=name then some v else mA y)->Heap.SameBut dx s.heap h'->Q () { s with heap:=h',toks:=s.toks+2 }) :
   wpAny (model prog w) A (setAttr (.ref x) name v) Q E s:=by
 obtain ⟨p,J,o⟩:=I.look
 refine W.set_plain X J k (W.osa_open (s:={ s with toks:=s.toks+1 }) (r:=none) X J j l λ b=>?_)
 obtain ⟨n,g,U⟩:=W.any_some i
 have m:s.heap.get? x=some ⟨.ref C,some dx,.plain,#[]⟩:=I.obj
 refine aah (aaB (aah (aah (wpAny_loadPart m (aah (W.Looks.here (s:={ s with toks:=s.toks+1 }) (W.looks_clsIn X g) ?_))))))
 rw [U]
 refine aaB (a:=some dx) (aah (aaB (aah ?_)))
 refine wpAny_nsSet1 (s:={ s with toks:=s.toks+1 }) I.ns λ h' z G=>?_
 obtain ⟨O,f,e,d,c,H⟩:=z.count (PySem.Within.cons name v hw)
 refine aah (wpAny_lookBehind d (by rw [c];exact pastItsLine_dict (aax H (by rw [aaX];lia))) ?_)
 exact aaB (h _ ⟨(G.2 _ (acy I.ne)).trans I.obj,z,I.ne⟩ G)
def GG {R:Result->Shared->Prop} {vs:bM} {k:List (Str×az)} (X:K.In s.heap) (b:W.makesIn K C=true) (a:W.findIn K (.ref C) "__init__" = some (some (.ref f))) (H:W.typeIn K (.ref f)=some (.type "function")) (h:codeAny (model prog w) (A.under (.builtin "type.__call__" ⟨.ref C::vs,k⟩)) (.call (.ref f) ⟨.ref (s.heap.objs.size+1)::vs,k⟩) (W.InitBack (s.heap.objs.size+1) R)
     { s with heap:=(s.heap.push W.emptyDict).push (W.instObj C s.heap.objs.size)}) :
   codeAny (model prog w) A (.call (.ref C) ⟨vs,k⟩) R s:=by
 obtain ⟨c,g,d,t,o⟩:=s
 exact W.make_core (W.makes_of X b) (W.looks_findIn X a) (λ S=>W.bind_fn X S H) (.inl rfl) h
end
def aP (f:Str) (v:V):List (Str×V)->List (Str×V)
 | []=>[(f,v)]
 | (g,x)::r=>if g=f then (g,v)::r else (g,x)::aP f v r
theorem rF (f g:Str) (v:V):∀ fs:List (Str×V),(aP f v fs).lookup g=if g=f then some v else fs.lookup g
 | []=>by
   show List.lookup g [(f,v)]=_
   by_cases h:g=f
   . have H:(g == f)=true:=ace.mpr h
     simp only [List.lookup,H,aan h]
   . have H:(g == f)=false:=abE.mpr h
     simp only [List.lookup,H,aap h]
 | (k,x)::r=>by
   have i:=rF f g v r
   rw [show aP f v ((k,x)::r)=(if k=f then (k,v)::r else (k,x)::aP f v r) from rfl]
   by_cases a:k=f
   .
    rw [aan a]
    by_cases h:g=k
    . have H:(g == k)=true:=ace.mpr h
      simp only [List.lookup,H,aan (h.trans a)]
    . have H:(g == k)=false:=abE.mpr h
      simp only [List.lookup,H,aap (λ e:g=f=>h (e.trans a.symm))]
   .
    rw [aap a]
    by_cases h:g=k
    . have H:(g == k)=true:=ace.mpr h
      simp only [List.lookup,H,aap (λ e:g=f=>a (h.symm.trans e))]
    . have H:(g == k)=false:=abE.mpr h
      simp only [List.lookup,H]
      exact i
theorem qH (f:Str) (v:V):∀ fs:List (Str×V),f∈(aP f v fs).map (·.1)/\∀ g,g∈fs.map (·.1)->g∈(aP f v fs).map (·.1)
 | []=>⟨by simp [aP],λ g h=>by simp at h⟩
 | (k,x)::r=>by
   obtain ⟨i,I⟩:=qH f v r
   rw [show aP f v ((k,x)::r)=(if k=f then (k,v)::r else (k,x)::aP f v r) from rfl]
   by_cases H:k=f
   . rw [aan H]
     subst H
     exact ⟨by simp,λ g h=>by simpa using h⟩
   .
    rw [aap H]
    refine ⟨?_,λ g h=>?_⟩
    . rw [aaS]
      exact aai _ i
    . rw [aaS] at h |-
      rcases aaa.mp h with e|e
      . exact aaa.mpr (.inl e)
      . exact aai _ (I g e)
theorem rB (f:Str) (v:V):∀ fs:List (Str×V),(aP f v fs).length<=fs.length+1
 | []=>by simp [aP]
 | (k,x)::r=>by
   have i:=rB f v r
   rw [show aP f v ((k,x)::r)=(if k=f then (k,v)::r else (k,x)::aP f v r) from rfl]
   by_cases h:k=f
   . rw [aan h,aaX,aaX];lia
   . rw [aap h,aaX,aaX];lia
def kX.some_of {o:jF} (r:kX (some v) o):∃ u,o=some u/\RelV v u:=by
 cases o with
 | none=>exact (show False from r).elim
 | some u=>exact ⟨u,rfl,r⟩
def kX.none_of {o:jF} (r:kX none o):o=none:=by
 cases o with
 | none=>rfl
 | some u=>exact (show False from r).elim
def Ds {u:az} (r:RelV v u):W.handedIn u=true:=by
 cases v with
 | cL=>cases (show u=Value.none from r);rfl
 | bl b=>cases (show u=Value.bool b from r);rfl
 | int i=>obtain ⟨t,e⟩:=(show ∃ t,u=Value.int i t from r);cases e;rfl
 | str x=>obtain ⟨t,e⟩:=(show ∃ t,u=Value.str x t from r);cases e;rfl
 | Ei b=>obtain ⟨t,e⟩:=(show ∃ t,u=Value.bytes b t from r);cases e;rfl
 | Kb b=>obtain ⟨t,e⟩:=(show ∃ t,u=Value.float b t from r);cases e;rfl
 | ref a=>cases (show u=Value.ref a from r);rfl
 | ty n=>cases (show u=Value.type n from r);rfl
section
variable {P:bE} {w:bz} {H:Hp} {h:bG} {a C dx:am} {fs:List (Str×V)}
def sR (D:oJ P w H h) (e:H a=some (.ins C dx fs)):∃ m,AI h a dx C m/\(∀ f,kX (fs.lookup f) (m f))/\PySem.Within m (fs.map (·.1))/\fs.length<=1000/\H dx=some (.own a):=by
 obtain ⟨d,z,N,o,m,n,r,q⟩:=(show dA P w H h a (.ins C dx fs) from D a _ e)
 exact ⟨m,⟨o,n,N⟩,r,q,z,d⟩
end
structure yG (K:aD) (C:am):Prop where
 pg:W.plainGet K C Str.empty=true
 hd:W.hasDictIn K C=true
 po:W.plainOver K C=true
 sa:W.findIn K (.ref C) "__setattr__" = some (some (.builtin "object.__setattr__"))
def yG.get {K:aD} {C:am} (c:yG K C) (f:Str):W.plainGet K C f=true:=c.pg
def cQ (K:aD) (C:am) (f:Str):Prop:=W.findIn K (.ref C) f=some none
def cQ.Nt {K:aD} {C:am} {f:Str} (n:cQ K C f):W.takerIn K C f=some none:=by
 unfold W.takerIn
 rw [show W.findIn K (.ref C) f=some none from n]
 rfl
structure Meth (K:aD) (C:am) (m:Str) (f:am):Prop where
 at_:W.findIn K (.ref C) m=some (some (.ref f))
 fn:W.isFn K (.ref f)=true
 kp:W.keepIn K (.ref f)=true
section
variable {X:Cx} {pins:List (am×Obj)} {U:St} {H:Hp} {s:Shared} {a C dx:am} {fs:List (Str×V)} {f:Str} {v:V} {A:Around} {E:az->Shared->Prop}
def AC {b:Bool} {Q:az->Shared->Prop} (I:Inv X pins U H s) (e:H a=some (.ins C dx fs)) (c:yG X.K C) (n:cQ X.K C f) (l:fs.lookup f=some v) (h:∀ u s',Inv X pins U H s'->RelV v u->Q u s'):wpAny (model X.prog X.w) A (getAttr (.ref a) f b) Q E s:=by
 obtain ⟨m,O,r,Z,Z,Z⟩:=sR I.dR e
 obtain ⟨u,d,R⟩:=kX.some_of (v:=v) (o:=m f) (by rw [<- l];exact r f)
 exact get_map I.sI O (c.get f) c.hd n d (Ds R) (h u _ (I.tok _) R)
def tz {m:Str} {g:am} {pl:Sem Bool} {Q:az×bM->Shared->Prop} (I:Inv X pins U H s) (e:H a=some (.ins C dx fs)) (c:yG X.K C) (k:Meth X.K C m g) (l:fs.lookup m=none) (h:Q (.ref g,[.ref a]) s):wpAny (model X.prog X.w) A (getMethod (.ref a) m pl) Q E s:=by
 obtain ⟨M,O,r,Z,Z,Z⟩:=sR I.dR e
 have b:M m=none:=kX.none_of (by rw [<- l];exact r m)
 exact GQ I.sI O (c.get m) k.at_ k.fn b h
def AG {y:V} {u:az} {Q:Unit->Shared->Prop} (I:Inv X pins U H s) (e:H a=some (.ins C dx fs)) (c:yG X.K C) (n:cQ X.K C f) (B:fs.length<1000) (R:RelV y u) (h:∀ s',Inv X pins U (upd H a (.ins C dx (aP f y fs))) s'->Q () s'):wpAny (model X.prog X.w) A (setAttr (.ref a) f u) Q E s:=by
 obtain ⟨m,O,r,W,Z,i⟩:=sR I.dR e
 have v:(fs.map (·.1)).length<=sizeLine:=by rw [M1,sizeLine_eq];lia
 refine II I.sI O c.sa c.po n.Nt c.hd W v λ k d S=>h _ ?_
 have p:∃ o,k.get? dx=some o:=let ⟨o,_,_,j,_⟩:=d.ns;⟨o,j⟩
 refine I.write (x:=a) (e:=dx) (by rw [e];exact True.intro) (.inr i) (λ b q l z=>(S.2 b l).trans z) p ?_
 refine ⟨by rw [aw O.ne];exact i,?_,O.ne,d.obj,_,d.ns,λ g=>?_,λ g t=>?_⟩
 . have:=rB f y fs;lia
 .
  show kX ((aP f y fs).lookup g) (if g=f then some u else m g)
  rw [rF]
  by_cases q:g=f
  . rw [aan q,aan q];exact R
  . rw [aap q,aap q];exact r g
 .
  by_cases q:g=f
  . rw [q];exact (qH f y fs).1
  . refine (qH f y fs).2 g (W g λ z=>t ?_)
    show (if g=f then some u else m g)=none
    rw [aap q];exact z
def Inv.made (I:Inv X pins U H s):Inv X pins U (upd (upd H s.heap.objs.size (.own (s.heap.objs.size+1))) (s.heap.objs.size+1) (.ins C s.heap.objs.size []))
   { s with heap:=(s.heap.push W.emptyDict).push (W.instObj C s.heap.objs.size)}:=by
 have E:(s.heap.push W.emptyDict).get? s.heap.objs.size=some W.emptyDict:=aaQ s.heap rfl
 have c:((s.heap.push W.emptyDict).push (W.instObj C s.heap.objs.size)).get? (s.heap.objs.size+1)=some (W.instObj C s.heap.objs.size):=by
   have:=aaQ (s.heap.push W.emptyDict) (o:=W.instObj C s.heap.objs.size) rfl
   rwa [ac2] at this
 have d:(s.heap.push W.emptyDict).Ns s.heap.objs.size (λ Z=>none):=⟨W.emptyDict,#[],_,E,rfl,(λ e h=>absurd h (by simp)),λ Z=>rfl⟩
 have i:=I.laid (a:=s.heap.objs.size) (o:=.own (s.heap.objs.size+1)) (h':=s.heap.push W.emptyDict) (t':=s.toks) (λ b u q=>aam _ q) (aaj _) ⟨_,E⟩
 refine i.laid (a:=s.heap.objs.size+1) (o:=.ins C s.heap.objs.size []) (t':=s.toks) (λ b u q=>aam _ q) (Nat.le_of_eq (ac2 _ _)) ?_
 have n:s.heap.objs.size≠s.heap.objs.size+1:=aaN (adz _)
 refine ⟨by rw [aw n,af],aaZ _,n,c,λ Z=>none,(Heap.Ns1.of_empty d).at λ o q=>aam _ q,λ Z=>True.intro,λ y f=>absurd rfl f⟩
def IR {prog:bE} {w:bz} {env:Env} {e:Expr} {f:Str} {p:Pos} {s:Shared} {Q:az->Shared->Prop} (H:attributeBase e f env (eval e env)=eval e env) (h:wpAny (model prog w) A (eval e env) (λ o S=>wpAny (model prog w) A (getAttr o f true) Q E S) E s):wpAny (model prog w) A (eval (.Attribute e f p) env) Q E s :=
 Attribute_any_ h (by rw [arm_eval_Attribute,H])
end
inductive QA (K:aD) (f:Str) (Q:VK) (x:V) (H1:Hp):Prop|mk (a C dx:am) (fs:List (Str×V)) (v:V) (h1:x = .ref a) (h2:H1 a=some (.ins C dx fs)) (h3:yG K C) (h4:cQ K C f) (h5:fs.lookup f=some v) (q:Q v H1)
def Us (K:aD) (t:TE) (f:Str):TE:=λ U H Q=>t U H (QA K f Q)
def Xu (K:aD) (t T:TE) (f:Str):TS:=λ D U H=>T U H λ y b=>t U b λ x h=>∃ a C d F,x = .ref a/\h a=some (.ins C d F)/\yG K C/\cQ K C f/\F.length<1000 /\
 D.nx U (upd h a (.ins C d (aP f y F)))
section
variable {X:Cx} {o e value:Expr} {f:Str} {pos pos':Pos} {ta tv:TE}
def bj (j:PE X e ta) (g:attributeBase e f X.env (eval e X.env)=eval e X.env):PE X (.Attribute e f pos) (Us X.K ta f):=by
 intro p s U H Q I h
 refine IR g (cU (j p s U H _ I h) λ u S ⟨x,b,i,R,a,C,D,F,v,ex,E,c,n,l,q⟩=>?_)
 subst ex
 obtain rfl:u=Value.ref a:=R
 exact AC i E c n l λ m k d r=>⟨v,b,d,r,q⟩
def eD (g:PE X o ta) (k:PE X value tv) (j:swapsWith value (some (.Attribute o f pos')) pos.line X.env=pure false):PS X (.Assign [.Attribute o f pos'] value pos) (Xu X.K ta tv f):=by
 intro p s U H D I h
 refine plainObj_wpAny_Assign_Attribute (cU (k p s U H _ I h) λ u S ⟨y,b,i,R,q⟩=>cU (g p S U b _ i q) λ O v ⟨x,m,d,r,a,C,t,F,ex,E,c,n,l,Q⟩=>?_) j
 subst ex
 obtain rfl:O=Value.ref a:=r
 exact AG d E c n l R λ w e=>⟨U,_,e,Q⟩
end
section
variable {X:Cx} {pins:List (am×Obj)} {U:St} {H:Hp} {s:Shared} {A:Around} {E:az->Shared->Prop} {Q:az->Shared->Prop} {c:az} {b:Bool}
inductive qM (K:aD) (H:Hp):V->az->Prop where
 | cL:qM K H .cL (.type "NoneType")
 | bl (x:Bool):qM K H (.bl x) (.type "bool")
 | int (i:Int):qM K H (.int i) (.type "int")
 | str (x:Str):qM K H (.str x) (.type "str")
 | Kb (x:UInt64):qM K H (.Kb x) (.type "float")
 | lst {a:am} {xs:aB} (e:H a=some (.lst xs)):qM K H (.ref a) (.type "list")
 | Ao {a:am} {o:Obj} {xs:aB} (e:H a=some (.Ao o (.lst xs))):qM K H (.ref a) (.type "list")
 | tup {a:am} {xs:aB} (e:H a=some (.tup xs)):qM K H (.ref a) (.type "tuple")
 | dK {a:am} {aE:List (Key×V)} (e:H a=some (.dK aE)):qM K H (.ref a) (.type "dict")
 | dT {a:am} {aE:List (List Key×V)} (e:H a=some (.dT aE)):qM K H (.ref a) (.type "dict")
 | ins {a C dx:am} {fs:List (Str×V)} (e:H a=some (.ins C dx fs)) (cl:yG K C) (ha:W.findIn K (.ref C) "__class__" = some (some (.builtin "object.__class__")))
     (hn:W.specialIn K (.builtin "object.__class__") "__get__" = some (some (.builtin "getset_descriptor.__get__"))) (Sq:W.takesIn K (.builtin "object.__class__")=some true)
     (hm:W.mroIn K C (.type "object")=some true):qM K H (.ref a) (.ref C)
def C7 {x:V} {u t:az} (I:Inv X pins U H s) (r:RelV x u) (ty:qM X.K H x t) (e:W.kitOne X.K t c=some b) (h:∀ T,Q (.bool b) { s with toks:=T }) :
   wpAny (model X.prog X.w) A (call (.builtin "isinstance") [u,c]) Q E s:=by
 cases ty with
 | cL=>cases (show u=Value.none from r);exact acq W.kitx_none I.sI True.intro e (λ z=>nomatch z) h
 | bl y=>cases (show u=Value.bool y from r);exact acq W.kitx_bool I.sI True.intro e (λ z=>nomatch z) h
 | int i=>obtain ⟨t,q⟩:=(show ∃ t,u=Value.int i t from r);cases q;exact acq W.kitx_int I.sI True.intro e (λ z=>nomatch z) h
 | str y=>obtain ⟨t,q⟩:=(show ∃ t,u=Value.str y t from r);cases q;exact acq W.kitx_str I.sI True.intro e (λ z=>nomatch z) h
 | Kb y=>obtain ⟨t,q⟩:=(show ∃ t,u=Value.float y t from r);cases q;exact acq W.kitx_float I.sI True.intro e (λ z=>nomatch z) h
 | @lst a g d =>
   cases (show u=Value.ref a from r)
   obtain ⟨Z,Z,n,Z,f⟩:=(show dA X.prog X.w H s.heap a (.lst g) from I.dR a _ d)
   exact acq W.kitx_list I.sI ⟨_,f,rfl⟩ e (λ z=>nomatch z) h
 | @Ao a F g d =>
   cases (show u=Value.ref a from r)
   obtain ⟨Z,Z,Z,n,Z,f⟩:=(show dA X.prog X.w H s.heap a (.Ao F (.lst g)) from I.dR a _ d)
   exact acq W.kitx_list I.sI ⟨_,f,rfl⟩ e (λ z=>nomatch z) h
 | @tup a g d =>
   cases (show u=Value.ref a from r)
   obtain ⟨Z,Z,Z,p⟩:=(show dA X.prog X.w H s.heap a (.tup g) from I.dR a _ d)
   obtain ⟨o,f,j,Z⟩:=p
   exact acq W.kitx_tuple I.sI ⟨o,f,j⟩ e (λ z=>nomatch z) h
 | @dK a k d =>
   cases (show u=Value.ref a from r)
   obtain ⟨Z,Z,R,Z,p⟩:=(show dA X.prog X.w H s.heap a (.dK k) from I.dR a _ d)
   obtain ⟨o,es,m,f,j,Z⟩:=p
   exact acq W.kitx_dict I.sI ⟨o,f,j.1⟩ e (λ z=>nomatch z) h
 | @dT a k d =>
   cases (show u=Value.ref a from r)
   obtain ⟨Z,Z,g,Z,o,es,m,f,j,Z⟩:=(show dA X.prog X.w H s.heap a (.dT k) from I.dR a _ d)
   exact acq W.kitx_dict I.sI ⟨o,f,j.1⟩ e (λ z=>nomatch z) h
 | @ins a C G L d l v D S B =>
   cases (show u=Value.ref a from r)
   obtain ⟨M,O,Z⟩:=sR I.dR d
   obtain ⟨N,J,Z⟩:=O.look
   exact acq (W.kitx_own (l.get _) l.hd v D S B) I.sI J e (λ z=>nomatch z) h
end
structure c8 (k:Nat) (A:Around):Prop where
 hd:A.handled=none
 dp:A.depth+3 * k+5<recursionLimit
 un:A.units+16 * k+200<cLine
def c8.mono {j k:Nat} {A:Around} (r:c8 k A) (h:j<=k):c8 j A:=⟨r.hd,by have:=r.dp;lia,by have:=r.un;lia⟩
theorem c8.deeper {k:Nat} {A:Around} (r:c8 (k+1) A) (env:Env):c8 k (A.deeper env) :=
 ⟨r.hd,by have:=r.dp;show A.depth+1+3 * k+5<_;lia,by have:=r.un;show A.units+3+16 * k+200<_;lia⟩
def AT {A:Around} {C:am} {us:bM} {k:List (Str×az)}:(A.under (.builtin "type.__call__" ⟨.ref C::us,k⟩)).depth=A.depth+1:=by
 first|rfl|simp [Around.under,Code.weight,Code.isCreation,Code.isGuard,Code.isCaller,Code.frames,Code.isFrame,guardIds]
def A2 {A:Around} {C:am} {us:bM} {k:List (Str×az)}:(A.under (.builtin "type.__call__" ⟨.ref C::us,k⟩)).units=A.units+1:=by
 first|rfl|simp [Around.under,Code.cUnits,Code.frames,Code.isFrame]
def c8.make {k:Nat} {A:Around} (r:c8 (k+1) A) (C:am) (us:bM) (K:List (Str×az)):c8 k (A.under (.builtin "type.__call__" ⟨.ref C::us,K⟩)) :=
 ⟨r.hd,by have:=r.dp;rw [AT];lia,by have:=r.un;rw [A2];lia⟩
theorem c8.depth {k:Nat} {A:Around} (r:c8 k A):A.depth<recursionLimit:=by have:=r.dp;lia
theorem c8.units {k:Nat} {A:Around} (r:c8 k A):A.units+64<cLine:=by have:=r.un;lia
def KZ:TA:=λ Z H Q=>Q [] H
def Nm (t:TE) (T:TA):TA:=λ U H Q=>t U H λ x h=>T U h λ X a=>Q (x::X) a
section
variable {X:Cx} {e:Expr} {es:List Expr} {te:TE} {t:TA} {pos:Pos}
def ag:PA X [] KZ:=λ Z Z Z Z H Q I h=>adM ⟨[],H,I,.nil,h⟩
def aa (d:PE X e te) (f:PA X es t) (g:autoParam (CU X e es) za_._auto_1):PA X (e::es) (Nm te t):=by
 intro pos p s U H Q I h
 rw [g]
 show wpAny _ _ (spliced ((false,eval e X.env)::backTo pos (starEach es X.env))) _ _ s
 refine acZ (cU (d p s U H _ I h) λ u S ⟨x,a,i,r,q⟩=>?_)
 exact cU (f pos p S U a _ i q) λ m l ⟨k,b,c,R,j⟩=>⟨x::k,b,c,.cons r R,j⟩
def Wg (t:TA):TE:=λ U H Q=>t U H λ x h=>x.length<=sizeLine/\∀ p,h p=none->Q (.ref p) (upd h p (.tup x))
def SM (t:TA):TE:=λ U H Q=>t U H λ x h=>x.length<=sizeLine/\∀ p,h p=none->Q (.ref p) (upd h p (.lst x))
def aZ {x} (h:PA X es t):PE X (.Tuple es x pos) (Wg t):=by
 intro p s U H Q I d
 refine wpAny_Tuple_spliced (cU (h pos p s U H _ I d) λ f S ⟨g,a,i,r,z,q⟩=>⟨by rw [<- r.length];exact z,?_⟩)
 have c:a S.heap.objs.size=none:=i.dR.fresh (aaj _)
 refine ⟨.ref S.heap.objs.size,upd a S.heap.objs.size (.tup g),i.laid (t':=S.toks) (λ b u e=>aam _ e) (aaj _) ?_,rfl,q _ c⟩
 exact ⟨z,f,r,⟨_,aaQ _ rfl,rfl,_,rfl⟩⟩
def bH (h:PA X es t):PE X (.List es pos) (SM t):=by
 intro p s U H Q I d
 refine wpAny_List_spliced (cU (h pos p s U H _ I d) λ f S ⟨x,a,i,r,z,q⟩=>⟨by rw [<- r.length];exact z,?_⟩)
 have c:a S.heap.objs.size=none:=i.dR.fresh (aaj _)
 refine ⟨.ref S.heap.objs.size,upd a S.heap.objs.size (.lst x),i.laid (t':=S.toks) (λ b u e=>aam _ e) (aaj _) ?_,rfl,q _ c⟩
 exact ⟨z,f,0,r,aaQ _ rfl⟩
end
abbrev Sp:=aB->Hp->VK->XK->Prop
abbrev G3:=List Env->Hp->Shared->XK->az->Shared->Prop
structure A1 (P:bE) (w:bz) (K:aD) (mg:dW) (base:bG) (A:Around) (outer:List Env) (s:Shared) (H:Hp):Prop where
 frames:A.frames=some outer
 mod:Mod K mg base
 bs:∀ b o,base.get? b=some o->s.heap.get? b=some o/\H b=none
 JF:base.objs.size<=s.heap.objs.size
 sL:s.heap.FunFrames base outer
 Mm:∀ b∈Ez outer,H b=none
 dR:oJ P w H s.heap
 bare:AllBare s.gens
def CE (outer:List Env) (P:bE) (w:bz) (H:Hp) (s:Shared) (Q:VK) (u:az) (s':Shared):Prop :=
 ∃ v h,s'.os=s.os/\AllBare s'.gens/\Un (Ez outer) [] H h s.heap s'.heap/\oJ P w h s'.heap/\RelV v u/\Q v h
def CR (C:G3) (outer:List Env) (P:bE) (w:bz) (H:Hp) (s:Shared) (Q:VK) (E:XK) (r:Result) (s':Shared):Prop :=
 match r with
 | .ok (.ret u)=>CE outer P w H s Q u s'
 | .ok _=>False
 | .error e=>C outer H s E e s'
structure lY (P:bE) (w:bz) (K:aD) (mg:dW) (base:bG) (CX:G3) (k:Nat) (f:am) (fd:FuncData) (ps:cZ) (sp:Sp):Prop where
 len:∀ vs H Q E,sp vs H Q E->vs.length=ps.length
 run:∀ (A:Around) (outer:List Env) (s:Shared) (H:Hp) (args:Args) (us:bM) (vs:aB) (Q:VK) (E:XK),c8 k A->A1 P w K mg base A outer s H->BindsTo s fd args (ps.zip us)->Vals vs us->sp vs H Q E ->
   codeAny (model P w) A (.call (.ref f) args) (CR CX outer P w H s Q E) s
def A1.make {P:bE} {w:bz} {K:aD} {m:dW} {b:bG} {A:Around} {outer:List Env} {s:Shared} (e:A1 P w K m b A outer s H) (C:am) (us:bM) (k:List (Str×az)) :
   A1 P w K m b (A.under (.builtin "type.__call__" ⟨.ref C::us,k⟩)) outer s H:=⟨by first|exact e.frames|(simpa [Around.under,Code.envs,Code.isFrame,pushEnvs] using e.frames),e.mod,e.bs,e.JF,e.sL,e.Mm,e.dR,e.bare⟩
section
variable {X:Cx} {pins:List (am×Obj)} {U:St} {H:Hp} {s s':Shared}
def Inv.OX (I:Inv X pins U H s):A1 X.prog X.w X.K X.mg X.base X.A X.stack s H :=
 ⟨I.ok.frames,I.ok.mod,I.bs,aax I.ok.JF I.sz,I.stack,I.Ce,I.dR,I.bare⟩
def Inv.after {u:az} (I:Inv X pins U H s) (h:CE X.stack X.prog X.w H s Q u s'):EP X pins U Q u s':=by
 obtain ⟨v,a,O,B,e,D,r,q⟩:=h
 obtain ⟨c,g,d,t,o⟩:=s'
 obtain rfl:o=s.os:=O
 exact ⟨v,a,I.call (h':=c) (g':=g) (d':=d) (t':=t) (ch:=[]) e D B (λ b z=>absurd z (by simp)),r,q⟩
end
def CF (s:Sp) (i:aB) (E:XK) (t:TA):TE:=λ U H Q=>t U H λ v h=>s (v++i) h Q E
inductive Mj (C:am) (m:Str) (sp:Sp) (iG:aB) (E:XK) (t:TA) (U:St) (Q:VK) (x:V) (H1:Hp):Prop|mk (a dx:am) (fs:List (Str×V)) (h1:x = .ref a) (h2:H1 a=some (.ins C dx fs)) (h3:fs.lookup m=none) (q:t U H1 λ vs H2=>sp (x::(vs++iG)) H2 Q E)
def zq (C:am) (m:Str) (s:Sp) (i:aB) (E:XK) (T:TE) (t:TA):TE:=λ U H Q=>T U H (Mj C m s i E t U Q)
def EN (C:am) (s:Sp) (i:aB) (E:XK) (t:TA):TE:=λ U H Q=>t U H λ V h=>∀ x d,h x=none->h d=none->d≠x ->
 s (.ref x::(V++i)) (upd (upd h d (.own x)) x (.ins C d [])) (λ v a=>v = .cL/\Q (.ref x) a) E
def Binds (K:aD) (f:FuncData) (p:cZ) (d:bM):Prop :=
 ∀ (s:Shared) (u:bM),K.In s.heap->(u++d).length=p.length->BindsTo s f ⟨u,[]⟩ (p.zip (u++d))
def Binds.all {K:aD} {f:FuncData} {p:cZ} (h:∀ us:bM,us.length=p.length->bindArgs f ⟨us,[]⟩=pure (p.zip us)):Binds K f p []:=λ s us Z H=>by
 rw [abf] at H |-
 exact .of_eq (h us H)
def Passes (C:G3) (X:Cx) (E:XK):Prop:=∀ (p:List (am×Obj)) (U:St) (H:Hp) (s:Shared) (e:az) (s':Shared),Inv X p U H s->C X.stack H s E e s'->X.xe e s'
section
variable {X:Cx} {CX:G3} {k:Nat} {f C:am} {fd:FuncData} {ps:cZ} {sp:Sp} {iG:aB} {ds:bM} {E:XK} {x m:Str} {p pos apos:Pos} {e o:Expr} {es:List Expr} {ta:TE} {t:TA}
def AQ {p:List (am×Obj)} {s:Shared} {us:bM} {vs:aB} (F:lY X.prog X.w X.K X.mg X.base CX k f fd ps sp) (i:c8 k X.A) (c:Binds X.K fd ps ds) (d:Vals iG ds) (j:Passes CX X E) (I:Inv X p U H s) (r:Vals vs us) (h:sp (vs++iG) H Q E):wpAny (model X.prog X.w) X.A (call (.ref f) us) (EP X p U Q) X.xe s:=by
 have R:Vals (vs++iG) (us++ds):=r.append d
 have g:(us++ds).length=ps.length:=by rw [<- R.length];exact F.len _ _ _ _ h
 refine wpAny_call (adO (F.run X.A X.stack s H ⟨us,[]⟩ (us++ds) (vs++iG) Q E i I.OX (c s us I.sI g) R h) λ r s' a=>?_)
 cases r with
 | error e=>exact j p U H s e s' I a
 | ok b =>
   cases b with
   | ret u=>exact I.after a
   | next=>exact False.elim a
   | brk=>exact False.elim a
   | cont=>exact False.elim a
def BQ (F:lY X.prog X.w X.K X.mg X.base CX k f fd ps sp) (o:c8 k X.A) (l:Gl X x) (n:X.mg x=some (.ref f)) (m:W.keepIn X.K (.ref f)=true) (d:Binds X.K fd ps ds) (g:Vals iG ds) (u:Passes CX X E) (c:PA X (e::es) t) (y:autoParam (Ar x) zb_._auto_1) (j:autoParam (CU X e es) za_._auto_1) (b:autoParam (Eu X es pos) za_._auto_1) :
   PE X (.Call (.Name x p) (e::es) [] pos) (CF sp iG E t):=by
 intro a s U H Q I h
 refine ab3 (ye I l n ?_ y)
 refine W.callWith_K (h₀:=X.base) I.ok.mod.N8 m (cU (c pos a s U H _ I h) λ z S ⟨V,v,i,r,q⟩=>⟨i.sI,?_⟩) j b
 exact AQ F o d g u i r q
def IN {pl:Sem Bool} (G:PE X o ta) (c:yG X.K C) (d:Meth X.K C m f) (F:lY X.prog X.w X.K X.mg X.base CX k f fd ps sp) (J:c8 k X.A) (B:Binds X.K fd ps ds) (D:Vals iG ds) (M:Passes CX X E) (z:PA X (e::es) t) (N:autoParam (CU X e es) za_._auto_1) (y:autoParam (Eu X es pos) za_._auto_1) (L:autoParam (eval (.Call (.Attribute o m apos) (e::es) [] pos) X.env=(do
     let O <- eval o X.env
     standAt apos.atName
     let (f,first) <- holding [O] (getMethod O m pl)
     callWith pos f first (backTo pos (starEach (e::es) X.env)) (backToKw pos (keywordEach [] X.env)))) za_._auto_1) :
   PE X (.Call (.Attribute o m apos) (e::es) [] pos) (zq C m sp iG E ta t):=by
 intro p s U H Q I h
 refine W.methodCall_KW (pl:=pl) (cU (G p s U H _ I h) λ u T ⟨x,j,i,S,a,Y,fs,ex,n,l,q⟩=>?_) L
 subst ex
 obtain rfl:u=Value.ref a:=S
 refine tz i n c d l ?_
 refine W.callWith_K (first:=[.ref a]) (h₀:=X.base) I.ok.mod.N8 d.kp (cU (z pos p T U j _ i q) λ g s2 ⟨v,V,b,r,R⟩=>⟨b.sI,?_⟩) N y
 exact AQ (us:=.ref a::g) (vs:=.ref a::v) F J B D M b (.cons rfl r) R
def GH {pl:Sem Bool} (j:PE X o ta) (c:yG X.K C) (b:Meth X.K C m f) (F:lY X.prog X.w X.K X.mg X.base CX k f fd ps sp) (n:c8 k X.A) (d:Binds X.K fd ps ds) (g:Vals iG ds) (t:Passes CX X E) (r:autoParam (eval (.Call (.Attribute o m apos) [] [] pos) X.env=(do
     let O <- eval o X.env
     standAt apos.atName
     let (f,first) <- holding [O] (getMethod O m pl)
     callWith pos f first (backTo pos (starEach [] X.env)) (backToKw pos (keywordEach [] X.env)))) za_._auto_1) :
   PE X (.Call (.Attribute o m apos) [] [] pos) (zq C m sp iG E ta KZ):=by
 intro p s U H Q I h
 refine W.methodCall_KW (pl:=pl) (cU (j p s U H _ I h) λ u S ⟨x,v,i,R,a,D,y,ex,e,l,q⟩=>?_) r
 subst ex
 obtain rfl:u=Value.ref a:=R
 refine tz i e c b l ?_
 exact W.callWith_K0 (first:=[.ref a]) i.sI b.kp (AQ (us:=[.ref a]) (vs:=[.ref a]) F n d g t i (.cons rfl .nil) q)
structure Mk (K:aD) (C f:am):Prop where
 makes:W.makesIn K C=true
 init:W.findIn K (.ref C) "__init__" = some (some (.ref f))
 fn:W.isFn K (.ref f)=true
 kp:W.keepIn K (.ref C)=true
def GZ {p:List (am×Obj)} {s:Shared} {us:bM} {vs:aB} (M:Mk X.K C f) (F:lY X.prog X.w X.K X.mg X.base CX k f fd ps sp) (q:c8 (k+1) X.A) (l:Binds X.K fd ps ds) (n:Vals iG ds) (t:Passes CX X E) (I:Inv X p U H s) (r:Vals vs us) (h:∀ x dx,H x=none->H dx=none->dx≠x->sp (.ref x::(vs++iG)) (upd (upd H dx (.own x)) x (.ins C dx [])) (λ v c=>v = .cL/\Q (.ref x) c) E) :
   wpAny (model X.prog X.w) X.A (call (.ref C) us) (EP X p U Q) X.xe s:=by
 have a:=h (s.heap.objs.size+1) s.heap.objs.size (I.dR.fresh (acb _)) (I.dR.fresh (aaj _)) (aaN (adz _))
 have i:=Inv.made (C:=C) I
 have R:Vals (V.ref (s.heap.objs.size+1)::(vs++iG)) (Value.ref (s.heap.objs.size+1)::(us++ds)):=.cons rfl (r.append n)
 have o:(Value.ref (s.heap.objs.size+1)::us++ds).length=ps.length:=by
   have e:=R.length
   rw [F.len _ _ _ _ a] at e
   exact e.symm
 refine wpAny_call (GG (f:=f) I.sI M.makes M.init (ace.mp M.fn) (adO (F.run _ X.stack _ _ ⟨Value.ref (s.heap.objs.size+1)::us,[]⟩ (Value.ref (s.heap.objs.size+1)::(us++ds)) _ _ E (q.make C us [])
   (i.OX.make C us []) (l _ (Value.ref (s.heap.objs.size+1)::us) i.sI o) R a) λ r s' m=>?_))
 cases r with
 | error e=>exact t p U _ _ e s' i m
 | ok j =>
   cases j with
   | ret u =>
     obtain ⟨v,b,d,z,g,y⟩:=i.after m
     subst g
     exact ⟨z,⟨V.ref (s.heap.objs.size+1),b,d,rfl,y⟩⟩
   | next=>exact False.elim m
   | brk=>exact False.elim m
   | cont=>exact False.elim m
def Ht (M:Mk X.K C f) (F:lY X.prog X.w X.K X.mg X.base CX k f fd ps sp) (n:c8 (k+1) X.A) (l:Gl X x) (m:X.mg x=some (.ref C)) (d:Binds X.K fd ps ds) (g:Vals iG ds) (o:Passes CX X E) (c:PA X (e::es) t) (y:autoParam (Ar x) zb_._auto_1) (j:autoParam (CU X e es) za_._auto_1) (b:autoParam (Eu X es pos) za_._auto_1) :
   PE X (.Call (.Name x p) (e::es) [] pos) (EN C sp iG E t):=by
 intro a s U H Q I h
 refine ab3 (ye I l m ?_ y)
 refine W.callWith_K (h₀:=X.base) I.ok.mod.N8 M.kp (cU (c pos a s U H _ I h) λ v S ⟨V,u,i,r,q⟩=>⟨i.sI,?_⟩) j b
 exact GZ M F n d g o i r q
end
structure aC (N P:cZ) (sc:Scope):Prop where
 kind:sc.kind = .function
 co:sc.isCoroutine=false
 gen:sc.isGenerator=false
 nd:N.Nodup
 pre:N.take P.length=P
 par:∀ x∈P,sc.names.lookup x=some .local\/sc.names.lookup x=some .cell
 Lw:∀ y∈sc.names,y.2 ≠ .free
theorem we {k:Str->Option NameKind} {x:Str}:∀ {b:List (Str×az)} {m:dW},(∀ v,(x,v)∉b)->bindL k b m x=m x
 | [],_,_=>rfl
 | (n,v)::r,m,h=>by
   unfold bindL
   rw [we λ w hw=>h w (aai _ hw)]
   split
   . have:x≠n:=by rintro rfl;exact h v aas
     simp [this]
   . rfl
theorem wb {k:Str->Option NameKind} {x:Str}:∀ {b:List (Str×az)} {m:dW},(∀ v,(x,v)∉b)->bindC k b m x=m x
 | [],_,_=>rfl
 | (n,v)::r,m,h=>by
   unfold bindC
   rw [wb λ w hw=>h w (aai _ hw)]
   split
   . rfl
   . have:x≠n:=by rintro rfl;exact h v aas
     simp [this]
theorem wq {k:Str->Option NameKind} {x:Str} {v:az}:∀ {P:cZ} {vs:bM} {i:Nat} {m:dW},P.Nodup->P[i]?=some x->vs[i]?=some v->k x=some .local ->
   bindL k (P.zip vs) m x=some v
 | [],_,_,_,_,h,_,_=>by simp at h
 | _::_,[],_,_,_,_,h,_=>by simp at h
 | p::P,w::vs,0,m,n,H,a,b=>by
   simp at H a;subst H;subst a
   show bindL k ((p,w)::P.zip vs) m p=_
   unfold bindL
   rw [we λ v c=>(aaP.mp n).1 (adD c).1,aan b]
   simp
 | p::P,w::vs,i+1,m,n,H,a,b=>by
   show bindL k ((p,w)::P.zip vs) m x=_
   unfold bindL
   exact wq (i:=i) (aaP.mp n).2 (by simpa using H) (by simpa using a) b
theorem wy {k:Str->Option NameKind} {x:Str} {v:az}:∀ {P:cZ} {vs:bM} {i:Nat} {m:dW},P.Nodup->P[i]?=some x->vs[i]?=some v->k x≠some .local ->
   bindC k (P.zip vs) m x=some v
 | [],_,_,_,_,h,_,_=>by simp at h
 | _::_,[],_,_,_,_,h,_=>by simp at h
 | p::P,w::vs,0,m,n,H,a,b=>by
   simp at H a;subst H;subst a
   show bindC k ((p,w)::P.zip vs) m p=_
   unfold bindC
   rw [wb λ v c=>(aaP.mp n).1 (adD c).1,aap b]
   simp
 | p::P,w::vs,i+1,m,n,H,a,b=>by
   show bindC k ((p,w)::P.zip vs) m x=_
   unfold bindC
   exact wy (i:=i) (aaP.mp n).2 (by simpa using H) (by simpa using a) b
def start (N:cZ) (vs:aB):St:=vs.map some++List.replicate (N.length - vs.length) none
def qg (C:G3) (P:bE) (w:bz) (K:aD) (mg:dW) (base:bG) (N:cZ) (q:Str) (S:Scope) (f:am) (c:az) (A:Around) (outer:List Env) (s:Shared) (H:Hp) (E:XK):Cx where
 prog:=P
 w:=w
 K:=K
 mg:=mg
 base:=base
 A:=A.deeper (envOfC q S s.heap.objs.size f c)
 N:=N
 s₀:=s
 H₀:=H
 env:=envOfC q S s.heap.objs.size f c
 outer:=outer
 stack:=envOfC q S s.heap.objs.size f c::outer
 ex:=[]
 calm:=true
 fn:=λ Z=>true
 pn:=[]
 xe:=λ e s'=>wpAny (model P w) (A.deeper (envOfC q S s.heap.objs.size f c)) (leaving (envOfC q S s.heap.objs.size f c) e) (λ Z X=>C outer H s E e X) (λ a X=>C outer H s E a X) s'
def yW {s:Scope} {n:Nat} {x:Str} (h:s.names.lookup x=some .cell):∃ c,(cellsFrom n s.names []).lookup x=some c:=by
 have q:=W.cellsFrom_some s.names n [] (.inl h)
 exact abN.mp q
def Dd {F:G3} {P:bE} {w:bz} {K:aD} {M:dW} {B:bG} {N m:cZ} {d:Scope} {f:am} {C:az} {A:Around} {outer:List Env} {s s1:Shared} {E:XK} {us:bM} {vs:aB} (S:aC N m d) (O:A.handled=none) (j:A1 P w K M B A outer s H) (V:vs.length=m.length) (r:Vals vs us) (x:InCallC s s.heap.objs.size (bindL (envOfC qual d s.heap.objs.size f C).kindOf (m.zip us) λ Z=>none) (cellsFrom (s.heap.objs.size+1) d.names []) (bindC (envOfC qual d s.heap.objs.size f C).kindOf (m.zip us) λ Z=>none) s1) :
   Inv (qg F P w K M B N qual d f C A outer s H E) [] (start N vs) H s1:=by
 have U:m.length<=N.length:=by have:=abV List.length S.pre;rw [aaF] at this;lia
 obtain ⟨t,W,rfl,I⟩:=x.done
 have Q:∀ b:am,b∉(qg F P w K M B N qual d f C A outer s H E).ex:=λ b z=>absurd (show b∈([]:bK) from z) (by simp)
 refine ⟨⟨j.mod,S.kind,rfl,rfl,aaj _,λ y z c t g=>?_,λ y l=>?_,λ y c Z h=>?_,λ Z=>O,Around.frames_deeper j.frames,.inr ⟨rfl,rfl⟩,λ b z=>absurd z (Q b),j.bs,j.JF,λ b Z Z=>Q b,λ b z=>absurd z (Q b),j.sL,j.Mm⟩,
   rfl,j.bare,Un.kept I,⟨_,x.toInCall.ns,λ i y v t g T=>?_⟩,λ y c h=>⟨_,x.cell y c h⟩,j.dR.fresh (aaj _),λ y c h=>?_,λ p o=>absurd (show p∈([]:List (am×Obj)) from o) (by simp),j.dR.kept I,?_⟩
 . exact name_of_addr x.apart (abF t) (abF g)
 .
  have l:d.names.lookup y=some .cell\/d.names.lookup y=some .free:=l
  rcases l with l|l
  . exact yW l
  . exact absurd rfl (S.Lw _ (abF l))
 . exact abY (x.above y c (abF h))
 .
  have D:i<vs.length:=by
    unfold start at g
    by_cases D:i<vs.length
    . exact D
    . rw [aaO (by simpa using D)] at g
      rw [adX] at g
      split at g<;>cases g
  have L:vs[i]?=some v:=by
    unfold start at g
    rw [aal (by simpa using D),Sb] at g
    cases e:vs[i]? with
    | none=>rw [e] at g;cases g
    | some a=>rw [e] at g;cases g;rfl
  obtain ⟨u,J,R⟩:=r.get L
  have o:m[i]?=some y:=by
    rw [<- S.pre,adR (by lia)];exact t
  have G:m.Nodup:=by rw [<- S.pre];exact S.nd.sublist (List.take_sublist _ _)
  refine ⟨u,R,?_⟩
  rcases S.par y (aae o) with k|k
  . exact .inl ⟨k,wq G o J k⟩
  .
   obtain ⟨c,e⟩:=yW (n:=s.heap.objs.size+1) k
   refine .inr ⟨.inl k,c,e,?_⟩
   have q:=x.cell y c e
   rw [wy G o J (by show d.names.lookup y≠_;rw [k];decide)] at q
   exact q
 . exact j.dR.fresh (abY (x.above y c (abF h)))
 .
  unfold start
  show _=N.length
  rw [aab,M1,abZ]
  lia
def JA {C:G3} {P:bE} {w:bz} {K:aD} {m:dW} {B:bG} {k:Nat} {f:am} {name:Str} {p:Arguments} {c:List Stmt} {a:Scope} {T kV D U g ct oc:az} {O od:Option am} {X:Array (jF)} {N l:cZ} {sp:Sp} (lk:K.lookup f=some ⟨oc,od,.func (W.fnOf name qual p c a T kV D U O g ct),X⟩) (Y:W.codeIn K g qual=true) (S:aC N l a) (len:∀ vs H Q E,sp vs H Q E->vs.length=l.length) (hX:∀ (A:Around) (outer:List Env) (s:Shared) (H:Hp) (vs:aB) (Q:VK) (E:XK),c8 k (A.deeper (envOfC qual a s.heap.objs.size f g))->sp vs H Q E ->
     ∃ t,vH (qg C P w K m B N qual a f g A outer s H E) c t/\t { nx:=λ _ h=>Q .cL h,rt:=Q } (start N vs) H) :
   lY P w K m B C (k+1) f (W.fnOf name qual p c a T kV D U O g ct) l sp:=by
 refine ⟨len,λ A outer s H args us vs Q E z j hb r G=>?_⟩
 have hl:=len _ _ _ _ G
 have M:K.In s.heap:=j.mod.N8.keeps λ b o e=>(j.bs b o e).1
 have L:s.heap.NoLimit:=j.mod.nolimit.keeps λ b o e=>(j.bs b o e).1
 have Qv:∀ y∈l.zip us,a.names.lookup y.1=some .local\/(a.names.lookup y.1=some .cell/\((cellsFrom (s.heap.objs.size+1) a.names []).lookup y.1).isSome=true):=λ ⟨n,v⟩ hy=>by
   rcases S.par n (adD hy).1 with q|q
   . exact .inl q
   . exact .inr ⟨q,W.cellsFrom_some _ _ _ (.inl q)⟩
 refine codeAny_call_function z.depth (M _ _ lk) rfl S.co S.gen rfl (W.codeRec_of M Y) (hb _ _ _ _ ?_)
 refine wpAny_newFunctionEnv_cells S.kind Qv λ env he s1 x=>?_
 subst he
 refine ⟨L.keeps x.toInCall.keep,codeAny_func ?_⟩
 obtain ⟨t,ht,hq⟩:=hX A outer s H vs Q E (z.deeper _) G
 have I:Inv (qg C P w K m B N qual a f g A outer s H E) [] (start N vs) H s1:=Dd S z.hd j hl r x
 refine abx (ht [] s1 (start N vs) H _ I hq) (λ fl s' i=>?_) λ e s' i=>i
 have F:∀ {d:St} {h:Hp} {v:V} {u:az},Inv (qg C P w K m B N qual a f g A outer s H E) [] d h s'->RelV v u->Q v h->CE outer P w H s Q u s' :=
   λ {d h v u} J R q=>⟨v,h,J.os,J.bare,J.base,J.dR,R,q⟩
 cases fl with
 | ret u =>
   obtain ⟨v,d,h,J,R,q⟩:=i
   exact F J R q
 | next =>
   obtain ⟨d,h,J,q⟩:=i
   exact F (v:=V.cL) (u:=Value.none) J rfl q
 | brk =>
   obtain ⟨_,_,_,q⟩:=i
   exact False.elim q
 | cont =>
   obtain ⟨_,_,_,q⟩:=i
   exact False.elim q
section
variable {X:Cx} {x:Str} {p pos:Pos} {e:Expr} {es:List Expr} {t:TA} {id T:String} {r:aB->Hp->VK->Prop}
def Zb (r:aB->Hp->VK->Prop) (t:TA):TE:=λ U H Q=>t U H λ v h=>r v h Q
def aU (f:jg X (.builtin id) r) (j:Gl X x) (k:X.mg x=none) (m:bootBuiltins x=some (.builtin id)) (d:PA X (e::es) t) (l:autoParam (x ≠ "__name__") zb_._auto_1) (y:autoParam (Ar x) zb_._auto_1) (g:autoParam (CU X e es) za_._auto_1) (c:autoParam (Eu X es pos) za_._auto_1):PE X (.Call (.Name x p) (e::es) [] pos) (Zb r t):=by
 intro a s U H Q I h
 refine ab3 (jB I j k m ?_ l y)
 exact PyProof.Rows.callWith_builtin1 (cU (d pos a s U H _ I h) λ u S ⟨v,b,i,R,q⟩=>f a S U b v u Q i R q) g c
def cD (f:jg X (.type T) r) (j:Gl X x) (k:X.mg x=none) (m:bootBuiltins x=some (.type T)) (d:PA X (e::es) t) (l:autoParam (x ≠ "__name__") zb_._auto_1) (y:autoParam (Ar x) zb_._auto_1) (g:autoParam (CU X e es) za_._auto_1) (c:autoParam (Eu X es pos) za_._auto_1):PE X (.Call (.Name x p) (e::es) [] pos) (Zb r t):=by
 intro a s U H Q I h
 refine ab3 (jB I j k m ?_ l y)
 exact abb (cU (d pos a s U H _ I h) λ u S ⟨v,b,i,R,q⟩=>f a S U b v u Q i R q) g c
end
end L2
namespace HT
open PySem PyProof.Rows
def lexLt:List Int->List Int->Bool
 | [],[]=>false
 | [],_::_=>true
 | _::_,[]=>false
 | x::xs,y::ys=>if x=y then lexLt xs ys else decide (x<y)
section
variable {prog:bE} {w:bz} {A:Around} {E:az->Shared->Prop} {s:Shared}
def Im {t b:am} {vs W:bM} {Q:az->Shared->Prop} (l:IsTup s.heap t vs.toArray) (k:IsTup s.heap b W.toArray) (g:vs≠[])
   (i:W=[]->Q (.ref t) s) (j:W≠[]->Q (.ref s.heap.objs.size) { s with heap:=s.heap.push { cls:=.type "tuple",data:=.seq (vs++W).toArray }})
   (hsz:vs.length+W.length<=sizeLine):wpAny (model prog w) A (binaryOp .Add (.ref t) (.ref b)) Q E s:=by
 obtain ⟨⟨cls,D,data,sl⟩,H,c,n,f⟩:=id l
 obtain ⟨⟨m,L,d,R⟩,K,M,N,h⟩:=id k
 simp only at c f M h
 subst c f M h
 have e:vs.toArray++W.toArray=(vs++W).toArray:=by simp
 by_cases a:W=[]
 . exact concat_meets ⟨_,H,rfl⟩ ⟨_,K,rfl⟩ adU seq_tuple_add ac0 acP (acK _ _)
     (tuple_addW1 t b vs.toArray W.toArray n N D L sl R (by simpa using g) (by simp [a])) ⟨H,K,i a⟩
 .
  refine concat_meets ⟨_,H,rfl⟩ ⟨_,K,rfl⟩ adU seq_tuple_add ac0 acP (acK _ _)
    (tuple_addW2 t b vs.toArray W.toArray n N D L sl R (by simpa using g) (by simpa using a) (by rw [aaz,aaz];exact hsz)) ⟨H,K,?_⟩
  rw [e]
  exact j a
def oI (n d:Nat):Option Int->Nat
 | none=>d
 | some v=>if v<0 then (v+(n:Int)).toNat else min v.toNat n
def FA (n d:Nat):oI n d none=d:=rfl
def Jy (n d k:Nat):oI n d (some (k:Int))=min k n:=by
 show (if (k:Int)<0 then ((k:Int)+(n:Int)).toNat else min (k:Int).toNat n)=min k n
 rw [aap (by lia),aaW]
end
end HT
namespace L2
open PySem PySem.Spec PyProof.Rows
variable {H H':Hp} {t':Nat} {U:St}
abbrev TO:=St->Hp->(Option Int->Hp->Prop)->Prop
def PO (X:Cx) (e:Option Expr) (t:TO):Prop :=
 ∀ (p:List (am×Obj)) (s:Shared) (U:St) (H:Hp) (Q:Option Int->Hp->Prop),Inv X p U H s->t U H Q ->
   wpAny (model X.prog X.w) X.A (evalPart e X.env) (λ u S=>∃ o H',Inv X p U H' S/\IsPart u o/\Q o H') X.xe s
def IJ:TO:=λ Z H Q=>Q none H
def OM (t:TE):TO:=λ U H Q=>t U H λ x h=>∃ i,x = .int i/\Q (some i) h
section
variable {X:Cx} {e:Expr} {te:TE} {lo hi:Option Expr} {tl th:TO} {pos p2:Pos}
def kj:PO X none IJ:=by
 intro p s U H Q I h
 rw [evalPart_none]
 exact aaB ⟨none,H,I,.none,h⟩
def kB (h:PE X e te):PO X (some e) (OM te):=by
 intro p s U H Q I c
 rw [evalPart_some]
 refine cU (h p s U H _ I c) λ u S ⟨x,a,b,r,d⟩=>?_
 obtain ⟨i,rfl,q⟩:=d
 obtain ⟨t,rfl⟩:=r
 exact ⟨some i,a,b,.int i t,q⟩
def TF (X:Cx) (r:V->Option Int->Option Int->Hp->VK->Prop):Prop :=
 ∀ (p:List (am×Obj)) (s:Shared) (U:St) (H:Hp) (x:V) (v a b:az) (lo hi:Option Int) (sl:am) (Q:VK),Inv X p U H s->RelV x v->s.heap.IsSliceOf sl a b .none->IsPart a lo->IsPart b hi->r x lo hi H Q ->
   ∃ T id,typeLookup (.type T) "__getitem__" = pure (some (.builtin id))/\s.TypeIs v T/\wpAny (model X.prog X.w) X.A (getItem v (.ref sl)) (EP X p U Q) X.xe s
def tSl (r:V->Option Int->Option Int->Hp->VK->Prop) (t:TE) (c T:TO):TE:=λ U H Q=>t U H λ x h=>c U h λ l a=>T U a λ u b=>r x l u b Q
def je {r:V->Option Int->Option Int->Hp->VK->Prop} (z:TF X r) (o:PE X e te) (y:PO X lo tl) (C:PO X hi th):PE X (.Subscript e (.Slice lo hi none p2) pos) (tSl r te tl th):=by
 intro p s U H Q I h
 refine Subscript_ (cU (o p s U H _ I h) λ v K ⟨x,f,i,R,F⟩=>?_)
 refine wpAny_Slice (cU (y p K U f _ i F) λ a L ⟨l,g,j,D,G⟩=>cU (C p L U g _ j G) λ c S ⟨u,d,k,E,J⟩=>?_)
 rw [evalPart_none]
 refine aaB ?_
 have m:Inv X p U d { S with heap:=S.heap.push { cls:=.type "slice",data:=.fields #[a,c,.none]}}:=k.kept (t':=S.toks) λ b O q=>aam _ q
 obtain ⟨T,id,n,B,t⟩:=z p { S with heap:=S.heap.push { cls:=.type "slice",data:=.fields #[a,c,.none]}} U d x v a c l u S.heap.objs.size Q m R (Heap.IsSliceOf.new ..) D E J
 show wpAny (model X.prog X.w) X.A (subscriptTail e (.Slice lo hi none p2) v (.ref S.heap.objs.size)) (EP X p U Q) X.xe { S with heap:=S.heap.push { cls:=.type "slice",data:=.fields #[a,c,.none]}}
 exact tail_any (ops:=[.ref S.heap.objs.size,v]) B n t (by with_unfolding_all rfl)
def oU (xs:aB) (lo h:Option Int):aB:=(xs.drop (HT.oI xs.length 0 lo)).take (HT.oI xs.length xs.length h - HT.oI xs.length 0 lo)
def zt (xs:aB) (lo h:Option Int):(oU xs lo h).length<=xs.length:=by
 unfold oU
 rw [aaF,abT]
 lia
inductive P5 (K:aD) (x:V) (y:V) (H:Hp) (Q:VK):Prop|mk (a b xs ys:_) (_:x = .ref a) (_:y = .ref b) (_:bY K H a xs) (_:bY K H b ys) (_:xs≠[]) (_:xs.length+ys.length<=sizeLine) (_:(ys=[]->Q (.ref a) H)) (_:(ys≠[]->∀ p,H p=none->Q (.ref p) (upd H p (.tup (xs++ys)))))
def Vals.sM {xs:aB} {us:bM} (r:Vals xs us):us=[]↔xs=[]:=by
 cases r with
 | nil=>simp
 | cons _ _=>simp
def Jg:ji X (binaryOp .Add) (P5 X.K):=by
 intro p s U H x y v u Q I k l h
 obtain ⟨a,b,m,Y,rfl,rfl,d,e,f,c,i,j⟩:=h
 cases k
 cases l
 obtain ⟨B,R,g,Z⟩:=I.tuple d
 obtain ⟨n,r,p2,Z⟩:=I.tuple e
 refine HT.Im g p2 (λ z=>f (R.sM.mp z)) (λ z=>⟨.ref a,H,I,rfl,i (r.sM.mp z)⟩) (λ z=>?_) (by rw [<- R.length,<- r.length];exact c)
 refine ⟨.ref s.heap.objs.size,_,I.laid (t':=s.toks) (o:=.tup (m++Y)) (λ b O q=>aam _ q) (aaj _) ?_,rfl,j (λ w=>z (r.sM.mpr w)) _ (I.dR.fresh (aaj _))⟩
 exact ⟨by rw [aab];exact c,_,R.append r,IsTup.new _ _⟩
end
def Ep (n:Nat) (i:Int):Option Nat:=if 0<=i then (if i<n then some i.toNat else none) else if -(n:Int)<=i then some (i+n).toNat else none
def nQ {α:Type} (xs:List α) (i:Int):Option α:=(Ep xs.length i).bind λ j=>xs[j]?
def CA {n:Nat} {i:Int} {j:Nat} (h:Ep n i=some j):seqIndex? i n=some j/\j<n/\-(n:Int)<=i/\i<n:=by
 unfold Ep at h
 by_cases a:0<=i
 .
  rw [aan a] at h
  by_cases H:i<n
  . rw [aan H] at h
    have e:i.toNat=j:=aao h
    exact ⟨by rw [seqIndex_of a H,e],by lia,by lia,H⟩
  . rw [aap H] at h;cases h
 .
  rw [aap a] at h
  by_cases H : -(n:Int)<=i
  . rw [aan H] at h
    have e:(i+n).toNat=j:=aao h
    exact ⟨by rw [seqIndex_neg (by lia) H,e],by lia,H,by lia⟩
  . rw [aap H] at h;cases h
def CV {a:Type} {xs:List a} {i:Int} {v:a} (h:nQ xs i=some v):∃ j,seqIndex? i xs.length=some j/\xs[j]?=some v/\j<xs.length/\-(xs.length:Int)<=i/\i<xs.length:=by
 unfold nQ at h
 cases e:Ep xs.length i with
 | none=>rw [e] at h;cases h
 | some j =>
   rw [e] at h
   obtain ⟨H,b,c,d⟩:=CA e
   exact ⟨j,H,h,b,c,d⟩
def cu {a:Type} {xs:List a} {j:Nat} {v:a} (h:xs[j]?=some v):nQ xs (j:Int)=some v:=by
 have H:j<xs.length:=(Bj.mp h).1
 have e:Ep xs.length (j:Int)=some j:=by
   unfold Ep
   rw [aan (by lia),aan (by lia)];simp
 unfold nQ;rw [e];exact h
def IF (b:Expr):Prop:=∀ o i,subscripted b false o i=operate [o,i] (getItem o i)
def P6 (X:Cx) (r:R2):Prop :=
 ∀ (a S:Expr) (p:List (am×Obj)) (s:Shared) (U:St) (H:Hp) (x y:V) (v u:az) (Q:VK),Inv X p U H s->RelV x v->RelV y u->r x y H Q ->
   subscripted S false v u=operate [v,u] (getItem v u)->wpAny (model X.prog X.w) X.A (subscriptTail a S v u) (EP X p U Q) X.xe s
def WV (X:Cx) (id:String) (r:V->aB->Hp->VK->Prop):Prop :=
 ∀ (p:List (am×Obj)) (s:Shared) (U:St) (H:Hp) (x:V) (a:aB) (v:az) (u:bM) (Q:VK),Inv X p U H s->RelV x v->Vals a u->r x a H Q ->
   wpAny (model X.prog X.w) X.A (call (.builtin id) (v::u)) (EP X p U Q) X.xe s
section
variable {X:Cx} {a b:Expr} {ta tb:TE} {pos:Pos}
def au {r:R2} (f:P6 X r) (d:PE X a ta) (e:PE X b tb) (g:IF b:=by exact λ Z Z=>rfl):PE X (.Subscript a b pos) (Rz r ta tb):=by
 intro p s U H Q I h
 exact Subscript_ (ML d e I h λ v u S x y c i R j q=>f a b p S U c x y v u Q i R j q (g _ _))
inductive Xb (K:aD) (x:V) (y:V) (H:Hp) (Q:VK):Prop|mk (p xs i v:_) (_:x = .ref p) (_:y = .int i) (_:aT K H p xs) (_:nQ xs i=some v) (_:Q v H)
inductive Vv (K:aD) (x:V) (y:V) (H:Hp) (Q:VK):Prop|mk (p xs i v:_) (_:x = .ref p) (_:y = .int i) (_:bY K H p xs) (_:nQ xs i=some v) (_:Q v H)
def IG:P6 X (Xb X.K):=by
 intro V S a s U H x y v u Q I R E h k
 obtain ⟨p,M,i,z,rfl,rfl,D,o,q⟩:=h
 cases R
 obtain ⟨t,rfl⟩:=E
 obtain ⟨B,r,d,L⟩:=I.list D
 obtain ⟨j,b,l,G,m,n⟩:=CV o
 obtain ⟨w,e,C⟩:=r.get l
 have A:=r.length
 have J:=uo
 have f:EP X a U Q w s:=⟨z,H,I,C,q⟩
 by_cases g:0<=i
 .
  have c:i.toNat=j:=by
    rw [seqIndex_of g n] at b
    exact aao b
  exact item_listR d.isList g (by lia) (by rw [c];simpa using e) f k
 .
  have c:(i+(B.toArray.size:Int)).toNat=j:=by
    rw [seqIndex_neg (by lia) m] at b
    rw [aaz,<- A]
    exact aao b
  exact subscriptTail_builtinR (x:=w) d.isList.typeIs slot_list_getitem.lookup
    (wpAny_getItem_list_neg (Q:=λ r F=>r=w/\EP X a U Q r F) d.isList (by lia) (by rw [aaz]<;>lia) (by lia) (by rw [c];simpa using e) ⟨rfl,f⟩) k
def Mf:P6 X (Vv X.K):=by
 intro V S a s U H x y v u Q I R o h n
 obtain ⟨p,J,i,z,rfl,rfl,m,k,q⟩:=h
 cases R
 obtain ⟨t,rfl⟩:=o
 obtain ⟨B,r,b,G⟩:=I.tuple m
 obtain ⟨j,d,g,C,D,E⟩:=CV k
 obtain ⟨w,e,c⟩:=r.get g
 have l:=r.length
 have F:=uo
 have f:EP X a U Q w s:=⟨z,H,I,c,q⟩
 exact subscriptTail_builtinR (x:=w) b.typeIs slot_tuple_getitem.lookup
   (getItem_tuple (j:=j) (Q:=λ r A=>r=w/\EP X a U Q r A) b (by lia) (by lia) (by rw [aaz,<- l];exact d) (by simpa using e) ⟨rfl,f⟩) n
def Bm (b:bM) (n j:Nat) (u:az):Obj.mapSeq (·.setIfInBounds j u) { cls:=.type "list",data:=.seq b.toArray n }={ cls:=.type "list",data:=.seq (b.set j u).toArray n }:=by
 simp [Obj.mapSeq]
theorem Inv.lst {a:List (am×Obj)} {s:Shared} {p:am} {xs:aB} (I:Inv X a U H s) (h:H p=some (.lst xs)) :
   ∃ (b:bM) (n:Nat),Vals xs b/\s.heap.get? p=some { cls:=.type "list",data:=.seq b.toArray n }/\xs.length<=sizeLine:=by
 obtain ⟨z,b,n,r,e⟩:=I.dR p _ h
 exact ⟨b,n,r,e,z⟩
def Inv.K5 {a:List (am×Obj)} {s:Shared} {p:am} {xs ys:aB} {B its':bM} {n N:Nat} {f:Obj->Obj} (I:Inv X a U H s) (h:H p=some (.lst xs)) (g:s.heap.get? p=some { cls:=.type "list",data:=.seq B.toArray n }) (c:f { cls:=.type "list",data:=.seq B.toArray n }={ cls:=.type "list",data:=.seq its'.toArray N }) (r:Vals ys its') (i:ys.length<=sizeLine) (t:Nat) :
   Inv X a U (upd H p (.lst ys)) { s with heap:=s.heap.update p f,toks:=t }:=by
 have e:(s.heap.update p f).get? p=some { cls:=.type "list",data:=.seq its'.toArray N }:=by
   rw [Heap.get?_update_self f g (by rw [c]<;>rfl),c]
 refine I.write (x:=p) (e:=p) (by rw [h];trivial) (.inl rfl) (λ b u d q=>(Heap.get?_update_other _ _ (acy d)).trans q) ⟨_,e⟩ ?_
 exact ⟨i,its',N,r,e⟩
def Pd:V->V->V->Hp->(Hp->Prop)->Prop:=λ o i v H Q=>∃ p x k j,o = .ref p/\i = .int k/\H p=some (.lst x)/\Ep x.length k=some j/\Q (upd H p (.lst (x.set j v)))
def set_list:Lh X Pd:=by
 intro a s U H o i v O F u Q I z R A h
 obtain ⟨p,C,k,j,rfl,rfl,w,x,q⟩:=h
 cases z
 obtain ⟨t,rfl⟩:=R
 obtain ⟨B,n,r,e,y⟩:=I.lst w
 obtain ⟨b,D,l,m⟩:=CA x
 have d:=r.length
 have E:=uo
 have f:Inv X a U (upd H p (.lst (C.set j v))) { s with heap:=s.heap.update p (Obj.mapSeq (·.setIfInBounds j u))} :=
   I.K5 w e (Bm B n j u) (r.set A j) (by rw [abc];exact y) s.toks
 by_cases g:0<=k
 .
  have c:k.toNat=j:=by
    rw [seqIndex_of g m] at b
    exact aao b
  exact W.ki_setAt e g (by lia) (by rw [aaz,<- d];exact m) (by rw [c];exact ⟨_,f,q⟩)
 .
  have c:(k+(B.toArray.size:Int)).toNat=j:=by
    rw [seqIndex_neg (by lia) l] at b
    rw [aaz,<- d]
    exact aao b
  exact W.ki_setBack e (by lia) (by rw [aaz,<- d];exact l) (by lia) (by rw [c];exact ⟨_,f,q⟩)
def xY (lo H:Option Int) (n:Nat):(sliceBounds lo H none n).1=((HT.oI n 0 lo:Nat):Int)/\(sliceBounds lo H none n).2.1=((HT.oI n n H:Nat):Int)/\(sliceBounds lo H none n).2.2=1:=by
 refine ⟨?_,?_,rfl⟩
 .
  cases lo with
  | none=>simp [sliceBounds,HT.oI]
  | some i =>
    simp only [sliceBounds,HT.oI,Option.getD_none,show (1:Int) > 0 by decide,adr]
    by_cases h:i<0
    . simp only [h,adr]<;>lia
    . simp only [h,acA]<;>lia
 .
  cases H with
  | none=>simp [sliceBounds,HT.oI]
  | some i =>
    simp only [sliceBounds,HT.oI,Option.getD_none,show (1:Int) > 0 by decide,adr]
    by_cases h:i<0
    . simp only [h,adr]<;>lia
    . simp only [h,acA]<;>lia
def vA (b:bM) (lo h:Option Int):slicePick b.toArray lo h none=((b.drop (HT.oI b.length 0 lo)).take (HT.oI b.length b.length h - HT.oI b.length 0 lo)).toArray:=by
 obtain ⟨H,a,c⟩:=xY lo h b.toArray.size
 unfold slicePick
 rw [H,a,c]
 simp only [sliceRange_one,pick_run,aaz]<;>rfl
inductive Tc (K:aD) (x:V) (lo:Option Int) (hi:Option Int) (H:Hp) (Q:VK):Prop|mk (a xs:_) (_:x = .ref a) (_:aT K H a xs) (_:∀ p,H p=none->Q (.ref p) (upd H p (.lst (oU xs lo hi))))
def sS:TF X (Tc X.K):=by
 intro p s U H x v V n l e sl Q I R g k m h
 obtain ⟨a,c,rfl,i,q⟩:=h
 cases R
 obtain ⟨B,r,f,j⟩:=I.list i
 have d:=r.length
 refine ⟨"list",_,slot_list_getitem.lookup,f.isList.typeIs,?_⟩
 refine wpAny_getItem_list_slice f.isList g k m .none (by simp) ?_ (by rw [aaz]<;>lia)
 rw [vA,<- d]
 refine ⟨.ref s.heap.objs.size,_,I.laid (t':=s.toks) (o:=.lst (oU c l e)) (λ b O q=>aam _ q) (aaj _) ?_,rfl,q _ (I.dR.fresh (aaj _))⟩
 exact ⟨aax (zt c l e) j,_,0,(r.drop (HT.oI c.length 0 l)).take (HT.oI c.length c.length e - HT.oI c.length 0 l),aaQ _ rfl⟩
def xZ:jg X (.builtin "len") (λ xs H Q=>∃ p ys,xs=[.ref p]/\(aT X.K H p ys\/bY X.K H p ys)/\Q (.int ys.length) H):=by
 intro d s U H xs i Q I r h
 obtain ⟨p,ys,rfl,b,q⟩:=h
 obtain ⟨u,rfl,f⟩:=vals1 r
 cases f
 have g:=uo
 rcases b with b|b
 . obtain ⟨B,R,c,e⟩:=I.list b
   have a:=R.length
   exact Calls.call_len_list c.isList (by simp only [aaz]<;>lia) ⟨.int ys.length,H,I.tok _,⟨s.toks+1,by rw [aaz,a]⟩,q⟩
 . obtain ⟨B,R,c,e⟩:=I.tuple b
   have a:=R.length
   exact len_tuple c (by simp only [aaz]<;>lia) ⟨.int ys.length,H,I.tok _,⟨s.toks+1,by rw [aaz,a]⟩,q⟩
def gi:jg X (.type "list") (λ xs H Q=>∃ p ys,xs=[.ref p]/\(aT X.K H p ys\/bY X.K H p ys)/\∀ l,H l=none->Q (.ref l) (upd H l (.lst ys))):=by
 intro j s U H xs z Q I r h
 obtain ⟨p,ys,rfl,g,q⟩:=h
 obtain ⟨u,rfl,y⟩:=vals1 r
 cases y
 have f:∀ (B:bM),Vals ys B->ys.length<=sizeLine->∀ (a:bG) (c:Nat),(∀ b O,s.heap.get? b=some O->a.get? b=some O) ->
     a.get? s.heap.objs.size=some { cls:=.type "list",dict:=none,data:=.seq B.toArray c,slots:=#[]}->EP X j U Q (.ref s.heap.objs.size) { s with heap:=a }:=λ B R i a c k e =>
   ⟨.ref s.heap.objs.size,_,I.laid (t':=s.toks) k (aaj _) (show dA X.prog X.w _ a _ (.lst ys) from ⟨i,B,c,R,e⟩),rfl,q _ (I.dR.fresh (aaj _))⟩
 rcases g with g|g
 .
  obtain ⟨B,R,x,i⟩:=I.list g
  have d:=R.length
  obtain ⟨o,v,m,n,t⟩:=x.isList
  exact call_list_seq p (.inl rfl) v m t (λ a c k e=>f B R i a c k e) (by simp only [aaz]<;>lia)
 .
  obtain ⟨B,R,x,i⟩:=I.tuple g
  have d:=R.length
  obtain ⟨o,v,m,n,t⟩:=x
  exact call_list_seq p (.inr rfl) v m t (λ a c k e=>f B R i a c k e) (by simp only [aaz]<;>lia)
def dS:jg X (.type "tuple") (λ xs H Q=>∃ p ys,xs=[.ref p]/\((aT X.K H p ys/\∀ l,H l=none->Q (.ref l) (upd H l (.tup ys)))\/(bY X.K H p ys/\Q (.ref p) H))):=by
 intro a s U H xs t Q I r h
 obtain ⟨p,ys,rfl,h⟩:=h
 obtain ⟨u,rfl,n⟩:=vals1 r
 cases n
 rcases h with ⟨d,q⟩|⟨d,q⟩
 .
  obtain ⟨B,R,f,j⟩:=I.list d
  have g:=R.length
  refine call_tuple_list f.isList (λ c m=>?_) (by simp only [aaz]<;>lia)
  have i:Inv X a U H { s with heap:=c }:=I.kept (t':=s.toks) m
  have k:Inv X a U (upd H c.objs.size (.tup ys)) { s with heap:=c.push { cls:=.type "tuple",data:=.seq B.toArray }} :=
    i.laid (t':=s.toks) (λ b o e=>aam _ e) (aaj _) (show dA X.prog X.w _ _ _ (.tup ys) from ⟨j,B,R,IsTup.new _ _⟩)
  exact ⟨.ref c.objs.size,_,k,rfl,q _ (i.dR.fresh (aaj _))⟩
 . obtain ⟨B,R,f,j⟩:=I.tuple d
   exact call_tuple_same f ⟨.ref p,H,I,rfl,q⟩
def WR (K:aD) (T:String) (x:V) (H:Hp):Prop:=match x with
 | .str _=>T = "str"
 | .int _=>T = "int"
 | .ref p=>(T = "list"/\∃ X,aT K H p X)\/(T = "tuple"/\∃ o,K.lookup p=some o/\o.cls = .type "tuple"/\o.dict=none) \/
     (T = "dict"/\((∃ a,H p=some (.dK a))\/∃ a,H p=some (.dT a)))\/(T = "set"/\∃ S n,H p=some (.set S n))
 | _=>False
def EV {b:List (am×Obj)} {s:Shared} {T:String} {x:V} {v:az} (I:Inv X b U H s) (r:RelV x v) (ty:WR X.K T x H) :
   s.TypeIs v T/\∀ a,v = .ref a->∃ O,s.heap.get? a=some O/\O.dict=none:=by
 cases x with
 | str z =>
   obtain ⟨t,rfl⟩:=r
   cases (show T = "str" from ty)
   exact ⟨typeIs_str s z t,λ Z e=>nomatch e⟩
 | int i =>
   obtain ⟨t,rfl⟩:=r
   cases (show T = "int" from ty)
   exact ⟨typeIs_int s i t,λ Z e=>nomatch e⟩
 | ref p =>
   cases r
   rcases ty with ⟨rfl,k,j⟩|⟨rfl,o,h,g,d⟩|⟨rfl,h⟩|⟨rfl,S,n,h⟩
   . obtain ⟨B,Z,f,Z⟩:=I.list j
     refine ⟨f.isList.typeIs,λ a e=>?_⟩
     cases e
     obtain ⟨o,n,e,c,d,Z⟩:=f
     exact ⟨o,e,d⟩
   . refine ⟨⟨o,I.sI p o h,g⟩,λ a e=>?_⟩
     cases e
     exact ⟨o,I.sI _ o h,d⟩
   .
    have z:∃ o,s.heap.get? p=some o/\o.ExactDict:=by
      rcases h with ⟨A,h⟩|⟨A,h⟩
      . obtain ⟨Z,Z,Z,Z,o,Z,Z,e,ex,Z⟩:=I.dR p _ h
        exact ⟨o,e,ex⟩
      . obtain ⟨Z,Z,Z,Z,o,Z,Z,e,ex,Z⟩:=I.dR p _ h
        exact ⟨o,e,ex⟩
    obtain ⟨o,e,ex⟩:=z
    refine ⟨⟨o,e,ex.1⟩,λ a E=>?_⟩
    cases E
    exact ⟨o,e,ex.2.1⟩
   . obtain ⟨o,Z,Z,Z,e,ex,Z⟩:=I.dR p _ h
     refine ⟨⟨o,e,ex.1⟩,λ a E=>?_⟩
     cases E
     exact ⟨o,e,ex.2.1⟩
 | _=>exact False.elim ty
def SD (K:aD) (T:String) (r:V->aB->Hp->VK->Prop) (t:TE):TE:=λ U H Q=>t U H λ x h=>WR K T x h/\r x [] h Q
def tBM (K:aD) (T:String) (r:V->aB->Hp->VK->Prop) (b:TE) (t:TA):TE:=λ U H Q=>b U H λ x h=>WR K T x h/\t U h λ X a=>r x X a Q
variable {o e:Expr} {es:List Expr} {to:TE} {t:TA} {name:Str} {apos lT:Pos} {T id:String} {r:V->aB->Hp->VK->Prop}
def L0 (g:PlainAttrs T) (S:Slot T name id) (b:typeOf (.builtin id)=pure (.type "method_descriptor")) (e:WV X id r) (f:PE X o to) (F:autoParam (attributeBase o name X.env (eval o X.env)=eval o X.env) za_._auto_1) (G:autoParam ((apos.endLine == lT.line)=true) za_._auto_1):PE X (.Call (.Attribute o name apos) [] [] lT) (SD X.K T r to):=by
 intro p s U H Q I h
 refine wpAny_Call_method0_late F G (cU (f p s U H _ I h) λ v j ⟨x,a,i,R,ty,q⟩=>?_)
 obtain ⟨c,d⟩:=EV i R ty
 exact ⟨T,id,g,S,b,c,d,adl rfl (PySem.evalArgs_none (e p j U a x [] v [] Q i R .nil q))⟩
def hV (u:PlainAttrs T) (S:Slot T name id) (f:typeOf (.builtin id)=pure (.type "method_descriptor")) (m:WV X id r) (n:PE X o to) (l:PA X (e::es) t) (F:autoParam (attributeBase o name X.env (eval o X.env)=eval o X.env) za_._auto_1) (g:autoParam (((backTo lT (starEach (e::es) X.env)).all (λ x => !x.1) && (backToKw lT (keywordEach [] X.env)).all (λ x=>x.1.isSome)
     && decide ((e::es).length+([]:List Keyword).length+(if ([]:List Keyword).isEmpty then 0 else 1)<30))=true) za_._auto_1) (G:autoParam ((apos.endLine == lT.line)=true) za_._auto_1) (q:autoParam (CU X e es) za_._auto_1) (L:autoParam ((backTo lT (starEach es X.env)).any (·.1)=false) za_._auto_1) :
   PE X (.Call (.Attribute o name apos) (e::es) [] lT) (tBM X.K T r to t):=by
 intro p s U H Q I h
 refine wpAny_Call_method_late F g G rfl (cU (n p s U H _ I h) λ v A ⟨x,b,i,R,ty,w⟩=>?_)
 obtain ⟨j,k⟩:=EV i R ty
 refine ⟨T,id,u,S,f,j,k,?_⟩
 have a:=l lT p A U b _ i w
 rw [q] at a |-
 refine adl (by show (false || (backTo lT (starEach es X.env)).any (·.1))=false;rw [L]<;>rfl) (Calls.evalArgs_plain ?_)
 exact cU a λ C B ⟨V,c,d,z,y⟩=>m p B U c x V v C Q d R z y
end
def Ym (X:Cx) (id:String) (r:V->aB->Hp->VK->Prop):Prop :=
 ∀ (p:List (am×Obj)) (s:Shared) (U:St) (H:Hp) (x:V) (a:aB) (v:az) (u:bM) (Q:VK),Inv X p U H s->RelV x v->Vals a u->r x a H Q ->
   wpAny (model X.prog X.w) X.A (call (.builtin id) (v::u)) (EP X p U Q) X.xe s
def Vals.one:∀ {x:V} {us:bM},Vals [x] us->∃ u,us=[u]/\RelV x u
 | _,_,.cons r .nil=>⟨_,rfl,r⟩
def Vals.zero:∀ {us:bM},Vals [] us->us=[]
 | _,.nil=>rfl
section
variable {X:Cx} {pins:List (am×Obj)} {U:St} {H:Hp} {s:Shared} {l b:am} {xs ys:aB}
def Inv.Ph {b its':bM} {n:Nat} {f:Array az->Array az} {t':Nat} (I:Inv X pins U H s) (h:H l=some (.lst xs)) (e:s.heap.get? l=some { cls:=.type "list",data:=.seq b.toArray n }) (c:f b.toArray=its'.toArray) (g:Vals ys its') (i:ys.length<=sizeLine) :
   Inv X pins U (upd H l (.lst ys)) { s with heap:=s.heap.update l (Obj.mapSeq f),toks:=t' }:=by
 have q:=PySem.IsL.update e f
 rw [c] at q
 refine I.write (x:=l) (e:=l) (by rw [h];exact trivial) (.inl rfl) (λ B u a d=>(Heap.get?_update_other s.heap (Obj.mapSeq f) (acy a)).trans d) ⟨_,q⟩ ?_
 exact ⟨i,its',_,g,q⟩
def Inv.WZ {b:bM} {t':Nat} (I:Inv X pins U H s) (h:Vals ys b) (a:ys.length<=sizeLine) :
   Inv X pins U (upd H s.heap.objs.size (.lst ys)) { s with heap:=s.heap.push { cls:=.type "list",data:=.seq b.toArray },toks:=t' } :=
 I.laid (λ Z Z q=>aam _ q) (aaj _) ⟨a,b,0,h,aaQ _ rfl⟩
theorem Inv.fresh (I:Inv X pins U H s):H s.heap.objs.size=none:=I.dR.fresh (aaj _)
def Inv.Gg (I:Inv X pins U H s) (h:H l=some (.lst xs)):xs.length<=sizeLine/\∃ (b:bM) (n:Nat),Vals xs b/\xs.length=b.length/\s.heap.get? l=some { cls:=.type "list",data:=.seq b.toArray n }:=by
 obtain ⟨z,b,n,r,e⟩:=I.dR l _ h
 exact ⟨z,b,n,r,r.length,e⟩
def Ff {n:Nat} (h:n<=sizeLine):Builtin.List.listTooLong n=false:=by
 unfold Builtin.List.listTooLong
 exact aaq (by lia)
end
section
variable {X:Cx}
inductive HF (x:V) (vs:aB) (H:Hp) (Q:VK):Prop|mk (l xs y:_) (_:x = .ref l) (_:vs=[y]) (_:H l=some (.lst xs)) (_:xs.length<sizeLine) (_:Q .cL (upd H l (.lst (xs++[y]))))
def cz:Ym X "list.append" HF:=by
 intro p s U H x V v i Q I d c h
 obtain ⟨l,j,y,rfl,rfl,a,g,q⟩:=h
 cases d
 obtain ⟨u,rfl,R⟩:=c.one
 obtain ⟨z,b,n,r,f,e⟩:=I.Gg a
 refine call_meets F.slot_list_append ⟨_,e,rfl⟩ F.entry_list_append (F.args_list_append_2 _ _) (PySem.list_append l b.toArray n u (by rw [aaz];lia)) ⟨e,?_⟩
 refine ⟨.cL,_,I.Ph (its':=b++[u]) a e (by simp) (r.append (.cons R .nil)) ?_,rfl,q⟩
 rw [aab,aaC]
 lia
inductive Jf (x:V) (vs:aB) (H:Hp) (Q:VK):Prop|mk (l b xs zs:_) (_:x = .ref l) (_:vs=[.ref b]) (_:H l=some (.lst xs)) (_:H b=some (.lst zs)) (_:xs.length+zs.length<=sizeLine) (_:Q .cL (upd H l (.lst (xs++zs))))
def vV:Ym X "list.extend" Jf:=by
 intro p s U H x V v m Q I i g h
 obtain ⟨l,b,t,A,rfl,rfl,c,d,k,q⟩:=h
 cases i
 obtain ⟨u,rfl,f⟩:=g.one
 cases f
 obtain ⟨z,B,n,r,j,e⟩:=I.Gg c
 obtain ⟨w,o,N,R,y,E⟩:=I.Gg d
 have a:B.toArray.size+o.toArray.size<=sizeLine:=by rw [aaz,aaz];lia
 have O:¬ (!B.toArray.isEmpty && Builtin.List.listTooLong (B.toArray.size+o.toArray.size))=true:=by
   rw [Ff a,Bool.and_false]
   exact aaE
 refine call_meets F.slot_list_extend ⟨_,e,rfl⟩ F.entry_list_extend (F.args_list_extend_2 _ _)
   (AutoSeq1.list_extend_list_list_0 l B.toArray n b o.toArray N O (by rw [aaz];lia) (by lia)) ⟨e,E,?_⟩
 refine ⟨.cL,_,I.Ph (its':=B++o) c e (by simp) (r.append R) ?_,rfl,q⟩
 rw [aab]
 lia
inductive SI (x:V) (y:V) (H:Hp) (Q:VK):Prop|mk (l b xs zs:_) (_:x = .ref l) (_:y = .ref b) (_:H l=some (.lst xs)) (_:H b=some (.lst zs)) (_:xs.length+zs.length<=sizeLine) (_:∀ p,H p=none->Q (.ref p) (upd H p (.lst (xs++zs))))
def qO:ji X (binaryOp .Add) SI:=by
 intro p s U H x y v u Q I f g h
 obtain ⟨l,b,k,t,rfl,rfl,d,c,j,q⟩:=h
 cases f
 cases g
 obtain ⟨z,B,n,r,i,e⟩:=I.Gg d
 obtain ⟨m,o,N,R,Y,E⟩:=I.Gg c
 refine PySem.P.add_list e E ?_ (by rw [aaz,aaz];lia)
 have a:B.toArray++o.toArray=(B++o).toArray:=by simp
 rw [a]
 exact ⟨.ref _,_,I.WZ (t':=s.toks) (r.append R) (by rw [aab];lia),rfl,q _ I.fresh⟩
end
section
variable {κ:Type} [DecidableEq κ]
def gG (a:List (κ×V)) (k:κ):eG:=(a.find? λ K=>decide (K.1=k)).map (·.2)
def putK (a:List (κ×V)) (k:κ) (v:V):List (κ×V) :=
 if (a.any λ K=>decide (K.1=k))=true then a.map (λ K=>if K.1=k then (K.1,v) else K) else a++[(k,v)]
def fj {p:κ×V} {r:List (κ×V)} {k:κ} (e:p.1=k):gG (p::r) k=some p.2:=by simp [gG,aa9,e]
def fz {p:κ×V} {r:List (κ×V)} {k:κ} (e:¬ p.1=k):gG (p::r) k=gG r k:=by simp [gG,aa9,e]
theorem jY (k:κ):∀ a:List (κ×V),(a.any λ K=>decide (K.1=k))=(gG a k).isSome
 | []=>rfl
 | p::r=>by
   rw [acS]
   by_cases e:p.1=k
   . simp only [fj e,aaH e,Bool.true_or,Option.isSome_some]
   . rw [fz e,aaq e,Bool.false_or];exact jY k r
theorem yz (k j:κ) (y:V):∀ a:List (κ×V),gG (a.map λ K=>if K.1=k then (K.1,y) else K) j=(gG a j).map λ x=>if j=k then y else x
 | []=>rfl
 | p::r=>by
   have i:=yz k j y r
   rw [aaS]
   by_cases h:p.1=k
   . rw [aan h]
     by_cases e:p.1=j
     . rw [fj (p:=(p.1,y)) e,fj e,abX,aan (e.symm.trans h)]
     . rw [fz (p:=(p.1,y)) e,fz e,i]
   . rw [aap h]
     by_cases e:p.1=j
     . rw [fj (p:=p) e,fj e,abX,aap (λ z=>h (e.trans z))]
     . rw [fz (p:=p) e,fz e,i]
theorem wn (k j:κ) (y:V):∀ a:List (κ×V),gG a k=none->gG (a++[(k,y)]) j=if j=k then some y else gG a j
 | [],_=>by
   by_cases e:k=j
   . rw [aan e.symm];exact fj (p:=(k,y)) e
   . rw [aap (λ z=>e z.symm)];exact fz (p:=(k,y)) e
 | p::r,h=>by
   rw [adB]
   have H:¬ p.1=k:=λ z=>by rw [fj z] at h;cases h
   rw [fz H] at h
   have i:=wn k j y r h
   by_cases e:p.1=j
   . rw [fj e,fj e,aap (λ z=>H (e.trans z))]
   . rw [fz e,fz e,i]
def G0 (A:List (κ×V)) (k j:κ) (y:V):gG (putK A k y) j=if j=k then some y else gG A j:=by
 unfold putK
 by_cases a:(A.any λ K=>decide (K.1=k))=true
 .
  rw [aan a,yz]
  rw [jY] at a
  by_cases e:j=k
  . obtain ⟨x,h⟩:=abN.mp a
    rw [aan e,e,h,abX,aan rfl]
  . rw [aap e]
    cases gG A j with
    | none=>rfl
    | some x=>rw [abX,aap e]
 .
  rw [aap a]
  refine wn k j y A ?_
  rw [jY] at a
  cases q:gG A k with
  | none=>rfl
  | some x=>rw [q] at a;exact (a rfl).elim
def rJ (a:List (κ×V)) (k:κ) (v:V):(putK a k v).length<=a.length+1:=by
 unfold putK
 split
 . rw [M1];lia
 . rw [aab,aaX,ac8];lia
def G1 {a:List (κ×V)} {k:κ} (v:V) (h:gG a k=none):putK a k v=a++[(k,v)]:=by
 unfold putK
 rw [jY,h]
 exact aap (by decide)
def kX.qA {o:eG} {u:jF} (r:kX o u):o.isSome=u.isSome:=by
 cases o with
 | none=>cases u with
   | none=>rfl
   | some _=>exact (show False from r).elim
 | some _=>cases u with
   | none=>exact (show False from r).elim
   | some _=>rfl
theorem kX.getD {o:eG} {u:jF} {d:V} {d':az} (r:kX o u) (R:RelV d d'):RelV (o.getD d) (u.getD d'):=by
 cases o with
 | none=>cases u with
   | none=>exact R
   | some _=>exact (show False from r).elim
 | some _=>cases u with
   | none=>exact (show False from r).elim
   | some _=>exact r
def KV.val {a:List (κ×V)} {vs:List (κ×az)} (r:KV a vs) (k:κ):kX (gG a k) (valueAt vs k):=by
 unfold KV at r
 induction r with
 | nil=>exact True.intro
 | @cons p q d Q h t i =>
   obtain ⟨H,c⟩:=h
   by_cases e:p.1=k
   . have E:q.1=k:=H.symm.trans e
     have b:valueAt (q::Q) k=some q.2:=by simp [valueAt,aa9,E]
     rw [fj e,b];exact c
   . have E:¬ q.1=k:=λ z=>e (H.trans z)
     have b:valueAt (q::Q) k=valueAt Q k:=by simp [valueAt,aa9,E]
     rw [fz e,b];exact i
theorem KV.any {a:List (κ×V)} {vs:List (κ×az)} (r:KV a vs) (k:κ):(a.any λ K=>decide (K.1=k))=vs.any λ K=>decide (K.1=k):=by
 unfold KV at r
 induction r with
 | nil=>rfl
 | cons h t i=>rw [acS,acS,i,h.1]
def KV.Ll {a:List (κ×V)} {vs:List (κ×az)} (r:KV a vs) (k:κ) {y:V} {u:az} (R:RelV y u) :
   KV (a.map λ K=>if K.1=k then (K.1,y) else K) (vs.map λ K=>if K.1=k then (K.1,u) else K):=by
 unfold KV at r |-
 induction r with
 | nil=>exact .nil
 | @cons p q c Q h t i =>
   rw [aaS,aaS]
   refine .cons ?_ i
   obtain ⟨H,b⟩:=h
   by_cases e:p.1=k
   . rw [aan e,aan (H.symm.trans e)];exact ⟨H,R⟩
   . rw [aap e,aap (λ z=>e (H.trans z))];exact ⟨H,b⟩
def KV.put {a:List (κ×V)} {vs:List (κ×az)} (r:KV a vs) (k:κ) {y:V} {u:az} (R:RelV y u):KV (putK a k y) (stored vs k u):=by
 unfold putK stored
 rw [r.any k]
 by_cases e:(vs.any λ K=>decide (K.1=k))=true
 . rw [aan e,aan e];exact r.Ll k R
 . rw [aap e,aap e];exact acL r ⟨rfl,R⟩
theorem KV.length {a:List (κ×V)} {vs:List (κ×az)} (r:KV a vs):a.length=vs.length:=aca r
end
def F5 {P:bE} {w:bz} {k:Key} {u:az} (r:RelV (kV k) u):(eL P w).is k u=true:=by
 cases k with
 | inl i=>obtain ⟨t,e⟩:=(show ∃ t,u=Value.int i t from r);subst e;exact zh P w i t
 | inr x=>obtain ⟨t,e⟩:=(show ∃ t,u=Value.str x t from r);subst e;exact yE P w x t
theorem vR {P:bE} {w:bz}:∀ {K:List Key} {us:bM},Vals (K.map kV) us->ItemsAre (eL P w) K us
 | [],_,r=>by rw [List.map_nil] at r;cases r;exact .nil
 | k::K,_,r=>by
   rw [aaS] at r
   cases r with
   | cons h t=>exact .cons (F5 h) (vR t)
abbrev KT (H:Hp):List (List Key×V)->List (List Key×am×az)->Prop:=Paired λ p q=>p.1=q.1/\H q.2.1=some (.tup (p.1.map kV))/\RelV p.2 q.2.2
def KT.val {a:List (List Key×V)} {xs:List (List Key×am×az)} (r:KT H a xs) (k:List Key):kX (gG a k) ((atKey xs k).map (·.2)):=by
 induction r with
 | nil=>exact True.intro
 | @cons p q f Q h t i =>
   obtain ⟨c,Z,d⟩:=h
   by_cases e:p.1=k
   . have E:q.1=k:=c.symm.trans e
     have b:atKey (q::Q) k=some q.2:=by simp [atKey,aa9,E]
     rw [fj e,b];exact d
   . have E:¬ q.1=k:=λ z=>e (c.trans z)
     have b:atKey (q::Q) k=atKey Q k:=by simp [atKey,aa9,E]
     rw [fz e,b];exact i
def KT.Ll {A:List (List Key×V)} {xs:List (List Key×am×az)} (r:KT H A xs) (k:List Key) {y:V} {u:az} (R:RelV y u) :
   KT H (A.map λ K=>if K.1=k then (K.1,y) else K) (xs.map (putAt k u)):=by
 induction r with
 | nil=>exact .nil
 | @cons p q d Q h t i =>
   rw [aaS,aaS]
   refine .cons ?_ i
   obtain ⟨a,b,c⟩:=h
   unfold putAt
   by_cases e:p.1=k
   . rw [aan e,aan (a.symm.trans e)];exact ⟨a,b,R⟩
   . rw [aap e,aap (λ z=>e (a.trans z))];exact ⟨a,b,c⟩
def KT.put {a:List (List Key×V)} {xs:List (List Key×am×az)} (r:KT H a xs) (k:List Key) {b:am} {y:V} {u:az} (h:H b=some (.tup (k.map kV))) (R:RelV y u) :
   KT H (putK a k y) (storedH xs k b u):=by
 have e:(a.any λ K=>decide (K.1=k))=(atKey xs k).isSome:=by
   rw [jY,(r.val k).qA,ads]
 unfold putK storedH
 rw [e]
 by_cases q:(atKey xs k).isSome=true
 . rw [aan q,aan q];exact r.Ll k R
 . rw [aap q,aap q];exact acL r ⟨rfl,h,R⟩
def KT.keeps {a:List (List Key×V)} {xs:List (List Key×am×az)} (r:KT H a xs) (h:∀ b ys,H b=some (.tup ys)->H' b=some (.tup ys)):KT H' a xs :=
 Paired.wD r λ Z Z z=>⟨z.1,h _ _ z.2.1,z.2.2⟩
section
variable {P:bE} {w:bz} {H:Hp} {h:bG} {a:am}
def Km {u:HO} (ok:oJ P w H h) (e:Rd H a u):dA P w H h a u:=e.ok ok
def Gu {A:List (Key×V)} (ok:oJ P w H h) (e:Rd H a (.dK A)):A.length<=sizeLine/\(a == sysModules)=false/\∃ vs,KV A vs/\h.DictOf (eL P w) a vs :=
 show dA P w H h a (.dK A) from Km ok e
def Q1 {A:List (Key×V)} (ok:oJ P w H h) (e:H a=some (.dK A)):A.length<=sizeLine/\(a == sysModules)=false/\∃ vs,KV A vs/\h.DictOf (eL P w) a vs:=Gu ok (.inl e)
def AU {k:List Key} (ok:oJ P w H h) (e:H a=some (.tup (k.map kV))):(tupleKind (eL P w)).is h k a:=by
 obtain ⟨Z,b,r,o,c,d,n,f⟩:=(show dA P w H h a (.tup (k.map kV)) from ok a _ e)
 exact ⟨o,b.toArray,n,c,d,f,by simpa using vR r⟩
def EQ {A:List (List Key×V)} (ok:oJ P w H h) (e:Rd H a (.dT A)):A.length<=sizeLine/\(a == sysModules)=false /\
   ∃ xs,KT H A xs/\h.DictOfH (tupleKind (eL P w)) a xs:=by
 obtain ⟨z,y,xs,r,o,d,E,f,g,i,j,k⟩:=(show dA P w H h a (.dT A) from Km ok e)
 refine ⟨z,y,xs,r,o,d,E,f,g,i,j,λ x b=>?_,k⟩
 have all:∀ {l:List (List Key×V)} {m:List (List Key×am×az)},KT H l m->∀ x∈m,(tupleKind (eL P w)).is h x.1 x.2.1:=by
   intro l m q
   induction q with
   | nil=>intro x b;exact nomatch b
   | @cons p q n Q c t I =>
     intro x b
     rcases aaa.mp b with e|b
     . subst e
       exact AU ok (by rw [<- c.1];exact c.2.1)
     . exact I x b
 exact all r x b
def Qx {A:List (List Key×V)} (ok:oJ P w H h) (e:H a=some (.dT A)):A.length<=sizeLine/\(a == sysModules)=false /\
   ∃ xs,KT H A xs/\h.DictOfH (tupleKind (eL P w)) a xs:=EQ ok (.inl e)
end
def C3 (H:Hp) (a:am) (y:V) (r:eG):Prop :=
 (∃ A k,Rd H a (.dK A)/\y=kV k/\r=gG A k)\/∃ A k b,Rd H a (.dT A)/\y = .ref b/\H b=some (.tup (k.map kV))/\r=gG A k
def Gn (H:Hp) (a:am) (y v:V) (h:Hp):Prop :=
 (∃ A k,H a=some (.dK A)/\y=kV k/\A.length<sizeLine/\h=upd H a (.dK (putK A k v))) \/
 ∃ A k b,H a=some (.dT A)/\y = .ref b/\H b=some (.tup (k.map kV))/\A.length<sizeLine/\h=upd H a (.dT (putK A k v))
def C3.t {a b:am} {A:List (List Key×V)} {k:List Key} (e:H a=some (.dT A)) (E:H b=some (.tup (k.map kV))):C3 H a (.ref b) (gG A k):=.inr ⟨A,k,b,.inl e,rfl,E,rfl⟩
def Gn.t {a b:am} {A:List (List Key×V)} {k:List Key} {v:V} (e:H a=some (.dT A)) (E:H b=some (.tup (k.map kV))) (h:A.length<sizeLine) :
   Gn H a (.ref b) v (upd H a (.dT (putK A k v))):=.inr ⟨A,k,b,e,rfl,E,h,rfl⟩
section
variable {X:Cx} {pins:List (am×Obj)} {U:St} {H:Hp} {s:Shared} {a:am} {y v:V} {u r:az} {o:eG} {A:Around} {E:az->Shared->Prop}
def Inv.big (I:Inv X pins U H s):sysModules<s.heap.objs.size:=by
 have h:mainGlobals<s.heap.objs.size:=(I.mod.glob.keeps I.bk).lt
 exact ac6 (by decide) h
def xQ {h':bG} {t':Nat} {o:HO} (I:Inv X pins U H s) (m:OL (H a)) (d:Heap.SameBut a s.heap h') (c:∃ q,h'.get? a=some q) (n:dA X.prog X.w (upd H a o) h' a o) :
   Inv X pins U (upd H a o) { s with heap:=h',toks:=t' } :=
 I.write (x:=a) (e:=a) m (.inl rfl) (λ b q h z=>(d.2 b h).trans z) c n
def LU {P:bE} {w:bz} {h':bG} {A:List (Key×V)} {vs:List (Key×az)} (z:A.length<=sizeLine) (h:(a == sysModules)=false) (r:KV A vs) (d:h'.DictOf (eL P w) a vs) :
   dA P w H' h' a (.dK A):=⟨z,h,vs,r,d⟩
def Dz {Q:Unit->Shared->Prop} (T:A.units+1<cLine) (I:Inv X pins U H s) (g:Gn H a y v H') (F:RelV y u) (C:RelV v r) (h:∀ s',Inv X pins U H' s'->Q () s') :
   wpAny (model X.prog X.w) A (setItem (.ref a) u r) Q E s:=by
 rcases g with ⟨d,k,e,j,l,i⟩|⟨d,k,b,e,j,t,l,i⟩
 .
  subst j i
  obtain ⟨z,m,V,R,D⟩:=Q1 I.dR e
  have p:V.length<=sizeLine:=by rw [<- R.length];exact z
  have n:(putK d k v).length<=sizeLine:=by have:=rJ d k v;lia
  refine wpAny_setItem_pairs (hsz:=p) (F5 F) D λ B J o=>h _ ?_
  have S:∃ q,B.get? a=some q:=let ⟨q,_,_,f,_⟩:=J;⟨q,f⟩
  exact xQ I (by rw [e];exact True.intro) o S (LU n m (R.put k C) J)
 .
  subst j i
  cases (show u=Value.ref b from F)
  obtain ⟨z,m,W,R,D⟩:=Qx I.dR e
  have p:W.length<=sizeLine:=by rw [<- aca R];exact z
  have n:(putK d k v).length<=sizeLine:=by have:=rJ d k v;lia
  refine wpAny_setItem_heap (hsz:=p) (tupleKind_room_in1 T) (AU I.dR t) D λ B J o=>h _ ?_
  obtain ⟨q,K,G,f,L,M,N,Z,O⟩:=J
  refine xQ I (by rw [e];exact True.intro) o ⟨q,f⟩ ⟨n,m,_,(R.put k t C).keeps λ c Y x=>?_,q,K,G,f,L,M,N,O⟩
  rw [aw (Nk x e (λ z=>nomatch z))]
  exact x
end
def QU (i:Expr):Prop:=∀ o I,subscripted i false o I=operate [o,I] (getItem o I)
def IW {prog:bE} {w:bz} {A:Around} {E:az->Shared->Prop} {s:Shared} {env:Env} {v S:Expr} {p:Pos} {T id:String} {Q:az->Shared->Prop} (g:typeLookup (.type T) "__getitem__" = pure (some (.builtin id))) (j:QU S) (h:wpAny (model prog w) A (eval v env) (λ o a=>wpAny (model prog w) A (eval S env) (λ i s₂=>s₂.TypeIs o T/\wpAny (model prog w) A (getItem o i) Q E s₂) E a) E s) :
   wpAny (model prog w) A (eval (.Subscript v S p) env) Q E s:=by
 refine Subscript_ (abx h (λ o a c=>abx c (λ i s₂ H=>?_) λ Z Z x=>x) λ Z Z x=>x)
 obtain ⟨e,H⟩:=H
 unfold subscriptTail
 refine aah ?_
 rw [getitemInPython_of_ne e.not_modules]
 refine aah (wpAny_specialOf e g ?_)
 have f:wpAny (model prog w) A (subscripted S false o i) (λ r b=>wpAny (model prog w) A (letTemporaryGo v o r >>= λ Z=>pure r) Q E b) E s₂:=by
   rw [j o i]
   exact wpAny_operating (abx H (λ r b d=>aah (wpAny_letTemporaryGo (aaB d))) λ Z Z x=>x)
 first
   | exact aaB (aah f)
   | exact aah (aaB (aah f))
   | exact aah f
def Qw (t ty T:TE):TS:=λ D U H=>T U H λ v b=>t U b λ x c=>ty U c λ y d=>∃ a h,x = .ref a/\Gn d a y v h/\D.nx U h
section
variable {X:Cx} {o i e value:Expr} {pos pos':Pos} {td ty tv:TE}
def Ic (q:X.A.units+1<cLine) (m:PE X o td) (l:PE X i ty) (t:PE X value tv) (n:swapsWith value (some (.Subscript o i pos')) pos.line X.env=pure false) :
   PS X (.Assign [.Subscript o i pos'] value pos) (Qw td ty tv):=by
 intro p s U H D I h
 refine wpAny_Assign_Subscript (cU (t p s U H _ I h) λ r S ⟨v,b,e,R,Q⟩=>cU (m p S U b _ e Q) λ u E ⟨x,c,f,B,w⟩=>cU (l p E U c _ f w) λ G J ⟨y,F,j,C,a,d,ex,g,z⟩=>?_) n
 subst ex
 obtain rfl:u=Value.ref a:=B
 exact Dz q j g C R λ K k=>⟨U,d,k,z⟩
end
def Gy {P:bE} {w:bz} (h:bG) (a:sysModules<h.objs.size):dA P w H (h.push { cls:=.type "dict",data:=.dict #[]}) h.objs.size (.dT []) :=
 ⟨aaZ _,abE.mpr (acy (aaN a)),[],.nil,_,#[],0,aaQ _ rfl,⟨rfl,rfl,rfl⟩,rfl,rfl,aco⟩
def K2:TE:=λ Z H Q=>∀ p,H p=none->Q (.ref p) (upd H p (.dT []))
section
variable {X:Cx} {pos:Pos}
def FI:PE X (.Dict [] [] pos) K2:=λ p s U H Q I h =>
 wpAny_Dict_empty ⟨.ref s.heap.objs.size,_,I.laid (a:=s.heap.objs.size) (o:=.dT []) (t':=s.toks) (λ Z Z q=>aam _ q) (aaj _) (Gy s.heap I.big),rfl,h _ (I.dR.fresh (aaj _))⟩
end
def FY:List (TE×TE)->St->Hp->(List (V×V)->Hp->Prop)->Prop
 | [],_,H,Q=>Q [] H
 | (t,T)::r,U,H,Q=>t U H λ x H1=>T U H1 λ y h=>FY r U h λ p a=>Q ((x,y)::p) a
abbrev VV:List (V×V)->List (az×az)->Prop:=Paired λ p q=>RelV p.1 q.1/\RelV p.2 q.2
def PPs (X:Cx) (a:Pos) (k:List (Option Expr)) (v:List Expr) (t:List (TE×TE)):Prop :=
 ∀ (p:List (am×Obj)) (s:Shared) (U:St) (H:Hp) (Q:List (V×V)->Hp->Prop),Inv X p U H s->FY t U H Q ->
   wpAny (model X.prog X.w) X.A (evalPairs (pairTrees k v X.env a)) (λ c S=>∃ b H',Inv X p U H' S/\VV b c/\Q b H') X.xe s
structure M2 (X:Cx) (o:Expr) (m:Str) (apos:Pos) (e f:Expr) (lT:Pos):Prop where
 base:attributeBase o m X.env (eval o X.env)=eval o X.env
 CL:((backTo lT (starEach [e,f] X.env)).all (λ x => !x.1) && (backToKw lT (keywordEach [] X.env)).all (λ x=>x.1.isSome)
   && decide (([e,f]:List Expr).length+([]:List Keyword).length+(if ([]:List Keyword).isEmpty then 0 else 1)<30))=true
 line:(apos.endLine == lT.line)=true
 trees:backTo lT (starEach [e,f] X.env)=[(false,eval e X.env),(false,eval f X.env)]
def XU (H:Hp) (a:am):Prop:=(∃ A,Rd H a (.dK A))\/∃ A,Rd H a (.dT A)
def Mw {X:Cx} {p:List (am×Obj)} {s:Shared} {a:am} (I:Inv X p U H s) (d:XU H a) :
   s.TypeIs (.ref a) "dict"/\(∀ b,Value.ref a = .ref b->∃ o,s.heap.get? b=some o/\o.dict=none)/\(a == sysModules)=false:=by
 rcases d with ⟨A,e⟩|⟨A,e⟩
 .
  obtain ⟨Z,f,v,Z,D⟩:=Gu I.dR e
  refine ⟨D.typeIs,λ b q=>?_,f⟩
  cases q
  obtain ⟨o,Z,Z,h,c,Z⟩:=D
  exact ⟨o,h,c.2.1⟩
 .
  obtain ⟨Z,f,x,Z,D⟩:=EQ I.dR e
  refine ⟨D.typeIs,λ b q=>?_,f⟩
  cases q
  obtain ⟨o,Z,Z,h,c,Z⟩:=D
  exact ⟨o,h,c.2.1⟩
section
variable {X:Cx} {pins:List (am×Obj)} {U:St} {H:Hp} {s:Shared} {a:am} {y d:V} {u r:az} {o:eG} {A:Around} {E:az->Shared->Prop}
def Mg {Q:az->Shared->Prop} (p:A.units+1<cLine) (I:Inv X pins U H s) (g:C3 H a y o) (j:RelV y u) (i:RelV d r) (h:∀ W s',Inv X pins U H s'->RelV (o.getD d) W->Q W s') :
   wpAny (model X.prog X.w) A (call (.builtin "dict.get") [.ref a,u,r]) Q E s:=by
 rcases g with ⟨m,k,e,c,l⟩|⟨m,k,b,e,c,n,l⟩
 .
  subst c
  obtain ⟨z,f,v,R,D⟩:=Gu I.dR e
  refine call_meetsIn ac3 D.typeIs adZ (adV _ _ _) (meets_dict_get_default (eL X.prog X.w) a (F5 j) f r) ⟨_,D.mapOf,h _ _ (I.tok _) ?_⟩
  rw [l]
  exact (R.val k).getD i
 .
  subst c
  cases (show u=Value.ref b from j)
  obtain ⟨z,f,x,R,D⟩:=EQ I.dR e
  refine call_meetsIn ac3 D.typeIs adZ (adV _ _ _) (meetsH_dict_get_default (tupleKind (eL X.prog X.w)) a b f r) ⟨tupleKind_room_in1 p,k,x,AU I.dR n,D,h _ _ (I.tok _) ?_⟩
  rw [l]
  exact (R.val k).getD i
end
def KS (t ty T:TE):TE:=λ U H Q=>t U H λ x h=>∃ a,x = .ref a/\XU h a/\ty U h λ y c=>T U c λ z b=>∃ o,C3 b a y o/\Q (o.getD z) b
section
variable {X:Cx} {o e f:Expr} {apos lT:Pos} {td ty tx:TE}
def zR (v:X.A.units+1<cLine) (t:PE X o td) (q:PE X e ty) (r:PE X f tx) (m:M2 X o "get" apos e f lT):PE X (.Call (.Attribute o "get" apos) [e,f] [] lT) (KS td ty tx):=by
 intro p s U H Q I h
 refine wpAny_Call_method m.base m.CL m.line PySem.F.plainAttrs_dict ac3 PySem.F.type_dict_get (cU (t p s U H _ I h) λ u S ⟨x,b,i,R,a,ex,d,w⟩=>?_)
 subst ex
 obtain rfl:u=Value.ref a:=R
 obtain ⟨T,K,Z⟩:=Mw i d
 refine ⟨T,K,?_⟩
 rw [m.trees]
 refine adl rfl (Calls.evalArgs_plain (acZ (cU (q p S U b _ i w) λ M J ⟨y,c,k,E,B⟩ =>
   acZ (cU (r p J U c _ k B) λ L N ⟨z,j,l,G,O,g,D⟩=>adM ?_))))
 exact Mg v l g E G λ W V n C=>⟨_,j,n,C,D⟩
end
end L2
namespace Att
open PySem PySem.W PySem.Calls PyProof.Rows
def sC {P:Params} {h:bG}:∀ (ns:List Int) (vs:bM),WellAll P h vs (ns.map WData.int)->IntsAre vs ns:=by
 intro ns
 induction ns with
 | nil =>
   intro vs w
   rw [List.map_nil] at w
   cases w
   exact .nil
 | cons n ns i =>
   intro vs w
   rw [aaS] at w
   cases w with
   | cons a b =>
     cases a
     exact .cons _ _ (i _ b)
def D0 {l:OpenLaw} {n:Nat} (k:l.most=some n) {P:Params} {h:bG} {args:List WData} {v:bM}
   (e:l.row.toRowW.claim.pre args=true) (N:WellAll P h v args) :
   ∃ a vs ns,v=[Value.ref a]/\args=[WData.list (ns.map WData.int)]/\h.get? a=some { cls:=.type "list",data:=.seq vs.toArray }/\IntsAre vs ns/\ns.length<=n:=by
 have X:WShape.hasAll [] args [.list .int]=true:=(pre_splitW e).1
 have f:l.pre.holds [] { args:=args }=true:=(pre_splitW e).2
 obtain ⟨d,r,rfl,g,i⟩:=hasAllW_cons X
 obtain rfl:=hasAllW_nil i
 obtain ⟨x,rfl,j⟩:=hasW_list g
 obtain ⟨ns,rfl⟩:=items_int j
 have H:ns.length<=n:=by
   unfold OpenLaw.pre at f
   have b:(WTm.not (.lt (.lit (.int (n:Int))) (.len (.arg 0)))).holds [] { args:=[.list (ns.map .int)]}=true:=by
     have b:=(holds_andW f).1
     rw [k] at b
     exact b
   have c:=condW_of b (w_not (w_lt w_lit (w_len_list (w_arg rfl))))
   rw [M1] at c
   refine Nat.le_of_not_lt λ q=>?_
   have Q:(n:Int)<((ns.length:Nat):Int):=by lia
   first
     | (rw [aaH Q] at c;exact absurd c (by decide))
     | (simp at c;lia)
 cases N with
 | cons w W =>
   cases W
   cases w with
   | list m L=>exact ⟨_,_,ns,rfl,rfl,m,sC ns _ L,H⟩
def Ej (l:OpenLaw) (args:List WData):l.row.toRowW.claim.post args (.bool true) args=true :=
 postW_of (r:=l.row.toRowW) (X:=(true == true))
   (show WShape.has [] (.bool true) .bool=true by first|rfl|decide|simp [WShape.has,WShape.arms,WShape.armsAll])
   (show (WTm.eq .res (.lit (.bool true))).value [] { args:=args,res:=some (.bool true),after:=args }=some (.bool (true == true)) from w_eq_bool (w_res rfl) w_lit) rfl
section
def Wr (h:bG):bG:={ h with objs:=#[]}
def ledger (h:bG) (L d:am):List (am×Obj):=(List.range h.objs.size).filterMap λ a=>if a=L\/a=d then none else (h.get? a).map λ o=>(a,o)
end
end Att
namespace L2
open PySem PySem.Spec PyProof.Rows
variable {H H':Hp} {qual:Str}
theorem wu:∀ {vs:bM} {ns:List Int},IntsAre vs ns->Vals (ns.map V.int) vs
 | _,_,.nil => .nil
 | _,_,.cons n t h => .cons ⟨t,rfl⟩ (wu h)
def Nn (H:Hp):Prop:=∀ b,H b=none\/∃ o x,H b=some (.Ao o (.lst x))
def Fh {P:bE} {w:bz} {K:aD} {M A:dW} {D:G3} {k:Nat} {l a:am} {O:FuncData} {x:Str} {Y:Sp} {s₁:Shared} {vs:bM} {ns:List Int} (I:K.In s₁.heap) (R:s₁.heap.Ns mainGlobals M) (c:s₁.heap.Ns builtinsNs A) (t:∀ x:Str,x ≠ "__name__"->A x=bootBuiltins x) (We:s₁.heap.NoLimit) (hg:s₁.gens=#[]) (i:s₁.heap.get? a=some { cls:=.type "list",data:=.seq vs.toArray }) (U:IntsAre vs ns) (W:ns.length<=sizeLine) (hr:c8 k callerA) (F:∀ B:bG,K.In B->B.Ns mainGlobals M->lY P w K M B D k l O [x] Y) (Pb:∀ (s:Shared) (u:az),BindsTo s O ⟨[u],[]⟩ [(x,u)]) (J2:∀ H:Hp,Nn H->aT K H a (ns.map V.int)->Y [.ref a] H (λ v _=>v = .bl true) λ _ _ _=>False) (p:∀ H e s',D [] H s₁ (λ _ _ _=>False) e s'->False) :
   codeAny (model P w) callerA (.call (.ref l) ⟨[.ref a],[]⟩) (λ r s'=>r = .ok (.ret (.bool true))/\OldK s₁.heap s'.heap/\s'.os=s₁.os/\AllBare s'.gens) s₁:=by
 have X:=wu U
 have V2:=U.length
 have C:∀ H:Hp,Nn H->aT K H a (ns.map V.int)->oJ P w H s₁.heap->(∀ b,H b≠none->b=a)->(H a≠none->K.lookup a=none) ->
     codeAny (model P w) callerA (.call (.ref l) ⟨[.ref a],[]⟩) (λ r s'=>r = .ok (.ret (.bool true))/\OldK s₁.heap s'.heap/\s'.os=s₁.os/\AllBare s'.gens) s₁:=by
   intro H T hS L Q hK
   have G:∀ {b:am} {o:Obj},s₁.heap.get? b=some o->H b=none->(wT s₁.heap H).get? b=some o:=λ e n=>FG e n
   have Qj:∀ {b:am} {o:Obj} {E:Array DictEntry} {ep:Nat},s₁.heap.get? b=some o->o.data = .dict E ep->H b=none:=λ {b o E ep} e d=>by
     cases q:H b with
     | none=>rfl
     | some u =>
       have j:b=a:=Q b (by rw [q];simp)
       subst j
       rw [i] at e;cases e
       have d':Data.seq vs.toArray _=Data.dict E ep:=d
       cases d'
   have S:∀ {b:am} {m:dW},s₁.heap.Ns b m->(wT s₁.heap H).Ns b m:=λ {b m} ⟨o,E,ep,e,d,r⟩=>⟨o,E,ep,G e (Qj e d),d,r⟩
   have J:K.In (wT s₁.heap H):=λ b o e=>G (I b o e) (by
     cases q:H b with
     | none=>rfl
     | some u =>
       have j:b=a:=Q b (by rw [q];simp)
       subst j
       rw [hK (by rw [q];simp)] at e;cases e)
   have hM:Mod K M (wT s₁.heap H):=⟨J,S R,⟨A,S c,t⟩,let ⟨mc,h1,h2⟩:=We;⟨mc,S h1,h2⟩⟩
   have e0:A1 P w K M (wT s₁.heap H) callerA [] s₁ H:=⟨rfl,hM,λ b o e=>HW e,Nat.le_of_eq (Dv _ _),trivial,λ b c=>absurd (show b∈([]:bK) from c) (by simp),L,.of_eq hg⟩
   refine adO ((F _ J (S R)).run callerA [] s₁ H ⟨[.ref a],[]⟩ [.ref a] [.ref a] _ _ hr e0 (Pb s₁ (.ref a)) (.cons rfl .nil) (J2 H T hS)) λ r s' h=>?_
   cases r with
   | error e=>exact (p H e s' h).elim
   | ok fl =>
     cases fl with
     | next=>exact False.elim h
     | brk=>exact False.elim h
     | cont=>exact False.elim h
     | ret u =>
       obtain ⟨v,H',os,f,un,SS,r',q⟩:=h
       have q':v = .bl true:=q
       subst q'
       obtain rfl:u=Value.bool true:=r'
       refine ⟨rfl,OldK.of_keep λ b o e=>?_,os,f⟩
       cases q:H b with
       | none=>exact un.keep b o e q (by intro z;exact absurd (show b∈([]:bK) from z) (by simp)) (by simp)
       | some u =>
         rcases T b with z|⟨ob,xs,z⟩
         . rw [q] at z;cases z
         . have z2:=un.wO b ob _ z
           obtain ⟨N,_⟩:=L b _ z
           obtain ⟨e2,_⟩:=SS b _ z2
           rw [e] at N;cases N
           exact e2
 cases y:K.lookup a with
 | some o =>
   have e:=I a o y
   rw [i] at e
   cases e
   refine C (λ _=>none) (λ _ => .inl rfl) (.inr ⟨_,vs.toArray,_,y,rfl,rfl,rfl,by rw [aaz,V2];exact W,by simpa using X⟩) (λ b u z=>by have g:(none:Option HO)=some u:=z;cases g) (λ b z=>absurd rfl z) λ z=>absurd rfl z
 | none =>
   refine C (λ b=>if b=a then some (.Ao { cls:=.type "list",data:=.seq vs.toArray } (.lst (ns.map V.int))) else none) (λ b=>?_) (.inl (.inr ⟨{ cls:=.type "list",data:=.seq vs.toArray },aan rfl⟩)) (λ b u z=>?_) (λ b z=>?_) λ _=>y
   . by_cases c:b=a
     . exact .inr ⟨_,_,aan c⟩
     . exact .inl (aap c)
   .
    by_cases c:b=a
    . have g:=(aan c).symm.trans z
      cases g
      subst c
      exact ⟨i,by rw [M1];exact W,vs,_,X,i⟩
    . have g:=(aap c).symm.trans z
      cases g
   . by_cases c:b=a
     . exact c
     . exact absurd (aap c) z
def inClass (s:Stmt) (j:Nat):Stmt:=match s with
 | .ClassDef _ _ _ b _ _ _ _ _ _ _=>b.getD j (.Pass ⟨0,0,0,0⟩)
 | _ => .Pass ⟨0,0,0,0⟩
def c9 (s:Stmt):Arguments:=match s with
 | .FunctionDef _ a _ _ _ _ _ _ _ _=>a
 | _=>{ posonlyargs:=[],args:=[],vararg:=none,kwonlyargs:=[],kw_defaults:=[],kwarg:=none,defaults:=[]}
def ci (s:Stmt):List Stmt:=match s with
 | .FunctionDef _ _ b _ _ _ _ _ _ _=>b
 | _=>[]
def av (s:Stmt):Scope:=match s with
 | .FunctionDef _ _ _ _ _ _ S _ _ _=>S
 | _=>{ kind:=.function,names:=[],isGenerator:=false,isCoroutine:=false }
abbrev yn:G3:=λ _ _ _ _ _ _=>False
abbrev E0:XK:=λ _ _ _=>False
def zw {X:Cx}:Passes yn X E0:=λ Z Z Z Z Z Z Z h=>h.elim
structure HG (K:aD) (x qual:Str) (st:Stmt) (f:am) (fd:FuncData):Prop where
 ex:∃ (oc:az) (od:Option am) (kV doc pm:az) (an:Option am) (bQ ct:az) (Ae:Array (jF)),
   fd=W.fnOf x qual (c9 st) (ci st) (av st) .none kV doc pm an bQ ct/\K.lookup f=some ⟨oc,od,.func fd,Ae⟩/\W.codeIn K bQ qual=true
 kp:W.keepIn K (.ref f)=true
section
variable {P:bE} {w:bz} {K:aD} {mg:dW} {base:bG}
def HG.ok {x:Str} {st:Stmt} {f:am} {a:FuncData} {N p:cZ} {k:Nat} {sp:Sp} (F:HG K x qual st f a) (S:aC N p (av st)) (len:∀ vs H Q E,sp vs H Q E->vs.length=p.length) (e:∀ (b:az) (A:Around) (outer:List Env) (s:Shared) (H:Hp) (vs:aB) (Q:VK) (E:XK),c8 k (A.deeper (envOfC qual (av st) s.heap.objs.size f b))->sp vs H Q E ->
     ∃ t,vH (qg yn P w K mg base N qual (av st) f b A outer s H E).Ev (ci st) t/\t { nx:=λ Z H'=>Q .cL H',rt:=Q } (start N vs) H):lY P w K mg base yn (k+1) f a p sp:=by
 obtain ⟨o,O,kV,d,m,j,b,ct,i,rfl,l,c⟩:=F.ex
 refine JA l c S len λ A outer s H vs Q E g J=>?_
 obtain ⟨t,h,q⟩:=e b A outer s H vs Q E g J
 exact ⟨t,h.Ev,q⟩
def HG.binds {x:Str} {st:Stmt} {f:am} {e:FuncData} {c:cZ} (F:HG K x qual st f e) (h:∀ (kV d p:az) (a:Option am) (b ct:az) (us:bM),us.length=c.length->bindArgs (W.fnOf x qual (c9 st) (ci st) (av st) .none kV d p a b ct) ⟨us,[]⟩=pure (c.zip us)):Binds K e c []:=by
 obtain ⟨o,O,kV,d,p,a,b,ct,A,rfl,l,g⟩:=F.ex
 exact .all (h kV d p a b ct)
def LK {x:Str} {st:Stmt} {f:am} {o:az} {O a:Option am} {A:Array (jF)} {kV d p b ct:az} (l:K.lookup f=some ⟨o,O,.func (W.fnOf x qual (c9 st) (ci st) (av st) .none kV d p a b ct),A⟩) (c:W.codeIn K b qual=true) (k:W.keepIn K (.ref f)=true):HG K x qual st f (W.fnOf x qual (c9 st) (ci st) (av st) .none kV d p a b ct):=⟨⟨o,O,kV,d,p,a,b,ct,A,rfl,l,c⟩,k⟩
end
def Cs {A:Around} {k:Nat} (h:c8 k A):A.units+1<cLine:=aat (Nat.add_le_add_left (by decide:1<=64) _) h.units
def aW {n:Nat} (h:n<=1000):n<sizeLine:=aat h (by decide)
section
variable {X:Cx}
def pv (i:Nat) {x:Str} {p:Pos} (h:autoParam (X.N[i]?=some x) za_._auto_1) (a:O4 X.env.scope x:=by first|exact Or.inl rfl|exact Or.inr (Or.inl rfl)|exact Or.inr (Or.inr rfl)) (H:autoParam (Ar x) zb_._auto_1) (A:autoParam ((x == ("__classdict__" : Str))=false) zb_._auto_1):PE X (.Name x p) (N0 i):=LC h a H A
end
def fe {A B:Prop} (h:B):if false=true then A else B:=by
 rw [aap aaE]
 exact h
def f7 {A B:Prop} (h:A):if true=true then A else B:=by
 rw [aan rfl]
 exact h
def fO {c A B:Prop} [Decidable c] (H:c) (h:B):if (!decide c)=true then A else B:=by
 rw [aaH H]
 exact fe h
def aG (H h:Hp):Prop:=∀ b o,H b=some o->h b=some o
def aG.refl (H:Hp):aG H H:=λ Z Z h=>h
def aG.trans {H1 H2:Hp} (a:aG H H1) (b:aG H1 H2):aG H H2:=λ c o h=>b c o (a c o h)
def aG.free (e:aG H H') {l:am} (h:H' l=Option.none):H l=Option.none:=by
 cases q:H l with
 | none=>rfl
 | some o =>
   rw [e l o q] at h
   cases h
def aG.seq {K:aD} {a:am} {xs:aB} (e:aG H H') (h:aT K H a xs):aT K H' a xs:=by
 rcases h with (h|⟨o,h⟩)|h
 . exact .inl (.inl (e _ _ h))
 . exact .inl (.inr ⟨o,e _ _ h⟩)
 . exact .inr h
section
variable {κ:Type} [DecidableEq κ]
def EK {a:List (κ×V)} {k:κ} (h:gG a k=none):¬ k∈a.map (·.1):=by
 intro m
 obtain ⟨p,H,e⟩:=aaJ.mp m
 have q:(a.any λ K=>decide (K.1=k))=true:=List.any_eq_true.mpr ⟨p,H,aaH e⟩
 rw [jY,h] at q
 exact absurd q (by simp)
theorem CN:∀ {l:List κ} {k:κ},l.Nodup->¬ k∈l->(l++[k]).Nodup
 | [],k,_,_=>by simp
 | a::r,k,h,H=>by
   obtain ⟨b,c⟩:=aaP.mp h
   show (a::(r++[k])).Nodup
   refine aaP.mpr ⟨λ m=>?_,CN c λ m=>H (aaa.mpr (Or.inr m))⟩
   rcases aau.mp m with q|q
   . exact b q
   . exact H (aaa.mpr (Or.inl (aac.mp q).symm))
def Hv {a:List (κ×V)} {k:κ} (v:V) (H:(a.map (·.1)).Nodup) (h:gG a k=none):((putK a k v).map (·.1)).Nodup:=by
 rw [G1 v h,aaf]
 exact CN H (EK h)
end
end L2
namespace Mth
def JC {g l:Int} (h:0<=g) (H:0<l):Int.gcd l (g % l)=Int.gcd g l:=by
 obtain ⟨a,rfl⟩:=adY h
 obtain ⟨b,rfl⟩:=adY (aba H)
 show Nat.gcd b (((a:Int) % (b:Int))).natAbs=Nat.gcd a b
 have:(((a:Int) % (b:Int))).natAbs=a % b:=by rw [<- Int.natCast_emod];rfl
 rw [this,Nat.gcd_comm a b,Nat.gcd_comm b,<- Nat.gcd_rec]
def Qn {g:Int} (h:0<=g):((Int.gcd g 0:Nat):Int)=g:=by
 rw [Int.gcd_zero_right];lia
def wr {a b:Int} (H:0<a) (h:0<a * b):0<b:=by
 rcases (by lia:0<b\/b<=0) with q|q
 . exact q
 . have:=acJ (aba H) (by lia:0 <= -b)
   rw [aeh] at this
   lia
structure Fr (t b q r:Int):Prop where
 pos:0<r
 jV:q * b=t * r
 RX:Int.gcd q r=1
 QS:q.natAbs<=t.natAbs
 Op:r.natAbs<=b.natAbs
def ub {c q:Int} (h:0<c):q.natAbs<=(c * q).natAbs:=by
 rw [acI]
 exact Nat.le_mul_of_pos_left _ (by lia)
def JE {t b c:Int} (e:b≠0) (f:c=((Int.gcd t b:Nat):Int)):0<c/\c<=b.natAbs/\(0<b->Fr t b (t.fdiv c) (b.fdiv c))/\(b<0->Fr t b (t.fdiv (-c)) (b.fdiv (-c))):=by
 have o:0<Int.gcd t b:=Int.gcd_pos_iff.mpr (.inr e)
 have C:0<c:=by lia
 have D:c ∣ t:=f ▸ Int.gcd_dvd_left t b
 have i:c ∣ b:=f ▸ Int.gcd_dvd_right t b
 obtain ⟨q,H⟩:=D
 obtain ⟨r,h⟩:=i
 have z:r≠0:=by rintro rfl;rw [Int.mul_zero] at h;exact e h
 have d:c<=b.natAbs:=by
   rw [h,acI]
   have:c.natAbs * 1<=c.natAbs * r.natAbs:=Nat.mul_le_mul_left _ (by lia)
   lia
 have E:t.fdiv c=q:=by rw [H,acg _ (by lia)]
 have j:b.fdiv c=r:=by rw [h,acg _ (by lia)]
 have k:t.fdiv (-c) = -q:=by rw [show t = -c * -q by rw [H,Int.neg_mul_neg],acg _ (by lia)]
 have l:b.fdiv (-c) = -r:=by rw [show b = -c * -r by rw [h,Int.neg_mul_neg],acg _ (by lia)]
 have g:Int.gcd q r=1:=by
   have a:Int.gcd (c * q) (c * r)=c.natAbs * Int.gcd q r:=Int.gcd_mul_left c q r
   rw [<- H,<- h] at a
   have n:c.natAbs=Int.gcd t b:=by lia
   rw [n] at a
   have m:Int.gcd t b * Int.gcd q r=Int.gcd t b * 1:=by rw [<- a,aed]
   exact Nat.eq_of_mul_eq_mul_left o m
 have L:q.natAbs<=t.natAbs:=H ▸ ub C
 have p:r.natAbs<=b.natAbs:=h ▸ ub C
 refine ⟨C,d,λ B=>?_,λ B=>?_⟩
 . rw [E,j]
   exact ⟨wr C (h ▸ B),by rw [H,h,abt,Int.mul_left_comm],g,L,p⟩
 . rw [k,l]
   refine ⟨wr C (by rw [aeh,<- h];lia),?_,by rw [Int.gcd_neg,Int.neg_gcd];exact g,by lia,by lia⟩
   rw [H,h,Int.neg_mul,aeh,abt,Int.mul_left_comm]
def Bd (n:Nat) (x:Int):Prop:=x.natAbs<2 ^ n
def Bd.mono {m n:Nat} {x:Int} (h:Bd m x) (l:m<=n):Bd n x:=aav h (abq (by decide) l)
def Bd.mul {m n:Nat} {x y:Int} (h:Bd m x) (k:Bd n y):Bd (m+n) (x * y):=by
 unfold Bd at *
 rw [acI,Nat.pow_add]
 exact Nat.mul_lt_mul'' h k
def Bd.add {m:Nat} {x y:Int} (h:Bd m x) (k:Bd m y):Bd (m+1) (x+y):=by
 unfold Bd at *
 rw [ac4]
 have:=Int.natAbs_add_le x y
 lia
def Bd.neg {m:Nat} {x:Int} (h:Bd m x):Bd m (-x):=by unfold Bd at *;rw [Int.natAbs_neg];exact h
def Bd.sub {m:Nat} {x y:Int} (h:Bd m x) (k:Bd m y):Bd (m+1) (x - y):=by rw [Int.sub_eq_add_neg];exact h.add k.neg
def Bd.le {m:Nat} {x y:Int} (h:Bd m y) (k:x.natAbs<=y.natAbs):Bd m x:=aat k h
def Bd.log {n:Nat} {x:Int} (h:Bd n x) (a:0<n):x.natAbs.log2<n:=by
 by_cases H:x.natAbs=0
 . rw [H];simpa using a
 . exact (Nat.log2_lt H).mpr h
def Fr.Oa {t b q r:Int} {n:Nat} (h:Fr t b q r) (k:Bd n t):Bd n q:=k.le h.QS
def Fr.Pj {t b q r:Int} {n:Nat} (h:Fr t b q r) (k:Bd n b):Bd n r:=k.le h.Op
end Mth
namespace Bit
def rooms (n:Nat):aR:=(List.range 61).filter n.testBit
def fW {n k:Nat}:k∈rooms n↔k<61/\n.testBit k=true:=by
 unfold rooms;rw [aa7,aaD]
def pN (n:Nat):(rooms n).Pairwise (· < ·):=(ad0).filter _
def iO {n m k:Nat} (h:n<2 ^ m) (H:m<=k):n.testBit k=false:=Nat.testBit_lt_two_pow (aav h (abq (by decide) H))
def Bl {n m:Nat} (h:n<2 ^ m) (f:m<=61):(List.range m).filter n.testBit=rooms n:=by
 unfold rooms
 obtain ⟨d,c⟩:∃ d,61=m+d:=⟨61 - m,by lia⟩
 have e:List.range 61=List.range (m+d):=by rw [c]
 rw [e,List.range_add,abo]
 have:(List.map (m + ·) (List.range d)).filter n.testBit=[]:=by
   rw [List.filter_eq_nil_iff]
   intro a H
   obtain ⟨b,Z,rfl⟩:=aaJ.mp H
   rw [iO h (by lia)]
   exact aaE
 rw [this,abf]
def sumOf (l:aR):Nat:=l.foldl (λ n r=>n ||| 2 ^ r) 0
theorem Ai:∀ (l:aR) (a k:Nat),(l.foldl (λ n r=>n ||| 2 ^ r) a).testBit k=(a.testBit k || decide (k∈l))
 | [],a,k=>by simp
 | r::l,a,k=>by
   rw [adE,Ai l,adJ,adi,Bool.or_assoc]
   congr 1
   by_cases h:r=k
   . subst h;simp
   . have:decide (k∈r::l)=decide (k∈l):=by simp [acy h]
     rw [this];simp [h]
def mR (l:aR) (k:Nat):(sumOf l).testBit k=decide (k∈l):=by
 unfold sumOf;rw [Ai];simp
def Gv {l:aR} {m:Nat} (h:∀ r∈l,r<m):sumOf l<2 ^ m:=by
 refine acE _ λ i H=>?_
 rw [mR]
 exact aaq λ q=>absurd (h i q) (by lia)
def zU {l:aR} (h:∀ r∈l,r<61) (g:l.Pairwise (· < ·)):rooms (sumOf l)=l:=by
 have E:∀ k,k∈rooms (sumOf l)↔k∈l:=λ k=>by
   rw [fW,mR]
   constructor
   . rintro ⟨Z,q⟩;exact abM q
   . intro q;exact ⟨h k q,aaH q⟩
 have u:∀ (a b:aR),a.Pairwise (· < ·)->b.Pairwise (· < ·)->(∀ k,k∈a↔k∈b)->a=b:=by
   intro a
   induction a with
   | nil =>
     intro b Z Z H
     cases b with
     | nil=>rfl
     | cons y b=>exact absurd ((H y).mpr aas) (by simp)
   | cons x a i =>
     intro b e f H
     cases b with
     | nil=>exact absurd ((H x).mp aas) (by simp)
     | cons y b =>
       obtain ⟨d,c⟩:=aej.mp e
       obtain ⟨F,O⟩:=aej.mp f
       have W:x=y:=by
         rcases aaa.mp ((H x).mp aas) with q|q
         . exact q
         . rcases aaa.mp ((H y).mpr aas) with Q|Q
           . exact Q.symm
           . have:=F x q;have:=d y Q;lia
       subst W
       rw [i b c O λ k=>?_]
       constructor
       . intro q
         rcases aaa.mp ((H k).mp (aai _ q)) with z|z
         . subst z;exact absurd (d k q) (abH _)
         . exact z
       . intro q
         rcases aaa.mp ((H k).mpr (aai _ q)) with z|z
         . subst z;exact absurd (F k q) (abH _)
         . exact z
 exact u _ _ (pN _) g E
def parts (l:aR):aR:=l.foldl (λ p r=>p++p.map (· ||| 2 ^ r)) [0]
def AR {p r:Nat} (h:p<2 ^ r):p ||| 2 ^ r=p+2 ^ r:=by
 have:=adC h 1
 rw [aed] at this
 rw [Nat.or_comm,<- this,acC]
structure Ok (ps l:aR):Prop where
 len:ps.length=2 ^ l.length
 first:ps[0]?=some 0
 last:ps[ps.length - 1]?=some (sumOf l)
 rise:ps.Pairwise (· < ·)
 sub:∀ p∈ps,∀ k,p.testBit k=true->k∈l
def Kx:Ok [0] []:=⟨rfl,rfl,rfl,by simp,λ p H k h=>by
 have:p=0:=by simpa using H
 subst this;simp at h⟩
def HB {d l:aR} {r:Nat} (h:Ok d l) (o:∀ x∈l,x<r):Ok (d++d.map (· ||| 2 ^ r)) (l++[r]):=by
 have s:∀ p∈d,p<2 ^ r:=λ p m=>acE _ λ i t=>by
   cases e:p.testBit i with
   | false=>rfl
   | true=>have:=o i (h.sub p m i e);lia
 have n:0<d.length:=by rw [h.len];exact Nat.two_pow_pos _
 refine ⟨?_,?_,?_,?_,?_⟩
 . rw [aab,M1,h.len,aab,aaC,ac4];lia
 . rw [aal n];exact h.first
 .
  rw [aab,M1,aaO (by lia),Sb]
  have e:d.length+d.length - 1 - d.length=d.length - 1:=by lia
  rw [e,h.last]
  show some (sumOf l ||| 2 ^ r)=some (sumOf (l++[r]))
  unfold sumOf
  rw [abD];rfl
 .
  rw [adc]
  refine ⟨h.rise,?_,λ a H b f=>?_⟩
  . rw [List.pairwise_map]
    refine adS ?_ h.rise
    intro a b H f M
    rw [AR (s a H),AR (s b f)];lia
  . obtain ⟨c,g,rfl⟩:=aaJ.mp f
    have:=s a H
    rw [AR (s c g)];lia
 .
  intro p m k j
  rcases aau.mp m with q|q
  . exact aaU _ (h.sub p q k j)
  .
   obtain ⟨c,g,rfl⟩:=aaJ.mp q
   rw [adJ,Bool.or_eq_true] at j
   rcases j with z|z
   . exact aaU _ (h.sub c g k z)
   . rw [adi] at z
     have:=abM z
     subst this
     exact aa1 _ (by simp)
theorem BS:∀ (b a p:aR),Ok p a->(a++b).Pairwise (· < ·)->Ok (b.foldl (λ p r=>p++p.map (· ||| 2 ^ r)) p) (a++b)
 | [],a,p,h,_=>by simpa using h
 | r::b,a,p,h,H=>by
   rw [adE]
   have e:a++r::b=(a++[r])++b:=by simp
   have c:∀ x∈a,x<r:=λ x d=>(adc.mp H).2.2 x d r aas
   rw [e] at H |-
   exact BS b (a++[r]) _ (HB h c) H
def FL {n r:Nat} (f:r<61) (h:n.testBit r=false):(rooms (n ||| 2 ^ r)).length=(rooms n).length+1:=by
 have c:∀ (l:aR),l.Nodup->(l.filter (n ||| 2 ^ r).testBit).length=(l.filter n.testBit).length+(if r∈l then 1 else 0):=by
   intro l
   induction l with
   | nil=>intro Z;rfl
   | cons x l i =>
     intro b
     obtain ⟨H,a⟩:=aaP.mp b
     have e:=i a
     have g:(n ||| 2 ^ r).testBit x=(n.testBit x || decide (r=x)):=by rw [adJ,adi]
     rw [List.filter_cons,List.filter_cons,g]
     by_cases q:r=x
     . subst q
       rw [h]
       simp only [decide_true,Bool.or_true,adr,aaX,e,aap H,aaa,true_or]
       simp
     . have Q:(r∈x::l)↔r∈l:=by simp [q]
       have d:decide (r=x)=false:=aaq q
       rw [d,Bool.or_false]
       cases n.testBit x with
       | true=>simp only [adr,aaX,e];by_cases z:r∈l<;>simp [z,q]<;>lia
       | false=>simp only [abI,acA,e];by_cases z:r∈l<;>simp [z,q]
 have:=c (List.range 61) List.nodup_range
 rw [aan (aaD.mpr f)] at this
 exact this
end Bit
namespace L2
open PySem PySem.Spec PyProof.Rows Mth
def Bg:bootBuiltins "abs" = some (.builtin "abs"):=by decide +kernel
def cA:bootBuiltins "len" = some (.builtin "len"):=by decide +kernel
def nE:bootBuiltins "isinstance" = some (.builtin "isinstance"):=by decide +kernel
def FB:bootBuiltins "all" = some (.builtin "all"):=by decide +kernel
def iT:bootBuiltins "tuple" = some (.type "tuple"):=by decide +kernel
def oY:bootBuiltins "list" = some (.type "list"):=by decide +kernel
def yd:bootBuiltins "int" = some (.type "int"):=by decide +kernel
def Hr:bootBuiltins "bool" = some (.type "bool"):=by decide +kernel
def Cy {n:Nat} {x:Int} (h:Bd n x):Builtin.Int.intBits x<=n:=acu.mpr h
def Jj {n:Nat} {x:Int} (h:Builtin.Int.intBits x<=n):Bd n x:=acu.mp h
section
variable {X:Cx}
def JR (i j:Int):Prop:=∃ m n,Bd m i/\Bd n j/\m+n<=100000000
def Kc (_ j:Int):Prop:=j≠0/\Bd 8999 j
def IY:ji X (binaryOp .Mult) (rI JR λ i j => .int (i * j)):=M9 λ Z Z Z Z Z Z Z a q=>by
 obtain ⟨m,n,h,H,b⟩:=a
 exact mul_int q (IntMulOk.of_le (Cy h) (Cy H) (by lia))
def E9:ji X (binaryOp .FloorDiv) (rI Kc λ i j => .int (i.fdiv j)):=M9 λ Z Z Z Z Z Z Z h q=>by
 have H:Bd 8999 _:=h.2
 exact floordiv_int h.1 q (.inl (PyProof.noPylong_of_log2 (aav (H.log (by decide)) (by decide))))
inductive OT (K:aD) (x:V) (y:V) (H:Hp) (Q:VK):Prop|mk (p xs i v:_) (_:x = .ref p) (_:y = .int i) (_:(aT K H p xs\/bY K H p xs)) (_:nQ xs i=some v) (_:Q v H)
def ao:P6 X (OT X.K):=by
 intro V S a s U H x y v u Q I r R h d
 obtain ⟨p,f,i,w,e,E,b,c,q⟩:=h
 rcases b with b|b
 . exact IG V S a s U H x y v u Q I r R ⟨p,f,i,w,e,E,b,c,q⟩ d
 . exact Mf V S a s U H x y v u Q I r R ⟨p,f,i,w,e,E,b,c,q⟩ d
def rK:jg X (.builtin "isinstance") (λ xs H Q=>∃ x c t C b,xs=[x,c]/\qM X.K H x t/\RelV c C/\W.kitOne X.K t C=some b/\Q (.bl b) H):=by
 intro p s U H xs g Q I r h
 obtain ⟨x,c,t,C,b,rfl,ty,R,e,q⟩:=h
 obtain ⟨u,w,rfl,f,d⟩:=vals2 r
 have:w=C:=by
   cases c with
   | cL=>cases d;cases R;rfl
   | bl b=>cases d;cases R;rfl
   | ref a=>cases d;cases R;rfl
   | ty n=>cases d;cases R;rfl
   | int i=>exact absurd e (by obtain ⟨k,rfl⟩:=R;intro z;unfold W.kitOne W.kitCls at z;cases ty<;>simp at z)
   | str i=>exact absurd e (by obtain ⟨k,rfl⟩:=R;intro z;unfold W.kitOne W.kitCls at z;cases ty<;>simp at z)
   | Ei i=>exact absurd e (by obtain ⟨k,rfl⟩:=R;intro z;unfold W.kitOne W.kitCls at z;cases ty<;>simp at z)
   | Kb i=>exact absurd e (by obtain ⟨k,rfl⟩:=R;intro z;unfold W.kitOne W.kitCls at z;cases ty<;>simp at z)
 subst this
 exact C7 I f ty e λ T=>⟨.bl b,H,I.tok _,rfl,q⟩
end
def gF (K:aD) (m:dW) (x:Str) (st:Stmt):Prop:=∃ f F,m x=some (.ref f)/\HG K x x st f F
def Def (P:bE) (w:bz) (K:aD) (m:dW) (b:bG) (x:Str) (k:Nat) (p:cZ) (s:Sp):Prop :=
 ∃ f F,m x=some (.ref f)/\W.keepIn K (.ref f)=true/\Binds K F p []/\lY P w K m b yn k f F p s
section
variable {P:bE} {w:bz} {K:aD} {mg:dW} {base:bG}
def gF.def {x:Str} {st:Stmt} {N p:cZ} {k:Nat} {sp:Sp} (h:gF K mg x st) (S:aC N p (av st)) (len:∀ vs H Q E,sp vs H Q E->vs.length=p.length)
   (i:∀ (kV d n:az) (c:Option am) (b ct:az) (us:bM),us.length=p.length->bindArgs (W.fnOf x x (c9 st) (ci st) (av st) .none kV d n c b ct) ⟨us,[]⟩=pure (p.zip us))
   (g:∀ (f:am) (b:az) (A:Around) (outer:List Env) (s:Shared) (H:Hp) (vs:aB) (Q:VK) (E:XK),c8 k (A.deeper (envOfC x (av st) s.heap.objs.size f b))->sp vs H Q E ->
     ∃ t,vH (qg yn P w K mg base N x (av st) f b A outer s H E).Ev (ci st) t/\t { nx:=λ Z a=>Q .cL a,rt:=Q } (start N vs) H):Def P w K mg base x (k+1) p sp:=by
 obtain ⟨f,e,j,F⟩:=h
 exact ⟨f,e,j,F.kp,F.binds i,F.ok S len λ b A outer s H vs Q E l m=>g f b A outer s H vs Q E l m⟩
def HG.La {x q:Str} {st:Stmt} {f:am} {e:FuncData} {p:Str} (F:HG K x q st f e)
   (h:∀ (kV d c:az) (a:Option am) (b ct:az) (u:az),bindArgs (W.fnOf x q (c9 st) (ci st) (av st) .none kV d c a b ct) ⟨[u],[]⟩=pure [(p,u)]) (s:Shared) (u:az):BindsTo s e ⟨[u],[]⟩ [(p,u)]:=by
 obtain ⟨o,O,kV,d,c,a,b,ct,A,rfl,l,g⟩:=F.ex
 exact .of_eq (h kV d c a b ct u)
end
section
variable {X:Cx} {x:Str} {p pos:Pos} {e:Expr} {es:List Expr} {t:TA} {k:Nat} {ps:cZ} {sp:Sp}
def ay (D:Def X.prog X.w X.K X.mg X.base x k ps sp) (i:c8 k X.A) (H:PA X (e::es) t) (c:autoParam (Gl X x) za_._auto_1) (y:autoParam (Ar x) zb_._auto_1)
   (b:autoParam (CU X e es) za_._auto_1) (h:autoParam (Eu X es pos) za_._auto_1):PE X (.Call (.Name x p) (e::es) [] pos) (CF sp [] E0 t):=by
 obtain ⟨f,j,g,d,a,F⟩:=D
 exact BQ F i c g d a .nil zw H y b h
end
def AN {n:Int} {m:Nat} (h:(W.WData.int n).weight<=m):Bd m n:=by
 refine Jj ?_
 simpa only [W.WData.weight,Builtin.Int.intBits] using h
end L2
namespace Att
open PySem PySem.W PySem.Calls PyProof.Rows Mth
def wV {l:OpenLaw} {n:Nat} {q:bE} {L:cZ} {X:(dW)->bG->Prop} {y:bz->bG->Prop} {d:DefRec}
   (K:l.most=some n) (O:d.params.defaults=[])
   (c:∀ (w:bz) (s₀ s:Shared) (m M:dW) (F:am) (o:Obj) (p C D:az) (a:am) (vs:bM) (ns:List Int),
     Ground q L [] X w s₀ m M s.heap->y w s.heap ->
     s.heap.get? F=some o->o.data = .func (docDef d.name d.params d.body d.scope p C D)->s.heap.CodeRec C d.name->m d.name=some (.ref F) ->
     s.heap.get? a=some { cls:=.type "list",data:=.seq vs.toArray }->IntsAre vs ns->ns.length<=n->(∀ z∈ns,Bd 1048576 z)->s.gens=#[] ->
     codeAny (model l.prog w) callerA (.call (.ref F) ⟨[.ref a],[]⟩) (λ r s'=>r = .ok (.ret (.bool true))/\OldK s.heap s'.heap/\s'.os=s.os/\AllBare s'.gens) s) :
   WalkO q L X y l.row.toRowW d [] (λ f vs=>PySem.call f vs):=by
 intro w s₀ s m M G Y F o p C D k kV Q E A e j I args v as g V S N U
 obtain rfl:k = .none:=Dflts.none e O
 obtain rfl:kV = .none:=Dflts.noKw e
 obtain ⟨a,vs,ns,rfl,rfl,i,h,H⟩:=D0 K g N
 have B:∀ z∈ns,Bd 1048576 z:=λ z T=>by
   have t:=layableW_arg V _ (aac.mpr rfl)
   have b:=layableW_item t (.int z) (aaJ.mpr ⟨z,T,rfl⟩)
   exact L2.AN (aax (layableW_iff.mp b).2.2 (by decide))
 refine enter_call (adO (c w s₀ s m M F o p C D a vs ns G Y Q (fd_plain E) A j i h H B I) λ r s' R=>?_)
 obtain ⟨rfl,b,u,x⟩:=R
 exact ⟨.inl ⟨.bool true,.bool true,[],rfl,λ Z=>rfl,.bool true,Ej l _,λ Z=>⟨List.Pairwise.nil,λ Z J=>(nomatch J)⟩⟩,b,u,x⟩
end Att
namespace L2
open PySem PySem.Spec PyProof.Rows Mth
variable {H H':Hp} {elt iter tg:Expr} {elts ifs:List Expr} {g:TG} {nt t' x1:Nat} {te:TE} {pj:Pos} {U:St}
inductive Gc (K:aD) (vs:aB) (H:Hp) (Q:VK) (_E:XK):Prop|mk (a:am) (ns:List Int) (_:vs=[.ref a]) (_:aT K H a (ns.map V.int)) (_:ns.length<=63) (_:(∀ z∈ns,Bd 1048576 z)) (_:∀ H',Q (.bl true) H')
def GI {l:W.OpenLaw} {k:Nat} {q:bE} {L:cZ} {X:(dW)->bG->Prop} {y:bz->bG->Prop} {d:DefRec} {K:Params->aD} {x:Str} (J:l.most=some 63) (O:d.params.defaults=[]) (N:c8 k callerA) (C:∀ (w:bz) (h:bG),y w h->(K w.params).In h) (F:∀ (w:bz) (m:dW) (j:am) (h:bG),(K w.params).In h->h.Ns mainGlobals m->m d.name=some (.ref j) ->
     ∃ n:FuncData,(∀ (s:Shared) (u:az),BindsTo s n ⟨[u],[]⟩ [(x,u)]) /\
       ∀ B:bG,(K w.params).In B->B.Ns mainGlobals m->lY l.prog w (K w.params) m B yn k j n [x] (Gc (K w.params))) :
   W.WalkO q L X y l.row.toRowW d [] (λ f vs=>PySem.call f vs):=by
 refine Att.wV J O λ w s₀ S m mb j o pm U D a vs Q G Y ho hd R M t i c r I=>?_
 have p:=C w _ Y
 obtain ⟨n,E,v⟩:=F w m j _ p G.T.g M
 exact Fh p G.T.g G.T.b G.T.builtins G.T.nolimit I t i (aax c (by decide)) N v E (λ H V A=>⟨a,Q,rfl,A,c,r,λ Z=>rfl⟩) λ H e s' z=>z
section
variable {X:Cx}
inductive N9 (x:V) (y:V) (H:Hp) (Q:VK):Prop|mk (i j:_) (_:x = .int i) (_:y = .int j) (_:∀ r:Int,r=i+j->Q (.int r) H)
inductive O9 (x:V) (y:V) (H:Hp) (Q:VK):Prop|mk (i j:_) (_:x = .int i) (_:y = .int j) (_:∀ r:Int,r=i - j->Q (.int r) H)
inductive Oc (x:V) (y:V) (H:Hp) (Q:VK):Prop|mk (i j:_) (_:x = .int i) (_:y = .int j) (_:JR i j) (_:∀ r:Int,r=i * j->Q (.int r) H)
inductive Nx (x:V) (y:V) (H:Hp) (Q:VK):Prop|mk (i j:_) (_:x = .int i) (_:y = .int j) (_:Kc i j) (_:∀ r:Int,r=i.fdiv j->Q (.int r) H)
inductive ON (x:V) (y:V) (H:Hp) (Q:VK):Prop|mk (i j:_) (_:x = .int i) (_:y = .int j) (_:HA i j) (_:∀ r:Int,r=i ^ j.toNat->Q (.int r) H)
inductive N7 (x:V) (y:V) (H:Hp) (Q:VK):Prop|mk (i j:_) (_:x = .int i) (_:y = .int j) (_:HA i j) (_:∀ r:Int,r=i * 2 ^ j.toNat->Q (.int r) H)
inductive OS (x:V) (y:V) (H:Hp) (Q:VK):Prop|mk (i j:_) (_:x = .int i) (_:y = .int j) (_:0<=j) (_:∀ r:Int,r=i / 2 ^ j.toNat->Q (.int r) H)
inductive SW (x:V) (y:V) (H:Hp) (Q:VK):Prop|mk (i j:_) (_:x = .int i) (_:y = .int j) (_:∀ r:Int,r=Builtin.bitOr i j->Q (.int r) H)
inductive PQ (x:V) (y:V) (H:Hp) (Q:VK):Prop|mk (i j:_) (_:x = .int i) (_:y = .int j) (_:∀ r:Int,r=Builtin.bitAnd i j->Q (.int r) H)
inductive rLM (x:V) (y:V) (H:Hp) (Q:VK):Prop|mk (i j:_) (_:x = .int i) (_:y = .int j) (_:0<j) (_:∀ r:Int,0<=r->r<j->r=i % j->Q (.int r) H)
def aO:ji X (binaryOp .Add) N9:=λ p s U H x y v u Q I r R ⟨i,j,e,E,q⟩=>Mx p s U H x y v u Q I r R ⟨i,j,e,E,q _ rfl⟩
def cS:ji X (binaryOp .Sub) O9:=λ p s U H x y v u Q I r R ⟨i,j,e,E,q⟩=>Mu p s U H x y v u Q I r R ⟨i,j,e,E,q _ rfl⟩
def bL:ji X (binaryOp .Mult) Oc:=λ p s U H x y v u Q I r R ⟨i,j,e,E,c,q⟩=>IY p s U H x y v u Q I r R ⟨i,j,e,E,c,q _ rfl⟩
def eO:ji X (binaryOp .FloorDiv) Nx:=λ p s U H x y v u Q I r R ⟨i,j,e,E,c,q⟩=>E9 p s U H x y v u Q I r R ⟨i,j,e,E,c,q _ rfl⟩
def Cg:ji X (binaryOp .Pow) ON:=λ p s U H x y v u Q I r R ⟨i,j,e,E,c,q⟩=>K7 p s U H x y v u Q I r R ⟨i,j,e,E,c,q _ rfl⟩
def IX:ji X (binaryOp .LShift) N7:=λ p s U H x y v u Q I r R ⟨i,j,e,E,c,q⟩=>MK p s U H x y v u Q I r R ⟨i,j,e,E,c,q _ rfl⟩
def BK:ji X (binaryOp .RShift) OS:=λ p s U H x y v u Q I r R ⟨i,j,e,E,c,q⟩=>LQ p s U H x y v u Q I r R ⟨i,j,e,E,c,q _ rfl⟩
def L5:ji X (binaryOp .BitOr) SW:=λ p s U H x y v u Q I r R ⟨i,j,e,E,q⟩=>O2 p s U H x y v u Q I r R ⟨i,j,e,E,q _ rfl⟩
def mP:ji X (binaryOp .BitAnd) PQ:=λ p s U H x y v u Q I r R ⟨i,j,e,E,q⟩=>Mz p s U H x y v u Q I r R ⟨i,j,e,E,q _ rfl⟩
def aN:ji X (binaryOp .Mod) rLM:=λ p s U H x y v u Q I r R ⟨i,j,e,E,c,q⟩ =>
 Kv p s U H x y v u Q I r R ⟨i,j,e,E,c,q _ (adG _ (by lia)) (adp _ c) rfl⟩
def qU:jg X (.builtin "abs") (λ xs H Q=>∃ i,xs=[.int i]/\∀ r:Int,r=i.natAbs->Q (.int r) H) :=
 λ p s U H xs u Q I r ⟨i,e,q⟩=>GD p s U H xs u Q I r ⟨i,e,q _ (by split<;>lia)⟩
def bB:jg X (.builtin "len") (λ xs H Q=>∃ p ys,xs=[.ref p]/\(aT X.K H p ys\/bY X.K H p ys)/\∀ r:Int,r=ys.length->Q (.int r) H) :=
 λ a s U H xs u Q I r ⟨p,ys,e,h,q⟩=>xZ a s U H xs u Q I r ⟨p,ys,e,h,q _ rfl⟩
def XO (t:TS):TS:=λ D U H=>∃ P:St->Hp->Prop,t { D with nx:=P } U H/\∀ a H',P a H'->D.nx a H'
def kc {st:Stmt} {t:TS} (h:PS X st t):PS X st (XO t):=by
 intro p s U H D I d
 obtain ⟨P,b,c⟩:=d
 refine cU (h p s U H { D with nx:=P } I b) λ f S q=>?_
 cases f with
 | next =>
   obtain ⟨a,H',i,q⟩:=q
   exact ⟨a,H',i,c a H' q⟩
 | ret v=>exact q
 | brk=>exact q
 | cont=>exact q
end
def sK {c A B:Prop} [Decidable c] (H:c) (h:A):if decide c=true then A else B:=by
 rw [aaH H];exact f7 h
def pT {c A B:Prop} [Decidable c] (H:¬ c) (h:B):if decide c=true then A else B:=by
 rw [aaq H];exact fe h
def eM {c A B:Prop} [Decidable c] (H:c->A) (a:¬ c->B):if decide c=true then A else B:=by
 by_cases h:c
 . exact sK h (H h)
 . exact pT h (a h)
def DF {c A B:Prop} [Decidable c] (H:¬ c->A) (a:c->B):if (!decide c)=true then A else B:=by
 by_cases h:c
 . exact fO h (a h)
 . rw [aaq h];exact f7 (H h)
def Q5 {c A B:Prop} [Decidable c] (H:¬ c) (h:A):if (!decide c)=true then A else B:=by
 rw [aaq H];exact f7 h
def Yl {c:Prop} [Decidable c] (h:c) {Q:VK} (q:Q (.bl true) H):Q (.bl (decide c)) H:=by rw [aaH h];exact q
def eF {a b:Int}:V.int a=V.int b↔a=b:=⟨λ e=>by cases e;rfl,λ e=>by rw [e]⟩
def ak {p:am} {o:HO} (h:H p=none):aG H (upd H p o):=λ b u e=>by rw [aw (aA e h)];exact e
def aG.tup {K:aD} {a:am} {xs:aB} (e:aG H H') (h:bY K H a xs):bY K H' a xs:=by
 rcases h with (h|⟨o,h⟩)|h
 . exact .inl (.inl (e _ _ h))
 . exact .inl (.inr ⟨o,e _ _ h⟩)
 . exact .inr h
def pQ {n:Nat} {x:Int} (h:autoParam (x.natAbs<2 ^ n) zb_._auto_1):Bd n x:=h
def yg (K:aD):W.kitOne K (.type "int") (.type "bool")=some false:=by
 show (if W.kitMeta "bool" = true then ((PySem.fastBuiltinMro "int").map (·.contains (Value.type "bool"))) else none)=some false
 decide +kernel
def vF {x y:V}:[x,y].length<=sizeLine:=by show 2<=sizeLine;decide
def zG {x y z:V}:[x,y,z].length<=sizeLine:=by show 3<=sizeLine;decide
inductive Lj (vs:aB) (H:Hp) (Q:VK) (_E:XK):Prop|mk (a b:Int) (_:vs=[.int a,.int b]) (_:∀ r:Int,r=((Int.gcd a b:Nat):Int)->Q (.int r) H)
inductive yL (vs:aB) (H:Hp) (Q:VK) (_E:XK):Prop|mk (t b:Int) (_:vs=[.int t,.int b]) (_:b≠0) (_:Bd 4000 b) (_:∀ q r p H',Fr t b q r->aG H H'->H' p=some (.tup [.int q,.int r])->Q (.ref p) H')
inductive yY (f:Int->Int->Int->Int->Int) (K:aD) (vs:aB) (H:Hp) (Q:VK) (_E:XK):Prop|mk (p1 p2 a b c d:_) (_:vs=[.ref p1,.ref p2]) (_:bY K H p1 [.int a,.int b]) (_:bY K H p2 [.int c,.int d]) (_:0<b) (_:0<d) (_:Bd 1000 a) (_:Bd 1000 b) (_:Bd 1000 c) (_:Bd 1000 d) (_:∀ q r p H',Fr (f a b c d) (b * d) q r->aG H H'->H' p=some (.tup [.int q,.int r])->Q (.ref p) H')
inductive Gd (K:aD) (vs:aB) (H:Hp) (Q:VK) (_E:XK):Prop|mk (p1 p2 a b c d:_) (_:vs=[.ref p1,.ref p2]) (_:bY K H p1 [.int a,.int b]) (_:bY K H p2 [.int c,.int d]) (_:Bd 1000 a) (_:Bd 1000 b) (_:Bd 1000 c) (_:Bd 1000 d) (_:Q (.bl (decide (a * d<c * b))) H)
inductive Ay (K:aD) (vs:aB) (H:Hp) (Q:VK) (_E:XK):Prop|mk (a:am) (ns:List Int) (k:Int) (_:vs=[.ref a,.int k]) (_:aT K H a (ns.map V.int)) (_:0<=k) (_:∀ z,(z∈ns\/z=0)->Q (.int z) H)
def cF (X:Cx) (N':cZ) (S:Scope) (cl:List (Str×am)) (C:am) (s:Shared) (H:Hp) (ex:bK):Cx :=
 { X with N:=N',env:=compEnvC S cl C X.env,s₀:=s,H₀:=H,outer:=X.stack,ex:=ex,fn:=λ Z=>false,pn:=[],xe:=λ Z Z=>False }
def Kh (X:Cx) (i:List Expr) (t:TT):Prop :=
 ∀ (p:List (am×Obj)) (s:Shared) (U:St) (H:Hp) (Q:Bool->Hp->Prop),Inv X p U H s->t U H Q ->
   wpAny (model X.prog X.w) X.A (forIn i true λ c r=>if r=true then do let ok <- isTrue c X.env (eval c X.env);pure (ForInStep.yield ok) else pure (ForInStep.yield r)) (TP X p U Q) X.xe s
def WK:TT:=λ Z H Q=>Q true H
def cw {X:Cx}:Kh X [] WK:=λ Z Z Z H Z I h=>wpAny_tests_nil ⟨H,I,h⟩
def jo {X:Cx} {c:Expr} {tt:TT} (a:PT X c tt):Kh X [c] tt:=λ p s U H Q I h=>wpAny_tests_one (a p s U H Q I h)
def fU (env:Env):List (Str×NameKind)->List (Str×am)->List (Str×am)
 | [],acc=>acc
 | y::r,acc=>fU env r (if (y.2 == NameKind.free)=true then (y.1,(env.cells.lookup y.1).getD 0)::acc else acc)
theorem yf (env:Env):∀ (names:List (Str×NameKind)) (acc:List (Str×am)),(∀ y∈names,y.2 = .free->∃ c,env.cells.lookup y.1=some c) ->
   (forIn names acc λ x __s=>if (x.snd == NameKind.free)=true then do
       let __do_lift <- cellOf env x.fst
       pure (ForInStep.yield ((x.fst,__do_lift)::__s))
     else pure (ForInStep.yield __s))=(pure (fU env names acc):Sem _)
 | [],acc,_=>rfl
 | y::r,acc,h=>by
   rw [ac9]
   by_cases H:(y.2 == NameKind.free)=true
   .
    obtain ⟨c,e⟩:=h y aas (ace.mp H)
    rw [aan H]
    have E:cellOf env y.1=pure c:=by unfold cellOf;rw [e]
    rw [E]
    simp only [pure_bind]
    rw [yf env r _ λ z a=>h z (aai _ a)]
    simp only [fU,H,adr,e,Option.getD_some]
   . rw [aap H]
     simp only [pure_bind]
     rw [yf env r _ λ z a=>h z (aai _ a)]
     simp only [fU,H,acA]
     rfl
def Jx {s:Scope} {env:Env} (h:∀ y∈s.names,y.2 = .free->∃ c,env.cells.lookup y.1=some c):closureFor s env=pure (fU env s.names []):=by
 simp only [closureFor]
 rw [yf env s.names [] h]
 simp only [pure_bind]
theorem vU {env:Env}:∀ {names:List (Str×NameKind)} {acc:List (Str×am)},(∀ y∈names,y.2 = .free->∃ c,env.cells.lookup y.1=some c)->(∀ x c,acc.lookup x=some c->env.cells.lookup x=some c) ->
   ∀ x c,(fU env names acc).lookup x=some c->env.cells.lookup x=some c
 | [],_,_,H,x,c,e=>H x c e
 | y::r,acc,h,H,x,c,e=>by
   refine vU (names:=r) (λ z b=>h z (aai _ b)) ?_ x c e
   intro x c e
   by_cases a:(y.2 == NameKind.free)=true
   .
    rw [aan a] at e
    obtain ⟨C,E⟩:=h y aas (ace.mp a)
    rw [E,Option.getD_some,abB] at e
    cases q:x == y.1 with
    | true=>rw [q] at e;cases e;rw [ace.mp q];exact E
    | false=>rw [q] at e;exact H x c e
   . rw [aap a] at e;exact H x c e
theorem ww {env:Env}:∀ {names:List (Str×NameKind)} {acc:List (Str×am)} {x:Str},(∃ c,acc.lookup x=some c)->∃ c,(fU env names acc).lookup x=some c
 | [],_,_,h=>h
 | y::r,acc,x,⟨c,h⟩=>by
   refine ww (names:=r) ?_
   by_cases H:(y.2 == NameKind.free)=true
   . rw [aan H,abB]
     cases q:x == y.1 with
     | true=>exact ⟨_,rfl⟩
     | false=>exact ⟨c,h⟩
   . rw [aap H];exact ⟨c,h⟩
theorem pU {env:Env}:∀ {names:List (Str×NameKind)} {acc:List (Str×am)} {y:Str×NameKind},y∈names->y.2 = .free->∃ c,(fU env names acc).lookup y.1=some c
 | z::r,acc,y,h,H=>by
   rcases aaa.mp h with rfl|h
   . refine ww (names:=r) ?_
     rw [aan (ace.mpr H),abB]
     simp
   . exact pU (names:=r) h H
def uD {s:Scope} {env:Env} {x:Str} {k:NameKind} (h:(relabel s env).names.lookup x=some k) (c:k = .cell\/k = .free) (g:∀ y∈s.names,y.2 ≠ .cell):(x,NameKind.free)∈s.names:=by
 have d:=abF h
 obtain ⟨⟨n,K⟩,H,a⟩:=aaJ.mp d
 dsimp only at a
 split at a
 .
  rename_i b
  cases a
  have:(K == NameKind.free)=true:=by
    simp only [aaY] at b
    exact b.1.1
  rw [ace.mp this] at H
  exact H
 .
  cases a
  rcases c with rfl|rfl
  . exact absurd rfl (g _ H)
  . exact H
theorem iF {env:Env}:∀ {names:List (Str×NameKind)} {x:Str},names.lookup x=some .free ->
   (names.map λ (n,k)=>if (k == NameKind.free && env.scope.kind == .function && env.kindOf n == some .cell) then (n,NameKind.cell) else (n,k)).lookup x=some .cell \/
   (names.map λ (n,k)=>if (k == NameKind.free && env.scope.kind == .function && env.kindOf n == some .cell) then (n,NameKind.cell) else (n,k)).lookup x=some .free
 | [],_,h=>by simp at h
 | (n,k)::r,x,h=>by
   have i:=@iF env r x
   show List.lookup x ((if (k == NameKind.free && env.scope.kind == .function && env.kindOf n == some .cell)=true then (n,NameKind.cell) else (n,k))::_)=_\/List.lookup x ((if (k == NameKind.free && env.scope.kind == .function && env.kindOf n == some .cell)=true then (n,NameKind.cell) else (n,k))::_)=_
   cases H:x == n with
   | true =>
     simp only [abB,H] at h
     cases h
     by_cases a:(NameKind.free == NameKind.free && env.scope.kind == .function && env.kindOf n == some .cell)=true
     . rw [aan a];simp [abB,H]
     . rw [aap a];simp [abB,H]
   | false =>
     simp only [abB,H] at h
     by_cases a:(k == NameKind.free && env.scope.kind == .function && env.kindOf n == some .cell)=true
     . rw [aan a];simp only [abB,H];exact i h
     . rw [aap a];simp only [abB,H];exact i h
section
variable {prog:bE} {w:bz} {A:Around} {R:Result->Shared->Prop} {s:Shared}
def Am {t:Expr} {a:Scope} {q:Pos} {u acc:az} {env:Env} (I:Nat->Shared->Prop) (T:∀ n s,I n s->wpAny (model prog w) A (pyNext u) (λ r S=>match r with
     | none=>R (.ok .next) S
     | some v=>wpAny (model prog w) A (letOwnedTupleGo t u v) (λ Z S=>wpAny (model prog w) A (assign t env v) (λ Z g =>
         wpAny (model prog w) A (forIn ifs true λ c r=>if r=true then do let ok <- isTrue c env (eval c env);pure (ForInStep.yield ok) else pure (ForInStep.yield r)) (λ ok b =>
           if ok=true then wpAny (model prog w) A (eval elt env) (λ x i =>
             wpAny (model prog w) A (call (.builtin "list.append") [acc,x]) (λ Z j=>∃ m,m<n/\I m j) (notedBy (model prog w) A env λ e s'=>R (.error e) s') i) (notedBy (model prog w) A env λ e s'=>R (.error e) s') b
           else ∃ m,m<n/\I m b) (notedBy (model prog w) A env λ e s'=>R (.error e) s') g) (notedBy (model prog w) A env λ e s'=>R (.error e) s') S) (notedBy (model prog w) A env λ e s'=>R (.error e) s') S) (notedBy (model prog w) A env λ e s'=>R (.error e) s') s) (n:Nat) (h:I n s) :
   codeAny (model prog w) A (.compLoop (.ListComp elt [⟨t,iter,ifs,0⟩] a q) 0 u acc env) R s:=by
 refine codeAny_loop rfl I (λ n s z=>?_) n h
 show wpAny _ A ((compTurn (.ListComp elt [⟨t,iter,ifs,0⟩] a q) 0 u acc env).onRaise (λ x=>do noteFrame x env;theTreesLotGoes x)) _ _ s
 refine wpAny_noted ?_
 rw [compTurn_list]
 refine aah (wpAny_standAt (aah (abx (T n s z) (λ r S d=>?_) λ Z Z H=>H)))
 cases r with
 | none=>exact aaB d
 | some v =>
   refine aah (abx d (λ Z y k=>?_) λ Z Z H=>H)
   refine aah (abx k (λ Z g l=>aah (abx l (λ ok b f=>?_) λ Z Z H=>H)) λ Z Z H=>H)
   cases ok with
   | false=>exact aaB ⟨rfl,f⟩
   | true =>
     exact aah (aah (abx f (λ x i o=>aah (abx o (λ Z j p=>aaB (aaB ⟨rfl,p⟩)) λ Z Z H=>H)) λ Z Z H=>H))
end
section
variable {X:Cx}
def zE (w:TI) (g:TG) (T:TT) (t:TE) (n:Nat) (sl:aR):TE:=λ U H Q=>w U H λ J d=>∀ D,d D=none ->
 ∃ W:Nat->Nat->aB->St->Hp->Prop,(∃ m,W 0 m [] (List.replicate n none++sl.map λ j=>(U[j]?).join) (upd d D (.lst []))) /\
   ∀ i m A c H',W i m A c H' ->
     (J.stop i H'/\Q (.ref D) H') \/
     (J.go i H'/\∃ N:aB->St->Hp->Prop,(∀ G a h,N G a h->∃ M,M<m/\W (i+1) M G a h)/\∀ x e,J.G6 i H' x e->g x c e λ a k=>T a k λ b h =>
       if b=true then t a h λ y f=>f D=some (.lst A)/\A.length<sizeLine/\N (A++[y]) a (upd f D (.lst (A++[y])))
       else N A a h)
def vP {S:Scope} {ad:Pos} {wi:TI} {tt:TT} {N':cZ} {sl:aR} (hc:X.calm=true) (hi:PI X tg iter wi) (hg:∀ cl C s H ex,PG (cF X N' S cl C s H ex) tg g) (ht:∀ cl C s H ex,Kh (cF X N' S cl C s H ex) ifs tt) (he:∀ cl C s H ex,PE (cF X N' S cl C s H ex) elt te) (PP:N'.length=nt+sl.length) (HJ:∀ k j:Nat,sl[k]?=some j->∃ x,N'[nt+k]?=some x/\X.N[j]?=some x/\S.names.lookup x=some .free) (hk:S.kind = .function) (gK:∀ y∈S.names,y.2 ≠ .cell) (kM:∀ y∈S.names,y.2 = .local->S.names.lookup y.1=some .local) (jT:∀ y∈S.names,y.2 = .free->X.env.kindOf y.1=some .cell\/X.env.kindOf y.1=some .free) (hs:∀ x,foldedSetIterable iter X.env x=pure x) {use:Option (az->Sem Unit)} {Qp:az->Shared->Prop} {D:List (am×Obj)} {s:Shared} {Q:V->Hp->Prop} {ae:Pos} (I:Inv X D U H s) (h:zE wi g tt te nt sl U H Q) (a0:∀ (s6:Shared) (R:Hp) (d c:am) m,Inv X D U R s6->u5 X D R c->s6.heap.Ns c m->Q (.ref d) R->compPost (model X.prog X.w) X.A X.xe use Qp (.ref d) c (.ok .next) s6) :
   wpAny (model X.prog X.w) X.A (comprehension (.ListComp elt [⟨tg,iter,ifs,0⟩] S ad) S X.env ae (newList []) false (eval iter X.env) use) Qp X.xe s:=by
 have Ou:∀ y∈S.names,y.2 = .free->∃ c,X.env.cells.lookup y.1=some c:=λ y hy hf=>I.ok.has y.1 (jT y hy hf)
 have yB:=vU (env:=X.env) (names:=S.names) (acc:=[]) Ou (λ x c e=>by simp at e)
 refine wpAny_comprehension_free (use:=use) (cl:=fU X.env S.names []) rfl hs (Jx Ou) hk kM (cU (hi D s U H _ I h) λ v s1 h1=>cU h1 λ Vq t h2=>?_)
 obtain ⟨it,F,tn,J,K,rfl,I2,T,Sr,f2,q⟩:=h2
 have nD:K t.heap.objs.size=none:=I2.dR.fresh (aaj _)
 obtain ⟨W,⟨m0,w0⟩,al⟩:=q t.heap.objs.size nD
 refine adI ?_ (by show 0<=sizeLine;exact aaZ _)
 have B:Inv X D U (upd K t.heap.objs.size (.lst [])) { t with heap:=t.heap.push { cls:=.type "list",data:=.seq ([]:bM).toArray }} :=
   I2.laid (t':=t.toks) (λ b u e=>aam _ e) (aaj _) ⟨aaZ _,[],0,.nil,aaQ _ rfl⟩
 generalize Ly:({ t with heap:=t.heap.push { cls:=.type "list",data:=.seq ([]:bM).toArray }}:Shared)=f at B |-
 have a4:t.heap.objs.size<=f.heap.objs.size:=by rw [<- Ly];show _<=(Heap.push _ _).objs.size;rw [ac2];exact acb _
 have Ie:∀ b o,t.heap.get? b=some o->f.heap.get? b=some o:=λ b o e=>by rw [<- Ly];exact aam _ e
 refine wpAny_newFunctionEnv gK (by intro y hy;simp at hy) (λ h₁ RT a5=>?_) hk
 have yU:∀ b o,f.heap.get? b=some o->h₁.get? b=some o:=λ b o e=>a5.extBut b o (aaN (aaw e)) (aam _ e)
 have nC:(upd K t.heap.objs.size (.lst [])) f.heap.objs.size=none:=B.dR.fresh (aaj _)
 have a8:f.heap.get? f.heap.objs.size=none:=adv (aaj _)
 have NC:∀ b∈F,b<t.heap.objs.size:=λ b a=>by
   obtain ⟨o,e,Z⟩:=T.obj _ _ Sr b a
   exact aaw e
 have ZT:∀ b∈F,b≠f.heap.objs.size:=λ b a=>aaN (aav (NC b a) a4)
 have a1:∀ b∈F,b≠t.heap.objs.size:=λ b a=>aaN (NC b a)
 have YL:∀ b∈F,b∉Ez X.stack:=λ b a hm=>by
   rcases aaa.mp (I2.BA b hm) with z|z
   . exact (f2 b a).2.1 z
   . exact (f2 b a).2.2.1 z
 have ZY:∀ x c,(fU X.env S.names []).lookup x=some c->X.env.cells.lookup x=some c:=yB
 have wL:∀ b∈F,(b∈X.ex\/X.s₀.heap.objs.size<=b)/\b≠X.env.locals/\(∀ x c,X.env.cells.lookup x=some c->c≠b)/\∀ p∈X.pn++D,p.1≠b:=λ b a =>
   ⟨(f2 b a).2.2.2.1,(f2 b a).2.1,(f2 b a).2.2.2.2.1,(f2 b a).2.2.2.2.2⟩
 have J8:(cF X N' S (fU X.env S.names []) f.heap.objs.size f (upd K t.heap.objs.size (.lst [])) F).Ok:=by
   refine ⟨B.ok.mod,hk,B.ok.glob,B.ok.blt,aaj _,λ x y c h1 h2=>B.ok.inj x y c (yB x c h1) (yB y c h2),λ x hx=>?_,(λ x c hf=>nomatch hf),B.ok.hd,B.ok.frames,.inl rfl,λ b a=>⟨ZT b a,λ x c e=>(wL b a).2.2.1 x c (yB x c e)⟩,
     B.bs,aax B.ok.JF B.sz,λ b o e a=>?_,YL,B.stack,B.Ce⟩
   . have hm:(x,NameKind.free)∈S.names:=by
       rcases hx with hx|hx
       . exact uD hx (.inl rfl) gK
       . exact uD hx (.inr rfl) gK
     exact pU hm rfl
   . rcases (wL b a).1 with z|z
     . exact B.ok.GW b o e z
     . exact absurd (aav (aaw (B.ok.bs b o e).1) z) (abH _)
 have I4:Inv (cF X N' S (fU X.env S.names []) f.heap.objs.size f (upd K t.heap.objs.size (.lst [])) F) [] (List.replicate nt none++sl.map λ j=>(U[j]?).join) (upd K t.heap.objs.size (.lst []))
     { f with heap:=h₁,toks:=f.toks+([]:List (Str×az)).length }:=by
   refine ⟨J8,rfl,B.bare,Un.kept yU,⟨_,RT,λ i x v e1 Y e3=>?_⟩,λ x c e=>?_,nC,λ x c e=>B.nH x c (yB x c e),λ p hp=>absurd hp (by simp [cF]),B.dR.kept yU,?_⟩
   .
    by_cases hi:i<nt
    . rw [aal (by simpa using hi),adX] at Y
      split at Y<;>cases Y
    .
     rw [aaO (by simpa using hi),abZ,Sb] at Y
     cases ej:sl[i - nt]? with
     | none=>rw [ej] at Y;cases Y
     | some j =>
       rw [ej] at Y
       have RI:(U[j]?).join=some v:=aao Y
       have aJ:U[j]?=some (some v):=by
         cases q:U[j]? with
         | none=>rw [q] at RI;cases RI
         | some o=>rw [q] at RI;cases RI;rfl
       obtain ⟨y,n1,n2,n3⟩:=HJ _ j ej
       have:nt+(i - nt)=i:=by lia
       rw [this] at n1
       have WF:y=x:=aao (n1.symm.trans e1)
       subst WF
       have hm:(y,NameKind.free)∈S.names:=abF n3
       have YJ:=jT _ hm rfl
       obtain ⟨m,hn,hl⟩:=B.loc
       have Vo:O4 X.env.scope y:=by
         rcases YJ with z|z
         . exact .inr (.inl z)
         . exact .inr (.inr z)
       obtain ⟨u,r,l⟩:=hl j y v n2 aJ Vo
       refine ⟨u,r,.inr ⟨iF n3,?_⟩⟩
       obtain ⟨c,ec⟩:=pU (env:=X.env) (acc:=[]) hm rfl
       refine ⟨c,ec,?_⟩
       rcases l with ⟨k1,Z⟩|⟨Z,c',e',Mr⟩
       . rcases YJ with z|z
         . rw [show X.env.kindOf y=some .local from k1] at z;cases z
         . rw [show X.env.kindOf y=some .local from k1] at z;cases z
       . have Eo:c=c':=aao ((yB y c ec).symm.trans e')
         subst Eo
         obtain ⟨o,ho,hd⟩:=Mr
         exact ⟨o,yU c o ho,hd⟩
   . obtain ⟨v,o,ho,hd⟩:=B.cell x c (yB x c e)
     exact ⟨v,o,yU c o ho,hd⟩
   . show _=N'.length
     rw [PP,aab,abZ,M1]
 have Zp:tn 0 h₁:=T.keep _ _ _ Sr λ b a o e=>yU b o (Ie b o e)
 have LI:∀ {pl:List (am×Obj)} {H':Hp},pl=[]->(∀ b∈F,H' b=none)->∀ b∈F,u5 (cF X N' S (fU X.env S.names []) f.heap.objs.size f (upd K t.heap.objs.size (.lst [])) F) pl H' b:=λ {pl H'} hG hn b a=>by
   subst hG
   exact ⟨hn b a,ZT b a,YL b a,.inl a,λ x c e=>(wL b a).2.2.1 x c (yB x c e),λ p hp=>absurd hp (by simp [cF])⟩
 have a2:∀ b∈F,(upd K t.heap.objs.size (.lst [])) b=none:=λ b a=>by rw [aw (a1 b a)];exact (f2 b a).1
 have ab:codeAny (model X.prog X.w) X.A (.compLoop (.ListComp elt [⟨tg,iter,ifs,0⟩] S ad) 0 (.ref it) (.ref t.heap.objs.size) (compEnvC S (fU X.env S.names []) f.heap.objs.size X.env))
     (compPost (model X.prog X.w) X.A X.xe use Qp (.ref t.heap.objs.size) f.heap.objs.size) { f with heap:=h₁,toks:=f.toks+([]:List (Str×az)).length }:=by
   refine Am (λ n s'=>∃ i E M H',Inv (cF X N' S (fU X.env S.names []) f.heap.objs.size f (upd K t.heap.objs.size (.lst [])) F) [] M H' s'/\tn i s'.heap/\(∀ b∈F,H' b=none)/\W i n E M H') ?_ m0 ⟨0,[],_,_,I4,Zp,a2,w0⟩
   rintro n s5 ⟨i,E,O,R,I5,MO,Sy,w5⟩
   rcases al i n E O R w5 with ⟨aj,qn⟩|⟨go,N,hN,ah⟩
   . refine cU (T.done (cF X N' S (fU X.env S.names []) f.heap.objs.size f (upd K t.heap.objs.size (.lst [])) F) rfl rfl rfl hc i [] s5 O R _ I5 (LI rfl Sy) MO aj) λ r s6 ⟨hr,I6⟩=>?_
     subst hr
     obtain ⟨m,hn,Z⟩:=id I6.loc
     exact a0 s6 R _ _ m (B.Pu (s':=s6) I6.os I6.base I6.dR I6.bare wL) (B.yD (aaj _) I6.free) hn qn
   .
    refine cU (T.item (cF X N' S (fU X.env S.names []) f.heap.objs.size f (upd K t.heap.objs.size (.lst [])) F) rfl rfl rfl hc i [] s5 O R _ I5 (LI rfl Sy) MO go) λ r s6 ⟨u,hr,h6⟩=>?_
    subst hr
    refine cU h6 λ Z s7 ⟨x,H7,I7,r7,y7,VO,a3⟩=>?_
    have aF:=I7.pinned (LI rfl a3) (T.obj _ _ VO)
    have L:∀ {s8:Shared} {G:St} {H8:Hp} {gD:aB},Inv (cF X N' S (fU X.env S.names []) f.heap.objs.size f (upd K t.heap.objs.size (.lst [])) F) ([]++uB F s7.heap) G H8 s8->(∃ m',m'<n/\W (i+1) m' gD G H8) ->
        ∃ m,m<n/\∃ i E M H',Inv (cF X N' S (fU X.env S.names []) f.heap.objs.size f (upd K t.heap.objs.size (.lst [])) F) [] M H' s8/\tn i s8.heap/\(∀ b∈F,H' b=none)/\W i m E M H':=λ {s8 G H8 gD} I8 ⟨m',hm,w8⟩=>by
      refine ⟨m',hm,i+1,gD,G,H8,I8.pB,T.keep _ _ _ VO λ b a o e=>(I8.pin (b,o) (aa1 _ (aa1 _ (ki a e)))).1,λ b a=>?_,w8⟩
      obtain ⟨o,e,d⟩:=T.obj _ _ VO b a
      exact (I8.pin (b,o) (aa1 _ (aa1 _ (ki a e)))).2.1
    refine abx (hg _ _ _ _ _ _ s7 O H7 x u _ aF r7 (ah x H7 y7)) (λ Z s8 ⟨G,H8,I8,q8⟩=>?_) λ Z Z z=>False.elim z
    refine abx (ht _ _ _ _ _ _ s8 G H8 _ I8 q8) (λ ok s9 ⟨H9,I9,q9⟩=>?_) λ Z Z z=>False.elim z
    cases ok with
    | false =>
      rw [aap aaE] at q9 |-
      exact L I9 (hN _ _ _ q9)
    | true =>
      rw [aan rfl] at q9 |-
      refine abx (he _ _ _ _ _ _ s9 G H9 _ I9 q9) (λ y wk ⟨yv,Em,an,QG,hD,hz,a6⟩=>?_) λ Z Z z=>False.elim z
      refine abx (cz (X:=(cF X N' S (fU X.env S.names []) f.heap.objs.size f (upd K t.heap.objs.size (.lst [])) F)) _ wk G Em (.ref t.heap.objs.size) [yv] (.ref t.heap.objs.size) [y] (λ Z He=>N (E++[yv]) G He) an rfl (.cons QG .nil) ⟨_,E,yv,rfl,rfl,hD,hz,a6⟩) (λ Z NH ⟨a9,He,aE,Z6,a7⟩=>?_) λ Z Z z=>False.elim z
      exact L aE (hN _ _ _ a7)
 exact codeAny_compStart_list ab (T.self _ 0 _ _ _ Zp ab)
def Jv {S:Scope} {p:Pos} {w:TI} {t:TT} {N':cZ} {sl:aR} (n:X.calm=true) (u:PI X tg iter w) (r:∀ cl C s H ex,PG (cF X N' S cl C s H ex) tg g) (B:∀ cl C s H ex,Kh (cF X N' S cl C s H ex) ifs t) (o:∀ cl C s H ex,PE (cF X N' S cl C s H ex) elt te) (i:N'.length=nt+sl.length) (f:∀ k j:Nat,sl[k]?=some j->∃ x,N'[nt+k]?=some x/\X.N[j]?=some x/\S.names.lookup x=some .free) (v:S.kind = .function) (G:∀ y∈S.names,y.2 ≠ .cell) (K:∀ y∈S.names,y.2 = .local->S.names.lookup y.1=some .local) (D:∀ y∈S.names,y.2 = .free->X.env.kindOf y.1=some .cell\/X.env.kindOf y.1=some .free) (A:∀ x,foldedSetIterable iter X.env x=pure x:=by intro Z;rfl) :
   PE X (.ListComp elt [⟨tg,iter,ifs,0⟩] S p) (zE w g t te nt sl):=by
 intro a s U H Q I h
 rw [eval_ListComp]
 exact vP n u r B o i f v G K D A I h λ E e d c m J F z q=>⟨m,z,λ M L=>⟨.ref d,e,J.turned (t':=E.toks) (λ b Z l q=>(L.2 b l).trans q) F.1 F.2.1 F.2.2.2.1 F.2.2.2.2.1 F.2.2.2.2.2,rfl,q⟩⟩
def fC {S:Scope} {p:Pos} {w:TI} {c:TT} (T f:cZ) (sl:aR) (a:Paired (λ (j:Nat) (x:Str)=>X.N[j]?=some x/\S.names.lookup x=some .free/\(X.env.kindOf x=some .cell\/X.env.kindOf x=some .free)) sl f) (l:X.calm=true) (q:PI X tg iter w) (o:∀ cl C s H ex,PG (cF X (T++f) S cl C s H ex) tg g) (A:∀ cl C s H ex,Kh (cF X (T++f) S cl C s H ex) ifs c) (m:∀ cl C s H ex,PE (cF X (T++f) S cl C s H ex) elt te) (u:autoParam (S.kind = .function) za_._auto_1) (G:autoParam (∀ y∈S.names,y.2 ≠ .cell) zc_._auto_1) (D:autoParam (∀ y∈S.names,y.2 = .local->S.names.lookup y.1=some .local) zc_._auto_1) (J:autoParam (∀ y∈S.names,y.2 = .free->y.1∈f) zc_._auto_1) (v:∀ x,foldedSetIterable iter X.env x=pure x:=by intro Z;rfl) :
   PE X (.ListComp elt [⟨tg,iter,ifs,0⟩] S p) (zE w g c te T.length sl):=by
 have K:∀ {sl:aR} {f:cZ},Paired (λ (j:Nat) (x:Str)=>X.N[j]?=some x/\S.names.lookup x=some .free/\(X.env.kindOf x=some .cell\/X.env.kindOf x=some .free)) sl f ->
     (∀ k j:Nat,sl[k]?=some j->∃ x,f[k]?=some x/\X.N[j]?=some x/\S.names.lookup x=some .free)/\∀ x∈f,X.env.kindOf x=some .cell\/X.env.kindOf x=some .free:=by
   intro sl f a
   induction a with
   | nil=>exact ⟨λ k j h=>by simp at h,λ x b=>by simp at b⟩
   | cons r t i =>
     refine ⟨λ k j h=>?_,λ x b=>?_⟩
     . cases k with
       | zero =>
         have e:_=j:=aao h
         subst e
         exact ⟨_,rfl,r.1,r.2.1⟩
       | succ k=>exact i.1 k j (by simpa using h)
     . rcases aaa.mp b with z|z
       . rw [z];exact r.2.2
       . exact i.2 x z
 refine Jv (N':=T++f) l q o A m (by rw [aab,a.length]) (λ k j h=>?_) u G D (λ y B n=>(K a).2 _ (J y B n)) v
 obtain ⟨x,E,d⟩:=(K a).1 k j h
 exact ⟨x,by rw [aaO (abS _ _),adW];exact E,d⟩
end
def dQ {lo:Int} {n:Nat} {t:TT} {D:am} {Q:Hp->Prop} (c:Nat->aB->St->Hp->Prop) (h0:c 0 [] U H) (q:∀ i acc U H,i<n->c i acc U H->g (.int (lo+i)) U H λ a j=>t a j λ b h =>
     if b=true then te a h λ y f=>f D=some (.lst acc)/\acc.length<sizeLine/\c (i+1) (acc++[y]) a (upd f D (.lst (acc++[y]))) else c (i+1) acc a h) (o:∀ acc U H,c n acc U H->Q H) :
   ∃ W:Nat->Nat->aB->St->Hp->Prop,(∃ m,W 0 m [] U H)/\∀ i m acc d H',W i m acc d H'->((HM lo n).stop i H'/\Q H') \/
     ((HM lo n).go i H'/\∃ N:aB->St->Hp->Prop,(∀ G a h,N G a h->∃ M,M<m/\W (i+1) M G a h)/\∀ x l,(HM lo n).G6 i H' x l->g x d l λ a j=>t a j λ b h =>
       if b=true then te a h λ y f=>f D=some (.lst acc)/\acc.length<sizeLine/\N (acc++[y]) a (upd f D (.lst (acc++[y]))) else N acc a h):=by
 refine ⟨λ i m acc U H=>m=n - i/\i<=n/\c i acc U H,⟨n,by simp,aaZ _,h0⟩,?_⟩
 rintro i m acc U H ⟨rfl,s,p⟩
 by_cases k:i<n
 .
  refine .inr ⟨k,c (i+1),λ G d H' r=>⟨n - (i+1),by lia,rfl,k,r⟩,λ x H' y=>?_⟩
  obtain ⟨e,y⟩:=y
  subst e y
  exact q i acc U _ k p
 . have e:i=n:=by lia
   subst e
   exact .inl ⟨aaj _,o acc U H p⟩
def cE {K:aD} {a:am} {xs:aB} {t:TT} {D:am} {Q:Hp->Prop} (d:Nat->aB->St->Hp->Prop) (h0:d 0 [] U H) (s:∀ i acc U H,i<=xs.length->d i acc U H->aT K H a xs) (u:∀ i x acc U H,xs[i]?=some x->d i acc U H->g x U H λ c k=>t c k λ b h =>
     if b=true then te c h λ y j=>j D=some (.lst acc)/\acc.length<sizeLine/\d (i+1) (acc++[y]) c (upd j D (.lst (acc++[y]))) else d (i+1) acc c h) (o:∀ acc U H,d xs.length acc U H->Q H) :
   ∃ W:Nat->Nat->aB->St->Hp->Prop,(∃ m,W 0 m [] U H)/\∀ i m acc f H',W i m acc f H'->((Kk K a).stop i H'/\Q H') \/
     ((Kk K a).go i H'/\∃ N:aB->St->Hp->Prop,(∀ G c h,N G c h->∃ M,M<m/\W (i+1) M G c h)/\∀ x l,(Kk K a).G6 i H' x l->g x f l λ c k=>t c k λ b h =>
       if b=true then te c h λ y j=>j D=some (.lst acc)/\acc.length<sizeLine/\N (acc++[y]) c (upd j D (.lst (acc++[y]))) else N acc c h):=by
 refine ⟨λ i m acc U H=>m=xs.length - i/\i<=xs.length/\d i acc U H,⟨xs.length,by simp,aaZ _,h0⟩,?_⟩
 rintro i m acc U H ⟨rfl,r,p⟩
 have q:=s i acc U H r p
 by_cases n:i<xs.length
 .
  refine .inr ⟨⟨xs,xs[i],q,by simp [n]⟩,d (i+1),λ G f H' v=>⟨xs.length - (i+1),by lia,rfl,n,v⟩,λ x H' y=>?_⟩
  obtain ⟨e,y⟩:=y
  subst e
  exact u i x acc U _ (y xs q) p
 . have e:i=xs.length:=by lia
   subst e
   exact .inl ⟨⟨xs,q,aaj _⟩,o acc U H p⟩
section
variable {X:Cx}
inductive HS (x:V) (vs:aB) (H:Hp) (Q:VK):Prop|mk (i:Int) (_:x = .int i) (_:vs=[]) (_:∀ b:Int,b=((Builtin.Int.intBits i:Nat):Int)->Q (.int b) H)
def DN:WV X "int.bit_length" HS:=by
 intro p s U H x V v u Q I R r h
 obtain ⟨i,rfl,rfl,q⟩:=h
 obtain ⟨t,rfl⟩:=R
 obtain rfl:=Vals.zero r
 exact call_int_bit_length ⟨.int _,H,I.tok _,⟨_,rfl⟩,q _ rfl⟩
def D5 (a b:Nat):Builtin.bitOr (a:Int) (b:Int)=((a ||| b:Nat):Int):=by
 have d:decide (0<=Builtin.bitNot (a:Int))=false:=aaq (by unfold Builtin.bitNot;lia)
 have D:decide (0<=Builtin.bitNot (b:Int))=false:=aaq (by unfold Builtin.bitNot;lia)
 have n:(Builtin.bitNot (Builtin.bitNot (a:Int))).toNat=a:=by unfold Builtin.bitNot;lia
 have N:(Builtin.bitNot (Builtin.bitNot (b:Int))).toNat=b:=by unfold Builtin.bitNot;lia
 unfold Builtin.bitOr Builtin.bitAnd
 rw [d,D]
 dsimp only
 rw [n,N]
 unfold Builtin.bitNot
 lia
def og (a b:Nat):Builtin.bitAnd (a:Int) (b:Int)=((a &&& b:Nat):Int):=by simp [Builtin.bitAnd]
end
def aq (k:Nat):V:=.int (k:Int)
inductive zY (vs:aB) (H:Hp) (Q:VK) (_E:XK):Prop|mk (n r:Nat) (_:vs=[aq n,aq r]) (_:Q (.bl (n.testBit r)) H)
inductive xI (vs:aB) (H:Hp) (Q:VK) (_E:XK):Prop|mk (n r:Nat) (_:vs=[aq n,aq r]) (_:r<=1000) (_:Q (aq (n ||| 2 ^ r)) H)
inductive Bi (vs:aB) (H:Hp) (Q:VK) (_E:XK):Prop|mk (n:Nat) (_:vs=[aq n]) (_:n<2 ^ 61) (_:∀ p H',H p=none->aG H H'->H' p=some (.lst ((Bit.rooms n).map aq))->Q (.ref p) H')
inductive AZ (vs:aB) (H:Hp) (Q:VK) (_E:XK):Prop|mk (n:Nat) (_:vs=[aq n]) (_:n<2 ^ 61) (_:(Bit.rooms n).length<=8) (_:∀ p H',H p=none->aG H H'->H' p=some (.lst ((Bit.parts (Bit.rooms n)).map aq))->Q (.ref p) H')
def vX (n:Nat):(Bit.rooms n).length<=61:=by
 have:=aa8 n.testBit (List.range 61)
 rw [aak] at this
 exact this
def Jd (n r:Nat) {s m:Int} (es:s=(n:Int) / 2 ^ ((r:Int)).toNat) (b:m=s % 2):decide (V.int m=V.int 1)=n.testBit r:=by
 rw [Nat.testBit_eq_decide_div_mod_eq]
 have e:s=((n / 2 ^ r:Nat):Int):=by
   rw [es,aaW]
   have:((2:Int) ^ r)=((2 ^ r:Nat):Int):=by rw [Int.natCast_pow];rfl
   rw [this,<- Int.natCast_ediv]
 have E:m=((n / 2 ^ r % 2:Nat):Int):=by rw [b,e];exact (Int.natCast_emod _ _).symm
 have a:(V.int m=V.int 1)↔(n / 2 ^ r % 2=1):=by rw [eF,E];lia
 exact ab8.mpr a
def Bn (l:aR) (r:Nat):Bit.parts (l++[r])=Bit.parts l++(Bit.parts l).map (· ||| 2 ^ r):=by
 unfold Bit.parts;rw [abD];rfl
def HZ (n i:Nat):Bit.Ok (Bit.parts ((Bit.rooms n).take i)) ((Bit.rooms n).take i):=by
 have:=Bit.BS ((Bit.rooms n).take i) [] [0] Bit.Kx (by rw [ac7];exact (Bit.pN n).sublist (List.take_sublist _ _))
 rw [ac7] at this
 exact this
def bU {a:Type} {l:List a} {i:Nat} {x:a} (h:l[i]?=some x):l.take (i+1)=l.take i++[x]:=by
 rw [abC,h];rfl
def BJ {a:Type} {xs:List a} {v:a} (h:xs[xs.length - 1]?=some v):nQ xs (-1)=some v:=by
 have H:xs.length - 1<xs.length:=(Bj.mp h).1
 have e:Ep xs.length (-1)=some (xs.length - 1):=by
   unfold Ep
   rw [aap (by decide),aan (by lia)]
   congr 1
   lia
 unfold nQ
 rw [e];exact h
def dI {l:aR} {i:Nat} {x:V} (h:(l.map aq)[i]?=some x):∃ k,l[i]?=some k/\x=aq k:=by
 rw [Sb] at h
 cases e:l[i]? with
 | none=>rw [e] at h;cases h
 | some k=>rw [e] at h;exact ⟨k,rfl,(aao h).symm⟩
def Cx.held (X:Cx) (e:am) (o:Obj):Cx:={ X with A:=X.A.mark (some (.ref e)),calm:=false,pn:=X.pn++[(e,o)],xe:=λ Z Z=>False }
open PySem.Builtin PySem.Builtin.ObjectAttr
open PySem.Builtin PySem.Builtin.ObjectAttr
@[elab_as_elim] theorem dD {α:Type} {motive:List α->Prop} {n:Nat} {us:List α} (h:us.length=n+1) (k:∀ a t,t.length=n->motive (a::t)):motive us:=by
 cases us with
 | nil=>cases h
 | cons a t=>exact k a t (ad4 h)
def ZL {b:Type} {n:Nat} {l:List b} (h:l.length=n+1):∃ a t,l=a::t/\t.length=n:=dD h λ a t h=>⟨a,t,rfl,h⟩
section
variable {X:Cx} {x:Str} {pos:Pos}
def fM {i:Int} (a:Gl X x) (h:∃ t,X.mg x=some (.int i t)) (H:autoParam (Ar x) zb_._auto_1):PE X (.Name x pos) (tC (.int i)):=by
 obtain ⟨t,h⟩:=h
 exact g8 a h ⟨t,rfl⟩ H
end
def Bq (K:aD) (a:am) (xs:aB):Prop :=
 ∃ (o:Obj) (b:Array az) (n:Nat),K.lookup a=some o/\o.cls = .type "tuple"/\o.data = .seq b n/\b.size<=sizeLine/\Vals xs b.toList
def Bq.at {K:aD} {a:am} {xs:aB} (h:Bq K a xs) (H:Hp):bY K H a xs:=.inr h
def J7 {K:aD} {a:am} {d:Option am} {n:Nat} {sl:Array (jF)} {i j:Int} {t u:Tok} (h:K.lookup a=some ⟨.type "tuple",d,.seq #[.int i t,.int j u] n,sl⟩):Bq K a [.int i,.int j] :=
 ⟨_,_,_,h,rfl,rfl,by show 2<=sizeLine;decide,.cons ⟨t,rfl⟩ (.cons ⟨u,rfl⟩ .nil)⟩
def EX (K:aD) (T:am) (I:aB):Prop:=∃ o n i,K.lookup T=some o/\o.data = .seq i n/\Vals I i.toList
structure uL (K:aD) (x qual:Str) (st:Stmt) (dV:az) (f:am) (fd:FuncData):Prop where
 ex:∃ (oc:az) (od:Option am) (kV doc pm:az) (an:Option am) (bQ ct:az) (Ae:Array (jF)),
   fd=W.fnOf x qual (c9 st) (ci st) (av st) dV kV doc pm an bQ ct/\K.lookup f=some ⟨oc,od,.func fd,Ae⟩/\W.codeIn K bQ qual=true
 kp:W.keepIn K (.ref f)=true
def Ch {K:aD} {x q:Str} {st:Stmt} {f:am} {o:az} {O a:Option am} {A:Array (jF)} {D kV d p b ct:az} (l:K.lookup f=some ⟨o,O,.func (W.fnOf x q (c9 st) (ci st) (av st) D kV d p a b ct),A⟩) (c:W.codeIn K b q=true) (k:W.keepIn K (.ref f)=true):uL K x q st D f (W.fnOf x q (c9 st) (ci st) (av st) D kV d p a b ct):=⟨⟨o,O,kV,d,p,a,b,ct,A,rfl,l,c⟩,k⟩
section
variable {P:bE} {w:bz} {K:aD} {mg:dW} {base:bG} {x qual m:Str} {st:Stmt} {dV:az} {f C:am} {fd:FuncData} {N ps:cZ} {k:Nat} {sp:Sp} {ds:bM}
def uL.ok (F:uL K x qual st dV f fd) (S:aC N ps (av st)) (len:∀ vs H Q E,sp vs H Q E->vs.length=ps.length) (c:∀ (b:az) (A:Around) (outer:List Env) (s:Shared) (H:Hp) (vs:aB) (Q:VK) (E:XK),c8 k (A.deeper (envOfC qual (av st) s.heap.objs.size f b))->sp vs H Q E ->
     ∃ t,vH (qg yn P w K mg base N qual (av st) f b A outer s H E).Ev (ci st) t/\t { nx:=λ Z H'=>Q .cL H',rt:=Q } (start N vs) H):lY P w K mg base yn (k+1) f fd ps sp:=by
 obtain ⟨o,O,kV,d,p,i,b,ct,g,rfl,l,a⟩:=F.ex
 refine JA l a S len λ A outer s H vs Q E e J=>?_
 obtain ⟨t,h,q⟩:=c b A outer s H vs Q E e J
 exact ⟨t,h.Ev,q⟩
def uL.binds {T:am} {o:Obj} {n:Nat} {i:Array az} (F:uL K x qual st (.ref T) f fd) (e:K.lookup T=some o) (j:o.data = .seq i n) (h:∀ (kV d p:az) (a:Option am) (b ct:az) (us:bM),(us++ds).length=ps.length->∃ k,bindArgs (W.fnOf x qual (c9 st) (ci st) (av st) (.ref T) kV d p a b ct) ⟨us,[]⟩=seqItems? (.ref T) >>= k/\k (some i)=pure (ps.zip (us++ds))):Binds K fd ps ds:=by
 obtain ⟨O,m,kV,d,p,a,b,ct,A,rfl,L,l⟩:=F.ex
 intro s us X g
 obtain ⟨k,H,c⟩:=h kV d p a b ct us g
 exact W.binds_K X rfl e j H c
def uL.KB (F:uL K x qual st .none f fd) (h:∀ (kV d p:az) (a:Option am) (b ct:az) (us:bM),us.length=ps.length->bindArgs (W.fnOf x qual (c9 st) (ci st) (av st) .none kV d p a b ct) ⟨us,[]⟩=pure (ps.zip us)):Binds K fd ps []:=by
 obtain ⟨o,O,kV,d,p,a,b,ct,A,rfl,l,c⟩:=F.ex
 exact .all (h kV d p a b ct)
def f6 (K:aD) (C:am) (m q:Str) (st:Stmt) (d:az):Prop:=∃ f fd,Meth K C m f/\uL K m q st d f fd
def gM (P:bE) (w:bz) (K:aD) (M:dW) (b:bG) (C:am) (m:Str) (k:Nat) (p:cZ) (d:bM) (s:Sp):Prop :=
 ∃ f fd,Meth K C m f/\Binds K fd p d/\lY P w K M b yn k f fd p s
def f6.Ig (h:f6 K C m qual st .none) (S:aC N ps (av st)) (len:∀ vs H Q E,sp vs H Q E->vs.length=ps.length) (e:∀ (kV d p:az) (a:Option am) (b ct:az) (us:bM),us.length=ps.length->bindArgs (W.fnOf m qual (c9 st) (ci st) (av st) .none kV d p a b ct) ⟨us,[]⟩=pure (ps.zip us)) (c:∀ (f:am) (b:az) (A:Around) (outer:List Env) (s:Shared) (H:Hp) (vs:aB) (Q:VK) (E:XK),c8 k (A.deeper (envOfC qual (av st) s.heap.objs.size f b))->sp vs H Q E ->
     ∃ t,vH (qg yn P w K mg base N qual (av st) f b A outer s H E).Ev (ci st) t/\t { nx:=λ Z H'=>Q .cL H',rt:=Q } (start N vs) H):gM P w K mg base C m (k+1) ps [] sp:=by
 obtain ⟨f,fd,M,F⟩:=h
 exact ⟨f,fd,M,F.KB e,F.ok S len λ b A outer s H vs Q E g i=>c f b A outer s H vs Q E g i⟩
structure El (K:aD) (C:am):Prop where
 makes:W.makesIn K C=true
 kp:W.keepIn K (.ref C)=true
def Jm (K:aD) (m:dW) (x:Str) (st:Stmt) (d:az):Prop:=∃ f fd,m x=some (.ref f)/\uL K x x st d f fd
def NL (P:bE) (w:bz) (K:aD) (m:dW) (b:bG) (x:Str) (k:Nat) (p:cZ) (d:bM) (s:Sp):Prop :=
 ∃ f fd,m x=some (.ref f)/\W.keepIn K (.ref f)=true/\Binds K fd p d/\lY P w K m b yn k f fd p s
end
section
variable {X:Cx} {C:am} {m x:Str} {p pos apos:Pos} {e o:Expr} {es:List Expr} {ta:TE} {t:TA} {k:Nat} {ps:cZ} {sp:Sp} {ds:bM} {iG:aB}
def aV {pl:Sem Bool} (d:PE X o ta) (c:yG X.K C) (D:gM X.prog X.w X.K X.mg X.base C m k ps ds sp) (b:Vals iG ds) (i:c8 k X.A) (H:PA X (e::es) t) (J:autoParam (CU X e es) za_._auto_1) (h:autoParam (Eu X es pos) za_._auto_1) (j:autoParam (eval (.Call (.Attribute o m apos) (e::es) [] pos) X.env=(do
     let O <- eval o X.env
     standAt apos.atName
     let (f,first) <- holding [O] (getMethod O m pl)
     callWith pos f first (backTo pos (starEach (e::es) X.env)) (backToKw pos (keywordEach [] X.env)))) za_._auto_1) :
   PE X (.Call (.Attribute o m apos) (e::es) [] pos) (zq C m sp iG E0 ta t):=by
 obtain ⟨f,l,g,a,F⟩:=D
 exact IN (pl:=pl) d c g F i a b zw H J h j
def fD {pl:Sem Bool} (a:PE X o ta) (c:yG X.K C) (D:gM X.prog X.w X.K X.mg X.base C m k ps ds sp) (H:Vals iG ds) (d:c8 k X.A) (e:autoParam (eval (.Call (.Attribute o m apos) [] [] pos) X.env=(do
     let O <- eval o X.env
     standAt apos.atName
     let (f,first) <- holding [O] (getMethod O m pl)
     callWith pos f first (backTo pos (starEach [] X.env)) (backToKw pos (keywordEach [] X.env)))) za_._auto_1) :
   PE X (.Call (.Attribute o m apos) [] [] pos) (zq C m sp iG E0 ta KZ):=by
 obtain ⟨f,g,b,h,F⟩:=D
 exact GH (pl:=pl) a c b F d h H zw e
def pK (M:El X.K C) (D:gM X.prog X.w X.K X.mg X.base C "__init__" k ps ds sp) (b:Vals iG ds) (i:c8 (k+1) X.A) (g:X.mg x=some (.ref C)) (H:PA X (e::es) t) (d:autoParam (Gl X x) za_._auto_1) (y:autoParam (Ar x) zb_._auto_1) (c:autoParam (CU X e es) za_._auto_1) (h:autoParam (Eu X es pos) za_._auto_1):PE X (.Call (.Name x p) (e::es) [] pos) (EN C sp iG E0 t):=by
 obtain ⟨f,j,m,a,F⟩:=D
 exact Ht ⟨M.makes,m.at_,m.fn,M.kp⟩ F i d g a b zw H y c h
def DP (D:NL X.prog X.w X.K X.mg X.base x k ps ds sp) (b:Vals iG ds) (j:c8 k X.A) (H:PA X (e::es) t) (d:autoParam (Gl X x) za_._auto_1) (y:autoParam (Ar x) zb_._auto_1) (c:autoParam (CU X e es) za_._auto_1) (h:autoParam (Eu X es pos) za_._auto_1):PE X (.Call (.Name x p) (e::es) [] pos) (CF sp iG E0 t):=by
 obtain ⟨f,l,i,g,a,F⟩:=D
 exact BQ F j d i g a b zw H y c h
end
section
variable {X:Cx} {pins:List (am×Obj)} {U:St} {H:Hp} {s:Shared} {h':bG} {ch:bK}
def Inv.wE {a:am} {o:HO} {t':Nat} (I:Inv X pins U H s) (k:∀ b u,b∉ch->s.heap.get? b=some u->h'.get? b=some u) (e:∀ b∈ch,u5 X pins H b) (g:s.heap.objs.size<=a) (N:dA X.prog X.w (upd H a o) h' a o):Inv X pins U (upd H a o) { s with heap:=h',toks:=t' }:=by
 have f:H a=none:=I.dR.fresh g
 refine I.step (g':=s.gens) (d':=s.drawn) (ch:=ch) (λ b d=>⟨(e b d).2.2.2.1,(e b d).2.1,(e b d).2.2.2.2.1,(e b d).2.2.2.2.2⟩) (λ b u Z Z h q Z=>k b u h q) (λ b u Z Z h q Z=>⟨u.slots,k b u h q⟩)
   (λ b u Z q n=>by rw [aw (aaN (aav (aaw q) g))];exact n) (λ b u h q=>⟨u,k b u h q⟩) (λ b x q=>by rw [aw (aA q f)];exact q) (λ b u x q=>by rw [aw (aA q f)];exact q)
   (λ b p q=>⟨#[],by rw [aw (aA q f),q];simp⟩) (λ m j=>?_) (λ b u q=>?_) I.bare
 . obtain ⟨O,i,E,l,r⟩:=j
   exact ⟨O,i,E,k _ O (λ z=>(e _ z).2.1 rfl) l,r⟩
 .
  by_cases d:b=a
  . subst d
    rw [af] at q
    cases q
    exact N
  .
   rw [aw d] at q
   refine (I.dR b u q).eE (λ c v h z=>k c v (λ y=>?_) z) (λ c z=>by rw [aw (aA z f)];exact z) λ c x z=>by rw [aw (aA z f)];exact z
   have n:=(e c y).1
   rcases h with rfl|h
   . rw [n] at q;cases q
   . rw [n] at h;cases h
def Inv.xW {t':Nat} (I:Inv X pins U H s) (k:∀ b u,b∉ch->s.heap.get? b=some u->h'.get? b=some u) (a:∀ b∈ch,u5 X pins H b):Inv X pins U H { s with heap:=h',toks:=t' }:=by
 refine I.step (g':=s.gens) (d':=s.drawn) (ch:=ch) (λ b d=>⟨(a b d).2.2.2.1,(a b d).2.1,(a b d).2.2.2.2.1,(a b d).2.2.2.2.2⟩) (λ b u Z Z h q Z=>k b u h q) (λ b u Z Z h q Z=>⟨u.slots,k b u h q⟩)
   (λ Z Z Z Z n=>n) (λ b u h q=>⟨u,k b u h q⟩) (λ Z Z q=>q) (λ Z Z Z q=>q) (λ b p q=>⟨#[],by rw [q];simp⟩) (λ m f=>?_) (λ b u q=>?_) I.bare
 . obtain ⟨o,E,e,g,r⟩:=f
   exact ⟨o,E,e,k _ o (λ z=>(a _ z).2.1 rfl) g,r⟩
 .
  refine (I.dR b u q).eE (λ c v h z=>k c v (λ y=>?_) z) (λ Z z=>z) λ Z Z z=>z
  have n:=(a c y).1
  rcases h with rfl|h
  . rw [n] at q;cases q
  . rw [n] at h;cases h
end
def N3 (K:aD) (a b:am):It :=
 ⟨λ i H=>∃ X Y x y,aT K H a X/\aT K H b Y/\X[i]?=some x/\Y[i]?=some y,
  λ i H v H'=>∃ p x y,H p=none/\v = .ref p/\H'=upd H p (.tup [x,y])/\(∀ X,aT K H a X->X[i]?=some x)/\∀ Y,aT K H b Y->Y[i]?=some y,
  λ i H=>∃ X Y,aT K H a X/\aT K H b Y/\(X.length<=i\/Y.length<=i)⟩
def mv (z TI TO I c a b:am) (i:Nat) (h:bG):Prop:=IsZip h z TI TO .none/\IsPair h TI (.ref I) (.ref c)/\(∃ u v,IsPair h TO u v)/\h.IsListIter I a i/\h.IsListIter c b i
def mv.obj {z TI TO I d a b:am} {i:Nat} {h:bG} (st:mv z TI TO I d a b i h):∀ c∈[z,TI,TO,I,d],∃ o,h.get? c=some o/\∀ v,o.data ≠ .cell v:=λ c H=>by
 obtain ⟨g,t,⟨u,v,F⟩,⟨O,E,Z,D⟩,⟨j,f,Z,e⟩⟩:=st
 simp only [aaa,aad,aaR] at H
 rcases H with rfl|rfl|rfl|rfl|rfl
 . exact ⟨_,g,λ v q=>by cases q⟩
 . exact ⟨_,t,λ v q=>by cases q⟩
 . exact ⟨_,F,λ v q=>by cases q⟩
 . exact ⟨O,E,λ v q=>by rw [D] at q;cases q⟩
 . exact ⟨j,f,λ v q=>by rw [e] at q;cases q⟩
def GR {P:bE} {w:bz} {K:aD} {z TI TO f g a b:am} (D:ZipApart z TI TO f g a b) :
   Turn P w K (.Tuple elts x1 pj) (N3 K a b) [z,TI,TO,f,g] z (mv z TI TO f g a b) where
 mem:=by simp
 obj:=λ i h S=>S.obj
 keep:=λ i h B S k=>by
   obtain ⟨n,t,⟨u,v,F⟩,l,m⟩:=S
   exact ⟨k z (by simp) _ n,k TI (by simp) _ t,⟨u,v,k TO (by simp) _ F⟩,l.at λ o e=>k f (by simp) o e,m.at λ o e=>k g (by simp) o e⟩
 item:=by
   intro X G O C hc i p s U H E I q S J
   subst G O C
   obtain ⟨xs,ys,x,y,Y,Q,hx,hy⟩:=J
   obtain ⟨Ii,N,R,L6⟩:=I.list Y
   obtain ⟨oy,M,T,Xv⟩:=I.list Q
   obtain ⟨u1,L,V⟩:=N.get hx
   obtain ⟨u2,SJ,W⟩:=M.get hy
   have lt:∀ c∈[z,TI,TO,f,g],c<s.heap.objs.size:=λ c A=>by
     obtain ⟨o,e,Z⟩:=S.obj c A
     exact aaw e
   obtain ⟨n,t,⟨u,v,F⟩,l,m⟩:=S
   refine wpAny_pyNext_zip_item D n t F l m R.isList T.isList (x:=u1) (y:=u2) (by simpa using L) (by simpa using SJ) λ B z1 z2 z3 z4 z5 z6 r=>?_
   refine ⟨.ref s.heap.objs.size,rfl,wpAny_letOwnedTupleGo_zip (s:={ s with heap:=B }) z1 λ QC zz j=>?_⟩
   have FU:∀ c o,c∉[z,TI,TO,f,g]->s.heap.get? c=some o->QC.get? c=some o:=λ c o d e=>by
     simp only [aaa,aad,aaR,abJ] at d
     exact j.extBut _ _ d.1 (r c o d.1 d.2.2.1 d.2.2.2.1 d.2.2.2.2 e)
   have nz:s.heap.objs.size≠z:=acf (lt z (by simp))
   have n5:IsPair QC s.heap.objs.size u1 u2:=j.extBut _ _ nz z5
   refine ⟨.ref s.heap.objs.size,upd H s.heap.objs.size (.tup [x,y]),I.wE (t':=s.toks) FU q (aaj _) ⟨by show 2<=sizeLine;decide,[u1,u2],.cons V (.cons W .nil),⟨_,n5,rfl,_,rfl⟩⟩,rfl,
     ⟨_,x,y,I.dR.fresh (aaj _),rfl,rfl,λ HC h=>by rw [I.oQ h Y];exact hx,λ ab h=>by rw [I.oQ h Q];exact hy⟩,?_,λ c A=>?_⟩
   . exact ⟨zz,j.extBut _ _ D.TIz (r _ _ D.TIz D.TITO D.TIi1 D.TIi2 t),⟨_,_,j.extBut _ _ D.TOz z2⟩,z3.extBut j.extBut D.i1z,z4.extBut j.extBut D.i2z⟩
   . rw [aw (aaN (lt c A))]
     exact (q c A).1
 done:=by
   intro X G O C hc i p s U H E I q S J
   subst G O C
   obtain ⟨xs,ys,Y,Q,hl⟩:=J
   obtain ⟨Ii,N,R,L6⟩:=I.list Y
   obtain ⟨oy,M,T,Xv⟩:=I.list Q
   have l1:=N.length
   have l2:=M.length
   obtain ⟨n,t,⟨u,v,F⟩,l,m⟩:=S
   have US:Ii.toArray[i]?=none\/oy.toArray[i]?=none:=by
     rcases hl with h|h
     . exact .inl (by simp;lia)
     . exact .inr (by simp;lia)
   refine wpAny_pyNext_zip_end (I.ok.hd hc) D n t F l m R.isList T.isList US λ B r=>⟨rfl,I.xW (ch:=[z,TI,TO,f,g]) (t':=s.toks) (λ c o d e=>?_) q⟩
   simp only [aaa,aad,aaR,abJ] at d
   exact r c o d.1 d.2.2.1 d.2.2.2.1 d.2.2.2.2 e
 self:=λ Z Z Z Z Z S h=>adT S.1 h
def FX:bootBuiltins "zip" = some (.type "zip"):=by decide +kernel
section
variable {X:Cx}
def To (K:aD) (t:TA):TI:=λ U H R=>t U H λ v h=>∃ a b,v=[.ref a,.ref b]/\(∃ x,aT K h a x)/\(∃ y,aT K h b y)/\R (N3 K a b) h
def Ma {a b:Expr} {t:TA} {p g:Pos} (o:Gl X "zip") (w:X.mg "zip" = none) (n:PA X [a,b] t) (x:autoParam (starEach [a,b] X.env=[(false,eval a X.env),(false,eval b X.env)]) za_._auto_1) (G:autoParam (starEach [b] X.env=[(false,eval b X.env)]) za_._auto_1):PI X (.Tuple elts x1 pj) (.Call (.Name "zip" p) [a,b] [] g) (To X.K t):=by
 intro f s U H R I h
 refine Call_ (jB I o w FX (abb (cU (n g f s U H _ I h) λ us S ⟨vs,m,i,D,Q⟩=>?_) (by rw [x,G]) (by rw [G];rfl)))
 obtain ⟨a,b,e,⟨xs,Y⟩,⟨ys,B⟩,q⟩:=Q
 subst e
 obtain ⟨u,v,rfl,r,C⟩:=vals2 D
 obtain rfl:u=Value.ref a:=r
 obtain rfl:v=Value.ref b:=C
 obtain ⟨N,V,k,O⟩:=i.list Y
 obtain ⟨oy,T,l,W⟩:=i.list B
 refine call_zip_2 k.isList l.isList λ h' z E F J M z6 y=>?_
 have L:a<S.heap.objs.size:=by obtain ⟨Z,e,Z⟩:=k.isList;exact aaw e
 have A:b<S.heap.objs.size:=by obtain ⟨Z,e,Z⟩:=l.isList;exact aaw e
 refine adT z ?_
 refine ⟨S.heap.objs.size+4,[S.heap.objs.size+4,S.heap.objs.size+2,S.heap.objs.size+3,S.heap.objs.size,S.heap.objs.size+1],_,_,m,rfl,i.kept (t':=S.toks) y,GR (zipApart_new L A),⟨z,E,⟨_,_,F⟩,J,M⟩,λ c j=>?_,q⟩
 have d:S.heap.objs.size<=c:=by
   simp only [aaa,aad,aaR] at j
   rcases j with rfl|rfl|rfl|rfl|rfl
   . exact abS _ _
   . exact abS _ _
   . exact abS _ _
   . exact aaj _
   . exact abS _ _
 exact i.yD d (i.dR.fresh d)
end
def GL {K:aD} {a b:am} {xs ys:aB} {t:TT} {D:am} {Q:Hp->Prop} (d:Nat->aB->St->Hp->Prop) (h0:d 0 [] U H) (A:∀ i acc U H,i<=min xs.length ys.length->d i acc U H->aT K H a xs/\aT K H b ys) (C:∀ i x y p acc U H,xs[i]?=some x->ys[i]?=some y->H p=none->d i acc U H->g (.ref p) U (upd H p (.tup [x,y])) λ c l=>t c l λ k h =>
     if k=true then te c h λ v j=>j D=some (.lst acc)/\acc.length<sizeLine/\d (i+1) (acc++[v]) c (upd j D (.lst (acc++[v]))) else d (i+1) acc c h) (w:∀ acc U H,d (min xs.length ys.length) acc U H->Q H) :
   ∃ W:Nat->Nat->aB->St->Hp->Prop,(∃ m,W 0 m [] U H)/\∀ i m acc f H',W i m acc f H'->((N3 K a b).stop i H'/\Q H') \/
     ((N3 K a b).go i H'/\∃ N:aB->St->Hp->Prop,(∀ G c h,N G c h->∃ M,M<m/\W (i+1) M G c h)/\∀ x o,(N3 K a b).G6 i H' x o->g x f o λ c l=>t c l λ k h =>
       if k=true then te c h λ y j=>j D=some (.lst acc)/\acc.length<sizeLine/\N (acc++[y]) c (upd j D (.lst (acc++[y]))) else N acc c h):=by
 refine ⟨λ i m acc U H=>m=min xs.length ys.length - i/\i<=min xs.length ys.length/\d i acc U H,⟨_,rfl,aaZ _,h0⟩,?_⟩
 rintro i m acc U H ⟨rfl,z,p⟩
 obtain ⟨q,n⟩:=A i acc U H z p
 by_cases F:i<min xs.length ys.length
 .
  have s:i<xs.length:=by lia
  have u:i<ys.length:=by lia
  refine .inr ⟨⟨xs,ys,xs[i],ys[i],q,n,by simp [s],by simp [u]⟩,d (i+1),λ G f H' I=>⟨min xs.length ys.length - (i+1),by lia,rfl,F,I⟩,λ v H' y=>?_⟩
  obtain ⟨J,x,y,B,rfl,rfl,E,r⟩:=y
  exact C i x y J acc U H (E xs q) (r ys n) B p
 . have e:i=min xs.length ys.length:=by lia
   subst e
   exact .inl ⟨⟨xs,ys,q,n,by lia⟩,w acc U H p⟩
mutual
def Dn (K:aD) (H:Hp):PyData->V->Prop
 | .none,v=>v = .cL
 | .bool b,v=>v = .bl b
 | .int i,v=>v = .int i
 | .str x,v=>v = .str x
 | .list d,v=>∃ a xs,v = .ref a/\aT K H a xs/\bF K H d xs
 | .tuple d,v=>∃ a xs,v = .ref a/\bY K H a xs/\bF K H d xs
 | .dict _,_=>False
def bF (K:aD) (H:Hp):List PyData->aB->Prop
 | [],xs=>xs=[]
 | d::D,xs=>∃ x r,xs=x::r/\Dn K H d x/\bF K H D r
end
mutual
def eQ:PyData->Bool
 | .list _=>false
 | .dict _=>false
 | .tuple d=>qX d
 | _=>true
def qX:List PyData->Bool
 | []=>true
 | d::D=>eQ d && qX D
end
@[simp] theorem L8:qX []=true:=rfl
@[simp] theorem yN {d:PyData} {ds:List PyData}:qX (d::ds)=(eQ d && qX ds):=rfl
theorem uf:∀ {D:List PyData},qX D=true↔∀ d∈D,eQ d=true
 | []=>⟨λ Z d h=>absurd h aad,λ Z=>rfl⟩
 | d::D=>by
   rw [yN,aaY,uf]
   constructor
   . rintro ⟨a,b⟩ e H
     rcases aaa.mp H with rfl|H
     . exact a
     . exact b e H
   . exact λ h=>⟨h d aas,λ e H=>h e (aai _ H)⟩
def mG {D:List PyData}:eQ (.tuple D)=true↔∀ d∈D,eQ d=true:=uf
def aQ (K:aD) (H h:Hp):Prop:=∀ a x,bY K H a x->bY K h a x
def aQ.refl {K:aD} (H:Hp):aQ K H H:=λ Z Z h=>h
def aQ.trans {K:aD} {H1 H2:Hp} (a:aQ K H H1) (b:aQ K H1 H2):aQ K H H2:=λ c x h=>b c x (a c x h)
def aG.ts {K:aD} (s:aG H H'):aQ K H H':=λ Z Z h=>s.tup h
def zK:HO->Bool
 | .tup _=>false
 | .Ao _ _=>false
 | _=>true
def bT {K:aD} {a:am} {o O:HO} (h:H a=some o) (n:zK o=true):aQ K H (upd H a O):=λ b x q=>by
 have N:∀ u,H b=some u->zK u=false->b≠a:=λ u e z y=>by
   subst y
   rw [h] at e
   cases e
   rw [n] at z
   cases z
 rcases q with (q|⟨c,q⟩)|q
 . exact .inl (.inl (by rw [aw (N _ q rfl)];exact q))
 . exact .inl (.inr ⟨c,by rw [aw (N _ q rfl)];exact q⟩)
 . exact .inr q
section
variable {K:aD} {H H':Hp}
mutual
theorem Dn.same (s:aG H H'):∀ (d:PyData) {v:V},Dn K H d v->Dn K H' d v
 | .none,_,h=>by rw [Dn] at h |-;exact h
 | .bool _,_,h=>by rw [Dn] at h |-;exact h
 | .int _,_,h=>by rw [Dn] at h |-;exact h
 | .str _,_,h=>by rw [Dn] at h |-;exact h
 | .list D,_,h=>by
   rw [Dn] at h |-
   obtain ⟨a,xs,e,q,r⟩:=h
   exact ⟨a,xs,e,s.seq q,bF.same s D r⟩
 | .tuple D,_,h=>by
   rw [Dn] at h |-
   obtain ⟨a,xs,e,q,r⟩:=h
   exact ⟨a,xs,e,s.tup q,bF.same s D r⟩
 | .dict _,_,h=>by rw [Dn] at h;exact h.elim
theorem bF.same (s:aG H H'):∀ (D:List PyData) {xs:aB},bF K H D xs->bF K H' D xs
 | [],_,h=>by rw [bF] at h |-;exact h
 | d::D,_,h=>by
   rw [bF] at h |-
   obtain ⟨x,r,e,q,t⟩:=h
   exact ⟨x,r,e,Dn.same s d q,bF.same s D t⟩
end
mutual
theorem Dn.ts (s:aQ K H H'):∀ (d:PyData) {v:V},eQ d=true->Dn K H d v->Dn K H' d v
 | .none,_,_,h=>by rw [Dn] at h |-;exact h
 | .bool _,_,_,h=>by rw [Dn] at h |-;exact h
 | .int _,_,_,h=>by rw [Dn] at h |-;exact h
 | .str _,_,_,h=>by rw [Dn] at h |-;exact h
 | .list D,_,f,_=>by rw [eQ] at f;cases f
 | .tuple D,_,f,h=>by
   rw [Dn] at h |-
   obtain ⟨a,xs,e,q,r⟩:=h
   exact ⟨a,xs,e,s _ _ q,bF.ts s D (mG.mp f) r⟩
 | .dict _,_,_,h=>by rw [Dn] at h;exact h.elim
theorem bF.ts (s:aQ K H H'):∀ (D:List PyData) {xs:aB},(∀ d∈D,eQ d=true)->bF K H D xs->bF K H' D xs
 | [],_,_,h=>by rw [bF] at h |-;exact h
 | d::D,_,f,h=>by
   rw [bF] at h |-
   obtain ⟨x,r,e,q,t⟩:=h
   exact ⟨x,r,e,Dn.ts s d (f d aas) q,bF.ts s D (λ d a=>f d (aai _ a)) t⟩
end
theorem bF.length:∀ {D:List PyData} {xs:aB},bF K H D xs->xs.length=D.length
 | [],_,h=>by rw [bF] at h;rw [h];rfl
 | d::D,_,h=>by
   rw [bF] at h
   obtain ⟨x,r,rfl,Z,t⟩:=h
   rw [aaX,aaX,bF.length t]
theorem bF.get:∀ {D:List PyData} {xs:aB} {i:Nat} {d:PyData},bF K H D xs->D[i]?=some d->∃ x,xs[i]?=some x/\Dn K H d x
 | [],_,_,_,_,e=>by simp at e
 | _::_,_,0,_,h,e=>by
   rw [bF] at h
   obtain ⟨x,r,rfl,q,t⟩:=h
   simp at e
   subst e
   exact ⟨x,rfl,q⟩
 | _::D,_,i+1,d,h,e=>by
   rw [bF] at h
   obtain ⟨x,r,rfl,q,t⟩:=h
   obtain ⟨y,E,a⟩:=bF.get (i:=i) t (by simpa using e)
   exact ⟨y,by simpa using E,a⟩
theorem bF.snoc:∀ {D:List PyData} {xs:aB} {d:PyData} {x:V},bF K H D xs->Dn K H d x->bF K H (D++[d]) (xs++[x])
 | [],_,d,x,h,q=>by
   rw [bF] at h
   subst h
   exact ⟨x,[],rfl,q,rfl⟩
 | _::D,_,d,x,h,q=>by
   rw [bF] at h
   obtain ⟨y,r,rfl,Q,t⟩:=h
   exact ⟨y,r++[x],rfl,Q,bF.snoc t q⟩
theorem bF.set:∀ {D:List PyData} {xs:aB} {i:Nat} {d:PyData} {x:V},bF K H D xs->Dn K H d x->bF K H (D.set i d) (xs.set i x)
 | [],_,_,_,_,h,_=>by
   rw [bF] at h
   subst h
   exact rfl
 | _::_,_,0,d,x,h,q=>by
   rw [bF] at h
   obtain ⟨y,r,rfl,Q,t⟩:=h
   exact ⟨x,r,rfl,q,t⟩
 | _::D,_,i+1,d,x,h,q=>by
   rw [bF] at h
   obtain ⟨y,r,rfl,Q,t⟩:=h
   exact ⟨y,r.set i x,rfl,Q,bF.set t q⟩
def cK:bF K H [] []:=rfl
def bo {d:PyData} {D:List PyData} {x:V} {xs:aB} (a:Dn K H d x) (b:bF K H D xs):bF K H (d::D) (x::xs):=⟨x,xs,rfl,a,b⟩
def nK {i:Int}:Dn K H (.int i) (.int i):=rfl
def LS:Dn K H .none .cL:=rfl
def fS {a:am} {xs:aB} {d:List PyData} (h:bY K H a xs) (r:bF K H d xs):Dn K H (.tuple d) (.ref a):=⟨a,xs,rfl,h,r⟩
def lC {a:am} {xs:aB} {d:List PyData} (h:aT K H a xs) (r:bF K H d xs):Dn K H (.list d) (.ref a):=⟨a,xs,rfl,h,r⟩
abbrev dJ (f:Int×Int):PyData:=.tuple [.int f.1,.int f.2]
def jS {p:am} {f:Int×Int} (h:bY K H p [.int f.1,.int f.2]):Dn K H (dJ f) (.ref p):=fS h (bo nK (bo nK cK))
def Dn.fr {v:V} {f:Int×Int} (h:Dn K H (dJ f) v):∃ p,v = .ref p/\bY K H p [.int f.1,.int f.2]:=by
 obtain ⟨p,X,e,q,x,r,c,E,y,R,d,a,b⟩:=h
 have E:x=V.int f.1:=E
 have a:y=V.int f.2:=a
 have b:R=[]:=b
 subst c E d a b
 exact ⟨p,e,q⟩
def iM (f:Int×Int):eQ (dJ f)=true:=by simp [dJ,eQ]
end
section
variable {X:Cx} {pins:List (am×Obj)} {U:St} {H:Hp} {s:Shared}
mutual
theorem Inv.reads (I:Inv X pins U H s):∀ (d:PyData) {v:V} {u:az},Dn X.K H d v->RelV v u->∃ as,Reads s.heap u d as
 | .none,_,_,h,r=>by
   have h:_=V.cL:=h
   subst h
   obtain rfl:=(show _=Value.none from r)
   exact ⟨_,.none⟩
 | .bool b,_,_,h,r=>by
   have h:_=V.bl b:=h
   subst h
   obtain rfl:=(show _=Value.bool b from r)
   exact ⟨_,.bool b⟩
 | .int i,_,_,h,r=>by
   have h:_=V.int i:=h
   subst h
   obtain ⟨t,rfl⟩:=r
   exact ⟨_,.int i t⟩
 | .str x,_,_,h,r=>by
   have h:_=V.str x:=h
   subst h
   obtain ⟨t,rfl⟩:=r
   exact ⟨_,.str x t⟩
 | .list D,_,_,h,r=>by
   obtain ⟨a,j,rfl,q,t⟩:=h
   obtain rfl:=(show _=Value.ref a from r)
   obtain ⟨B,g,p,Z⟩:=I.list q
   obtain ⟨o,f,c,n,e⟩:=p.isList
   obtain ⟨as,R⟩:=Inv.readsAll I D t g
   exact ⟨_,.list f c e (by simpa using R)⟩
 | .tuple D,_,_,h,r=>by
   obtain ⟨a,j,rfl,q,t⟩:=h
   obtain rfl:=(show _=Value.ref a from r)
   obtain ⟨B,g,p,Z⟩:=I.tuple q
   obtain ⟨o,f,c,n,e⟩:=p
   obtain ⟨as,R⟩:=Inv.readsAll I D t g
   exact ⟨_,.tuple f c e (by simpa using R)⟩
 | .dict _,_,_,h,_=>(show False from h).elim
theorem Inv.readsAll (I:Inv X pins U H s):∀ (D:List PyData) {xs:aB} {us:bM},bF X.K H D xs->Vals xs us->∃ as,ReadsAll s.heap us D as
 | [],_,_,h,r=>by
   have h:_=[]:=h
   subst h
   obtain rfl:=Vals.zero r
   exact ⟨_,.nil⟩
 | d::D,_,_,h,r=>by
   obtain ⟨x,t,rfl,q,Q⟩:=h
   cases r with
   | cons R a =>
     obtain ⟨as,b⟩:=Inv.reads I d q R
     obtain ⟨B,c⟩:=Inv.readsAll I D Q a
     exact ⟨_,.cons b c⟩
end
inductive Ud (K:aD) (x:V) (y:V) (H:Hp) (Q:VK):Prop|mk (d e:_) (_:Dn K H d x) (_:Dn K H e y) (_:SeqAt.shaped d=true) (_:SeqAt.shaped e=true) (_:Q (.bl (PyData.eqv d e)) H)
def L9 (c:X.A.units+64<cLine):ji X (compareOp .Eq) (Ud X.K):=by
 intro pins s U H x y v u Q I f g h
 obtain ⟨d,e,a,b,S,i,q⟩:=h
 obtain ⟨as,r⟩:=I.reads d a f
 obtain ⟨B,R⟩:=I.reads e b g
 exact eq_dataH r R S i c ⟨.bl _,H,I,rfl,q⟩
def wc (n:X.calm=true):jg X (.builtin "all") (λ xs H Q=>∃ (p:am) (bs:List Bool),xs=[.ref p]/\aT X.K H p (bs.map V.bl)/\Q (.bl (bs.all id)) H):=by
 intro pins s U H xs G Q I r h
 obtain ⟨p,bs,rfl,A,q⟩:=h
 obtain ⟨u,rfl,C⟩:∃ u,G=[u]/\RelV (.ref p) u:=by
   cases r with
   | cons a b=>cases b;exact ⟨_,rfl,a⟩
 obtain rfl:u=Value.ref p:=C
 obtain ⟨B,R,g,Z⟩:=I.list A
 have w:p<s.heap.objs.size:=by obtain ⟨Z,e,Z⟩:=g.isList;exact aaw e
 have d:B.length=bs.length:=by rw [<- R.length,M1]
 have k:∀ i v,B.toArray[i]?=some v->v=Value.bool (bs.getD i false):=λ i v e=>by
   have E:B[i]?=some v:=by simpa using e
   have c:i<bs.length:=by rw [<- d];exact (Bj.mp E).1
   obtain ⟨u,j,D⟩:=R.get (i:=i) (x:=V.bl (bs[i])) (by simp [c])
   rw [E] at j
   cases j
   have F:v=Value.bool bs[i]:=D
   rw [F]
   simp [c]
 refine call_all_walk (wpAny_pyIter_list g.isList ⟨s.heap.objs.size,_,_,_,_,_,λ i=>bs.getD i false,rfl,Walks.list (by simpa using I.ok.hd n) _ p (aaN w) B.toArray,⟨⟨_,aaQ _ rfl,rfl,rfl⟩,g.isList.push _⟩,λ i v S L J l f=>?_,λ M T t=>?_⟩)
 . rw [k i v l]
   exact aaB f
 .
  have e:(List.range B.toArray.size).all (λ i=>bs.getD i false)=bs.all id:=by
    have:B.toArray.size=bs.length:=by simpa using d
    rw [this,ab1,abh,abh]
    constructor
    . intro h b m
      obtain ⟨i,c,rfl⟩:=List.getElem_of_mem m
      have:=h i (aaD.mpr c)
      simpa [c] using this
    . intro h i c
      have c:=aaD.mp c
      have:=h _ (aar c)
      simpa [c] using this
  rw [e]
  exact ⟨.bl _,H,I.kept (t':=T) λ b o z=>t b o (λ y=>by
    have y:b=s.heap.objs.size:=by simpa using y
    exact absurd (aaw z) (by rw [y];exact abH _)) (aam _ z),rfl,q⟩
end
section
variable {P:bE} {w:bz} {K:aD} {mg:dW} {base:bG} {x qual m:Str} {st:Stmt} {dV:az} {f C:am} {fd:FuncData} {N ps:cZ} {k:Nat} {sp:Sp} {ds:bM} {iG:aB}
def Nl (P:bE) (w:bz) (K:aD) (M:dW) (b:bG) (C:am) (m q:Str) (st:Stmt) (d:az) (k:Nat) (p:cZ) (s:Sp):Prop :=
 ∃ f fd,Meth K C m f/\uL K m q st d f fd/\lY P w K M b yn k f fd p s
def zn (P:bE) (w:bz) (K:aD) (M:dW) (b:bG) (C:am) (m:Str) (k:Nat) (p:cZ) (i:aB) (s:Sp):Prop :=
 ∃ ds,Vals i ds/\gM P w K M b C m k p ds s
def f6.ZC (h:f6 K C m qual st dV) (S:aC N ps (av st)) (len:∀ vs H Q E,sp vs H Q E->vs.length=ps.length) (a:∀ (f:am) (b:az) (A:Around) (outer:List Env) (s:Shared) (H:Hp) (vs:aB) (Q:VK) (E:XK),c8 k (A.deeper (envOfC qual (av st) s.heap.objs.size f b))->sp vs H Q E ->
     ∃ t,vH (qg yn P w K mg base N qual (av st) f b A outer s H E).Ev (ci st) t/\t { nx:=λ Z H'=>Q .cL H',rt:=Q } (start N vs) H):Nl P w K mg base C m qual st dV (k+1) ps sp:=by
 obtain ⟨f,fd,M,F⟩:=h
 exact ⟨f,fd,M,F,F.ok S len λ b A outer s H vs Q E c d=>a f b A outer s H vs Q E c d⟩
def Nl.Ig {T:am} {b:aB} (h:Nl P w K mg base C m qual st (.ref T) k ps sp) (H:EX K T b) (a:∀ i:Array az,Vals b i.toList->∃ ds,Vals iG ds/\∀ (kV d p:az) (A:Option am) (B ct:az) (us:bM),(us++ds).length=ps.length->∃ k,bindArgs (W.fnOf m qual (c9 st) (ci st) (av st) (.ref T) kV d p A B ct) ⟨us,[]⟩=seqItems? (.ref T) >>= k/\k (some i)=pure (ps.zip (us++ds))) :
   zn P w K mg base C m k ps iG sp:=by
 obtain ⟨f,fd,M,F,O⟩:=h
 obtain ⟨o,n,i,H,e,g⟩:=H
 obtain ⟨ds,c,a⟩:=a i g
 exact ⟨ds,c,f,fd,M,F.binds H e a,O⟩
def R0 (P:bE) (w:bz) (K:aD) (m:dW) (b:bG) (x:Str) (st:Stmt) (d:az) (k:Nat) (p:cZ) (s:Sp):Prop :=
 ∃ f fd,m x=some (.ref f)/\uL K x x st d f fd/\lY P w K m b yn k f fd p s
def KU (P:bE) (w:bz) (K:aD) (m:dW) (b:bG) (x:Str) (k:Nat) (p:cZ) (i:aB) (s:Sp):Prop :=
 ∃ ds,Vals i ds/\NL P w K m b x k p ds s
def Jm.dok (h:Jm K mg x st dV) (S:aC N ps (av st)) (len:∀ vs H Q E,sp vs H Q E->vs.length=ps.length) (a:∀ (f:am) (b:az) (A:Around) (outer:List Env) (s:Shared) (H:Hp) (vs:aB) (Q:VK) (E:XK),c8 k (A.deeper (envOfC x (av st) s.heap.objs.size f b))->sp vs H Q E ->
     ∃ t,vH (qg yn P w K mg base N x (av st) f b A outer s H E).Ev (ci st) t/\t { nx:=λ Z H'=>Q .cL H',rt:=Q } (start N vs) H):R0 P w K mg base x st dV (k+1) ps sp:=by
 obtain ⟨f,fd,M,F⟩:=h
 exact ⟨f,fd,M,F,F.ok S len λ b A outer s H vs Q E c d=>a f b A outer s H vs Q E c d⟩
def R0.VA {T:am} {b:aB} (h:R0 P w K mg base x st (.ref T) k ps sp) (H:EX K T b) (a:∀ i:Array az,Vals b i.toList->∃ ds,Vals iG ds/\∀ (kV d p:az) (A:Option am) (B ct:az) (us:bM),(us++ds).length=ps.length->∃ k,bindArgs (W.fnOf x x (c9 st) (ci st) (av st) (.ref T) kV d p A B ct) ⟨us,[]⟩=seqItems? (.ref T) >>= k/\k (some i)=pure (ps.zip (us++ds))) :
   KU P w K mg base x k ps iG sp:=by
 obtain ⟨f,fd,M,F,O⟩:=h
 obtain ⟨o,n,i,H,e,g⟩:=H
 obtain ⟨ds,c,a⟩:=a i g
 exact ⟨ds,c,f,fd,M,F.kp,F.binds H e a,O⟩
def vals3 {a b c:V} {i:Array az} (h:Vals [a,b,c] i.toList):∃ u v z,i=#[u,v,z]/\RelV a u/\RelV b v/\RelV c z:=by
 obtain ⟨l⟩:=i
 cases h with
 | cons H h=>cases h with
   | cons d h=>cases h with
     | cons e h=>cases h with
       | nil=>exact ⟨_,_,_,rfl,H,d,e⟩
end
section
variable {X:Cx} {C:am} {m x:Str} {p pos apos:Pos} {e o:Expr} {es:List Expr} {ta:TE} {t:TA} {k:Nat} {ps:cZ} {sp:Sp} {iG:aB}
def FR {pl:Sem Bool} (b:PE X o ta) (c:yG X.K C) (D:zn X.prog X.w X.K X.mg X.base C m k ps iG sp) (d:c8 k X.A) (H:PA X (e::es) t) (j:autoParam (CU X e es) za_._auto_1) (h:autoParam (Eu X es pos) za_._auto_1) (g:autoParam (eval (.Call (.Attribute o m apos) (e::es) [] pos) X.env=(do
     let O <- eval o X.env
     standAt apos.atName
     let (f,first) <- holding [O] (getMethod O m pl)
     callWith pos f first (backTo pos (starEach (e::es) X.env)) (backToKw pos (keywordEach [] X.env)))) za_._auto_1) :
   PE X (.Call (.Attribute o m apos) (e::es) [] pos) (zq C m sp iG E0 ta t):=by
 obtain ⟨i,a,D⟩:=D
 exact aV (pl:=pl) b c D a d H j h g
def FH (M:El X.K C) (D:zn X.prog X.w X.K X.mg X.base C "__init__" k ps iG sp) (f:c8 (k+1) X.A) (d:X.mg x=some (.ref C)) (H:PA X (e::es) t) (c:autoParam (Gl X x) za_._auto_1) (y:autoParam (Ar x) zb_._auto_1) (b:autoParam (CU X e es) za_._auto_1) (h:autoParam (Eu X es pos) za_._auto_1):PE X (.Call (.Name x p) (e::es) [] pos) (EN C sp iG E0 t):=by
 obtain ⟨g,a,D⟩:=D
 exact pK M D a f d H c y b h
def zf (D:KU X.prog X.w X.K X.mg X.base x k ps iG sp) (d:c8 k X.A) (H:PA X (e::es) t) (c:autoParam (Gl X x) za_._auto_1) (y:autoParam (Ar x) zb_._auto_1) (b:autoParam (CU X e es) za_._auto_1) (h:autoParam (Eu X es pos) za_._auto_1):PE X (.Call (.Name x p) (e::es) [] pos) (CF sp iG E0 t):=by
 obtain ⟨f,a,D⟩:=D
 exact DP D a d H c y b h
end
def dg {X:Cx} {K:aD} {es:List Expr} {k:Nat} {p:Pos} {t:KJ} {n:Nat} (H:X.K=K) (a:X.calm=true) (h:Nd X es t) (b:autoParam ((assignEach es X.env).length=n) za_._auto_1) (j:autoParam ((assignEach es X.env).findIdx? (·.1)=none) za_._auto_1):PG X (.Tuple es k p) (QH K n t):=by
 subst H
 exact L7 a h b j
end L2
namespace PySem
open Sem (wp)
end PySem
namespace L2
open PySem PySem.Spec PyProof.Rows Mth
variable {elt iter tg:Expr} {g:TG} {ifs:List Expr} {py HK:Pos} {te:TE} {yi:Nat}
def Il:bootBuiltins "dict" = some (.type "dict"):=by decide +kernel
section
variable {X:Cx}
def HH {y:Str} {S:Scope} {p:Pos} {w:TI} {t:TT} {N':cZ} {n:Nat} {sl:aR} (W:X.calm=true) (hi:PI X tg iter w) (hg:∀ cl C s H ex,PG (cF X N' S cl C s H ex) tg g) (ht:∀ cl C s H ex,Kh (cF X N' S cl C s H ex) ifs t) (Y:∀ cl C s H ex,PE (cF X N' S cl C s H ex) elt te) (G:N'.length=n+sl.length) (B:∀ k j:Nat,sl[k]?=some j->∃ x,N'[n+k]?=some x/\X.N[j]?=some x/\S.names.lookup x=some .free) (hk:S.kind = .function) (O:∀ y∈S.names,y.2 ≠ .cell) (kM:∀ y∈S.names,y.2 = .local->S.names.lookup y.1=some .local) (jT:∀ y∈S.names,y.2 = .free->X.env.kindOf y.1=some .cell\/X.env.kindOf y.1=some .free) (Q:X.N.Nodup) (T:X.N[yi]?=some y) (hy:Loc X.env.scope y) (hf:X.fn y=true\/X.env.scope.names.lookup y=some .local) (K:swapsWith (.ListComp elt [⟨tg,iter,ifs,0⟩] S p) (some (.Name y py)) HK.line X.env=pure true) (hs:∀ x,foldedSetIterable iter X.env x=pure x:=by intro Z;rfl) :
   PS X (.Assign [.Name y py] (.ListComp elt [⟨tg,iter,ifs,0⟩] S p) HK) (FN (zE w g t te n sl) (uM yi)):=by
 intro f s U H D I h
 rw [exec_Assign_Name_used _ _ _ _ K]
 refine aah (wpAny_standAt (aah ?_))
 show wpAny _ X.A (do let _ <- comprehension (.ListComp elt [⟨tg,iter,ifs,0⟩] S p) S X.env _ (newList []) false (eval iter X.env) (some (assign (.Name y py) X.env))) _ _ s
 refine aah (abx (vP (use:=some (assign (.Name y py) X.env)) (Qp:=λ Z l=>SP X f D .next l) W hi hg ht Y G B hk O kM jT hs I h λ s6 u d c m J F hn q=>?_)
   (λ Z l hq=>aaB (aaB hq)) λ Z Z e=>e)
 refine wpAny_assign_Name (wa (v:=.ref d) J Q T hy rfl (λ s7 E ⟨a,i,R⟩=>?_) hf)
 have na:c≠a:=λ z=>by
   rcases R with q|q
   . exact F.2.1 (z.trans q)
   . exact F.2.2.2.2.1 _ a q z.symm
 refine ⟨m,?_,λ h' sb=>?_⟩
 . obtain ⟨o,M,L,ho,r⟩:=hn
   exact ⟨o,M,L,(i.2 _ na).trans ho,r⟩
 . exact ⟨_,u,E.turned (t':=s7.toks) (λ b Z V q=>(sb.2 b V).trans q) F.1 F.2.1 F.2.2.2.1 F.2.2.2.2.1 F.2.2.2.2.2,q⟩
def rG {y:Str} {S:Scope} {p:Pos} {w:TI} {l:TT} (T f:cZ) (sl:aR) (a:Paired (λ (j:Nat) (x:Str)=>X.N[j]?=some x/\S.names.lookup x=some .free/\(X.env.kindOf x=some .cell\/X.env.kindOf x=some .free)) sl f) (u:X.calm=true) (B:PI X tg iter w) (A:∀ cl C s H ex,PG (cF X (T++f) S cl C s H ex) tg g) (I:∀ cl C s H ex,Kh (cF X (T++f) S cl C s H ex) ifs l) (v:∀ cl C s H ex,PE (cF X (T++f) S cl C s H ex) elt te) (q:X.N.Nodup) (d:Loc X.env.scope y) (D:autoParam (S.kind = .function) za_._auto_1) (G:autoParam (∀ y∈S.names,y.2 ≠ .cell) zc_._auto_1) (L:autoParam (∀ y∈S.names,y.2 = .local->S.names.lookup y.1=some .local) zc_._auto_1) (J:autoParam (∀ y∈S.names,y.2 = .free->y.1∈f) zc_._auto_1) (n:autoParam (X.N[yi]?=some y) za_._auto_1) (m:autoParam (swapsWith (.ListComp elt [⟨tg,iter,ifs,0⟩] S p) (some (.Name y py)) HK.line X.env=pure true) za_._auto_1) (b:autoParam (X.fn y=true\/X.env.scope.names.lookup y=some .local) zd_._auto_1) (F:∀ x,foldedSetIterable iter X.env x=pure x:=by intro Z;rfl) :
   PS X (.Assign [.Name y py] (.ListComp elt [⟨tg,iter,ifs,0⟩] S p) HK) (FN (zE w g l te T.length sl) (uM yi)):=by
 have K:∀ {sl:aR} {f:cZ},Paired (λ (j:Nat) (x:Str)=>X.N[j]?=some x/\S.names.lookup x=some .free/\(X.env.kindOf x=some .cell\/X.env.kindOf x=some .free)) sl f ->
     (∀ k j:Nat,sl[k]?=some j->∃ x,f[k]?=some x/\X.N[j]?=some x/\S.names.lookup x=some .free)/\∀ x∈f,X.env.kindOf x=some .cell\/X.env.kindOf x=some .free:=by
   intro sl f a
   induction a with
   | nil=>exact ⟨λ k j h=>by simp at h,λ x c=>by simp at c⟩
   | cons r t i =>
     refine ⟨λ k j h=>?_,λ x c=>?_⟩
     . cases k with
       | zero =>
         have e:_=j:=aao h
         subst e
         exact ⟨_,rfl,r.1,r.2.1⟩
       | succ k=>exact i.1 k j (by simpa using h)
     . rcases aaa.mp c with z|z
       . rw [z];exact r.2.2
       . exact i.2 x z
 refine HH (N':=T++f) u B A I v (by rw [aab,a.length]) (λ k j h=>?_) D G L (λ y d b=>(K a).2 _ (J y d b)) q n d b m F
 obtain ⟨x,E,o⟩:=(K a).1 k j h
 exact ⟨x,by rw [aaO (abS _ _),adW];exact E,o⟩
end
abbrev cm:=Int×Int
structure ar where
 most:Int
 fR:Int
 load:Int
 rows:List (List cm)
 cg:Int->Int->Option cm
 bS:List (cm×cm×cm)
 bw:List (Option (cm×Int×Int×Int))
abbrev o5 (s:cm×cm×cm):PyData:=.tuple [dJ s.1,dJ s.2.1,dJ s.2.2]
abbrev fu:Option (cm×Int×Int×Int)->PyData
 | none => .none
 | some s => .tuple [dJ s.1,.int s.2.1,.int s.2.2.1,.int s.2.2.2]
abbrev vC (r:List cm):PyData:=.tuple (r.map dJ)
def sW (m:ar) (a p b c:am):List (Str×V) :=
 [("most",.int m.most),("cap",.int m.fR),("load",.int m.load),("mark_rows",.ref a),("flows",.ref p),("skies",.ref b),("stoves",.ref c)]
section
variable (m:ar) (pm pf ps pt:am)
def yy:(sW m pm pf ps pt).lookup ("most" : Str)=some (.int m.most):=by rfl
def BO:(sW m pm pf ps pt).lookup ("cap" : Str)=some (.int m.fR):=by rfl
def FK:(sW m pm pf ps pt).lookup ("load" : Str)=some (.int m.load):=by rfl
def tp:(sW m pm pf ps pt).lookup ("mark_rows" : Str)=some (.ref pm):=by rfl
def qG:(sW m pm pf ps pt).lookup ("flows" : Str)=some (.ref pf):=by rfl
def j3:(sW m pm pf ps pt).lookup ("skies" : Str)=some (.ref ps):=by rfl
def oh:(sW m pm pf ps pt).lookup ("stoves" : Str)=some (.ref pt):=by rfl
end
def nO (K:aD) (H:Hp):Option cm->eG->Prop
 | none,none=>True
 | some f,some v=>Dn K H (dJ f) v
 | _,_=>False
abbrev jj (i j:Int):List Key:=[.inl i,.inl j]
def vL (a:List (List Key×V)):Prop:=(a.map (·.1)).Nodup/\∀ p∈a,∃ i j:Nat,i<4/\j<4/\p.1=jj i j
end L2
namespace Mth
def nf (t b:Int):Int×Int:=(t.fdiv (Int.gcd t b:Nat),b.fdiv (Int.gcd t b:Nat))
def sN {r q s:Int} (h:r ∣ q * s) (c:Int.gcd q r=1):r ∣ s:=by
 have H:r.natAbs ∣ q.natAbs * s.natAbs:=by rw [<- acI];exact ad7.mpr h
 have a:Nat.Coprime r.natAbs q.natAbs:=by rw [Nat.coprime_comm];exact c
 exact ad7.mp (Nat.Coprime.dvd_of_dvd_mul_left a H)
def Fr.uniq {t b q r Q r':Int} (H:b≠0) (h:Fr t b q r) (k:Fr t b Q r'):q=Q/\r=r':=by
 have e:q * r'=Q * r:=by
   have E:(q * r') * b=(Q * r) * b:=by
     have a:=h.jV
     have A:=k.jV
     calc (q * r') * b=(q * b) * r':=by rw [aaT]
       _=(t * r) * r':=by rw [a]
       _=(t * r') * r:=by rw [aaT]
       _=(Q * b) * r:=by rw [A]
       _=(Q * r) * b:=by rw [aaT]
   exact abr H E
 have d:r ∣ r':=by
   have:r ∣ q * r':=⟨Q,by rw [e,ach]⟩
   exact sN this h.RX
 have D:r' ∣ r:=by
   have:r' ∣ Q * r:=⟨q,by rw [<- e,ach]⟩
   exact sN this k.RX
 have c:r=r':=Int.dvd_antisymm (aba h.pos) (aba k.pos) d D
 subst c
 exact ⟨abr (ab0 h.pos) e,rfl⟩
def hJ {t b:Int} (h:0<b):Fr t b (nf t b).1 (nf t b).2:=(JE (ab0 h) rfl).2.2.1 h
theorem Fr.nf {t b q r:Int} (H:0<b) (h:Fr t b q r):(q,r)=nf t b:=by
 obtain ⟨e,E⟩:=h.uniq (ab0 H) (hJ H)
 rw [e,E]
def mD (x y:Int×Int):Int×Int:=nf (x.1 * y.2+y.1 * x.2) (x.2 * y.2)
def nP (x y:Int×Int):Int×Int:=nf (x.1 * y.2 - y.1 * x.2) (x.2 * y.2)
def aX (x y:Int×Int):Bool:=decide (x.1 * y.2<y.1 * x.2)
structure eB (n:Nat) (f:Int×Int):Prop where
 t:Bd n f.1
 b:Bd n f.2
 p:0<f.2
theorem eB.mono {m n:Nat} {f:Int×Int} (h:eB m f) (l:m<=n):eB n f:=⟨h.t.mono l,h.b.mono l,h.p⟩
def eB.minus {m n:Nat} {x y:Int×Int} (h:eB m x) (k:eB n y):eB (m+n+1) (nP x y):=by
 have F:=hJ (t:=x.1 * y.2 - y.1 * x.2) (b:=x.2 * y.2) (aaK h.p k.p)
 have B:Bd (m+n) (x.1 * y.2):=h.t.mul k.b
 have a:Bd (m+n) (y.1 * x.2):=by rw [acC];exact k.t.mul h.b
 exact ⟨F.Oa (B.sub a),F.Pj ((h.b.mul k.b).mono (acb _)),F.pos⟩
def eB.plus {m n:Nat} {x y:Int×Int} (h:eB m x) (k:eB n y):eB (m+n+1) (mD x y):=by
 have F:=hJ (t:=x.1 * y.2+y.1 * x.2) (b:=x.2 * y.2) (aaK h.p k.p)
 have B:Bd (m+n) (x.1 * y.2):=h.t.mul k.b
 have a:Bd (m+n) (y.1 * x.2):=by rw [acC];exact k.t.mul h.b
 exact ⟨F.Oa (B.add a),F.Pj ((h.b.mul k.b).mono (acb _)),F.pos⟩
def Gp:eB 100 (0,1):=⟨(by decide:(_:Int).natAbs<_),(by decide:(_:Int).natAbs<_),by decide⟩
def wQ:eB 100 (1,1):=⟨(by decide:(_:Int).natAbs<_),(by decide:(_:Int).natAbs<_),by decide⟩
end Mth
namespace L2
open PySem PySem.Spec PyProof.Rows Mth
variable {H H':Hp} {u:HO} {v:V}
structure ar.Wf (m:ar):Prop where
 rows:∀ r∈m.rows,∀ f∈r,eB 100 f
 len:∀ r∈m.rows,2<=r.length/\r.length<=7
 cg:∀ i j f,m.cg i j=some f->eB 100 f
 bS:∀ s∈m.bS,eB 100 s.1/\eB 100 s.2.1/\eB 100 s.2.2
 bw:∀ x,some x∈m.bw->eB 100 x.1
structure bv (K:aD) (C:am) (H:Hp) (a:am) (fp:bK) (m:ar):Prop where
 ex:∃ dx pm pf ps pt vm vs vt aE,fp=[a,dx,pm,pf,ps,pt]/\H a=some (.ins C dx (sW m pm pf ps pt))/\H dx=some (.own a)/\H pm=some (.lst vm)/\H pf=some (.dT aE)/\H ps=some (.lst vs)/\H pt=some (.lst vt) /\
   pm≠ps/\pm≠pt/\ps≠pt/\bF K H (m.rows.map vC) vm/\bF K H (m.bS.map o5) vs/\bF K H (m.bw.map fu) vt/\(∀ i j,nO K H (m.cg i j) (gG aE (jj i j)))/\vL aE
 sk:m.bS.length=m.rows.length
 st:m.bw.length=m.rows.length
 mx:m.rows.length<=4
 wf:m.Wf
def gC (f:bK) (H h:Hp):Prop:=∀ b o,H b=some o->b∉f->h b=some o
def ar.j0 (m:ar) (i j:Nat):cm:=(m.cg i j).getD (0,1)
def ar.gE (m:ar) (i:Nat):cm:=((m.bS[i]?).map (·.1)).getD (0,1)
def ar.gz (m:ar) (i n:Nat):cm:=(List.range n).foldl (λ a j=>nP a (m.j0 i j)) (nP (1,1) (m.gE i))
def ar.own (m:ar) (i:Nat):cm:=m.gz i m.rows.length
def ar.share (m:ar) (i j:Nat):cm:=if i=j then m.own i else m.j0 i j
theorem ar.Wf.j0 {m:ar} (w:m.Wf) (i j:Nat):eB 100 (m.j0 i j):=by
 unfold ar.j0
 cases e:m.cg i j with
 | none=>exact Gp
 | some f=>exact w.cg i j f e
theorem ar.Wf.gE {m:ar} (w:m.Wf) (i:Nat):eB 100 (m.gE i):=by
 unfold ar.gE
 cases e:m.bS[i]? with
 | none=>exact Gp
 | some f=>exact (w.bS f (aae e)).1
def ar.nM (m:ar) (i n:Nat):m.gz i (n+1)=nP (m.gz i n) (m.j0 i n):=by
 unfold ar.gz
 rw [aa5,abD];rfl
theorem ar.Wf.gz {m:ar} (w:m.Wf) (i:Nat):∀ n,eB (201+101 * n) (m.gz i n)
 | 0=>(wQ.minus (w.gE i)).mono (by decide)
 | n+1=>by
   rw [ar.nM]
   exact ((w.gz i n).minus (w.j0 i n)).mono (by lia)
section
variable {K:aD} {H:Hp} {v:V}
def Dn.pI {s:cm×cm×cm} (h:Dn K H (o5 s) v):∃ p V a v3,v = .ref p/\bY K H p [V,a,v3]/\Dn K H (dJ s.1) V/\Dn K H (dJ s.2.1) a/\Dn K H (dJ s.2.2) v3:=by
 obtain ⟨p,k,e,q,x,R,c,d,X,j,f,D,i,r,g,b,E⟩:=h
 have E:r=[]:=E
 subst c f g E
 exact ⟨p,x,X,i,e,q,d,D,b⟩
def F6 {s:cm×cm×cm} {p:am} {v a b:V} (q:bY K H p [v,a,b]) (d:Dn K H (dJ s.1) v) (D:Dn K H (dJ s.2.1) a) (c:Dn K H (dJ s.2.2) b):Dn K H (o5 s) (.ref p) :=
 fS q (bo d (bo D (bo c cK)))
def uO (s:cm×cm×cm):eQ (o5 s)=true:=by simp [o5,dJ,eQ]
def uy (s:Option (cm×Int×Int×Int)):eQ (fu s)=true:=by cases s<;>simp [fu,dJ,eQ]
def zX (r:List cm):eQ (vC r)=true:=mG.mpr λ d h=>by
 obtain ⟨f,Z,rfl⟩:=aaJ.mp h
 exact iM f
def Bq.fr {a:am} {f:cm} (h:Bq K a [.int f.1,.int f.2]):Dn K H (dJ f) (.ref a):=jS (h.at H)
end
def aI {a:Type} {l:List a} {i:Nat} (h:i<l.length):l[i]?=some l[i]:=Yb h
def dO {a:Type} {xs:List a} {i:Nat} {v:a} (h:xs[i]?=some v):nQ xs (i:Int)=some v:=cu h
def CQ {K:aD} {o:Option cm} {r:eG} {z:V} (h:nO K H o r) (a:Dn K H (dJ (0,1)) z):Dn K H (dJ (o.getD (0,1))) (r.getD z):=by
 cases o with
 | none=>cases r with
   | none=>exact a
   | some v=>exact (show False from h).elim
 | some f=>cases r with
   | none=>exact (show False from h).elim
   | some v=>exact h
inductive HN (vs:aB) (H:Hp) (Q:VK) (_E:XK):Prop|mk (n g:Int) (_:vs=[.int n,.int g]) (_:Q (.bl (decide (0<=n/\n<=g))) H)
section
variable (K:aD) (C:am)
inductive Ij (vs:aB) (H:Hp) (Q:VK) (_E:XK):Prop|mk (a fp m:_) (_:vs=[.ref a]) (_:bv K C H a fp m) (_:Q (aq m.rows.length) H)
inductive zC (vs:aB) (H:Hp) (Q:VK) (_E:XK):Prop|mk (a fp m:_) (i:Nat) (_:vs=[.ref a,aq i]) (_:bv K C H a fp m) (_:i<m.rows.length) (_:Q .cL H)
inductive MG (vs:aB) (H:Hp) (Q:VK) (_E:XK):Prop|mk (a fp m:_) (i:Nat) (s:_) (_:vs=[.ref a,aq i]) (_:bv K C H a fp m) (_:m.bS[i]?=some s) (_:∀ v,Dn K H (o5 s) v->Q v H)
inductive FM (vs:aB) (H:Hp) (Q:VK) (_E:XK):Prop|mk (a fp m:_) (i:Nat) (s:_) (_:vs=[.ref a,aq i]) (_:bv K C H a fp m) (_:m.bw[i]?=some s) (_:∀ v,Dn K H (fu s) v->Q v H)
inductive FZ (vs:aB) (H:Hp) (Q:VK) (_E:XK):Prop|mk (a fp m:_) (i:Nat) (r:_) (_:vs=[.ref a,aq i]) (_:bv K C H a fp m) (_:m.rows[i]?=some r) (_:∀ p xs,H p=none->bF K H (r.map dJ) xs->Q (.ref p) (upd H p (.lst xs)))
inductive LJ (vs:aB) (H:Hp) (Q:VK) (_E:XK):Prop|mk (a fp m:_) (i:Nat) (_:vs=[.ref a,aq i]) (_:bv K C H a fp m) (_:i<m.rows.length) (_:∀ v H',aG H H'->Dn K H' (dJ (m.own i)) v->Q v H')
inductive Gx (vs:aB) (H:Hp) (Q:VK) (_E:XK):Prop|mk (a fp m:_) (i j:Nat) (_:vs=[.ref a,aq i,aq j]) (_:bv K C H a fp m) (_:i<m.rows.length) (_:j<m.rows.length) (_:∀ v H',aG H H'->Dn K H' (dJ (m.share i j)) v->Q v H')
end
theorem bv.same {K:aD} {C:am} {a:am} {f:bK} {m:ar} (s:aG H H') (h:bv K C H a f m):bv K C H' a f m:=by
 obtain ⟨⟨g,t,r,u,v,V,z,B,A,e,k,J,n,M,I,l,N,o,p,D,b,c,d,F⟩,Q,w,x,y⟩:=h
 refine ⟨⟨g,t,r,u,v,V,z,B,A,e,s _ _ k,s _ _ J,s _ _ n,s _ _ M,s _ _ I,s _ _ l,N,o,p,bF.same s _ D,bF.same s _ b,bF.same s _ c,λ i j=>?_,F⟩,Q,w,x,y⟩
 have:=d i j
 revert this
 cases m.cg i j<;>cases gG A (jj i j)<;>intro q
 . exact q
 . exact q
 . exact q
 . exact Dn.same s _ q
def j9 {n i:Nat} (h:i<n):Ep n (i:Int)=some i:=by
 unfold Ep
 rw [aan (by lia),aan (by lia),aaW]
def pR {x y z t:V}:[x,y,z,t].length<=sizeLine:=by show 4<=sizeLine;decide
def uT {x:V}:[x].length<=sizeLine:=by show 1<=sizeLine;decide
theorem v8 {b:Type} [DecidableEq b]:∀ (l L:List b),l.Nodup->(∀ x∈l,x∈L)->l.length<=L.length
 | [],_,_,_=>aaZ _
 | x::l,L,f,h=>by
   obtain ⟨c,d⟩:=aaP.mp f
   have H:=h x aas
   have:=v8 l (L.erase x) d λ y a=>(List.mem_erase_of_ne (λ e=>c (by rw [<- e];exact a))).mpr (h y (aai _ a))
   rw [List.length_erase_of_mem H] at this
   have g:=List.length_pos_of_mem H
   rw [aaX]
   lia
def IH:List (List Key):=(List.range 4).flatMap λ (i:Nat)=>(List.range 4).map λ (j:Nat)=>jj (i:Int) (j:Int)
def vL.len {a:List (List Key×V)} (h:vL a):a.length<=16:=by
 have:=v8 (a.map (·.1)) IH h.1 λ x d=>by
   obtain ⟨p,c,rfl⟩:=aaJ.mp d
   obtain ⟨i,j,H,b,e⟩:=h.2 p c
   rw [e]
   exact abA.mpr ⟨i,aaD.mpr H,aaJ.mpr ⟨j,aaD.mpr b,rfl⟩⟩
 rw [M1] at this
 exact aax this (by decide)
def vL.put {A:List (List Key×V)} (h:vL A) {i j:Nat} (g:i<4) (l:j<4) (v:V):vL (putK A (jj i j) v):=by
 refine ⟨?_,λ p H=>?_⟩
 .
  cases e:gG A (jj i j) with
  | none=>exact Hv v h.1 e
  | some y =>
    have f:(A.any λ k=>decide (k.1=jj i j))=true:=by
      unfold gG at e
      cases q:A.find? λ k=>decide (k.1=jj i j) with
      | none=>rw [q] at e;cases e
      | some z=>have Q:=List.find?_some q;exact List.any_eq_true.mpr ⟨z,List.mem_of_find?_eq_some q,Q⟩
    unfold putK
    rw [aan f,acs]
    have:((λ x:List Key×V=>x.1) ∘ λ k:List Key×V=>if k.1=jj i j then (k.1,v) else k)=λ x=>x.1:=by
      funext x
      show (if x.1=jj i j then (x.1,v) else x).1=x.1
      split<;>rfl
    rw [this]
    exact h.1
 .
  unfold putK at H
  split at H
  . obtain ⟨z,m,rfl⟩:=aaJ.mp H
    obtain ⟨a,b,c,d,e⟩:=h.2 z m
    refine ⟨a,b,c,d,?_⟩
    split<;>exact e
  .
   rcases aau.mp H with H|H
   . exact h.2 p H
   . have:p=(jj i j,v):=by simpa using H
     subst this
     exact ⟨i,j,g,l,rfl⟩
def Fp {i j I J:Int} (h:jj i j=jj I J):i=I/\j=J:=by
 simp only [jj,adF,Sum.inl.injEq,and_true] at h
 exact h
def ar.kq (m:ar) (i j:Nat) (f:cm):ar:={ m with cg:=λ a b=>if a=(i:Int)/\b=(j:Int) then some f else m.cg a b }
def ar.rj (m:ar) (i:Nat) (s:cm×cm×cm):ar:={ m with bS:=m.bS.set i s }
def ar.j4 (m:ar) (i:Nat) (s:cm×Int×Int×Int):ar:={ m with bw:=m.bw.set i (some s)}
def ar.sZ (m:ar) (r:List cm):ar:={ m with rows:=m.rows++[r],bS:=m.bS++[((0,1),(0,1),(0,1))],bw:=m.bw++[none]}
def ar.new (most fR load:Int):ar:=⟨most,fR,load,[],λ Z Z=>none,[],[]⟩
structure sH (K:aD) (C:am) (H:Hp) (a:am) (fp:bK) (m':ar) (H':Hp) (uW:bK):Prop where
 at_:bv K C H' a uW m'
 but:gC fp H H'
 ts:aQ K H H'
 own:∀ b∈uW,b∈fp\/H b=none
theorem nO.ts {K:aD} (s:aQ K H H'):∀ {o:Option cm} {v:eG},nO K H o v->nO K H' o v
 | none,none,_=>trivial
 | some f,some v,h=>Dn.ts s _ (iM f) h
 | none,some _,h=>h
 | some _,none,h=>h
def mO {K:aD} {rs:List (List cm)} {xs:aB} (s:aQ K H H') (h:bF K H (rs.map vC) xs):bF K H' (rs.map vC) xs:=bF.ts s _ (λ d a=>by obtain ⟨r,Z,rfl⟩:=aaJ.mp a;exact zX r) h
def jW {K:aD} {rs:List (cm×cm×cm)} {xs:aB} (s:aQ K H H') (h:bF K H (rs.map o5) xs):bF K H' (rs.map o5) xs:=bF.ts s _ (λ d a=>by obtain ⟨r,Z,rfl⟩:=aaJ.mp a;exact uO r) h
def iP {K:aD} {rs:List (Option (cm×Int×Int×Int))} {xs:aB} (s:aQ K H H') (h:bF K H (rs.map fu) xs):bF K H' (rs.map fu) xs:=bF.ts s _ (λ d a=>by obtain ⟨r,Z,rfl⟩:=aaJ.mp a;exact uy r) h
def jt (r:List cm):Bool:=(List.zipWith aX r r.tail).all id
def i6 (rs:List (List cm)):Int:=rs.foldl (λ p r=>p * ((r.length:Int) - 1)) 1
section
variable (K:aD) (C:am)
inductive HY (vs:aB) (H:Hp) (Q:VK) (_E:XK):Prop|mk (a fp m:_) (i:Nat) (v1 v2 f g:_) (_:vs=[.ref a,aq i,v1,v2]) (_:bv K C H a fp m) (_:i<m.rows.length) (_:Dn K H (dJ f) v1) (_:Dn K H (dJ g) v2) (_:eB 100 f) (_:eB 100 g) (_:0<=f.1) (_:aX (mD (m.own i) g) f=false) (_:∀ H',aG H H'->Q .cL H')
inductive zg (vs:aB) (H:Hp) (Q:VK) (_E:XK):Prop|mk (a fp m:_) (i j:Nat) (v f:_) (_:vs=[.ref a,aq i,aq j,v]) (_:bv K C H a fp m) (_:i<m.rows.length) (_:j<m.rows.length) (_:i≠j) (_:Dn K H (dJ f) v) (_:eB 100 f) (_:0<=f.1) (_:aX (mD (m.own i) (m.j0 i j)) f=false) (_:∀ H' uW,sH K C H a fp (m.kq i j f) H' uW->Q .cL H')
inductive AH (vs:aB) (H:Hp) (Q:VK) (_E:XK):Prop|mk (a fp m:_) (i:Nat) (v1 v2 v3 f lo hi:_) (_:vs=[.ref a,aq i,v1,v2,v3]) (_:bv K C H a fp m) (_:i<m.rows.length) (_:Dn K H (dJ f) v1) (_:Dn K H (dJ lo) v2) (_:Dn K H (dJ hi) v3) (_:eB 100 f) (_:eB 100 lo) (_:eB 100 hi) (_:aX hi lo=false) (_:0<=f.1) (_:aX (mD (m.own i) (m.gE i)) f=false) (_:∀ H' uW,sH K C H a fp (m.rj i (f,lo,hi)) H' uW->Q .cL H')
inductive oN (vs:aB) (H:Hp) (Q:VK) (_E:XK):Prop|mk (a fp m:_) (i:Nat) (v f:_) (w st fl:Int) (_:vs=[.ref a,aq i,v,.int w,.int st,.int fl]) (_:bv K C H a fp m) (_:i<m.rows.length) (_:Dn K H (dJ f) v) (_:eB 100 f) (_:0<=f.1) (_:(0<=w/\w<=9)) (_:(0<=st/\st<=3)) (_:(0<=fl/\fl<=3)) (_:∀ H' uW,sH K C H a fp (m.j4 i (f,w,st,fl)) H' uW->Q .cL H')
inductive DR (vs:aB) (H:Hp) (Q:VK) (_E:XK):Prop|mk (p xs r:_) (_:vs=[.ref p]) (_:aT K H p xs) (_:bF K H (r.map dJ) xs) (_:(∀ f∈r,eB 100 f)) (_:r.length<=7) (_:∀ H',aG H H'->Q (.bl (jt r)) H')
inductive EW (vs:aB) (H:Hp) (Q:VK) (_E:XK):Prop|mk (p xs rs:_) (_:vs=[.ref p]) (_:aT K H p xs) (_:bF K H (rs.map vC) xs) (_:rs.length<=5) (_:(∀ r∈rs,1<=r.length/\r.length<=7)) (_:Q (.int (i6 rs)) H)
inductive yZ (vs:aB) (H:Hp) (Q:VK) (_E:XK):Prop|mk (a fp m p xs r:_) (_:vs=[.ref a,.ref p]) (_:bv K C H a fp m) (_:m.rows.length<4) (_:aT K H p xs) (_:bF K H (r.map dJ) xs) (_:(∀ f∈r,eB 100 f)) (_:2<=r.length) (_:r.length<=7) (_:jt r=true) (_:i6 (m.rows++[r])<=400) (_:∀ H' uW,sH K C H a fp (m.sZ r) H' uW->Q (aq m.rows.length) H')
inductive CM (vs:aB) (H:Hp) (Q:VK) (_E:XK):Prop|mk (x dx:_) (most fR load:Int) (_:vs=[.ref x,.int most,.int fR,.int load]) (_:H x=some (.ins C dx [])) (_:H dx=some (.own x)) (_:(0<=most/\most<=4)) (_:(0<=fR/\fR<=30)) (_:(0<=load/\load<=30)) (_:∀ H' uW,sH K C H x [x,dx] (ar.new most fR load) H' uW->Q .cL H')
end
def eW {a b:am} {o:HO} (h:H a=some o) (k:H b=some u) (n:o≠u):a≠b:=λ e=>by
 subst e
 rw [h] at k
 exact n (aao k)
def sO {m:ar} {C dx A a p b c E v r R:am} (h:some (HO.ins C dx (sW m a p b c))=some (HO.ins C A (sW m E v r R))):dx=A/\a=E/\p=v/\b=r/\c=R:=by
 simp only [sW,Option.some.injEq,HO.ins.injEq,adF,Prod.mk.injEq,aei,and_true,V.ref.injEq] at h
 exact h
def gC.same {f:bK} (s:aG H H'):gC f H H':=λ b o h Z=>s b o h
theorem gC.upd {f:bK} {p:am} {o:HO} (b:gC f H H') (a:p∈f):gC f H (upd H' p o):=λ c u h n=>by
 rw [aw (λ e=>n (by rw [e];exact a))]
 exact b c u h n
section
variable {K:aD} {C:am} {H H1:Hp} {a:am} {fp:bK} {m:ar}
def Dj {dx pm p ps pt:am} {A:List (List Key×V)} {i j:Nat} {f:cm} (O:bv K C H a fp m) (s:aG H H1) (L:H a=some (.ins C dx (sW m pm p ps pt))) (Y:H p=some (.dT A)) (Q:i<4) (R:j<4) (d:Dn K H1 (dJ f) v) (o:eB 100 f):sH K C H a fp (m.kq i j f) (upd H1 p (.dT (putK A (jj i j) v))) fp:=by
 obtain ⟨⟨u,E,l,rE,rH,vm,vs,vt,M,r,y,X,W,k,S,U,n1,n2,n3,x,B,F,D,G⟩,q1,q2,q3,q⟩:=O
 obtain ⟨rfl,rfl,rfl,rfl,rfl⟩:=sO (y.symm.trans L)
 obtain rfl:M=A:=by
   have:=k.symm.trans Y
   injection this with e
   injection e
 have T:aQ K H1 (upd H1 l (.dT (putK M (jj i j) v))):=bT (s _ _ k) rfl
 have t:=(aG.ts (K:=K) s).trans T
 have w:∀ {b o},H b=some o->o ≠ .dT M->(upd H1 l (.dT (putK M (jj i j) v))) b=some o:=λ h n=>by
   rw [aw (eW h k n)]
   exact s _ _ h
 refine ⟨⟨⟨u,E,l,rE,rH,vm,vs,vt,putK M (jj i j) v,r,w y nofun,w X nofun,w W nofun,af,w S nofun,w U nofun,n1,n2,n3,mO t x,jW t B,iP t F,λ I J=>?_,G.put Q R v⟩,q1,q2,q3,⟨q.rows,q.len,λ I J g c=>?_,q.bS,q.bw⟩⟩,(gC.same s).upd (by rw [r];simp),t,λ b N => .inl N⟩
 .
  rw [G0]
  by_cases e:I=(i:Int)/\J=(j:Int)
  . show nO K _ (if I=(i:Int)/\J=(j:Int) then some f else m.cg I J) _
    rw [aan e,aan (by rw [e.1,e.2])]
    exact Dn.ts T _ (iM f) d
  . show nO K _ (if I=(i:Int)/\J=(j:Int) then some f else m.cg I J) _
    rw [aap e,aap (λ z=>e (Fp z))]
    exact (D I J).ts t
 .
  have c:(if I=(i:Int)/\J=(j:Int) then some f else m.cg I J)=some g:=c
  split at c
  . cases c
    exact o
  . exact q.cg I J g c
def FS {dx X W p pt:am} {vs:aB} {i:Nat} {z:cm×cm×cm} (G:bv K C H a fp m) (s:aG H H1) (x:H a=some (.ins C dx (sW m X W p pt))) (I:H p=some (.lst vs)) (d:Dn K H1 (o5 z) v) (o:eB 100 z.1/\eB 100 z.2.1/\eB 100 z.2.2):sH K C H a fp (m.rj i z) (upd H1 p (.lst (vs.set i v))) fp:=by
 obtain ⟨⟨A,E,vZ,r,rH,vm,V,vt,S,R,Y,j,O,f,D,M,N,U,c,k,l,u,g,F⟩,q1,q2,q3,q⟩:=G
 obtain ⟨rfl,rfl,rfl,rfl,rfl⟩:=sO (Y.symm.trans x)
 obtain rfl:V=vs:=by
   have:=D.symm.trans I
   injection this with e
   injection e
 have T:aQ K H1 (upd H1 r (.lst (V.set i v))):=bT (s _ _ D) rfl
 have t:=(aG.ts (K:=K) s).trans T
 have w:∀ {b o},H b=some o->b≠r->(upd H1 r (.lst (V.set i v))) b=some o:=λ h n=>by
   rw [aw n]
   exact s _ _ h
 refine ⟨⟨⟨A,E,vZ,r,rH,vm,V.set i v,vt,S,R,w Y (eW Y I nofun),w j (eW j I nofun),w O N,w f (eW f I nofun),af,w M c.symm,N,U,c,mO t k,?_,iP t u,λ L Q=>(g L Q).ts t,F⟩,?_,q2,q3,⟨q.rows,q.len,q.cg,λ y J=>?_,q.bw⟩⟩,(gC.same s).upd (by rw [R];simp),t,λ b B => .inl B⟩
 . show bF K _ ((m.bS.set i z).map o5) _
   rw [adx]
   exact bF.set (i:=i) (jW t l) (Dn.ts T _ (uO z) d)
 . show (m.bS.set i z).length=_
   rw [abc];exact q1
 . rcases adK J with h|h
   . exact q.bS y h
   . rw [h];exact o
def Bk {dx pm X ps p:am} {V:aB} {i:Nat} {z:cm×Int×Int×Int} (L:bv K C H a fp m) (s:aG H H1) (B:H a=some (.ins C dx (sW m pm X ps p))) (I:H p=some (.lst V)) (d:Dn K H1 (fu (some z)) v) (o:eB 100 z.1):sH K C H a fp (m.j4 i z) (upd H1 p (.lst (V.set i v))) fp:=by
 obtain ⟨⟨A,E,vZ,rE,r,vm,vI,G,U,R,Y,j,Q,g,D,c,W,N,f,l,u,x,k,F⟩,q1,q2,q3,q⟩:=L
 obtain ⟨rfl,rfl,rfl,rfl,rfl⟩:=sO (Y.symm.trans B)
 obtain rfl:G=V:=by
   have:=c.symm.trans I
   injection this with e
   injection e
 have T:aQ K H1 (upd H1 r (.lst (G.set i v))):=bT (s _ _ c) rfl
 have t:=(aG.ts (K:=K) s).trans T
 have w:∀ {b o},H b=some o->b≠r->(upd H1 r (.lst (G.set i v))) b=some o:=λ h n=>by
   rw [aw n]
   exact s _ _ h
 refine ⟨⟨⟨A,E,vZ,rE,r,vm,vI,G.set i v,U,R,w Y (eW Y I nofun),w j (eW j I nofun),w Q N,w g (eW g I nofun),w D f,af,W,N,f,mO t l,jW t u,?_,λ O S=>(k O S).ts t,F⟩,q1,?_,q3,⟨q.rows,q.len,q.cg,q.bS,λ y M=>?_⟩⟩,(gC.same s).upd (by rw [R];simp),t,λ b J => .inl J⟩
 . show bF K _ ((m.bw.set i (some z)).map fu) _
   rw [adx]
   exact bF.set (i:=i) (iP t x) (Dn.ts T _ (uy (some z)) d)
 . show (m.bw.set i (some z)).length=_
   rw [abc];exact q2
 . rcases adK M with h|h
   . exact q.bw y h
   . cases h;exact o
end
def E7 (xs:aB):oU xs (some 1) none=xs.tail:=by
 have e:HT.oI xs.length 0 (some 1)=min 1 xs.length:=HT.Jy _ _ 1
 unfold oU
 rw [e,HT.FA]
 cases xs with
 | nil=>rfl
 | cons x l =>
   have:min 1 (x::l).length=1:=by simp
   rw [this]
   simp
def aG.put {D:am} {o:HO} (s:aG H H') (h:H D=none):aG H (upd H' D o):=λ b u e=>by
 rw [aw (aA e h)]
 exact s b u e
def ku {r:List cm} {i:Nat} {x y:cm} (h:r[i]?=some x) (H:r[i+1]?=some y):(List.zipWith aX r r.tail)[i]?=some (aX x y):=by
 rw [List.getElem?_zipWith,h]
 have:r.tail[i]?=some y:=by rw [ael];exact H
 rw [this]
section
variable {K:aD} {C:am} {H H1:Hp} {a:am} {fp:bK} {m:ar}
def DI {dx B M l t p E q N:am} {O vs U:aB} {r:List cm} (hh:bv K C H a fp m) (s:aG H H1) (ha:H a=some (.ins C dx (sW m B M l t))) (ig:H B=some (.lst O)) (I:H l=some (.lst vs)) (g:H t=some (.lst U)) (u:H p=none) (vj:H1 p=some (.lst (O++[.ref E]))) (dr:Dn K H1 (vC r) (.ref E)) (nJ:m.rows.length<4) (hr:∀ f∈r,eB 100 f) (hl:2<=r.length/\r.length<=7) (D:∀ H',Dn K H' (dJ (0,1)) (.ref N)) (vw:upd H1 a (.ins C dx (aP "mark_rows" (.ref p) (sW m B M l t))) q=none) :
   ∃ uW,sH K C H a fp (m.sZ r) (upd (upd (upd (upd H1 a (.ins C dx (aP "mark_rows" (.ref p) (sW m B M l t)))) q (.tup [.ref N,.ref N,.ref N])) l (.lst (vs++[.ref q]))) t (.lst (U++[.cL]))) uW:=by
 obtain ⟨⟨A,Ex,V,R,c,Ze,v,G,m7,rq,Y,J,Tk,w,Dg,Hs,n1,n2,F,dm,ds,dt,df,fk⟩,q1,q2,q3,Q⟩:=hh
 obtain ⟨rfl,rfl,rfl,rfl,rfl⟩:=sO (Y.symm.trans ha)
 obtain rfl:Ze=O:=by
   have:=Tk.symm.trans ig
   injection this with e
   injection e
 obtain rfl:v=vs:=by
   have:=Dg.symm.trans I
   injection this with e
   injection e
 obtain rfl:G=U:=by
   have:=Hs.symm.trans g
   injection this with e
   injection e
 let H2:=upd H1 a (.ins C A (aP "mark_rows" (.ref p) (sW m Ex V R c)))
 let H3:=upd H2 q (.tup [.ref N,.ref N,.ref N])
 let H4:=upd H3 R (.lst (v++[.ref q]))
 let H5:=upd H4 c (.lst (G++[.cL]))
 have W:∀ {b o},H1 b=some o->b≠a->H2 b=some o:=λ h n=>by show upd _ _ _ _=_;rw [aw n];exact h
 have S:aG H2 H3:=ak vw
 have na:H2 a=some (.ins C A (aP "mark_rows" (.ref p) (sW m Ex V R c))):=af
 have Qz:=eW Y I nofun
 have RP:=eW Y g nofun
 have OD:H2 R=some (.lst v):=W (s _ _ I) Qz.symm
 have Ux:H2 c=some (.lst G):=W (s _ _ g) RP.symm
 have W6:=S _ _ OD
 have Xa:=S _ _ Ux
 have Wt:H4 c=some (.lst G):=by show upd _ _ _ _=_;rw [aw F.symm];exact Xa
 have QQ:aQ K H1 H2:=bT (s _ _ Y) rfl
 have T:aQ K H3 H4:=bT W6 rfl
 have RG:aQ K H4 H5:=bT Wt rfl
 have YD:=T.trans RG
 have Z4:=QQ.trans ((aG.ts S).trans YD)
 have k:=(aG.ts (K:=K) s).trans Z4
 have X:∀ {b o},H2 b=some o->b≠R->b≠c->H5 b=some o:=λ h x y=>by
   show upd _ _ _ _=_
   rw [aw y]
   show upd _ _ _ _=_
   rw [aw x]
   exact S _ _ h
 have wo:∀ {b o},H b=some o->b≠a->b≠R->b≠c->H5 b=some o:=λ h x y z=>X (W (s _ _ h) x) y z
 have L:p≠a:=(aA Y u).symm
 have YQ:p≠R:=(aA I u).symm
 have Zn:p≠c:=(aA g u).symm
 have ab:q≠R:=(aA OD vw).symm
 have Uf:H5 R=some (.lst (v++[.ref q])):=by
   show upd _ _ _ _=_
   rw [aw F]
   exact af
 refine ⟨[a,A,p,V,R,c],⟨⟨A,p,V,R,c,Ze++[.ref E],v++[.ref q],G++[.cL],m7,rfl,?_,wo J (eW J Y nofun) (eW J I nofun) (eW J g nofun),X (W vj L) YQ Zn,wo w (eW w Y nofun) (eW w I nofun) (eW w g nofun),Uf,af,YQ,Zn,F,?_,?_,?_,λ i j=>(df i j).ts k,fk⟩,?_,?_,?_,?_⟩,?_,k,?_⟩
 . exact X na Qz RP
 . show bF K H5 ((m.rows++[r]).map vC) _
   rw [aaf]
   exact (mO k dm).snoc (Dn.ts Z4 _ (zX r) dr)
 . show bF K H5 ((m.bS++[((0,1),(0,1),(0,1))]).map o5) _
   rw [aaf]
   exact (jW k ds).snoc (Dn.ts YD _ (uO _) (F6 (s:=((0,1),(0,1),(0,1))) (bY.of af) (D _) (D _) (D _)))
 . show bF K H5 ((m.bw++[none]).map fu) _
   rw [aaf]
   exact (iP k dt).snoc rfl
 . show (m.bS++[_]).length=(m.rows++[r]).length
   rw [aab,aab,q1];rfl
 . show (m.bw++[_]).length=(m.rows++[r]).length
   rw [aab,aab,q2];rfl
 . show (m.rows++[r]).length<=4
   rw [aab];exact nJ
 .
  refine ⟨λ x d=>?_,λ x d=>?_,Q.cg,λ x d=>?_,λ x d=>?_⟩
  . rcases aau.mp d with h|h
    . exact Q.rows x h
    . rw [aac.mp h];exact hr
  . rcases aau.mp d with h|h
    . exact Q.len x h
    . rw [aac.mp h];exact hl
  . rcases aau.mp d with h|h
    . exact Q.bS x h
    . rw [aac.mp h];exact ⟨Gp,Gp,Gp⟩
  . rcases aau.mp d with h|h
    . exact Q.bw x h
    . cases aac.mp h
 .
  intro b o h n
  rw [rq] at n
  simp only [aaa,aad,aaR,abJ] at n
  exact wo h n.1 n.2.2.2.2.1 n.2.2.2.2.2
 .
  intro b hb
  rw [rq]
  simp only [aaa,aad,aaR] at hb |-
  rcases hb with rfl|rfl|rfl|rfl|rfl|rfl
  . exact .inl (.inl rfl)
  . exact .inl (.inr (.inl rfl))
  . exact .inr u
  . exact .inl (.inr (.inr (.inr (.inl rfl))))
  . exact .inl (.inr (.inr (.inr (.inr (.inl rfl)))))
  . exact .inl (.inr (.inr (.inr (.inr (.inr rfl)))))
end
structure kn (K:aD) (C x dx:am) (H H':Hp) (fs:List (Str×V)):Prop where
 st:∀ b o,H b=some o->b≠x->H' b=some o
 ts:aQ K H H'
 at_:H' x=some (.ins C dx fs)
section
variable {K:aD} {C x dx:am} {H H':Hp} {fs fs':List (Str×V)}
def kn.start (h:H x=some (.ins C dx fs)):kn K C x dx H H fs:=⟨λ Z Z h Z=>h,aQ.refl _,h⟩
def kn.put (B:kn K C x dx H H' fs):kn K C x dx H (upd H' x (.ins C dx fs')) fs':=⟨λ b o h n=>by rw [aw n];exact B.st b o h n,B.ts.trans (bT B.at_ rfl),af⟩
def kn.new {p:am} {o:HO} (B:kn K C x dx H H' fs) (a:H' p=none):kn K C x dx H (upd H' p o) fs:=⟨λ b u h n=>by rw [aw (aA (B.st b u h n) a)];exact B.st b u h n,B.ts.trans (aG.ts (ak a)),by rw [aw (aA B.at_ a)];exact B.at_⟩
def kn.keep {b:am} {o:HO} (B:kn K C x dx H H' fs) (h:H' b=some o) (n:b≠x):(upd H' x u) b=some o:=by rw [aw n];exact h
theorem kn.none {p:am} (B:kn K C x dx H H' fs) (h:H' p=none):H p=Option.none:=by
 cases e:H p with
 | none=>rfl
 | some o =>
   by_cases q:p=x
   . rw [q,B.at_] at h;cases h
   . rw [B.st p o e q] at h;cases h
def kn.ne {p:am} (B:kn K C x dx H H' fs) (h:H' p=Option.none):p≠x:=λ q=>by rw [q,B.at_] at h;cases h
def Cr {a:Type} {p:a->Prop} (x:a) (h:x∈([]:List a)):p x:=absurd h aad
def GC {p d a c:am} {most fR load:Int} (B:kn K C x dx H H' (sW (ar.new most fR load) p d a c)) (q:H x=some (.ins C dx fs')) (j:H dx=some (.own x)) (i:H' p=some (.lst [])) (k:H' d=some (.dT [])) (l:H' a=some (.lst [])) (m:H' c=some (.lst [])) (N:H p=none) (r:H d=none) (s:H a=none) (t:H c=none) (E:p≠a) (f:p≠c) (g:a≠c) :
   sH K C H x [x,dx] (ar.new most fR load) H' [x,dx,p,d,a,c]:=by
 refine ⟨⟨⟨dx,p,d,a,c,[],[],[],[],rfl,B.at_,B.st _ _ j (eW j q nofun),i,k,l,m,E,f,g,rfl,rfl,rfl,λ Z Z=>trivial,aco,Cr⟩,rfl,rfl,aaZ _,⟨Cr,Cr,λ Z Z Z h=>(by cases h),Cr,λ Z h=>absurd h aad⟩⟩,?_,B.ts,?_⟩
 . intro b o h n
   simp only [aaa,aad,aaR,abJ] at n
   exact B.st b o h n.1
 .
  intro b e
  simp only [aaa,aad,aaR] at e |-
  rcases e with rfl|rfl|rfl|rfl|rfl|rfl
  . exact .inl (.inl rfl)
  . exact .inl (.inr rfl)
  . exact .inr N
  . exact .inr r
  . exact .inr s
  . exact .inr t
end
def lt1000 {n:Nat} (h:Nat.ble (n+1) 1000=true):n<1000:=Nat.le_of_ble_eq_true h
def ar.with (m:ar) (x y z:Option Int):ar:={ m with most:=x.getD m.most,fR:=y.getD m.fR,load:=z.getD m.load }
def ar.MN (m:ar):Prop:=(0<=m.most/\m.most<=4)/\(0<=m.fR/\m.fR<=30)/\(0<=m.load/\m.load<=30)
structure mU where
 a:Int
 b:Int
 t:Int
 d:Int
structure mU.Ok (s:mU):Prop where
 a0:1<=s.a
 a1:s.a<=10 ^ 9
 b0:1<=s.b
 b1:s.b<=10 ^ 9
 t0 : -(10 ^ 9)<=s.t
 t1:s.t<=10 ^ 9
 d0:1<=s.d
 d1:s.d<=10 ^ 9
abbrev mU.vs (s:mU):aB:=[.int s.a,.int s.b,.int s.t,.int s.d]
inductive GA (vs:aB) (H:Hp) (Q:VK) (_E:XK):Prop|mk (c:Int) (_:vs=[.int c]) (_:∀ p H' (s:mU),s.Ok->aG H H'->H' p=some (.tup s.vs)->Q (.ref p) H')
def eA (n parts:Int) (s:mU):Int:=n * s.a * s.d+parts * s.t * s.b
def gI (parts:Int) (s:mU):Int:=parts * s.b * s.d
def bg (n parts:Int) (s:mU):cm:=nf (eA n parts s) (gI parts s)
def fY {parts:Int} {s:mU} (h:s.Ok) (H:0<parts):0<gI parts s:=aaK (aaK H (by have:=h.b0;lia)) (by have:=h.d0;lia)
def Iu {x:Int} (h0 : -(10 ^ 9)<=x) (h:x<=10 ^ 9):Bd 30 x:=by show x.natAbs<2 ^ 30;lia
section
variable {s:mU}
def mU.Ok.ba (h:s.Ok):Bd 30 s.a:=Iu (by have:=h.a0;lia) h.a1
def mU.Ok.bb (h:s.Ok):Bd 30 s.b:=Iu (by have:=h.b0;lia) h.b1
def mU.Ok.bt (h:s.Ok):Bd 30 s.t:=Iu h.t0 h.t1
def mU.Ok.bd (h:s.Ok):Bd 30 s.d:=Iu (by have:=h.d0;lia) h.d1
end
def CH {N parts:Int} {s:mU} {n:Nat} (h:s.Ok) (H:0<parts) (g:Bd n N) (B:Bd n parts):eB (n+61) (bg N parts s):=by
 have F:=hJ (t:=eA N parts s) (fY h H)
 have c:Bd (n+60) (N * s.a * s.d):=((g.mul h.ba).mul h.bd).mono (by lia)
 have e:Bd (n+60) (parts * s.t * s.b):=((B.mul h.bt).mul h.bb).mono (by lia)
 have f:Bd (n+60) (gI parts s):=((B.mul h.bb).mul h.bd).mono (by lia)
 exact ⟨(F.Oa (c.add e)).mono (by lia),(F.Pj f).mono (by lia),F.pos⟩
def i7 {x y parts:Int} {s:mU} (h:s.Ok) (b:0<parts):aX (bg x parts s) (bg y parts s)=decide (x<y):=by
 have F:=hJ (t:=eA x parts s) (fY h b)
 have G:=hJ (t:=eA y parts s) (fY h b)
 have H:=fY h b
 have e:(bg x parts s).1 * (bg y parts s).2<(bg y parts s).1 * (bg x parts s).2↔eA x parts s<eA y parts s:=by
   have c:(bg x parts s).1 * gI parts s=eA x parts s * (bg x parts s).2:=F.jV
   have C:(bg y parts s).1 * gI parts s=eA y parts s * (bg y parts s).2:=G.jV
   have p:0<(bg x parts s).2:=F.pos
   have f:0<(bg y parts s).2:=G.pos
   generalize (bg x parts s).1=q at c |-
   generalize (bg x parts s).2=r at c p |-
   generalize (bg y parts s).1=Q at C |-
   generalize (bg y parts s).2=r2 at C f |-
   generalize eA x parts s=T at c |-
   generalize eA y parts s=g at C |-
   generalize gI parts s=B at c C H
   have k:(q * r2) * B=T * (r * r2):=by rw [aaT,c,abt]
   have K:(Q * r) * B=g * (r * r2):=by rw [aaT,C,abt,ach r2 r]
   have R:0<r * r2:=aaK p f
   constructor
   . intro l
     have:=abg l H
     rw [k,K] at this
     exact abj this (aba R)
   . intro l
     have:=abg l R
     rw [<- k,<- K] at this
     exact abj this (aba H)
 unfold aX
 refine ab8.mpr (e.trans ?_)
 have z:0<s.a * s.d:=aaK (by have:=h.a0;lia) (by have:=h.d0;lia)
 unfold eA
 rw [abt x,abt y]
 constructor
 . intro l
   exact abj (by lia:x * (s.a * s.d)<y * (s.a * s.d)) (aba z)
 . intro l
   have:=abg l z
   lia
structure StI (z:Int×Int×Int×Int):Prop where
 h:0<=z.1/\z.1<=25
 w:0<=z.2.1/\z.2.1<=9
 s:0<=z.2.2.1/\z.2.2.1<=3
 f:0<=z.2.2.2/\z.2.2.2<=3
def cW (H:Hp) (L:bK):Hp:=λ b=>if b∈L then none else H b
section
variable {K:aD} {H H':Hp} {L:bK} {a:am} {o:HO}
def ie:aG (cW H L) H:=λ b u h=>by
 unfold cW at h
 split at h
 . cases h
 . exact h
def i9 (h:H a=some o) (n:a∉L):cW H L a=some o:=by unfold cW;rw [aap n];exact h
def mN (h:a∈L):cW (upd H a o) L=cW H L:=by
 funext b
 unfold cW
 split
 . rfl
 . rename_i n
   rw [aw (λ e=>n (by rw [e];exact h))]
def pP (s:aG H H'):aG (cW H L) (cW H' L):=λ b u h=>by
 unfold cW at h |-
 split at h
 . cases h
 . rename_i n
   rw [aap n]
   exact s b u h
def Be (H:Hp) (L:bK):Prop:=∀ b∈L,∃ o,H b=some o/\zK o=true
def Ml (h:Be H L):aQ K H (cW H L):=λ b x q=>by
 have n:∀ u,H b=some u->zK u=false->b∉L:=λ u e z y=>by
   obtain ⟨o,E,n⟩:=h b y
   rw [e] at E
   cases E
   rw [n] at z
   cases z
 rcases q with (q|⟨O,q⟩)|q
 . exact .inl (.inl (i9 q (n _ q rfl)))
 . exact .inl (.inr ⟨O,i9 q (n _ q rfl)⟩)
 . exact .inr q
end
structure bR where
 marks:List (List Int)
 pI:List (Int×Int×Int)
 bw:List (Option (Int×Int×Int×Int))
 cg:Nat->Nat->Option Int
 scale:mU
 bounds:Int×Int×Int
section
variable {m:bR}
def bR.kq (m:bR) (i j:Nat) (k:Int):bR:={ m with cg:=λ a b=>if a=i/\b=j then some k else m.cg a b }
end
def Ji (l:List Int):Prop:=∀ i x y,l[i]?=some x->l[i+1]?=some y->x<y
structure Os (n:Nat) (l:List Int):Prop where
 two:2<=l.length
 most:l.length<=if n<=2 then 7 else 5
 ris:Ji l
 bd:∀ x∈l,-200<=x/\x<=200
structure bR.Ok (n i:Nat) (m:bR):Prop where
 lm:m.marks.length=i
 ls:m.pI.length=i
 lt:m.bw.length=i
 rows:∀ l∈m.marks,Os n l
 pI:∀ z∈m.pI,(0<=z.1/\z.1<=3)/\(-30<=z.2.1/\z.2.2<=60)/\z.2.1<=z.2.2/\z.2.2<=z.2.1+30
 bw:∀ z,some z∈m.bw->StI z
 cg:∀ a b,a<i->b<n->a≠b->∃ k,m.cg a b=some k/\0<=k/\k<=3
 scale:m.scale.Ok
 bounds:(0<=m.bounds.1/\m.bounds.1<=4)/\(0<=m.bounds.2.1/\m.bounds.2.1<=30)/\(0<=m.bounds.2.2/\m.bounds.2.2<=30)
end L2
namespace Mth
def Ov (W k:Int) (f:Int×Int):Prop:=f.1 * W=k * f.2/\0<f.2
theorem Ov.nf {W k:Int} (h:0<W):Ov W k (nf k W):=by
 have F:=hJ (t:=k) h
 exact ⟨F.jV,F.pos⟩
def Md {W:Int}:Ov W W (1,1):=⟨by show 1 * W=W * 1;lia,by decide⟩
def xE {W:Int}:Ov W 0 (0,1):=⟨by show 0 * W=0 * 1;lia,by decide⟩
def Ov.minus {W a b:Int} {x y:Int×Int} (h:Ov W a x) (k:Ov W b y):Ov W (a - b) (nP x y):=by
 have F:=hJ (t:=x.1 * y.2 - y.1 * x.2) (b:=x.2 * y.2) (aaK h.2 k.2)
 refine ⟨?_,F.pos⟩
 have c:=F.jV
 have H:=h.1
 have d:=k.1
 have p:0<x.2 * y.2:=aaK h.2 k.2
 show (Mth.nf (x.1 * y.2 - y.1 * x.2) (x.2 * y.2)).1 * W=(a - b) * (Mth.nf (x.1 * y.2 - y.1 * x.2) (x.2 * y.2)).2
 generalize (Mth.nf (x.1 * y.2 - y.1 * x.2) (x.2 * y.2)).1=q at c |-
 generalize (Mth.nf (x.1 * y.2 - y.1 * x.2) (x.2 * y.2)).2=r at c |-
 refine abr (ab0 p) ?_
 have e:x.1 * y.2 * W=a * (x.2 * y.2):=by rw [aaT,H,abt]
 have E:y.1 * x.2 * W=b * (x.2 * y.2):=by rw [aaT,d,abt,ach y.2]
 calc q * W * (x.2 * y.2)=(q * (x.2 * y.2)) * W:=by rw [aaT]
   _=(x.1 * y.2 - y.1 * x.2) * r * W:=by rw [c]
   _=((x.1 * y.2 - y.1 * x.2) * W) * r:=by rw [aaT]
   _=(a * (x.2 * y.2) - b * (x.2 * y.2)) * r:=by rw [Int.sub_mul,e,E]
   _=(a - b) * r * (x.2 * y.2):=by rw [<- Int.sub_mul,aaT]
def Ov.plus {W a b:Int} {x y:Int×Int} (h:Ov W a x) (k:Ov W b y):Ov W (a+b) (mD x y):=by
 have F:=hJ (t:=x.1 * y.2+y.1 * x.2) (b:=x.2 * y.2) (aaK h.2 k.2)
 refine ⟨?_,F.pos⟩
 have c:=F.jV
 have H:=h.1
 have d:=k.1
 have p:0<x.2 * y.2:=aaK h.2 k.2
 show (Mth.nf (x.1 * y.2+y.1 * x.2) (x.2 * y.2)).1 * W=(a+b) * (Mth.nf (x.1 * y.2+y.1 * x.2) (x.2 * y.2)).2
 generalize (Mth.nf (x.1 * y.2+y.1 * x.2) (x.2 * y.2)).1=q at c |-
 generalize (Mth.nf (x.1 * y.2+y.1 * x.2) (x.2 * y.2)).2=r at c |-
 refine abr (ab0 p) ?_
 have e:x.1 * y.2 * W=a * (x.2 * y.2):=by rw [aaT,H,abt]
 have E:y.1 * x.2 * W=b * (x.2 * y.2):=by rw [aaT,d,abt,ach y.2]
 calc q * W * (x.2 * y.2)=(q * (x.2 * y.2)) * W:=by rw [aaT]
   _=(x.1 * y.2+y.1 * x.2) * r * W:=by rw [c]
   _=((x.1 * y.2+y.1 * x.2) * W) * r:=by rw [aaT]
   _=(a * (x.2 * y.2)+b * (x.2 * y.2)) * r:=by rw [Int.add_mul,e,E]
   _=(a+b) * r * (x.2 * y.2):=by rw [<- Int.add_mul,aaT]
def Ov.under {W a b:Int} {x y:Int×Int} (H:0<W) (h:Ov W a x) (k:Ov W b y):aX x y=decide (a<b):=by
 unfold aX
 refine ab8.mpr ?_
 have p:0<x.2 * y.2:=aaK h.2 k.2
 have e:x.1 * y.2 * W=a * (x.2 * y.2):=by rw [aaT,h.1,abt]
 have E:y.1 * x.2 * W=b * (x.2 * y.2):=by rw [aaT,k.1,abt,ach y.2]
 constructor
 .
  intro l
  have:=abg l H
  rw [e,E] at this
  exact abj this (aba p)
 .
  intro l
  have:=abg l p
  rw [<- e,<- E] at this
  exact abj this (aba H)
end Mth
namespace L2
open PySem PySem.Spec PyProof.Rows Mth
variable {H:Hp} {elts:List Expr} {ta:TA} {pj:Pos} {x1:Nat}
def sumF (fl:Nat->Nat->Int) (i:Nat):Nat->Int
 | 0=>0
 | t+1=>sumF fl i t+fl i t
structure xV (W:Int) (sk:Nat->Int) (fl:Nat->Nat->Int) (m:ar):Prop where
 pI:∀ i,Ov W (sk i) (m.gE i)
 j0:∀ i j,Ov W (fl i j) (m.j0 i j)
theorem xV.gz {W:Int} {s:Nat->Int} {fl:Nat->Nat->Int} {m:ar} (h:xV W s fl m) (i:Nat):∀ t,Ov W (W - s i - sumF fl i t) (m.gz i t)
 | 0=>by
   have:=(Md (W:=W)).minus (h.pI i)
   have e:W - s i - sumF fl i 0=W - s i:=by show W - s i - 0=_;lia
   rw [e]
   exact this
 | t+1=>by
   rw [ar.nM]
   have:=(h.gz i t).minus (h.j0 i t)
   have e:W - s i - sumF fl i (t+1)=W - s i - sumF fl i t - fl i t:=by show W - s i - (sumF fl i t+fl i t)=_;lia
   rw [e]
   exact this
theorem xV.own {W:Int} {s:Nat->Int} {fl:Nat->Nat->Int} {m:ar} (h:xV W s fl m) (i:Nat):Ov W (W - s i - sumF fl i m.rows.length) (m.own i):=h.gz i _
def xV.xh {W k:Int} {s:Nat->Int} {fl:Nat->Nat->Int} {m:ar} {f:cm} {i:Nat} (H:0<W) (h:xV W s fl m) (a:Ov W k f) (l:k<=W - sumF fl i m.rows.length):aX (mD (m.own i) (m.gE i)) f=false:=by
 rw [((h.own i).plus (h.pI i)).under H a]
 exact aaq (by lia)
def xV.uQ {W k:Int} {s:Nat->Int} {fl:Nat->Nat->Int} {m:ar} {f:cm} {i j:Nat} (H:0<W) (h:xV W s fl m) (a:Ov W k f) (l:k<=W - s i - sumF fl i m.rows.length+fl i j):aX (mD (m.own i) (m.j0 i j)) f=false:=by
 rw [((h.own i).plus (h.j0 i j)).under H a]
 exact aaq (by lia)
def bR.row (t:bR) (l:List Int):List cm:=l.map λ x=>bg x 1 t.scale
def bR.m1 (t:bR) (k:Nat):ar:=((t.marks.take k).map t.row).foldl ar.sZ (ar.new t.bounds.1 t.bounds.2.1 t.bounds.2.2)
def bR.J9 (t:bR) (z:Int×Int×Int):cm×cm×cm:=(nf z.1 12,bg z.2.1 1 t.scale,bg z.2.2 1 t.scale)
def bR.Ck (t:bR) (z:Int×Int×Int×Int):cm×Int×Int×Int:=(nf (z.1 * t.scale.a) t.scale.b,z.2.1,z.2.2.1,z.2.2.2)
def bR.ID (t:bR) (m:ar) (i:Nat):ar:=match t.pI[i]? with|some z=>m.rj i (t.J9 z)|none=>m
def bR.Dp (t:bR) (m:ar) (i:Nat):ar:=match t.bw[i]? with|some (some z)=>m.j4 i (t.Ck z)|_=>m
def bR.Gh (t:bR) (i:Nat) (m:ar) (j:Nat):ar:=if j=i then m else match t.cg i j with|some k=>m.kq i j (nf k 12)|none=>m
def bR.Jo (t:bR) (i:Nat) (m:ar) (j:Nat):ar:=(List.range j).foldl (t.Gh i) m
def bR.GS (t:bR) (n:Nat) (m:ar) (i:Nat):ar:=t.Jo i (t.Dp (t.ID m i) i) n
def bR.m2 (t:bR) (n k:Nat):ar:=(List.range k).foldl (t.GS n) (t.m1 n)
def sH.keep {K:aD} {C:am} {c d:Hp} {a:am} {f u:bK} {m:ar} (S:aG c H) (n:∀ b∈f,c b=none) (D:sH K C H a f m d u):aG c d/\∀ b∈u,c b=none:=by
 refine ⟨λ b o h=>D.but b o (S b o h) λ q=>?_,λ b e=>?_⟩
 . rw [n b q] at h;cases h
 . rcases D.own b e with q|q
   . exact n b q
   . exact S.free q
theorem rA {K:aD}:∀ {l:List Int} {w:aB},bF K H (l.map PyData.int) w->w=l.map V.int
 | [],_,h=>h
 | x::l,_,h=>by
   obtain ⟨y,r,rfl,e,t⟩:=h
   have e:y = .int x:=e
   rw [e,rA t];rfl
def mH {a:Type} (l:List a) (g:a->cm):∀ d∈l.map (λ x=>dJ (g x)),eQ d=true:=λ d h=>by
 obtain ⟨x,Z,rfl⟩:=aaJ.mp h
 exact iM _
def Ov.nonneg {W k:Int} {f:cm} (H:0<W) (h:Ov W k f) (a:0<=k):0<=f.1:=by
 have e:=h.1
 have:0<=f.1 * W:=by rw [e];exact acJ a (aba h.2)
 exact Int.nonneg_of_mul_nonneg_left this H
def GF {t b:Int} (a:0<b) (h:Bd 100 t) (H:Bd 100 b):eB 100 (nf t b):=by
 have F:=hJ (t:=t) a
 exact ⟨F.Oa h,F.Pj H,F.pos⟩
def X9 {x:Int} (h:x.natAbs<2 ^ 100):eB 100 (x,1):=⟨h,wQ.b,wQ.p⟩
def K3:Nat->PyData->Prop
 | _,.none=>True
 | _,.bool _=>True
 | _,.int _=>True
 | n+1,.list D=>∀ d∈D,K3 n d
 | n+1,.tuple D=>∀ d∈D,K3 n d
 | _,_=>False
theorem xa {n:Nat} (h:∀ d,K3 n d->PyData.eqv d d=true/\d.canLay0=true/\d.depth<=n):∀ D:List PyData,(∀ d∈D,K3 n d)->PyData.eqvAll D D=true/\PyData.canLayAll0 D=true/\PyData.depthAll D<=n
 | [],_=>by simp [PyData.eqvAll,PyData.canLayAll0,PyData.depthAll]
 | d::D,k=>by
   obtain ⟨a,b,c⟩:=h d (k d aas)
   obtain ⟨A,B,C⟩:=xa h D (λ e H=>k e (aai _ H))
   simp only [PyData.eqvAll,PyData.canLayAll0,PyData.depthAll,a,b,A,B,Bool.and_self,aei]
   lia
theorem uG:∀ (n:Nat) (d:PyData),K3 n d->PyData.eqv d d=true/\d.canLay0=true/\d.depth<=n
 | n,.none,_=>by simp [PyData.eqv,PyData.canLay0,PyData.depth]
 | n,.bool b,_=>by simp [PyData.eqv,PyData.canLay0,PyData.depth]
 | n,.int i,_=>by simp [PyData.eqv,PyData.canLay0,PyData.depth]
 | n+1,.list D,h=>by
   obtain ⟨a,b,c⟩:=xa (uG n) D h
   simp only [PyData.eqv,PyData.canLay0,PyData.depth,a,b,aei]
   lia
 | n+1,.tuple D,h=>by
   obtain ⟨a,b,c⟩:=xa (uG n) D h
   simp only [PyData.eqv,PyData.canLay0,PyData.depth,a,b,aei]
   lia
 | 0,.list _,h=>h.elim
 | 0,.tuple _,h=>h.elim
 | 0,.str _,h=>h.elim
 | _+1,.str _,h=>h.elim
 | 0,.dict _,h=>h.elim
 | _+1,.dict _,h=>h.elim
def uE {n:Nat} {d:PyData} (h:K3 n d) (H:n<=64):SeqAt.shaped d=true:=by
 obtain ⟨Z,b,c⟩:=uG n d h
 unfold SeqAt.shaped
 rw [b,aaH (aax c H)];rfl
def dX {X:Cx} {K:aD} (h:X.K=K):P6 X (OT K):=by
 subst h
 exact ao
theorem tD:∀ {ns:List Int} {B:bM},Vals (ns.map V.int) B->∃ ys:List (Int×Tok),B=ys.map (λ p=>Value.int p.1 p.2)/\ys.map (·.1)=ns
 | [],B,r=>by cases r;exact ⟨[],rfl,rfl⟩
 | n::ns,B,r=>by
   cases r with
   | cons a b =>
     obtain ⟨t,rfl⟩:=a
     obtain ⟨ys,rfl,e⟩:=tD b
     exact ⟨(n,t)::ys,rfl,by rw [aaS,e]⟩
section
variable {X:Cx}
def DY (b:X.calm=true):jg X (.builtin "sum") (λ xs H Q=>∃ (p:am) (ns:List Int),xs=[.ref p]/\aT X.K H p (ns.map V.int)/\∀ r:Int,r=ns.sum->Q (.int r) H):=by
 intro a s U H xs k Q I r h
 obtain ⟨p,ns,rfl,f,q⟩:=h
 obtain ⟨u,rfl,R⟩:=vals1 r
 obtain rfl:u=Value.ref p:=R
 obtain ⟨B,i,g,Z⟩:=I.list f
 obtain ⟨y,rfl,e⟩:=tD i
 have d:s.heap.IsList p (intItems y.toArray):=by have:=g.isList;simpa [intItems] using this
 refine sum_intListG (I.ok.hd b) d λ j T t c=>?_
 refine ⟨.int _,H,I.kept c,⟨t,rfl⟩,q _ ?_⟩
 rw [preSum_eq,aa6 (by simp),<- e]
end
def vT {X:Cx} {K:aD} (h:X.K=K):jg X (.builtin "len") (λ xs H Q=>∃ p ys,xs=[.ref p]/\(aT K H p ys\/bY K H p ys)/\∀ r:Int,r=ys.length->Q (.int r) H):=by
 subst h
 exact bB
def FJ:bootBuiltins "min" = some (.builtin "min"):=by decide +kernel
def Bv:bootBuiltins "max" = some (.builtin "max"):=by decide +kernel
def MH:bootBuiltins "sum" = some (.builtin "sum"):=by decide +kernel
def ke:bootBuiltins "enumerate" = some (.type "enumerate"):=by decide +kernel
def n8 (r:List cm) (f g:cm) (b:Nat):Bool:=(!aX g (r.getD b (0,1))) && !aX (r.getD (b+1) (0,1)) f
def kN (r:List cm) (f g:cm) (n:Nat):aR:=(List.range n).filter (n8 r f g)
def oB (r:List cm) (f g:cm):aR:=kN r f g (r.length - 1)
def iL (r:List cm) (f g:cm):Bool:=(!aX f (r.getD 0 (0,1))) && !aX (r.getD (r.length - 1) (0,1)) g
def kg (r:List cm) (f g:cm) (n:Nat):kN r f g (n+1)=kN r f g n++if n8 r f g n then [n] else []:=by
 unfold kN
 rw [aa5,abo]
 cases h:n8 r f g n<;>simp [List.filter,h]
def lF (r:List cm) (f g:cm) (n:Nat):(kN r f g n).length<=n:=by
 have:=aa8 (n8 r f g) (List.range n)
 rw [aak] at this
 exact this
def HX {a:Type} {xs:List a} {x:a} (h0:0<xs.length) (h:xs[xs.length - 1]?=some x):nQ xs (-1)=some x:=by
 unfold nQ Ep
 rw [aap (by lia),aan (by lia)]
 have e:((-1:Int)+(xs.length:Int)).toNat=xs.length - 1:=by lia
 simp only [Option.bind_some]
 first
   | (rw [e];exact h)
   | (have E:((xs.length:Int) + -1).toNat=xs.length - 1:=by lia
      rw [E];exact h)
def jw (n:Nat):PyData:=.int (n:Int)
theorem ur {K:aD}:∀ l:aR,bF K H (l.map jw) (l.map aq)
 | []=>cK
 | n::l=>bo rfl (ur l)
def Cb {K:aD} {p:am} {l:aR} (h:aT K H p (l.map aq)):Dn K H (.list (l.map jw)) (.ref p):=lC h (ur l)
def Eg:([]:aB).length<=sizeLine:=aaZ _
def Mo (ns:List Int) (lo h:Option Int):List Int:=(ns.drop (HT.oI ns.length 0 lo)).take (HT.oI ns.length ns.length h - HT.oI ns.length 0 lo)
def Dw (ns:List Int) (lo h:Option Int):oU (ns.map V.int) lo h=(Mo ns lo h).map V.int:=by
 unfold oU Mo
 rw [M1,<- List.map_drop,<- List.map_take]
section
variable {P:bE} {w:bz} {A:Around} {E:az->Shared->Prop} {s:Shared}
def Bu {j a:am} {i:Nat} {b:Array az} {x:az} {Q:az->Shared->Prop} (h:s.heap.IsTupleIter j a i) (H:s.heap.IsTuple a b) (g:b[i]?=some x) (k:∀ h',h'.IsTupleIter j a (i+1)->Heap.SameBut j s.heap h'->Q x { s with heap:=h' }):wpAny (model P w) A (Builtin.SmallTypes.nextOf (.ref j)) Q E s:=by
 obtain ⟨O,e,c,d⟩:=id h
 obtain ⟨o,f,Z,N,D⟩:=H
 unfold Builtin.SmallTypes.nextOf
 refine aah (acp (name:=Str.ofString "__next__") h.typeIs aci (adh aci h.typeIs ad9 ?_ (ad2 _)))
 refine aah (m:=field (.ref j) 0) (ab7 e d (x:=.ref a) rfl ?_)
 have n:¬ ((Value.ref a == Value.none)=true):=aaE
 show wpAny _ _ (if (Value.ref a == Value.none)=true then _ else _) _ _ s
 rw [aap n]
 refine aah (m:=field (.ref j) 1) (ab7 e d (x:=.int i 0) rfl ?_)
 refine aah (m:=seqItems? (.ref a)) (acx f D ?_)
 simp only [aaW,g]
 refine aah (wpAny_setField e d (by simp) (aaB ⟨x,rfl,aaB (k _ ⟨_,Heap.get?_update_self _ e (Obj.isFreed_of_fields (Obj.data_mapFields d _)),(Obj.cls_mapFields ..).trans c,?_⟩ (Heap.SameBut.update ..))⟩))
 rw [Obj.data_mapFields d]
 simp [rawInt]
def Ee {j a:am} {i:Nat} {B:Array az} {Q:az->Shared->Prop} (H:A.handled=none) (h:s.heap.IsTupleIter j a i) (g:s.heap.IsTuple a B) (l:B[i]?=none) (k:∀ h' e,Heap.ExtBut j s.heap h'->(∃ o,h'.get? e=some o/\o.cls = .type "StopIteration")->E (.ref e) { s with heap:=h' }):wpAny (model P w) A (Builtin.SmallTypes.nextOf (.ref j)) Q E s:=by
 obtain ⟨p,b,C,d⟩:=id h
 obtain ⟨O,c,Z,N,D⟩:=g
 unfold Builtin.SmallTypes.nextOf
 refine aah (acp (name:=Str.ofString "__next__") h.typeIs aci (adh aci h.typeIs ad9 ?_ (ad2 _)))
 refine aah (m:=field (.ref j) 0) (ab7 b d (x:=.ref a) rfl ?_)
 have n:¬ ((Value.ref a == Value.none)=true):=aaE
 show wpAny _ _ (if (Value.ref a == Value.none)=true then _ else _) _ _ s
 rw [aap n]
 refine aah (m:=field (.ref j) 1) (ab7 b d (x:=.int i 0) rfl ?_)
 refine aah (m:=seqItems? (.ref a)) (acx c D ?_)
 simp only [aaW,l]
 refine aah (wpAny_rule (aah (wpAny_setField b d (by simp) (aah (m:=newExc (.type "StopIteration") []) ?_))))
 simp only [newExc,newTuple]
 refine aah (adI (aah (m:=firstArgMember _ _) (wpAny_of_eq (a:=Value.none) (by first|rfl|(simp only [firstArgMember];rfl)) (adI ?_ (by size_fits)))) (by size_fits))
 simp only [raiseNew]
 refine aah (wpAny_handled ?_)
 have f:A.in1.handled=none:=H
 first|rw [f]|rw [H]
 exact aah (aaB (wpAny_throw (k _ _ (((Heap.SameBut.update ..).extBut.push _).push _) ⟨_,aaQ _ rfl,rfl⟩)))
end
def EU {P:bE} {w:bz} {A:Around} (l:A.handled=none) (j a:am) (n:a≠j) (b:Array az):Draws P w A j [j,a] b.size (λ i v=>b[i]?=some v) (λ i h=>h.IsTupleIter j a i/\h.IsTuple a b) where
 live:=λ Z Z S=>by
   obtain ⟨⟨o,e,Z⟩,Z⟩:=S
   exact ⟨o,e⟩
 frame:=λ Z Z Z S k=>by
   obtain ⟨H,O,f,r⟩:=S
   exact ⟨H.at λ o e=>k j (by simp) o e,O,k a (by simp) O f,r⟩
 item:=λ i s Q E c S q=>Bu S.1 S.2 (x:=b[i]) (by simp [c]) λ g H d=>q _ g s.toks (by simp [c]) ⟨H,S.2.extBut d.extBut n⟩ d
 done:=λ s Q E S q=>Ee l S.1 S.2 (by simp) q
set_option maxHeartbeats 1000000 in
def Eb (a:am) (o:Obj) (bJ:Array az) (n:Nat) (b:o.cls = .type "tuple") (e:o.data = .seq bJ n) :
   Meets (Builtin.«enumerate.__new__» ⟨[.type "enumerate",.ref a],[]⟩) (λ _ R s=>s.heap.get? a=some o/\R (.ok (.ret (.ref (s.heap.push { cls:=.type "tuple_iterator",data:=.fields #[.ref a,.int 0 0]}).objs.size)))
     { s with heap:=(s.heap.push { cls:=.type "tuple_iterator",data:=.fields #[.ref a,.int 0 0]}).push { cls:=.type "enumerate",data:=.fields #[.none,.bool false,.ref s.heap.objs.size,rawInt 0,.none,.none]}}):=by
 obtain ⟨C,i,D,sl⟩:=o
 obtain rfl:C = .type "tuple":=b
 obtain rfl:D = .seq bJ n:=e
 refine .of_wp λ P w A R s q=>?_
 obtain ⟨f,g,d,t,O⟩:=s
 obtain ⟨h,q⟩:=q
 have E:=sub_enumerate
 have H:Heap.IsTuple (Shared.heap ⟨f,g,d,t,O⟩) a bJ:=⟨_,h,rfl,n,rfl⟩
 wp_walk using ada h
 refine wpAny_stack_any λ S=>aaB ?_
 split
 . rename_i c _ _ _ _ _
   cases (c == Value.type "enumerate")<;>(wp_walk using ada h,wpAny_pyIter_tuple H;exact ⟨_,rfl,q⟩)
 . wp_walk using ada h,wpAny_pyIter_tuple H
   exact ⟨_,rfl,q⟩
section
variable {P:bE} {w:bz} {A:Around} {E:az->Shared->Prop} {s:Shared}
def tO {a:am} {B:Array az} {Q:az->Shared->Prop} (c:s.heap.IsTuple a B) (k:∀ h',IsEnum h' (s.heap.objs.size+1) s.heap.objs.size 0 .none->h'.IsTupleIter s.heap.objs.size a 0->(∀ b o,s.heap.get? b=some o->h'.get? b=some o)->Q (.ref (s.heap.objs.size+1)) { s with heap:=h' }) :
   wpAny (model P w) A (call (.type "enumerate") [.ref a]) Q E s:=by
 obtain ⟨g,e,d,n,f⟩:=c
 refine callType_new F.called_enumerate (by decide) (F.typeCall_enumerate_1 _) (F.newCall_enumerate_1 _) (λ O=>F.args_object_init_2 O _) F.entry_enumerate_new (Eb a g B n d f) ⟨e,?_⟩
 have H:(s.heap.push { cls:=.type "tuple_iterator",data:=.fields #[.ref a,.int 0 0]}).objs.size=s.heap.objs.size+1:=ac2 ..
 have h:=aaQ (s.heap.push { cls:=.type "tuple_iterator",data:=.fields #[.ref a,.int 0 0]}) (o:={ cls:=.type "enumerate",data:=.fields #[.none,.bool false,.ref s.heap.objs.size,rawInt 0,.none,.none]}) rfl
 rw [H] at h
 show _/\_
 rw [H]
 exact ⟨⟨_,h,rfl⟩,k _ h ⟨_,aam _ (aaQ _ rfl),rfl,rfl⟩ λ b o x=>aam _ (aam _ x)⟩
end
def Es (sq:Hp->am->aB->Prop) (a:am):It :=
 ⟨λ i H=>∃ X x,sq H a X/\X[i]?=some x,
  λ i H v h=>∃ p x,H p=none/\v = .ref p/\h=upd H p (.tup [aq i,x])/\∀ X,sq H a X->X[i]?=some x,
  λ i H=>∃ X,sq H a X/\X.length=i⟩
def EnL (e j a:am) (i:Nat) (h:bG):Prop:=(∃ o,IsEnum h e j i o)/\h.IsListIter j a i
def EnT (e j a:am) (i:Nat) (h:bG):Prop:=(∃ o,IsEnum h e j i o)/\h.IsTupleIter j a i
def Ab {P:bE} {w:bz} {K:aD} {e j a:am} (y:e≠j) (ae:a≠e) (M:a≠j):Turn P w K (.Tuple elts x1 pj) (Es (aT K) a) [e,j] e (EnL e j a) where
 mem:=by simp
 obj:=λ i h S c l=>by
   obtain ⟨⟨O,b⟩,oj,e2,Z,d2⟩:=S
   simp only [aaa,aad,aaR] at l
   rcases l with rfl|rfl
   . exact ⟨_,b,λ v q=>by cases q⟩
   . exact ⟨oj,e2,λ v q=>by rw [d2] at q;cases q⟩
 keep:=λ i h z S k=>by
   obtain ⟨⟨O,b⟩,f⟩:=S
   exact ⟨⟨O,k e (by simp) _ b⟩,f.at λ o q=>k j (by simp) o q⟩
 item:=by
   intro X D G C l i m s U H E I n S F
   subst D G C
   obtain ⟨xs,x,r,Q⟩:=F
   obtain ⟨B,R,p,hz⟩:=I.list r
   obtain ⟨u,N,ru⟩:=R.get Q
   obtain ⟨⟨O,b⟩,f⟩:=S
   have V:e<s.heap.objs.size:=aaw b
   have lj:j<s.heap.objs.size:=by obtain ⟨o,q,Z⟩:=f;exact aaw q
   have hi:i<B.toArray.size:=by
     have:=(Bj.mp N).1
     simpa using this
   refine wpAny_pyNext_enum_itemD (Draws.list (A:=X.A.in1) (I.ok.hd l) j a M B.toArray) b ⟨f,p.isList⟩ hi y (by simp [y,ae.symm]) λ v z T t eo Y ht ab kk=>?_
   obtain rfl:v=u:=by
     have t:B.toArray[i]?=some v:=t
     rw [ad6,N] at t
     exact (aao t).symm
   refine ⟨.ref s.heap.objs.size,rfl,aea (s:={ s with heap:=z,toks:=T+1 }) eo λ g he J=>?_⟩
   have W:∀ c o,c∉[e,j]->s.heap.get? c=some o->g.get? c=some o:=λ c o d q=>by
     simp only [aaa,aad,aaR,abJ] at d
     exact J.extBut _ _ d.1 (kk c o d.1 d.2 q)
   have n5:=J.extBut _ _ (acf V) ht
   refine ⟨.ref s.heap.objs.size,upd H s.heap.objs.size (.tup [aq i,x]),I.wE (t':=T+1) W n (aaj _) ⟨by show 2<=sizeLine;decide,[.int i T,v],.cons ⟨T,rfl⟩ (.cons ru .nil),⟨_,n5,rfl,_,rfl⟩⟩,rfl,
     ⟨_,x,I.dR.fresh (aaj _),rfl,rfl,λ HC h=>by rw [I.oQ h r];exact Q⟩,⟨⟨_,by simpa using he⟩,Y.1.extBut J.extBut y.symm⟩,λ c L=>?_⟩
   have lc:c<s.heap.objs.size:=by
     simp only [aaa,aad,aaR] at L
     rcases L with rfl|rfl
     . exact V
     . exact lj
   rw [aw (aaN lc)]
   exact (n c L).1
 done:=by
   intro X D G C l i m s U H E I n S F
   subst D G C
   obtain ⟨xs,r,hl⟩:=F
   obtain ⟨B,R,p,hz⟩:=I.list r
   obtain ⟨⟨O,b⟩,f⟩:=S
   have d:i=B.toArray.size:=by rw [aaz,<- R.length];exact hl.symm
   subst d
   refine wpAny_pyNext_enum_endD (Draws.list (A:=X.A.in1) (I.ok.hd l) j a M B.toArray) b ⟨f,p.isList⟩ λ z eb=>⟨rfl,I.xW (ch:=[e,j]) (t':=s.toks) (λ c o d q=>?_) n⟩
   simp only [aaa,aad,aaR,abJ] at d
   exact eb c o d.2 q
 self:=λ Z Z Z Z Z S h=>by
   obtain ⟨⟨O,b⟩,Z⟩:=S
   exact ab9 b h
def zI {P:bE} {w:bz} {K:aD} {e j a:am} (y:e≠j) (ae:a≠e) (M:a≠j):Turn P w K (.Tuple elts x1 pj) (Es (bY K) a) [e,j] e (EnT e j a) where
 mem:=by simp
 obj:=λ i h S c l=>by
   obtain ⟨⟨O,b⟩,oj,e2,Z,d2⟩:=S
   simp only [aaa,aad,aaR] at l
   rcases l with rfl|rfl
   . exact ⟨_,b,λ v q=>by cases q⟩
   . exact ⟨oj,e2,λ v q=>by rw [d2] at q;cases q⟩
 keep:=λ i h z S k=>by
   obtain ⟨⟨O,b⟩,f⟩:=S
   exact ⟨⟨O,k e (by simp) _ b⟩,f.at λ o q=>k j (by simp) o q⟩
 item:=by
   intro X D G C l i m s U H E I n S F
   subst D G C
   obtain ⟨xs,x,r,Q⟩:=F
   obtain ⟨B,R,p,hz⟩:=I.tuple r
   obtain ⟨u,N,ru⟩:=R.get Q
   obtain ⟨⟨O,b⟩,f⟩:=S
   have V:e<s.heap.objs.size:=aaw b
   have lj:j<s.heap.objs.size:=by obtain ⟨o,q,Z⟩:=f;exact aaw q
   have hi:i<B.toArray.size:=by
     have:=(Bj.mp N).1
     simpa using this
   refine wpAny_pyNext_enum_itemD (EU (A:=X.A.in1) (I.ok.hd l) j a M B.toArray) b ⟨f,p⟩ hi y (by simp [y,ae.symm]) λ v z T t eo Y ht ab kk=>?_
   obtain rfl:v=u:=by
     have t:B.toArray[i]?=some v:=t
     rw [ad6,N] at t
     exact (aao t).symm
   refine ⟨.ref s.heap.objs.size,rfl,aea (s:={ s with heap:=z,toks:=T+1 }) eo λ g he J=>?_⟩
   have W:∀ c o,c∉[e,j]->s.heap.get? c=some o->g.get? c=some o:=λ c o d q=>by
     simp only [aaa,aad,aaR,abJ] at d
     exact J.extBut _ _ d.1 (kk c o d.1 d.2 q)
   have n5:=J.extBut _ _ (acf V) ht
   refine ⟨.ref s.heap.objs.size,upd H s.heap.objs.size (.tup [aq i,x]),I.wE (t':=T+1) W n (aaj _) ⟨by show 2<=sizeLine;decide,[.int i T,v],.cons ⟨T,rfl⟩ (.cons ru .nil),⟨_,n5,rfl,_,rfl⟩⟩,rfl,
     ⟨_,x,I.dR.fresh (aaj _),rfl,rfl,λ HC h=>by rw [I.Di h r];exact Q⟩,⟨⟨_,by simpa using he⟩,Y.1.extBut J.extBut y.symm⟩,λ c L=>?_⟩
   have lc:c<s.heap.objs.size:=by
     simp only [aaa,aad,aaR] at L
     rcases L with rfl|rfl
     . exact V
     . exact lj
   rw [aw (aaN lc)]
   exact (n c L).1
 done:=by
   intro X D G C l i m s U H E I n S F
   subst D G C
   obtain ⟨xs,r,hl⟩:=F
   obtain ⟨B,R,p,hz⟩:=I.tuple r
   obtain ⟨⟨O,b⟩,f⟩:=S
   have d:i=B.toArray.size:=by rw [aaz,<- R.length];exact hl.symm
   subst d
   refine wpAny_pyNext_enum_endD (EU (A:=X.A.in1) (I.ok.hd l) j a M B.toArray) b ⟨f,p⟩ λ z eb=>⟨rfl,I.xW (ch:=[e,j]) (t':=s.toks) (λ c o d q=>?_) n⟩
   simp only [aaa,aad,aaR,abJ] at d
   exact eb c o d.2 q
 self:=λ Z Z Z Z Z S h=>by
   obtain ⟨⟨O,b⟩,Z⟩:=S
   exact ab9 b h
section
variable {X:Cx}
def Tb (K:aD) (t:TA):TI:=λ U H R=>t U H λ v h=>∃ a,v=[.ref a]/\(∃ x,aT K h a x)/\R (Es (aT K) a) h
def WY (K:aD) (t:TA):TI:=λ U H R=>t U H λ v h=>∃ a,v=[.ref a]/\(∃ x,bY K h a x)/\R (Es (bY K) a) h
def KL:("enumerate" : Str) ≠ "__name__":=by decide +kernel
def Lu:(("enumerate" : Str) == ("__debug__" : Str))=false:=by decide +kernel
def rg {a:Expr} {p f:Pos} (n:Gl X "enumerate") (o:X.mg "enumerate" = none) (m:PA X [a] ta) (u:autoParam (starEach [a] X.env=[(false,eval a X.env)]) za_._auto_1) :
   PI X (.Tuple elts x1 pj) (.Call (.Name "enumerate" p) [a] [] f) (Tb X.K ta):=by
 intro d s U H R I h
 refine Call_ ?_
 refine jB I n o ke ?_ KL Lu
 refine abb ?_ u rfl
 refine cU (m f d s U H _ I h) λ D S ⟨V,k,i,w,Q⟩=>?_
 obtain ⟨a,e,⟨E,t⟩,q⟩:=Q
 subst e
 cases w with
 | cons r x =>
   cases x
   obtain rfl:_=Value.ref a:=r
   obtain ⟨B,C,j,L⟩:=i.list t
   have l:a<S.heap.objs.size:=by obtain ⟨Z,e,Z⟩:=j.isList;exact aaw e
   refine call_enumerate_list j.isList λ A z y F v=>ab9 z ?_
   refine ⟨S.heap.objs.size+1,[S.heap.objs.size+1,S.heap.objs.size],_,_,k,rfl,i.kept (t':=S.toks) v,Ab (acV _) (aaN (acM l)) (aaN l),⟨⟨_,z⟩,y⟩,λ c g=>?_,q⟩
   have b:S.heap.objs.size<=c:=by
     simp only [aaa,aad,aaR] at g
     rcases g with rfl|rfl
     . exact acb _
     . exact aaj _
   exact i.yD b (i.dR.fresh b)
def LY {a:Expr} {p f:Pos} (n:Gl X "enumerate") (o:X.mg "enumerate" = none) (m:PA X [a] ta) (u:autoParam (starEach [a] X.env=[(false,eval a X.env)]) za_._auto_1) :
   PI X (.Tuple elts x1 pj) (.Call (.Name "enumerate" p) [a] [] f) (WY X.K ta):=by
 intro d s U H R I h
 refine Call_ ?_
 refine jB I n o ke ?_ KL Lu
 refine abb ?_ u rfl
 refine cU (m f d s U H _ I h) λ D S ⟨V,k,i,w,Q⟩=>?_
 obtain ⟨a,e,⟨E,t⟩,q⟩:=Q
 subst e
 cases w with
 | cons r x =>
   cases x
   obtain rfl:_=Value.ref a:=r
   obtain ⟨B,C,j,L⟩:=i.tuple t
   have l:a<S.heap.objs.size:=j.lt
   refine tO j λ A z y v=>ab9 z ?_
   refine ⟨S.heap.objs.size+1,[S.heap.objs.size+1,S.heap.objs.size],_,_,k,rfl,i.kept (t':=S.toks) v,zI (acV _) (aaN (acM l)) (aaN l),⟨⟨_,z⟩,y⟩,λ c g=>?_,q⟩
   have b:S.heap.objs.size<=c:=by
     simp only [aaa,aad,aaR] at g
     rcases g with rfl|rfl
     . exact acb _
     . exact aaj _
   exact i.yD b (i.dR.fresh b)
end
def j6 {sq:Hp->am->aB->Prop} {a:am} {xs:aB} {g:TG} {T:TT} {t:TE} {D:am} {Q:Hp->Prop} {U:St} (c:Nat->aB->St->Hp->Prop) (h0:c 0 [] U H) (u:∀ i acc U H,i<=xs.length->c i acc U H->sq H a xs) (z:∀ i x p acc U H,xs[i]?=some x->H p=none->c i acc U H->g (.ref p) U (upd H p (.tup [aq i,x])) λ b l=>T b l λ k h =>
     if k=true then t b h λ v j=>j D=some (.lst acc)/\acc.length<sizeLine/\c (i+1) (acc++[v]) b (upd j D (.lst (acc++[v]))) else c (i+1) acc b h) (r:∀ acc U H,c xs.length acc U H->Q H) :
   ∃ W:Nat->Nat->aB->St->Hp->Prop,(∃ m,W 0 m [] U H)/\∀ i m acc f d,W i m acc f d->((Es sq a).stop i d/\Q d) \/
     ((Es sq a).go i d/\∃ N:aB->St->Hp->Prop,(∀ G b h,N G b h->∃ M,M<m/\W (i+1) M G b h)/\∀ x n,(Es sq a).G6 i d x n->g x f n λ b l=>T b l λ k h =>
       if k=true then t b h λ y j=>j D=some (.lst acc)/\acc.length<sizeLine/\N (acc++[y]) b (upd j D (.lst (acc++[y]))) else N acc b h):=by
 refine ⟨λ i m acc U H=>m=xs.length - i/\i<=xs.length/\c i acc U H,⟨_,rfl,aaZ _,h0⟩,?_⟩
 rintro i m acc U H ⟨rfl,s,p⟩
 have q:=u i acc U H s p
 by_cases o:i<xs.length
 . refine .inr ⟨⟨xs,xs[i],q,by simp [o]⟩,c (i+1),λ G f d A=>⟨xs.length - (i+1),by lia,rfl,o,A⟩,λ v d y=>?_⟩
   obtain ⟨B,x,w,rfl,rfl,E⟩:=y
   exact z i x B acc U H (E xs q) w p
 . have e:i=xs.length:=by lia
   subst e
   exact .inl ⟨⟨xs,q,rfl⟩,r acc U H p⟩
end L2
namespace Tx
open PySem PySem.Builtin PySem.Builtin.Str
def len (a:Str):a.cps.toList.length=a.length:=adm
def sl:Str:=⟨#[47]⟩
def cases (x:Str):47∉x.cps.toList\/∃ a b:Str,47∉a.cps.toList/\x.cps.toList=a.cps.toList++47::b.cps.toList:=by
 by_cases h:47∈x.cps.toList
 . obtain ⟨as,B,e,n⟩:=List.eq_append_cons_of_mem h
   exact .inr ⟨⟨as.toArray⟩,⟨B.toArray⟩,by simpa using n,by simpa using e⟩
 . exact .inl h
def strN (n:Nat):Str:=Str.ofString (toString ((n:Nat):Int))
def Good (z:Str):Prop:=1<=z.length/\z.length<=30/\NumText.AllDigits z.cps.toList/\¬ (z.cps.toList.head?=some 48/\1<z.length)
def valOf (z:Str):Int:=((NumText.digitsVal z.cps.toList:Nat):Int)
def mi:Str:=⟨#[45]⟩
def Fv (z:Str):Bool:=decide (z.cps.toList.head?=some 45)
def bodyOf (z:Str):Str:=if Fv z=true then Txt.slice z (some 1) none else z
def Wj (z:Str):Int:=if Fv z=true then -1 else 1
def Rd (z:Str) (f:Int×Int):Prop :=
 Good (Txt.partition (bodyOf z) sl).1/\(Fv z=true->valOf (Txt.partition (bodyOf z) sl).1≠0)/\f.1=Wj z * valOf (Txt.partition (bodyOf z) sl).1 /\
 (((Txt.partition (bodyOf z) sl).2.1=sl/\Good (Txt.partition (bodyOf z) sl).2.2/\2<=valOf (Txt.partition (bodyOf z) sl).2.2 /\
     Int.gcd (valOf (Txt.partition (bodyOf z) sl).1) (valOf (Txt.partition (bodyOf z) sl).2.2)=1/\f.2=valOf (Txt.partition (bodyOf z) sl).2.2) \/
   ((Txt.partition (bodyOf z) sl).2.1≠sl/\f.2=1))
def NA (t:Int):Str:=if t<0 then mi++strN t.natAbs else strN t.natAbs
def adL (t b:Int):Str:=if b=1 then NA t else NA t++sl++strN b.natAbs
end Tx
namespace L2
open PySem PySem.Spec PyProof.Rows Mth
open PySem.Builtin PySem.Builtin.ObjectAttr
end L2
namespace Ord
open Bit
def CI:∀ W,W<16->parts (rooms W)=(List.range 16).filter (λ o=>decide (o &&& W=o)):=by decide +kernel
structure Kg (n:Nat) (has:Nat->Bool) (wd:Nat->Int) (wt:Nat->Bool) (b:Nat) (most heap:Int) (o:Nat):Prop where
 has:∀ r∈rooms o,r<n/\has r=true
 eE:∀ r,r<n->wt r=true->o.testBit r=b.testBit r
 most:((rooms o).length:Int)<=most
 kh:((rooms o).map wd).sum<=heap
def setOf (n:Nat) (p:Nat->Bool):Nat:=sumOf ((List.range n).filter p)
def iN (n:Nat) (p:Nat->Bool) (k:Nat):(setOf n p).testBit k=(decide (k<n) && p k):=by
 unfold setOf
 rw [mR]
 by_cases h:k<n<;>cases e:p k<;>simp [h,e]
def Bh (n:Nat) (p:Nat->Bool):setOf n p<2 ^ n:=Gv λ r h=>aaD.mp (aa7.mp h).1
def Dy {n:Nat} (p:Nat->Bool) (H:n<=61):rooms (setOf n p)=(List.range n).filter p :=
 zU (λ r h=>by have:=aaD.mp (aa7.mp h).1;lia) ((ad0).filter _)
def HP {o k:Nat} (h:o<16) (H:4<=k):o.testBit k=false:=iO (m:=4) h H
structure My (n:Nat) (has:Nat->Bool) (wd:Nat->Int) (wt:Nat->Bool) (b:Nat) (most heap:Int) (o:Nat):Prop where
 eE:o &&& setOf n wt=b &&& setOf n wt
 most:((rooms o).length:Int)<=most
 kh:((rooms (o &&& setOf n has)).map wd).sum<=heap
section
variable {n:Nat} {has:Nat->Bool} {wd:Nat->Int} {wt:Nat->Bool} {b:Nat} {most heap:Int} {o:Nat}
def Cf (c:o<2 ^ 61):o &&& setOf n has=o↔∀ r∈rooms o,r<n/\has r=true:=by
 constructor
 .
  intro e r d
  have H:=(fW.mp d).2
  rw [<- e,abu,iN] at H
  simp only [aaY,ab2] at H
  exact H.2
 .
  intro h
  refine acv λ k=>?_
  rw [abu,iN]
  by_cases b:k<61
  .
   cases e:o.testBit k with
   | false=>rfl
   | true =>
     obtain ⟨a,H⟩:=h k (fW.mpr ⟨b,e⟩)
     rw [aaH a,H];rfl
  . rw [iO c (by lia)];rfl
def zM:o &&& setOf n wt=b &&& setOf n wt↔∀ r,r<n->wt r=true->o.testBit r=b.testBit r:=by
 constructor
 .
  intro e r a c
  have h:=abV (λ x=>Nat.testBit x r) e
  simp only [abu,iN,aaH a,c,Bool.and_true] at h
  exact h
 .
  intro h
  refine acv λ k=>?_
  rw [abu,abu,iN]
  by_cases H:k<n
  . cases e:wt k with
    | false=>simp
    | true=>rw [h k H e]
  . rw [aaq H];simp
def Fa (c:o<2 ^ 61):Kg n has wd wt b most heap o↔(o &&& setOf n has=o/\My n has wd wt b most heap o):=by
 constructor
 . rintro ⟨d,H,a,h⟩
   have e:=(Cf c).mpr d
   exact ⟨e,⟨zM.mpr H,a,by rw [e];exact h⟩⟩
 . rintro ⟨e,H,a,h⟩
   rw [e] at h
   exact ⟨(Cf c).mp e,zM.mp H,a,h⟩
end
end Ord
namespace L2
open PySem PySem.Spec PyProof.Rows Mth
variable {H:Hp}
section
variable {X:Cx}
inductive UR (K:aD) (x:V) (lo:Option Int) (hi:Option Int) (H:Hp) (Q:VK):Prop|mk (a xs:_) (i:Nat) (_:x = .ref a) (_:bY K H a xs) (_:lo=some (i:Int)) (_:hi=none) (_:1<=i) (_:i<=xs.length) (_:∀ p,H p=none->Q (.ref p) (upd H p (.tup (xs.drop i))))
def ya:TF X (UR X.K):=by
 intro p s U H x v V u L m sl Q I R e j k h
 obtain ⟨a,l,i,rfl,f,rfl,rfl,g,t,q⟩:=h
 cases R
 cases k
 cases j
 obtain ⟨B,r,d,n⟩:=I.tuple f
 have c:=r.length
 refine ⟨"tuple",_,slot_tuple_getitem.lookup,d.typeIs,getItem_tuple_from d e g (by rw [aaz];lia) ?_ (by rw [aaz];lia)⟩
 refine ⟨.ref s.heap.objs.size,_,I.laid (t':=s.toks) (o:=.tup (l.drop i)) (λ b O q=>aam _ q) (aaj _) ?_,rfl,q _ (I.dR.fresh (aaj _))⟩
 refine ⟨by rw [abT];lia,B.drop i,r.drop i,⟨_,aaQ _ rfl,rfl,_,rfl⟩⟩
end
structure cr where
 aF:aR
 cC:Nat
 ib:aR
 failed:aR
 heap:Nat
def f9 (K:aD) (H:Hp) (p:am) (s:cr):Prop :=
 ∃ a c b,bY K H p [.ref a,aq s.cC,.ref c,.ref b,aq s.heap]/\bY K H a (s.aF.map aq)/\bY K H c (s.ib.map aq)/\bY K H b (s.failed.map aq)
def f9.same {K:aD} {e:Hp} {p:am} {s:cr} (h:f9 K H p s) (q:aG H e):f9 K e p s:=by
 obtain ⟨f,i,g,a,b,c,d⟩:=h
 exact ⟨f,i,g,q.tup a,q.tup b,q.tup c,q.tup d⟩
abbrev Uj:=cm×Int×Int×Int
def ar.pJ (m:ar) (i:Nat):Option Uj:=(m.bw[i]?).getD none
def ar.has (m:ar) (i:Nat):Bool:=(m.pJ i).isSome
def ar.wd (m:ar) (i:Nat):Int:=((m.pJ i).map λ z=>z.2.1).getD 0
def ar.eE (m:ar) (i:Nat):Int:=((m.pJ i).map λ z=>z.2.2.1).getD 0
def ar.fails (m:ar) (i:Nat):Int:=((m.pJ i).map λ z=>z.2.2.2).getD 0
def mM {m:ar} {i:Nat} (h:i<m.bw.length):m.bw[i]?=some (m.pJ i):=by
 unfold ar.pJ
 rw [aI h];rfl
def BL:Option Uj->Bool->Nat->Nat->Prop
 | none,f,w,b=>f=false/\w=0/\b=0
 | some z,f,w,b=>(w:Int)<=z.2.2.1/\(b:Int)<=z.2.2.2/\(b=0\/(f=false/\w=0))
def gN (l:aR) (i:Nat):Nat:=(l[i]?).getD 0
def AY {l:aR} {i:Nat} (h:i<l.length):l[i]?=some (gN l i):=by
 unfold gN
 rw [aI h];rfl
def rQ {l:aR} {i:Nat} (h:i<l.length):nQ (l.map aq) (i:Int)=some (aq (gN l i)):=cu (by rw [Sb,AY h];rfl)
structure eI (m:ar) (s:cr):Prop where
 lb:s.aF.length=m.rows.length
 lw:s.ib.length=m.rows.length
 lf:s.failed.length=m.rows.length
 cC:s.cC<2 ^ m.rows.length
 most:((Bit.rooms s.cC).length:Int)<=m.most
 heap:(s.heap:Int)<=m.fR
 band:∀ i,i<m.rows.length->gN s.aF i+1<(m.rows.getD i []).length
 bV:∀ i,i<m.rows.length->BL (m.pJ i) (s.cC.testBit i) (gN s.ib i) (gN s.failed i)
def ar.ws (m:ar):Nat:=Ord.setOf m.rows.length m.has
def cr.wt (s:cr) (i:Nat):Bool:=decide (0<gN s.ib i)
def cr.held (s:cr):Nat:=Ord.setOf s.ib.length s.wt
def ar.kh (m:ar) (b:Nat):Int:=((Bit.rooms (b &&& m.ws)).map m.wd).sum
def ar.EG (m:ar) (o:Nat) (heap:Int):Bool:=decide (((Bit.rooms o).length:Int)<=m.most) && decide (m.kh o<=heap)
def cr.DZ (m:ar) (s:cr) (o:Nat):Bool:=decide (o &&& s.held=s.cC &&& s.held) && m.EG o s.heap
def cr.orders (m:ar) (s:cr):aR:=(Bit.parts (Bit.rooms m.ws)).filter (s.DZ m)
def uC {m:ar} (h:m.rows.length<=4):m.ws<16:=aav (Ord.Bh _ _) (abq (by decide) h:2 ^ m.rows.length<=2 ^ 4)
section
variable (K:aD) (C:am)
inductive zc (vs:aB) (H:Hp) (Q:VK) (_E:XK):Prop|mk (n:Nat) (_:vs=[aq n]) (_:n<2 ^ 61) (_:∀ H',aG H H'->Q (aq (Bit.rooms n).length) H')
inductive C6 (vs:aB) (H:Hp) (Q:VK) (_E:XK):Prop|mk (p l:_) (_:vs=[.ref p]) (_:aT K H p (l.map aq)) (_:(∀ r∈l,r<=1000)) (_:Q (aq (Bit.sumOf l)) H)
inductive uZ (vs:aB) (H:Hp) (Q:VK) (_E:XK):Prop|mk (v z f w b:_) (_:vs=[v,.bl f,aq w,aq b]) (_:Dn K H (fu z) v) (_:BL z f w b) (_:∀ H',aG H H'->Q (.bl true) H')
inductive wW (vs:aB) (H:Hp) (Q:VK) (_E:XK):Prop|mk (a fp m p s:_) (i:Nat) (_:vs=[.ref a,.ref p,aq i]) (_:bv K C H a fp m) (_:f9 K H p s) (_:eI m s) (_:i<m.rows.length) (_:∀ H',aG H H'->Q (.bl true) H')
inductive zr (vs:aB) (H:Hp) (Q:VK) (_E:XK):Prop|mk (a fp m p s:_) (_:vs=[.ref a,.ref p]) (_:bv K C H a fp m) (_:f9 K H p s) (_:eI m s) (_:∀ H',aG H H'->Q (.bl true) H')
inductive vJ (vs:aB) (H:Hp) (Q:VK) (_E:XK):Prop|mk (a fp m p s:_) (_:vs=[.ref a,.ref p]) (_:bv K C H a fp m) (_:f9 K H p s) (_:eI m s) (_:∀ H',aG H H'->Q .cL H')
inductive u9 (vs:aB) (H:Hp) (Q:VK) (_E:XK):Prop|mk (a fp m:_) (_:vs=[.ref a]) (_:bv K C H a fp m) (_:∀ H',aG H H'->Q (aq m.ws) H')
inductive AW (vs:aB) (H:Hp) (Q:VK) (_E:XK):Prop|mk (a fp m:_) (b:Nat) (_:vs=[.ref a,aq b]) (_:bv K C H a fp m) (_:∀ H',aG H H'->Q (.int (m.kh b)) H')
inductive xn (vs:aB) (H:Hp) (Q:VK) (_E:XK):Prop|mk (p s:_) (_:vs=[.ref p]) (_:f9 K H p s) (_:s.ib.length<=4) (_:∀ H',aG H H'->Q (aq s.held) H')
inductive zm (vs:aB) (H:Hp) (Q:VK) (_E:XK):Prop|mk (a fp m:_) (o:Nat) (hp:Int) (_:vs=[.ref a,aq o,.int hp]) (_:bv K C H a fp m) (_:o<2 ^ 61) (_:∀ H',aG H H'->Q (.bl (m.EG o hp)) H')
inductive yc (vs:aB) (H:Hp) (Q:VK) (_E:XK):Prop|mk (a fp m p s:_) (_:vs=[.ref a,.ref p]) (_:bv K C H a fp m) (_:f9 K H p s) (_:eI m s) (_:∀ q H',H q=none->aG H H'->H' q=some (.lst ((s.orders m).map aq))->Q (.ref q) H')
end
def Dn.bV {K:aD} {v:V} {z:Uj} (h:Dn K H (fu (some z)) v):∃ p v1,v = .ref p/\bY K H p [v1,.int z.2.1,.int z.2.2.1,.int z.2.2.2]/\Dn K H (dJ z.1) v1:=by
 obtain ⟨p,x,rfl,d,t,R,rfl,c,T,i,rfl,e,f,j,rfl,E,g,r,rfl,a,b⟩:=h
 have b:r=[]:=b
 have e:T = .int z.2.1:=e
 have E:f = .int z.2.2.1:=E
 have a:g = .int z.2.2.2:=a
 subst e E a b
 exact ⟨p,t,rfl,d,c⟩
def xA {l:aR} {x j:Nat} (h:j<l.length):gN (l++[x]) j=gN l j:=by
 unfold gN
 rw [aal h]
def EH {l:aR} {x:Nat}:gN (l++[x]) l.length=x:=by
 unfold gN
 rw [aaO (aaj _),adw];rfl
end L2
namespace Ord
open Bit
def OA:∀ x,x<16->∀ y,y<16->x - (x &&& y)=x ^^^ (x &&& y):=by decide +kernel
def off (x y:Nat):Nat:=x - (x &&& y)
def wZ {x y:Nat} (h:x<16) (H:y<16) (k:Nat):(off x y).testBit k=(x.testBit k && !y.testBit k):=by
 unfold off
 rw [OA x h y H,Nat.testBit_xor,abu]
 cases x.testBit k<;>cases y.testBit k<;>rfl
def Ky {x y n:Nat} (h:x<2 ^ n):off x y<2 ^ n:=aat (Nat.sub_le _ _) h
def Kf {n x:Nat} (H:n<=4) (h:x<2 ^ n):x<16:=aav h (abq (by decide) H:2 ^ n<=2 ^ 4)
theorem less {w:Nat->Int} (h0:∀ r,0<=w r) {p q:Nat->Bool} (h:∀ x,p x=true->q x=true):∀ l:aR,(l.filter p).length<=(l.filter q).length/\((l.filter p).map w).sum<=((l.filter q).map w).sum
 | []=>⟨aaj _,abp _⟩
 | x::l=>by
   obtain ⟨a,b⟩:=less h0 h l
   have:=h0 x
   by_cases H:p x=true
   . rw [acQ H,acQ (h x H)]
     simp only [aaX,aaS,List.sum_cons]
     lia
   .
    by_cases c:q x=true
    . rw [acR H,acQ c]
      simp only [aaX,aaS,List.sum_cons]
      lia
    . rw [acR H,acR c]
      exact ⟨a,b⟩
def A0 {w:Nat->Int} (h0:∀ r,0<=w r) {a b:Nat} (h:∀ x,a.testBit x=true->b.testBit x=true):(rooms a).length<=(rooms b).length/\((rooms a).map w).sum<=((rooms b).map w).sum:=less h0 h _
structure Hd where
 n:Nat
 has:Nat->Bool
 wd:Nat->Int
 wt:Nat->Bool
 b:Nat
 most:Int
 heap:Int
def Hd.ws (h:Hd):Nat:=setOf h.n h.has
def Hd.held (h:Hd):Nat:=setOf h.n h.wt
def Hd.kh (h:Hd) (o:Nat):Int:=((rooms (o &&& h.ws)).map h.wd).sum
def Hd.EG (h:Hd) (o:Nat):Bool:=decide (((rooms o).length:Int)<=h.most) && decide (h.kh o<=h.heap)
def Hd.step (h:Hd) (o r:Nat):Nat:=if h.EG (o ||| 2 ^ r) then o ||| 2 ^ r else o
def Hd.first (h:Hd):Nat:=h.b &&& h.held
def Hd.go (h:Hd) (n:Nat):Nat:=(rooms (off (n &&& h.ws) h.held)).foldl h.step h.first
def Hd.may (h:Hd) (n r:Nat):Bool:=n.testBit r && h.has r && !h.wt r
structure Hd.Ok (h:Hd):Prop where
 n4:h.n<=4
 cC:h.b<2 ^ h.n
 sub:∀ r,h.b.testBit r=true->h.has r=true
 most:((rooms h.b).length:Int)<=h.most
 ZN:∀ r,0<=h.wd r
section
variable {h:Hd} {i r o:Nat}
structure Hd.In (h:Hd) (i o:Nat):Prop where
 sub:∀ r,o.testBit r=true->r<h.n/\h.has r=true
 held:∀ r,r<h.n->h.wt r=true->o.testBit r=h.b.testBit r
 aag:∀ r,i<=r->h.wt r=false->o.testBit r=false
def Hd.X7 (h:Hd) (o:Nat):Prop:=Kg h.n h.has h.wd h.wt h.b h.most h.heap o
end
end Ord
namespace L2
open PySem PySem.Spec PyProof.Rows Mth
variable {D:L2.Ends} {H:Hp} {Et RZ a2 a3 a4 a5 a6 a7 a8 a9:TS}
def n9 (x y:Nat):Builtin.bitAnd (x:Int) (Builtin.bitNot (y:Int))=((Ord.off x y:Nat):Int):=by
 have e:Builtin.bitNot (Builtin.bitNot (y:Int))=(y:Int):=by unfold Builtin.bitNot;lia
 have n:¬ (0:Int)<=Builtin.bitNot (y:Int):=by unfold Builtin.bitNot;lia
 have p:(0:Int)<=(x:Int):=aa3 _
 unfold Builtin.bitAnd
 rw [aaH p,aaq n]
 show (x:Int) - _=_
 rw [e,aaW,aaW]
 have:=Nat.and_le_left (n:=x) (m:=y)
 unfold Ord.off
 lia
def PV (m:ar) (s:cr):Ord.Hd:=⟨m.rows.length,m.has,m.wd,s.wt,s.cC,m.most,s.heap⟩
def cr.may (m:ar) (s:cr) (o:Nat):Nat:=Ord.setOf m.rows.length λ r=>o.testBit r && !s.cC.testBit r && decide ((gN s.failed r:Int)<m.fails r)
def cr.i8 (m:ar) (s:cr) (b i:Nat):Nat:=if s.cC.testBit i=b.testBit i then gN s.ib i - 1 else (m.eE i).toNat
def cr.jU (s:cr) (b o i:Nat):Nat:=if o.testBit i then gN s.failed i+1 else if b.testBit i then 0 else gN s.failed i
def cr.mo (m:ar) (s:cr) (b:Nat):Int:=min m.fR ((s.heap:Int) - m.kh b+m.load)
def cr.behind (m:ar) (s:cr) (aF:aR) (o O:Nat):cr :=
 ⟨aF,Ord.off o O,(List.range m.rows.length).map (s.i8 m (Ord.off o O)),(List.range m.rows.length).map (s.jU (Ord.off o O) O),(s.mo m (Ord.off o O)).toNat⟩
section
variable (K:aD) (C:am)
inductive AF (vs:aB) (H:Hp) (Q:VK) (_E:XK):Prop|mk (a fp m p s:_) (o:Nat) (_:vs=[.ref a,.ref p,aq o]) (_:bv K C H a fp m) (_:f9 K H p s) (_:eI m s) (_:o &&& m.ws=o) (_:∀ H',aG H H'->Q (aq (s.may m o)) H')
inductive tZ (vs:aB) (H:Hp) (Q:VK) (_E:XK):Prop|mk (a fp m p s:_) (b i:Nat) (_:vs=[.ref a,.ref p,aq b,aq i]) (_:bv K C H a fp m) (_:f9 K H p s) (_:eI m s) (_:i<m.rows.length) (_:(s.cC.testBit i≠b.testBit i->m.has i=true)) (_:0<=m.eE i) (_:Q (aq (s.i8 m b i)) H)
inductive pW (vs:aB) (H:Hp) (Q:VK) (_E:XK):Prop|mk (p s:_) (b out i:Nat) (_:vs=[.ref p,aq b,aq out,aq i]) (_:f9 K H p s) (_:i<s.failed.length) (_:Q (aq (s.jU b out i)) H)
inductive Ea (vs:aB) (H:Hp) (Q:VK) (_E:XK):Prop|mk (a fp m p s:_) (o out:Nat) (_:vs=[.ref a,.ref p,aq o,aq out]) (_:bv K C H a fp m) (_:f9 K H p s) (_:eI m s) (_:(∀ i,s.cC.testBit i≠(Ord.off o out).testBit i->m.has i=true)) (_:(∀ i,0<=m.eE i)) (_:0<=s.mo m (Ord.off o out)) (_:∀ q pw pf H',aG H H'->H' q=some (.tup [aq (Ord.off o out),.ref pw,.ref pf,aq (s.mo m (Ord.off o out)).toNat])->H' pw=some (.tup (((List.range m.rows.length).map (s.i8 m (Ord.off o out))).map aq))->H' pf=some (.tup (((List.range m.rows.length).map (s.jU (Ord.off o out) out)).map aq))->Q (.ref q) H')
end
def LF {m:ar} {s:cr} {o:Nat} (b:m.rows.length<=4) (ok:eI m s) (c:o &&& m.ws=o) :
   Bit.sumOf ((Bit.rooms (Ord.off o s.cC)).filter λ r=>decide ((gN s.failed r:Int)<m.fails r))=s.may m o:=by
 have E:o<16:=by rw [<- c];exact aat acX (uC b)
 have W:s.cC<16:=Ord.Kf b ok.cC
 have n:o<2 ^ m.rows.length:=by rw [<- c];exact aat acX (Ord.Bh _ _)
 refine acv λ k=>?_
 rw [Bit.mR,cr.may,Ord.iN]
 rw [ab1,ab2,aa7,Bit.fW,Ord.wZ E W]
 simp only [aaY,ab2]
 constructor
 .
  rintro ⟨⟨Z,h,H⟩,a⟩
  refine ⟨?_,⟨h,H⟩,a⟩
  by_cases q:k<m.rows.length
  . exact q
  . rw [Bit.iO n (by lia)] at h;cases h
 . rintro ⟨d,⟨h,H⟩,a⟩
   exact ⟨⟨by lia,h,H⟩,a⟩
def DS {m:ar} {o r:Nat} (H:o &&& m.ws=o) (h:o.testBit r=true):r<m.rows.length/\m.has r=true:=by
 rw [<- H,abu,ar.ws,Ord.iN] at h
 simp only [aaY,ab2] at h
 exact h.2
def uu {m:ar} {r:Nat} (h:m.has r=true):∃ z,m.pJ r=some z:=abN.mp h
def lS {f:Nat->Nat} {n i:Nat} (h:i<n):gN ((List.range n).map f) i=f i:=by
 unfold gN
 rw [Sb,abd h];rfl
structure cx (m:ar) (s:cr) (o out:Nat):Prop where
 h4:m.rows.length<=4
 ok:eI m s
 Sl:(PV m s).X7 o
 Ey:o<16
 OW:out<16
 sub:∀ r,out.testBit r=true->o.testBit r=true/\s.cC.testBit r=false/\(gN s.failed r:Int)<m.fails r
 ZN:∀ r,0<=m.wd r
 J0:∀ r,0<=m.eE r
 XE:0<=m.fR
 Qg:0<=m.load
section
variable {m:ar} {s:cr} {o out r:Nat}
def cx.bit (t:cx m s o out) (r:Nat):(Ord.off o out).testBit r=(o.testBit r && !out.testBit r):=Ord.wZ t.Ey t.OW r
def cx.JG (t:cx m s o out) (h:o.testBit r=true):r<m.rows.length/\m.has r=true:=by
 have H:r<61:=by
   by_cases q:r<61
   . exact q
   . rw [Ord.HP t.Ey (by lia)] at h;cases h
 exact t.Sl.has r (Bit.fW.mpr ⟨H,h⟩)
def cx.Lx (t:cx m s o out) (h:(Ord.off o out).testBit r=true):o.testBit r=true/\out.testBit r=false:=by
 rw [t.bit] at h
 simp only [aaY,acO] at h
 exact h
theorem cx.has (t:cx m s o out) (h:s.cC.testBit r≠(Ord.off o out).testBit r):m.has r=true:=by
 cases a:(Ord.off o out).testBit r with
 | true=>exact (t.JG (t.Lx a).1).2
 | false =>
   rw [a] at h
   have H:s.cC.testBit r=true:=by cases q:s.cC.testBit r with|true=>rfl|false=>exact absurd q h
   have b:r<m.rows.length:=by
     by_cases q:r<m.rows.length
     . exact q
     . rw [Bit.iO t.ok.cC (by lia)] at H;cases H
   have:=t.ok.bV r b
   unfold ar.has
   cases e:m.pJ r with
   | some z=>rfl
   | none=>rw [e] at this;rw [this.1] at H;cases H
def cx.lit (t:cx m s o out) (h:out.testBit r=true):gN s.ib r=0/\(Ord.off o out).testBit r=false:=by
 obtain ⟨H,a,d⟩:=t.sub r h
 have b:=(t.JG H).1
 constructor
 .
  by_cases w:gN s.ib r=0
  . exact w
  . have c:s.wt r=true:=aaH (by lia)
    have e:o.testBit r=s.cC.testBit r:=t.Sl.eE r b c
    rw [H,a] at e;cases e
 . rw [t.bit,h];simp
def cx.fits (t:cx m s o out) (g:r<m.rows.length):BL (m.pJ r) ((Ord.off o out).testBit r) (s.i8 m (Ord.off o out) r) (s.jU (Ord.off o out) out r):=by
 have O:=t.ok.bV r g
 have T:=t.J0 r
 cases e:m.pJ r with
 | none =>
   rw [e] at O
   obtain ⟨b,c,a⟩:=O
   have n:m.has r=false:=by unfold ar.has;rw [e];rfl
   have H:(Ord.off o out).testBit r=false:=by
     cases q:(Ord.off o out).testBit r with
     | false=>rfl
     | true=>rw [(t.JG (t.Lx q).1).2] at n;cases n
   have h:out.testBit r=false:=by
     cases q:out.testBit r with
     | false=>rfl
     | true=>rw [(t.JG (t.sub r q).1).2] at n;cases n
   refine ⟨H,?_,?_⟩
   . unfold cr.i8
     rw [b,H,aan rfl,c]
   . unfold cr.jU
     rw [h,H,a];rfl
 | some z =>
   rw [e] at O
   obtain ⟨b,c,a⟩:=O
   have f:m.eE r=z.2.2.1:=by unfold ar.eE;rw [e];rfl
   have d:m.fails r=z.2.2.2:=by unfold ar.fails;rw [e];rfl
   refine ⟨?_,?_,?_⟩
   . unfold cr.i8
     split
     . lia
     . rw [acd T,f];exact abp _
   .
    unfold cr.jU
    split
    . rename_i h
      have:=(t.sub r h).2.2
      rw [d] at this
      lia
    . split<;>lia
   .
    cases h:out.testBit r with
    | true =>
      obtain ⟨L,l⟩:=t.lit h
      refine .inr ⟨l,?_⟩
      unfold cr.i8
      rw [l,(t.sub r h).2.1,aan rfl,L]
    | false =>
      cases H:(Ord.off o out).testBit r with
      | true=>exact .inl (by unfold cr.jU;rw [h,H];rfl)
      | false =>
        have E:s.jU (Ord.off o out) out r=gN s.failed r:=by unfold cr.jU;rw [h,H];rfl
        rw [E]
        rcases a with q|⟨Q,i⟩
        . exact .inl q
        . refine .inr ⟨rfl,?_⟩
          unfold cr.i8
          rw [Q,H,aan rfl,i]
def cx.less (t:cx m s o out):(Bit.rooms (Ord.off o out)).length<=(Bit.rooms o).length/\((Bit.rooms (Ord.off o out)).map m.wd).sum<=((Bit.rooms o).map m.wd).sum :=
 Ord.A0 t.ZN λ Z h=>(t.Lx h).1
def cx.and (t:cx m s o out):Ord.off o out &&& m.ws=Ord.off o out:=by
 refine acv λ k=>?_
 rw [abu,ar.ws,Ord.iN]
 cases e:(Ord.off o out).testBit k with
 | false=>rfl
 | true =>
   obtain ⟨a,b⟩:=t.JG (t.Lx e).1
   rw [aaH a,b];rfl
theorem cx.kh (t:cx m s o out):m.kh (Ord.off o out)=((Bit.rooms (Ord.off o out)).map m.wd).sum:=by
 unfold ar.kh
 rw [t.and]
def cx.Jl (t:cx m s o out):((Bit.rooms (Ord.off o out)).map m.wd).sum<=(s.heap:Int):=by
 have:=t.less.2
 have q:((Bit.rooms o).map m.wd).sum<=(s.heap:Int):=t.Sl.kh
 lia
def cx.JY (t:cx m s o out):0<=s.mo m (Ord.off o out):=by
 have:=t.Jl
 have:=t.XE
 have:=t.Qg
 unfold cr.mo
 rw [t.kh]
 lia
def cx.lt (t:cx m s o out):Ord.off o out<2 ^ m.rows.length:=acE _ λ k h=>by
 cases e:(Ord.off o out).testBit k with
 | false=>rfl
 | true=>have:=(t.JG (t.Lx e).1).1;lia
def cx.next (t:cx m s o out) {aF:aR} (l:aF.length=m.rows.length) (c:∀ i,i<m.rows.length->gN aF i+1<(m.rows.getD i []).length):eI m (s.behind m aF o out):=by
 have H:=t.JY
 refine ⟨l,by simp [cr.behind],by simp [cr.behind],t.lt,?_,?_,c,λ i h=>?_⟩
 .
  have a:=t.less.1
  have b:((Bit.rooms o).length:Int)<=m.most:=t.Sl.most
  show ((Bit.rooms (Ord.off o out)).length:Int)<=m.most
  lia
 .
  show (((s.mo m (Ord.off o out)).toNat:Nat):Int)<=m.fR
  rw [acd H]
  unfold cr.mo
  lia
 . show BL (m.pJ i) ((Ord.off o out).testBit i) (gN ((List.range m.rows.length).map (s.i8 m (Ord.off o out))) i) (gN ((List.range m.rows.length).map (s.jU (Ord.off o out) out)) i)
   rw [lS h,lS h]
   exact t.fits h
end
abbrev Pr:=cm×cm
def dF (D:List Pr):Int×Int:=D.foldl (λ s d=>(s.1 * (d.1.2 * d.2.2)+d.1.1 * d.2.1 * s.2,s.2 * (d.1.2 * d.2.2))) (0,1)
def jh (D:List Pr) (d:Pr):dF (D++[d])=((dF D).1 * (d.1.2 * d.2.2)+d.1.1 * d.2.1 * (dF D).2,(dF D).2 * (d.1.2 * d.2.2)):=by
 unfold dF
 rw [abD];rfl
structure vD (n k:Nat) (d:Pr):Prop where
 a:eB n d.1
 b:eB k d.2
theorem wM (D:List Pr) (h:∀ d∈D,vD 900 900 d):∀ j,j<=D.length->Bd (1802 * j+2) (dF (D.take j)).1/\Bd (1800 * j+1) (dF (D.take j)).2/\0<(dF (D.take j)).2
 | 0,_=>⟨by show Int.natAbs 0<_;decide,by show Int.natAbs 1<_;decide,by show (0:Int)<1;decide⟩
 | j+1,f=>by
   obtain ⟨a,b,c⟩:=wM D h j (by lia)
   have H:=h D[j] (aar (by lia))
   have E:D.take (j+1)=D.take j++[D[j]]:=by rw [acn,aI (by lia)];rfl
   rw [E,jh]
   generalize D[j]=d at H
   generalize dF (D.take j)=s at a b c
   have B:Bd 1800 (d.1.2 * d.2.2):=(H.a.b.mul H.b.b).mono (by decide)
   have e:Bd 1800 (d.1.1 * d.2.1):=(H.a.t.mul H.b.t).mono (by decide)
   refine ⟨?_,(b.mul B).mono (by lia),aaK c (aaK H.a.p H.b.p)⟩
   have x:Bd (1802 * j+2+1800) (s.1 * (d.1.2 * d.2.2)):=a.mul B
   have X:Bd (1802 * j+2+1800) (d.1.1 * d.2.1 * s.2):=(e.mul b).mono (by lia)
   exact (x.add X).mono (by lia)
def Jc {D:List Pr} (h:∀ d∈D,vD 900 900 d):0<(dF D).2:=by
 have:=(wM D h D.length (aaj _)).2.2
 rw [aaA] at this
 exact this
theorem sU {n:Nat}:∀ (es D:List Pr) {k:Nat},(∀ d∈es,Bd n (d.1.2 * d.2.2))->Bd k (dF D).2->Bd (k+n * es.length) (dF (D++es)).2
 | [],D,k,_,h=>by rw [abf];exact h.mono (by lia)
 | e::es,D,k,H,h=>by
   have E:D++e::es=(D++[e])++es:=by rw [abi];rfl
   rw [E]
   have a:Bd (k+n) (dF (D++[e])).2:=by
     rw [jh]
     exact h.mul (H e aas)
   have:=sU es (D++[e]) (λ d b=>H d (aai _ b)) a
   refine this.mono ?_
   rw [aaX,Nat.mul_succ]
   lia
def JS {t b t' b':Int} (H:0<b) (D:0<b') (h:t * b'=t' * b):nf t b=nf t' b':=by
 have F:=hJ (t:=t) H
 have G:=hJ (t:=t') D
 have c:(nf t b).1 * b=t * (nf t b).2:=F.jV
 have C:(nf t' b').1 * b'=t' * (nf t' b').2:=G.jV
 have p:=F.pos
 have a:=G.pos
 have k:=F.RX
 have K:=G.RX
 generalize nf t b=u at c p k |-
 generalize nf t' b'=v at C a K |-
 have e:u.1 * v.2=v.1 * u.2:=by
   have g:b * b'≠0:=ab0 (aaK H D)
   refine abr g ?_
   grind
 have d:u.2 ∣ v.2:=sN (q:=u.1) ⟨v.1,by rw [e,ach]⟩ k
 have f:v.2 ∣ u.2:=sN (q:=v.1) ⟨u.1,by rw [<- e,ach]⟩ K
 have E:u.2=v.2:=Int.dvd_antisymm (aba p) (aba a) d f
 rw [<- E] at e
 exact Prod.ext (abr (ab0 p) e) E
abbrev Gj (d:Pr):PyData:=.tuple [dJ d.1,dJ d.2]
def sY (d:Pr):eQ (Gj d)=true:=by simp [Gj,dJ,eQ]
def ui (D:List Pr):∀ e∈D.map Gj,eQ e=true:=λ e h=>by
 obtain ⟨d,Z,rfl⟩:=aaJ.mp h
 exact sY d
inductive KI (K:aD) (vs:aB) (H:Hp) (Q:VK) (_E:XK):Prop|mk (p xs ds:_) (_:vs=[.ref p]) (_:aT K H p xs) (_:bF K H (ds.map Gj) xs) (_:(∀ d∈ds,vD 900 900 d)) (_:ds.length<=10) (_:Bd 4000 (dF ds).2) (_:∀ q H',aG H H'->H' q=some (.tup [.int (nf (dF ds).1 (dF ds).2).1,.int (nf (dF ds).1 (dF ds).2).2])->Q (.ref q) H')
def di (m:ar) (i:Nat) (e:List cm):List Pr:=(List.range e.length).map λ j=>(m.share i j,e.getD j (0,1))
def fc (m:ar) (i:Nat) (e:List cm) (w:cm) (fired:Bool):List Pr:=di m i e++[(m.gE i,w)]++(if fired then [((1,1),((m.bw[i]?).getD none).map (·.1) |>.getD (0,1))] else [])
def jp (m:ar) (i:Nat) (e:List cm) (w:cm) (fired:Bool):cm:=nf (dF (fc m i e w fired)).1 (dF (fc m i e w fired)).2
inductive DJ (K:aD) (C:am) (vs:aB) (H:Hp) (Q:VK) (_E:XK):Prop|mk (a fp m:_) (i:Nat) (pa Qs eC wv w fired:_) (_:vs=[.ref a,aq i,.ref pa,wv,.bl fired]) (_:bv K C H a fp m) (_:i<m.rows.length) (_:aT K H pa Qs) (_:bF K H (eC.map dJ) Qs) (_:eC.length=m.rows.length) (_:(∀ f∈eC,eB 120 f)) (_:Dn K H (dJ w) wv) (_:eB 120 w) (_:(fired=true->∃ z,m.bw[i]?=some (some z))) (_:∀ q H',aG H H'->H' q=some (.tup [.int (jp m i eC w fired).1,.int (jp m i eC w fired).2])->Q (.ref q) H')
def GY {m:ar} (w:m.Wf) (h:m.rows.length<=4) (i j:Nat):eB 605 (m.share i j):=by
 unfold ar.share
 split
 . exact (w.gz i _).mono (by lia)
 . exact (w.j0 i j).mono (by decide)
def jr {m:ar} {i:Nat} {e:List cm} {w:cm} {fired:Bool} (W:m.Wf) (o:m.rows.length<=4) (L:e.length=m.rows.length) (p:∀ f∈e,eB 120 f) (hw:eB 120 w) (q:fired=true->∃ z,m.bw[i]?=some (some z)) :
   (∀ d∈fc m i e w fired,vD 900 900 d)/\(fc m i e w fired).length<=10/\Bd 4000 (dF (fc m i e w fired)).2:=by
 have r:∀ d∈di m i e,vD 605 120 d:=λ d H=>by
   obtain ⟨j,c,rfl⟩:=aaJ.mp H
   have c:=aaD.mp c
   refine ⟨GY W o i j,?_⟩
   show eB 120 (e.getD j (0,1))
   rw [Qm,aI c]
   exact p _ (aar c)
 have t:(di m i e).length<=4:=by unfold di;rw [M1,aak];lia
 have s:vD 100 120 (m.gE i,w):=⟨W.gE i,hw⟩
 have l:Bd 1 (dF []).2:=by show Int.natAbs 1<2 ^ 1;decide
 have g:Bd (1+725 * (di m i e).length) (dF (di m i e)).2:=sU (n:=725) (di m i e) [] (λ d H=>(r d H).a.b.mul (r d H).b.b) l
 have B:Bd (2901+220 * 1) (dF (di m i e++[(m.gE i,w)])).2:=sU (n:=220) [(m.gE i,w)] (di m i e) (λ d H=>by rw [aac.mp H];exact s.a.b.mul s.b.b) (g.mono (by lia))
 unfold fc
 cases fired with
 | false =>
   rw [aap aaE,abf]
   refine ⟨λ d H=>?_,by rw [aab];simp only [aaX,ac8];lia,B.mono (by decide)⟩
   rcases aau.mp H with h|h
   . exact ⟨(r d h).a.mono (by decide),(r d h).b.mono (by decide)⟩
   . rw [aac.mp h];exact ⟨s.a.mono (by decide),s.b.mono (by decide)⟩
 | true =>
   obtain ⟨z,E⟩:=q rfl
   rw [aan rfl,E]
   have O:eB 100 z.1:=W.bw z (aae E)
   have S:vD 2 100 (((1,1),z.1):Pr):=⟨⟨by show Int.natAbs 1<2 ^ 2;decide,by show Int.natAbs 1<2 ^ 2;decide,by show (0:Int)<1;decide⟩,O⟩
   have k:Bd (3121+102 * 1) (dF ((di m i e++[(m.gE i,w)])++[((1,1),z.1)])).2:=sU (n:=102) [((1,1),z.1)] _ (λ d H=>by rw [aac.mp H];exact S.a.b.mul S.b.b) B
   refine ⟨λ d H=>?_,by rw [aab,aab];simp only [aaX,ac8];lia,k.mono (by decide)⟩
   rcases aau.mp H with h|h
   . rcases aau.mp h with h|h
     . exact ⟨(r d h).a.mono (by decide),(r d h).b.mono (by decide)⟩
     . rw [aac.mp h];exact ⟨s.a.mono (by decide),s.b.mono (by decide)⟩
   . rw [aac.mp h];exact ⟨S.a.mono (by decide),S.b.mono (by decide)⟩
def k8 (f:Nat->Int):Nat->Int
 | 0=>0
 | t+1=>k8 f t+f t
def bR.XY (t:bR) (i:Nat):Int:=((t.pI[i]?).map (·.1)).getD 0
def bR.Zc (t:bR) (i j:Nat):Int:=if i=j then 0 else (t.cg i j).getD 0
section
variable {X:Cx}
def VD (K:aD) (t:TA):TI:=λ U H R=>t U H λ v h=>∃ a,v=[.ref a]/\(((∃ x,aT K h a x)/\R (Es (aT K) a) h)\/((∃ x,bY K h a x)/\R (Es (bY K) a) h))
def ED {a:Expr} {t:TA} {p g y:Pos} {E:List Expr} {G:Nat} (v:Gl X "enumerate") (w:X.mg "enumerate" = none) (u:PA X [a] t) (x:autoParam (starEach [a] X.env=[(false,eval a X.env)]) za_._auto_1) :
   PI X (.Tuple E G y) (.Call (.Name "enumerate" p) [a] [] g) (VD X.K t):=by
 intro f s U H R I h
 refine Call_ ?_
 refine jB I v w ke ?_ KL Lu
 refine abb ?_ x rfl
 refine cU (u g f s U H _ I h) λ M S ⟨V,n,i,A,Q⟩=>?_
 obtain ⟨a,e,q⟩:=Q
 subst e
 cases A with
 | cons r C =>
   cases C
   obtain rfl:_=Value.ref a:=r
   have F:∀ c∈[S.heap.objs.size+1,S.heap.objs.size],S.heap.objs.size<=c:=λ c b=>by
     simp only [aaa,aad,aaR] at b
     rcases b with rfl|rfl
     . exact acb _
     . exact aaj _
   rcases q with ⟨⟨J,j⟩,q⟩|⟨⟨J,j⟩,q⟩
   . obtain ⟨B,D,d,L⟩:=i.list j
     have l:a<S.heap.objs.size:=by obtain ⟨Z,e,Z⟩:=d.isList;exact aaw e
     refine call_enumerate_list d.isList λ o z m N k=>ab9 z ?_
     exact ⟨S.heap.objs.size+1,[S.heap.objs.size+1,S.heap.objs.size],_,_,n,rfl,i.kept (t':=S.toks) k,Ab (acV _) (aaN (acM l)) (aaN l),⟨⟨_,z⟩,m⟩,λ c b=>i.yD (F c b) (i.dR.fresh (F c b)),q⟩
   . obtain ⟨B,D,d,L⟩:=i.tuple j
     have l:a<S.heap.objs.size:=d.lt
     refine tO d λ o z m k=>ab9 z ?_
     exact ⟨S.heap.objs.size+1,[S.heap.objs.size+1,S.heap.objs.size],_,_,n,rfl,i.kept (t':=S.toks) k,zI (acV _) (aaN (acM l)) (aaN l),⟨⟨_,z⟩,m⟩,λ c b=>i.yD (F c b) (i.dR.fresh (F c b)),q⟩
end
def eX (m:ar) (bs:aR) (d:Nat):List cm:=(List.range bs.length).map λ j=>(m.rows.getD j []).getD (bs.getD j 0+d) (0,1)
def jO (m:ar) (i:Nat):cm×cm×cm:=(m.bS[i]?).getD ((0,1),(0,1),(0,1))
def iW (m:ar) (i:Nat) (bs:aR) (fired:Bool):cm:=jp m i (eX m bs 0) (jO m i).2.1 fired
def iZ (m:ar) (i:Nat) (bs:aR) (fired:Bool):cm:=jp m i (eX m bs 1) (jO m i).2.2 fired
inductive Iy (K:aD) (C:am) (vs:aB) (H:Hp) (Q:VK) (_E:XK):Prop|mk (a fp m:_) (i:Nat) (pb bs fired:_) (_:vs=[.ref a,aq i,.ref pb,.bl fired]) (_:bv K C H a fp m) (_:i<m.rows.length) (_:(aT K H pb (bs.map aq)\/bY K H pb (bs.map aq))) (_:bs.length=m.rows.length) (_:(∀ j,j<m.rows.length->bs.getD j 0+1<(m.rows.getD j []).length)) (_:(fired=true->∃ z,m.bw[i]?=some (some z))) (_:∀ q q1 q2 H',aG H H'->H' q=some (.tup [.ref q1,.ref q2])->H' q1=some (.tup [.int (iW m i bs fired).1,.int (iW m i bs fired).2])->H' q2=some (.tup [.int (iZ m i bs fired).1,.int (iZ m i bs fired).2])->Q (.ref q) H')
def kD {m:ar} {bs:aR} (w:m.Wf) (L:bs.length=m.rows.length) (a:∀ j,j<m.rows.length->bs.getD j 0+1<(m.rows.getD j []).length) {d:Nat} (c:d<=1):∀ f∈eX m bs d,eB 120 f:=λ f b=>by
 obtain ⟨j,h,rfl⟩:=aaJ.mp b
 have h:=aaD.mp h
 have q:=a j (by lia)
 have H:j<m.rows.length:=by lia
 rw [Qm (l:=m.rows),aI H] at q |-
 have q:bs.getD j 0+1<m.rows[j].length:=q
 show eB 120 (m.rows[j].getD (bs.getD j 0+d) (0,1))
 rw [Qm,aI (by lia)]
 exact (w.rows m.rows[j] (aar H) _ (aar _)).mono (by decide)
def bR.kT (t:bR) (n i j:Nat):Int:=if j=i then 12 - t.XY i - k8 (t.Zc i) n else t.Zc i j
def bR.X (t:bR) (n i:Nat) (x:Nat->Int) (a:Int):Int:=k8 (λ j=>t.kT n i j * x j) n+t.XY i * a
def bR.TH (t:bR) (j b:Nat):Int:=(t.marks.getD j []).getD b 0
def bR.xl (t:bR) (bs:aR) (d j:Nat):Int:=t.TH j (bs.getD j 0+d)
def bR.Pz (t:bR) (i:Nat):Int×Int×Int:=(t.pI[i]?).getD (0,0,0)
def bR.W8 (t:bR) (i:Nat):Int:=(((t.bw[i]?).getD none).map (·.1)).getD 0
def bR.sX (t:bR) (n i:Nat) (bs:aR) (d:Nat) (x:Int) (fired:Bool):Int:=t.X n i (t.xl bs d) x+(if fired then 12 * t.W8 i else 0)
def d9 {a:TS} {U:L2.St} (h:let d:L2.Ends:=D;let z:L2.St:=U;let R:TS:=a3;let r:TS:=aY a2 R;aY a r d z H):(aY a (aY a2 (a3))) D U H:=h
def eP {a:TS} {U:L2.St} (h:let d:L2.Ends:=D;let z:L2.St:=U;let b:TS:=a4;let R:TS:=aY a3 b;let r:TS:=aY a2 R;aY a r d z H):(aY a (aY a2 (aY a3 (a4)))) D U H:=h
def pE {a:TS} {U:L2.St} (h:let d:L2.Ends:=D;let z:L2.St:=U;let c:TS:=a5;let b:TS:=aY a4 c;let R:TS:=aY a3 b;let r:TS:=aY a2 R;aY a r d z H):(aY a (aY a2 (aY a3 (aY a4 (a5))))) D U H:=h
def lH {a:TS} {U:L2.St} (h:let d:L2.Ends:=D;let z:L2.St:=U;let e:TS:=a6;let c:TS:=aY a5 e;let b:TS:=aY a4 c;let R:TS:=aY a3 b;let r:TS:=aY a2 R;aY a r d z H):(aY a (aY a2 (aY a3 (aY a4 (aY a5 (a6)))))) D U H:=h
def zB {a:TS} {U:L2.St} (h:let d:L2.Ends:=D;let z:L2.St:=U;let g:TS:=a8;let f:TS:=aY a7 g;let e:TS:=aY a6 f;let c:TS:=aY a5 e;let b:TS:=aY a4 c;let R:TS:=aY a3 b;let r:TS:=aY a2 R;aY a r d z H):(aY a (aY a2 (aY a3 (aY a4 (aY a5 (aY a6 (aY a7 (a8)))))))) D U H:=h
def Gm {a:TS} {U:L2.St} (h:let d:L2.Ends:=D;let z:L2.St:=U;let i:TS:=a9;let g:TS:=aY a8 i;let f:TS:=aY a7 g;let e:TS:=aY a6 f;let c:TS:=aY a5 e;let b:TS:=aY a4 c;let R:TS:=aY a3 b;let r:TS:=aY a2 R;aY a r d z H):(aY a (aY a2 (aY a3 (aY a4 (aY a5 (aY a6 (aY a7 (aY a8 (a9))))))))) D U H:=h
def C4 {a:TS} {U:L2.St} (h:let d:L2.Ends:=D;let z:L2.St:=U;let j:TS:=Et;let i:TS:=aY a9 j;let g:TS:=aY a8 i;let f:TS:=aY a7 g;let e:TS:=aY a6 f;let c:TS:=aY a5 e;let b:TS:=aY a4 c;let R:TS:=aY a3 b;let r:TS:=aY a2 R;aY a r d z H):(aY a (aY a2 (aY a3 (aY a4 (aY a5 (aY a6 (aY a7 (aY a8 (aY a9 (Et)))))))))) D U H:=h
def CZ {a:TS} {U:L2.St} (h:let d:L2.Ends:=D;let z:L2.St:=U;let Q:TS:=RZ;let j:TS:=aY Et Q;let i:TS:=aY a9 j;let g:TS:=aY a8 i;let f:TS:=aY a7 g;let e:TS:=aY a6 f;let c:TS:=aY a5 e;let b:TS:=aY a4 c;let R:TS:=aY a3 b;let r:TS:=aY a2 R;aY a r d z H):(aY a (aY a2 (aY a3 (aY a4 (aY a5 (aY a6 (aY a7 (aY a8 (aY a9 (aY Et (RZ))))))))))) D U H:=h
def C1 {a Y X:TS} {U:L2.St} (h:let d:L2.Ends:=D;let z:L2.St:=U;let r:TS:=X;let Z:TS:=aY Y r;let Q:TS:=aY RZ Z;let k:TS:=aY Et Q;let j:TS:=aY a9 k;let i:TS:=aY a8 j;let g:TS:=aY a7 i;let f:TS:=aY a6 g;let e:TS:=aY a5 f;let c:TS:=aY a4 e;let b:TS:=aY a3 c;let R:TS:=aY a2 b;aY a R d z H):(aY a (aY a2 (aY a3 (aY a4 (aY a5 (aY a6 (aY a7 (aY a8 (aY a9 (aY Et (aY RZ (aY Y (X))))))))))))) D U H:=h
@[elab_as_elim] theorem JN {α:Type} {motive:List α->Prop} {us:List α} (h:us.length=1) (k:∀ a,motive [a]):motive us :=
 dD h λ a _ h=>aa4 h ▸ k a
@[elab_as_elim] theorem GO {α:Type} {motive:List α->Prop} {us:List α} (h:us.length=2) (k:∀ a b,motive [a,b]):motive us :=
 dD h λ a _ h=>dD h λ b _ h=>aa4 h ▸ k a b
@[elab_as_elim] theorem JQ {α:Type} {motive:List α->Prop} {us:List α} (h:us.length=3) (k:∀ a b c,motive [a,b,c]):motive us :=
 dD h λ a _ h=>dD h λ b _ h=>dD h λ c _ h=>aa4 h ▸ k a b c
@[elab_as_elim] theorem Fb {α:Type} {motive:List α->Prop} {us:List α} (h:us.length=4) (k:∀ a b c d,motive [a,b,c,d]):motive us :=
 dD h λ a _ h=>dD h λ b _ h=>dD h λ c _ h=>dD h λ d _ h=>aa4 h ▸ k a b c d
@[elab_as_elim] theorem JU {α:Type} {motive:List α->Prop} {us:List α} (h:us.length=5) (k:∀ a b c d e,motive [a,b,c,d,e]):motive us :=
 dD h λ a _ h=>dD h λ b _ h=>dD h λ c _ h=>dD h λ d _ h=>dD h λ e _ h=>aa4 h ▸ k a b c d e
@[elab_as_elim] theorem FC {α:Type} {motive:List α->Prop} {us:List α} (h:us.length=6) (k:∀ a b c d e f,motive [a,b,c,d,e,f]):motive us :=
 dD h λ a _ h=>dD h λ b _ h=>dD h λ c _ h=>dD h λ d _ h=>dD h λ e _ h=>dD h λ f _ h=>aa4 h ▸ k a b c d e f
@[elab_as_elim] theorem JO {α:Type} {motive:List α->Prop} {us:List α} (h:us.length=7) (k:∀ a b c d e f g,motive [a,b,c,d,e,f,g]):motive us :=
 dD h λ a _ h=>dD h λ b _ h=>dD h λ c _ h=>dD h λ d _ h=>dD h λ e _ h=>dD h λ f _ h=>dD h λ g _ h=>aa4 h ▸ k a b c d e f g
def lc {s:Scope} {x:Str} (h:(match s.names.lookup x with|some .local=>true|some .cell=>true|_=>false)=true):Loc s x:=by
 unfold Loc
 split at h
 . rename_i e;exact .inl e
 . rename_i e;exact .inr e
 . cases h
def c8.m {j k:Nat} {A:Around} (r:c8 k A) (h:j<=k:=by first|decide|lia):c8 j A:=r.mono h
section
variable {P:bE} {w:bz} {K:aD} {mg:dW} {base:bG} {x qual:Str} {st:Stmt} {N ps:cZ} {k:Nat} {sp:Sp} {C:am}
def gF.cN (h:gF K mg x st) (S:aC N ps (av st)) (g:∀ (f:am) (b:az) (A:Around) (outer:List Env) (s:Shared) (H:Hp) (vs:aB) (Q:VK) (E:XK),c8 k (A.deeper (envOfC x (av st) s.heap.objs.size f b))->sp vs H Q E ->
     ∃ t,vH (qg yn P w K mg base N x (av st) f b A outer s H E).Ev (ci st) t/\t { nx:=λ Z c=>Q .cL c,rt:=Q } (start N vs) H) (len:∀ vs H Q E,sp vs H Q E->vs.length=ps.length:=by intro Z Z Z Z h;first|(cases h;subst_vars;rfl)|(obtain ⟨Z,rfl,Z⟩:=h;rfl)|(obtain ⟨Z,Z,rfl,Z⟩:=h;rfl)|(obtain ⟨Z,Z,Z,rfl,Z⟩:=h;rfl)|(obtain ⟨Z,Z,Z,Z,rfl,Z⟩:=h;rfl)|(obtain ⟨Z,Z,Z,Z,Z,rfl,Z⟩:=h;rfl)) (i:∀ (kV d p:az) (e:Option am) (b ct:az) (us:bM),us.length=ps.length->bindArgs (W.fnOf x x (c9 st) (ci st) (av st) .none kV d p e b ct) ⟨us,[]⟩=pure (ps.zip us):=by intro Z Z Z Z Z Z us a;first|exact JN a λ Z=>rfl|exact GO a λ Z Z=>rfl|exact JQ a λ Z Z Z=>rfl|exact Fb a λ Z Z Z Z=>rfl|exact JU a λ Z Z Z Z Z=>rfl|exact FC a λ Z Z Z Z Z Z=>rfl|exact JO a λ Z Z Z Z Z Z Z=>rfl):Def P w K mg base x (k+1) ps sp:=h.def S len i g
def f6.fK {m:Str} (h:f6 K C m qual st .none) (S:aC N ps (av st)) (g:∀ (f:am) (b:az) (A:Around) (outer:List Env) (s:Shared) (H:Hp) (vs:aB) (Q:VK) (E:XK),c8 k (A.deeper (envOfC qual (av st) s.heap.objs.size f b))->sp vs H Q E ->
     ∃ t,vH (qg yn P w K mg base N qual (av st) f b A outer s H E).Ev (ci st) t/\t { nx:=λ Z c=>Q .cL c,rt:=Q } (start N vs) H) (len:∀ vs H Q E,sp vs H Q E->vs.length=ps.length:=by intro Z Z Z Z h;first|(cases h;subst_vars;rfl)|(obtain ⟨Z,rfl,Z⟩:=h;rfl)|(obtain ⟨Z,Z,rfl,Z⟩:=h;rfl)|(obtain ⟨Z,Z,Z,rfl,Z⟩:=h;rfl)|(obtain ⟨Z,Z,Z,Z,rfl,Z⟩:=h;rfl)|(obtain ⟨Z,Z,Z,Z,Z,rfl,Z⟩:=h;rfl)) (i:∀ (kV d p:az) (e:Option am) (b ct:az) (us:bM),us.length=ps.length->bindArgs (W.fnOf m qual (c9 st) (ci st) (av st) .none kV d p e b ct) ⟨us,[]⟩=pure (ps.zip us):=by intro Z Z Z Z Z Z us a;first|exact JN a λ Z=>rfl|exact GO a λ Z Z=>rfl|exact JQ a λ Z Z Z=>rfl|exact Fb a λ Z Z Z Z=>rfl|exact JU a λ Z Z Z Z Z=>rfl|exact FC a λ Z Z Z Z Z Z=>rfl|exact JO a λ Z Z Z Z Z Z Z=>rfl):gM P w K mg base C m (k+1) ps [] sp:=h.Ig S len i g
end
inductive A3 (a b c:Prop):Prop|mk (_:a) (_:b) (_:c)
inductive A4 (a b c d:Prop):Prop|mk (_:a) (_:b) (_:c) (_:d)
inductive A5 (a b c d e:Prop):Prop|mk (_:a) (_:b) (_:c) (_:d) (_:e)
inductive A6 (a b c d e f:Prop):Prop|mk (_:a) (_:b) (_:c) (_:d) (_:e) (_:f)
inductive E2 {a b:Type} (p:a->b->Prop):Prop|mk (x:a) (y:b) (_:p x y)
inductive E3 {a b c:Type} (p:a->b->c->Prop):Prop|mk (x:a) (y:b) (z:c) (_:p x y z)
inductive E4 {a b c d:Type} (p:a->b->c->d->Prop):Prop|mk (x:a) (y:b) (z:c) (u:d) (_:p x y z u)
inductive E5 {a b c d e:Type} (p:a->b->c->d->e->Prop):Prop|mk (x:a) (y:b) (z:c) (u:d) (v:e) (_:p x y z u v)
section
variable {K:aD} {H H':Hp} {s:cr} {g:Int}
def f9.ts {p:am} (h:f9 K H p s) (t:aQ K H H'):f9 K H' p s:=by
 obtain ⟨e,g,f,a,b,c,d⟩:=h
 exact ⟨e,g,f,t _ _ a,t _ _ b,t _ _ c,t _ _ d⟩
end
def wJ {m:ar} {s:cr} {o:Nat} (h:m.rows.length<=4):s.may m o<16:=aav (Ord.Bh _ _) (abq (by decide) h:2 ^ m.rows.length<=2 ^ 4)
def bv.Ir {K:aD} {C:am} {d:Hp} {a x:am} {f:bK} {m:ar} (h:bv K C H a f m) (st:∀ b o,H b=some o->b≠x->d b=some o) (t:aQ K H d) (nx:x∉f):bv K C d a f m:=by
 obtain ⟨⟨N,k,p,l,n,V,S,T,A,rfl,u,J,y,M,I,w,B,E,G,q,r,s,D,F⟩,Q,L,O,R⟩:=h
 have g:∀ {c o},H c=some o->c∈[a,N,k,p,l,n]->d c=some o:=λ {c o} e v=>st c o e (λ z=>nx (z ▸ v))
 exact ⟨⟨N,k,p,l,n,V,S,T,A,rfl,g u (by simp),g J (by simp),g y (by simp),g M (by simp),g I (by simp),g w (by simp),B,E,G,mO t q,jW t r,iP t s,λ i j=>(D i j).ts t,F⟩,Q,L,O,R⟩
def bR.Yc (t:bR) (i:Nat) (z lo h:Int):Prop:=0<=z/\z<((t.marks.getD i []).length:Int) - 1/\12 * t.TH i z.toNat<=h/\lo<=12 * t.TH i (z.toNat+1)
instance {t:bR} {i:Nat} {z lo h:Int}:Decidable (t.Yc i z lo h):=by unfold bR.Yc;infer_instance
def bR.s0 (t:bR) (n i:Nat) (bs:aR) (f:Bool):Int:=t.sX n i bs 0 (t.Pz i).2.1 f
def bR.s1 (t:bR) (n i:Nat) (bs:aR) (f:Bool):Int:=t.sX n i bs 1 (t.Pz i).2.2 f
theorem bv.some {K:aD} {C:am} {a:am} {f:bK} {m:ar} (h:bv K C H a f m):∀ c∈f,∃ o,H c=some o:=by
 obtain ⟨⟨N,g,p,k,l,v,V,n,A,rfl,d,j,e,M,i,I,Z⟩,Z⟩:=h
 intro c b
 simp only [aaa,aad,aaR] at b
 rcases b with rfl|rfl|rfl|rfl|rfl|rfl
 . exact ⟨_,d⟩
 . exact ⟨_,j⟩
 . exact ⟨_,e⟩
 . exact ⟨_,M⟩
 . exact ⟨_,i⟩
 . exact ⟨_,I⟩
def lV (s:cr):PyData:=.tuple [.tuple (s.aF.map jw),jw s.cC,.tuple (s.ib.map jw),.tuple (s.failed.map jw),jw s.heap]
end L2
namespace PySem
open Sem (wp)
mutual
def kd:PyData->Bool
 | .bool _=>true
 | .int _=>true
 | .tuple d=>yp d
 | _=>false
def yp:List PyData->Bool
 | []=>true
 | d::D=>kd d && yp D
end
mutual
def sQ:PyData->PyData
 | .bool b => .int (if b then 1 else 0)
 | .tuple D => .tuple (nc D)
 | d=>d
def nc:List PyData->List PyData
 | []=>[]
 | d::D=>sQ d::nc D
end
mutual
def vG:PyData->Nat
 | .tuple d=>vp d+1
 | _=>0
def vp:List PyData->Nat
 | []=>0
 | d::D=>max (vG d) (vp D)
end
mutual
def rT:PyData->Int
 | .int i=>hashInt i
 | .bool b=>hashInt (if b then 1 else 0)
 | .tuple d=>reduceHash (Builtin.Tuple.tupleHashOf (lU d))
 | _=>0
def lU:List PyData->List Int
 | []=>[]
 | d::D=>rT d::lU D
end
mutual
def rP:PyData->Nat
 | .tuple d=>oF d+1
 | _=>1
def oF:List PyData->Nat
 | []=>0
 | d::D=>rP d+oF D
end
mutual
theorem v9:∀ d,kd d=true->rT (sQ d)=rT d
 | .bool b,_=>by simp only [sQ,rT]
 | .int i,_=>by simp only [sQ,rT]
 | .tuple D,h=>by simp only [sQ,rT];rw [uw D h]
 | .none,_ | .str _,_ | .list _,_ | .dict _,_=>by simp only [sQ]
theorem uw:∀ D,yp D=true->lU (nc D)=lU D
 | [],_=>rfl
 | d::D,h=>by
   rw [yp,aaY] at h
   simp only [nc,lU]
   rw [v9 d h.1,uw D h.2]
end
mutual
theorem wz:∀ d,rP (sQ d)=rP d
 | .bool b=>by simp only [sQ,rP]
 | .tuple D=>by simp only [sQ,rP];rw [uK D]
 | .int _ | .none | .str _ | .list _ | .dict _=>by simp only [sQ]
theorem uK:∀ D,oF (nc D)=oF D
 | []=>rfl
 | d::D=>by
   simp only [nc,oF]
   rw [wz d,uK D]
end
mutual
theorem xN:∀ (d e:PyData),kd d=true->kd e=true->(PyData.eqv d e=true↔sQ d=sQ e)
 | .bool a,.bool b,_,_=>by cases a<;>cases b<;>simp [PyData.eqv,sQ]
 | .bool a,.int j,_,_=>by simp [PyData.eqv,sQ]
 | .int i,.bool b,_,_=>by simp [PyData.eqv,sQ]
 | .int i,.int j,_,_=>by simp [PyData.eqv,sQ]
 | .tuple xs,.tuple ys,h,k=>by
   simp only [PyData.eqv,sQ,PyData.tuple.injEq]
   exact zd xs ys h k
 | .bool _,.tuple _,_,_ | .int _,.tuple _,_,_ | .tuple _,.bool _,_,_ | .tuple _,.int _,_,_=>by simp [PyData.eqv,sQ]
theorem zd:∀ (D es:List PyData),yp D=true->yp es=true->(PyData.eqvAll D es=true↔nc D=nc es)
 | [],[],_,_=>by simp [PyData.eqvAll,nc]
 | [],_::_,_,_=>by simp [PyData.eqvAll,nc]
 | _::_,[],_,_=>by simp [PyData.eqvAll,nc]
 | d::D,e::es,h,k=>by
   rw [yp,aaY] at h k
   simp only [PyData.eqvAll,nc,aaY,adF]
   rw [xN d e h.1 k.1,zd D es h.2 k.2]
end
section
variable {prog:bE} {w:bz} {E:az->Shared->Prop}
mutual
theorem tE:∀ (d:PyData) (v:az) (as:bK) (A:Around) (s:Shared) (Q:Int->Shared->Prop),kd d=true->Reads s.heap v d as->A.units+vG d<cLine ->
   Q (rT d) { s with toks:=s.toks+rP d }->wpAny (model prog w) A (pyHash v) Q E s
 | .int i,_,_,A,s,Q,_,x,_,h=>by cases x;exact wpAny_pyHash_int h
 | .bool b,_,_,A,s,Q,_,x,e,h=>by
   cases x
   refine W.pyHash_slot (T:="bool") rfl F.slot_bool_hash entry_int_hash (args_int_hash _) (beq_builtin_none _) (.inl rfl) ?_
   cases b
   . exact (show wpAny _ _ (do ret (<- mkInt 0)) _ _ s from aah (wpAny_mkInt (aaB ⟨_,_,rfl,h⟩)))
   . exact (show wpAny _ _ (do ret (<- mkInt 1)) _ _ s from aah (wpAny_mkInt (aaB ⟨_,_,rfl,h⟩)))
 | .tuple D,_,_,A,s,Q,H,x,e,h=>by
   cases x with
   | @tuple a o vs n _ _ c g j k =>
     rw [vG] at e
     refine W.pyHash_slot (T:="tuple") ⟨_,c,g⟩ F.slot_tuple_hash F.entry_tuple_hash (F.args_tuple_hash_1 _) (beq_builtin_none _) (.inr (by lia)) ?_
     show wpAny _ _ (Builtin.Tuple.tupleItemsOf (.ref a) >>= _) _ _ s
     refine aah (wpAny_tupleItemsOf c j ?_)
     refine aah ?_
     rw [<- acD]
     refine rL D vs.toList _ A.in1 s #[] _ H k (by rw [acz];lia) λ b f=>?_
     show wpAny _ _ (retInt (Builtin.Tuple.tupleHashOf b.toList)) _ _ _
     rw [f]
     exact aah (wpAny_mkInt (aaB ⟨_,_,rfl,h⟩))
 | .none,_,_,_,_,_,H,_,_,_ | .str _,_,_,_,_,_,H,_,_,_ | .list _,_,_,_,_,_,H,_,_,_ | .dict _,_,_,_,_,_,H,_,_,_=>by rw [kd] at H<;>first|cases H|nofun
theorem rL:∀ (D:List PyData) (vs:bM) (as:bK) (A:Around) (s:Shared) (b:Array Int) (Q:Array Int->Shared->Prop),yp D=true->ReadsAll s.heap vs D as->A.units+vp D<cLine ->
   (∀ B,B.toList=b.toList++lU D->Q B { s with toks:=s.toks+oF D }) ->
   wpAny (model prog w) A (forIn vs b λ x r=>do let h <- pyHash x;pure PUnit.unit;pure (ForInStep.yield (r.push h))) Q E s
 | [],_,_,A,s,b,Q,_,x,_,h=>by cases x;exact aaB (h b (by simp [lU]))
 | d::D,_,_,A,s,b,Q,H,x,c,h=>by
   cases x with
   | cons X e =>
     rw [yp,aaY] at H
     rw [vp] at c
     rw [ac9]
     refine aah (aah (tE d _ _ A s _ H.1 X (by lia) ?_))
     refine aah (aaB (aaB ?_))
     exact rL D _ _ A { s with toks:=s.toks+rP d } _ Q H.2 e (by lia) λ B a=>by
       have:=h B (by simp [a,lU])
       rw [oF,<- Nat.add_assoc] at this
       exact this
end
theorem rV:∀ (n:Nat) (d:PyData) (v:az) (as:bK) (A:Around) (s:Shared) (Q:Bool->Shared->Prop),kd d=true->vG d<=n->Reads s.heap v d as->Q true s->wpAny (model prog w) A (eqIsQuiet n v) Q E s
 | n,.int i,_,_,A,s,Q,_,_,x,h=>by cases x;rw [eqIsQuiet_byValue n rfl];exact aaB h
 | n,.bool i,_,_,A,s,Q,_,_,x,h=>by cases x;rw [eqIsQuiet_byValue n rfl];exact aaB h
 | 0,.tuple D,_,_,A,s,Q,_,f,_,_=>by rw [vG] at f;lia
 | n+1,.tuple D,_,_,A,s,Q,H,f,x,h=>by
   cases x with
   | @tuple a o vs m _ _ c j q k =>
     rw [vG] at f
     unfold eqIsQuiet
     refine aah (wpAny_specialOf ⟨_,c,j⟩ F.slot_tuple_eq.lookup ?_)
     show wpAny _ _ (isInstance (.ref a) (.type "tuple") >>= _) _ _ s
     refine aah (wpAny_isInstance ⟨_,c,j⟩ isSubtype_tuple_tuple ?_)
     simp only [Bool.not_true,abI,acA]
     refine aah (acx c q ?_)
     refine aah ?_
     show wpAny _ _ (forIn vs _ _) _ _ s
     rw [<- acD]
     refine wpAny_forIn_list _ (λ rest r s'=>r.1=none/\s'=s/\∃ es U,yp es=true/\vp es<=n/\ReadsAll s.heap rest es U) _ ?_ ?_ _ _ ⟨rfl,rfl,D,_,H,by lia,k⟩
     .
      rintro v rest r s' ⟨k,rfl,es,U,b,l,p⟩
      cases p with
      | @cons _ _ e es _ _ X t =>
        rw [yp,aaY] at b
        rw [vp] at l
        refine aah (rV n e v _ _ _ _ b.1 (by lia) X ?_)
        simp only [Bool.not_true,abI,acA]
        exact aaB ⟨rfl,rfl,es,_,b.2,by lia,t⟩
     . rintro ⟨R,u⟩ s' ⟨g,rfl,Z⟩
       have g:R=none:=g
       subst g
       exact aaB h
 | _,.none,_,_,_,_,_,H,_,_,_|_,.str _,_,_,_,_,_,H,_,_,_|_,.list _,_,_,_,_,_,H,_,_,_|_,.dict _,_,_,_,_,_,H,_,_,_=>by rw [kd] at H<;>first|cases H|nofun
def Gq {a b:am} {d e:PyData} {as bs:bK} {A:Around} {s:Shared} {Q:Bool->Shared->Prop} (r:Reads s.heap (.ref a) d as) (R:Reads s.heap (.ref b) e bs) (H:SeqAt.shaped d=true) (c:SeqAt.shaped e=true) (k:kd d=true) (K:kd e=true) (f:A.units+64<cLine)
   (h:Q (PyData.eqv d e) s):wpAny (model prog w) A (eqBool (.ref a) (.ref b)) Q E s:=by
 unfold eqBool
 try with_reducible refine abW ?_
 show wpAny _ _ (if (Value.ref a == Value.ref b)=true then _ else _) Q E s
 by_cases M:(Value.ref a == Value.ref b)=true
 .
  rw [aan M]
  have z:a=b:=by have:=eq_of_beq M;injection this
  subst z
  obtain rfl:=(Reads.unique r _ _ R).1
  rw [(xN d d k k).mpr rfl] at h
  exact aah (wpAny_rule (aaB h))
 . rw [aap M]
   exact aah (show wpAny _ _ (compareOp .Eq (.ref a) (.ref b)) _ _ _ from SeqAt.compareEq_shaped r R H c f (abw h))
end
mutual
theorem nW {h h':bG} (f:∀ b o,h.get? b=some o->∀ n vs,o.data = .seq vs n->h'.get? b=some o):∀ (d:PyData) {v:az} {as:bK},kd d=true->Reads h v d as->Reads h' v d as
 | _,_,_,_,.none => .none
 | _,_,_,_,.bool b => .bool b
 | _,_,_,_,.int i t => .int i t
 | _,_,_,_,.str x t => .str x t
 | _,_,_,k,.tuple a c H e => .tuple (f _ _ a _ _ H) c H (rO f _ k e)
 | _,_,_,k,.list a c H e=>by rw [kd] at k<;>first|cases k|nofun
 | _,_,_,k,.dict a c H e g=>by rw [kd] at k<;>first|cases k|nofun
theorem rO {h h':bG} (H:∀ b o,h.get? b=some o->∀ n vs,o.data = .seq vs n->h'.get? b=some o):∀ (d:List PyData) {vs:bM} {as:bK},yp d=true->ReadsAll h vs d as->ReadsAll h' vs d as
 | _,_,_,_,.nil => .nil
 | _,_,_,k,.cons a c => .cons (nW H _ (acw.mp k).1 a) (rO H _ (acw.mp k).2 c)
end
noncomputable instance:DecidableEq PyData:=λ a b=>Classical.propDecidable (a=b)
def tQ (h:bG) (k:PyData) (a:am):Prop:=∃ d as,Reads h (.ref a) d as/\kd d=true/\SeqAt.shaped d=true/\vG d<=8/\sQ d=k
noncomputable def hZ (prog:bE) (w:bz):HeapKind prog w PyData where
 is:=tQ
 hash:=rT
 draws:=rP
 room:=λ A=>A.units+64<cLine
 inj:=λ ⟨d,_,r,_,_,_,e⟩ ⟨D,_,R,_,_,_,g⟩=>by
   obtain rfl:=(Reads.unique r _ _ R).1
   exact e.symm.trans g
 keeps:=λ {h B k a d o v u} x n l p=>by
   obtain ⟨x,as,r,K,c,f,e⟩:=x
   refine ⟨x,as,nW (λ b O q m V j=>?_) x K r,K,c,f,e⟩
   rw [p.2 b λ z=>?_]
   . exact q
   . subst z
     rw [n] at q
     cases q
     rw [l] at j
     cases j
 pyHash:=λ {A E s k a Q} H ⟨d,as,r,K,c,f,e⟩ h=>by
   subst e
   rw [v9 d K,wz d] at h
   exact tE d _ as A s Q K r (by lia) h
 eqBool:=λ {A E s x y a b Q} H ⟨d,as,r,K,c,f,e⟩ ⟨D,U,R,Y,i,t,g⟩ h=>by
   subst e g
   refine Gq r R c i K Y H ?_
   have q:PyData.eqv d D=decide (sQ d=sQ D):=by
     rw [ab1,decide_eq_true_iff]
     exact xN d D K Y
   rw [q]
   exact h
 quiet:=λ {A E s k a Q} ⟨d,as,r,K,c,f,e⟩ h=>rV 8 d _ as A s Q K f r h
end PySem
namespace L2
open PySem PySem.Spec PyProof.Rows Mth
variable {H H':Hp} {c c' cur:Nat} {v:V}
mutual
theorem BY:∀ d:PyData,kd d=true->eQ d=true
 | .bool _,_=>by simp [eQ]
 | .int _,_=>by simp [eQ]
 | .tuple D,h=>mG.mpr (yR D h)
 | .none,h | .str _,h | .list _,h | .dict _,h=>by rw [kd] at h<;>first|cases h|nofun
theorem yR:∀ D:List PyData,yp D=true->∀ d∈D,eQ d=true
 | [],_,d,h=>absurd h aad
 | e::D,h,d,m=>by
   rw [yp,aaY] at h
   rcases aaa.mp m with z|z
   . rw [z];exact BY e h.1
   . exact yR D h.2 d z
end
def gJ (K:aD) (H:Hp) (k:PyData) (b:am):Prop:=∃ d,Dn K H d (.ref b)/\kd d=true/\SeqAt.shaped d=true/\vG d<=8/\sQ d=k
theorem gJ.ts {K:aD} {k:PyData} {b:am} (s:aQ K H H') (h:gJ K H k b):gJ K H' k b:=by
 obtain ⟨d,c,a,e,f,g⟩:=h
 exact ⟨d,Dn.ts s d (BY d a) c,a,e,f,g⟩
section
variable {X:Cx} {pins:List (am×Obj)} {U:St} {H:Hp} {s:Shared}
def gJ.is {k:PyData} {b:am} (I:Inv X pins U H s) (h:gJ X.K H k b):tQ s.heap k b:=by
 obtain ⟨d,a,c,e,f,g⟩:=h
 obtain ⟨as,r⟩:=I.reads d a rfl
 exact ⟨d,as,r,c,e,f,g⟩
end
abbrev oK:=List (PyData×am×V)
abbrev XR:oK->List (PyData×am×az)->Prop:=Paired λ p q=>p.1=q.1/\p.2.1=q.2.1/\RelV p.2.2 q.2.2
def Y1 (P:bE) (w:bz) (a:am) (A:oK) (h:bG):Prop:=A.length<=sizeLine/\(a == sysModules)=false/\∃ x,XR A x /\
 ∃ o e E,h.get? a=some o/\o.ExactDict/\o.data = .dict e E/\e.toList=x.map (entryOfKey (hZ P w))/\(x.map (·.1)).Nodup
def kZ (P:bE) (w:bz) (a:am) (A:oK):HO:=.ext (Y1 P w a A)
def EC {P:bE} {w:bz} {h:bG} {a:am} {A:oK} (x:Y1 P w a A h):dA P w H h a (kZ P w a A):=by
 refine ⟨x,?_,λ c d ⟨z,y,X,r,o,b,E,e,q⟩ k=>⟨z,y,X,r,o,b,E,k o e,q⟩⟩
 obtain ⟨Z,Z,Z,Z,o,Z,Z,e,Z⟩:=x
 exact ⟨o,e⟩
noncomputable def iA (a:oK) (k:PyData):eG:=(a.find? λ x=>decide (x.1=k)).map (·.2.2)
noncomputable def fH (a:oK) (k:PyData) (b:am) (v:V):oK:=if (iA a k).isSome then a.map λ x=>if x.1=k then (x.1,x.2.1,v) else x else a++[(k,b,v)]
def uI {a:oK} {xs:List (PyData×am×az)} (r:XR a xs) (k:PyData):kX (iA a k) ((atKey xs k).map (·.2)):=by
 induction r with
 | nil=>exact True.intro
 | @cons p q d Q h t i =>
   obtain ⟨H,c,b⟩:=h
   unfold iA atKey at i |-
   rw [aa9,aa9,H]
   by_cases e:q.1=k
   . rw [aaH e];exact b
   . rw [aaq e];exact i
def Gr {a:oK} {xs:List (PyData×am×az)} (r:XR a xs) (k:PyData) {b:am} {u:az} (R:RelV v u):XR (fH a k b v) (storedH xs k b u):=by
 unfold fH storedH
 have e:(iA a k).isSome=(atKey xs k).isSome:=by rw [(uI r k).qA,ads]
 rw [e]
 by_cases q:(atKey xs k).isSome=true
 .
  rw [aan q,aan q]
  clear e q
  induction r with
  | nil=>exact .nil
  | @cons p q f Q h t i =>
    refine .cons ?_ i
    obtain ⟨H,c,d⟩:=h
    unfold putAt
    dsimp only
    by_cases e:q.1=k
    . rw [aan e,aan (H.trans e)];exact ⟨H,c,R⟩
    . rw [aap e,aap (λ z=>e (H.symm.trans z))];exact ⟨H,c,d⟩
 . rw [aap q,aap q]
   exact acL r ⟨rfl,rfl,R⟩
def uF (a:oK) (k:PyData) (b:am) (v:V):(fH a k b v).length<=a.length+1:=by
 unfold fH
 split<;>simp
def F0 {a:oK} {k:PyData} {b:am} {e:PyData×am×V} (h:e∈fH a k b v):(∃ E∈a,E.1=e.1/\E.2.1=e.2.1)\/e=(k,b,v):=by
 unfold fH at h
 split at h
 . obtain ⟨x,H,rfl⟩:=aaJ.mp h
   refine .inl ⟨x,H,?_⟩
   split<;>exact ⟨rfl,rfl⟩
 . rcases aau.mp h with z|z
   . exact .inl ⟨e,z,rfl,rfl⟩
   . exact .inr (aac.mp z)
def lW (a:oK) (k k':PyData) (b:am) (v:V):iA (fH a k b v) k'=if k'=k then some v else iA a k':=by
 unfold fH
 by_cases q:(iA a k).isSome=true
 .
  rw [aan q]
  by_cases e:k'=k
  .
   rw [aan e]
   subst e
   induction a with
   | nil=>simp [iA] at q
   | cons x a i =>
     unfold iA at i q |-
     rw [aaS,aa9]
     by_cases z:x.1=k'
     . rw [aan z,aaH z];rfl
     . rw [aap z,aaq z]
       rw [aa9,aaq z] at q
       exact i q
  .
   rw [aap e]
   clear q
   induction a with
   | nil=>rfl
   | cons x a i =>
     unfold iA at i |-
     rw [aaS,aa9,aa9]
     by_cases z:x.1=k
     . rw [aan z,aaq (λ y:x.1=k'=>e (y.symm.trans z))]
       exact i
     . rw [aap z]
       by_cases c:x.1=k'
       . rw [aaH c]
       . rw [aaq c]
         exact i
 .
  rw [aap q]
  have q:iA a k=none:=by simpa using q
  unfold iA at q |-
  rw [List.find?_append]
  by_cases e:k'=k
  . rw [aan e,e]
    have z:(a.find? λ x=>decide (x.1=k))=none:=by simpa using q
    rw [z,aa9,aaH rfl]
    rfl
  . rw [aap e,aa9,aaq (λ y=>e y.symm),List.find?_nil,Option.or_none]
structure io (P:bE) (w:bz) (K:aD) (H:Hp) (a:am) (aE:oK):Prop where
 ob:H a=some (kZ P w a aE)
 keys:∀ e∈aE,gJ K H e.1 e.2.1
def io.nil {P:bE} {w:bz} {K:aD} {a:am} (h:H a=some (kZ P w a [])):io P w K H a []:=⟨h,λ Z h=>absurd h aad⟩
def io.eE {P:bE} {w:bz} {K:aD} {a:am} {aE:oK} (x:io P w K H a aE) (t:aQ K H H') (e:H' a=H a):io P w K H' a aE:=⟨e.trans x.ob,λ y h=>(x.keys y h).ts t⟩
def io.same {P:bE} {w:bz} {K:aD} {a:am} {aE:oK} (x:io P w K H a aE) (s:aG H H'):io P w K H' a aE:=⟨s _ _ x.ob,λ y h=>(x.keys y h).ts s.ts⟩
def io.put {P:bE} {w:bz} {K:aD} {a b:am} {A:oK} {k:PyData} (x:io P w K H a A) (f:gJ K H k b):io P w K (upd H a (kZ P w a (fH A k b v))) a (fH A k b v):=by
 have t:aQ K H (upd H a (kZ P w a (fH A k b v))):=bT x.ob rfl
 refine ⟨af,λ e h=>?_⟩
 rcases F0 h with ⟨E,m,c,d⟩|rfl
 . rw [<- c,<- d];exact (x.keys E m).ts t
 . exact f.ts t
section
variable {X:Cx} {pins:List (am×Obj)} {U:St} {H:Hp} {s:Shared} {a b:am} {aE:oK} {k:PyData} {v:V}
def io.dict (I:Inv X pins U H s) (x:io X.prog X.w X.K H a aE):aE.length<=sizeLine/\(a == sysModules)=false/\∃ xs,XR aE xs/\s.heap.DictOfH (hZ X.prog X.w) a xs:=by
 obtain ⟨z,y,xs,r,o,f,E,g,i,j,k,n⟩:=(show dA X.prog X.w H s.heap a (kZ X.prog X.w a aE) from I.dR a _ x.ob).1
 refine ⟨z,y,xs,r,o,f,E,g,i,j,k,λ e b=>?_,n⟩
 have all:∀ {l:oK} {m:List (PyData×am×az)},XR l m->(∀ e∈l,gJ X.K H e.1 e.2.1)->∀ x∈m,tQ s.heap x.1 x.2.1:=by
   intro l m q
   induction q with
   | nil=>intro Z x h;exact absurd h aad
   | @cons p q v Q d t u =>
     intro c x h
     rcases aaa.mp h with e|h
     . subst e
       rw [<- d.1,<- d.2.1]
       exact (c p aas).is I
     . exact u (λ e b=>c e (aai _ b)) x h
 exact all r x.keys e b
def yh {A:Around} {P:bE} {w:bz} (h:A.units+65<cLine):(hZ P w).room A.in1:=by
 show A.in1.units+64<cLine
 rw [acz]
 lia
end
def Qd (P:bE) (w:bz) (K:aD) (t ty:TE):TE:=λ U H Q=>t U H λ x c=>ty U c λ y h=>∃ a b A k v,x = .ref a/\y = .ref b/\io P w K h a A/\gJ K h k b/\iA A k=some v/\Q v h
inductive Jq (P:bE) (w:bz) (K:aD) (y:V) (x:V) (H:Hp) (Q:VK):Prop|mk (a b aE k:_) (_:x = .ref a) (_:y = .ref b) (_:io P w K H a aE) (_:gJ K H k b) (_:Q (.bl (!(iA aE k).isSome)) H)
def PR (P:bE) (w:bz) (K:aD) (t ty T:TE):TS:=λ D U H=>T U H λ v c=>t U c λ x d=>ty U d λ y h=>∃ a b A k,x = .ref a/\y = .ref b/\io P w K h a A/\gJ K h k b/\A.length<sizeLine /\
 D.nx U (upd h a (kZ P w a (fH A k b v)))
def PF (P:bE) (w:bz):TE:=λ Z H Q=>∀ p,H p=none->Q (.ref p) (upd H p (kZ P w p []))
def c8.Kq {k:Nat} {A:Around} (r:c8 k A):A.units+65<cLine:=by have:=r.un;lia
section
variable {X:Cx} {o i e value:Expr} {pos pos':Pos} {td ty tv:TE} {P:bE} {w:bz} {K:aD}
def Ct (b:X.prog=P) (hw:X.w=w):PE X (.Dict [] [] pos) (PF P w):=by
 subst b hw
 exact λ p s U H Q I h=>wpAny_Dict_empty ⟨.ref s.heap.objs.size,_,I.laid (a:=s.heap.objs.size) (o:=kZ X.prog X.w s.heap.objs.size []) (t':=s.toks) (λ Z Z q=>aam _ q) (aaj _)
   (EC ⟨aaZ _,abE.mpr (acy (aaN I.big)),[],.nil,_,#[],0,aaQ _ rfl,⟨rfl,rfl,rfl⟩,rfl,rfl,aco⟩),rfl,h _ (I.dR.fresh (aaj _))⟩
def sP (m:X.prog=P) (hw:X.w=w) (l:X.K=K) (J:X.A.units+65<cLine) (t:PE X o td) (n:PE X i ty) (G:QU i):PE X (.Subscript o i pos) (Qd P w K td ty):=by
 subst m hw l
 intro c s U H Q I h
 refine IW PySem.F.slot_dict_getitem.lookup G (cU (t c s U H _ I h) λ u T ⟨x,e,j,R,N⟩=>cU (n c T U e _ j N) λ M s2 ⟨y,f,d,S,a,b,Y,k,v,ex,E,g,q,L,O⟩=>?_)
 subst ex E
 obtain rfl:u=Value.ref a:=R
 obtain rfl:M=Value.ref b:=S
 obtain ⟨z,hd,V,r,D⟩:=g.dict d
 refine ⟨D.typeIs,?_⟩
 obtain ⟨w',hw,C⟩:=kX.some_of (v:=v) (o:=(atKey V k).map (·.2)) (by rw [<- L];exact uI r k)
 obtain ⟨p,B,W⟩:=abl.mp hw
 refine wpAny_getItem_heap (yh J) (q.is d) D B ?_
 rw [W]
 exact ⟨v,f,d.tok _,C,O⟩
def vW (e:X.prog=P) (hw:X.w=w) (c:X.K=K) (j:X.A.units+65<cLine):ji X (compareOp .NotIn) (Jq P w K):=by
 subst e hw c
 intro p s U H x y v u Q I R m h
 obtain ⟨a,b,n,k,rfl,rfl,g,i,l⟩:=h
 obtain rfl:u=Value.ref a:=m
 obtain rfl:v=Value.ref b:=R
 obtain ⟨z,f,o,r,d⟩:=g.dict I
 refine wpAny_notIn_heap (yh j) (i.is I) f d ⟨.bl _,H,I.tok _,?_,l⟩
 have q:=(uI r k).qA
 rw [ads] at q
 rw [q]
 rfl
def CO (O:X.prog=P) (hw:X.w=w) (N:X.K=K) (Y:X.A.units+65<cLine) (W:PE X o td) (S:PE X i ty) (hv:PE X value tv) (d:swapsWith value (some (.Subscript o i pos')) pos.line X.env=pure false) :
   PS X (.Assign [.Subscript o i pos'] value pos) (PR P w K td ty tv):=by
 subst O hw N
 intro p s U H D I h
 refine wpAny_Assign_Subscript (cU (hv p s U H _ I h) λ r s1 ⟨v,j,m,rv,q1⟩=>cU (W p s1 U j _ m q1) λ u s2 ⟨x,l,n,rx,q2⟩=>cU (S p s2 U l _ n q2) λ iv s3 ⟨y,H3,c,ry,a,b,e,k,ex,C,g,T,V,q3⟩=>?_) d
 subst ex C
 obtain rfl:u=Value.ref a:=rx
 obtain rfl:iv=Value.ref b:=ry
 obtain ⟨z,Q,xs,R,t⟩:=g.dict c
 have hz:xs.length<=sizeLine:=by rw [<- aca R];exact z
 have yr:(fH e k b v).length<=sizeLine:=aax (uF e k b v) V
 refine wpAny_setItem_heap (hsz:=hz) (yh Y) (T.is c) t λ h' J d=>⟨U,_,?_,q3⟩
 obtain ⟨q,B,E,f,F,G,L,Z,M⟩:=J
 exact xQ c (by rw [g.ob];exact True.intro) d ⟨q,f⟩ (EC ⟨yr,Q,_,Gr R k rv,q,B,E,f,F,G,L,M⟩)
end
section
variable {X:Cx}
inductive W9 (K:aD) (x:V) (y:V) (H:Hp) (Q:VK):Prop|mk (p xs:_) (_:x = .cL) (_:y = .ref p) (_:aT K H p xs) (_:(∀ v∈xs,v = .cL\/∃ a ys,v = .ref a/\aT K H a ys)) (_:Q (.bl (decide (V.cL∈xs))) H)
theorem EJ {s:Shared} {p:List (am×Obj)} {U:St} (I:Inv X p U H s) (c:X.A.units+1<cLine):∀ {xs:aB} {B:bM},Vals xs B->(∀ v∈xs,v = .cL\/∃ a ys,v = .ref a/\aT X.K H a ys) ->
   (∀ u∈B,SeqAt.EqAt X.A.in1 s u .none (u == Value.none))/\(B.any λ u=>u == Value.none)=decide (V.cL∈xs)
 | _,_,.nil,_=>⟨λ Z h=>absurd h aad,rfl⟩
 | x::xs,u::B,.cons r t,h=>by
   obtain ⟨i,g⟩:=EJ I c t λ v f=>h v (aai _ f)
   rcases h x aas with rfl|⟨a,ys,rfl,d⟩
   .
    obtain rfl:u=Value.none:=r
    refine ⟨λ w b=>?_,?_⟩
    . rcases aaa.mp b with e|b
      . rw [e];exact SeqAt.EqAt.same _
      . exact i w b
    . rw [acS,aaH (show V.cL∈V.cL::xs from aas)]
      rfl
   .
    obtain rfl:u=Value.ref a:=r
    obtain ⟨j,Z,k,Z⟩:=I.list d
    refine ⟨λ w b=>?_,?_⟩
    . rcases aaa.mp b with e|b
      . rw [e];exact SeqAt.EqAt.list_none k.isList (by rw [acz];exact c)
      . exact i w b
    . rw [acS,g]
      have e:(V.cL∈V.ref a::xs)↔V.cL∈xs:=by simp
      rw [show (Value.ref a == Value.none)=false from rfl,Bool.false_or]
      exact (ab8.mpr e).symm
def Lg (f:X.A.units+1<cLine):ji X (compareOp .In) (W9 X.K):=by
 intro a s U H x y v u Q I R k h
 obtain ⟨p,m,rfl,rfl,e,i,q⟩:=h
 obtain rfl:u=Value.ref p:=k
 obtain rfl:v=Value.none:=R
 obtain ⟨b,r,j,l⟩:=I.list e
 obtain ⟨c,d⟩:=EJ I f r i
 refine SeqAt.in_listAt (λ u=>u == Value.none) j.isList (λ w g=>c w (by simpa using g)) ⟨.bl _,H,I,rfl,?_⟩
 rw [show (b.toArray.any λ u=>u == Value.none)=(b.any λ u=>u == Value.none) by simp,d]
 exact q
inductive Kn (K:aD) (x:V) (y:V) (H:Hp) (Q:VK):Prop|mk (a b xs ys:_) (_:x = .ref a) (_:y = .ref b) (_:bY K H a xs) (_:bY K H b ys) (_:xs.length+ys.length<=sizeLine) (_:∀ q H',aG H H'->bY K H' q (xs++ys)->Q (.ref q) H')
def CP:ji X (binaryOp .Add) (Kn X.K):=by
 intro d s U H x y v u Q I r R h
 obtain ⟨a,b,o,Y,rfl,rfl,f,g,A,q⟩:=h
 by_cases i:o=[]
 .
  cases r
  cases R
  obtain ⟨B,G,C,Z⟩:=I.tuple f
  obtain ⟨O,J,F,Z⟩:=I.tuple g
  obtain ⟨⟨cls,w,data,sl⟩,m,j,n,l⟩:=id C
  obtain ⟨⟨W,L,D,t⟩,k,M,N,c⟩:=id F
  simp only at j l M c
  subst j l M c
  have E:B=[]:=G.sM.mpr i
  refine concat_meets ⟨_,m,rfl⟩ ⟨_,k,rfl⟩ adU seq_tuple_add ac0 acP (acK _ _)
    (tuple_addW0 a b B.toArray O.toArray n N w L sl t (by rw [E];rfl)) ⟨m,k,⟨.ref b,H,I,rfl,q b H (aG.refl _) (by rw [i];exact g)⟩⟩
 . exact Jg d s U H _ _ v u Q I r R ⟨a,b,o,Y,rfl,rfl,f,g,i,A,λ e=>q a H (aG.refl _) (by rw [e,abf];exact f),λ Z p z=>q p _ (ak z) (bY.of af)⟩
def yO {K:aD} (h:X.K=K):ji X (binaryOp .Add) (Kn K):=by subst h;exact CP
end
abbrev rfs (h d:am):List (Str×V):=[("hold",.ref h),("spreads",.ref d)]
def dY (m:ar) (i:Nat) (bs:aR) (fired:Bool):Option (aR) :=
 if iL (m.rows.getD i []) (iW m i bs fired) (iZ m i bs fired)=true then some (oB (m.rows.getD i []) (iW m i bs fired) (iZ m i bs fired)) else none
def fq (L:bK) (H:Hp) (v:V):Option (aR)->Prop
 | none=>v = .cL
 | some l=>∃ q,v = .ref q/\q∉L/\H q=some (.lst (l.map aq))
def k7 (i:Nat) (bs:aR) (f:Bool):PyData:=.tuple [.int i,.tuple (bs.map jw),.int (if f then 1 else 0)]
theorem tu:∀ l:aR,yp (l.map jw)=true
 | []=>rfl
 | _::l=>by rw [aaS,yp,tu l];rfl
theorem p8:∀ l:aR,nc (l.map jw)=l.map jw
 | []=>rfl
 | _::l=>by rw [aaS,nc,p8 l];rfl
theorem qd:∀ l:aR,vp (l.map jw)=0
 | []=>rfl
 | _::l=>by rw [aaS,vp,qd l];rfl
theorem lJ:∀ {l r:aR},l.map jw=r.map jw->l=r
 | [],[],_=>rfl
 | [],_::_,h=>by cases h
 | _::_,[],h=>by cases h
 | a::l,b::r,h=>by
   obtain ⟨H,c⟩:=abR h
   have H:(a:Int)=(b:Int):=ac1 H
   rw [lJ c,ado H]
def ES {i I:Nat} {bs R:aR} {f F:Bool} (h:k7 i bs f=k7 I R F):i=I/\bs=R/\f=F:=by
 have h:=acm h
 obtain ⟨H,h⟩:=abR h
 obtain ⟨a,h⟩:=abR h
 obtain ⟨b,Z⟩:=abR h
 refine ⟨ado (ac1 H),lJ (acm a),?_⟩
 cases f<;>cases F<;>first|rfl|(exact absurd (ac1 b) (by decide))
def oM {n:Nat} {l:aR}:K3 (n+1) (.tuple (l.map jw)):=by
 intro d h
 obtain ⟨i,Z,rfl⟩:=aaJ.mp h
 cases n<;>exact trivial
section
variable {K:aD} {H H':Hp}
def pH {p:am} {l:aR} (h:bY K H p (l.map aq)):Dn K H (.tuple (l.map jw)) (.ref p):=fS h (ur l)
def Bx {p b:am} {i:Nat} {bs:aR} {f:Bool} (h:bY K H p [aq i,.ref b,.bl f]) (c:bY K H b (bs.map aq)):gJ K H (k7 i bs f) p:=by
 refine ⟨.tuple [.int i,.tuple (bs.map jw),.bool f],fS h (bo rfl (bo (pH c) (bo rfl cK))),?_,uE (n:=2) ?_ (by decide),?_,?_⟩
 . simp only [kd,yp,tu];rfl
 .
  intro d a
  simp only [aaa,aad,aaR] at a
  rcases a with rfl|rfl|rfl
  . exact trivial
  . exact oM
  . exact trivial
 . simp only [vG,vp,qd];decide
 . simp only [sQ,nc,p8];rfl
def fq.but {L L':bK} {d:am} {o:HO} {r:Option (aR)} (g:H d=some o) (N:∀ xs,o ≠ .lst xs) (b:∀ c u,H c=some u->c≠d->c∉L->H' c=some u) (f:∀ c∈L',c∈L) (h:fq L H v r):fq L' H' v r:=by
 cases r with
 | none=>exact h
 | some l =>
   obtain ⟨q,e,n,a⟩:=h
   exact ⟨q,e,λ z=>n (f q z),b q _ a (λ z=>by rw [z,g] at a;exact N _ (aao a)) n⟩
def fq.same {L:bK} {r:Option (aR)} (s:aG H H') (h:fq L H v r):fq L H' v r:=by
 cases r with
 | none=>exact h
 | some l =>
   obtain ⟨q,e,n,a⟩:=h
   exact ⟨q,e,n,s _ _ a⟩
def fq.new {L:bK} {D:am} {r:Option (aR)} (b:H D=none) (h:fq L H v r):fq (D::L) H v r:=by
 cases r with
 | none=>exact h
 | some l =>
   obtain ⟨q,e,n,a⟩:=h
   exact ⟨q,e,λ z=>(aaa.mp z).elim (λ z=>by rw [z,b] at a;cases a) n,a⟩
end
def nZ {P:bE} {w:bz} {a:am} {A:oK} (xs:aB):kZ P w a A ≠ .lst xs:=λ h=>by cases h
structure eJ (P:bE) (w:bz) (K:aD) (C CR:am) (L:bK) (H:Hp) (x d a:am) (fp:bK) (m:ar) (c:Nat):Prop where
 ins:∃ dx,H x=some (.ins CR dx (rfs a d))
 hold:bv K C H a fp m
 nd:d∉fp
 Me:∃ aE,io P w K H d aE/\aE.length<=c/\∀ i bs f v,iA aE (k7 i bs f)=some v->fq L H v (dY m i bs f)
section
variable {P:bE} {w:bz} {K:aD} {C CR:am} {L L':bK} {H H':Hp} {x d a:am} {fp:bK} {m:ar} {c:Nat}
theorem eJ.same (r:eJ P w K C CR L H x d a fp m c) (s:aG H H'):eJ P w K C CR L H' x d a fp m c:=by
 obtain ⟨⟨D,l⟩,h,n,A,g,j,k⟩:=r
 exact ⟨⟨D,s _ _ l⟩,h.same s,n,A,g.same s,j,λ i b f v e=>(k i b f v e).same s⟩
def eJ.more (r:eJ P w K C CR L H x d a fp m c) (h:c<=c'):eJ P w K C CR L H x d a fp m c':=by
 obtain ⟨i,b,n,A,e,f,g⟩:=r
 exact ⟨i,b,n,A,e,aax f h,g⟩
def eJ.less (r:eJ P w K C CR L H x d a fp m c) (h:∀ b∈L',b∈L):eJ P w K C CR L' H x d a fp m c:=by
 obtain ⟨i,j,n,A,g,k,l⟩:=r
 exact ⟨i,j,n,A,g,k,λ i B f v e=>(l i B f v e).but g.ob nZ (λ Z Z e Z Z=>e) h⟩
theorem eJ.new (r:eJ P w K C CR L H x d a fp m c) {D:am} (h:H D=none):eJ P w K C CR (D::L) H x d a fp m c:=by
 obtain ⟨i,g,n,A,j,k,l⟩:=r
 exact ⟨i,g,n,A,j,k,λ i b f v e=>(l i b f v e).new h⟩
def eJ.write (r:eJ P w K C CR L H x d a fp m c) {D:am} {xs ys:aB} (h:H D=some (.lst xs)) (p:D∈L) (nf:D∉fp):eJ P w K C CR L (upd H D (.lst ys)) x d a fp m c:=by
 obtain ⟨⟨l,j⟩,q,y,A,g,s,u⟩:=r
 have t:aQ K H (upd H D (.lst ys)):=bT h rfl
 have B:∀ b o,H b=some o->b≠D->(upd H D (.lst ys)) b=some o:=λ b o e n=>by rw [aw n];exact e
 have nx:x≠D:=λ z=>by rw [z,h] at j;cases j
 have N:d≠D:=λ z=>by have:=g.ob;rw [z,h] at this;cases this
 exact ⟨⟨l,B _ _ j nx⟩,q.Ir B t nf,y,A,g.eE t (aw N),s,λ i k f v e=>(u i k f v e).but g.ob nZ (λ b o e Z n=>B b o e λ z=>n (z ▸ p)) λ Z h=>h⟩
theorem eJ.put (r:eJ P w K C CR L H x d a fp m c) {A:oK} {i:Nat} {bs:aR} {f:Bool} {b:am} (g:io P w K H d A) (u:A.length<=c) (y:∀ i bs f v,iA A (k7 i bs f)=some v->fq L H v (dY m i bs f)) (p:gJ K H (k7 i bs f) b) (l:fq L H v (dY m i bs f)) :
   eJ P w K C CR L (upd H d (kZ P w d (fH A (k7 i bs f) b v))) x d a fp m (c+1)/\gC [d] H (upd H d (kZ P w d (fH A (k7 i bs f) b v)))/\aQ K H (upd H d (kZ P w d (fH A (k7 i bs f) b v)))/\fq L (upd H d (kZ P w d (fH A (k7 i bs f) b v))) v (dY m i bs f):=by
 obtain ⟨⟨D,k⟩,s,N,Z⟩:=r
 have B:∀ j o,H j=some o->j≠d->(upd H d (kZ P w d (fH A (k7 i bs f) b v))) j=some o:=λ c o e n=>by rw [aw n];exact e
 have t:aQ K H (upd H d (kZ P w d (fH A (k7 i bs f) b v))):=bT g.ob rfl
 have nx:x≠d:=λ z=>by rw [z,g.ob] at k;cases k
 refine ⟨⟨⟨D,by rw [aw nx];exact k⟩,s.Ir B t N,N,_,g.put p,aax (uF ..) (acW u),λ I R F V e=>?_⟩,λ c o e n=>B c o e λ z=>n (aac.mpr z),t,l.but g.ob nZ (λ c o e n Z=>B c o e n) λ Z h=>h⟩
 rw [lW] at e
 by_cases q:k7 I R F=k7 i bs f
 .
  rw [aan q] at e
  obtain ⟨rfl,rfl,rfl⟩:=ES q
  cases e
  exact l.but g.ob nZ (λ c o e n Z=>B c o e n) λ Z h=>h
 . rw [aap q] at e
   exact (y I R F V e).but g.ob nZ (λ c o e n Z=>B c o e n) λ Z h=>h
end
def bP (rows:List (aR)):List (aR):=rows.foldl (λ cs r=>cs.flatMap λ c=>r.map λ b=>c++[b]) [[]]
def iI (rows:List (aR)) (r:aR):bP (rows++[r])=(bP rows).flatMap λ c=>r.map λ b=>c++[b]:=by
 unfold bP
 rw [abD]
 rfl
theorem fm {b c:Type} {k:Nat} {f:b->List c}:∀ {l:List b},(∀ a,(f a).length<=k)->(l.flatMap f).length<=l.length * k
 | [],_=>by simp
 | a::l,h=>by
   rw [List.flatMap_cons,aab,aaX,Nat.succ_mul]
   have:=fm (l:=l) h
   have:=h a
   lia
theorem jk {rows:List (aR)} (h:∀ r∈rows,r.length<=6):∀ i,(bP (rows.take i)).length<=6 ^ i
 | 0=>by rw [acF];decide
 | i+1=>by
   by_cases H:i<rows.length
   . rw [List.take_succ_eq_append_getElem H,iI]
     refine aax (fm (k:=6) λ a=>by rw [M1];exact h _ (aar H)) ?_
     rw [ac4]
     exact abK 6 (jk h i)
   . have e:rows.take (i+1)=rows.take i:=by rw [aa6 (by lia),aa6 (by lia)]
     rw [e,ac4]
     have:=jk h i
     lia
def snoc_ind {b:Type} {p:List b->Prop} (h0:p []) (h:∀ l a,p l->p (l++[a])) (l:List b):p l:=by
 rw [<- List.reverse_reverse l]
 induction l.reverse with
 | nil=>exact h0
 | cons a r i=>rw [List.reverse_cons];exact h _ _ i
def fZ {rows:List (aR)}:∀ {c:aR},c∈bP rows↔c.length=rows.length/\∀ i,i<rows.length->c.getD i 0∈rows.getD i []:=by
 refine snoc_ind (p:=λ rows=>∀ {c:aR},c∈bP rows↔c.length=rows.length/\∀ i,i<rows.length->c.getD i 0∈rows.getD i []) ?_ ?_ rows
 .
  intro c
  constructor
  . intro h
    have:c=[]:=by simpa [bP] using h
    rw [this]
    exact ⟨rfl,λ i h=>absurd h (abn _)⟩
  . rintro ⟨h,Z⟩
    rw [abP.mp h]
    simp [bP]
 .
  intro rows r I c
  rw [iI,abA]
  constructor
  .
   rintro ⟨a,d,h⟩
   obtain ⟨b,f,rfl⟩:=aaJ.mp h
   obtain ⟨l,H⟩:=I.mp d
   refine ⟨by rw [aab,aab,l];rfl,λ i h=>?_⟩
   rw [aab,aaC] at h
   by_cases e:i<rows.length
   . rw [Qm,Qm,aal (l₁:=a) (by lia),aal e]
     have:=H i e
     rw [Qm,Qm] at this
     exact this
   . have e:i=rows.length:=by lia
     subst e
     rw [Qm,Qm,<- l,aa2,l,aa2]
     exact f
  .
   rintro ⟨l,H⟩
   rw [aab,aaC] at l H
   have n:c≠[]:=λ z=>by rw [z] at l;simp at l
   refine ⟨c.dropLast,I.mpr ⟨by rw [List.length_dropLast,l];rfl,λ i h=>?_⟩,aaJ.mpr ⟨c.getLast n,?_,List.dropLast_concat_getLast n⟩⟩
   . have:=H i (by lia)
     rw [Qm,Qm,aal h] at this
     rw [Qm,Qm,List.getElem?_dropLast,aan (by lia)]
     exact this
   .
    have:=H rows.length (by lia)
    rw [Qm,Qm,aa2] at this
    rw [List.getLast_eq_getElem]
    rw [Yb (by lia)] at this
    have e:c.length - 1=rows.length:=by lia
    simp only [e]
    exact this
inductive A7 (a b c d e f g:Prop):Prop|mk (_:a) (_:b) (_:c) (_:d) (_:e) (_:f) (_:g)
inductive A8 (a b c d e f g h:Prop):Prop|mk (_:a) (_:b) (_:c) (_:d) (_:e) (_:f) (_:g) (_:h)
def kW (m:ar) (s:cr) (b i:Nat):Option (aR):=dY m i s.aF (b.testBit i)
def lG (m:ar) (s:cr) (b:Nat):Bool:=(List.range m.rows.length).all λ i=>(kW m s b i).isSome
def gw (m:ar) (s:cr) (b:Nat):List (aR):=(List.range m.rows.length).map λ i=>(kW m s b i).getD []
def iJ (m:ar) (s:cr) (o O:Nat):List cr:=(bP (gw m s (Ord.off o O))).map λ c=>s.behind m c o O
def dB (m:ar) (s:cr) (o:Nat):aR:=Bit.parts (Bit.rooms (s.may m o))
def ul (m:ar) (s:cr) (o:Nat):List cr:=(dB m s o).flatMap (iJ m s o)
def Refs {b:Type} (R:am->b->Prop) (xs:aB) (l:List b):Prop:=Paired (λ v a=>∃ p,v = .ref p/\R p a) xs l
def Refs.imp {b:Type} {R S:am->b->Prop} {xs:aB} {l:List b} (h:Refs R xs l) (f:∀ p a,R p a->S p a):Refs S xs l:=Paired.wD h λ Z Z ⟨p,e,r⟩=>⟨p,e,f p _ r⟩
theorem Refs.nil {a:Type} {R:am->a->Prop}:Refs R [] ([]:List a):=Paired.nil
def Refs.snoc {b:Type} {R:am->b->Prop} {xs:aB} {l:List b} {p:am} {a:b} (h:Refs R xs l) (r:R p a):Refs R (xs++[.ref p]) (l++[a]):=acL h ⟨p,rfl,r⟩
theorem Refs.append {b:Type} {R:am->b->Prop}:∀ {xs ys:aB} {l r:List b},Refs R xs l->Refs R ys r->Refs R (xs++ys) (l++r)
 | _,_,_,_,Paired.nil,h=>h
 | _,_,_,_,Paired.cons a t,h=>Paired.cons a (Refs.append t h)
theorem Refs.length {a:Type} {R:am->a->Prop} {xs:aB} {l:List a} (h:Refs R xs l):xs.length=l.length:=aca h
theorem Refs.get {b:Type} {R:am->b->Prop}:∀ {xs:aB} {l:List b} {i:Nat} {v:V},Refs R xs l->xs[i]?=some v->∃ p a,v = .ref p/\l[i]?=some a/\R p a
 | _,_,_,_,Paired.nil,h=>by simp at h
 | _,_,0,_,Paired.cons ⟨p,e,r⟩ _,h=>by simp at h;exact ⟨p,_,by rw [<- h,e],rfl,r⟩
 | _,_,i+1,_,Paired.cons _ t,h=>by
   obtain ⟨p,a,H,c,d⟩:=Refs.get (i:=i) t (by simpa using h)
   exact ⟨p,a,H,by simpa using c,d⟩
abbrev Iq (K:aD) (H:Hp):aB->List (aR)->Prop:=Refs λ t c=>bY K H t (c.map aq)
abbrev jc (K:aD) (H:Hp):aB->List cr->Prop:=Refs (f9 K H)
def Fl (m:ar) (s:cr):Prop:=∀ i b,i<m.rows.length->(b=true->m.has i=true)->eB 20000 (iW m i s.aF b)/\eB 20000 (iZ m i s.aF b)
section
variable (P:bE) (w:bz) (K:aD) (C CR:am)
inductive Eh (vs:aB) (H:Hp) (Q:VK) (_E:XK):Prop|mk (p1 p2 a b c d:_) (_:vs=[.ref p1,.ref p2]) (_:bY K H p1 [.int a,.int b]) (_:bY K H p2 [.int c,.int d]) (_:Bd 20000 a) (_:Bd 20000 b) (_:Bd 20000 c) (_:Bd 20000 d) (_:Q (.bl (decide (a * d<c * b))) H)
inductive Bz (vs:aB) (H:Hp) (Q:VK) (_E:XK):Prop|mk (a fp m:_) (i:Nat) (r v1 v2 f g:_) (_:vs=[.ref a,aq i,v1,v2]) (_:bv K C H a fp m) (_:m.rows[i]?=some r) (_:Dn K H (dJ f) v1) (_:Dn K H (dJ g) v2) (_:eB 20000 f) (_:eB 20000 g) (_:∀ H',aG H H'->Q (.bl (iL r f g)) H')
inductive Ed (vs:aB) (H:Hp) (Q:VK) (_E:XK):Prop|mk (a fp m:_) (i:Nat) (r v1 v2 f g:_) (_:vs=[.ref a,aq i,v1,v2]) (_:bv K C H a fp m) (_:m.rows[i]?=some r) (_:Dn K H (dJ f) v1) (_:Dn K H (dJ g) v2) (_:eB 20000 f) (_:eB 20000 g) (_:∀ p H',H p=none->aG H H'->H' p=some (.lst ((oB r f g).map aq))->Q (.ref p) H')
inductive Bp (vs:aB) (H:Hp) (Q:VK) (_E:XK):Prop|mk (p xs rows:_) (_:vs=[.ref p]) (_:aT K H p xs) (_:Refs (λ q (r:aR)=>aT K H q (r.map aq)) xs rows) (_:rows.length<=4) (_:(∀ r∈rows,r.length<=6)) (_:∀ q ys H',aG H H'->H' q=some (.lst ys)->Iq K H' ys (bP rows)->Q (.ref q) H')
inductive Dk (vs:aB) (H:Hp) (Q:VK) (_E:XK):Prop|mk (x dx a fp m:_) (_:vs=[.ref x,.ref a]) (_:H x=some (.ins CR dx [])) (_:bv K C H a fp m) (_:x∉fp) (_:∀ d H',gC [x] H H'->aQ K H H'->H d=none->eJ P w K C CR [] H' x d a fp m 0->Q .cL H')
inductive Dm (vs:aB) (H:Hp) (Q:VK) (_E:XK):Prop|mk (x d a fp m c:_) (i:Nat) (pb bs f L:_) (_:vs=[.ref x,aq i,.ref pb,.bl f]) (_:eJ P w K C CR L H x d a fp m c) (_:(∀ b∈L,H b≠none)) (_:c<=16000000) (_:i<m.rows.length) (_:bY K H pb (bs.map aq)) (_:bs.length=m.rows.length) (_:(∀ j,j<m.rows.length->bs.getD j 0+1<(m.rows.getD j []).length)) (_:(f=true->∃ z,m.bw[i]?=some (some z))) (_:eB 20000 (iW m i bs f)) (_:eB 20000 (iZ m i bs f)) (_:∀ v H',gC [d] H H'->aQ K H H'->eJ P w K C CR L H' x d a fp m (c+1)->fq L H' v (dY m i bs f)->Q v H')
inductive D6 (vs:aB) (H:Hp) (Q:VK) (_E:XK):Prop|mk (x d a fp m c p s:_) (o:Nat) (L:_) (_:vs=[.ref x,.ref p,aq o]) (_:eJ P w K C CR L H x d a fp m c) (_:(∀ b∈L,H b≠none)) (_:c<=15000000) (_:f9 K H p s) (_:eI m s) (_:o &&& m.ws=o) (_:(∀ out∈dB m s o,cx m s o out)) (_:Fl m s) (_:((∃ out∈dB m s o,lG m s (Ord.off o out)=false)->∀ H',gC [d] H H'->aQ K H H'->eJ P w K C CR L H' x d a fp m (c+64)->Q .cL H')) (_:((∀ out∈dB m s o,lG m s (Ord.off o out)=true)->∀ q xs H',H q=none->gC [d] H H'->aQ K H H'->eJ P w K C CR L H' x d a fp m (c+64)->H' q=some (.lst xs)->jc K H' xs (ul m s o)->Q (.ref q) H'))
end
theorem Cu {L:bK}:∀ {acc:aB} {rs:List (Option (aR))},Paired (fq L H) acc rs->∀ v∈acc,v = .cL\/∃ a ys,v = .ref a/\H a=some (.lst ys)
 | _,_,Paired.nil,v,h=>absurd h aad
 | _,r::_,Paired.cons a t,v,h=>by
   rcases aaa.mp h with e|h
   . subst e
     cases r with
     | none=>exact .inl a
     | some l=>obtain ⟨q,e,Z,b⟩:=a;exact .inr ⟨q,_,e,b⟩
   . exact Cu t v h
theorem tM {L:bK}:∀ {acc:aB} {rs:List (Option (aR))},Paired (fq L H) acc rs->(V.cL∈acc↔none∈rs)
 | _,_,Paired.nil=>by simp
 | _,r::_,Paired.cons a t=>by
   rw [aaa,aaa,tM t]
   cases r with
   | none=>have a:_=V.cL:=a;rw [a];simp
   | some l=>obtain ⟨q,e,Z⟩:=a;rw [e];simp
theorem yK {L:bK}:∀ {acc:aB} {rs:List (Option (aR))},Paired (fq L H) acc rs->none∉rs->Refs (λ q (r:aR)=>H q=some (.lst (r.map aq))) acc (rs.map λ r=>r.getD [])
 | _,_,Paired.nil,_=>Paired.nil
 | _,r::_,Paired.cons a t,h=>by
   rw [aaa,abJ] at h
   cases r with
   | none=>exact absurd rfl h.1
   | some l=>obtain ⟨q,e,Z,b⟩:=a;exact Paired.cons ⟨q,e,b⟩ (yK t h.2)
def wm {m:ar} {s:cr} {b:Nat}:none∈(List.range m.rows.length).map (kW m s b)↔lG m s b=false:=by
 unfold lG
 rw [List.all_eq_false,aaJ]
 constructor
 . rintro ⟨i,h,e⟩;exact ⟨i,h,by rw [e];decide⟩
 . rintro ⟨i,h,e⟩;exact ⟨i,h,by simpa using e⟩
def Hx (m:ar) (s:cr) (b:Nat):((List.range m.rows.length).map (kW m s b)).map (λ r=>r.getD [])=gw m s b:=by
 unfold gw
 rw [acs]
 rfl
def yH {m:ar} (w:m.Wf) {s:cr} {b:Nat}:∀ r∈gw m s b,r.length<=6:=λ r H=>by
 obtain ⟨i,h,rfl⟩:=aaJ.mp H
 have h:=aaD.mp h
 have a:=w.len _ (aar h)
 unfold kW dY
 rw [Qm,aI h]
 split
 .
  have:=lF m.rows[i] (iW m i s.aF (b.testBit i)) (iZ m i s.aF (b.testBit i)) (m.rows[i].length - 1)
  show (oB m.rows[i] _ _).length<=6
  unfold oB
  lia
 . exact aaZ _
def ko {m:ar} (w:m.Wf) (h:m.rows.length<=4) {s:cr} {o:Nat} (O:Nat):(iJ m s o O).length<=1296:=by
 unfold iJ
 rw [M1]
 have l:(gw m s (Ord.off o O)).length=m.rows.length:=by unfold gw;rw [M1,aak]
 have:=jk (yH w (s:=s) (b:=Ord.off o O)) 4
 rw [aa6 (by lia)] at this
 exact this
def oX {n:Nat} (h:n<16):(Bit.rooms n).length<=8/\(Bit.parts (Bit.rooms n)).length<=16:=by
 have:∀ b:Fin 16,(Bit.rooms b.val).length<=8/\(Bit.parts (Bit.rooms b.val)).length<=16:=by decide +kernel
 exact this ⟨n,h⟩
def iQ {K:aD} {p:am} {s:cr} (h:f9 K H p s):gJ K H (lV s) p:=by
 obtain ⟨g,j,i,b,c,e,f⟩:=h
 refine ⟨lV s,fS b (bo (pH c) (bo rfl (bo (pH e) (bo (pH f) (bo rfl cK))))),?_,uE (n:=2) ?_ (by decide),?_,?_⟩
 . simp only [lV,kd,yp,tu];rfl
 .
  intro d a
  simp only [aaa,aad,aaR] at a
  rcases a with rfl|rfl|rfl|rfl|rfl
  . exact oM
  . exact trivial
  . exact oM
  . exact oM
  . exact trivial
 . simp only [lV,vG,vp,qd,jw];decide
 . simp only [lV,sQ,nc,p8];rfl
def qK {n:Nat} (h:n<16):Bit.parts (Bit.rooms n)≠[]/\∀ o∈Bit.parts (Bit.rooms n),o<16/\o &&& n=o:=by
 have:∀ b:Fin 16,Bit.parts (Bit.rooms b.val)≠[]/\∀ o∈Bit.parts (Bit.rooms b.val),o<16/\o &&& b.val=o:=by decide +kernel
 exact this ⟨n,h⟩
def HI {m:ar} (w:m.Wf) (h:m.rows.length<=4) (s:cr) (o:Nat):(ul m s o).length<=16 * 1296:=by
 unfold ul
 have:=fm (l:=dB m s o) (k:=1296) (ko w h (s:=s) (o:=o))
 have H:(dB m s o).length<=16:=(oX (wJ (s:=s) (o:=o) h)).2
 lia
inductive A9 (a b c d e f g h i:Prop):Prop|mk (_:a) (_:b) (_:c) (_:d) (_:e) (_:f) (_:g) (_:h) (_:i)
def kC (m:ar) (s:cr) (o:Nat):Option (List cr):=if (dB m s o).all (λ O=>lG m s (Ord.off o O))=true then some (ul m s o) else none
abbrev bX:=List (Option (aR))
def oZ (met:List cr):Option (List cr)->Option (aR)->Prop
 | none,none=>True
 | some l,some J=>Paired (λ j s=>met[j]?=some s) J l
 | _,_=>False
theorem oZ.more {met m:List cr}:∀ {a:Option (List cr)} {b:Option (aR)},oZ met a b->oZ (met++m) a b
 | none,none,_=>trivial
 | some _,some _,h=>Paired.wD h λ j s e=>by rw [aal (Bj.mp e).1];exact e
 | none,some _,h=>h.elim
 | some _,none,h=>h.elim
structure qJ where
 met:List cr
 fE:List (aR)
 rows:List bX
structure f8 (m:ar) (g:qJ):Prop where
 nd:g.met.Nodup
 lo:g.fE.length<=g.met.length
 lr:g.rows.length<=g.met.length
 st:∀ s∈g.met,eI m s
 fE:∀ (i:Nat) (s:cr) (o:aR),g.met[i]?=some s->g.fE[i]?=some o->o=s.orders m
 rows:∀ (i:Nat) (s:cr) (r:bX),g.met[i]?=some s->g.rows[i]?=some r->Paired (λ o b=>oZ g.met (kC m s o) b) (s.orders m) r
def qJ.add (g:qJ) (s:cr):qJ:={ g with met:=g.met++[s]}
theorem f8.add {m:ar} {g:qJ} {s:cr} (h:f8 m g) (S:eI m s) (n:s∉g.met):f8 m (g.add s):=by
 have O:∀ {i x},i<g.met.length->(g.met++[s])[i]?=some x->g.met[i]?=some x:=λ {i x} f e=>by
   rw [aal f] at e;exact e
 refine ⟨acN.mpr ⟨h.nd,abO _ _,λ a H b d e=>n (by rw [<- aac.mp d,<- e];exact H)⟩,?_,?_,λ x j=>?_,λ i x o c E=>?_,λ i x r c E=>?_⟩
 .
  show g.fE.length<=(g.met++[s]).length
  rw [aab]
  have:=h.lo
  lia
 .
  show g.rows.length<=(g.met++[s]).length
  rw [aab]
  have:=h.lr
  lia
 . rcases aau.mp j with z|z
   . exact h.st x z
   . rw [aac.mp z];exact S
 . have E:g.fE[i]?=some o:=E
   exact h.fE i x o (O (by have:=(Bj.mp E).1;have:=h.lo;lia) c) E
 . exact Paired.wD (h.rows i x r (O (by have:=(Bj.mp E).1;have:g.rows.length<=g.met.length:=h.lr;have E:g.rows[i]?=some r:=E;have:=(Bj.mp E).1;lia) c) E) λ Z Z q=>q.more
def uv:Option (aR)->PyData
 | none => .none
 | some l => .list (l.map jw)
def rM (r:bX):PyData:=.list (r.map uv)
abbrev OI (pm po pr pd:am) (lim:Int):List (Str×V):=[("met",.ref pm),("orders",.ref po),("rows",.ref pr),("places",.ref pd),("limit",.int lim)]
def zu (a:oK) (met:List cr):Prop:=(∀ i s,met[i]?=some s->iA a (lV s)=some (aq i))/\∀ s,s∉met->iA a (lV s)=none
structure d7 (P:bE) (w:bz) (K:aD) (CG:am) (L:bK) (H:Hp) (x pm po pr pd:am) (lim:Int) (g:qJ):Prop where
 ins:∃ dx,H x=some (.ins CG dx (OI pm po pr pd lim))
 met:∃ vm,H pm=some (.lst vm)/\jc K H vm g.met
 fE:∃ vo,H po=some (.lst vo)/\bF K (cW H (L++[pm,po,pr])) (g.fE.map λ l => .list (l.map jw)) vo
 rows:∃ vr,H pr=some (.lst vr)/\bF K (cW H (L++[pm,po,pr])) (g.rows.map rM) vr
 pls:∃ aE,io P w K H pd aE/\aE.length<=g.met.length/\zu aE g.met
 n1:pm≠po
 n2:pm≠pr
 n3:po≠pr
def yl {s t:cr} (h:lV s=lV t):s=t:=by
 have h:=acm h
 obtain ⟨H,h⟩:=abR h
 obtain ⟨d,h⟩:=abR h
 obtain ⟨f,h⟩:=abR h
 obtain ⟨g,h⟩:=abR h
 obtain ⟨i,Z⟩:=abR h
 cases s
 cases t
 have e:=lJ (acm H)
 have E:=ado (ac1 d)
 have a:=lJ (acm f)
 have b:=lJ (acm g)
 have c:=ado (ac1 i)
 simp only at e E a b c
 rw [e,E,a,b,c]
def zu.nil:zu [] []:=⟨λ i s h=>by simp at h,λ Z Z=>rfl⟩
def zu.add {A:oK} {met:List cr} {s:cr} {b:am} (h:zu A met) (n:s∉met):zu (fH A (lV s) b (aq met.length)) (met++[s]):=by
 refine ⟨λ i t e=>?_,λ t a=>?_⟩
 .
  rw [lW]
  by_cases q:lV t=lV s
  .
   rw [aan q]
   obtain rfl:=yl q
   by_cases H:i<met.length
   . rw [aal H] at e
     exact absurd (aae e) n
   . have:=(Bj.mp e).1
     rw [aab,aaC] at this
     rw [show i=met.length by lia]
  .
   rw [aap q]
   by_cases H:i<met.length
   . rw [aal H] at e
     exact h.1 i t e
   . rw [aaO (by lia)] at e
     have:=aac.mp (aae e)
     exact absurd (by rw [this]) q
 . rw [aau,aac,abJ] at a
   rw [lW,aap (λ q=>a.2 (yl q))]
   exact h.2 t a.1
section
variable {P:bE} {w:bz} {K:aD} {CG:am} {L:bK} {H H':Hp} {x pm po pr pd:am} {lim:Int} {g:qJ}
theorem d7.same (h:d7 P w K CG L H x pm po pr pd lim g) (s:aG H H'):d7 P w K CG L H' x pm po pr pd lim g:=by
 obtain ⟨⟨f,i⟩,⟨v,a,A⟩,⟨V,B,c⟩,⟨k,C,d⟩,⟨b,D,e⟩,n,N,j⟩:=h
 exact ⟨⟨f,s _ _ i⟩,⟨v,s _ _ a,A.imp λ p x h=>h.same s⟩,⟨V,s _ _ B,bF.same (pP s) _ c⟩,⟨k,s _ _ C,bF.same (pP s) _ d⟩,⟨b,D.same s,e⟩,n,N,j⟩
end
def lZ:HO->Bool
 | .lst _=>false
 | .tup _=>false
 | .Ao _ _=>false
 | _=>true
section
variable {K:aD} {H:Hp} {d:am}
def xR {a:am} {u:HO} (b:∀ o,H d=some o->lZ o=true) (e:H a=some u) (h:lZ u=false):a∉[d]:=λ z=>by
 rw [aac.mp z] at e
 have:=b u e
 rw [h] at this
 cases this
def aT.u7 (b:∀ o,H d=some o->lZ o=true) {a:am} {xs:aB} (h:aT K H a xs):aT K (cW H [d]) a xs:=by
 rcases h with (h|⟨o,h⟩)|h
 . exact .inl (.inl (i9 h (xR b h rfl)))
 . exact .inl (.inr ⟨o,i9 h (xR b h rfl)⟩)
 . exact .inr h
def bY.u7 (b:∀ o,H d=some o->lZ o=true) {a:am} {xs:aB} (h:bY K H a xs):bY K (cW H [d]) a xs:=by
 rcases h with (h|⟨o,h⟩)|h
 . exact .inl (.inl (i9 h (xR b h rfl)))
 . exact .inl (.inr ⟨o,i9 h (xR b h rfl)⟩)
 . exact .inr h
mutual
theorem Dn.u7 (b:∀ o,H d=some o->lZ o=true):∀ (e:PyData) {v:V},Dn K H e v->Dn K (cW H [d]) e v
 | .none,_,h=>by rw [Dn] at h |-;exact h
 | .bool _,_,h=>by rw [Dn] at h |-;exact h
 | .int _,_,h=>by rw [Dn] at h |-;exact h
 | .str _,_,h=>by rw [Dn] at h |-;exact h
 | .list D,_,h=>by
   rw [Dn] at h |-
   obtain ⟨a,xs,e,q,r⟩:=h
   exact ⟨a,xs,e,q.u7 b,bF.u7 b D r⟩
 | .tuple D,_,h=>by
   rw [Dn] at h |-
   obtain ⟨a,xs,e,q,r⟩:=h
   exact ⟨a,xs,e,q.u7 b,bF.u7 b D r⟩
 | .dict _,_,h=>by rw [Dn] at h;exact h.elim
theorem bF.u7 (a:∀ o,H d=some o->lZ o=true):∀ (D:List PyData) {xs:aB},bF K H D xs->bF K (cW H [d]) D xs
 | [],_,h=>by rw [bF] at h |-;exact h
 | e::D,_,h=>by
   rw [bF] at h |-
   obtain ⟨x,r,E,q,t⟩:=h
   exact ⟨x,r,E,Dn.u7 a e q,bF.u7 a D t⟩
end
def bF.xM {L:bK} {o:HO} (f:H d=some o) (g:lZ o=true) (b:∀ c u,H c=some u->c≠d->c∉L->H' c=some u) {D:List PyData} {xs:aB} (h:bF K (cW H L) D xs):bF K (cW H' L) D xs:=by
 have a:=bF.u7 (d:=d) (λ u e=>by
   unfold cW at e
   split at e
   . cases e
   . rw [f] at e;cases e;exact g) D h
 refine bF.same (λ c u e=>?_) D a
 unfold cW at e |-
 split at e
 . cases e
 .
  rename_i n
  split at e
  . cases e
  . rename_i N
    rw [aap N]
    exact b c u e (λ z=>n (aac.mpr z)) N
def DK {d:am} {L:bK} (b:gC [d] H H'):∀ c u,H c=some u->c≠d->c∉L->H' c=some u:=λ c u e n Z=>b c u e λ z=>n (aac.mp z)
end
section
variable {P:bE} {w:bz} {K:aD} {CG:am} {L:bK} {H H':Hp} {x pm po pr pd:am} {lim:Int} {g:qJ}
def d7.but {d:am} {kd:oK} (h:d7 P w K CG L H x pm po pr pd lim g) (a:H d=some (kZ P w d kd)) (v:d≠pd) (b:gC [d] H H') (t:aQ K H H'):d7 P w K CG L H' x pm po pr pd lim g:=by
 obtain ⟨⟨o,f⟩,⟨V,A,i⟩,⟨y,B,k⟩,⟨E,C,l⟩,⟨j,D,m⟩,q,r,s⟩:=h
 have N:∀ {c u},H c=some u->(∀ F,u ≠ .ext F)->c∉[d]:=λ e n z=>by
   rw [aac.mp z,a] at e
   exact n _ (aao e).symm
 refine ⟨⟨o,b _ _ f (N f nofun)⟩,⟨V,b _ _ A (N A nofun),i.imp λ p x h=>h.ts t⟩,⟨y,b _ _ B (N B nofun),bF.xM a rfl (DK b) k⟩,⟨E,b _ _ C (N C nofun),bF.xM a rfl (DK b) l⟩,⟨j,D.eE t ?_,m⟩,q,r,s⟩
 rw [D.ob]
 exact b _ _ D.ob (by simp only [aac];exact acy v)
end
def CY (m:ar) (L:Int):Prop:=∀ l:List cr,l.Nodup->(∀ s∈l,eI m s)->(l.length:Int)<=L
structure uV (g g':qJ):Prop where
 met:∃ more,g'.met=g.met++more
 fE:g'.fE=g.fE
 rows:g'.rows=g.rows
def uV.refl (g:qJ):uV g g:=⟨⟨[],(abf _).symm⟩,rfl,rfl⟩
theorem uV.trans {a b c:qJ} (h:uV a b) (k:uV b c):uV a c:=by
 obtain ⟨⟨m,e⟩,o,r⟩:=h
 obtain ⟨⟨M,E⟩,O,R⟩:=k
 exact ⟨⟨m++M,by rw [E,e,abi]⟩,O.trans o,R.trans r⟩
theorem uV.add (g:qJ) (s:cr):uV g (g.add s):=⟨⟨[s],rfl⟩,rfl,rfl⟩
def uV.at {g g':qJ} (h:uV g g') {j:Nat} {s:cr} (e:g.met[j]?=some s):g'.met[j]?=some s:=by
 obtain ⟨⟨m,E⟩,Z⟩:=h
 rw [E,aal (Bj.mp e).1]
 exact e
section
variable (P:bE) (w:bz) (K:aD) (CG:am)
inductive Jn (vs:aB) (H:Hp) (Q:VK) (_E:XK):Prop|mk (x p pm po pr pd lim g m s L:_) (_:vs=[.ref x,.ref p]) (_:d7 P w K CG L H x pm po pr pd lim g) (_:f8 m g) (_:CY m lim) (_:lim<=2000) (_:f9 K H p s) (_:eI m s) (_:∀ j g' H',gC [pm,pd] H H'->aQ K H H'->d7 P w K CG L H' x pm po pr pd lim g'->uV g g'->f8 m g'->g'.met[j]?=some s->(g'=g\/g'=g.add s)->Q (aq j) H')
inductive BH (vs:aB) (H:Hp) (Q:VK) (_E:XK):Prop|mk (x v pm po pr pd lim g m L:_) (_:vs=[.ref x,v]) (_:d7 P w K CG L H x pm po pr pd lim g) (_:f8 m g) (_:CY m lim) (_:lim<=2000) (_:((v = .cL/\Q .cL H)\/∃ q xs l,v = .ref q/\H q=some (.lst xs)/\q≠pm/\jc K H xs l/\(∀ s∈l,eI m s)/\l.length<=100000/\∀ D js g' H',H D=none->gC [pm,pd] H H'->aQ K H H'->d7 P w K CG L H' x pm po pr pd lim g'->uV g g'->f8 m g'->H' D=some (.lst (js.map aq))->Paired (λ j s=>g'.met[j]?=some s) js l->Q (.ref D) H'))
end
section
variable {P:bE} {w:bz} {K:aD} {CG:am} {L:bK} {H:Hp} {x pm po pr pd p:am} {lim:Int} {g:qJ} {s:cr} {vm:aB} {aE:oK}
theorem d7.add (h:d7 P w K CG L H x pm po pr pd lim g) (f:H pm=some (.lst vm)) (G:jc K H vm g.met) (a:io P w K H pd aE) (Y:aE.length<=g.met.length) (Q:zu aE g.met) (o:f9 K H p s) (n:s∉g.met) :
   d7 P w K CG L (upd (upd H pd (kZ P w pd (fH aE (lV s) p (aq g.met.length)))) pm (.lst (vm++[.ref p]))) x pm po pr pd lim (g.add s)/\gC [pm,pd] H (upd (upd H pd (kZ P w pd (fH aE (lV s) p (aq g.met.length)))) pm (.lst (vm++[.ref p]))) /\
   aQ K H (upd (upd H pd (kZ P w pd (fH aE (lV s) p (aq g.met.length)))) pm (.lst (vm++[.ref p]))):=by
 obtain ⟨⟨D,b⟩,Z,⟨V,i,M⟩,⟨F,C,O⟩,Z,r,y,R⟩:=h
 have m:=iQ o
 have A:pm≠pd:=λ z=>by rw [z,a.ob] at f;cases f
 have nx:x≠pd:=λ z=>by rw [z,a.ob] at b;cases b
 have N:x≠pm:=λ z=>by rw [z,f] at b;cases b
 have S:po≠pd:=λ z=>by rw [z,a.ob] at i;cases i
 have U:pr≠pd:=λ z=>by rw [z,a.ob] at C;cases C
 have T:aQ K H (upd H pd (kZ P w pd (fH aE (lV s) p (aq g.met.length)))):=bT a.ob rfl
 have B:gC [pd] H (upd H pd (kZ P w pd (fH aE (lV s) p (aq g.met.length)))):=λ c u e z=>by rw [aw (λ q=>z (aac.mpr q))];exact e
 have W:=a.put (v:=aq g.met.length) m
 have I:(upd H pd (kZ P w pd (fH aE (lV s) p (aq g.met.length)))) pm=some (.lst vm):=by rw [aw A];exact f
 have J:=bF.xM a.ob rfl (DK B) M
 have k:=bF.xM a.ob rfl (DK B) O
 have X:(upd H pd (kZ P w pd (fH aE (lV s) p (aq g.met.length)))) x=some (.ins CG D (OI pm po pr pd lim)):=by rw [aw nx];exact b
 have j:(upd H pd (kZ P w pd (fH aE (lV s) p (aq g.met.length)))) po=some (.lst V):=by rw [aw S];exact i
 have l:(upd H pd (kZ P w pd (fH aE (lV s) p (aq g.met.length)))) pr=some (.lst F):=by rw [aw U];exact C
 generalize upd H pd (kZ P w pd (fH aE (lV s) p (aq g.met.length)))=d at *
 have t:aQ K d (upd d pm (.lst (vm++[.ref p]))):=bT I rfl
 have E:cW (upd d pm (.lst (vm++[.ref p]))) (L++[pm,po,pr])=cW d (L++[pm,po,pr]):=mN (by simp)
 refine ⟨⟨⟨D,by rw [aw N];exact X⟩,⟨_,af,?_⟩,⟨V,by rw [aw r.symm];exact j,by rw [E];exact J⟩,⟨F,by rw [aw y.symm];exact l,by rw [E];exact k⟩,⟨_,W.eE t (aw A.symm),?_,Q.add n⟩,r,y,R⟩,λ c u e z=>?_,T.trans t⟩
 . exact Refs.snoc (G.imp λ p s h=>h.ts (T.trans t)) (o.ts (T.trans t))
 .
  refine aax (uF ..) ?_
  show _<=(g.met++[s]).length
  rw [aab,aaC]
  lia
 . simp only [aaa,aad,aaR,abJ] at z
   rw [aw z.1]
   exact B c u e (by simp [z.2])
def d7.new (h:d7 P w K CG L H x pm po pr pd lim g) {D:am} (f:H D=none):d7 P w K CG (D::L) H x pm po pr pd lim g:=by
 obtain ⟨i,m,⟨v,B,a⟩,⟨V,c,C⟩,d,n,N,j⟩:=h
 have S:aG (cW H (L++[pm,po,pr])) (cW H (D::L++[pm,po,pr])):=λ b o e=>by
   unfold cW at e |-
   split at e
   . cases e
   .
    rename_i q
    rw [aap]
    . exact e
    . intro z
      rcases aaa.mp z with z|z
      . rw [z,f] at e;cases e
      . exact q z
 exact ⟨i,m,⟨v,B,bF.same S _ a⟩,⟨V,c,bF.same S _ C⟩,d,n,N,j⟩
def d7.less (h:d7 P w K CG L H x pm po pr pd lim g) {L':bK} (f:∀ b∈L',b∈L):d7 P w K CG L' H x pm po pr pd lim g:=by
 obtain ⟨i,m,⟨v,B,a⟩,⟨V,c,C⟩,d,n,N,j⟩:=h
 have S:aG (cW H (L++[pm,po,pr])) (cW H (L'++[pm,po,pr])):=λ b o e=>by
   unfold cW at e |-
   split at e
   . cases e
   .
    rename_i q
    rw [aap]
    . exact e
    . intro z
      refine q (aau.mpr ?_)
      rcases aau.mp z with z|z
      . exact .inl (f _ z)
      . exact .inr z
 exact ⟨i,m,⟨v,B,bF.same S _ a⟩,⟨V,c,bF.same S _ C⟩,d,n,N,j⟩
def d7.write (h:d7 P w K CG L H x pm po pr pd lim g) {D:am} {xs ys:aB} (a:H D=some (.lst xs)) (l:D∈L) (q:D≠pm) (r:D≠po) (s:D≠pr):d7 P w K CG L (upd H D (.lst ys)) x pm po pr pd lim g:=by
 obtain ⟨⟨k,b⟩,⟨vm,A,c⟩,⟨v,B,f⟩,⟨V,C,i⟩,⟨aE,d,j⟩,n,N,m⟩:=h
 have t:aQ K H (upd H D (.lst ys)):=bT a rfl
 have e:cW (upd H D (.lst ys)) (L++[pm,po,pr])=cW H (L++[pm,po,pr]):=mN (aau.mpr (.inl l))
 have nx:x≠D:=λ z=>by rw [z,a] at b;cases b
 have o:pd≠D:=λ z=>by have:=d.ob;rw [z,a] at this;cases this
 exact ⟨⟨k,by rw [aw nx];exact b⟩,⟨vm,by rw [aw q.symm];exact A,c.imp λ p x h=>h.ts t⟩,⟨v,by rw [aw r.symm];exact B,by rw [e];exact f⟩,⟨V,by rw [aw s.symm];exact C,by rw [e];exact i⟩,⟨aE,d.eE t (aw o),j⟩,n,N,m⟩
end
structure GB (m:ar):Prop where
 h4:m.rows.length<=4
 sp:∀ s,eI m s->Fl m s
 tn:∀ s o,eI m s->o∈s.orders m->∀ out∈dB m s o,cx m s o out
 nx:∀ s o x,eI m s->o∈s.orders m->x∈ul m s o->eI m x
def GB.ow {m:ar} (h:GB m) {s:cr} {o:Nat} (H:o∈s.orders m):o &&& m.ws=o:=((qK (uC h.h4)).2 o (aa7.mp H).1).2
def tI {m:ar} (h:m.rows.length<=4) (s:cr):(s.orders m).length<=16:=by
 have:=aa8 (s.DZ m) (Bit.parts (Bit.rooms m.ws))
 have:=(oX (uC h)).2
 unfold cr.orders
 lia
def EZ {m:ar} {s:cr} {o:Nat} (h:∀ O∈dB m s o,lG m s (Ord.off o O)=true):kC m s o=some (ul m s o):=by
 unfold kC
 rw [aan (abh.mpr h)]
def GN {m:ar} {s:cr} {o:Nat} (h:∃ O∈dB m s o,lG m s (Ord.off o O)=false):kC m s o=none:=by
 unfold kC
 rw [aap]
 intro z
 obtain ⟨O,H,a⟩:=h
 have:=abh.mp z O H
 rw [a] at this
 cases this
def qJ.ord (g:qJ) (l:aR):qJ:={ g with fE:=g.fE++[l]}
def qJ.row (g:qJ) (r:bX):qJ:={ g with rows:=g.rows++[r]}
theorem f8.ord {m:ar} {g:qJ} {s:cr} (h:f8 m g) (e:g.met[g.fE.length]?=some s):f8 m (g.ord (s.orders m)):=by
 have b:=(Bj.mp e).1
 refine ⟨h.nd,?_,h.lr,h.st,λ i x o a E=>?_,h.rows⟩
 . show (g.fE++[s.orders m]).length<=g.met.length
   rw [aab,aaC];lia
 .
  have E:(g.fE++[s.orders m])[i]?=some o:=E
  by_cases H:i<g.fE.length
  . rw [aal H] at E
    exact h.fE i x o a E
  .
   have:=(Bj.mp E).1
   rw [aab,aaC] at this
   obtain rfl:i=g.fE.length:=by lia
   rw [aa2] at E
   have a:g.met[g.fE.length]?=some x:=a
   rw [e] at a
   cases a
   cases E
   rfl
theorem f8.row {m:ar} {g:qJ} {s:cr} {r:bX} (h:f8 m g) (e:g.met[g.rows.length]?=some s) (c:Paired (λ o b=>oZ g.met (kC m s o) b) (s.orders m) r):f8 m (g.row r):=by
 have d:=(Bj.mp e).1
 refine ⟨h.nd,h.lo,?_,h.st,h.fE,λ i x r' a E=>?_⟩
 . show (g.rows++[r]).length<=g.met.length
   rw [aab,aaC];lia
 .
  have E:(g.rows++[r])[i]?=some r':=E
  by_cases H:i<g.rows.length
  . rw [aal H] at E
    exact h.rows i x r' a E
  .
   have:=(Bj.mp E).1
   rw [aab,aaC] at this
   obtain rfl:i=g.rows.length:=by lia
   rw [aa2] at E
   have a:g.met[g.rows.length]?=some x:=a
   rw [e] at a
   cases a
   cases E
   exact c
inductive IB (P:bE) (w:bz) (K:aD) (C CG:am) (vs:aB) (H:Hp) (Q:VK) (_E:XK):Prop|mk (x a pm po pr pd lim g m fp:_) (_:vs=[.ref x,.ref a]) (_:d7 P w K CG [] H x pm po pr pd lim g) (_:f8 m g) (_:g.fE.length=g.rows.length) (_:CY m lim) (_:lim<=2000) (_:GB m) (_:bv K C H a fp m) (_:pm∉fp) (_:po∉fp) (_:pr∉fp) (_:pd∉fp) (_:∀ g' H',gC [pm,po,pr,pd] H H'->aQ K H H'->d7 P w K CG [] H' x pm po pr pd lim g'->f8 m g'->g'.fE.length=g'.rows.length->g'.rows.length=g'.met.length->(∃ more,g'.met=g.met++more)->Q .cL H')
section
variable {P:bE} {w:bz} {K:aD} {CG:am} {L:bK} {H:Hp} {x pm po pr pd q:am} {lim:Int} {g:qJ}
theorem d7.ord (h:d7 P w K CG L H x pm po pr pd lim g) {v:aB} {l:aR} (a:H po=some (.lst v)) (m:H q=some (.lst (l.map aq))) (s:q∉L++[pm,po,pr]):d7 P w K CG L (upd H po (.lst (v++[.ref q]))) x pm po pr pd lim (g.ord l):=by
 obtain ⟨⟨k,b⟩,⟨V,A,c⟩,⟨u,B,i⟩,⟨y,C,j⟩,⟨f,d,D⟩,n,o,N⟩:=h
 rw [a] at B
 cases B
 have t:aQ K H (upd H po (.lst (v++[.ref q]))):=bT a rfl
 have e:cW (upd H po (.lst (v++[.ref q]))) (L++[pm,po,pr])=cW H (L++[pm,po,pr]):=mN (by simp)
 have nx:x≠po:=λ z=>by rw [z,a] at b;cases b
 have r:pd≠po:=λ z=>by have:=d.ob;rw [z,a] at this;cases this
 refine ⟨⟨k,by rw [aw nx];exact b⟩,⟨V,by rw [aw n];exact A,c.imp λ p x h=>h.ts t⟩,⟨_,af,?_⟩,⟨y,by rw [aw N.symm];exact C,by rw [e];exact j⟩,⟨f,d.eE t (aw r),D⟩,n,o,N⟩
 rw [e]
 show bF K _ ((g.fE++[l]).map _) _
 rw [aaf]
 exact bF.snoc i (Cb (aT.of (i9 m s)))
theorem d7.row (h:d7 P w K CG L H x pm po pr pd lim g) {v acc:aB} {r:bX} (a:H pr=some (.lst v)) (l:H q=some (.lst acc)) (u:q∉L++[pm,po,pr]) (m:bF K (cW H (L++[pm,po,pr])) (r.map uv) acc):d7 P w K CG L (upd H pr (.lst (v++[.ref q]))) x pm po pr pd lim (g.row r):=by
 obtain ⟨⟨k,b⟩,⟨V,A,f⟩,⟨y,B,j⟩,⟨E,c,C⟩,⟨i,d,D⟩,o,n,N⟩:=h
 rw [a] at c
 cases c
 have t:aQ K H (upd H pr (.lst (v++[.ref q]))):=bT a rfl
 have e:cW (upd H pr (.lst (v++[.ref q]))) (L++[pm,po,pr])=cW H (L++[pm,po,pr]):=mN (by simp)
 have nx:x≠pr:=λ z=>by rw [z,a] at b;cases b
 have s:pd≠pr:=λ z=>by have:=d.ob;rw [z,a] at this;cases this
 refine ⟨⟨k,by rw [aw nx];exact b⟩,⟨V,by rw [aw n];exact A,f.imp λ p x h=>h.ts t⟩,⟨y,by rw [aw N];exact B,by rw [e];exact j⟩,⟨_,af,?_⟩,⟨i,d.eE t (aw s),D⟩,o,n,N⟩
 rw [e]
 show bF K _ ((g.rows++[r]).map _) _
 rw [aaf]
 exact bF.snoc C (lC (aT.of (i9 l u)) m)
end
section
variable {P:bE} {w:bz} {K:aD} {C CR:am} {L L':bK} {H H':Hp} {x d a:am} {fp:bK} {m:ar} {c:Nat}
def C9 (h:bv K C H a fp m) (st:∀ b o,H b=some o->b∈fp->H' b=some o) (t:aQ K H H'):bv K C H' a fp m:=by
 obtain ⟨⟨N,d,p,f,k,V,G,L,A,rfl,r,J,v,M,I,u,w,x,y,l,n,q,D,F⟩,Q,z,B,E⟩:=h
 have g:∀ {c o},H c=some o->c∈[a,N,d,p,f,k]->H' c=some o:=λ {c o} e s=>st c o e s
 exact ⟨⟨N,d,p,f,k,V,G,L,A,rfl,g r (by simp),g J (by simp),g v (by simp),g M (by simp),g I (by simp),g u (by simp),w,x,y,mO t l,jW t n,iP t q,λ i j=>(D i j).ts t,F⟩,Q,z,B,E⟩
def eJ.frame (r:eJ P w K C CR L H x d a fp m c) {M:bK} (b:gC M H H') (t:aQ K H H') (nx:x∉M) (G:d∉M) (nf:∀ c∈fp,c∉M) (k:∀ c∈M,c∈L\/∀ xs,H c≠some (.lst xs)):eJ P w K C CR L H' x d a fp m c:=by
 obtain ⟨⟨D,F⟩,p,n,A,g,s,E⟩:=r
 refine ⟨⟨D,b _ _ F nx⟩,C9 p (λ c u e o=>b c u e (nf c o)) t,n,A,g.eE t ?_,s,λ i B f v e=>?_⟩
 . rw [g.ob];exact b _ _ g.ob G
 .
  have:=E i B f v e
  cases z:dY m i B f with
  | none=>rw [z] at this;exact this
  | some l =>
    rw [z] at this
    obtain ⟨q,e,N,j⟩:=this
    exact ⟨q,e,N,b _ _ j λ y=>(k q y).elim N λ h=>h _ j⟩
def eJ.zero (r:eJ P w K C CR L H x d a fp m 0):eJ P w K C CR L' H x d a fp m 0:=by
 obtain ⟨i,b,n,A,c,h,g⟩:=r
 obtain rfl:A=[]:=aa4 (Nat.le_zero.mp h)
 exact ⟨i,b,n,[],c,h,λ i B f v e=>by cases e⟩
end
inductive FE (P:bE) (w:bz) (K:aD) (C CG:am) (vs:aB) (H:Hp) (Q:VK) (_E:XK):Prop|mk (x dx a q lim fp m xs l:_) (_:vs=[.ref x,.ref a,.ref q,.int lim]) (_:H x=some (.ins CG dx [])) (_:bv K C H a fp m) (_:x∉fp) (_:GB m) (_:CY m lim) (_:lim<=2000) (_:H q=some (.lst xs)) (_:jc K H xs l) (_:(∀ s∈l,eI m s)) (_:∀ pm po pr pd g H',gC [x] H H'->aQ K H H'->(∀ b∈[pm,po,pr,pd],H b=none)->d7 P w K CG [] H' x pm po pr pd lim g->f8 m g->g.fE.length=g.rows.length->g.rows.length=g.met.length->(∀ s∈l,s∈g.met)->(∀ s r,l=s::r->g.met[0]?=some s)->Q .cL H')
structure jI where
 bN:List (List (Option Nat))
 c7:aR
 bO:List (Option Nat)
 queue:aR
def nB (rows:List bX):Nat->Nat->Prop
 | 0,p=>rows[p]?=some []
 | k+1,p=>∃ r,rows[p]?=some r/\∀ (c:Nat) (v:Option (aR)),r[c]?=some v->v=none\/∃ J,v=some J/\∃ j∈J,nB rows k j
theorem nB.succ {rows:List bX}:∀ {k p:Nat},nB rows k p->nB rows (k+1) p
 | 0,p,h=>⟨[],h,λ c v e=>by simp at e⟩
 | k+1,p,⟨r,e,h⟩=>⟨r,e,λ c v E=>(h c v E).imp id λ ⟨J,a,j,H,q⟩=>⟨J,a,j,H,q.succ⟩⟩
def nB.mono {rows:List bX} {k n p:Nat} (h:nB rows k p) (l:k<=n):nB rows n p:=by
 obtain ⟨d,rfl⟩:=Nat.exists_eq_add_of_le l
 induction d with
 | zero=>exact h
 | succ d i=>exact (i (abS _ _)).succ
def um (rows:List bX) (b:List (Option Nat)) (p c t:Nat):Prop:=∃ r:bX,rows[p]?=some r/\(r[c]?=some none/\t=0\/∃ J,r[c]?=some (some J)/\∃ j∈J,b[j]?=some (some t))
structure ia (rows:List bX) (S:jI) (cur:Nat):Prop where
 ll:S.bN.length=rows.length
 lg:S.c7.length=rows.length
 lk:S.bO.length=rows.length
 sh:∀ (p:Nat) l r,S.bN[p]?=some l->rows[p]?=some r->l.length=r.length
 go:∀ (p:Nat) l n,S.bN[p]?=some l->S.c7[p]?=some n->n=l.countP Option.isNone
 rk:∀ (p:Nat) n,S.c7[p]?=some n->(n=0↔∃ k,S.bO[p]?=some (some k))
 qu:∀ p,p∈S.queue↔∃ k,S.bO[p]?=some (some k)
 nd:S.queue.Nodup
 z:∀ p:Nat,rows[p]?=some []↔S.bO[p]?=some (some 0)
 lo:∀ (p:Nat) l (c:Nat) t,S.bN[p]?=some l->l[c]?=some (some t)->t<=cur
 ls:∀ (p:Nat) l (c:Nat) t,S.bN[p]?=some l->l[c]?=some (some t)->um rows S.bO p c t
 top:∀ (p:Nat) t l,S.bO[p]?=some (some (t+1))->S.bN[p]?=some l->(∀ (c:Nat) t',l[c]?=some (some t')->t'<=t)/\∃ c:Nat,l[c]?=some (some t)
 le:∀ (p:Nat) k,S.bO[p]?=some (some k)->k<=cur+1
 SV:S.queue.Pairwise λ a b=>∀ x y,S.bO[a]?=some (some x)->S.bO[b]?=some (some y)->x<=y
def jI.fin (S:jI) (p c t:Nat) (l:List (Option Nat)) (n:Nat):jI:=⟨S.bN.set p (l.set c (some t)),S.c7.set p (n - 1),if n=1 then S.bO.set p (some (t+1)) else S.bO,if n=1 then S.queue++[p] else S.queue⟩
def cT {b:Type} {l:List b} {i j:Nat} {a x:b}:(l.set i a)[j]?=some x↔(i=j/\i<l.length/\x=a)\/(i≠j/\l[j]?=some x):=by
 rw [List.getElem?_set]
 by_cases h:i=j
 .
  rw [aan h]
  by_cases H:i<l.length
  . rw [aan H]
    exact ⟨λ e => .inl ⟨h,H,(aao e).symm⟩,λ e=>e.elim (λ e=>by rw [e.2.2]) λ e=>absurd h e.1⟩
  . rw [aap H]
    exact ⟨λ e=>by simp at e,λ e=>e.elim (λ e=>absurd e.2.1 H) λ e=>absurd h e.1⟩
 . rw [aap h]
   exact ⟨λ e => .inr ⟨h,e⟩,λ e=>e.elim (λ e=>absurd e.1 h) λ e=>e.2⟩
theorem ia.fin {rows:List bX} {S:jI} {p n:Nat} {l:List (Option Nat)} (h:ia rows S cur) (i:S.bN[p]?=some l) (J:S.c7[p]?=some n) (I:l[c]?=some none) (W:um rows S.bO p c cur):ia rows (S.fin p c cur l n) cur:=by
 have K:c<l.length:=(Bj.mp I).1
 have V:l[c]=none:=(Bj.mp I).2
 have Y:p<S.bN.length:=(Bj.mp i).1
 have Iv:p<S.c7.length:=(Bj.mp J).1
 have R:p<S.bO.length:=by rw [h.lk,<- h.ll];exact Y
 have D:=h.go p l n i J
 have n0:n≠0:=λ z=>by
   rw [z] at D
   exact abQ.mp D.symm _ (aae I) rfl
 have N:∀ k,S.bO[p]?≠some (some k):=λ k e=>n0 ((h.rk p n J).mpr ⟨k,e⟩)
 have A:p∉S.queue:=λ z=>by obtain ⟨k,e⟩:=(h.qu p).mp z;exact N k e
 have f:∀ j k,(S.fin p c cur l n).bO[j]?=some (some k)↔(n=1/\j=p/\k=cur+1)\/S.bO[j]?=some (some k):=λ j k=>by
   by_cases H:n=1
   .
    simp only [jI.fin,aan H,cT]
    constructor
    . rintro (⟨rfl,Z,e⟩|⟨Z,e⟩)
      . exact .inl ⟨H,rfl,aao e⟩
      . exact .inr e
    . rintro (⟨Z,rfl,rfl⟩|e)
      . exact .inl ⟨rfl,R,rfl⟩
      . exact .inr ⟨λ z=>N k (z ▸ e),e⟩
   . simp only [jI.fin,aap H]
     exact ⟨.inr,λ e=>e.elim (λ e=>absurd e.1 H) id⟩
 have U:∀ {j k},S.bO[j]?=some (some k)->(S.fin p c cur l n).bO[j]?=some (some k):=λ e=>(f _ _).mpr (.inr e)
 have B:∀ {Q c' t'},um rows S.bO Q c' t'->um rows (S.fin p c cur l n).bO Q c' t':=λ ⟨r,w,q⟩=>⟨r,w,q.imp id λ ⟨js,X,j,hj,e⟩=>⟨js,X,j,hj,U e⟩⟩
 have F:∀ {j L},(S.fin p c cur l n).bN[j]?=some L->(j=p/\L=l.set c (some cur))\/(j≠p/\S.bN[j]?=some L):=λ e=>by
   rcases cT.mp e with ⟨rfl,Z,e⟩|⟨q,e⟩
   . exact .inl ⟨rfl,e⟩
   . exact .inr ⟨λ z=>q z.symm,e⟩
 have G:∀ {j m},(S.fin p c cur l n).c7[j]?=some m->(j=p/\m=n - 1)\/(j≠p/\S.c7[j]?=some m):=λ e=>by
   rcases cT.mp e with ⟨rfl,Z,e⟩|⟨q,e⟩
   . exact .inl ⟨rfl,e⟩
   . exact .inr ⟨λ z=>q z.symm,e⟩
 have qm:∀ j,j∈(S.fin p c cur l n).queue↔(n=1/\j=p)\/j∈S.queue:=λ j=>by
   by_cases H:n=1
   . simp only [jI.fin,aan H,aau,aac]
     exact ⟨λ e=>e.elim .inr λ e => .inl ⟨H,e⟩,λ e=>e.elim (λ e => .inr e.2) .inl⟩
   . simp only [jI.fin,aap H]
     exact ⟨.inr,λ e=>e.elim (λ e=>absurd e.1 H) id⟩
 have C:(l.set c (some cur)).countP Option.isNone=n - 1:=by
   rw [List.countP_set K,V,D];rfl
 refine ⟨?_,?_,?_,?_,?_,?_,?_,?_,?_,?_,?_,?_,?_,?_⟩
 . show (S.bN.set p _).length=_
   rw [abc];exact h.ll
 . show (S.c7.set p _).length=_
   rw [abc];exact h.lg
 .
  show (if n=1 then S.bO.set p (some (cur+1)) else S.bO).length=_
  split
  . rw [abc];exact h.lk
  . exact h.lk
 .
  intro j L r e w
  rcases F e with ⟨rfl,rfl⟩|⟨Z,e⟩
  . rw [abc];exact h.sh _ _ _ i w
  . exact h.sh _ _ _ e w
 .
  intro j L m e d
  rcases F e with ⟨rfl,rfl⟩|⟨q,e⟩
  . rcases G d with ⟨Z,rfl⟩|⟨q,Z⟩
    . exact C.symm
    . exact absurd rfl q
  . rcases G d with ⟨z,Z⟩|⟨Z,d⟩
    . exact absurd z q
    . exact h.go _ _ _ e d
 .
  intro j m d
  rcases G d with ⟨rfl,rfl⟩|⟨q,d⟩
  . refine ⟨λ z=>⟨cur+1,(f _ _).mpr (.inl ⟨by lia,rfl,rfl⟩)⟩,λ ⟨k,e⟩=>?_⟩
    rcases (f _ _).mp e with ⟨e,Z⟩|e
    . lia
    . exact absurd e (N k)
  . refine (h.rk j m d).trans ⟨λ ⟨k,e⟩=>⟨k,U e⟩,λ ⟨k,e⟩=>?_⟩
    rcases (f _ _).mp e with ⟨Z,e,Z⟩|e
    . exact absurd e q
    . exact ⟨k,e⟩
 .
  intro j
  rw [qm j]
  constructor
  . rintro (⟨v,rfl⟩|e)
    . exact ⟨cur+1,(f _ _).mpr (.inl ⟨v,rfl,rfl⟩)⟩
    . obtain ⟨k,e⟩:=(h.qu j).mp e
      exact ⟨k,U e⟩
  . rintro ⟨k,e⟩
    rcases (f _ _).mp e with ⟨v,E,Z⟩|e
    . exact .inl ⟨v,E⟩
    . exact .inr ((h.qu j).mpr ⟨k,e⟩)
 .
  show (if n=1 then S.queue++[p] else S.queue).Nodup
  split
  . exact acN.mpr ⟨h.nd,abO _ _,λ a s b u e=>A (by rw [<- aac.mp u,<- e];exact s)⟩
  . exact h.nd
 .
  intro j
  refine (h.z j).trans ⟨U,λ e=>?_⟩
  rcases (f _ _).mp e with ⟨Z,Z,e⟩|e
  . lia
  . exact e
 .
  intro j L c' t e E
  rcases F e with ⟨rfl,rfl⟩|⟨Z,e⟩
  . rcases cT.mp E with ⟨Z,Z,E⟩|⟨Z,E⟩
    . rw [aao E];exact aaj _
    . exact h.lo _ _ _ _ i E
  . exact h.lo _ _ _ _ e E
 .
  intro j L c' t e E
  rcases F e with ⟨rfl,rfl⟩|⟨Z,e⟩
  . rcases cT.mp E with ⟨rfl,Z,E⟩|⟨Z,E⟩
    . rw [aao E];exact B W
    . exact B (h.ls _ _ _ _ i E)
  . exact B (h.ls _ _ _ _ e E)
 .
  intro j t L o e
  rcases (f _ _).mp o with ⟨Z,rfl,v⟩|M
  .
   obtain rfl:t=cur:=by lia
   rcases F e with ⟨Z,rfl⟩|⟨q,Z⟩
   . refine ⟨λ c' t' T=>?_,c,cT.mpr (.inl ⟨rfl,K,rfl⟩)⟩
     rcases cT.mp T with ⟨Z,Z,E⟩|⟨Z,E⟩
     . rw [aao E];exact aaj _
     . exact h.lo _ _ _ _ i E
   . exact absurd rfl q
  . rcases F e with ⟨rfl,Z⟩|⟨Z,e⟩
    . exact absurd M (N _)
    . exact h.top _ _ _ M e
 .
  intro j k o
  rcases (f _ _).mp o with ⟨Z,Z,rfl⟩|o
  . exact aaj _
  . exact h.le _ _ o
 .
  have O:S.queue.Pairwise λ a b=>∀ x y,(S.fin p c cur l n).bO[a]?=some (some x)->(S.fin p c cur l n).bO[b]?=some (some y)->x<=y:=by
    refine h.SV.imp_of_mem λ {a b} s u q x y ex g=>?_
    rcases (f _ _).mp ex with ⟨Z,rfl,Z⟩|ex
    . exact absurd s A
    rcases (f _ _).mp g with ⟨Z,rfl,Z⟩|g
    . exact absurd u A
    exact q x y ex g
  show (if n=1 then S.queue++[p] else S.queue).Pairwise _
  by_cases H:n=1
  .
   rw [aan H]
   refine adc.mpr ⟨O,abO _ _,λ a s b u x y ex g=>?_⟩
   rw [aac.mp u] at g
   rcases (f _ _).mp ex with ⟨Z,rfl,Z⟩|ex
   . exact absurd s A
   rcases (f _ _).mp g with ⟨Z,Z,rfl⟩|g
   . exact h.le _ _ ex
   . exact absurd g (N _)
  . rw [aap H];exact O
def fJ (rows:List bX) (S:jI):Prop:=∀ (p:Nat) (r:bX) (c:Nat),rows[p]?=some r->r[c]?=some none->∃ l,S.bN[p]?=some l/\l[c]?=some (some 0)
def xf (rows:List bX) (S:jI) (j:Nat):Prop:=∀ (p:Nat) (r:bX) (c:Nat) J,rows[p]?=some r->r[c]?=some (some J)->j∈J->∃ l t k,S.bN[p]?=some l/\l[c]?=some (some t)/\S.bO[j]?=some (some k)/\t<=k
def vY {S:jI} {p t n:Nat} {l:List (Option Nat)} (b:S.bN[p]?=some l) (H:l[c]?=some none) {a:Nat} {L:List (Option Nat)} {t':Nat} (e:S.bN[a]?=some L) (E:L[c']?=some (some t')):∃ d,(S.fin p c t l n).bN[a]?=some d/\d[c']?=some (some t'):=by
 by_cases h:p=a
 .
  subst h
  rw [b] at e
  cases e
  refine ⟨_,cT.mpr (.inl ⟨rfl,(Bj.mp b).1,rfl⟩),cT.mpr (.inr ⟨λ z=>?_,E⟩)⟩
  rw [z,E] at H
  cases H
 . exact ⟨L,cT.mpr (.inr ⟨h,e⟩),E⟩
def ia.Dq {rows:List bX} {S:jI} {p n t:Nat} {l:List (Option Nat)} (h:ia rows S cur) (b:S.bN[p]?=some l) (H:S.c7[p]?=some n) (a:l[c]?=some none) {j k:Nat} (e:S.bO[j]?=some (some k)):(S.fin p c t l n).bO[j]?=some (some k):=by
 have N:n≠0:=λ z=>by
   have E:=h.go p l n b H
   rw [z] at E
   exact abQ.mp E.symm _ (aae a) rfl
 have q:p≠j:=λ z=>N ((h.rk p n H).mpr ⟨k,z ▸ e⟩)
 show (if n=1 then S.bO.set p (some (t+1)) else S.bO)[j]?=_
 split
 . exact cT.mpr (.inr ⟨q,e⟩)
 . exact e
def ia.sound {rows:List bX} {S:jI} (h:ia rows S cur):∀ (k p:Nat),S.bO[p]?=some (some k)->nB rows k p:=by
 intro k
 induction k using Nat.strongRecOn with
 | _ k I =>
   intro p e
   cases k with
   | zero=>exact (h.z p).mpr e
   | succ t =>
     have H:p<rows.length:=by rw [<- h.lk];exact (Bj.mp e).1
     have x:p<S.bN.length:=by rw [h.ll];exact H
     have V:p<S.c7.length:=by rw [h.lg];exact H
     have E:=Yb x
     have b:=Yb H
     have f:=Yb V
     have G:=(h.rk p _ f).mpr ⟨_,e⟩
     have C:=(h.go p _ _ E f).symm.trans G
     refine ⟨_,b,λ c v d=>?_⟩
     have g:c<S.bN[p].length:=by rw [h.sh p _ _ E b];exact (Bj.mp d).1
     have a:=Yb g
     have n:=abQ.mp C _ (aar g)
     cases q:S.bN[p][c] with
     | none=>rw [q] at n;exact absurd rfl n
     | some T =>
       rw [q] at a
       have L:=(h.top p t _ e E).1 c T a
       obtain ⟨r,K,w⟩:=h.ls p _ c T E a
       rw [b] at K
       cases K
       rcases w with ⟨w,Z⟩|⟨J,w,j,l,i⟩
       . rw [d] at w
         exact .inl (aao w)
       . rw [d] at w
         exact .inr ⟨J,aao w,j,l,(I T (by lia) j i).mono L⟩
theorem ia.whole {rows:List bX} {S:jI} (h:ia rows S cur) (N:fJ rows S) (G:∀ j∈S.queue,xf rows S j):∀ (k p:Nat),nB rows k p->∃ K,S.bO[p]?=some (some K)/\K<=k
 | 0,p,e=>⟨0,(h.z p).mp e,aaj _⟩
 | k+1,p,⟨r,g,x⟩=>by
   have u:p<rows.length:=(Bj.mp g).1
   have X:p<S.bN.length:=by rw [h.ll];exact u
   have V:p<S.c7.length:=by rw [h.lg];exact u
   have d:=Yb X
   have o:=Yb V
   have all:∀ c:Nat,c<S.bN[p].length->∃ t,S.bN[p][c]?=some (some t)/\t<=k:=by
     intro c H
     have M:c<r.length:=by rw [<- h.sh p _ _ d g];exact H
     have f:=Yb M
     rcases x c _ f with q|⟨J,q,j,w,i⟩
     . rw [q] at f
       obtain ⟨l,a,E⟩:=N p r c g f
       rw [d] at a
       cases a
       exact ⟨0,E,aaZ _⟩
     .
      rw [q] at f
      obtain ⟨K,b,L⟩:=h.whole N G k j i
      obtain ⟨l,t,B,a,E,m,A⟩:=G j ((h.qu j).mpr ⟨K,b⟩) p r c J g f w
      rw [d] at a
      cases a
      rw [b] at m
      cases m
      exact ⟨t,E,by lia⟩
   have C:S.bN[p].countP Option.isNone=0:=abQ.mpr λ v y z=>by
     obtain ⟨c,H,rfl⟩:=abk.mp y
     obtain ⟨t,s,Z⟩:=all c H
     rw [Yb H] at s
     rw [aao s] at z
     cases z
   obtain ⟨K,b⟩:=(h.rk p _ o).mp ((h.go p _ _ d o).trans C)
   refine ⟨K,b,?_⟩
   cases K with
   | zero=>exact aaZ _
   | succ t =>
     obtain ⟨c,n⟩:=(h.top p t _ b d).2
     obtain ⟨T,E,L⟩:=all c (Bj.mp n).1
     rw [n] at E
     cases E
     lia
def ia.up {rows:List bX} {S:jI} {a b:Nat} (h:ia rows S a) (L:a<=b):ia rows S b :=
 ⟨h.ll,h.lg,h.lk,h.sh,h.go,h.rk,h.qu,h.nd,h.z,λ p l c t e f=>aax (h.lo p l c t e f) L,h.ls,h.top,λ p k e=>aax (h.le p k e) (acW L),h.SV⟩
def GP (rows:List bX):jI:=⟨rows.map λ r=>r.map λ Z=>none,rows.map List.length,rows.map λ r=>if r.length=0 then some 0 else none,(List.range rows.length).filter λ p=>rows[p]? == some []⟩
def gn {rows:List bX} {p k:Nat}:(GP rows).bO[p]?=some (some k)↔rows[p]?=some []/\k=0:=by
 show (rows.map _)[p]?=_↔_
 rw [Sb]
 cases e:rows[p]? with
 | none=>simp
 | some r =>
   simp only [abX,Option.some.injEq]
   cases r with
   | nil=>simp [eq_comm]
   | cons a r=>simp
def tj {rows:List bX} {p:Nat} {l:List (Option Nat)} (e:(GP rows).bN[p]?=some l):∃ r,rows[p]?=some r/\l=r.map λ Z=>none:=by
 have e:(rows.map λ r=>r.map λ Z=>(none:Option Nat))[p]?=some l:=e
 rw [Sb] at e
 obtain ⟨r,E,rfl⟩:=abl.mp e
 exact ⟨r,E,rfl⟩
def Bo {rows:List bX} {p t:Nat} {l:List (Option Nat)} (e:(GP rows).bN[p]?=some l):l[c]?≠some (some t):=by
 obtain ⟨r,Z,rfl⟩:=tj e
 intro q
 rw [Sb] at q
 obtain ⟨Z,Z,z⟩:=abl.mp q
 cases z
def Ku (rows:List bX):ia rows (GP rows) 0:=by
 have C:∀ r:bX,(r.map λ Z=>(none:Option Nat)).countP Option.isNone=r.length:=λ r=>by
   rw [List.countP_map]
   exact List.countP_eq_length.mpr λ a Z=>rfl
 refine ⟨M1 ..,M1 ..,M1 ..,λ p l r e b=>?_,λ p l n e E=>?_,λ p n E=>?_,λ p=>?_,List.nodup_range.filter _,λ p=>?_,λ p l c t e q=>absurd q (Bo e),λ p l c t e q=>absurd q (Bo e),λ p t l e Z=>?_,λ p k e=>?_,?_⟩
 .
  obtain ⟨f,Q,rfl⟩:=tj e
  rw [b] at Q
  cases Q
  exact M1 ..
 .
  obtain ⟨r,b,rfl⟩:=tj e
  have E:(rows.map List.length)[p]?=some n:=E
  rw [Sb,b] at E
  rw [C]
  exact (aao E).symm
 .
  have E:(rows.map List.length)[p]?=some n:=E
  rw [Sb] at E
  obtain ⟨r,b,rfl⟩:=abl.mp E
  refine ⟨λ z=>⟨0,gn.mpr ⟨by rw [b,abP.mp z],rfl⟩⟩,λ ⟨k,e⟩=>?_⟩
  have:=(gn.mp e).1
  rw [b] at this
  rw [aao this];rfl
 .
  show p∈(List.range rows.length).filter _↔_
  rw [aa7,aaD]
  refine ⟨λ ⟨_,e⟩=>⟨0,gn.mpr ⟨by simpa using e,rfl⟩⟩,λ ⟨k,e⟩=>?_⟩
  have:=(gn.mp e).1
  exact ⟨(Bj.mp this).1,by rw [this];rfl⟩
 . exact ⟨λ e=>gn.mpr ⟨e,rfl⟩,λ e=>(gn.mp e).1⟩
 . have:=(gn.mp e).2
   lia
 . rw [(gn.mp e).2];exact aaZ _
 . refine adS (R:=λ Z Z=>True) (λ Z Z Z x y ex d=>?_) (List.pairwise_of_forall λ Z Z=>trivial)
   rw [(gn.mp ex).2];exact aaZ _
def xX (m:ar):Nat->cr->Prop
 | 0,s=>s.orders m=[]
 | k+1,s=>∀ o∈s.orders m,kC m s o=none\/∃ l,kC m s o=some l/\∃ t∈l,xX m k t
theorem xi {c d:Type} {F:c->d->Prop}:∀ {l₁:List c} {l₂:List d},Paired F l₁ l₂->∀ a∈l₁,∃ b∈l₂,F a b
 | _,_,.nil,_,h=>absurd h aad
 | _,_,.cons f q,a,h=>by
   rcases aaa.mp h with rfl|h
   . exact ⟨_,aas,f⟩
   . obtain ⟨b,H,e⟩:=xi q a h
     exact ⟨b,aai _ H,e⟩
theorem xG {c d:Type} {F:c->d->Prop}:∀ {l₁:List c} {l₂:List d},Paired F l₁ l₂->∀ b∈l₂,∃ a∈l₁,F a b
 | _,_,.nil,_,h=>absurd h aad
 | _,_,.cons f q,a,h=>by
   rcases aaa.mp h with rfl|h
   . exact ⟨_,aas,f⟩
   . obtain ⟨b,H,e⟩:=xG q a h
     exact ⟨b,aai _ H,e⟩
theorem f8.ill {m:ar} {g:qJ} (h:f8 m g) (D:g.rows.length=g.met.length):∀ (k p:Nat) (s:cr),g.met[p]?=some s->(nB g.rows k p↔xX m k s):=by
 have a:∀ {p s},g.met[p]?=some s->∃ r,g.rows[p]?=some r/\Paired (λ o b=>oZ g.met (kC m s o) b) (s.orders m) r:=λ {p s} e=>by
   have w:p<g.rows.length:=by rw [D];exact (Bj.mp e).1
   exact ⟨_,Yb w,h.rows p s _ e (Yb w)⟩
 intro k
 induction k with
 | zero =>
   intro p s e
   obtain ⟨r,E,H⟩:=a e
   have L:=H.length
   show g.rows[p]?=some []↔s.orders m=[]
   rw [E]
   refine ⟨λ z=>?_,λ z=>?_⟩
   . rw [aao z] at L
     exact abP.mp L
   . rw [z] at L
     rw [abP.mp L.symm]
 | succ k I =>
   intro p s e
   obtain ⟨r,E,H⟩:=a e
   refine ⟨λ ⟨G,Q,q⟩ o n=>?_,λ q=>⟨r,E,λ c v A=>?_⟩⟩
   .
    rw [E] at Q
    cases Q
    obtain ⟨b,B,R⟩:=xi H o n
    obtain ⟨c,C,x⟩:=abk.mp B
    have:=q c b (by rw [Yb C,x])
    cases y:kC m s o with
    | none=>exact .inl rfl
    | some l =>
      rw [y] at R
      cases b with
      | none=>exact R.elim
      | some J =>
        rcases this with z|⟨F,z,j,f,i⟩
        . cases z
        . cases z
          obtain ⟨t,u,d⟩:=xi (show Paired _ J l from R) j f
          exact .inr ⟨l,rfl,t,u,(I j t d).mp i⟩
   .
    obtain ⟨o,n,R⟩:=xG H v (aae A)
    cases v with
    | none=>exact .inl rfl
    | some J =>
      rcases q o n with z|⟨l,z,t,u,i⟩
      . rw [z] at R;exact R.elim
      . rw [z] at R
        obtain ⟨j,f,d⟩:=xG (show Paired _ J l from R) t u
        exact .inr ⟨J,rfl,j,f,(I j t d).mpr i⟩
def uA (m:ar) (s:cr):Option Nat->Prop
 | none=>∀ k,¬xX m k s
 | some k=>xX m k s/\∀ i,i<k->¬xX m i s
def ia.rank {m:ar} {g:qJ} {S:jI} (h:ia g.rows S cur) (n:fJ g.rows S) (G:∀ j∈S.queue,xf g.rows S j) (ok:f8 m g) (l:g.rows.length=g.met.length) {p:Nat} {s:cr} {v:Option Nat} (e:g.met[p]?=some s) (a:S.bO[p]?=some v):uA m s v:=by
 cases v with
 | none =>
   intro k q
   obtain ⟨K,E,Z⟩:=h.whole n G k p ((ok.ill l k p s e).mpr q)
   rw [a] at E
   cases E
 | some k =>
   refine ⟨(ok.ill l k p s e).mp (h.sound k p a),λ i H q=>?_⟩
   obtain ⟨K,E,L⟩:=h.whole n G i p ((ok.ill l i p s e).mpr q)
   rw [a] at E
   cases E
   lia
def uA.le {m M:ar} {s s':cr} {a b:Option Nat} (h:uA m s a) (h':uA M s' b) (S:∀ k,xX M k s'->xX m k s):b=none\/∃ x y,a=some x/\b=some y/\x<=y:=by
 cases b with
 | none=>exact .inl rfl
 | some y =>
   have i:=S y h'.1
   cases a with
   | none=>exact absurd i (h y)
   | some x=>exact .inr ⟨x,y,rfl,rfl,Nat.le_of_not_lt λ z=>h.2 y z i⟩
section
variable {X:Cx}
inductive Q0 (K:aD) (x:V) (y:V) (H:Hp) (Q:VK):Prop|mk (p xs:_) (i:Nat) (v:_) (_:x = .ref p) (_:y=aq i) (_:aT K H p xs) (_:xs[i]?=some v) (_:Q v H)
def Fo:N1 X (Q0 X.K):=by
 intro b s U H x y v u Q I R g h
 obtain ⟨p,n,i,z,rfl,rfl,d,a,q⟩:=h
 cases R
 obtain ⟨t,rfl⟩:=g
 obtain ⟨B,r,f,m⟩:=I.list d
 obtain ⟨w,e,c⟩:=r.get a
 have k:=r.length
 have l:=uo
 have j:=(Bj.mp a).1
 exact wpAny_getItem_list f.isList (aa3 i) (by lia) (by rw [aaW];simpa using e) ⟨z,H,I,c,q⟩
end
def jL:Option Nat->V
 | none => .cL
 | some n=>aq n
abbrev Px (pl pg pk pq:am):List (Str×V):=[("lasts",.ref pl),("going",.ref pg),("ranks",.ref pk),("queue",.ref pq)]
structure hU (CR:am) (H:Hp) (x pl pg pk pq:am) (qs:bK) (S:jI):Prop where
 ins:∃ dx,H x=some (.ins CR dx (Px pl pg pk pq))
 T6:H pl=some (.lst (qs.map .ref))
 len:qs.length=S.bN.length
 CK:∀ (i:Nat) q l,qs[i]?=some q->S.bN[i]?=some l->H q=some (.lst (l.map jL))
 QY:H pg=some (.lst (S.c7.map aq))
 Oo:H pk=some (.lst (S.bO.map jL))
 RY:H pq=some (.lst (S.queue.map aq))
 nd:(pl::pg::pk::pq::qs).Nodup
def map_set {b c:Type} (f:b->c) (l:List b) (i:Nat) (a:b):(l.map f).set i (f a)=(l.set i a).map f:=List.map_set.symm
def hU.fin {CR:am} {x pl g u v q:am} {Q:bK} {S:jI} {p t n:Nat} {l:List (Option Nat)} (h:hU CR H x pl g u v Q S) (d:Q[p]?=some q) (O:S.bN[p]?=some l) :
   hU CR (upd (upd H q (.lst ((l.map jL).set c (aq t)))) g (.lst ((S.c7.map aq).set p (aq (n - 1))))) x pl g u v Q ⟨S.bN.set p (l.set c (some t)),S.c7.set p (n - 1),S.bO,S.queue⟩:=by
 obtain ⟨⟨G,b⟩,I,J,o,K,L,M,r⟩:=h
 have W:=aae d
 simp only [aaP,aaa,abJ] at r
 obtain ⟨⟨A,w,y,j⟩,⟨B,k,m⟩,⟨F,C⟩,D,s⟩:=r
 have N:∀ {a},a∉Q->a≠q:=λ n z=>n (z ▸ W)
 have Y:=o p q l d O
 refine ⟨⟨G,?_⟩,?_,?_,λ i V U e E=>?_,?_,?_,?_,?_⟩
 . rw [aw (λ z=>by rw [z,K] at b;cases b),aw (λ z=>by rw [z,Y] at b;cases b)];exact b
 . rw [aw A,aw (N j)];exact I
 . rw [abc];exact J
 .
  rw [aw (λ z=>m (by rw [<- z];exact aae e))]
  by_cases f:p=i
  .
   subst f
   rw [d] at e
   cases e
   rw [af]
   rcases cT.mp E with ⟨Z,Z,E⟩|⟨z,Z⟩
   . rw [E]
     exact abV some (abV HO.lst (map_set jL l c (some t)))
   . exact absurd rfl z
  .
   rcases cT.mp E with ⟨z,Z⟩|⟨Z,E⟩
   . exact absurd z f
   rw [aw (λ z=>?_)]
   . exact o i V U e E
   . rw [z] at e
     obtain ⟨X,R⟩:=Bj.mp d
     obtain ⟨i2,T⟩:=Bj.mp e
     exact f ((adA s).mp (R.trans T.symm))
 . rw [af,map_set]
 . rw [aw (λ z=>B z.symm),aw (N C)];exact L
 . rw [aw (λ z=>k z.symm),aw (N D)];exact M
 . simp only [aaP,aaa,abJ]
   exact ⟨⟨A,w,y,j⟩,⟨B,k,m⟩,⟨F,C⟩,D,s⟩
def hU.U7 {CR:am} {x pl f c d:am} {q:bK} {S:jI} {p t:Nat} (h:hU CR H x pl f c d q S) :
   hU CR (upd (upd H c (.lst ((S.bO.map jL).set p (aq (t+1))))) d (.lst (S.queue.map aq++[aq p]))) x pl f c d q ⟨S.bN,S.c7,S.bO.set p (some (t+1)),S.queue++[p]⟩:=by
 obtain ⟨⟨l,a⟩,m,n,o,r,s,u,b⟩:=h
 have N:=b
 simp only [aaP,aaa,abJ] at b
 obtain ⟨⟨v,A,g,w⟩,⟨B,j,y⟩,⟨C,k⟩,D,Z⟩:=b
 refine ⟨⟨l,?_⟩,?_,n,λ i Q L e E=>?_,?_,?_,?_,N⟩
 . rw [aw (λ z=>by rw [z,u] at a;cases a),aw (λ z=>by rw [z,s] at a;cases a)];exact a
 . rw [aw g,aw A];exact m
 . have:=aae e
   rw [aw (λ z=>D (by rw [<- z];exact this)),aw (λ z=>k (by rw [<- z];exact this))]
   exact o i Q L e E
 . rw [aw j,aw B];exact r
 . rw [aw C,af]
   exact abV some (abV HO.lst (map_set jL S.bO p (some (t+1))))
 . rw [af,aaf];rfl
inductive Lz (CR:am) (vs:aB) (H:Hp) (Q:VK) (_E:XK):Prop|mk (x pl pg pk pq qs S:_) (p c t n:Nat) (l:_) (_:vs=[.ref x,aq p,aq c,aq t]) (_:hU CR H x pl pg pk pq qs S) (_:S.bN[p]?=some l) (_:c<l.length) (_:S.c7[p]?=some n) (_:n≠0) (_:p<S.bO.length) (_:S.queue.length<=10000) (_:∀ H',gC (pl::pg::pk::pq::qs) H H'->hU CR H' x pl pg pk pq qs (S.fin p c t l n)->Q .cL H')
abbrev FD (pl pg pk pq:am) (qs:bK):bK:=pl::pg::pk::pq::qs
structure Ap (S S1:jI):Prop where
 qu:∃ more,S1.queue=S.queue++more
 rk:∀ (j k:Nat),S.bO[j]?=some (some k)->S1.bO[j]?=some (some k)
 la:∀ (p:Nat) l (c:Nat) t,S.bN[p]?=some l->l[c]?=some (some t)->∃ l',S1.bN[p]?=some l'/\l'[c]?=some (some t)
def Ap.refl (S:jI):Ap S S:=⟨⟨[],(abf _).symm⟩,λ Z Z h=>h,λ Z l Z Z h H=>⟨l,h,H⟩⟩
def Ap.trans {S s S2:jI} (a:Ap S s) (b:Ap s S2):Ap S S2:=by
 refine ⟨?_,λ j k h=>b.rk j k (a.rk j k h),λ p l c t h H=>?_⟩
 . obtain ⟨m,e⟩:=a.qu
   obtain ⟨M,E⟩:=b.qu
   exact ⟨m++M,by rw [E,e,abi]⟩
 . obtain ⟨L,d,f⟩:=a.la p l c t h H
   exact b.la p L c t d f
def ia.OY {rows:List bX} {S:jI} {p n t:Nat} {l:List (Option Nat)} (h:ia rows S cur) (b:S.bN[p]?=some l) (d:S.c7[p]?=some n) (a:l[c]?=some none):Ap S (S.fin p c t l n):=by
 refine ⟨?_,λ j k e=>h.Dq b d a e,λ f L c' T e E=>vY b a e E⟩
 by_cases H:n=1
 . exact ⟨[p],aan H⟩
 . exact ⟨[],(aap H).trans (abf _).symm⟩
def xf.more {rows:List bX} {S s:jI} {j:Nat} (g:xf rows S j) (x:Ap S s):xf rows s j:=λ p r c J f d H=>by
 obtain ⟨l,t,k,e,E,a,b⟩:=g p r c J f d H
 obtain ⟨L,F,h⟩:=x.la p l c t e E
 exact ⟨L,t,k,F,h,x.rk j k a,b⟩
def fJ.more {rows:List bX} {S S1:jI} (g:fJ rows S) (x:Ap S S1):fJ rows S1:=λ p r c b a=>by
 obtain ⟨l,e,E⟩:=g p r c b a
 exact x.la p l c 0 e E
def Ap.at {S s:jI} {i j:Nat} (x:Ap S s) (e:S.queue[i]?=some j):s.queue[i]?=some j:=by
 obtain ⟨m,E⟩:=x.qu
 rw [E,aal (Bj.mp e).1]
 exact e
def ia.ql {rows:List bX} {S:jI} (h:ia rows S cur):S.queue.length<=rows.length:=by
 have:=ady h.nd (l₂:=List.range rows.length) λ p H=>by
   obtain ⟨k,e⟩:=(h.qu p).mp H
   exact aaD.mpr (by rw [<- h.lk];exact (Bj.mp e).1)
 rw [aak] at this
 exact this
def FF (K:aD) (H:Hp) (F:bK) (p:am) (A:List (List (Nat×Nat))):Prop:=∃ v,H p=some (.lst v)/\p∉F/\Refs (λ q l=>q∉F/\∃ V,H q=some (.lst V)/\Refs (λ b (a:Nat×Nat)=>bY K H b [aq a.1,aq a.2]) V l) v A
def FF.but {K:aD} {F:bK} {c:am} {ah:List (List (Nat×Nat))} (h:FF K H F c ah) (b:gC F H H') (t:aQ K H H'):FF K H' F c ah:=by
 obtain ⟨v,d,a,f⟩:=h
 exact ⟨v,b _ _ d a,a,f.imp λ q l ⟨n,V,e,r⟩=>⟨n,V,b _ _ e n,r.imp λ p g z=>t _ _ z⟩⟩
def KF (rows:List bX) (a:List (List (Nat×Nat))):Prop:=a.length=rows.length/\∀ (j:Nat) l p c,a[j]?=some l->((p,c)∈l↔∃ r:bX,∃ J,rows[p]?=some r/\r[c]?=some (some J)/\j∈J)
def hU.uh {CR:am} {x pl p d e:am} {q:bK} {S:jI} (h:hU CR H x pl p d e q S):Be H (FD pl p d e q):=λ b a=>by
 simp only [aaa] at a
 rcases a with rfl|rfl|rfl|rfl|a
 . exact ⟨_,h.T6,rfl⟩
 . exact ⟨_,h.QY,rfl⟩
 . exact ⟨_,h.Oo,rfl⟩
 . exact ⟨_,h.RY,rfl⟩
 . obtain ⟨i,c,rfl⟩:=abk.mp a
   have C:i<S.bN.length:=by rw [<- h.len];exact c
   exact ⟨_,h.CK i _ _ (Yb c) (Yb C),rfl⟩
def BZ {K:aD} {L:bK} (h:Be H L) (b:gC L H H'):aQ K H H':=λ c x q=>by
 have n:∀ u,H c=some u->zK u=false->c∉L:=λ u e z y=>by
   obtain ⟨o,E,n⟩:=h c y
   rw [e] at E
   cases E
   rw [n] at z
   cases z
 rcases q with (q|⟨O,q⟩)|q
 . exact .inl (.inl (b _ _ q (n _ q rfl)))
 . exact .inl (.inr ⟨O,b _ _ q (n _ q rfl)⟩)
 . exact .inr q
def yx {L:bK} {H1 H2:Hp} (a:gC L H H1) (b:gC L H1 H2):gC L H H2:=λ c o h n=>b c o (a c o h n) n
inductive DG (K:aD) (CR:am) (vs:aB) (H:Hp) (Q:VK) (_E:XK):Prop|mk (x pl pg pk pq qs S pa ah rows:_) (_:vs=[.ref x,.ref pa]) (_:hU CR H x pl pg pk pq qs S) (_:ia rows S 0) (_:fJ rows S) (_:FF K H (FD pl pg pk pq qs) pa ah) (_:KF rows ah) (_:rows.length<=2000) (_:∀ H' S' cur,gC (FD pl pg pk pq qs) H H'->hU CR H' x pl pg pk pq qs S'->ia rows S' cur->fJ rows S'->(∀ j∈S'.queue,xf rows S' j)->Q .cL H')
def InH (m:ar) (i:Int):Prop:=0<=i/\i<(m.rows.length:Int)
instance (m:ar) (i:Int):Decidable (InH m i):=inferInstanceAs (Decidable (_/\_))
end L2
namespace PySem
open Sem (wp)
end PySem
namespace L2
open PySem PySem.Spec PyProof.Rows Mth
def xD {sq:Hp->am->aB->Prop} {a:am} {xs:aB} {g:TG} {tb:TS} {D:Ends} {U:St} {H:Hp} (b:Nat->St->Hp->Prop) (h0:b 0 U H) (l:∀ i U H,i<=xs.length->b i U H->sq H a xs)
   (r:∀ i x p U H,xs[i]?=some x->H p=none->b i U H->g (.ref p) U (upd H p (.tup [aq i,x])) λ d f=>tb ⟨b (i+1),D.rt,D.nx,b (i+1)⟩ d f) (j:∀ U H,b xs.length U H->D.nx U H) :
   ∃ W:Nat->Nat->St->Hp->Prop,(∃ m,W 0 m U H)/\∀ i m U H,W i m U H ->
     ((Es sq a).stop i H/\D.nx U H)\/((Es sq a).go i H/\∃ N:St->Hp->Prop,(∀ c h,N c h->∃ M,M<m/\W (i+1) M c h)/\∀ x h,(Es sq a).G6 i H x h->g x U h λ d f=>tb { D with nx:=N,ct:=N,bk:=D.nx } d f):=by
 refine ⟨λ i m U H=>m=xs.length - i/\i<=xs.length/\b i U H,⟨_,rfl,aaZ _,h0⟩,?_⟩
 rintro i m U H ⟨rfl,k,p⟩
 have q:=l i U H k p
 by_cases n:i<xs.length
 . refine .inr ⟨⟨xs,xs[i],q,by simp [n]⟩,b (i+1),λ c h s=>⟨xs.length - (i+1),by lia,rfl,n,s⟩,λ v h y=>?_⟩
   obtain ⟨t,x,o,rfl,rfl,E⟩:=y
   exact r i x t U H (E xs q) o p
 . have e:i=xs.length:=by lia
   subst e
   exact .inl ⟨⟨xs,q,rfl⟩,j U H p⟩
end L2
namespace Mth
end Mth
namespace L2
open PySem PySem.Spec PyProof.Rows Mth
variable {H H0:Hp}
def Lc {rs:List (List cm)} (h:∀ r∈rs,2<=r.length/\r.length<=5):0<=i6 rs/\i6 rs<=4 ^ rs.length:=by
 have k:∀ (rs:List (List cm)) (a:Int),0<=a->(∀ r∈rs,2<=r.length/\r.length<=5)->0<=rs.foldl (λ p r=>p * ((r.length:Int) - 1)) a/\rs.foldl (λ p r=>p * ((r.length:Int) - 1)) a<=a * 4 ^ rs.length:=by
   intro rs
   induction rs with
   | nil=>intro a H Z;exact ⟨H,by show a<=a * 1;lia⟩
   | cons r rs i =>
     intro a H b
     have f:=b r (by simp)
     rw [adE]
     have B:0<=a * ((r.length:Int) - 1):=acJ H (by lia)
     obtain ⟨x,y⟩:=i (a * ((r.length:Int) - 1)) B λ q c=>b q (by simp [c])
     refine ⟨x,ad8 y ?_⟩
     have l:a * ((r.length:Int) - 1)<=a * 4:=act (by lia) H
     have d:(0:Int)<=4 ^ rs.length:=Int.pow_nonneg (by decide)
     have:=abv l d
     rw [aaX,Int.pow_succ]
     have e:a * (4 ^ rs.length * 4)=a * 4 * 4 ^ rs.length:=by grind
     rw [e]
     exact this
 have:=k rs 1 (by decide) h
 rw [acT] at this
 exact this
def FQ {rs:List (List cm)} (h:∀ r∈rs,2<=r.length/\r.length<=5) (H:rs.length<=4):i6 rs<=400:=by
 have a:=(Lc h).2
 have:(4:Int) ^ rs.length<=256:=by
   have:rs.length=0\/rs.length=1\/rs.length=2\/rs.length=3\/rs.length=4:=by lia
   rcases this with e|e|e|e|e<;>rw [e]<;>decide
 lia
def EB {X:Cx} {T l:Expr} {t:TE} {K:aD} (h:X.K=K) (H:PE X l t):PI X T l (JD K t):=by subst h;exact cf H
def J9 (m:ar) (r:Nat):cm×cm×cm:=(m.bS[r]?).getD ((0,1),(0,1),(0,1))
def Ck (m:ar) (r:Nat):Option (cm×Int×Int×Int):=(m.bw[r]?).getD none
structure R5 where
 a:Int
 b:Int
 t:Int
 d:Int
abbrev R5.vs (s:R5):aB:=[.int s.a,.int s.b,.int s.t,.int s.d]
structure R5.Ok (s:R5):Prop where
 a:1<=s.a/\s.a<=10 ^ 9
 b:1<=s.b/\s.b<=10 ^ 9
 t:s.t.natAbs<=10 ^ 9
 d:1<=s.d/\s.d<=10 ^ 9
def PB {a b:Int} {x y:Nat} (h:a.natAbs<=x) (H:b.natAbs<=y):(a * b).natAbs<=x * y:=by
 rw [acI]
 exact Nat.mul_le_mul h H
structure R7 where
 marks:List Int
 share:Int
 low:Int
 high:Int
 bV:Option (Int×Int×Int×Int)
structure R7.Ok (r:R7):Prop where
 len:2<=r.marks.length/\r.marks.length<=5
 rise:∀ (i:Nat) (x y:Int),r.marks[i]?=some x->r.marks[i+1]?=some y->x<y
 bd:∀ x∈r.marks,x.natAbs<=200
 sh:1<=r.share/\r.share<=3
 lo:r.low<=r.high
 lb:r.low.natAbs<=300
 hb:r.high.natAbs<=300
 st:∀ z,r.bV=some z->(0<=z.1/\z.1<=100)/\(0<=z.2.1/\z.2.1<=9)/\(0<=z.2.2.1/\z.2.2.1<=3)/\(0<=z.2.2.2/\z.2.2.2<=3)
structure yA (K:aD) (H0 H:Hp) (pa:am) (as:bK) (ah:List (List (Nat×Nat))):Prop where
 sm:aG H0 H
 fr:∀ b∈pa::as,H0 b=none
 nd:(pa::as).Nodup
 le:as.length=ah.length
 hp:H pa=some (.lst (as.map .ref))
 CK:∀ (j:Nat) b l,as[j]?=some b->ah[j]?=some l->∃ vs,H b=some (.lst vs)/\Refs (λ b (pc:Nat×Nat)=>bY K H b [aq pc.1,aq pc.2]) vs l
def yA.same {K:aD} {a:Hp} {c:am} {as:bK} {ah:List (List (Nat×Nat))} (h:yA K H0 H c as ah) (s:aG H a):yA K H0 a c as ah :=
 ⟨h.sm.trans s,h.fr,h.nd,h.le,s _ _ h.hp,λ j b l e E=>by
   obtain ⟨v,d,f⟩:=h.CK j b l e E
   exact ⟨v,s _ _ d,f.imp λ p g z=>s.ts _ _ z⟩⟩
def yA.put {K:aD} {k b t:am} {as:bK} {A:List (List (Nat×Nat))} {j p c:Nat} {l:List (Nat×Nat)} {vs:aB} (h:yA K H0 H k as A) (d:as[j]?=some b) (w:A[j]?=some l) (q:H b=some (.lst vs)) (s:Refs (λ b (a:Nat×Nat)=>bY K H b [aq a.1,aq a.2]) vs l) (r:bY K H t [aq p,aq c]):yA K H0 (upd H b (.lst (vs++[.ref t]))) k as (A.set j (l++[(p,c)])):=by
 have T:aQ K H (upd H b (.lst (vs++[.ref t]))):=bT q rfl
 have g:=aae d
 have n:=aaP.mp h.nd
 refine ⟨λ x u e=>?_,h.fr,h.nd,?_,?_,λ i B L e E=>?_⟩
 .
  rw [aw (λ z=>?_)]
  . exact h.sm x u e
  . rw [z,h.fr b (aai _ g)] at e
    cases e
 . rw [abc];exact h.le
 . rw [aw (λ z=>n.1 (by rw [z];exact g))];exact h.hp
 .
  by_cases f:j=i
  .
   subst f
   rw [d] at e
   cases e
   rcases cT.mp E with ⟨Z,Z,E⟩|⟨z,Z⟩
   . rw [E]
     exact ⟨_,af,Refs.snoc (s.imp λ p a z=>T _ _ z) (T _ _ r)⟩
   . exact absurd rfl z
  .
   rcases cT.mp E with ⟨z,Z⟩|⟨Z,E⟩
   . exact absurd z f
   obtain ⟨V,m,o⟩:=h.CK i B L e E
   refine ⟨V,?_,o.imp λ p a z=>T _ _ z⟩
   rw [aw (λ z=>?_)]
   . exact m
   . rw [z] at e
     obtain ⟨I,J⟩:=Bj.mp d
     obtain ⟨y,v⟩:=Bj.mp e
     exact f ((adA n.2).mp (J.trans v.symm))
def mE (rows:List bX) (i n k:Nat) (a:List (List (Nat×Nat))):Prop:=a.length=rows.length/\(∀ (j:Nat) l,a[j]?=some l->∀ p c,((p,c)∈l↔∃ r:bX,∃ J,rows[p]?=some r/\r[c]?=some (some J)/\((p<i/\j∈J)\/(p=i/\c<n/\j∈J)\/(p=i/\c=n/\j∈J.take k))))
def mE.zero (rows:List bX):mE rows 0 0 0 (rows.map λ Z=>[]):=by
 refine ⟨M1 ..,λ j l e p c=>?_⟩
 rw [Sb] at e
 obtain ⟨r,Z,rfl⟩:=abl.mp e
 refine ⟨λ h=>absurd h aad,λ ⟨r,J,_,_,h⟩=>?_⟩
 rcases h with ⟨h,Z⟩|⟨Z,h,Z⟩|⟨Z,Z,h⟩
 . exact absurd h (abn _)
 . exact absurd h (abn _)
 . simp at h
def mE.done {rows:List bX} {ah:List (List (Nat×Nat))} (h:mE rows rows.length 0 0 ah):KF rows ah:=by
 refine ⟨h.1,λ j l p c e=>(h.2 j l e p c).trans ⟨λ ⟨r,J,E,a,q⟩=>⟨r,J,E,a,?_⟩,λ ⟨r,J,E,a,q⟩=>⟨r,J,E,a,.inl ⟨(Bj.mp E).1,q⟩⟩⟩⟩
 rcases q with ⟨Z,q⟩|⟨Z,q,Z⟩|⟨Z,Z,q⟩
 . exact q
 . exact absurd q (abn _)
 . simp at q
def mE.OR {rows:List bX} {i:Nat} {r:bX} {ah:List (List (Nat×Nat))} (b:rows[i]?=some r) (h:mE rows i r.length 0 ah):mE rows (i+1) 0 0 ah:=by
 refine ⟨h.1,λ j l e p c=>(h.2 j l e p c).trans ⟨λ ⟨R,J,E,a,q⟩=>⟨R,J,E,a,?_⟩,λ ⟨R,J,E,a,q⟩=>⟨R,J,E,a,?_⟩⟩⟩
 .
  rcases q with ⟨q,w⟩|⟨q,Z,w⟩|⟨Z,Z,q⟩
  . exact .inl ⟨by lia,w⟩
  . exact .inl ⟨by lia,w⟩
  . simp at q
 .
  rcases q with ⟨q,w⟩|⟨Z,q,Z⟩|⟨Z,Z,q⟩
  .
   by_cases H:p=i
   . subst H
     rw [b] at E
     cases E
     exact .inr (.inl ⟨rfl,(Bj.mp a).1,w⟩)
   . exact .inl ⟨by lia,w⟩
  . exact absurd q (abn _)
  . simp at q
def mE.JM {rows:List bX} {i n k:Nat} {r:bX} {v:Option (aR)} {ah:List (List (Nat×Nat))} (b:rows[i]?=some r) (d:r[n]?=some v) (f:∀ J,v=some J->k=J.length) (h:mE rows i n k ah):mE rows i (n+1) 0 ah:=by
 refine ⟨h.1,λ j l e p c=>(h.2 j l e p c).trans ⟨λ ⟨R,J,E,a,q⟩=>⟨R,J,E,a,?_⟩,λ ⟨R,J,E,a,q⟩=>⟨R,J,E,a,?_⟩⟩⟩
 .
  rcases q with q|⟨q,Q,w⟩|⟨q,Q,w⟩
  . exact .inl q
  . exact .inr (.inl ⟨q,by lia,w⟩)
  . exact .inr (.inl ⟨q,by lia,ade w⟩)
 .
  rcases q with q|⟨q,Q,w⟩|⟨Z,Z,q⟩
  . exact .inl q
  .
   by_cases H:c=n
   .
    subst q
    subst H
    rw [b] at E
    cases E
    rw [d] at a
    cases a
    rw [f J rfl,aaA]
    exact .inr (.inr ⟨rfl,rfl,w⟩)
   . exact .inr (.inl ⟨q,by lia,w⟩)
  . simp at q
def mE.put {rows:List bX} {i n k j:Nat} {r:bX} {J:aR} {l:List (Nat×Nat)} {A:List (List (Nat×Nat))} (f:rows[i]?=some r) (g:r[n]?=some (some J)) (m:J[k]?=some j) (o:A[j]?=some l) (h:mE rows i n k A):mE rows i n (k+1) (A.set j (l++[(i,n)])):=by
 refine ⟨by rw [abc];exact h.1,λ s L e p c=>?_⟩
 have t:J.take (k+1)=J.take k++[j]:=by
   rw [abC,m];rfl
 rcases cT.mp e with ⟨rfl,Z,rfl⟩|⟨N,e⟩
 .
  rw [aau,aac,h.2 j l o p c]
  constructor
  .
   rintro (⟨R,I,E,a,q⟩|q)
   .
    refine ⟨R,I,E,a,?_⟩
    rcases q with q|q|⟨Q,b,d⟩
    . exact .inl q
    . exact .inr (.inl q)
    . refine .inr (.inr ⟨Q,b,?_⟩)
      rw [abC]
      exact aaU _ d
   . cases q
     exact ⟨r,J,f,g,.inr (.inr ⟨rfl,rfl,by rw [t];exact aa1 _ (aac.mpr rfl)⟩)⟩
  .
   rintro ⟨R,I,E,a,q⟩
   rcases q with q|q|⟨Q,b,d⟩
   . exact .inl ⟨R,I,E,a,.inl q⟩
   . exact .inl ⟨R,I,E,a,.inr (.inl q)⟩
   . exact .inr (by rw [Q,b])
 .
  rw [h.2 s L e p c]
  constructor
  .
   rintro ⟨R,I,E,a,q⟩
   refine ⟨R,I,E,a,?_⟩
   rcases q with q|q|⟨Q,b,d⟩
   . exact .inl q
   . exact .inr (.inl q)
   . refine .inr (.inr ⟨Q,b,?_⟩)
     rw [abC]
     exact aaU _ d
  .
   rintro ⟨R,I,E,a,q⟩
   refine ⟨R,I,E,a,?_⟩
   rcases q with q|q|⟨Q,b,d⟩
   . exact .inl q
   . exact .inr (.inl q)
   .
    refine .inr (.inr ⟨Q,b,?_⟩)
    subst Q
    subst b
    rw [f] at E
    cases E
    rw [g] at a
    cases a
    rw [t] at d
    rcases aau.mp d with z|z
    . exact z
    . exact absurd (aac.mp z).symm N
def yA.row {K:aD} {c q:am} {as:bK} {A:List (List (Nat×Nat))} (h:yA K H0 H c as A) (g:H q=none):yA K H0 (upd (upd H q (.lst [])) c (.lst (as.map .ref++[.ref q]))) c (as++[q]) (A++[[]]):=by
 have n:=aaP.mp h.nd
 have Q:q≠c:=(aA h.hp g).symm
 have s:=ak (o:=.lst []) g
 have N:q∉as:=λ z=>by
   obtain ⟨i,f,e⟩:=abk.mp z
   have C:i<A.length:=by rw [<- h.le];exact f
   obtain ⟨v,j,Z⟩:=h.CK i q _ (by rw [Yb f,e]) (Yb C)
   rw [g] at j
   cases j
 have D:(upd H q (.lst [])) c=some (.lst (as.map .ref)):=s _ _ h.hp
 have t:aQ K H (upd (upd H q (.lst [])) c (.lst (as.map .ref++[.ref q]))):=s.ts.trans (bT D rfl)
 refine ⟨λ x u e=>?_,λ b d=>?_,?_,?_,?_,λ i b l e E=>?_⟩
 .
  rw [aw (λ z=>?_)]
  . exact s _ _ (h.sm x u e)
  . rw [z,h.fr c aas] at e
    cases e
 .
  rcases aaa.mp d with rfl|d
  . exact h.fr _ aas
  . rcases aau.mp d with z|z
    . exact h.fr _ (aai _ z)
    . rw [aac.mp z];exact h.sm.free g
 .
  refine aaP.mpr ⟨λ z=>?_,acN.mpr ⟨n.2,abO _ _,λ a r b d e=>N (by rw [<- aac.mp d,<- e];exact r)⟩⟩
  rcases aau.mp z with z|z
  . exact n.1 z
  . exact Q (aac.mp z).symm
 . rw [aab,aab,h.le];rfl
 . rw [af,aaf];rfl
 .
  by_cases f:i<as.length
  .
   rw [aal f] at e
   rw [aal (by rw [<- h.le];exact f)] at E
   obtain ⟨v,k,m⟩:=h.CK i b l e E
   refine ⟨v,?_,m.imp λ p w z=>t _ _ z⟩
   rw [aw (λ z=>n.1 (by rw [<- z];exact aae e))]
   exact s _ _ k
  .
   have L:=(Bj.mp e).1
   rw [aab,aaC] at L
   obtain rfl:i=as.length:=by lia
   rw [aa2] at e
   rw [h.le,aa2] at E
   cases e
   cases E
   exact ⟨[],by rw [aw Q,af],Refs.nil⟩
def wC (b:Nat) (a:List (List (Nat×Nat))):Prop:=∀ (j:Nat) l,a[j]?=some l->l.length<=b
def wC.mono {a b:Nat} {ah:List (List (Nat×Nat))} (h:wC a ah) (L:a<=b):wC b ah:=λ j l e=>aax (h j l e) L
def wC.put {b j:Nat} {l:List (Nat×Nat)} {x:Nat×Nat} {a:List (List (Nat×Nat))} (h:wC b a) (e:a[j]?=some l):wC (b+1) (a.set j (l++[x])):=λ i L E=>by
 rcases cT.mp E with ⟨Z,Z,rfl⟩|⟨Z,E⟩
 . rw [aab]
   exact acW (h j l e)
 . exact Nat.le_succ_of_le (h i L E)
inductive ER (K:aD) (vs:aB) (H:Hp) (Q:VK) (_E:XK):Prop|mk (pr vr:_) (rows:List bX) (_:vs=[.ref pr]) (_:H pr=some (.lst vr)) (_:bF K H (rows.map rM) vr) (_:rows.length<=2000) (_:(∀ r∈rows,r.length<=16/\∀ js,some js∈r->js.length<=400/\∀ j∈js,j<rows.length)) (_:∀ pa as ah H',yA K H H' pa as ah->KF rows ah->Q (.ref pa) H')
theorem wx {K:aD}:∀ {l:aR} {w:aB},bF K H (l.map jw) w->w=l.map aq
 | [],_,h=>h
 | _::_,_,⟨_,_,e,d,r⟩=>by
   rw [e,wx r,show _=_ from d];rfl
end L2
namespace PySem
open PySem.Spec PyProof.Rows
def si:typeLookup (.type "zip") "__getattr__" = pure none:=by rw [typeLookup_type,builtinLookup_eq_fast];kernel_rfl
def wK:typeLookup (.type "zip") "keys" = pure none:=by rw [typeLookup_type,builtinLookup_eq_fast];kernel_rfl
def Aa:entryFor table "zip.__getattribute__" = some Builtin.«object.__getattribute__» :=
 entryFor_alias (id':="object.__getattribute__") (by kernel_rfl) (by decide +kernel) (by decide +kernel) (by kernel_rfl)
def nA:entryFor table "dict.update.loop" = some Builtin.«dict.update.loop»:=entryFor_of_tree (by kernel_rfl)
def g7:plainId "dict.update.loop" = true:=by decide +kernel
def vc (a:am) (xs:Array az) (sl:Array (jF)) (name:Str) (u:Tok) (z:typeLookup (.type "zip") name=pure none) (F:(["__module__","__name__","__qualname__","__doc__","__annotations__"]:cZ).contains name=false) (hsz:name.length+100<=sizeLine:=by size_fits) :
   Meets (Builtin.«object.__getattribute__» ⟨[.ref a,.str name u],[]⟩) (λ A R s=>s.heap.get? a=some { cls:=.type "zip",dict:=none,data:=.fields xs,slots:=sl }/\raisesAttr (.ref a) name A R s) :=
 Meets.of_wp λ p w A R s h=>by
   obtain ⟨H,g,d,t,o⟩:=s
   obtain ⟨b,h⟩:=h
   have c:(⟨H,g,d,t,o⟩:Shared).TypeIs (.ref a) "zip":=⟨_,b,rfl⟩
   unfold Builtin.«object.__getattribute__»
   repeat (any_goals (first|assumption|wp_step))
   simp only [F,abI,acA]
   repeat (any_goals (first|assumption|wp_step))
   exact wpAny_raiseAttrError h.1 h.2 (attrMsg_fits (by decide +kernel) hsz)
def IZ {prog:bE} {w:bz} {A:Around} {E:az->Shared->Prop} {s:Shared} {a:am} {xs:Array az} {Q:jF->Shared->Prop}
   (c:s.heap.get? a=some { cls:=.type "zip",dict:=none,data:=.fields xs,slots:=#[]}) (f:A.handled=none)
   (h:∀ h' t,(∀ b o,s.heap.get? b=some o->h'.get? b=some o)->Q none { s with heap:=h',toks:=t }) :
   wpAny (model prog w) A (getAttr? (.ref a) "keys") Q E s:=by
 obtain ⟨i,g,d,t,O⟩:=s
 have H:∀ Y,(⟨i,g,d,Y,O⟩:Shared).TypeIs (.ref a) "zip":=λ Z=>⟨_,c,rfl⟩
 have j:=sub_AttributeError
 have k:=F.slot_zip_getattribute.lookup
 have l:=F.slot_zip_getattribute.bind (.ref a)
 have m:=si
 unfold getAttr? getAttrBy? getAttrBy
 repeat (any_goals (first|assumption|exact H _|((with_reducible show wpAny _ _ (call (Value.builtin "zip.__getattribute__") _ _) _ _ _);refine call_meets F.slot_zip_getattribute (H _) Aa (F.args_zip_getattribute_2 _ _) (vc a xs #[] "keys" _ wK (by decide +kernel)) ⟨c,f,λ h' Y e J=>?_⟩)|wp_step))
 obtain ⟨T,u,n⟩:=J.there
 show wpAny _ _ (getattributeRaised _ _ _ _ _ _ _) _ _ _
 unfold getattributeRaised
 repeat (any_goals (first|assumption|wp_step))
 exact h _ _ J.keeps
end PySem
namespace PySem
open PySem.Spec PyProof.Rows
abbrev oq (h:bG) (z TI TO T:am) (b:Bool):Prop :=
 h.get? z=some { cls:=.type "zip",dict:=none,data:=.fields #[rawInt T,.bool b,.bool false,.ref TI,.ref TO],slots:=#[]}
section
variable {prog:bE} {w:bz} {A:Around} {E:az->Shared->Prop} {s:Shared}
def pL {M:Model} {a:am} {Q:Option Obj->Shared->Prop} (h:Q (s.heap.get? a) s):wpAny M A (loadIfAlive a) Q E s:=λ b p H=>by
 unfold loadIfAlive
 rw [Sem.wp_loadIfAlive]
 exact h
def Ci {z TI TO T:am} {b:Bool} {o:Obj} {Q:Bool->Shared->Prop} (a:oq s.heap z TI TO T b) (c:s.heap.get? T=some o) (n:T≠z)
   (h:∀ h',oq h' z TI TO T true->Heap.SameBut z s.heap h'->Q false { s with heap:=h' }) :
   wpAny (model prog w) A (Builtin.SmallTypes.ownedTupleIsFree (.ref z)) Q E s:=by
 unfold Builtin.SmallTypes.ownedTupleIsFree
 refine aah (ab7 a rfl (x:=rawInt T) rfl ?_)
 show wpAny _ _ (loadIfAlive _ >>= _) _ _ _
 refine aah (pL ?_)
 rw [show ((T:Int)).toNat=T from aaW T,c]
 simp only [Option.isNone_some,abI,acA]
 refine aah (ab7 a rfl (x:=.bool b) rfl ?_)
 cases b with
 | false =>
   rw [aan (by decide)]
   refine aah (wpAny_setField_rec a (by simp) λ H S e=>?_)
   exact aaB (h H S e)
 | true =>
   rw [aap (by decide)]
   exact aah (aaB (aaB (h _ a (Heap.SameBut.refl ..))))
def wF {z TI TO T i I l j:am} {b:Bool} {U:Obj} {K m:Nat} {xs ys:Array az} {x y:az} {Q:az->Shared->Prop} (D:ZipApart z TI TO i I l j)
   (k:oq s.heap z TI TO T b) (J:s.heap.get? T=some U) (O:T≠z/\T≠i/\T≠I) (V:IsPair s.heap TI (.ref i) (.ref I))
   (t:s.heap.IsListIter i l K) (u:s.heap.IsListIter I j m) (B:s.heap.IsList l xs) (Y:s.heap.IsList j ys) (M:xs[K]?=some x) (N:ys[m]?=some y)
   (G:∀ h',oq h' z TI TO T true->h'.IsListIter i l (K+1)->h'.IsListIter I j (m+1)->IsPair h' s.heap.objs.size x y->h'.objs.size=s.heap.objs.size+1 ->
     (∀ c o,c≠z->c≠i->c≠I->s.heap.get? c=some o->h'.get? c=some o)->Q (.ref s.heap.objs.size) { s with heap:=h' }) :
   wpAny (model prog w) A (Builtin.«zip.__next__» ⟨[.ref z],[]⟩) (λ F s'=>∃ v,F = .done (.ret v)/\Q v s') E s:=by
 show wpAny _ _ (field (.ref z) 2 >>= _) _ _ _
 refine aah (ab7 k rfl (x:=.bool false) rfl ?_)
 show wpAny _ _ (field (.ref z) 3 >>= _) _ _ _
 refine aah (ab7 k rfl (x:=.ref TI) rfl ?_)
 refine aah (acx V rfl ?_)
 show wpAny _ _ (Builtin.SmallTypes.ownedTupleIsFree (.ref z) >>= _) _ _ _
 refine aah (Ci k J O.1 λ n S g=>?_)
 simp only [abI,acA]
 refine aah ?_
 rw [<- acD]
 simp only [ac9,List.forIn_nil]
 refine aah (aah (abW ?_))
 show wpAny _ _ (Builtin.SmallTypes.nextOf (.ref i) >>= _) _ _ _
 refine aah (wpAny_nextOf_list_item (t.extBut g.extBut D.i1z) (B.extBut g.extBut D.l1z) M λ p a L=>aaB ?_)
 refine aaB ?_
 refine aah (aah (abW ?_))
 show wpAny _ _ (Builtin.SmallTypes.nextOf (.ref I) >>= _) _ _ _
 refine aah (wpAny_nextOf_list_item ((u.extBut g.extBut D.i2z).extBut L.extBut D.i12.symm)
   ((Y.extBut g.extBut D.l2z).extBut L.extBut D.l2i1) N λ h d R=>aaB ?_)
 refine aaB (aaB ?_)
 refine aah (wpAny_newTuple (hsz:=(show 2<=sizeLine by decide)) ?_)
 have H:h.objs.size=s.heap.objs.size:=by rw [R.1,L.1,g.1]
 have f:oq h z TI TO T true:=R.extBut _ _ D.i2z.symm (L.extBut _ _ D.i1z.symm S)
 refine aaB ⟨_,rfl,?_⟩
 show Q (.ref h.objs.size) _
 rw [H]
 refine G _ (aam _ f) ((a.extBut R.extBut D.i12).at λ o e=>aam _ e) (d.at λ o e=>aam _ e) (by rw [<- H];exact aaQ _ rfl) (by rw [ac2,H]) λ c o C q r e=>aam _ (R.extBut _ _ r (L.extBut _ _ q (g.extBut _ _ C e)))
def yQ {z TI TO T i I l t:am} {b:Bool} {O:Obj} {k:Nat} {xs:Array az} {Q:Fin->Shared->Prop} (p:A.handled=none) (D:ZipApart z TI TO i I l t)
   (H:oq s.heap z TI TO T b) (m:s.heap.get? T=some O) (N:T≠z/\T≠i/\T≠I) (u:IsPair s.heap TI (.ref i) (.ref I))
   (g:s.heap.IsListIter i l k) (B:s.heap.IsList l xs) (r:xs[k]?=none)
   (j:∀ h' e,(∀ c o,c≠z->c≠i->s.heap.get? c=some o->h'.get? c=some o)->(∃ o,h'.get? e=some o/\o.cls = .type "StopIteration")->E (.ref e) { s with heap:=h' }) :
   wpAny (model prog w) A (Builtin.«zip.__next__» ⟨[.ref z],[]⟩) Q E s:=by
 show wpAny _ _ (field (.ref z) 2 >>= _) _ _ _
 refine aah (ab7 H rfl (x:=.bool false) rfl ?_)
 show wpAny _ _ (field (.ref z) 3 >>= _) _ _ _
 refine aah (ab7 H rfl (x:=.ref TI) rfl ?_)
 refine aah (acx u rfl ?_)
 show wpAny _ _ (Builtin.SmallTypes.ownedTupleIsFree (.ref z) >>= _) _ _ _
 refine aah (Ci H m N.1 λ d S a=>?_)
 simp only [abI,acA]
 refine aah ?_
 rw [<- acD]
 simp only [ac9,List.forIn_nil]
 refine aah (aah (abW ?_))
 show wpAny _ _ (Builtin.SmallTypes.nextOf (.ref i) >>= _) _ _ _
 refine aah (wpAny_nextOf_list_end p (g.extBut a.extBut D.i1z) (B.extBut a.extBut D.l1z) r λ h e L n=>?_)
 exact j h e (λ c o C f q=>L _ _ f (a.extBut _ _ C q)) n
end
end PySem
namespace PySem
open PySem.Spec PyProof.Rows
noncomputable def vy (l:List (PyData×am×az)):List (PyData×am×az):=l.foldl (λ a e=>storedH a e.1 e.2.1 e.2.2) []
def mL (l:List (PyData×am×az)) (e:PyData×am×az):vy (l++[e])=storedH (vy l) e.1 e.2.1 e.2.2:=by
 unfold vy
 rw [abD]
 rfl
def yF {xs:List (PyData×am×az)} {k:PyData} {a:am} {v:az} {x:PyData×am×az} (h:x∈storedH xs k a v):(∃ e∈xs,e.1=x.1/\e.2.1=x.2.1)\/x=(k,a,v):=by
 unfold storedH at h
 split at h
 .
  obtain ⟨y,H,rfl⟩:=aaJ.mp h
  refine .inl ⟨y,H,?_⟩
  unfold putAt
  split<;>exact ⟨rfl,rfl⟩
 . rcases aau.mp h with z|z
   . exact .inl ⟨x,z,rfl,rfl⟩
   . exact .inr (aac.mp z)
def zl (xs:List (PyData×am×az)) (k:PyData) (a:am) (v:az):(storedH xs k a v).length<=xs.length+1:=by
 unfold storedH
 split<;>simp
theorem tS {h:bG} {es:List (PyData×am×az)} (a:∀ e∈es,tQ h e.1 e.2.1):∀ i,∀ x∈vy (es.take i),tQ h x.1 x.2.1
 | 0,x,H=>by rw [acF] at H;exact absurd H aad
 | i+1,x,H=>by
   by_cases b:i<es.length
   . rw [abC,Yb b,acB,mL] at H
     rcases yF H with ⟨e,d,E,c⟩|rfl
     . rw [<- E,<- c];exact tS a i e d
     . exact a _ (aar b)
   . rw [aa6 (by lia),<- aa6 (i:=i) (l:=es) (by lia)] at H
     exact tS a i x H
theorem ut (es:List (PyData×am×az)):∀ i,(vy (es.take i)).length<=i
 | 0=>by rw [acF];exact aaj _
 | i+1=>by
   by_cases h:i<es.length
   . rw [abC,Yb h,acB,mL]
     exact aax (zl ..) (acW (ut es i))
   . rw [aa6 (by lia),<- aa6 (i:=i) (l:=es) (by lia)]
     exact Nat.le_succ_of_le (ut es i)
def GU (prog:bE) (w:bz) (h:bG) (d:am) (xs:List (PyData×am×az)):Prop:=∃ o e E,h.get? d=some o/\o.ExactDict/\o.data = .dict e E/\e.toList=xs.map (entryOfKey (hZ prog w))/\(xs.map (·.1)).Nodup
def tQ.up {h h':bG} {k:PyData} {a:am} (x:tQ h k a) (H:∀ b o,h.get? b=some o->h'.get? b=some o):tQ h' k a:=by
 obtain ⟨x,as,r,K,c,d,e⟩:=x
 exact ⟨x,as,nW (λ b O q Z Z Z=>H b O q) x K r,K,c,d,e⟩
def mv (h:bG) (d z TI TO i I:am):Prop:=(IsZip h z TI TO .none/\∃ a b,IsPair h TO a b)\/∃ T b o,oq h z TI TO T b/\h.get? T=some o/\(T≠z/\T≠i/\T≠I)/\T≠d
def mv.at {h h':bG} {d z TI TO i i2:am} (x:mv h d z TI TO i i2) (N:z≠d) (c:TO≠d) (H:∀ b o,b≠d->h.get? b=some o->h'.get? b=some o):mv h' d z TI TO i i2:=by
 rcases x with ⟨x,a,b,y⟩|⟨T,b,O,x,y,n,m⟩
 . exact .inl ⟨H _ _ N x,a,b,H _ _ c y⟩
 . exact .inr ⟨T,b,O,H _ _ N x,H _ _ m y,n,m⟩
section
variable {prog:bE} {w:bz} {A:Around} {E:az->Shared->Prop} {s:Shared}
def uc {d z TI TO i I l L:am} {k:Nat} {xs ys:Array az} {x y:az} {Q:jF->Shared->Prop} (D:ZipApart z TI TO i I l L)
   (h:mv s.heap d z TI TO i I) (r:∃ o,s.heap.get? d=some o) (M:IsPair s.heap TI (.ref i) (.ref I))
   (p:s.heap.IsListIter i l k) (q:s.heap.IsListIter I L k) (B:s.heap.IsList l xs) (Y:s.heap.IsList L ys) (J:xs[k]?=some x) (K:ys[k]?=some y)
   (C:∀ h',mv h' d z TI TO i I->h'.IsListIter i l (k+1)->h'.IsListIter I L (k+1)->IsPair h' s.heap.objs.size x y ->
     (∀ c o,c≠z->c≠TO->c≠i->c≠I->s.heap.get? c=some o->h'.get? c=some o)->Q (some (.ref s.heap.objs.size)) { s with heap:=h' }) :
   wpAny (model prog w) A (pyNext (.ref z)) Q E s:=by
 obtain ⟨od,r⟩:=r
 have X:s.heap.objs.size≠d:=acf (aaw r)
 rcases h with ⟨h,a,b,N⟩|⟨T,b,oT,h,G,n,W⟩
 .
  have V:=aaw h
  have t:i<s.heap.objs.size:=by obtain ⟨Z,e,Z⟩:=p;exact aaw e
  have u:I<s.heap.objs.size:=by obtain ⟨Z,e,Z⟩:=q;exact aaw e
  exact wpAny_pyNext_zip_item D h M N p q B Y J K λ h' g a2 j m f O H=>C h' (.inr ⟨_,false,_,g,f,⟨acf V,acf t,acf u⟩,X⟩) j m f H
 .
  have v:s.TypeIs (.ref z) "zip":=⟨_,h,rfl⟩
  unfold pyNext
  exact aah (wpAny_attempt (acp (name:=Str.ofString "__next__") v adq
    (adh adq v F.entry_zip_next
      (wF D h G n M p q B Y J K λ h' g j m f O H=>aaB (C h' (.inr ⟨T,true,oT,g,H _ _ n.1 n.2.1 n.2.2 G,n,W⟩) j m f λ c o R Z S U e=>H c o R S U e)) (F.args_zip_next_1 _))))
def vi {d z TI TO i I l L:am} {k:Nat} {xs ys:Array az} {Q:jF->Shared->Prop} (g:A.handled=none) (D:ZipApart z TI TO i I l L)
   (h:mv s.heap d z TI TO i I) (t:IsPair s.heap TI (.ref i) (.ref I))
   (H:s.heap.IsListIter i l k) (q:s.heap.IsListIter I L k) (B:s.heap.IsList l xs) (Y:s.heap.IsList L ys) (j:xs[k]?=none)
   (f:∀ h',(∀ c o,c≠z->c≠TO->c≠i->c≠I->s.heap.get? c=some o->h'.get? c=some o)->Q none { s with heap:=h' }) :
   wpAny (model prog w) A (pyNext (.ref z)) Q E s:=by
 rcases h with ⟨h,a,b,m⟩|⟨T,b,O,h,r,N,M⟩
 . exact wpAny_pyNext_zip_end g D h t m H q B Y (.inl j) f
 .
  have p:s.TypeIs (.ref z) "zip":=⟨_,h,rfl⟩
  unfold pyNext
  refine aah (wpAny_attempt (acp (name:=Str.ofString "__next__") p adq
    (adh adq p F.entry_zip_next (yQ g D h r N t H B j λ h' e x v=>?_) (F.args_zip_next_1 _))))
  obtain ⟨o,y,u⟩:=v
  refine aah (wpAny_isInstance (T:="StopIteration") (b:=true) ⟨o,y,u⟩ isSubtype_stop ?_)
  exact aaB (f _ λ c o C Z n Z e=>x c o C n e)
def Ho {R:Result->Shared->Prop} {d z TI TO I a O Q:am} {h0:bG} {xs ys:Array az} {es:List (PyData×am×az)} (D:ZipApart z TI TO I a O Q) (hh:A.handled=none) (hu:(hZ prog w).room A.in1)
   (fr:∀ c∈[z,TI,TO,I,a,d],h0.get? c=none) (N:∀ c∈[z,TI,TO,I,a],c≠d) (W:h0.IsList O xs) (yr:h0.IsList Q ys) (hn:xs.size=es.length)
   (yo:∀ (i:Nat) e,es[i]?=some e->xs[i]?=some (.ref e.2.1)/\ys[i]?=some e.2.2) (hk:∀ e∈es,tQ h0 e.1 e.2.1) (hsz:es.length<=sizeLine) :
   ∀ (k i:Nat) (s:Shared),es.length - i=k->i<=es.length->(∀ b o,h0.get? b=some o->s.heap.get? b=some o)->mv s.heap d z TI TO I a->IsPair s.heap TI (.ref I) (.ref a) ->
     s.heap.IsListIter I O i->s.heap.IsListIter a Q i->GU prog w s.heap d (vy (es.take i)) ->
     (∀ h' U,(∀ b o,h0.get? b=some o->h'.get? b=some o)->GU prog w h' d (vy es)->R (.ok (.ret .none)) { s with heap:=h',toks:=U }) ->
     codeAny (model prog w) A (.builtin "dict.update.loop" ⟨[.ref d,.ref z,rawInt i,.none],[]⟩) R s:=by
 have f:∀ {b o},h0.get? b=some o->b≠z/\b≠TI/\b≠TO/\b≠I/\b≠a/\b≠d:=λ {b o} e=>by
   refine ⟨?_,?_,?_,?_,?_,?_⟩<;>(rintro rfl;rw [fr _ (by simp)] at e;cases e)
 have T:d≠z:=(N z (by simp)).symm
 have X:d≠TO:=(N TO (by simp)).symm
 have S:d≠I:=(N I (by simp)).symm
 have V:d≠a:=(N a (by simp)).symm
 intro k
 induction k with
 | zero =>
   intro i s G hi ext M t v B r C
   obtain rfl:i=es.length:=by lia
   refine codeAny_builtin nA ?_
   rw [Around.under_plainId g7 _]
   show wpAny _ A.in1 (pyNext (.ref z) >>= _) _ _ s
   refine aah (vi (A:=A.in1) hh D M t v B (W.at λ o e=>ext _ _ e) (yr.at λ o e=>ext _ _ e) (Array.getElem?_eq_none (by lia)) λ h' J=>?_)
   show wpAny _ A.in1 (Builtin.Dict.addKeywords d [] >>= _) _ _ _
   refine aah (aaB (aaB ?_))
   rw [aaA] at r
   obtain ⟨o,l,m,h,g⟩:=r
   exact C h' s.toks (λ b o e=>J b o (f e).1 (f e).2.2.1 (f e).2.2.2.1 (f e).2.2.2.2.1 (ext b o e)) ⟨o,l,m,J _ _ T X S V h,g⟩
 | succ k ih =>
   intro i s G hi ext M t v B r C
   have nJ:i<es.length:=by lia
   have j:=Yb nJ
   generalize es[i]=e at j
   obtain ⟨L,hy⟩:=yo i e j
   obtain ⟨od,l,m,h,g⟩:=r
   refine codeAny_builtin nA ?_
   rw [Around.under_plainId g7 _]
   show wpAny _ A.in1 (pyNext (.ref z) >>= _) _ _ s
   refine aah (uc D M ⟨_,h⟩ t v B (W.at λ o e=>ext _ _ e) (yr.at λ o e=>ext _ _ e) L hy λ h' a1 a3 a4 a5 J=>?_)
   have E:∀ b o,h0.get? b=some o->h'.get? b=some o:=λ b o e=>J b o (f e).1 (f e).2.2.1 (f e).2.2.2.1 (f e).2.2.2.2.1 (ext b o e)
   have Xr:IsPair h' TI (.ref I) (.ref a):=J _ _ D.TIz D.TITO D.TIi1 D.TIi2 t
   have dd:h'.DictOfH (hZ prog w) d (vy (es.take i)):=⟨od,l,m,J _ _ T X S V h,g.1,g.2.1,g.2.2.1,λ x L=>(tS hk i x L).up E,g.2.2.2⟩
   have kk:tQ h' e.1 e.2.1:=(hk e (aae j)).up E
   have F:Shared.TypeIs { s with heap:=h' } (.ref s.heap.objs.size) "tuple":=⟨_,a5,rfl⟩
   show wpAny _ A.in1 (holding [Value.ref s.heap.objs.size] _ >>= _) _ _ _
   refine aah (abW (aah (wpAny_tryCatch ?_)))
   unfold Builtin.Dict.pairItems
   refine aah (wpAny_typeOf F ?_)
   rw [aan (by decide)]
   refine aah (acx a5 rfl (aaB ?_))
   show wpAny _ A.in1 (holding [Value.ref e.2.1,e.2.2] (dictSet d (.ref e.2.1) e.2.2)) _ _ _
   refine abW (wpAny_dictSet_heap (hsz:=aax (ut es i) (aax hi hsz)) hu kk dd λ Y J4 XD=>?_)
   have K:∀ b o,b≠d->h'.get? b=some o->Y.get? b=some o:=λ b o n q=>XD.extBut _ _ n q
   obtain ⟨o3,u,p,q1,q2,q3,q4,q5,q6⟩:=J4
   refine aaB ⟨plainId_quiet g7 _,?_⟩
   have:=ih (i+1) { s with heap:=Y,toks:=s.toks+(hZ prog w).draws e.1 } (by lia) nJ (λ b o q=>K b o (f q).2.2.2.2.2 (E b o q)) (a1.at T.symm X.symm K) (K _ _ (N TI (by simp)) Xr) (a3.at λ o q=>K _ o S.symm q) (a4.at λ o q=>K _ o V.symm q) (by
     rw [abC,j,acB,mL]
     exact ⟨o3,u,p,q1,q2,q3,q4,q6⟩) λ H U x y=>C H U x y
   exact this
def Ja {l L:am} {xs ys:Array az} {es:List (PyData×am×az)} {Q:az->Shared->Prop} (j:A.handled=none) (hu:A.units+70<cLine)
   (B:s.heap.IsList l xs) (Y:s.heap.IsList L ys) (N:xs.size=es.length)
   (W:∀ (i:Nat) e,es[i]?=some e->xs[i]?=some (.ref e.2.1)/\ys[i]?=some e.2.2) (M:∀ e∈es,tQ s.heap e.1 e.2.1) (hsz:es.length<=sizeLine)
   (h:∀ h' t d,s.heap.objs.size<=d->(∀ b o,s.heap.get? b=some o->h'.get? b=some o)->GU prog w h' d (vy es)->Q (.ref d) { s with heap:=h',toks:=t }) {z:am} {H:bG}
   (J:z=s.heap.objs.size+4) (f:IsZip H z (s.heap.objs.size+2) (s.heap.objs.size+3) .none) (X:IsPair H (s.heap.objs.size+2) (.ref s.heap.objs.size) (.ref (s.heap.objs.size+1)))
   (z3:IsPair H (s.heap.objs.size+3) .none .none) (z4:H.IsListIter s.heap.objs.size l 0) (z5:H.IsListIter (s.heap.objs.size+1) L 0) (z6:H.objs.size=s.heap.objs.size+5)
   (R:∀ c o,s.heap.get? c=some o->H.get? c=some o) :
   wpAny (model prog w) A (call (.type "dict") [.ref z]) Q E { s with heap:=H }:=by
 subst J
 have m:∀ {b o},s.heap.get? b=some o->b<s.heap.objs.size:=λ e=>aaw e
 have T:l<s.heap.objs.size:=by obtain ⟨Z,e,Z⟩:=B;exact m e
 have U:L<s.heap.objs.size:=by obtain ⟨Z,e,Z⟩:=Y;exact m e
 refine callType_codes (Q₁:=λ O S=>O = .ref H.objs.size/\S={ s with heap:=H.push { cls:=.type "dict",data:=.dict #[]}}) F.kt_called_dict (F.kt_typeCall_dict_1 _) F.entry_dict_init (kt_code_dict_new _ ⟨rfl,rfl⟩) ?_
 rintro O S ⟨rfl,rfl⟩
 have G:(H.push { cls:=.type "dict",data:=.dict #[]}).DictOfH (hZ prog w) H.objs.size []:=Heap.DictOfH.new H
 refine ⟨G.typeIs,F.args_dict_init_2 _ _,?_⟩
 unfold Builtin.«dict.__init__»
 refine aah ?_
 unfold Builtin.Dict.selfAndRest
 refine aah (wpAny_notOrdered_dict G.typeIs ?_)
 show wpAny _ _ (pure (H.objs.size,[Value.ref (s.heap.objs.size+4)])) _ _ _
 refine aaB ?_
 show wpAny _ _ (Builtin.Dict.updateFrom "dict.__init__" H.objs.size (.ref (s.heap.objs.size+4)) [] .none) _ _ _
 unfold Builtin.Dict.updateFrom
 have u:∀ {b o},H.get? b=some o->(H.push { cls:=.type "dict",data:=.dict #[]}).get? b=some o:=λ e=>aam _ e
 have g:Shared.TypeIs { s with heap:=H.push { cls:=.type "dict",data:=.dict #[]}} (.ref (s.heap.objs.size+4)) "zip":=⟨_,u f,rfl⟩
 refine aah (wpAny_typeOf g ?_)
 rw [aan (by decide)]
 refine aah (IZ (A:=A.in1.in1) (u f) j λ h6 V k=>?_)
 simp only [Option.isNone_none,adr]
 refine aah (wpAny_rule ?_)
 refine aah (adT (k _ _ (u f)) ?_)
 refine aaB ⟨plainId_quiet g7 _,?_⟩
 have K:∀ {c},s.heap.objs.size<=c->s.heap.get? c=none:=λ e=>adv e
 refine Ho (A:=A.in1) (h0:=s.heap) (es:=es) (D:=zipApart_new T U) j (by show A.in1.in1.units+64<cLine;rw [acz,acz];lia) (d:=H.objs.size) (λ c a=>?_) (λ c a=>?_) B Y N W M hsz _ 0 _ rfl (aaZ _) (λ b o e=>k _ _ (u (R _ _ e))) (.inl ⟨k _ _ (u f),_,_,k _ _ (u z3)⟩) (k _ _ (u X)) (z4.at λ o e=>k _ _ (u e)) (z5.at λ o e=>k _ _ (u e)) ?_ (λ h' t x y=>⟨rfl,h h' t _ (by lia) x y⟩)
 . refine K ?_
   simp only [aaa,aad,aaR] at a
   rcases a with rfl|rfl|rfl|rfl|rfl|rfl<;>lia
 . simp only [aaa,aad,aaR] at a
   rcases a with rfl|rfl|rfl|rfl|rfl<;>(rw [z6];intro z;exact absurd (show (_:Nat)=_ from z) (by lia))
 . obtain ⟨o,C,I,n,p,q,r,Z,v⟩:=G
   exact ⟨o,C,I,k _ _ n,p,q,r,v⟩
end
end PySem
namespace PySem
theorem vN {es:List (PyData×am×az)} (H:(es.map (·.1)).Nodup):∀ i,i<=es.length->vy (es.take i)=es.take i
 | 0,_=>rfl
 | i+1,h=>by
   rw [abC,Yb h,acB,mL,vN H i (by lia)]
   refine storedH_new (atKey_none_of_get λ j p e=>?_) _ _
   have a:=(Bj.mp e).1
   rw [aaF] at a
   rw [adR (by lia)] at e
   have:=idxH_unique H e (show es[i]?=some (es[i].1,es[i].2) from Yb h)
   lia
end PySem
namespace L2
open PySem PySem.Spec PyProof.Rows Mth
variable {H H':Hp}
def EI (P:bE) (w:bz) (K:aD) (t:TA):TE:=λ U H Q=>t U H λ v h=>∃ q b,∃ a:oK,v=[.ref q,.ref b]/\aT K h q (a.map λ e => .ref e.2.1)/\aT K h b (a.map λ e=>e.2.2) /\
 (a.map (·.1)).Nodup/\(∀ e∈a,gJ K h e.1 e.2.1)/\a.length<=sizeLine/\∀ p,h p=none->Q (.ref p) (upd h p (kZ P w p a))
def c8.u70 {k:Nat} {A:Around} (r:c8 k A):A.units+70<cLine:=by have:=r.un;lia
theorem tw:∀ {a:oK} {us vs:bM},Vals (a.map λ e => .ref e.2.1) us->Vals (a.map λ e=>e.2.2) vs->∃ es:List (PyData×am×az),XR a es/\us=es.map (λ e => .ref e.2.1)/\vs=es.map λ e=>e.2.2
 | [],_,_,.nil,.nil=>⟨[],.nil,rfl,rfl⟩
 | e::a,_,_,.cons r t,.cons R T=>by
   obtain ⟨es,h,H,b⟩:=tw t T
   exact ⟨(e.1,e.2.1,_)::es,.cons ⟨rfl,rfl,R⟩ h,by rw [H,show _=_ from r];rfl,by rw [b];rfl⟩
def XR.keys {a:oK} {es:List (PyData×am×az)} (h:XR a es):es.map (·.1)=a.map (·.1):=by
 induction h with
 | nil=>rfl
 | cons r _ i=>rw [aaS,aaS,i,r.1]
def XR.mem {a:oK} {es:List (PyData×am×az)} (h:XR a es):∀ e∈es,∃ x∈a,x.1=e.1/\x.2.1=e.2.1:=by
 induction h with
 | nil=>exact λ Z h=>absurd h aad
 | cons r _ i =>
   intro e H
   rcases aaa.mp H with rfl|H
   . exact ⟨_,aas,r.1,r.2.1⟩
   . obtain ⟨x,b,q⟩:=i e H
     exact ⟨x,aai _ b,q⟩
section
variable {X:Cx} {P:bE} {w:bz} {K:aD}
def By {a b:Expr} {T:TA} {p1 m W J:Pos} (hP:X.prog=P) (hw:X.w=w) (hK:X.K=K) (hu:X.A.units+70<cLine) (hc:X.calm=true) (ha:PA X [a,b] T) (M:Gl X "dict") (S:X.mg "dict" = none) (O:Gl X "zip") (k:X.mg "zip" = none) (hs:autoParam (starEach [a,b] X.env=[(false,eval a X.env),(false,eval b X.env)]) za_._auto_1) (L:autoParam (starEach [b] X.env=[(false,eval b X.env)]) za_._auto_1) (G:autoParam (starEach [.Call (.Name "zip" m) [a,b] [] J] X.env=[(false,eval (.Call (.Name "zip" m) [a,b] [] J) X.env)]) za_._auto_1) :
   PE X (.Call (.Name "dict" p1) [.Call (.Name "zip" m) [a,b] [] J] [] W) (EI P w K T):=by
 subst hP hw hK
 intro p s U H Q I h
 refine ab3 (jB I M S Il ?_ (by decide) (by decide))
 refine abb ?_ G rfl
 rw [G]
 refine acZ ?_
 refine ab3 (jB I O k FX (abb (cU (ha J p s U H _ I h) λ us s1 ⟨vs,H1,c,r1,q1⟩=>?_) (by rw [hs,L]) (by rw [L];rfl)) (by decide) (by decide))
 obtain ⟨a,b,t,e,ym,qL,nd,hk,F,q⟩:=q1
 subst e
 obtain ⟨u,v,rfl,r,r'⟩:=vals2 r1
 obtain rfl:u=Value.ref a:=r
 obtain rfl:v=Value.ref b:=r'
 obtain ⟨Ii,R,Y,L6⟩:=c.list ym
 obtain ⟨oy,N,z,Xv⟩:=c.list qL
 obtain ⟨E,f,rfl,rfl⟩:=tw R N
 have le:E.length=t.length:=f.length.symm
 refine call_zip_2 Y.isList z.isList λ h' z1 z2 z3 z4 z5 z6 kk=>adM ?_
 refine Ja (es:=E) (c.ok.hd hc) hu Y.isList z.isList (by simp) (λ i e y=>⟨by simp [y],by simp [y]⟩) (λ e he=>?_) (by rw [le];exact F) (λ h2 tk d l k2 D=>?_) rfl z1 z2 z3 z4 z5 z6 kk
 . obtain ⟨x,hx,g,j⟩:=f.mem e he
   rw [<- g,<- j]
   exact (hk x hx).is c
 .
  have fr:=c.dR.fresh l
  have n:(E.map (·.1)).Nodup:=by rw [f.keys];exact nd
  have C:=vN n E.length (aaj _)
  rw [aaA] at C
  rw [C] at D
  obtain ⟨o,ea,ep,g,j,V,e4,e5⟩:=D
  have B:=c.big
  refine ⟨.ref d,_,c.laid (a:=d) (o:=kZ X.prog X.w d t) (t':=tk) k2 l (EC ⟨F,abE.mpr (acy (aaN (aav B l))),E,f,o,ea,ep,g,j,V,e4,e5⟩),rfl,q d fr⟩
end
structure Mi (H0 H:Hp) (D:am) (qs:bK) (ls:List (List (Option Nat))):Prop where
 sm:aG H0 H
 fr:∀ b∈D::qs,H0 b=none
 nd:(D::qs).Nodup
 le:qs.length=ls.length
 hp:H D=some (.lst (qs.map .ref))
 CK:∀ (i:Nat) q l,qs[i]?=some q->ls[i]?=some l->H q=some (.lst (l.map jL))
def Mi.row {g:Hp} {D q:am} {Q:bK} {L:List (List (Option Nat))} {l:List (Option Nat)} (h:Mi g H D Q L) (f:H q=none):Mi g (upd (upd H q (.lst (l.map jL))) D (.lst (Q.map .ref++[.ref q]))) D (Q++[q]) (L++[l]):=by
 have n:=aaP.mp h.nd
 have k:q≠D:=(aA h.hp f).symm
 have s:=ak (o:=.lst (l.map jL)) f
 have N:q∉Q:=λ z=>by
   obtain ⟨i,d,e⟩:=abk.mp z
   have C:i<L.length:=by rw [<- h.le];exact d
   have j:=h.CK i q _ (by rw [Yb d,e]) (Yb C)
   rw [f] at j
   cases j
 refine ⟨λ x u e=>?_,λ b c=>?_,?_,?_,?_,λ i b p e E=>?_⟩
 .
  rw [aw (λ z=>?_)]
  . exact s _ _ (h.sm x u e)
  . rw [z,h.fr D aas] at e
    cases e
 .
  rcases aaa.mp c with rfl|c
  . exact h.fr _ aas
  . rcases aau.mp c with z|z
    . exact h.fr _ (aai _ z)
    . rw [aac.mp z];exact h.sm.free f
 .
  refine aaP.mpr ⟨λ z=>?_,acN.mpr ⟨n.2,abO _ _,λ a m b c e=>N (by rw [<- aac.mp c,<- e];exact m)⟩⟩
  rcases aau.mp z with z|z
  . exact n.1 z
  . exact k (aac.mp z).symm
 . rw [aab,aab,h.le];rfl
 . rw [af,aaf];rfl
 .
  by_cases d:i<Q.length
  . rw [aal d] at e
    rw [aal (by rw [<- h.le];exact d)] at E
    rw [aw (λ z=>n.1 (by rw [<- z];exact aae e))]
    exact s _ _ (h.CK i b p e E)
  .
   have r:=(Bj.mp e).1
   rw [aab,aaC] at r
   obtain rfl:i=Q.length:=by lia
   rw [aa2] at e
   rw [h.le,aa2] at E
   cases e
   cases E
   rw [aw k,af]
def GM (rows:List bX):Prop:=rows.length<=2000/\∀ r∈rows,r.length<=16/\∀ J,some J∈r->J.length<=400/\∀ j∈J,j<rows.length
inductive Fw (P:bE) (w:bz) (K:aD) (CG CR:am) (vs:aB) (H:Hp) (Q:VK) (_E:XK):Prop|mk (x dx y pm po pr pd lim g:_) (_:vs=[.ref x,.ref y]) (_:H x=some (.ins CR dx [])) (_:d7 P w K CG [] H y pm po pr pd lim g) (_:GM g.rows) (_:∀ pl pg pk pq qs S cur H',gC [x] H H'->aQ K H H'->hU CR H' x pl pg pk pq qs S->ia g.rows S cur->fJ g.rows S->(∀ j∈S.queue,xf g.rows S j)->Q .cL H')
def aT.sm {K:aD} {q:am} {xs:aB} (S:aG H H') (e:aT K H q xs):aT K H' q xs:=by
 rcases e with (e|⟨o,e⟩)|e
 . exact .inl (.inl (S _ _ e))
 . exact .inl (.inr ⟨o,S _ _ e⟩)
 . exact .inr e
structure AS (K:aD) (C x dx:am) (H H':Hp) (fs:List (Str×V)) (L:List (am×HO)):Prop where
 b:kn K C x dx H H' fs
 at_:∀ e∈L,H' e.1=some e.2/\e.1≠x/\H e.1=none
 nd:(L.map (·.1)).Nodup
section
variable {K:aD} {C x dx D:am} {H H' AK:Hp} {fs fs':List (Str×V)} {L:List (am×HO)} {o:HO}
theorem AS.put (h:AS K C x dx H H' fs L):AS K C x dx H (upd H' x (.ins C dx fs')) fs' L:=⟨h.b.put,λ e a=>⟨by rw [aw (h.at_ e a).2.1];exact (h.at_ e a).1,(h.at_ e a).2⟩,h.nd⟩
def AS.more (h:AS K C x dx H H' fs L) (s:aG H' AK) (c:H' D=none) (d:AK D=some o):AS K C x dx H AK fs ((D,o)::L):=by
 refine ⟨⟨λ b u e n=>s _ _ (h.b.st b u e n),h.b.ts.trans s.ts,s _ _ h.b.at_⟩,λ e a=>?_,aaP.mpr ⟨λ z=>?_,h.nd⟩⟩
 . rcases aaa.mp a with rfl|a
   . exact ⟨d,h.b.ne c,h.b.none c⟩
   . exact ⟨s _ _ (h.at_ e a).1,(h.at_ e a).2⟩
 .
  obtain ⟨e,a,z⟩:=aaJ.mp z
  have:=(h.at_ e a).1
  rw [z,c] at this
  cases this
def vQ (pl:am) (q:bK) (L:List (List (Option Nat))):List (am×HO):=(pl,.lst (q.map .ref))::q.zip (L.map λ l => .lst (l.map jL))
def Mi.rkb {pl:am} {q:bK} {L:List (List (Option Nat))} (h:Mi H H' pl q L) (c:H x=some (.ins C dx [])):AS K C x dx H H' [] (vQ pl q L):=by
 have nx:∀ b∈pl::q,b≠x:=λ b k z=>by rw [<- z,h.fr b k] at c;cases c
 have n:q.length<=(L.map λ l=>HO.lst (l.map jL)).length:=by rw [M1,h.le];exact aaj _
 refine ⟨⟨λ b o e Z=>h.sm b o e,h.sm.ts,h.sm _ _ c⟩,λ e a=>?_,?_⟩
 .
  rcases aaa.mp a with rfl|a
  . exact ⟨h.hp,nx _ aas,h.fr _ aas⟩
  .
   obtain ⟨i,m⟩:=acr.mp a
   obtain ⟨d,f⟩:=acG.mp m
   rw [Sb] at f
   obtain ⟨l,j,E⟩:=abl.mp f
   have g:=aai pl (aae d)
   exact ⟨by rw [<- E];exact h.CK i _ l d j,nx _ g,h.fr _ g⟩
 . show (pl::(q.zip _).map (·.1)).Nodup
   rw [List.map_fst_zip n]
   exact h.nd
def AS.rk {pl p a c:am} {Q:bK} {S:jI} (h:AS K C x dx H H' (Px pl p a c) ((c,.lst (S.queue.map aq))::(a,.lst (S.bO.map jL))::(p,.lst (S.c7.map aq))::vQ pl Q S.bN)) (L:Q.length=S.bN.length):hU C H' x pl p a c Q S:=by
 have s:Q.length<=(S.bN.map λ l=>HO.lst (l.map jL)).length:=by rw [M1,L];exact aaj _
 refine ⟨⟨dx,h.b.at_⟩,(h.at_ (pl,.lst (Q.map .ref)) (by simp [vQ])).1,L,λ i q l e E=>?_,(h.at_ (p,.lst (S.c7.map aq)) (by simp)).1,(h.at_ (a,.lst (S.bO.map jL)) (by simp)).1,(h.at_ (c,.lst (S.queue.map aq)) (by simp)).1,?_⟩
 . exact (h.at_ (q,.lst (l.map jL)) (aai _ (aai _ (aai _ (aai _ (acr.mpr ⟨i,acG.mpr ⟨e,by rw [Sb,E];rfl⟩⟩)))))).1
 .
  have n:=h.nd
  unfold vQ at n
  rw [aaS,aaS,aaS,aaS,List.map_fst_zip s] at n
  simp only [aaP,aaa,abJ] at n |-
  obtain ⟨⟨A,d,f,g⟩,⟨B,j,k⟩,⟨m,o⟩,D,r⟩:=n
  exact ⟨⟨λ z=>m z.symm,λ z=>j z.symm,λ z=>f z.symm,D⟩,⟨λ z=>B z.symm,λ z=>d z.symm,o⟩,⟨λ z=>A z.symm,k⟩,g,r⟩
def AS.fr (h:AS K C x dx H H' fs L):gC [x] H H':=λ b u e n=>h.b.st b u e λ z=>n (aac.mpr z)
end
structure m4 (rows:List bX) (S:jI) (i n:Nat):Prop where
 ok:ia rows S 0
 dn:∀ (p:Nat) (r:bX) (c:Nat),rows[p]?=some r->r[c]?=some none->(p<i\/(p=i/\c<n))->∃ l,S.bN[p]?=some l/\l[c]?=some (some 0)
 un:∀ (p:Nat) l (c:Nat),S.bN[p]?=some l->c<l.length->(i<p\/(p=i/\n<=c))->l[c]?=some none
def m4.zero (rows:List bX):m4 rows (GP rows) 0 0:=by
 refine ⟨Ku rows,λ p r c Z Z h=>?_,λ p l c e H Z=>?_⟩
 . rcases h with h|⟨Z,h⟩<;>exact absurd h (abn _)
 .
  have:=Yb H
  cases q:l[c] with
  | none=>rw [this,q]
  | some t=>rw [q] at this;exact absurd this (Bo e)
def m4.skip {rows:List bX} {S:jI} {i n:Nat} {r:bX} {j:aR} (h:m4 rows S i n) (a:rows[i]?=some r) (b:r[n]?=some (some j)):m4 rows S i (n+1):=by
 refine ⟨h.ok,λ p R c e E q=>?_,λ p l c e H q=>h.un p l c e H (by lia)⟩
 refine h.dn p R c e E ?_
 rcases q with q|⟨q,Q⟩
 . exact .inl q
 .
  refine .inr ⟨q,?_⟩
  by_cases z:c=n
  .
   subst q
   subst z
   rw [a] at e
   cases e
   rw [b] at E
   cases E
  . lia
def m4.step {rows:List bX} {S:jI} {i n m:Nat} {r:bX} {l:List (Option Nat)} (h:m4 rows S i n) (a:rows[i]?=some r) (b:r[n]?=some none) (E:S.bN[i]?=some l) (k:S.c7[i]?=some m):m4 rows (S.fin i n 0 l m) i (n+1):=by
 have d:n<l.length:=by rw [h.ok.sh i l r E a];exact (Bj.mp b).1
 have o:i<S.bN.length:=(Bj.mp E).1
 have H:=h.un i l n E d (.inr ⟨rfl,aaj _⟩)
 refine ⟨h.ok.fin E k H ⟨r,a,.inl ⟨b,rfl⟩⟩,λ p R c e f q=>?_,λ p L c e x q=>?_⟩
 .
  by_cases z:p=i/\c=n
  . obtain ⟨rfl,rfl⟩:=z
    exact ⟨_,cT.mpr (.inl ⟨rfl,o,rfl⟩),cT.mpr (.inl ⟨rfl,d,rfl⟩)⟩
  . obtain ⟨L,g,j⟩:=h.dn p R c e f (by lia)
    exact vY E H g j
 .
  rcases cT.mp (show (S.bN.set i (l.set n (some 0)))[p]?=some L from e) with ⟨z,Z,rfl⟩|⟨z,e⟩
  . rw [abc] at x
    refine cT.mpr (.inr ⟨by lia,h.un i l c E x (by lia)⟩)
  . exact h.un p L c e x (by lia)
def m4.next {rows:List bX} {S:jI} {i:Nat} {r:bX} (h:m4 rows S i r.length) (a:rows[i]?=some r):m4 rows S (i+1) 0:=by
 refine ⟨h.ok,λ p R c e E q=>h.dn p R c e E ?_,λ p l c e H q=>h.un p l c e H (by lia)⟩
 by_cases z:p=i
 .
  subst z
  rw [a] at e
  cases e
  exact .inr ⟨rfl,(Bj.mp E).1⟩
 . lia
def m4.done {rows:List bX} {S:jI} (h:m4 rows S rows.length 0):fJ rows S:=λ p r c e E=>h.dn p r c e E (.inl (Bj.mp e).1)
def hU.same {CR:am} {x pl p a b:am} {Q:bK} {S:jI} (h:hU CR H x pl p a b Q S) (s:aG H H'):hU CR H' x pl p a b Q S:=by
 obtain ⟨⟨d,o⟩,c,f,g,j,k,m,n⟩:=h
 exact ⟨⟨d,s _ _ o⟩,s _ _ c,f,λ i q l e E=>s _ _ (g i q l e E),s _ _ j,s _ _ k,s _ _ m,n⟩
theorem Cd {c:Type} {R:am->c->Prop}:∀ {as:bK} {l:List c},as.length=l.length->(∀ (i:Nat) b a,as[i]?=some b->l[i]?=some a->R b a)->Refs R (as.map .ref) l
 | [],[],_,_=>Refs.nil
 | b::as,a::l,h,f => .cons ⟨b,rfl,f 0 b a rfl rfl⟩ (Cd (ad4 h) λ i b a e E=>f (i+1) b a e E)
def hU.there {CR:am} {x pl p a c:am} {q:bK} {S:jI} (h:hU CR H x pl p a c q S) {b:am} (d:b∈FD pl p a c q):H b≠none:=by
 obtain ⟨o,e,Z⟩:=h.uh b d
 rw [e]
 exact nofun
def yA.at {K:aD} {CR:am} {x pl c d f p:am} {q as:bK} {S:jI} {ah:List (List (Nat×Nat))} (h:hU CR H x pl c d f q S) (a:yA K H H' p as ah):FF K H' (FD pl c d f q) p ah :=
 ⟨_,a.hp,λ z=>h.there z (a.fr _ aas),Cd a.le λ i b l e E=>⟨λ z=>h.there z (a.fr _ (aai _ (aae e))),a.CK i b l e E⟩⟩
def AS.R1 {K:aD} {C x dx pl p d e:am} {fs:List (Str×V)} {q:bK} {l:List (List (Option Nat))} {o1 o2 o3:HO} (h:AS K C x dx H H' fs ((e,o1)::(d,o2)::(p,o3)::vQ pl q l)) (L:q.length=l.length):∀ b∈FD pl p d e q,H b=none:=by
 intro b a
 simp only [aaa] at a
 rcases a with rfl|rfl|rfl|rfl|a
 . exact (h.at_ (b,.lst (q.map .ref)) (by simp [vQ])).2.2
 . exact (h.at_ (b,o3) (by simp)).2.2
 . exact (h.at_ (b,o2) (by simp)).2.2
 . exact (h.at_ (b,o1) (by simp)).2.2
 . obtain ⟨i,c,rfl⟩:=abk.mp a
   have f:i<l.length:=by rw [<- L];exact c
   exact (h.at_ (q[i],.lst (l[i].map jL)) (aai _ (aai _ (aai _ (aai _ (acr.mpr ⟨i,acG.mpr ⟨Yb c,by rw [Sb,Yb f];rfl⟩⟩)))))).2.2
def Fk (m:ar):Prop:=∀ s o,eI m s->o∈s.orders m->(ul m s o).length<=400
def LG {K:aD} {V:aB} {met:List cr} (h:jc K H V met):∀ {M:List (Option Nat)},M.length=met.length->∃ a:oK,V=a.map (λ e => .ref e.2.1)/\M.map jL=a.map (λ e=>e.2.2)/\a.map (·.1)=met.map lV/\∀ e∈a,gJ K H e.1 e.2.1:=by
 unfold jc Refs at h
 induction h with
 | nil =>
   intro M b
   obtain rfl:=aa4 b
   exact ⟨[],rfl,rfl,rfl,λ Z h=>absurd h aad⟩
 | @cons v s V met h t I =>
   intro M b
   obtain ⟨p,e,j⟩:=h
   cases M with
   | nil=>cases b
   | cons r M =>
     obtain ⟨a,d,f,g,i⟩:=I (ad4 b)
     refine ⟨(lV s,p,jL r)::a,by rw [e,d];rfl,by rw [aaS,f];rfl,by rw [aaS,g];rfl,λ x c=>?_⟩
     rcases aaa.mp c with rfl|c
     . exact iQ j
     . exact i x c
theorem CD:∀ {a:oK} {i:Nat} {e:PyData×am×V},(a.map (·.1)).Nodup->a[i]?=some e->iA a e.1=some e.2.2
 | [],_,_,_,h=>by simp at h
 | x::a,0,e,_,h=>by
   cases h
   unfold iA
   rw [aa9,aaH rfl]
   rfl
 | x::a,i+1,e,H,h=>by
   have H:=aaP.mp H
   have h:a[i]?=some e:=h
   have n:x.1≠e.1:=λ z=>H.1 (aaJ.mpr ⟨e,aae h,z.symm⟩)
   have:=CD H.2 h
   unfold iA at this |-
   rw [aa9,aaq n]
   exact this
def f8.MB {m:ar} {g:qJ} (h:f8 m g) (G:GB m) (R:Fk m) (l:g.rows.length=g.met.length) (L:g.met.length<=2000):GM g.rows:=by
 refine ⟨by lia,λ r f=>?_⟩
 obtain ⟨i,c,rfl⟩:=abk.mp f
 have E:=Yb c
 have C:i<g.met.length:=by lia
 have b:=Yb C
 have a:=h.rows i _ _ b E
 have S:=h.st _ (aar C)
 refine ⟨by rw [<- a.length];exact tI G.h4 _,λ J H=>?_⟩
 obtain ⟨o,d,q⟩:=xG a (some J) H
 have Q:=R _ o S d
 unfold kC at q
 split at q
 .
  have q:Paired (λ j s=>g.met[j]?=some s) J (ul m g.met[i] o):=q
  refine ⟨by rw [q.length];exact Q,λ j H=>?_⟩
  obtain ⟨t,Z,e⟩:=xi q j H
  rw [l]
  exact (Bj.mp e).1
 . exact q.elim
inductive zV (P:bE) (w:bz) (K:aD) (C:am) (vs:aB) (H:Hp) (Q:VK) (_E:XK):Prop|mk (a q lim fp m xs l:_) (_:vs=[.ref a,.ref q,.int lim]) (_:bv K C H a fp m) (_:GB m) (_:CY m lim) (_:lim<=2000) (_:Fk m) (_:H q=some (.lst xs)) (_:jc K H xs l) (_:(∀ s∈l,eI m s)) (_:∀ p aE H',aG H H'->io P w K H' p aE->(∀ s∈l,∃ v,iA aE (lV s)=some (jL v)/\uA m s v)->Q (.ref p) H')
section
variable {m:ar} {s:cr} {o:Nat}
def KH (a:m.rows.length<=4) (S:eI m s) (c:o∈s.orders m):o<16/\(PV m s).X7 o:=by
 obtain ⟨b,h⟩:=aa7.mp c
 obtain ⟨E,O⟩:=(qK (uC a)).2 o b
 obtain ⟨h,H⟩:=acw.mp h
 obtain ⟨H,a⟩:=acw.mp H
 refine ⟨E,(Ord.Fa (aav E (by decide))).mpr ⟨O,⟨?_,abM H,abM a⟩⟩⟩
 have:=abM h
 unfold cr.held at this
 rw [S.lw] at this
 exact this
def FO {r:List cm} {f g:cm} {x:Nat} (h:x∈oB r f g):x+1<r.length:=by
 have:=aaD.mp (aa7.mp h).1
 lia
def iH (l:aR) (i:Nat):gN l i=l.getD i 0:=by
 unfold gN
 rw [Qm]
def IS {D:List Pr} (h:∀ d∈D,vD 900 900 d) (H:D.length<=10):eB 20000 (nf (dF D).1 (dF D).2):=by
 obtain ⟨a,b,c⟩:=wM D h D.length (aaj _)
 rw [aaA] at a b c
 have F:=hJ (t:=(dF D).1) c
 exact ⟨F.Oa (a.mono (by lia)),F.Pj (b.mono (by lia)),F.pos⟩
def Jr (W:m.Wf) (f:m.rows.length<=4) (t:m.bS.length=m.rows.length) (S:eI m s):Fl m s:=by
 intro i b l g
 have h:∀ j,j<m.rows.length->s.aF.getD j 0+1<(m.rows.getD j []).length:=λ j n=>by rw [<- iH];exact S.band j n
 have len:∀ d,(eX m s.aF d).length=m.rows.length:=λ d=>by
   unfold eX
   rw [M1,aak,S.lb]
 have r:b=true->∃ z,m.bw[i]?=some (some z):=λ e=>by
   have:=g e
   unfold ar.has ar.pJ at this
   cases q:m.bw[i]? with
   | none=>rw [q] at this;cases this
   | some z =>
     cases z with
     | none=>rw [q] at this;cases this
     | some z=>exact ⟨z,rfl⟩
 have H:i<m.bS.length:=by rw [t];exact l
 have E:jO m i=m.bS[i]:=by unfold jO;rw [Yb H];rfl
 have a:=W.bS m.bS[i] (aar H)
 have o:∀ d w,d<=1->eB 120 w->eB 20000 (jp m i (eX m s.aF d) w b):=λ d w k p=>by
   obtain ⟨A,c,Z⟩:=jr (i:=i) (fired:=b) W f (len d) (kD W S.lb h k) p r
   exact IS A c
 refine ⟨o 0 _ (by decide) ?_,o 1 _ (by decide) ?_⟩
 . rw [E];exact a.2.1.mono (by decide)
 . rw [E];exact a.2.2.mono (by decide)
end
def Cn (m:ar):List cr :=
 (bP ((List.range m.rows.length).map λ i=>List.range ((m.rows.getD i []).length - 1))).flatMap λ b=>(List.range (2 ^ m.rows.length)).flatMap λ u =>
   (bP ((List.range m.rows.length).map λ i=>List.range ((m.eE i).toNat+1))).flatMap λ w=>(bP ((List.range m.rows.length).map λ i=>List.range ((m.fails i).toNat+1))).flatMap λ f =>
     (List.range (m.fR.toNat+1)).map λ h=>⟨b,u,w,f,h⟩
def Mq {n i:Nat} {F:Nat->aR} (h:i<n):((List.range n).map F).getD i []=F i:=by
 rw [Qm,Sb,abd h];rfl
def Hq {m:ar} {s:cr} (S:eI m s):s∈Cn m:=by
 have c:∀ {l:aR} {F:Nat->aR},l.length=m.rows.length->(∀ i,i<m.rows.length->gN l i∈F i)->l∈bP ((List.range m.rows.length).map F):=λ {l F} d b=>by
   refine fZ.mpr ⟨by rw [M1,aak];exact d,λ i h=>?_⟩
   rw [M1,aak] at h
   rw [Mq h,<- iH]
   exact b i h
 have f:∀ i,i<m.rows.length->(gN s.ib i:Int)<=max 0 (m.eE i)/\(gN s.failed i:Int)<=max 0 (m.fails i):=λ i h=>by
   have:=S.bV i h
   unfold ar.eE ar.fails
   cases e:m.pJ i with
   | none=>rw [e] at this;obtain ⟨Z,H,a⟩:=this;rw [H,a];exact ⟨Int.le_max_left _ _,Int.le_max_left _ _⟩
   | some z=>rw [e] at this;exact ⟨ad8 this.1 (Int.le_max_right _ _),ad8 this.2.1 (Int.le_max_right _ _)⟩
 refine abA.mpr ⟨s.aF,c S.lb λ i h=>aaD.mpr (by have:=S.band i h;lia),abA.mpr ⟨s.cC,aaD.mpr S.cC,abA.mpr ⟨s.ib,c S.lw λ i h=>aaD.mpr (by have:=(f i h).1;lia),abA.mpr ⟨s.failed,c S.lf λ i h=>aaD.mpr (by have:=(f i h).2;lia),aaJ.mpr ⟨s.heap,aaD.mpr (by have:=S.heap;lia),rfl⟩⟩⟩⟩⟩
def IV {m:ar} {a b c d:Nat} (h:(bP ((List.range m.rows.length).map λ i=>List.range ((m.rows.getD i []).length - 1))).length<=a) (H:(bP ((List.range m.rows.length).map λ i=>List.range ((m.eE i).toNat+1))).length<=b) (e:(bP ((List.range m.rows.length).map λ i=>List.range ((m.fails i).toNat+1))).length<=c) (g:m.fR.toNat+1<=d) :
   (Cn m).length<=a * (2 ^ m.rows.length * (b * (c * d))):=by
 unfold Cn
 refine aax (fm (k:=2 ^ m.rows.length * (b * (c * d))) λ x=>?_) (abK _ h)
 refine aax (fm (k:=b * (c * d)) λ y=>?_) (by rw [aak];exact aaj _)
 refine aax (fm (k:=c * d) λ w=>?_) (abK _ H)
 refine aax (fm (k:=d) λ f=>?_) (abK _ e)
 rw [M1,aak]
 exact g
inductive E8 {a b c d e f g h:Type} (p:a->b->c->d->e->f->g->h->Prop):Prop|mk (x:a) (y:b) (z:c) (u:d) (v:e) (w:f) (t:g) (s:h) (_:p x y z u v w t s)
structure ZS (rs:List R7) (b0 b1 b2:Int) (p:Nat) (m:ar):Prop where
 most:m.most=b0
 fR:m.fR=b1
 load:m.load=b2
 rows:∀ (i:Nat) r,m.rows[i]?=some r->∃ q,rs[i]?=some q/\r.length=q.marks.length
 st:∀ (i:Nat) q,i<p->rs[i]?=some q->(m.pJ i).map (·.2)=q.bV.map (·.2)
 no:∀ i,p<=i->m.pJ i=none
def FP:Option (Int×Int×Int×Int)->Bool->Nat->Nat->Prop
 | none,f,w,b=>f=false/\w=0/\b=0
 | some z,f,w,b=>(w:Int)<=z.2.2.1/\(b:Int)<=z.2.2.2/\(b=0\/(f=false/\w=0))
structure mr (rs:List R7) (b0:Int) (i:Nat) (bs ws fs:aR) (b:Nat):Prop where
 lb:bs.length=i
 lw:ws.length=i
 lf:fs.length=i
 cC:b<2 ^ i
 most:((Bit.rooms b).length:Int)<=b0
 band:∀ (j:Nat) q,j<i->rs[j]?=some q->gN bs j+1<q.marks.length
 bV:∀ (j:Nat) q,j<i->rs[j]?=some q->FP q.bV (b.testBit j) (gN ws j) (gN fs j)
def mr.zero {rs:List R7} {b:Int} (h:0<=b):mr rs b 0 [] [] [] 0:=by
 refine ⟨rfl,rfl,rfl,by decide,?_,λ Z Z h=>absurd h (abn _),λ Z Z h=>absurd h (abn _)⟩
 have e:(Bit.rooms 0).length=0:=by decide
 rw [e]
 exact h
def mr.next {rs:List R7} {B:Int} {i:Nat} {bs W fs:aR} {b x w f:Nat} {lit:Bool} {q:R7} (h:mr rs B i bs W fs b) (m:i<61) (g:rs[i]?=some q) (p:x+1<q.marks.length) (k:FP q.bV lit w f) (o:lit=true->((Bit.rooms b).length:Int)<B):mr rs B (i+1) (bs++[x]) (W++[w]) (fs++[f]) (if lit then b+2 ^ i else b)/\(Bit.rooms (if lit then b+2 ^ i else b)).length=(Bit.rooms b).length+(if lit then 1 else 0):=by
 have U:b.testBit i=false:=Bit.iO h.cC (aaj _)
 have d:b+2 ^ i=b ||| 2 ^ i:=by
   have:=adC h.cC 1
   rw [aed] at this
   rw [acC,this,Nat.or_comm]
 have N:(if lit then b+2 ^ i else b)<2 ^ (i+1):=by
   have:=h.cC
   rw [ac4]
   split<;>lia
 have H:(Bit.rooms (if lit then b+2 ^ i else b)).length=(Bit.rooms b).length+(if lit then 1 else 0):=by
   cases lit with
   | false=>rfl
   | true =>
     show (Bit.rooms (b+2 ^ i)).length=_+1
     rw [d,Bit.FL m U]
 have a:∀ j,j<i->(if lit then b+2 ^ i else b).testBit j=b.testBit j:=λ j c=>by
   cases lit with
   | false=>rfl
   | true =>
     show (b+2 ^ i).testBit j=_
     rw [acC]
     exact Nat.testBit_two_pow_add_gt c b
 have G:(if lit then b+2 ^ i else b).testBit i=lit:=by
   cases lit with
   | false=>exact U
   | true =>
     show (b+2 ^ i).testBit i=_
     rw [acC,Nat.testBit_two_pow_add_eq,U];rfl
 have n:∀ {l:aR} {y:Nat},l.length=i->gN (l++[y]) i=y:=λ {l y} e=>by rw [<- e];exact EH
 refine ⟨⟨by rw [aab,h.lb];rfl,by rw [aab,h.lw];rfl,by rw [aab,h.lf];rfl,N,?_,λ j r c E=>?_,λ j r c E=>?_⟩,H⟩
 .
  rw [H]
  have:=h.most
  cases lit with
  | false=>exact this
  | true =>
    have:=o rfl
    show (((Bit.rooms b).length+1:Nat):Int)<=_
    lia
 .
  by_cases e:j<i
  . rw [xA (by rw [h.lb];exact e)];exact h.band j r e E
  . obtain rfl:j=i:=by lia
    rw [g] at E
    cases E
    rw [n h.lb];exact p
 .
  by_cases e:j<i
  . rw [xA (by rw [h.lw];exact e),xA (by rw [h.lf];exact e),a j e];exact h.bV j r e E
  . obtain rfl:j=i:=by lia
    rw [g] at E
    cases E
    rw [n h.lw,n h.lf,G];exact k
def mr.ok {rs:List R7} {b B c:Int} {m:ar} {s:cr} (h:mr rs b rs.length s.aF s.ib s.failed s.cC) (l:ZS rs b B c rs.length m) (L:m.rows.length=rs.length) (d:(s.heap:Int)<=B):eI m s:=by
 refine ⟨by rw [L];exact h.lb,by rw [L];exact h.lw,by rw [L];exact h.lf,by rw [L];exact h.cC,by rw [l.most];exact h.most,by rw [l.fR];exact d,λ i H=>?_,λ i H=>?_⟩
 .
  obtain ⟨q,E,e⟩:=l.rows i _ (Yb H)
  rw [Qm,Yb H]
  show _<m.rows[i].length
  rw [e]
  exact h.band i q (by lia) E
 .
  have C:i<rs.length:=by lia
  have E:=Yb C
  have:=h.bV i _ C E
  have e:=l.st i _ C E
  cases q:rs[i].bV with
  | none =>
    rw [q] at this e
    cases z:m.pJ i with
    | none=>exact this
    | some a=>rw [z] at e;cases e
  | some y =>
    rw [q] at this e
    cases z:m.pJ i with
    | none=>rw [z] at e;cases e
    | some a =>
      rw [z] at e
      have e:a.2=y.2:=aao e
      show (_:Int)<=a.2.2.1/\(_:Int)<=a.2.2.2/\_
      rw [e]
      exact this
def jl (G:Nat->Nat):Nat->Nat
 | 0=>1
 | n+1=>jl G n * G n
theorem gp {F:Nat->aR} {G:Nat->Nat}:∀ n,(∀ i,i<n->(F i).length<=G i)->(bP ((List.range n).map F)).length<=jl G n
 | 0,_=>aaj _
 | n+1,h=>by
   rw [aa5,aaf,acl,iI]
   have I:=gp n λ i H=>h i (by lia)
   refine aax (fm (k:=G n) λ a=>by rw [M1];exact h n (by lia)) ?_
   exact abK _ I
structure LA (m:ar) (B S F:Nat->Nat) (z:Nat):Prop where
 b:∀ i,i<m.rows.length->(m.rows.getD i []).length<=B i+1
 s:∀ i,i<m.rows.length->m.eE i<=(S i:Int)
 f:∀ i,i<m.rows.length->m.fails i<=(F i:Int)
 cp:m.fR<=(z:Int)
 CL:jl B m.rows.length * (2 ^ m.rows.length * (jl (λ i=>S i+1) m.rows.length * (jl (λ i=>F i+1) m.rows.length * (z+1))))<=2000
 res:jl B m.rows.length<=25
section
variable {m:ar} {B S F:Nat->Nat} {c:Nat}
def LA.fin (h:LA m B S F c):CY m 2000:=λ l n g=>by
 have L:=ady n (l₂:=Cn m) λ s j=>Hq (g s j)
 have C:=gp (F:=λ i=>List.range ((m.rows.getD i []).length - 1)) (G:=B) m.rows.length λ i H=>by rw [aak];have:=h.b i H;lia
 have a:=gp (F:=λ i=>List.range ((m.eE i).toNat+1)) (G:=λ i=>S i+1) m.rows.length λ i H=>by rw [aak];have:=h.s i H;lia
 have e:=gp (F:=λ i=>List.range ((m.fails i).toNat+1)) (G:=λ i=>F i+1) m.rows.length λ i H=>by rw [aak];have:=h.f i H;lia
 have:=IV (d:=c+1) C a e (by have:=h.cp;lia)
 exact Int.ofNat_le.mpr (aax L (aax this h.CL))
def LA.NI (h:LA m B S F c) (H:m.rows.length<=4):Fk m:=λ s o f e=>by
 have bl:∀ O,(iJ m s o O).length<=25:=λ O=>by
   unfold iJ gw
   rw [M1]
   refine aax (gp (G:=B) m.rows.length λ i a=>?_) h.res
   show ((kW m s (Ord.off o O) i).getD []).length<=B i
   unfold kW dY
   split
   . have:=lF (m.rows.getD i []) (iW m i s.aF ((Ord.off o O).testBit i)) (iZ m i s.aF ((Ord.off o O).testBit i)) ((m.rows.getD i []).length - 1)
     have:=h.b i a
     show (kN _ _ _ _).length<=B i
     lia
   . exact aaZ _
 have:=fm (l:=dB m s o) (k:=25) bl
 have d:(dB m s o).length<=16:=(oX (wJ (s:=s) (o:=o) H)).2
 show ((dB m s o).flatMap (iJ m s o)).length<=400
 lia
structure Kw (m:ar):Prop where
 pI:∀ s∈m.bS,aX s.2.2 s.2.1=false
 bV:∀ x,some x∈m.bw->0<=x.1.1/\(0<=x.2.1/\x.2.1<=9)/\(0<=x.2.2.1/\x.2.2.1<=3)/\(0<=x.2.2.2/\x.2.2.2<=3)
 ZX:m.MN
def Fu {a b c d:Int} (h:0<b) (H:0<d):aX (nf a b) (nf c d)=decide (a * d<c * b):=by
 have F:=hJ (t:=a) h
 have G:=hJ (t:=c) H
 have C:=F.jV
 have e:=G.jV
 have p:=F.pos
 have g:=G.pos
 unfold aX
 generalize (nf a b).1=q at C |-
 generalize (nf a b).2=r at C p |-
 generalize (nf c d).1=Q at e |-
 generalize (nf c d).2=r2 at e g |-
 refine ab8.mpr ?_
 have k:q * r2 * (b * d)=a * d * (r * r2):=by
   have:q * r2 * (b * d)=q * b * (r2 * d):=by grind
   rw [this,C];grind
 have K:Q * r * (b * d)=c * b * (r * r2):=by
   have:Q * r * (b * d)=Q * d * (r * b):=by grind
   rw [this,e];grind
 have A:0<b * d:=aaK h H
 have f:0<r * r2:=aaK p g
 constructor
 .
  intro l
  have:=abg l A
  rw [k,K] at this
  exact abj this (aba f)
 .
  intro l
  have:=abg l f
  rw [<- k,<- K] at this
  exact abj this (aba A)
def jK {a b c:cm} (p:0<a.2) (d:0<b.2) (e:0<c.2) (x:aX a b=false) (y:aX b c=false):aX a c=false:=by
 unfold aX at x y |-
 have x:=adu.mp (ack x)
 have y:=adu.mp (ack y)
 refine aaq (adu.mpr ?_)
 have u:=abv x (aba e)
 have v:=abv y (aba p)
 have E:b.1 * a.2 * c.2=b.1 * c.2 * a.2:=by grind
 have f:c.1 * b.2 * a.2=c.1 * a.2 * b.2:=by grind
 have g:a.1 * b.2 * c.2=a.1 * c.2 * b.2:=by grind
 exact adH (by lia:c.1 * a.2 * b.2<=a.1 * c.2 * b.2) d
structure AM (s t:Int×Int):Prop where
 p:0<s.2
 q:0<t.2
 le:s.1 * t.2<=t.1 * s.2
def AM.step {s t:Int×Int} (h:AM s t) {d:Pr} (b:0<d.1.2) (c:0<d.2.2):AM (s.1 * (d.1.2 * d.2.2)+d.1.1 * d.2.1 * s.2,s.2 * (d.1.2 * d.2.2)) (t.1 * (d.1.2 * d.2.2)+d.1.1 * d.2.1 * t.2,t.2 * (d.1.2 * d.2.2)):=by
 have a:0<d.1.2 * d.2.2:=aaK b c
 generalize d.1.2 * d.2.2=D at a
 generalize d.1.1 * d.2.1=A
 refine ⟨aaK h.p a,aaK h.q a,?_⟩
 show (s.1 * D+A * s.2) * (t.2 * D)<=(t.1 * D+A * t.2) * (s.2 * D)
 have e:(s.1 * D+A * s.2) * (t.2 * D)=D * D * (s.1 * t.2)+A * s.2 * t.2 * D:=by grind
 have E:(t.1 * D+A * t.2) * (s.2 * D)=D * D * (t.1 * s.2)+A * s.2 * t.2 * D:=by grind
 have:=act h.le (aba (aaK a a))
 lia
def AM.swap {s:Int×Int} (H:0<s.2) {a w W:cm} (A:0<=a.1) (p:0<a.2) (b:0<w.2) (Q:0<W.2) (h:aX W w=false):AM (s.1 * (a.2 * w.2)+a.1 * w.1 * s.2,s.2 * (a.2 * w.2)) (s.1 * (a.2 * W.2)+a.1 * W.1 * s.2,s.2 * (a.2 * W.2)):=by
 refine ⟨aaK H (aaK p b),aaK H (aaK p Q),?_⟩
 have h:w.1 * W.2<=W.1 * w.2:=adu.mp (ack h)
 show (s.1 * (a.2 * w.2)+a.1 * w.1 * s.2) * (s.2 * (a.2 * W.2))<=(s.1 * (a.2 * W.2)+a.1 * W.1 * s.2) * (s.2 * (a.2 * w.2))
 have e:(s.1 * (a.2 * w.2)+a.1 * w.1 * s.2) * (s.2 * (a.2 * W.2))=s.1 * s.2 * (a.2 * a.2) * (w.2 * W.2)+a.1 * (a.2 * (s.2 * s.2)) * (w.1 * W.2):=by grind
 have E:(s.1 * (a.2 * W.2)+a.1 * W.1 * s.2) * (s.2 * (a.2 * w.2))=s.1 * s.2 * (a.2 * a.2) * (w.2 * W.2)+a.1 * (a.2 * (s.2 * s.2)) * (W.1 * w.2):=by grind
 have:=act h (acJ A (aba (aaK p (aaK H H))))
 lia
def AM.more {D X:List Pr} (h:AM (dF D) (dF X)) (es:List Pr):(∀ d∈es,0<d.1.2/\0<d.2.2)->AM (dF (D++es)) (dF (X++es)):=by
 refine snoc_ind (p:=λ es=>(∀ d∈es,0<d.1.2/\0<d.2.2)->AM (dF (D++es)) (dF (X++es))) (λ Z=>?_) (λ l d i H=>?_) es
 . rw [abf,abf];exact h
 . rw [<- abi,<- abi,jh,jh]
   exact (i λ d a=>H d (aaU _ a)).step (H d (by simp)).1 (H d (by simp)).2
end
section
variable {m:ar} {i:Nat}
def EM (w:m.Wf) (i:Nat):eB 100 (jO m i).2.1/\eB 100 (jO m i).2.2:=by
 unfold jO
 cases e:m.bS[i]? with
 | none=>exact ⟨X9 (by decide),X9 (by decide)⟩
 | some z=>exact (w.bS z (aae e)).2
def Ge (h:m.has i=true):∃ z,m.bw[i]?=some (some z):=by
 unfold ar.has ar.pJ at h
 cases q:m.bw[i]? with
 | none=>rw [q] at h;cases h
 | some z =>
   cases z with
   | none=>rw [q] at h;cases h
   | some z=>exact ⟨z,rfl⟩
end
structure R8 where
 marks:List cm
 share:Int
 lo:cm
 hi:cm
 bV:Option (cm×Int×Int×Int)
 cg:List Int
def EA (r:R8):PyData:=.tuple [.list (r.marks.map dJ),.tuple [.int r.share,dJ r.lo,dJ r.hi],fu r.bV,.list (r.cg.map PyData.int)]
def R8.fl (r:R8) (j:Nat):Int:=r.cg.getD j 0
structure R8.Ok (n k:Nat) (r:R8):Prop where
 len:2<=r.marks.length/\r.marks.length<=7
 ok:∀ f∈r.marks,eB 100 f
 ri:jt r.marks=true
 sh:1<=r.share/\r.share<=4
 Pf:eB 100 r.lo
 NJ:eB 100 r.hi
 le:aX r.hi r.lo=false
 st:∀ z,r.bV=some z->eB 100 z.1/\0<=z.1.1/\(0<=z.2.1/\z.2.1<=9)/\(0<=z.2.2.1/\z.2.2.1<=3)/\(0<=z.2.2.2/\z.2.2.2<=3)
 fn:r.cg.length=n
 fb:∀ j,0<=r.fl j/\r.fl j<=3
 own:r.fl k=0
 sum:r.share+k8 r.fl n<=12
def bZ (rs:List R8) (i:Nat):R8:=rs.getD i ⟨[],0,(0,1),(0,1),none,[]⟩
structure CS (rs:List R8):Prop where
 n1:1<=rs.length
 n4:rs.length<=4
 ok:∀ i,i<rs.length->(bZ rs i).Ok rs.length i
 CL:rs.length=1\/∀ i,i<rs.length->(bZ rs i).marks.length<=5
def iu (rs:List R8) (p q i j:Nat):Int:=if i<p\/(i=p/\j<q) then (bZ rs i).fl j else 0
def C0 (rs:List R8) (s i:Nat):cm×cm×cm:=if i<s then (nf (bZ rs i).share 12,(bZ rs i).lo,(bZ rs i).hi) else ((0,1),(0,1),(0,1))
structure mS (rs:List R8) (b:Int×Int×Int) (s p q t:Nat) (m:ar):Prop where
 most:m.most=b.1
 fR:m.fR=b.2.1
 load:m.load=b.2.2
 rows:m.rows=rs.map R8.marks
 pI:m.bS=(List.range rs.length).map (C0 rs s)
 st:m.bw=(List.range rs.length).map λ i=>if i<t then (bZ rs i).bV else none
 fl:m.cg=λ i j=>if 0<=i/\0<=j/\0<iu rs p q i.toNat j.toNat then some (nf (iu rs p q i.toNat j.toNat) 12) else none
section
variable {rs:List R8} {b:Int×Int×Int} {s p q t:Nat} {m:ar}
theorem fQ {i:Nat} (h:i<rs.length):rs[i]?=some (bZ rs i):=by
 unfold bZ
 rw [Qm,aI h];rfl
theorem mS.len (h:mS rs b s p q t m):m.rows.length=rs.length:=by rw [h.rows,M1]
theorem set_range {a:Type} {n k:Nat} {F:Nat->a} {x:a} (h:k<n):((List.range n).map F).set k x=(List.range n).map λ i=>if i=k then x else F i:=by
 refine adt λ i=>?_
 rw [List.getElem?_set,M1,aak,Sb,Sb]
 by_cases H:i<n
 .
  rw [abd H]
  by_cases e:k=i
  . rw [aan e,aan h]
    show some x=some (if i=k then x else F i)
    rw [aan e.symm]
  . rw [aap e]
    show some (F i)=some (if i=k then x else F i)
    rw [aap (acy e)]
 .
  rw [abe (l:=List.range n) (by rw [aak];lia)]
  by_cases e:k=i
  . rw [aan e,aan h];lia
  . rw [aap e];rfl
theorem mS.rj {k:Nat} (h:mS rs b k p q t m) (H:k<rs.length):mS rs b (k+1) p q t (m.rj k (nf (bZ rs k).share 12,(bZ rs k).lo,(bZ rs k).hi)):=by
 refine ⟨h.most,h.fR,h.load,h.rows,?_,h.st,h.fl⟩
 show m.bS.set k _=_
 rw [h.pI,set_range H]
 refine abG λ i Z=>?_
 unfold C0
 by_cases e:i=k
 . rw [aan e,aan (by lia),e]
 .
  rw [aap e]
  by_cases E:i<k
  . rw [aan E,aan (by lia)]
  . rw [aap E,aap (by lia)]
theorem mS.j4 {k:Nat} {z:cm×Int×Int×Int} (h:mS rs b s p q k m) (H:k<rs.length) (a:(bZ rs k).bV=some z):mS rs b s p q (k+1) (m.j4 k z):=by
 refine ⟨h.most,h.fR,h.load,h.rows,h.pI,?_,h.fl⟩
 show m.bw.set k _=_
 rw [h.st,set_range H]
 refine abG λ i Z=>?_
 by_cases e:i=k
 . rw [aan e,aan (by lia),e,a]
 .
  rw [aap e]
  by_cases E:i<k
  . rw [aan E,aan (by lia)]
  . rw [aap E,aap (by lia)]
theorem mS.IC {k:Nat} (h:mS rs b s p q k m) (H:(bZ rs k).bV=none):mS rs b s p q (k+1) m:=by
 refine ⟨h.most,h.fR,h.load,h.rows,h.pI,?_,h.fl⟩
 rw [h.st]
 refine abG λ i Z=>?_
 by_cases e:i=k
 . rw [aap (by lia),aan (by lia),e,H]
 . by_cases E:i<k
   . rw [aan E,aan (by lia)]
   . rw [aap E,aap (by lia)]
theorem FT (rs:List R8) (p q:Nat):iu rs p q p q=0:=by unfold iu;rw [aap (by lia)]
theorem za (rs:List R8) (p q i j:Nat):iu rs p (q+1) i j=if i=p/\j=q then (bZ rs p).fl q else iu rs p q i j:=by
 unfold iu
 by_cases e:i=p/\j=q
 . rw [aan (by lia),aan e,e.1,e.2]
 .
  rw [aap e]
  by_cases E:i<p\/(i=p/\j<q)
  . rw [aan E,aan (by lia)]
  . rw [aap E,aap (by lia)]
theorem mS.kq (h:mS rs b s p q t m) (H:0<(bZ rs p).fl q):mS rs b s p (q+1) t (m.kq p q (nf ((bZ rs p).fl q) 12)):=by
 refine ⟨h.most,h.fR,h.load,h.rows,h.pI,h.st,?_⟩
 show (λ a c=>if a=(p:Int)/\c=(q:Int) then some (nf ((bZ rs p).fl q) 12) else m.cg a c)=_
 rw [h.fl]
 funext i j
 show (if i=(p:Int)/\j=(q:Int) then some (nf ((bZ rs p).fl q) 12) else if 0<=i/\0<=j/\0<iu rs p q i.toNat j.toNat then some (nf (iu rs p q i.toNat j.toNat) 12) else none)=_
 rw [za rs p q i.toNat j.toNat]
 by_cases e:i=(p:Int)/\j=(q:Int)
 .
  obtain ⟨rfl,rfl⟩:=e
  rw [aan (show (p:Int)=p/\(q:Int)=q from ⟨rfl,rfl⟩)]
  simp only [aaW]
  rw [aan (show True/\True from ⟨trivial,trivial⟩),aan ⟨aa3 _,aa3 _,H⟩]
 .
  rw [aap e]
  by_cases E:0<=i/\0<=j
  . rw [aap (show ¬ (i.toNat=p/\j.toNat=q) by lia)]
  . rw [aap (λ z=>E ⟨z.1,z.2.1⟩),aap (λ z=>E ⟨z.1,z.2.1⟩)]
theorem mS.Lo (h:mS rs b s p q t m) (H:(bZ rs p).fl q=0):mS rs b s p (q+1) t m:=by
 refine ⟨h.most,h.fR,h.load,h.rows,h.pI,h.st,?_⟩
 rw [h.fl]
 have e:∀ i j,iu rs p (q+1) i j=iu rs p q i j:=λ i j=>by
   rw [za]
   by_cases e:i=p/\j=q
   . rw [aan e,H,e.1,e.2,FT]
   . rw [aap e]
 simp only [e]
theorem mS.Gf (h:mS rs b s p q t m) (H:(bZ rs p).cg.length<=q):mS rs b s (p+1) 0 t m:=by
 refine ⟨h.most,h.fR,h.load,h.rows,h.pI,h.st,?_⟩
 rw [h.fl]
 have e:∀ i j,iu rs (p+1) 0 i j=iu rs p q i j:=λ i j=>by
   unfold iu
   by_cases e:i<p
   . rw [aan (by lia),aan (by lia)]
   .
    by_cases E:i=p
    . rw [aan (by lia)]
      by_cases a:j<q
      . rw [aan (by lia)]
      . rw [aap (by lia),E]
        unfold R8.fl
        rw [Qm,abe (by lia)];rfl
    . rw [aap (by lia),aap (by lia)]
 simp only [e]
theorem mS.sh (h:mS rs b s p q t m) (a:∀ i j,0<=(bZ rs i).fl j):xV 12 (λ i=>if i<s/\i<rs.length then (bZ rs i).share else 0) (iu rs p q) m:=by
 refine ⟨λ i=>?_,λ i j=>?_⟩
 .
  unfold ar.gE
  rw [h.pI,Sb]
  by_cases H:i<rs.length
  .
   rw [abd H]
   show Ov 12 _ (C0 rs s i).1
   unfold C0
   by_cases e:i<s
   . rw [aan ⟨e,H⟩,aan e];exact Ov.nf (by decide)
   . rw [aap (by lia),aap e];exact xE
  . rw [abe (by rw [aak];lia),aap (by lia)];exact xE
 .
  unfold ar.j0
  rw [h.fl]
  show Ov 12 _ ((if 0<=(i:Int)/\0<=(j:Int)/\0<iu rs p q (i:Int).toNat (j:Int).toNat then some (nf (iu rs p q (i:Int).toNat (j:Int).toNat) 12) else none).getD (0,1))
  have E:0<=iu rs p q i j:=by
    unfold iu
    split
    . exact a i j
    . exact abp _
  by_cases e:0<iu rs p q i j
  . rw [aan ⟨aa3 _,aa3 _,by rw [aaW,aaW];exact e⟩,aaW,aaW]
    exact Ov.nf (by decide)
  . rw [aap (by rw [aaW,aaW];exact λ z=>e z.2.2)]
    have:iu rs p q i j=0:=by lia
    rw [this]
    exact xE
theorem Od (H:∀ j,0<=(bZ rs p).fl j):∀ n,0<=sumF (iu rs p q) p n/\sumF (iu rs p q) p n<=k8 (bZ rs p).fl n
 | 0=>⟨abp _,abp _⟩
 | n+1=>by
   obtain ⟨a,c⟩:=Od H n
   have h:=H n
   have e:0<=iu rs p q p n/\iu rs p q p n<=(bZ rs p).fl n:=by
     unfold iu
     split
     . exact ⟨h,abp _⟩
     . exact ⟨abp _,h⟩
   show 0<=sumF (iu rs p q) p n+iu rs p q p n/\sumF (iu rs p q) p n+iu rs p q p n<=k8 (bZ rs p).fl n+(bZ rs p).fl n
   lia
end
def UY {ns:List Int} {n:Nat} (h:ns.length=n+2):oU (ns.map V.int) (some 2) none=(ns.drop 2).map V.int:=by
 rw [Dw]
 unfold Mo
 have e:HT.oI ns.length 0 (some 2)=2:=by
   unfold HT.oI
   simp
   lia
 rw [e]
 have E:HT.oI ns.length ns.length none=ns.length:=rfl
 rw [E,aa6 (by rw [abT];lia)]
def nF {ns:List Int} {i:Nat} (h:i<ns.length):nQ (ns.map V.int) (i:Int)=some (.int (ns.getD i 0)):=by
 refine cu ?_
 rw [Sb,Qm,aI h];rfl
inductive DC (vs:aB) (H:Hp) (Q:VK) (_E:XK):Prop|mk (c:Int) (m:Nat) (_:vs=[.int c,aq m]) (_:m<=100) (_:∀ p (ns:List Int) H',aG H H'->H' p=some (.lst (ns.map V.int))->ns.length=m->(∀ z∈ns,0<=z/\z<2 ^ 31)->Q (.ref p) H')
inductive Ih (vs:aB) (H:Hp) (Q:VK) (_E:XK):Prop|mk (a b:Int) (_:vs=[.int a,.int b]) (_:0<=a) (_:0<=b) (_:∀ r:Int,r=((Int.gcd a b:Nat):Int)->Q (.int r) H)
inductive QT (vs:aB) (H:Hp) (Q:VK) (_E:XK):Prop|mk (a b:Int) (_:vs=[.int a,.int b]) (_:0<b) (_:Bd 400 a) (_:Bd 400 b) (_:∀ p H',aG H H'->H' p=some (.tup [.int (nf a b).1,.int (nf a b).2])->Q (.ref p) H')
inductive Fs (K:aD) (vs:aB) (H:Hp) (Q:VK) (_E:XK):Prop|mk (num p:_) (s:mU) (_:vs=[.int num,.ref p]) (_:bY K H p s.vs) (_:s.Ok) (_:num.natAbs<=1000) (_:∀ q H',aG H H'->H' q=some (.tup [.int (bg num 1 s).1,.int (bg num 1 s).2])->Q (.ref q) H')
structure Gi (n:Nat) (ms:List Int):Prop where
 len:ms.length=n+1
 ri:∀ (a:Nat) (x y:Int),ms[a]?=some x->ms[a+1]?=some y->x<y
 bd:∀ x∈ms,-30<=x/\x<=150
 wide:∀ x y,ms[0]?=some x->ms[n]?=some y->x+2<=y
section
variable (K:aD)
def Xs (H:Hp) (p:am) (n:Nat):Prop:=∃ N:List Int,aT K H p (N.map V.int)/\N.length=n
def CJ (H:Hp) (n:Nat) (v:V):Prop:=v = .cL\/∃ p a b,v = .ref p/\bY K H p [.int a,.int b]/\-30<=a/\b<=150/\a+2<=b
inductive Du (vs:aB) (H:Hp) (Q:VK) (_E:XK):Prop|mk (px n ev:_) (_:vs=[.ref px,aq n,ev]) (_:Xs K H px 17) (_:1<=n) (_:n<=6) (_:CJ K H n ev) (_:(ev = .cL\/n<=2)) (_:∀ q H' ms,aG H H'->H q=none->H' q=some (.lst (ms.map V.int))->Gi n ms->Q (.ref q) H')
structure MD (s:Int×Int×Int):Prop where
 sh:1<=s.1/\s.1<=4
 le:s.2.1<=s.2.2
 lo:s.2.1.natAbs<=300
 hi:s.2.2.natAbs<=300
inductive Hu (vs:aB) (H:Hp) (Q:VK) (_E:XK):Prop|mk (px pm ms n fi:_) (_:vs=[.ref px,.ref pm,.bl fi]) (_:Xs K H px 17) (_:aT K H pm (ms.map V.int)) (_:1<=n) (_:Gi n ms) (_:∀ q H' (s:Int×Int×Int),aG H H'->H' q=some (.tup [.int s.1,.int s.2.1,.int s.2.2])->MD s->Q (.ref q) H')
def iU:List (aR×aR×Nat×Nat):=[([2],[0],0,30),([6],[1],0,2),([4],[2],2,5),([2,2],[1,1],1,4),([1,1,2,2],[0,0,1,1],0,3),([2,2,2],[0,0,0],0,2)]
structure uU (bs:aR) (fs:List Bool) (z:Int×Int×Int×Int) (b:Int×Int×Int) (k:aR×aR×Nat×Nat):Prop where
 kk:k∈iU
 lb:bs.length=k.1.length
 lf:fs.length=k.1.length
 bb:∀ i,i<bs.length->1<=bs.getD i 0/\bs.getD i 0<=k.1.getD i 0
 ff:∀ i,fs[i]?=some true->z.2.1<=(k.2.1.getD i 0:Int)
 zz:0<=z.1/\z.1<=(k.2.2.1:Int)/\(0<=z.2.2.1/\z.2.2.1<=2)/\(0<=z.2.2.2/\z.2.2.2<=1/\z.2.2.2<=z.2.1)/\z.2.1<=2
 b0:0<=b.1/\b.1<=4
 b1:0<=b.2.1/\b.2.1<=30/\(b.2.1+2<=(k.2.2.2:Int)\/k.2.2.2=30)
 b2:0<=b.2.2/\b.2.2<=2
inductive DQ (vs:aB) (H:Hp) (Q:VK) (_E:XK):Prop|mk (px:_) (_:vs=[.ref px]) (_:Xs K H px 8) (_:∀ q pb pf pz po (bs:aR) (fs:List Bool) (z:Int×Int×Int×Int) (b:Int×Int×Int) k H',aG H H'->H' q=some (.tup [.ref pb,.ref pf,.ref pz,.ref po])->H' pb=some (.lst (bs.map aq))->H' pf=some (.lst (fs.map V.bl))->H' pz=some (.tup [.int z.1,.int z.2.1,.int z.2.2.1,.int z.2.2.2])->H' po=some (.tup [.int b.1,.int b.2.1,.int b.2.2])->uU bs fs z b k->Q (.ref q) H')
end
section
variable {n m l:Nat} {f g h:Bool} {z:Int×Int×Int×Int} {b:Int×Int×Int}
theorem uU.one {B F S Z:Nat} (f:([B],[F],S,Z)∈iU) (N:1<=n) (g:n<=B) (e:z.2.1<=(F:Int)) (j:0<=z.1/\z.1<=(S:Int)/\(0<=z.2.2.1/\z.2.2.1<=2)/\(0<=z.2.2.2/\z.2.2.2<=1/\z.2.2.2<=z.2.1)/\z.2.1<=2) (a:0<=b.1/\b.1<=4) (c:0<=b.2.1/\b.2.1<=30/\(b.2.1+2<=(Z:Int)\/Z=30)) (d:0<=b.2.2/\b.2.2<=2):uU [n] [true] z b ([B],[F],S,Z) :=
 ⟨f,rfl,rfl,λ i h=>by
   have h:i<1:=h
   obtain rfl:i=0:=by lia
   exact ⟨N,g⟩,λ i h=>by
   have H:=(Bj.mp h).1
   have H:i<1:=H
   obtain rfl:i=0:=by lia
   exact e,j,a,c,d⟩
theorem uU.two (N:1<=n/\n<=2) (m1:1<=m/\m<=2) (Z:(0<=z.1/\z.1<=1)/\z.2.1<=1/\(0<=z.2.2.1/\z.2.2.1<=2)/\(0<=z.2.2.2/\z.2.2.2<=z.2.1)) (B:0<=b.1/\b.1<=4) (a:0<=b.2.1/\b.2.1<=2) (c:0<=b.2.2/\b.2.2<=2):uU [n,m] [f,g] z b ([2,2],[1,1],1,4) :=
 ⟨by decide,rfl,rfl,λ i h=>by
   have h:i<2:=h
   have:i=0\/i=1:=by lia
   rcases this with rfl|rfl
   . exact N
   . exact m1,λ i h=>by
   have H:=(Bj.mp h).1
   have H:i<2:=H
   have:i=0\/i=1:=by lia
   rcases this with rfl|rfl
   . exact Z.2.1
   . exact Z.2.1,⟨Z.1.1,Z.1.2,Z.2.2.1,⟨Z.2.2.2.1,by lia,Z.2.2.2.2⟩,by lia⟩,B,⟨a.1,by lia,.inl (by show b.2.1+2<=((4:Nat):Int);lia)⟩,c⟩
theorem uU.four (N:1<=n/\n<=2) (m1:1<=m/\m<=2) (B:0<=b.1/\b.1<=4) (a:0<=b.2.1/\b.2.1<=1) (c:0<=b.2.2/\b.2.2<=2):uU [1,1,n,m] [false,false,true,true] (0,1,1,0) b ([1,1,2,2],[0,0,1,1],0,3) :=
 ⟨by decide,rfl,rfl,λ i h=>by
   have h:i<4:=h
   have:i=0\/i=1\/i=2\/i=3:=by lia
   rcases this with rfl|rfl|rfl|rfl
   . exact ⟨aaj 1,aaj 1⟩
   . exact ⟨aaj 1,aaj 1⟩
   . exact N
   . exact m1,λ i h=>by
   have H:=(Bj.mp h).1
   have H:i<4:=H
   have:i=0\/i=1\/i=2\/i=3:=by lia
   rcases this with rfl|rfl|rfl|rfl
   . cases h
   . cases h
   . decide
   . decide,by decide,B,⟨a.1,by lia,.inl (by show b.2.1+2<=((3:Nat):Int);lia)⟩,c⟩
theorem uU.three (N:1<=n/\n<=2) (m1:1<=m/\m<=2) (L:1<=l/\l<=2):uU [n,m,l] [f,g,h] (0,0,0,0) (4,0,0) ([2,2,2],[0,0,0],0,2) :=
 ⟨by decide,rfl,rfl,λ i H=>by
   have H:i<3:=H
   have:i=0\/i=1\/i=2:=by lia
   rcases this with rfl|rfl|rfl
   . exact N
   . exact m1
   . exact L,λ i H=>by
   have a:=(Bj.mp H).1
   have a:i<3:=a
   have:i=0\/i=1\/i=2:=by lia
   rcases this with rfl|rfl|rfl<;>decide,by decide,by decide,by decide,by decide⟩
theorem jb {Q:VK} {bs:aR} {fs:List Bool} {kd:aR×aR×Nat×Nat} (v:uU bs fs z b kd) (k:∀ q g i l j (bs:aR) (fs:List Bool) (z:Int×Int×Int×Int) (b:Int×Int×Int) k H',aG H H'->H' q=some (.tup [.ref g,.ref i,.ref l,.ref j])->H' g=some (.lst (bs.map aq))->H' i=some (.lst (fs.map V.bl))->H' l=some (.tup [.int z.1,.int z.2.1,.int z.2.2.1,.int z.2.2.2])->H' j=some (.tup [.int b.1,.int b.2.1,.int b.2.2])->uU bs fs z b k->Q (.ref q) H') {H1 e h:Hp} {a c d p q:am} (u:aG H H1) (E:H1 a=some (.lst (bs.map aq))) (m:aG H1 e) (n:e c=some (.lst (fs.map V.bl))) (S:aG e h) (r:h d=some (.tup [.int z.1,.int z.2.1,.int z.2.2.1,.int z.2.2.2])) (t:h p=none) (f:upd h p (.tup [.int b.1,.int b.2.1,.int b.2.2]) q=none):Q (.ref q) (upd (upd h p (.tup [.int b.1,.int b.2.1,.int b.2.2])) q (.tup [.ref a,.ref c,.ref d,.ref p])):=by
 have s:=(ak (o:=.tup [.int b.1,.int b.2.1,.int b.2.2]) t).trans (ak (o:=.tup [.ref a,.ref c,.ref d,.ref p]) f)
 exact k q a c d p bs fs z b kd _ (((u.trans m).trans S).trans s) af (((m.trans S).trans s) _ _ E) ((S.trans s) _ _ n) (s _ _ r) (ak f _ _ af) v
end
structure UP (sc:mU) (ms:List Int) (s:Int×Int×Int) (zo:Option (Int×Int×Int×Int)) (fl:List Int) (r:R8):Prop where
 marks:r.marks=ms.map λ x=>bg x 1 sc
 share:r.share=s.1
 lo:r.lo=bg s.2.1 1 sc
 hi:r.hi=bg s.2.2 1 sc
 cg:r.cg=fl
 no:zo=none->r.bV=none
 st:∀ z,zo=some z->∃ t,r.bV=some t/\eB 100 t.1/\0<=t.1.1/\(0<=t.2.1/\t.2.1<=z.2.2.1)/\(0<=t.2.2.1/\t.2.2.1<=z.1)/\(0<=t.2.2.2/\t.2.2.2<=z.2.1)
def Uz (z:Int×Int×Int×Int):Prop:=(0<=z.1/\z.1<=3)/\(0<=z.2.2.1/\z.2.2.1<=9)/\(0<=z.2.2.2/\z.2.2.2<=z.2.1)/\z.2.1<=3
section
variable (K:aD)
def EY (H:Hp) (s:V) (Z:Option (Int×Int×Int×Int)):Prop:=(s = .cL/\Z=none)\/∃ p z,s = .ref p/\Z=some z/\bY K H p [.int z.1,.int z.2.1,.int z.2.2.1,.int z.2.2.2]/\Uz z
inductive Ga (vs:aB) (H:Hp) (Q:VK) (_E:XK):Prop|mk (px pm:_) (ms:List Int) (n ps:_) (s:Int×Int×Int) (sv yw:_) (sc:mU) (pf:_) (fl:List Int) (zo:_) (_:vs=[.ref px,.ref pm,.ref ps,sv,.ref yw,.ref pf]) (_:Xs K H px 17) (_:aT K H pm (ms.map V.int)) (_:n<=6) (_:Gi n ms) (_:bY K H ps [.int s.1,.int s.2.1,.int s.2.2]) (_:MD s) (_:EY K H sv zo) (_:bY K H yw sc.vs) (_:sc.Ok) (_:H pf=some (.lst (fl.map V.int))) (_:∀ q H' r,aG H H'->(∀ L us,H L=some (.lst us)->L≠pf->Dn K (cW H' [L]) (EA r) (.ref q))->UP sc ms s zo fl r->Q (.ref q) H')
end
section
variable {sc:mU} {ms:List Int} {s:Int×Int×Int} {zo:Option (Int×Int×Int×Int)} {fl:List Int} {r:R8} {n k m:Nat}
theorem lE {x:Int} (ok:sc.Ok) (h:x.natAbs<=1000):eB 100 (bg x 1 sc):=(CH (n:=30) ok (by decide) (show x.natAbs<2 ^ 30 by lia) pQ).mono (by decide)
theorem Rn (ok:sc.Ok) (h:Gi m ms):jt (ms.map λ x=>bg x 1 sc)=true:=by
 refine abh.mpr λ b a=>?_
 obtain ⟨i,H⟩:=adg a
 have c:=(Bj.mp H).1
 rw [adj,acY,M1] at c
 have e:ms[i]?=some ms[i]:=aI (by lia)
 have E:ms[i+1]?=some ms[i+1]:=aI (by lia)
 have g:=ku (r:=ms.map λ x=>bg x 1 sc) (i:=i) (by rw [Sb,e];rfl) (by rw [Sb,E];rfl)
 rw [g] at H
 cases H
 show aX (bg _ 1 sc) (bg _ 1 sc)=true
 rw [i7 ok (by decide)]
 exact aaH (h.ri i _ _ e E)
structure Iw (kd:aR×aR×Nat×Nat) (sc:mU) (k:Nat) (r:R8):Prop where
 ok:r.Ok kd.1.length k
 b:r.marks.length<=kd.1.getD k 0+1
 s:∀ z,r.bV=some z->z.2.2.1<=(kd.2.2.1:Int)/\z.2.2.2<=(kd.2.1.getD k 0:Int)
 w:∃ x y:Int,r.lo=bg x 1 sc/\r.hi=bg y 1 sc/\x.natAbs<=300/\y.natAbs<=300
 ms:∃ ms:List Int,r.marks=(ms.map λ x=>bg x 1 sc)/\∀ x∈ms,x.natAbs<=300
theorem UP.ok (h:UP sc ms s zo fl r) (ok:sc.Ok) (mk:Gi m ms) (m1:1<=m) (M:m<=6) (S:MD s) (q:∀ z,zo=some z->Uz z) (L:fl.length=n) (F:∀ j,0<=fl.getD j 0/\fl.getD j 0<=3) (own:fl.getD k 0=0) (i:s.1+k8 (λ j=>fl.getD j 0) n<=12):r.Ok n k:=by
 have l:∀ x∈ms,x.natAbs<=1000:=λ x g=>by have:=mk.bd x g;lia
 have u:=S.lo
 have v:=S.hi
 refine ⟨?_,?_,?_,?_,?_,?_,?_,λ t H=>?_,by rw [h.cg];exact L,?_,?_,?_⟩
 . rw [h.marks,M1,mk.len];lia
 .
  rw [h.marks]
  intro f p
  obtain ⟨x,g,rfl⟩:=aaJ.mp p
  exact lE ok (l x g)
 . rw [h.marks];exact Rn ok mk
 . rw [h.share];exact S.sh
 . rw [h.lo];exact lE ok (by lia)
 . rw [h.hi];exact lE ok (by lia)
 . rw [h.lo,h.hi,i7 ok (by decide)]
   exact aaq (by have:=S.le;lia)
 .
  cases e:zo with
  | none=>rw [h.no e] at H;cases H
  | some z =>
    obtain ⟨T,E,o,a,b,c,d⟩:=h.st z e
    rw [E] at H
    cases H
    obtain ⟨w,y,A,B⟩:=q z e
    exact ⟨o,a,by lia,by lia,by lia⟩
 . intro j;unfold R8.fl;rw [h.cg];exact F j
 . unfold R8.fl;rw [h.cg];exact own
 . have e:r.fl=λ j=>fl.getD j 0:=by funext j;unfold R8.fl;rw [h.cg]
   rw [e,h.share];exact i
theorem uP {kd:aR×aR×Nat×Nat} (h:kd∈iU):1<=kd.1.length/\kd.1.length<=4/\(∀ i,kd.1.getD i 0<=6)/\(2<=kd.1.length->∀ i,kd.1.getD i 0<=2):=by
 have k:∀ (l:aR) (b:Nat),(∀ x∈l,x<=b)->∀ i,l.getD i 0<=b:=λ l b H i=>by
   rw [Qm]
   cases e:l[i]? with
   | none=>exact aaZ _
   | some x=>exact H x (aae e)
 unfold iU at h
 simp only [aaa,aad,aaR] at h
 rcases h with rfl|rfl|rfl|rfl|rfl|rfl
 . exact ⟨by decide,by decide,k _ _ (by decide),λ h=>absurd h (by decide)⟩
 . exact ⟨by decide,by decide,k _ _ (by decide),λ h=>absurd h (by decide)⟩
 . exact ⟨by decide,by decide,k _ _ (by decide),λ h=>absurd h (by decide)⟩
 . exact ⟨by decide,by decide,k _ _ (by decide),λ Z=>k _ _ (by decide)⟩
 . exact ⟨by decide,by decide,k _ _ (by decide),λ Z=>k _ _ (by decide)⟩
 . exact ⟨by decide,by decide,k _ _ (by decide),λ Z=>k _ _ (by decide)⟩
theorem getD_snoc {fl:List Int} {y:Int} (t:Nat):(fl++[y]).getD t 0=fl.getD t 0/\t≠fl.length\/t=fl.length/\(fl++[y]).getD t 0=y:=by
 simp only [Qm]
 by_cases h:t<fl.length
 . rw [aal h];exact .inl ⟨rfl,by lia⟩
 . by_cases e:t=fl.length
   . rw [aaO (by lia),e,adw];exact .inr ⟨rfl,rfl⟩
   . rw [abe (by rw [aab,aaC];lia),abe (by lia)];exact .inl ⟨rfl,e⟩
theorem Af {rs:List R8} {r:R8}:(∀ j,j<rs.length->bZ (rs++[r]) j=bZ rs j)/\bZ (rs++[r]) rs.length=r:=by
 unfold bZ
 refine ⟨λ j h=>?_,?_⟩
 . rw [Qm,Qm,aal h]
 . rw [Qm,aaO (aaj _),adw];rfl
theorem Hw {kd:aR×aR×Nat×Nat} (h:kd∈iU):kd.2.2.1<=2:=by
 unfold iU at h
 simp only [aaa,aad,aaR] at h
 rcases h with rfl|rfl|rfl|rfl|rfl|rfl<;>decide
theorem Cm {f:Nat->Int} {c:Int} {k:Nat} (h:∀ j,0<=f j/\f j<=c) (H:f k=0):∀ n,0<=k8 f n/\(k8 f n<=c * (n:Int))/\(k<n->k8 f n<=c * ((n:Int) - 1))
 | 0=>⟨abp _,by show (0:Int)<=c * 0;lia,λ z=>absurd z (by lia)⟩
 | n+1=>by
   obtain ⟨a,b,d⟩:=Cm h H n
   have m:=h n
   have E:c * ((n+1:Nat):Int)=c * (n:Int)+c:=by push_cast;grind
   have g:c * (((n+1:Nat):Int) - 1)=c * (n:Int):=by push_cast;grind
   have i:c * ((n:Int) - 1)=c * (n:Int) - c:=by grind
   show 0<=k8 f n+f n/\k8 f n+f n<=_/\(_->k8 f n+f n<=_)
   rw [E,g]
   refine ⟨by lia,by lia,λ l=>?_⟩
   by_cases e:k=n
   . subst e;lia
   . have:=d (by lia);rw [i] at this;lia
structure MI (sc:mU) (rs:List R8) (b:Int×Int×Int) (kd:aR×aR×Nat×Nat):Prop where
 kk:kd∈iU
 n:rs.length=kd.1.length
 r:∀ i,i<rs.length->Iw kd sc i (bZ rs i)
 b0:0<=b.1/\b.1<=4
 b1:0<=b.2.1/\b.2.1<=30/\(b.2.1+2<=(kd.2.2.2:Int)\/kd.2.2.2=30)
 b2:0<=b.2.2/\b.2.2<=2
end
def zA (K:aD) (H:Hp) (q:am) (rs:List R8) (b:Int×Int×Int):Prop:=∃ a p x,bY K H q [.ref a,.ref p]/\aT K H a x/\bF K H (rs.map EA) x/\bY K H p [.int b.1,.int b.2.1,.int b.2.2]
theorem zA.same {K:aD} {q:am} {rs:List R8} {b:Int×Int×Int} (h:zA K H q rs b) (s:aG H H'):zA K H' q rs b:=by
 obtain ⟨f,p,x,a,c,d,e⟩:=h
 exact ⟨f,p,x,s.tup a,s.seq c,bF.same s _ d,s.tup e⟩
inductive C2 (K:aD) (vs:aB) (H:Hp) (Q:VK) (_E:XK):Prop|mk (ps:_) (ns:List Int) (at_ yw:_) (sc:mU) (_:vs=[.ref ps,aq at_,.ref yw]) (_:aT K H ps (ns.map V.int)) (_:bY K H yw sc.vs) (_:sc.Ok) (_:∀ q rs b kd H',aG H H'->zA K H' q rs b->MI sc rs b kd->Q (.ref q) H')
section
variable {m:ar} {s:cr} {o out:Nat}
def JI (H:m.rows.length<=4) (p:Kw m) (S:eI m s) (b:o∈s.orders m) (M:out∈dB m s o):cx m s o out:=by
 obtain ⟨E,l⟩:=KH H S b
 obtain ⟨u,U⟩:=(qK (wJ (s:=s) (o:=o) H)).2 out M
 have a:∀ r,0<=m.wd r/\0<=m.eE r:=λ r=>by
   unfold ar.wd ar.eE ar.pJ
   cases e:m.bw[r]? with
   | none=>exact ⟨abp _,abp _⟩
   | some z =>
     cases z with
     | none=>exact ⟨abp _,abp _⟩
     | some z =>
       have:=p.bV z (aae e)
       exact ⟨this.2.1.1,this.2.2.1.1⟩
 refine ⟨H,S,l,E,u,λ r h=>?_,λ r=>(a r).1,λ r=>(a r).2,p.ZX.2.1.1,p.ZX.2.2.1⟩
 have:(out &&& s.may m o).testBit r=true:=by rw [U];exact h
 rw [abu] at this
 have:=(aaY _ _ ▸ this:out.testBit r=true/\(s.may m o).testBit r=true).2
 unfold cr.may at this
 rw [Ord.iN] at this
 simp only [aaY,acO,ab2] at this
 exact ⟨this.2.1.1,this.2.1.2,this.2.2⟩
def Nv (w:m.Wf) (h:m.rows.length<=4) (f:m.bS.length=m.rows.length) (p:Kw m):GB m:=by
 refine ⟨h,λ s S=>Jr w h f S,λ s o S H out M=>JI h p S H M,λ s o x S H a=>?_⟩
 obtain ⟨out,M,a⟩:=abA.mp a
 obtain ⟨c,e,rfl⟩:=aaJ.mp a
 obtain ⟨lc,d⟩:=fZ.mp e
 have L:(gw m s (Ord.off o out)).length=m.rows.length:=by unfold gw;rw [M1,aak]
 rw [L] at lc d
 refine (JI h p S H M).next lc λ i b=>?_
 have:=d i b
 rw [iH]
 unfold gw at this
 rw [Qm (l:=List.map _ _),Sb,abd b] at this
 have this:c.getD i 0∈(kW m s (Ord.off o out) i).getD []:=this
 unfold kW dY at this
 split at this
 . exact FO this
 . exact absurd this aad
end
section
variable {sc:mU} {rs:List R8} {b:Int×Int×Int} {kd:aR×aR×Nat×Nat} {m:ar} {i:Nat}
theorem MI.rooms (h:MI sc rs b kd):CS rs:=by
 obtain ⟨k,a,c,K⟩:=uP h.kk
 refine ⟨by rw [h.n];exact k,by rw [h.n];exact a,λ i H=>by rw [h.n];exact (h.r i H).ok,?_⟩
 by_cases e:rs.length=1
 . exact .inl e
 .
  refine .inr λ i H=>?_
  have:=K (by have:=h.n;lia) i
  have:=(h.r i H).b
  lia
structure zp (rs:List R8) (b:Int×Int×Int) (i:Nat) (m:ar):Prop where
 most:m.most=b.1
 fR:m.fR=b.2.1
 load:m.load=b.2.2
 rows:m.rows=(rs.take i).map R8.marks
 pI:m.bS=List.replicate i ((0,1),(0,1),(0,1))
 st:m.bw=List.replicate i none
 fl:m.cg=λ _ _=>none
theorem BX (h:i<rs.length):rs.take (i+1)=rs.take i++[bZ rs i]:=by
 rw [acn,fQ h];rfl
theorem zp.add (h:zp rs b i m) (H:i<rs.length):zp rs b (i+1) (m.sZ (bZ rs i).marks):=by
 refine ⟨h.most,h.fR,h.load,?_,?_,?_,h.fl⟩
 . show m.rows++[_]=_
   rw [BX H,aaf,h.rows];rfl
 . show m.bS++[_]=_
   rw [h.pI,adb]
 . show m.bw++[_]=_
   rw [h.st,adb]
theorem wg {a:Type} {x:a} (n:Nat):List.replicate n x=(List.range n).map λ Z=>x:=by
 rw [List.map_const',aak]
theorem zp.lk (h:zp rs b rs.length m):mS rs b 0 0 0 0 m:=by
 refine ⟨h.most,h.fR,h.load,by rw [h.rows,aaA],?_,?_,?_⟩
 . rw [h.pI,wg];rfl
 . rw [h.st,wg];rfl
 .
  rw [h.fl]
  funext i j
  have e:iu rs 0 0 i.toNat j.toNat=0:=by unfold iu;rw [aap (by lia)]
  rw [e,aap (by lia)]
theorem zp.aF (h:zp rs b i m) (R:CS rs) (H:i<rs.length):i6 (m.rows++[(bZ rs i).marks])<=400:=by
 have e:m.rows++[(bZ rs i).marks]=(rs.take (i+1)).map R8.marks:=by rw [BX H,aaf,h.rows];rfl
 rcases R.CL with g|C
 .
  have I:i=0:=by lia
  subst I
  have E:m.rows=[]:=by rw [h.rows];rfl
  rw [E]
  show 1 * (((bZ rs 0).marks.length:Int) - 1)<=400
  have:=(R.ok 0 H).len
  lia
 .
  refine FQ (λ r d=>?_) (by rw [e,M1,aaF];have:=R.n4;lia)
  rw [e] at d
  obtain ⟨q,f,rfl⟩:=aaJ.mp d
  obtain ⟨j,a⟩:=adg (ade f)
  have c:=(Bj.mp a).1
  have:bZ rs j=q:=by unfold bZ;rw [Qm,a];rfl
  rw [<- this]
  exact ⟨(R.ok j c).len.1,by have:=C j c;lia⟩
theorem JK (H:∀ j,0<=(bZ rs i).fl j) (q:Nat):∀ n,sumF (iu rs i q) i n+(if q<n then (bZ rs i).fl q else 0)<=k8 (bZ rs i).fl n
 | 0=>abp _
 | n+1=>by
   have I:=JK H q n
   have h:=H n
   show sumF (iu rs i q) i n+iu rs i q i n+_<=k8 (bZ rs i).fl n+(bZ rs i).fl n
   by_cases e:n<q
   . have E:iu rs i q i n=(bZ rs i).fl n:=by unfold iu;rw [aan (.inr ⟨rfl,e⟩)]
     rw [aap (by lia)] at I |-
     lia
   .
    have E:iu rs i q i n=0:=by unfold iu;rw [aap (by lia)]
    by_cases a:q=n
    . subst a
      rw [aap (by lia)] at I
      rw [aan (by lia)]
      lia
    . rw [aan (by lia)] at I |-
      lia
theorem Ia (h:¬ i<rs.length):bZ rs i=⟨[],0,(0,1),(0,1),none,[]⟩:=by
 unfold bZ
 rw [Qm,abe (by lia)];rfl
theorem CS.MU (R:CS rs) (i j:Nat):0<=(bZ rs i).fl j:=by
 by_cases h:i<rs.length
 . exact ((R.ok i h).fb j).1
 . rw [Ia h];exact abp _
theorem mS.xh (R:CS rs) (H:i<rs.length) {t:Nat} (h:mS rs b i i 0 t m):aX (mD (m.own i) (m.gE i)) (nf (bZ rs i).share 12)=false:=by
 refine (h.sh R.MU).xh (by decide) (Ov.nf (by decide)) ?_
 rw [h.len]
 have:=(Od (rs:=rs) (p:=i) (q:=0) (R.MU i) rs.length).2
 have:=(R.ok i H).sum
 lia
theorem mS.uQ (R:CS rs) (H:i<rs.length) {q t:Nat} (c:q<rs.length) (h:mS rs b (i+1) i q t m):aX (mD (m.own i) (m.j0 i q)) (nf ((bZ rs i).fl q) 12)=false:=by
 refine (h.sh R.MU).uQ (by decide) (Ov.nf (by decide)) ?_
 rw [h.len,FT]
 have a:=JK (rs:=rs) (i:=i) (R.MU i) q rs.length
 rw [aan c] at a
 show _<=12 - (if i<i+1/\i<rs.length then (bZ rs i).share else 0) - _+0
 rw [aan ⟨by lia,H⟩]
 have:=(R.ok i H).sum
 lia
abbrev BG (rs:List R8) (b:Int×Int×Int) (m:ar):Prop:=mS rs b rs.length rs.length 0 rs.length m
theorem mS.Rb (h:BG rs b m) (R:CS rs) (B:m.MN):Kw m:=by
 refine ⟨λ s a=>?_,λ x c=>?_,B⟩
 .
  rw [h.pI] at a
  obtain ⟨i,H,rfl⟩:=aaJ.mp a
  have H:=aaD.mp H
  unfold C0
  rw [aan H]
  exact (R.ok i H).le
 .
  rw [h.st] at c
  obtain ⟨i,H,e⟩:=aaJ.mp c
  have H:=aaD.mp H
  rw [aan H] at e
  exact ((R.ok i H).st x e).2
theorem mS.pJ (h:BG rs b m) (H:i<rs.length):m.pJ i=(bZ rs i).bV:=by
 unfold ar.pJ
 rw [h.st,Sb,abd H]
 show ((if i<rs.length then (bZ rs i).bV else none))=_
 rw [aan H]
theorem mS.CL (h:BG rs b m) (P:MI sc rs b kd) {c:Int} (d:c<=(kd.2.2.2:Int)) {a l:Int}:LA { m with most:=a,fR:=c,load:=l } (λ i=>kd.1.getD i 0) (λ Z=>kd.2.2.1) (λ i=>kd.2.1.getD i 0) kd.2.2.2:=by
 have L:m.rows.length=kd.1.length:=by rw [h.len,P.n]
 have S:∀ i,i<m.rows.length->m.eE i<=(kd.2.2.1:Int)/\m.fails i<=(kd.2.1.getD i 0:Int):=λ i H=>by
   rw [h.len] at H
   unfold ar.eE ar.fails
   rw [h.pJ H]
   cases e:(bZ rs i).bV with
   | none=>exact ⟨aa3 _,aa3 _⟩
   | some z=>exact (P.r i H).s z e
 refine ⟨λ i H=>?_,λ i H=>(S i H).1,λ i H=>(S i H).2,d,?_,?_⟩
 .
  have H:i<m.rows.length:=H
  rw [h.len] at H
  show (m.rows.getD i []).length<=_
  rw [h.rows,Qm,Sb,fQ H]
  exact (P.r i H).b
 .
  show jl _ m.rows.length * (2 ^ m.rows.length * (jl _ m.rows.length * (jl _ m.rows.length * _)))<=2000
  rw [L]
  have:=P.kk
  unfold iU at this
  simp only [aaa,aad,aaR] at this
  rcases this with rfl|rfl|rfl|rfl|rfl|rfl<;>decide
 .
  show jl _ m.rows.length<=25
  rw [L]
  have:=P.kk
  unfold iU at this
  simp only [aaa,aad,aaR] at this
  rcases this with rfl|rfl|rfl|rfl|rfl|rfl<;>decide
def Dh (r:R8):R7:=⟨r.marks.map (·.1),0,0,0,r.bV.map λ z=>(0,z.2)⟩
theorem mS.SY (h:BG rs b m):ZS (rs.map Dh) b.1 b.2.1 b.2.2 rs.length m:=by
 refine ⟨h.most,h.fR,h.load,λ i r e=>?_,λ i q H e=>?_,λ i H=>?_⟩
 .
  rw [h.rows,Sb] at e
  cases E:rs[i]? with
  | none=>rw [E] at e;cases e
  | some q =>
    rw [E] at e
    cases e
    exact ⟨Dh q,by rw [Sb,E];rfl,by unfold Dh;exact (M1 ..).symm⟩
 .
  rw [Sb,fQ H] at e
  cases e
  rw [h.pJ H]
  unfold Dh
  cases (bZ rs i).bV<;>rfl
 . unfold ar.pJ
   rw [h.st,abe (by rw [M1,aak];exact H)];rfl
end
section
variable (K:aD) (C:am)
inductive Gs (vs:aB) (H:Hp) (Q:VK) (_E:XK):Prop|mk (q rs b:_) (_:vs=[.ref q]) (_:zA K H q rs b) (_:CS rs) (_:(0<=b.1/\b.1<=4)) (_:(0<=b.2.1/\b.2.1<=30)) (_:(0<=b.2.2/\b.2.2<=30)) (_:∀ a fp m H',aG H H'->bv K C H' a fp m->(∀ c∈fp,H c=none)->BG rs b m->Q (.ref a) H')
inductive Dt (vs:aB) (H:Hp) (Q:VK) (_E:XK):Prop|mk (c:Int) q rs b (_:vs=[.int c,.ref q]) (_:zA K H q rs b) (_:CS rs) (_:0<=b.1) (_:0<=b.2.1) (_:∀ q st H',aG H H'->f9 K H' q st->(∀ m,BG rs b m->eI m st)->(st.heap:Int)<=b.2.1->Q (.ref q) H')
end
inductive KG (vs:aB) (H:Hp) (Q:VK) (_E:XK):Prop|mk (u v:Option Nat) (_:vs=[jL v,jL u]) (_:(v=none\/∃ x y,u=some x/\v=some y/\x<=y)) (_:Q (.bl true) H)
section
variable {sc:mU} {x y p:Int}
def TZ (ok:sc.Ok):nf ((bg x 1 sc).1 * (bg y 1 sc).2 * (8 - p)+(bg y 1 sc).1 * (bg x 1 sc).2 * p) (8 * (bg x 1 sc).2 * (bg y 1 sc).2)=bg (x * (8 - p)+y * p) 8 sc:=by
 have h:=fY (parts:=1) ok (by decide)
 have F:=hJ (t:=eA x 1 sc) h
 have G:=hJ (t:=eA y 1 sc) h
 have c:(bg x 1 sc).1 * gI 1 sc=eA x 1 sc * (bg x 1 sc).2:=F.jV
 have C:(bg y 1 sc).1 * gI 1 sc=eA y 1 sc * (bg y 1 sc).2:=G.jV
 have d:0<(bg x 1 sc).2:=F.pos
 have e:0<(bg y 1 sc).2:=G.pos
 have g:eA (x * (8 - p)+y * p) 8 sc=(8 - p) * eA x 1 sc+p * eA y 1 sc:=by unfold eA;grind
 have H:gI 8 sc=8 * gI 1 sc:=by unfold gI;grind
 have f:bg (x * (8 - p)+y * p) 8 sc=nf (eA (x * (8 - p)+y * p) 8 sc) (gI 8 sc):=rfl
 rw [f]
 generalize (bg x 1 sc).1=q at c |-
 generalize (bg x 1 sc).2=r at c d |-
 generalize (bg y 1 sc).1=Q at C |-
 generalize (bg y 1 sc).2=R at C e |-
 rw [g,H]
 generalize gI 1 sc=B at c C h
 generalize eA x 1 sc=a at c
 generalize eA y 1 sc=b at C
 refine JS (aaK (aaK (by decide) d) e) (aaK (by decide) h) ?_
 have E:(q * R * (8 - p)+Q * r * p) * (8 * B)=8 * (q * B * (R * (8 - p))+Q * B * (r * p)):=by grind
 rw [E,c,C];grind
def Kp (ok:sc.Ok):bg x 1 sc=bg (8 * x) 8 sc:=by
 refine JS (fY ok (by decide)) (fY ok (by decide)) ?_
 unfold eA gI;grind
end
section
variable {sc:mU}
theorem Q3 {z:Int} (ok:sc.Ok) (h:z.natAbs<=10000):eB 100 (bg z 8 sc):=(CH (n:=30) ok (by decide) (show z.natAbs<2 ^ 30 by lia) pQ).mono (by decide)
end
section
variable (K:aD) (C:am)
inductive Jz (vs:aB) (H:Hp) (Q:VK) (_E:XK):Prop|mk (v1 v2 p x y:_) (sc:mU) (_:vs=[v1,v2,.int p]) (_:Dn K H (dJ (bg x 1 sc)) v1) (_:Dn K H (dJ (bg y 1 sc)) v2) (_:sc.Ok) (_:x.natAbs<=300) (_:y.natAbs<=300) (_:(0<=p/\p<=8)) (_:∀ q H',aG H H'->H' q=some (.tup [.int (bg (x * (8 - p)+y * p) 8 sc).1,.int (bg (x * (8 - p)+y * p) 8 sc).2])->Q (.ref q) H')
end
section
variable {sc:mU} {rs:List R8} {b:Int×Int×Int} {kd:aR×aR×Nat×Nat} {m:ar}
theorem Tq (l:BG rs b m) (P:MI sc rs b kd):m.fR<=(kd.2.2.2:Int):=by
 rw [l.fR]
 have:=P.b1
 lia
theorem Tz (l:BG rs b m) (P:MI sc rs b kd):m.MN:=by
 unfold ar.MN
 rw [l.most,l.fR,l.load]
 exact ⟨P.b0,⟨P.b1.1,P.b1.2.1⟩,⟨P.b2.1,by have:=P.b2;lia⟩⟩
end
def AM.all {n:Nat} {A F G:Nat->cm} (h:∀ j,j<n->0<=(A j).1/\0<(A j).2/\0<(F j).2/\0<(G j).2/\aX (G j) (F j)=false):AM (dF ((List.range n).map λ j=>(A j,F j))) (dF ((List.range n).map λ j=>(A j,G j))):=by
 induction n with
 | zero=>exact ⟨(by decide:(0:Int)<1),(by decide:(0:Int)<1),(by decide:(0:Int) * 1<=0 * 1)⟩
 | succ n i =>
   have i:=i λ j w=>h j (by lia)
   obtain ⟨l,c,e,m,L⟩:=h n (by lia)
   rw [aa5,aaf,aaf,acl,acl,jh,jh]
   have a:=i.step (d:=(A n,F n)) c e
   have H:=AM.swap (s:=dF ((List.range n).map λ j=>(A j,G j))) i.q l c e m L
   refine ⟨a.p,H.q,?_⟩
   have k:=a.le
   have K:=H.le
   have b:=H.p
   generalize dF ((List.range n).map λ j=>(A j,F j))=s at *
   generalize dF ((List.range n).map λ j=>(A j,G j))=t at *
   have Q:=a.p
   have f:=H.q
   dsimp only at k K Q f b |-
   generalize s.1 * ((A n).2 * (F n).2)+(A n).1 * (F n).1 * s.2=x at *
   generalize s.2 * ((A n).2 * (F n).2)=y at *
   generalize t.1 * ((A n).2 * (F n).2)+(A n).1 * (F n).1 * t.2=g at *
   generalize t.2 * ((A n).2 * (F n).2)=y1 at *
   generalize t.1 * ((A n).2 * (G n).2)+(A n).1 * (G n).1 * t.2=X at *
   generalize t.2 * ((A n).2 * (G n).2)=Y at *
   have u:=abv k (aba f)
   have v:=abv K (aba Q)
   have E:x * y1 * Y=x * Y * y1:=by grind
   have o:g * y * Y=g * Y * y:=by grind
   have r:X * y1 * y=X * y * y1:=by grind
   exact adH (by lia:x * Y * y1<=X * y * y1) b
def Ca {m1 m2:ar} {i:Nat} {jP nl:List cm} {w:cm} {b:Bool} (es:∀ j,m2.share i j=m1.share i j) (E:m2.gE i=m1.gE i) (c:m2.bw=m1.bw) (n:∀ j,0<=(m1.share i j).1) (k:∀ d∈fc m1 i jP w b,vD 900 900 d) (K:∀ d∈fc m2 i nl w b,vD 900 900 d) (L:nl.length=jP.length) (h:∀ j,j<jP.length->aX (nl.getD j (0,1)) (jP.getD j (0,1))=false) :
   aX (jp m2 i nl w b) (jp m1 i jP w b)=false:=by
 have e:di m2 i nl=(List.range jP.length).map λ j=>(m1.share i j,nl.getD j (0,1)):=by
   unfold di
   rw [L]
   exact abG λ j Z=>by rw [es]
 have r:∀ j,j<jP.length->(m1.share i j,jP.getD j (0,1))∈di m1 i jP:=λ j H=>aaJ.mpr ⟨j,aaD.mpr H,rfl⟩
 have R:∀ j,j<jP.length->(m1.share i j,nl.getD j (0,1))∈di m2 i nl:=λ j H=>by rw [e];exact aaJ.mpr ⟨j,aaD.mpr H,rfl⟩
 have l:AM (dF (fc m1 i jP w b)) (dF (fc m2 i nl w b)):=by
   unfold fc at k K |-
   rw [abi,abi,E,c]
   refine AM.more ?_ _ λ d f=>?_
   . rw [e]
     exact AM.all (A:=λ j=>m1.share i j) (F:=λ j=>jP.getD j (0,1)) (G:=λ j=>nl.getD j (0,1)) λ j H=>⟨n j,(k _ (aaU _ (aaU _ (r j H)))).a.p,(k _ (aaU _ (aaU _ (r j H)))).b.p,(K _ (aaU _ (aaU _ (R j H)))).b.p,h j H⟩
   . have:d∈di m1 i jP++[(m1.gE i,w)]++(if b then [((1,1),((m1.bw[i]?).getD none).map (·.1) |>.getD (0,1))] else []):=by
       rw [abi];exact aa1 _ f
     exact ⟨(k d this).a.p,(k d this).b.p⟩
 unfold jp
 rw [Fu l.q l.p]
 exact aaq (adu.mpr l.le)
structure uY (m:ar) (cJ:List (List cm)) (φ:Nat->Nat->Nat):Prop where
 n:cJ.length=m.rows.length
 lt:∀ i c,i<m.rows.length->c+1<(cJ.getD i []).length->φ i c+1<(m.rows.getD i []).length
 first:∀ i,i<m.rows.length->(cJ.getD i []).getD 0 (0,1)=(m.rows.getD i []).getD 0 (0,1)
 last:∀ i,i<m.rows.length->(cJ.getD i []).getD ((cJ.getD i []).length - 1) (0,1)=(m.rows.getD i []).getD ((m.rows.getD i []).length - 1) (0,1)
 lo:∀ i c,i<m.rows.length->c+1<(cJ.getD i []).length->aX ((cJ.getD i []).getD c (0,1)) ((m.rows.getD i []).getD (φ i c) (0,1))=false
 hi:∀ i c,i<m.rows.length->c+1<(cJ.getD i []).length->aX ((m.rows.getD i []).getD (φ i c+1) (0,1)) ((cJ.getD i []).getD (c+1) (0,1))=false
 sh:∀ i j,0<=(m.share i j).1
def cs (m:ar) (a:Nat->Nat->Nat) (s:cr):cr:={ s with aF:=(List.range m.rows.length).map λ i=>a i (gN s.aF i)}
section
variable {m:ar} {cJ:List (List cm)} {φ:Nat->Nat->Nat} {s:cr} {i:Nat} {b:Bool}
theorem uY.share (N:uY m cJ φ) (i j:Nat):ar.share { m with rows:=cJ } i j=m.share i j:=by
 unfold ar.share ar.own
 show (if i=j then ar.gz _ i cJ.length else _)=_
 rw [N.n];rfl
def uY.st (N:uY m cJ φ) (S:eI { m with rows:=cJ } s):eI m (cs m φ s):=by
 have e:ar.rows { m with rows:=cJ }=cJ:=rfl
 refine ⟨by show (List.map _ _).length=_;rw [M1,aak],by rw [<- N.n];exact S.lw,by rw [<- N.n];exact S.lf,by rw [<- N.n];exact S.cC,S.most,S.heap,λ i h=>?_,λ i h=>S.bV i (by show i<cJ.length;rw [N.n];exact h)⟩
 show gN ((List.range m.rows.length).map λ i=>φ i (gN s.aF i)) i+1<_
 rw [lS h]
 exact N.lt i _ h (S.band i (by show i<cJ.length;rw [N.n];exact h))
def sT {m:ar} {bs:aR} {d j:Nat} (h:j<bs.length):(eX m bs d).getD j (0,1)=(m.rows.getD j []).getD (bs.getD j 0+d) (0,1):=by
 unfold eX
 rw [Qm (l:=List.map _ _),Sb,abd h];rfl
def uY.span (N:uY m cJ φ) (W:m.Wf) (F:ar.Wf { m with rows:=cJ }) (f:m.rows.length<=4) (a:eI { m with rows:=cJ } s) (r:b=true->m.has i=true) :
   aX (iW { m with rows:=cJ } i s.aF b) (iW m i (cs m φ s).aF b)=false/\aX (iZ m i (cs m φ s).aF b) (iZ { m with rows:=cJ } i s.aF b)=false:=by
 have p:=N.st a
 have g:=λ e=>Ge (r e)
 have Y:(ar.rows { m with rows:=cJ }).length<=4:=by show cJ.length<=4;rw [N.n];exact f
 have R:=p.lb
 have S:s.aF.length=cJ.length:=a.lb
 have q:∀ j,j<m.rows.length->(cs m φ s).aF.getD j 0+1<(m.rows.getD j []).length:=λ j h=>by rw [<- iH];exact p.band j h
 have B:∀ j,j<cJ.length->s.aF.getD j 0+1<(cJ.getD j []).length:=λ j h=>by rw [<- iH];exact a.band j h
 have l:∀ d,(eX m (cs m φ s).aF d).length=m.rows.length:=λ d=>by unfold eX;rw [M1,aak,R]
 have L:∀ d,(eX { m with rows:=cJ } s.aF d).length=cJ.length:=λ d=>by unfold eX;rw [M1,aak,S]
 have c:∀ j,j<m.rows.length->(cs m φ s).aF.getD j 0=φ j (s.aF.getD j 0):=λ j h=>by
   rw [<- iH,<- iH]
   exact lS h
 have k:=λ d H w (o:eB 120 w)=>(jr (i:=i) (fired:=b) W f (l d) (kD (d:=d) W R q H) o g).1
 have K:=λ d H w (o:eB 120 w)=>(jr (m:={ m with rows:=cJ }) (i:=i) (fired:=b) F Y (L d) (kD (d:=d) F S B H) o g).1
 have ok:=EM W i
 have E:∀ j,ar.share { m with rows:=cJ } i j=m.share i j:=N.share i
 constructor
 .
  refine Ca (m1:=m) (m2:={ m with rows:=cJ }) E rfl rfl (N.sh i) (k 0 (by decide) _ (ok.1.mono (by decide))) (K 0 (by decide) _ (ok.1.mono (by decide))) (by rw [l,L,N.n]) λ j h=>?_
  rw [l] at h
  rw [sT (by rw [S,N.n];exact h),sT (by rw [R];exact h),c j h]
  exact N.lo j _ h (B j (by rw [N.n];exact h))
 .
  refine Ca (m1:={ m with rows:=cJ }) (m2:=m) (λ j=>(E j).symm) rfl rfl (λ j=>by rw [E];exact N.sh i j) (K 1 (by decide) _ (ok.2.mono (by decide))) (k 1 (by decide) _ (ok.2.mono (by decide))) (by rw [l,L,N.n]) λ j h=>?_
  rw [L,N.n] at h
  rw [sT (by rw [R];exact h),sT (by rw [S,N.n];exact h),c j h]
  exact N.hi j _ h (B j (by rw [N.n];exact h))
def uY.row (N:uY m cJ φ) (w:m.Wf) (F:ar.Wf { m with rows:=cJ }) (z:m.rows.length<=4) (B:Fl m (cs m φ s)) (S:Fl { m with rows:=cJ } s) (A:eI { m with rows:=cJ } s) {u:Nat} (h:i<m.rows.length) (f:u.testBit i=true->m.has i=true) {l:aR} (e:kW m (cs m φ s) u i=some l) :
   ∃ L,kW { m with rows:=cJ } s u i=some L/\∀ x∈L,φ i x∈l:=by
 have T:i<cJ.length:=by rw [N.n];exact h
 obtain ⟨o,O⟩:=B i _ h f
 obtain ⟨v,y⟩:=S i _ T f
 obtain ⟨r,t⟩:=N.span w F z A f
 have q:m.rows.getD i []∈m.rows:=by rw [Qm,aI h];exact aar h
 have k:cJ.getD i []∈cJ:=by rw [Qm,aI T];exact aar T
 have G:=(w.len _ q).1
 have D:=(F.len _ k).1
 have d:∀ j,j<(m.rows.getD i []).length->0<((m.rows.getD i []).getD j (0,1)).2:=λ j a=>by
   rw [Qm (l:=m.rows.getD i []),aI a]
   exact (w.rows _ q _ (aar a)).p
 have R:∀ j,j<(cJ.getD i []).length->0<((cJ.getD i []).getD j (0,1)).2:=λ j a=>by
   rw [Qm (l:=cJ.getD i []),aI a]
   exact (F.rows _ k _ (aar a)).p
 unfold kW dY at e |-
 split at e
 .
  rename_i c
  cases e
  unfold iL at c
  simp only [aaY,acO] at c
  have C:iL (cJ.getD i []) (iW { m with rows:=cJ } i s.aF (u.testBit i)) (iZ { m with rows:=cJ } i s.aF (u.testBit i))=true:=by
    unfold iL
    rw [N.first i h,N.last i h,jK v.p o.p (d 0 (by lia)) r c.1,jK (d _ (by lia)) O.p y.p c.2 t];rfl
  refine ⟨_,aan C,λ x g=>?_⟩
  have g:x∈oB (cJ.getD i []) (iW { m with rows:=cJ } i s.aF (u.testBit i)) (iZ { m with rows:=cJ } i s.aF (u.testBit i)):=g
  obtain ⟨H,b⟩:=aa7.mp g
  have H:x+1<(cJ.getD i []).length:=by have:=aaD.mp H;lia
  have E:=N.lt i x h H
  refine aa7.mpr ⟨aaD.mpr (by show φ i x<(m.rows.getD i []).length - 1;lia),?_⟩
  unfold n8 at b |-
  simp only [aaY,acO] at b
  rw [jK O.p (R x (by lia)) (d (φ i x) (by lia)) (jK O.p y.p (R x (by lia)) t b.1) (N.lo i x h H),jK (d (φ i x+1) (by lia)) (R (x+1) H) o.p (N.hi i x h H) (jK (R (x+1) H) v.p o.p b.2 r)];rfl
 . cases e
theorem uY.ws (N:uY m cJ φ):ar.ws { m with rows:=cJ }=m.ws:=by
 unfold ar.ws
 show Ord.setOf cJ.length _=_
 rw [N.n];rfl
theorem uY.kh (N:uY m cJ φ) (b:Nat):ar.kh { m with rows:=cJ } b=m.kh b:=by
 unfold ar.kh
 rw [N.ws];rfl
theorem uY.orders (N:uY m cJ φ):cr.orders { m with rows:=cJ } s=(cs m φ s).orders m:=by
 unfold cr.orders
 rw [N.ws]
 refine List.filter_congr λ o Z=>?_
 unfold cr.DZ ar.EG
 rw [N.kh];rfl
def uY.outs (N:uY m cJ φ) (o:Nat):dB { m with rows:=cJ } s o=dB m (cs m φ s) o:=by
 unfold dB cr.may
 show Bit.parts (Bit.rooms (Ord.setOf cJ.length _))=_
 rw [N.n];rfl
def uY.suc (N:uY m cJ φ) (W:m.Wf) (F:ar.Wf { m with rows:=cJ }) (g:GB m) (g':GB { m with rows:=cJ }) (u:eI { m with rows:=cJ } s) {o:Nat} (A:o∈(cs m φ s).orders m) {l:List cr} (e:kC m (cs m φ s) o=some l) :
   ∃ L,kC { m with rows:=cJ } s o=some L/\∀ t∈L,cs m φ t∈l:=by
 unfold kC at e
 split at e
 .
  rename_i D
  cases e
  have v:=N.st u
  have T:=g.tn _ o v A
  have k:∀ O∈dB m (cs m φ s) o,∀ i,i<m.rows.length->∃ l L,kW m (cs m φ s) (Ord.off o O) i=some l/\kW { m with rows:=cJ } s (Ord.off o O) i=some L/\∀ x∈L,φ i x∈l:=λ O M i H=>by
    have y:=abh.mp (abh.mp D O M) i (aaD.mpr H)
    obtain ⟨l,E⟩:=abN.mp y
    have t:=T O M
    obtain ⟨L,p,S⟩:=N.row W F g.h4 (g.sp _ v) (g'.sp s u) u H (λ h=>(t.JG (t.Lx h).1).2) E
    exact ⟨l,L,E,p,S⟩
  have j:(ar.rows { m with rows:=cJ }).length=m.rows.length:=N.n
  have r:(dB { m with rows:=cJ } s o).all (λ O=>lG { m with rows:=cJ } s (Ord.off o O))=true:=abh.mpr λ O M=>abh.mpr λ i H=>by
    obtain ⟨_,L,_,p,_⟩:=k O (by rw [<- N.outs];exact M) i (by rw [<- j];exact aaD.mp H)
    rw [p];rfl
  refine ⟨_,aan r,λ x q=>?_⟩
  obtain ⟨O,M,q⟩:=abA.mp q
  rw [N.outs] at M
  obtain ⟨c,z,rfl⟩:=aaJ.mp q
  obtain ⟨B,C⟩:=fZ.mp z
  have d:∀ (m:ar) (s:cr),(gw m s (Ord.off o O)).length=m.rows.length:=λ m s=>by unfold gw;rw [M1,aak]
  rw [d,j] at B
  have w:∀ {f f':Nat->Nat},(∀ i,f i=f' i)->(List.range cJ.length).map f=(List.range m.rows.length).map f':=λ h=>by
    rw [N.n]
    exact abG λ i _=>h i
  refine abA.mpr ⟨O,M,aaJ.mpr ⟨(List.range m.rows.length).map λ i=>φ i (gN c i),fZ.mpr ⟨by rw [d,M1,aak],λ i H=>?_⟩,?_⟩⟩
  .
   rw [d] at H
   obtain ⟨l,L,E,p,S⟩:=k O M i H
   have b:=C i (by rw [d,j];exact H)
   unfold gw at b |-
   rw [Qm (l:=List.map _ _),Sb,abd (by show i<cJ.length;rw [N.n];exact H),abX] at b
   rw [Qm (l:=List.map _ (List.range _)) (a:=[]),Sb,abd H,abX,<- iH,lS H]
   have b:c.getD i 0∈(kW { m with rows:=cJ } s (Ord.off o O) i).getD []:=b
   show φ i (gN c i)∈(kW m (cs m φ s) (Ord.off o O) i).getD []
   rw [p] at b
   rw [E,iH]
   exact S _ b
  .
   unfold cr.behind cs
   show cr.mk _ _ _ _ _=cr.mk _ _ _ _ _
   congr 1
   . exact (w λ i=>rfl).symm
   . exact (w λ i=>rfl).symm
   . unfold cr.mo
     rw [N.kh]
 . cases e
theorem uY.ill (N:uY m cJ φ) (w:m.Wf) (F:ar.Wf { m with rows:=cJ }) (g:GB m) (g':GB { m with rows:=cJ }):∀ (k:Nat) (s:cr),eI { m with rows:=cJ } s->xX { m with rows:=cJ } k s->xX m k (cs m φ s)
 | 0,s,_,q=>by
   show (cs m φ s).orders m=[]
   rw [<- N.orders];exact q
 | k+1,s,a,q=>λ o h=>by
   have C:o∈cr.orders { m with rows:=cJ } s:=by rw [N.orders];exact h
   cases e:kC m (cs m φ s) o with
   | none=>exact .inl rfl
   | some l =>
     obtain ⟨L,E,S⟩:=N.suc w F g g' a h e
     rcases q o C with z|⟨c,z,t,H,i⟩
     . rw [E] at z;cases z
     .
      rw [E] at z
      cases z
      have b:L=ul { m with rows:=cJ } s o:=by
        unfold kC at E
        split at E
        . cases E;rfl
        . cases E
      exact .inr ⟨l,rfl,cs m φ t,S t H,uY.ill N w F g g' k t (g'.nx s o t a C (b ▸ H)) i⟩
end
def KW {vs:aB} {k:Nat} (h:k<=vs.length):oU vs none (some (k:Int))=vs.take k:=by
 unfold oU
 have e:HT.oI vs.length vs.length (some (k:Int))=k:=by
   unfold HT.oI
   simp
   lia
 have E:HT.oI vs.length 0 none=0:=rfl
 rw [e,E];rfl
def Gb {vs:aB} {k:Nat} (h:k<=vs.length):oU vs (some (k:Int)) none=vs.drop k:=by
 unfold oU
 have e:HT.oI vs.length 0 (some (k:Int))=k:=by
   unfold HT.oI
   simp
   lia
 have E:HT.oI vs.length vs.length none=vs.length:=rfl
 rw [e,E,aa6 (by rw [abT];lia)]
theorem bF.take {K:aD}:∀ {ds:List PyData} {xs:aB} (k:Nat),bF K H ds xs->bF K H (ds.take k) (xs.take k)
 | ds,xs,0,_=>by rw [acF,acF];exact cK
 | [],xs,k+1,h=>by
   have h:xs=[]:=h
   subst h;exact cK
 | d::ds,xs,k+1,⟨x,t,e,a,b⟩=>by
   subst e
   rw [aee,aee]
   exact bo a (bF.take k b)
theorem bF.drop {K:aD}:∀ {ds:List PyData} {xs:aB} (k:Nat),bF K H ds xs->bF K H (ds.drop k) (xs.drop k)
 | ds,xs,0,h=>h
 | [],xs,k+1,h=>by
   have h:xs=[]:=h
   subst h;exact cK
 | d::ds,xs,k+1,⟨x,t,e,a,b⟩=>by
   subst e
   rw [aeg,aeg]
   exact bF.drop k b
theorem bF.app {K:aD}:∀ {D es:List PyData} {xs ys:aB},bF K H D xs->bF K H es ys->bF K H (D++es) (xs++ys)
 | [],es,xs,ys,h,g=>by
   have h:xs=[]:=h
   subst h;exact g
 | d::D,es,xs,ys,⟨x,t,e,a,b⟩,g=>by
   subst e
   exact bo a (bF.app b g)
def Ib {rs:List R8} {r:Nat} {q:R8} (h:r<rs.length):(∀ i,i≠r->bZ (rs.set r q) i=bZ rs i)/\bZ (rs.set r q) r=q:=by
 unfold bZ
 refine ⟨λ i H=>?_,?_⟩
 . rw [Qm,Qm,ab5 (λ z=>H z.symm)]
 . rw [Qm,abU h];rfl
def f9.VW {K:aD} {p:am} {s:cr} (h:f9 K H p s) (t:aQ K H H'):f9 K H' p s:=by
 obtain ⟨a,b,c,d,e,f,g⟩:=h
 exact ⟨a,b,c,t _ _ d,t _ _ e,t _ _ f,t _ _ g⟩
structure FV (sc:mU) (rs kF:List R8) (r bn:Nat) (p:Int):Prop where
 n:kF.length=rs.length
 o:∀ i,i≠r->bZ kF i=bZ rs i
 r:∃ x y:Int,(bZ rs r).marks[bn]?=some (bg x 1 sc)/\(bZ rs r).marks[bn+1]?=some (bg y 1 sc)/\x.natAbs<=300/\y.natAbs<=300 /\
   bZ kF r={ bZ rs r with marks:=(bZ rs r).marks.take (bn+1)++[bg (x * (8 - p)+y * p) 8 sc]++(bZ rs r).marks.drop (bn+1)}
section
variable (K:aD) (C:am)
inductive Je (vs:aB) (H:Hp) (Q:VK) (_E:XK):Prop|mk (q rs:_) (b:Int×Int×Int) (sc:mU) (r bn:Nat) (p:Int) (_:vs=[.ref q,aq r,aq bn,.int p]) (_:zA K H q rs b) (_:sc.Ok) (_:r<rs.length) (_:(∃ ms:List Int,(bZ rs r).marks=(ms.map λ x=>bg x 1 sc)/\∀ x∈ms,x.natAbs<=300)) (_:bn+1<(bZ rs r).marks.length) (_:(bZ rs r).marks.length<=6) (_:rs.length<=4) (_:(1<=p/\p<=7)) (_:∀ q' kF H',aG H H'->zA K H' q' kF b->FV sc rs kF r bn p->Q (.ref q') H')
inductive IQ (vs:aB) (H:Hp) (Q:VK) (_E:XK):Prop|mk (q st:_) (r bn:Nat) (_:vs=[.ref q,aq r,aq bn]) (_:f9 K H q st) (_:r<st.aF.length) (_:st.aF.length<=4) (_:∀ p xs l H',aG H H'->H' p=some (.lst xs)->jc K H' xs l->(∀ s∈l,∃ c,s={ st with aF:=st.aF.set r c }/\(if c<=bn then c else c - 1)=gN st.aF r/\c<=gN st.aF r+1)->l.length<=2->Q (.ref p) H')
end
def jm (l:List cm) (b:Nat) (z:cm):List cm:=l.take (b+1)++[z]++l.drop (b+1)
def Hj (r b i c:Nat):Nat:=if i=r then (if c<=b then c else c - 1) else c
section
variable {l:List cm} {bn c:Nat}
def mX (z:cm) (h:bn+1<l.length):(jm l bn z).length=l.length+1:=by
 unfold jm
 rw [aab,aab,aaF,abT]
 show min _ _+1+_=_
 lia
def yT (z:cm) (h:bn+1<l.length) (c:Nat):(jm l bn z)[c]?=if c<=bn then l[c]? else if c=bn+1 then some z else l[c - 1]?:=by
 unfold jm
 have L:(l.take (bn+1)).length=bn+1:=by rw [aaF];lia
 by_cases E:c<=bn
 . rw [aan E,abi,aal (by lia),List.getElem?_take,aan (by lia)]
 .
  rw [aap E,abi,aaO (by lia),L]
  by_cases e:c=bn+1
  . rw [aan e,e,adw];rfl
  .
   rw [aap e]
   obtain ⟨d,rfl⟩:∃ d,c=bn+2+d:=⟨c - (bn+2),by lia⟩
   rw [show bn+2+d - (bn+1)=d+1 by lia]
   show (l.drop (bn+1))[d]?=_
   rw [List.getElem?_drop,show bn+2+d - 1=bn+1+d by lia]
def IU (z:cm) (h:bn+1<l.length) (c:Nat):(jm l bn z).getD c (0,1)=if c<=bn then l.getD c (0,1) else if c=bn+1 then z else l.getD (c - 1) (0,1):=by
 rw [Qm,yT z h]
 by_cases e:c<=bn
 . rw [aan e,aan e,Qm]
 .
  rw [aap e,aap e]
  by_cases E:c=bn+1
  . rw [aan E,aan E];rfl
  . rw [aap E,aap E,Qm]
def mI (f:cm):aX f f=false:=by
 unfold aX
 exact aaq (Int.lt_irrefl _)
def Ax (h:jt l=true) {i:Nat} {x y:cm} (H:l[i]?=some x) (a:l[i+1]?=some y):aX x y=true:=by
 have g:=ku H a
 exact abh.mp h _ (aae g)
def K4 (h:∀ (i:Nat) (x y:cm),l[i]?=some x->l[i+1]?=some y->aX x y=true):jt l=true:=by
 refine abh.mpr λ b a=>?_
 obtain ⟨i,H⟩:=adg a
 have c:=(Bj.mp H).1
 rw [adj,acY] at c
 have g:=ku (aI (show i<l.length by lia)) (aI (show i+1<l.length by lia))
 rw [g] at H
 cases H
 exact h i _ _ (aI (by lia)) (aI (by lia))
def DE {z x y:cm} (h:jt l=true) (g:bn+1<l.length) (k:l[bn]?=some x) (m:l[bn+1]?=some y) (d:aX x z=true) (f:aX z y=true):jt (jm l bn z)=true:=by
 refine K4 λ i a b H D=>?_
 rw [yT z g] at H D
 by_cases e:i<bn
 . rw [aan (by lia)] at H D
   exact Ax h H D
 .
  by_cases c:i=bn
  .
   subst c
   rw [aan (aaj _),k] at H
   rw [aap (by lia),aan rfl] at D
   cases H;cases D
   exact d
  .
   rw [aap (by lia)] at H
   rw [aap (by lia),aap (by lia)] at D
   by_cases E:i=bn+1
   . subst E
     rw [aan rfl] at H
     rw [aby,m] at D
     cases H;cases D
     exact f
   . rw [aap E] at H
     obtain ⟨j,rfl⟩:∃ j,i=j+1:=⟨i - 1,by lia⟩
     rw [aby] at H D
     exact Ax h H D
end
section
variable {sc:mU} {rs kF:List R8} {m:ar} {r bn:Nat} {p:Int}
def FV.mark (F:FV sc rs kF r bn p) (ok:sc.Ok) (R:CS rs) (h:r<rs.length) (H:1<=p/\p<=7):∃ x y z,(bZ rs r).marks[bn]?=some x/\(bZ rs r).marks[bn+1]?=some y/\aX x z=true/\aX z y=true/\eB 100 z/\bZ kF r={ bZ rs r with marks:=jm (bZ rs r).marks bn z }:=by
 obtain ⟨x,y,g,G,b,B,e⟩:=F.r
 have X:=Ax (R.ok r h).ri g G
 rw [i7 ok (by decide)] at X
 have X:=abM X
 have a:=aaK (show 0<y - x by lia) (show 0<p by lia)
 have A:=aaK (show 0<y - x by lia) (show 0<8 - p by lia)
 have E:x * (8 - p)+y * p - 8 * x=(y - x) * p:=by grind
 have c:8 * y - (x * (8 - p)+y * p)=(y - x) * (8 - p):=by grind
 refine ⟨_,_,bg (x * (8 - p)+y * p) 8 sc,g,G,?_,?_,Q3 ok (by lia),e⟩
 . rw [Kp ok,i7 ok (by decide)]
   exact aaH (by lia)
 . rw [Kp (x:=y) ok,i7 ok (by decide)]
   exact aaH (by lia)
def FV.rooms (F:FV sc rs kF r bn p) (ok:sc.Ok) (R:CS rs) (c:r<rs.length) (j:1<=p/\p<=7) (b:bn+1<(bZ rs r).marks.length) (L:(bZ rs r).marks.length<=6) (l:rs.length=1\/∀ i,i<rs.length->(bZ rs i).marks.length<=4):CS kF:=by
 obtain ⟨x,y,z,g,G,u,U,O,e⟩:=F.mark ok R c j
 have m:=mX z b
 refine ⟨by rw [F.n];exact R.n1,by rw [F.n];exact R.n4,λ i H=>?_,?_⟩
 .
  rw [F.n] at H |-
  by_cases E:i=r
  .
   subst E
   have o:=R.ok i H
   rw [e]
   refine ⟨by show 2<=(jm _ _ _).length/\(jm _ _ _).length<=7;rw [m];have:=o.len;lia,λ f a=>?_,DE o.ri b g G u U,o.sh,o.Pf,o.NJ,o.le,o.st,o.fn,o.fb,o.own,o.sum⟩
   have a:f∈jm (bZ rs i).marks bn z:=a
   unfold jm at a
   rcases aau.mp a with h|h
   . rcases aau.mp h with h|h
     . exact o.ok f (ade h)
     . rw [aac.mp h];exact O
   . exact o.ok f (aeb h)
  . rw [F.o i E];exact R.ok i H
 .
  rcases l with d|l
  . exact .inl (by rw [F.n];exact d)
  .
   refine .inr λ i H=>?_
   rw [F.n] at H
   by_cases E:i=r
   . rw [E,e]
     show (jm _ _ _).length<=5
     rw [m]
     have:=l r c
     lia
   . rw [F.o i E];have:=l i H;lia
end
section
variable {sc:mU} {rs kF:List R8} {m m':ar} {r bn:Nat} {p:Int}
theorem FV.with {b:Int×Int×Int} (F:FV sc rs kF r bn p) (h:BG rs b m) (h':BG kF b m'):m'={ m with rows:=m'.rows }:=by
 have s:∀ i,(bZ kF i).share=(bZ rs i).share/\(bZ kF i).lo=(bZ rs i).lo/\(bZ kF i).hi=(bZ rs i).hi/\(bZ kF i).bV=(bZ rs i).bV/\(bZ kF i).cg=(bZ rs i).cg:=λ i=>by
   by_cases e:i=r
   . obtain ⟨x,y,Z,Z,Z,Z,q⟩:=F.r
     rw [e,q];exact ⟨rfl,rfl,rfl,rfl,rfl⟩
   . rw [F.o i e];exact ⟨rfl,rfl,rfl,rfl,rfl⟩
 have f:m'.bw=m.bw:=by
   rw [h'.st,h.st,F.n]
   exact abG λ i Z=>by rw [(s i).2.2.2.1]
 have E:m'.bS=m.bS:=by
   rw [h'.pI,h.pI,F.n]
   exact abG λ i Z=>by unfold C0;rw [(s i).1,(s i).2.1,(s i).2.2.1]
 have g:iu kF kF.length 0=iu rs rs.length 0:=by
   funext i j
   unfold iu R8.fl
   rw [F.n,(s i).2.2.2.2]
 have a:=h'.most.trans h.most.symm
 have A:=h'.fR.trans h.fR.symm
 have c:=h'.load.trans h.load.symm
 have d:m'.cg=m.cg:=by rw [h'.fl,h.fl,g]
 cases m;cases m'
 simp only at a A c d f E |-
 rw [a,A,c,d,f,E]
def vz {b:Int×Int×Int} (h:BG rs b m) {i:Nat} (H:i<rs.length):m.rows.getD i []=(bZ rs i).marks:=by
 rw [h.rows,Qm,Sb,fQ H];rfl
def Mh {b:Int×Int×Int} (h:BG rs b m) (R:CS rs) (i j:Nat):0<=(m.share i j).1:=by
 have S:=h.sh R.MU
 unfold ar.share
 split
 .
  refine Ov.nonneg (by decide) (S.own i) ?_
  rw [h.len]
  by_cases H:i<rs.length
  .
   show 0<=12 - (if i<rs.length/\i<rs.length then (bZ rs i).share else 0) - _
   rw [aan ⟨H,H⟩]
   have c:=(R.ok i H).sum
   have a:∀ n,sumF (iu rs rs.length 0) i n<=k8 (bZ rs i).fl n:=λ n=>by
     induction n with
     | zero=>exact abp _
     | succ n I =>
       show sumF _ i n+iu rs rs.length 0 i n<=k8 _ n+(bZ rs i).fl n
       have:iu rs rs.length 0 i n=(bZ rs i).fl n:=by unfold iu;rw [aan (.inl H)]
       lia
   have:=a rs.length
   lia
  .
   show 0<=12 - (if i<rs.length/\i<rs.length then (bZ rs i).share else 0) - _
   rw [aap (by lia)]
   have a:∀ n,sumF (iu rs rs.length 0) i n=0:=λ n=>by
     induction n with
     | zero=>rfl
     | succ n I =>
       show sumF _ i n+iu rs rs.length 0 i n=0
       have:iu rs rs.length 0 i n=0:=by unfold iu;rw [aap (by lia)]
       lia
   rw [a];decide
 .
  exact Ov.nonneg (by decide) (S.j0 i j) (by
    unfold iu
    split
    . exact R.MU i j
    . exact abp _)
def FV.fnr {b:Int×Int×Int} (F:FV sc rs kF r bn p) (ok:sc.Ok) (R:CS rs) (u:r<rs.length) (D:1<=p/\p<=7) (v:bn+1<(bZ rs r).marks.length) (h:BG rs b m) (h':BG kF b m'):uY m m'.rows (Hj r bn):=by
 obtain ⟨x,y,z,G,A,U,J,O,e⟩:=F.mark ok R u D
 have w:=mX z v
 have M:=IU z v
 have d:m.rows.length=rs.length:=h.len
 have s:∀ i,i<rs.length->i≠r->m'.rows.getD i []=m.rows.getD i []:=λ i H E=>by rw [vz h' (by rw [F.n];exact H),vz h H,F.o i E]
 have t:m'.rows.getD r []=jm (m.rows.getD r []) bn z:=by rw [vz h' (by rw [F.n];exact u),e,vz h u]
 have I:=vz h u
 rw [<- I] at w M G A v
 have B:(m.rows.getD r []).getD bn (0,1)=x:=by rw [Qm (l:=m.rows.getD r []),G];rfl
 have C:(m.rows.getD r []).getD (bn+1) (0,1)=y:=by rw [Qm (l:=m.rows.getD r []),A];rfl
 have X:∀ {f g:cm},aX f g=true->aX g f=false:=λ {f g} q=>by
   unfold aX at q |-
   have:=abM q
   exact aaq (by lia)
 refine ⟨by rw [h'.len,d,F.n],λ i c H k=>?_,λ i H=>?_,λ i H=>?_,λ i c H k=>?_,λ i c H k=>?_,Mh h R⟩
 .
  rw [d] at H
  unfold Hj
  by_cases E:i=r
  . subst E
    rw [aan rfl]
    rw [t,w] at k
    split<;>lia
  . rw [aap E]
    rw [s i H E] at k
    exact k
 .
  rw [d] at H
  by_cases E:i=r
  . subst E
    rw [t,M,aan (aaZ _)]
  . rw [s i H E]
 .
  rw [d] at H
  by_cases E:i=r
  . subst E
    rw [t,w,aby,M,aap (by lia),aap (by lia)]
  . rw [s i H E]
 .
  rw [d] at H
  unfold Hj
  by_cases E:i=r
  .
   subst E
   rw [aan rfl,t,M]
   by_cases a:c<=bn
   . rw [aan a,aan a];exact mI _
   . rw [aap a,aap a]
     by_cases j:c=bn+1
     . rw [aan j,j,aby,B];exact X U
     . rw [aap j];exact mI _
  . rw [aap E,s i H E];exact mI _
 .
  rw [d] at H
  unfold Hj
  by_cases E:i=r
  .
   subst E
   rw [aan rfl,t,M]
   by_cases a:c<=bn
   . rw [aan a]
     by_cases j:c=bn
     . rw [aap (by lia),aan (by lia),j,C];exact X J
     . rw [aan (by lia)];exact mI _
   . rw [aap a,aap (by lia),aap (by lia),show c - 1+1=c by lia,aby];exact mI _
  . rw [aap E,s i H E];exact mI _
end
section
variable {sc:mU} {rs kF:List R8} {kd:aR×aR×Nat×Nat} {m':ar} {r bn:Nat} {p:Int}
theorem C8 (h:kd∈iU) (H:r<kd.1.length):jl (λ i=>kd.1.getD i 0+(if i=r then 1 else 0)) kd.1.length * (2 ^ kd.1.length * (jl (λ Z=>kd.2.2.1+1) kd.1.length * (jl (λ i=>kd.2.1.getD i 0+1) kd.1.length * ((if kd.2.2.2=30 then 30 else kd.2.2.2 - 2)+1))))<=2000/\jl (λ i=>kd.1.getD i 0+(if i=r then 1 else 0)) kd.1.length<=25:=by
 unfold iU at h
 simp only [aaa,aad,aaR] at h
 rcases h with rfl|rfl|rfl|rfl|rfl|rfl
 . obtain rfl:r=0:=by have:r<1:=H;lia
   decide
 . obtain rfl:r=0:=by have:r<1:=H;lia
   decide
 . obtain rfl:r=0:=by have:r<1:=H;lia
   decide
 . have:r=0\/r=1:=by have:r<2:=H;lia
   rcases this with rfl|rfl<;>decide
 . have:r=0\/r=1\/r=2\/r=3:=by have:r<4:=H;lia
   rcases this with rfl|rfl|rfl|rfl<;>decide
 . have:r=0\/r=1\/r=2:=by have:r<3:=H;lia
   rcases this with rfl|rfl|rfl<;>decide
theorem FV.CL {b:Int×Int×Int} (F:FV sc rs kF r bn p) (P:MI sc rs b kd) (c:r<rs.length) (H:bn+1<(bZ rs r).marks.length) (h':BG kF b m'):LA m' (λ i=>kd.1.getD i 0+(if i=r then 1 else 0)) (λ _=>kd.2.2.1) (λ i=>kd.2.1.getD i 0) (if kd.2.2.2=30 then 30 else kd.2.2.2 - 2):=by
 have l:m'.rows.length=kd.1.length:=by rw [h'.len,F.n,P.n]
 have N:∀ i,i<m'.rows.length->i<kF.length/\i<rs.length:=λ i h=>by
   rw [h'.len] at h
   exact ⟨h,by rw [<- F.n];exact h⟩
 have E:∀ i,(bZ kF i).bV=(bZ rs i).bV:=λ i=>by
   by_cases e:i=r
   . obtain ⟨x,y,_,_,_,_,q⟩:=F.r
     rw [e,q]
   . rw [F.o i e]
 have S:∀ i,i<m'.rows.length->m'.eE i<=(kd.2.2.1:Int)/\m'.fails i<=(kd.2.1.getD i 0:Int):=λ i h=>by
   obtain ⟨I,a⟩:=N i h
   unfold ar.eE ar.fails
   rw [h'.pJ I,E]
   cases e:(bZ rs i).bV with
   | none=>exact ⟨aa3 _,aa3 _⟩
   | some z=>exact (P.r i a).s z e
 obtain ⟨k,K⟩:=C8 (kd:=kd) (r:=r) P.kk (by rw [<- P.n];exact c)
 refine ⟨λ i h=>?_,λ i h=>(S i h).1,λ i h=>(S i h).2,?_,by rw [l];exact k,by rw [l];exact K⟩
 .
  obtain ⟨I,a⟩:=N i h
  rw [vz h' I]
  have:=(P.r i a).b
  by_cases e:i=r
  .
   obtain ⟨x,y,_,_,_,_,q⟩:=F.r
   rw [aan e]
   rw [e] at this |-
   rw [q]
   show (jm (bZ rs r).marks bn _).length<=_
   rw [mX _ H]
   lia
  . rw [aap e,F.o i e]
    exact this
 .
  rw [h'.fR]
  have:=P.b1
  split
  . show b.2.1<=((30:Nat):Int);lia
  . rename_i z
    lia
end
section
variable {m:ar} {cJ:List (List cm)} {st:cr} {r bn c:Nat}
def ET {l:aR} {j:Nat} (h:r<l.length):gN (l.set r c) j=if j=r then c else gN l j:=by
 unfold gN
 by_cases e:j=r
 . rw [aan e,e,abU h];rfl
 . rw [aap e,ab5 (λ z=>e z.symm)]
def Lb (s:eI m st) (a:r<m.rows.length) (H:(if c<=bn then c else c - 1)=gN st.aF r):cs m (Hj r bn) { st with aF:=st.aF.set r c }=st:=by
 have l:=s.lb
 unfold cs
 have e:(List.range m.rows.length).map (λ i=>Hj r bn i (gN (st.aF.set r c) i))=st.aF:=by
   refine adt λ i=>?_
   rw [Sb]
   by_cases h:i<m.rows.length
   .
    rw [abd h,AY (by rw [l];exact h)]
    show some (Hj r bn i (gN (st.aF.set r c) i))=_
    rw [ET (by rw [l];exact a)]
    unfold Hj
    by_cases e:i=r
    . rw [aan e,aan e,H,e]
    . rw [aap e,aap e]
   . rw [abe (by rw [aak];lia),abe (by lia)];rfl
 show cr.mk ((List.range m.rows.length).map λ i=>Hj r bn i (gN (st.aF.set r c) i)) _ _ _ _=_
 rw [e]
def Mt (s:eI m st) (n:cJ.length=m.rows.length) (b:r<m.rows.length) (a:∀ i,i<m.rows.length->i≠r->cJ.getD i []=m.rows.getD i []) (H:(cJ.getD r []).length=(m.rows.getD r []).length+1) (d:c<=gN st.aF r+1):eI { m with rows:=cJ } { st with aF:=st.aF.set r c }:=by
 refine ⟨by show (st.aF.set r c).length=cJ.length;rw [abc,n];exact s.lb,by show _=cJ.length;rw [n];exact s.lw,by show _=cJ.length;rw [n];exact s.lf,by show _<2 ^ cJ.length;rw [n];exact s.cC,s.most,s.heap,λ i h=>?_,λ i h=>s.bV i (by have h:i<cJ.length:=h;rw [n] at h;exact h)⟩
 have h:i<cJ.length:=h
 rw [n] at h
 show gN (st.aF.set r c) i+1<(cJ.getD i []).length
 rw [ET (by rw [s.lb];exact b)]
 have:=s.band i h
 by_cases e:i=r
 . rw [aan e,e,H]
   rw [e] at this
   lia
 . rw [aap e,a i h e];exact this
end
end L2
namespace L2
open PySem PySem.Spec PyProof.Rows Mth
def eU {N Q:cZ} {sc:Scope} (a:autoParam (sc.kind = .function) za_._auto_1) (b:autoParam (sc.isCoroutine=false) za_._auto_1) (c:autoParam (sc.isGenerator=false) za_._auto_1) (d:autoParam (N.Nodup) zc_._auto_1) (e:autoParam (N.take Q.length=Q) za_._auto_1) (f:autoParam (∀ x∈Q,sc.names.lookup x=some .local\/sc.names.lookup x=some .cell) zc_._auto_1) (g:autoParam (∀ y∈sc.names,y.2 ≠ .free) zc_._auto_1):aC N Q sc:=⟨a,b,c,d,e,f,g⟩
section
variable {X:Cx} {i:Nat} {x:Str} {pos pos':Pos} {e:Expr} {te:TE}
def iD (h:X.N.Nodup) (a:autoParam (X.N[i]?=some x) za_._auto_1) (b:Loc X.env.scope x:=by exact lc rfl) (H:autoParam (X.fn x=true\/X.env.scope.names.lookup x=some .local) zd_._auto_1):PG X (.Name x pos) (uM i):=Cp h a b H
def kY (h:X.N.Nodup:=by dsimp only [cF];decide +kernel) (a:autoParam (X.N[i]?=some x) za_._auto_1) (b:Loc X.env.scope x:=by exact lc rfl) (H:autoParam (X.fn x=true\/X.env.scope.names.lookup x=some .local) zd_._auto_1):PG X (.Name x pos) (uM i):=Cp h a b H
def cH (h:X.N.Nodup) (H:PE X e te) (b:autoParam (X.N[i]?=some x) za_._auto_1) (d:Loc X.env.scope x:=by exact lc rfl) (c:autoParam (swapsWith e (some (.Name x pos')) pos.line X.env=pure false) za_._auto_1) (a:autoParam (X.fn x=true\/X.env.scope.names.lookup x=some .local) zd_._auto_1):PS X (.Assign [.Name x pos'] e pos) (FN te (uM i)):=L4 h b d H c a
end
end L2
namespace K54
open PySem PySem.Spec PyProof.Rows L2 Mth
seal PE PS vH PPs PA PG Nd PT Kh PI
def top (i:Nat):Stmt:=PySem.Challenge.pw_stoke_k54_whole_finer_gauges.main.body.getD i (.Pass ⟨0,0,0,0⟩)
abbrev BR:Stmt:=inClass (top 10) 0
abbrev At:Stmt:=inClass (top 11) 0
abbrev oH:Stmt:=top 13
def Aj:aC ["bits","room"] ["bits","room"] (av oH):=eU
abbrev lR:Stmt:=top 14
def xz:aC ["bits","room"] ["bits","room"] (av lR):=eU
abbrev ou:Stmt:=top 15
def zD:aC ["bits"] ["bits"] (av ou):=eU
abbrev qV:Stmt:=top 16
def AA:aC ["bits"] ["bits"] (av qV):=eU
abbrev rh:Stmt:=top 17
def kH:aC ["bits","parts","room"] ["bits"] (av rh):=eU
abbrev qP:Stmt:=top 18
def kr:aC ["rooms","bits","room"] ["rooms"] (av qP):=eU
abbrev oi:Stmt:=top 20
def fy:aC ["hold","state","bands","burning","waits","failed","heap","many"] ["hold","state"] (av oi):=eU
abbrev mh:Stmt:=top 21
def fG:aC ["hold","state","room","bands","burning","waits","failed","heap"] ["hold","state","room"] (av mh):=eU
abbrev j8:Stmt:=top 22
def jE:aC ["stove","fired","wait","failed","stay","fails"] ["stove","fired","wait","failed"] (av j8):=eU
abbrev iz:Stmt:=top 23
def qR:aC ["hold","state"] ["hold","state"] (av iz):=eU
abbrev kK:Stmt:=top 24
def vh:aC ["hold"] ["hold"] (av kK):=eU
abbrev qT:Stmt:=top 25
def AB:aC ["hold","bits"] ["hold","bits"] (av qT):=eU
abbrev lQ:Stmt:=top 26
def yb:aC ["state"] ["state"] (av lQ):=eU
abbrev om:Stmt:=top 27
def zk:aC ["hold","order","heap"] ["hold","order","heap"] (av om):=eU
abbrev lB:Stmt:=top 28
def kA:aC ["hold","state","held","going_on"] ["hold","state"] (av lB):=eU
abbrev qY:Stmt:=top 29
def uS:aC ["hold","state","order","lit"] ["hold","state","order"] (av qY):=eU
abbrev ij:Stmt:=top 30
def eh:aC ["hold","state","order","out","burning","waits","failed","heap"] ["hold","state","order","out"] (av ij):=eU
abbrev jC:Stmt:=top 31
def tT:aC ["hold","state","burning","room"] ["hold","state","burning","room"] (av jC):=eU
abbrev ir:Stmt:=top 32
def qW:aC ["state","burning","out","room"] ["state","burning","out","room"] (av ir):=eU
abbrev qx:Stmt:=top 36
def gW:aC ["one","other","greater","lesser","rest"] ["one","other"] (av qx):=eU
abbrev ox:Stmt:=top 37
def mC:aC ["top","bottom","common"] ["top","bottom"] (av ox):=eU
abbrev Bf:Stmt:=top 38
def Jp:aC ["one","other"] ["one","other"] (av Bf):=eU
abbrev wB:Stmt:=top 39
def EL:aC ["one","other"] ["one","other"] (av wB):=eU
abbrev wN:Stmt:=top 40
def zS:aC ["one","other"] ["one","other"] (av wN):=eU
abbrev ga:Stmt:=top 42
def ca:aC ["pairs","top","bottom","one","other","below"] ["pairs"] (av ga):=eU
abbrev l5:Stmt:=top 43
def oS:aC ["hold","room","airs","weather","fired","pairs"] ["hold","room","airs","weather","fired"] (av l5):=eU
abbrev qy:Stmt:=top 44
def i5:aC ["hold","room","bands","fired","low","high","lows","highs"] ["hold","room","bands","fired"] (av qy):=eU
abbrev qD:Stmt:=top 45
def tP:aC ["hold","room","least","greatest","marks"] ["hold","room","least","greatest"] (av qD):=eU
abbrev tL:Stmt:=top 46
def wj:aC ["hold","room","least","greatest","marks"] ["hold","room","least","greatest"] (av tL):=eU
abbrev jD:Stmt:=top 48
def d6:aC ["rows","choices","row","longer","choice"] ["rows"] (av jD):=eU
abbrev gS:Stmt:=inClass (top 49) 0
def o8:aC ["self","hold"] ["self","hold"] (av gS):=eU
abbrev eV:Stmt:=inClass (top 49) 1
def cb:aC ["self","state","order","states","out","burning","rows","stoves"] ["self","state","order"] (av eV):=eU
abbrev jf:Stmt:=inClass (top 49) 2
def eR:aC ["self","room","bands","fired","key","least","greatest","safe"] ["self","room","bands","fired"] (av jf):=eU
abbrev kQ:Stmt:=top 51
def rX:aC ["hold","states","limit","game"] ["hold","states","limit"] (av kQ):=eU
abbrev iw:Stmt:=inClass (top 52) 0
def gT:aC ["self","hold","states","limit","state"] ["self","hold","states","limit"] (av iw):=eU
abbrev kR:Stmt:=inClass (top 52) 1
def hC:aC ["self","hold","reach","state","orders"] ["self","hold"] (av kR):=eU
abbrev iy:Stmt:=inClass (top 52) 2
def qE:aC ["self","states"] ["self","states"] (av iy):=eU
abbrev lh:Stmt:=inClass (top 52) 3
def wI:aC ["self","state"] ["self","state"] (av lh):=eU
abbrev iq:Stmt:=top 53
def cG:aC ["rows","ahead","place","choices","number","row","behind"] ["rows"] (av iq):=eU
abbrev gP:Stmt:=inClass (top 54) 0
def dE:aC ["self","game","place","choices","number","row"] ["self","game"] (av gP):=eU
abbrev ix:Stmt:=inClass (top 54) 1
def cY:aC ["self","ahead","done","here","place","number"] ["self","ahead"] (av ix):=eU
abbrev ma:Stmt:=inClass (top 54) 2
def wS:aC ["self","place","number","lasting"] ["self","place","number","lasting"] (av ma):=eU
abbrev il:Stmt:=top 66
def rf:aC ["thing","greatest"] ["thing","greatest"] (av il):=eU
abbrev my:Stmt:=top 67
def wH:aC ["marks"] ["marks"] (av my):=eU
abbrev gO:Stmt:=top 68
def eY:aC ["rows","product","marks"] ["rows"] (av gO):=eU
abbrev fP:Stmt:=inClass (top 69) 0
def qe:aC ["self","most","cap","load"] ["self","most","cap","load"] (av fP):=eU
abbrev ip:Stmt:=inClass (top 69) 1
def jX:aC ["self","marks","rows"] ["self","marks"] (av ip):=eU
abbrev ik:Stmt:=inClass (top 69) 2
def pY:aC ["self","into","of","share"] ["self","into","of","share"] (av ik):=eU
abbrev iX:Stmt:=inClass (top 69) 3
def sF:aC ["self","room","share","low","high"] ["self","room","share","low","high"] (av iX):=eU
abbrev fF:Stmt:=inClass (top 69) 4
def pi:aC ["self","room","heat","wood","stay","fails"] ["self","room","heat","wood","stay","fails"] (av fF):=eU
abbrev mq:Stmt:=inClass (top 69) 5
def xU:aC ["self"] ["self"] (av mq):=eU
abbrev kJ:Stmt:=inClass (top 69) 6
def vf:aC ["self","room"] ["self","room"] (av kJ):=eU
abbrev kU:Stmt:=inClass (top 69) 7
def vg:aC ["self","into","of"] ["self","into","of"] (av kU):=eU
abbrev oC:Stmt:=inClass (top 69) 8
def zi:aC ["self","room"] ["self","room"] (av oC):=eU
abbrev kS:Stmt:=inClass (top 69) 9
def vk:aC ["self","room"] ["self","room"] (av kS):=eU
abbrev gX:Stmt:=inClass (top 69) 10
def eZ:aC ["self","room","rest","other"] ["self","room"] (av gX):=eU
abbrev im:Stmt:=inClass (top 69) 11
def qI:aC ["self","room"] ["self","room"] (av im):=eU
abbrev fw:Stmt:=inClass (top 69) 12
def gH:aC ["self","room","share","former","free"] ["self","room","share","former"] (av fw):=eU
abbrev ju:Stmt:=top 71
def ud:aC ["_law_script","_law_k"] ["_law_script","_law_k"] (av ju):=eU
abbrev kP:Stmt:=top 72
def fL:aC ["_law_cell","_law_many","_law_found","_law_number","_law_k"] ["_law_cell","_law_many"] (av kP):=eU
abbrev jx:Stmt:=top 73
def gB:aC ["_law_one","_law_other","_law_rest"] ["_law_one","_law_other"] (av jx):=eU
abbrev oG:Stmt:=top 74
def rC:aC ["_law_top","_law_bottom","_law_by"] ["_law_top","_law_bottom"] (av oG):=eU
abbrev mj:Stmt:=top 75
def ky:aC ["_law_cell","_law_xs","_law_most"] ["_law_cell"] (av mj):=eU
abbrev j7:Stmt:=top 76
def vE:aC ["_law_steps","_law_scale_here"] ["_law_steps","_law_scale_here"] (av j7):=eU
abbrev lN:Stmt:=top 77
def kI:aC ["_law_xs","_law_bands","_law_ends","_law_marks_here","_law_k"] ["_law_xs","_law_bands","_law_ends"] (av lN):=eU
abbrev p7:Stmt:=top 78
def gL:aC ["_law_xs","_law_marks_here","_law_fired","_law_share","_law_low","_law_high"] ["_law_xs","_law_marks_here","_law_fired"] (av p7):=eU
abbrev lX:Stmt:=top 79
def gv:aC ["_law_xs","_law_kind","_law_load","_law_two","_law_first"] ["_law_xs"] (av lX):=eU
abbrev oE:Stmt:=top 80
def fA:aC ["_law_xs","_law_marks_here","_law_sky_here","_law_stove","_law_scale_here","_law_flows","_law_told","_law_heat","_law_wood","_law_fails","_law_weather"] ["_law_xs","_law_marks_here","_law_sky_here","_law_stove","_law_scale_here","_law_flows"] (av oE):=eU
abbrev l8:Stmt:=top 81
def bI:aC ["_law_script","_law_at","_law_scale_here","_law_xs","_law_bands","_law_fired","_law_most","_law_bounds","_law_rooms","_law_ends","_law_k","_law_ys","_law_marks_here","_law_sky_here","_law_stove","_law_share","_law_flows"] ["_law_script","_law_at","_law_scale_here"] (av l8):=eU
abbrev nY:Stmt:=top 82
def fV:aC ["_law_plain_here","_law_hold_here","_law_room_here","_law_k","_law_of"] ["_law_plain_here"] (av nY):=eU
abbrev iC:Stmt:=top 83
def br:aC ["_law_cell","_law_plain_here","_law_xs","_law_burning","_law_many","_law_waits","_law_failed","_law_k","_law_stove","_law_wait","_law_fails","_law_bands"] ["_law_cell","_law_plain_here"] (av iC):=eU
abbrev jv:Stmt:=top 84
def tH:aC ["_law_rank","_law_former"] ["_law_rank","_law_former"] (av jv):=eU
abbrev jA:Stmt:=top 85
def mm:aC ["_law_one","_law_other","_law_part","_law_top"] ["_law_one","_law_other","_law_part"] (av jA):=eU
abbrev mw:Stmt:=top 86
def iK:aC ["_law_plain_here","_law_room_here","_law_band","_law_part","_law_rooms","_law_here","_law_mark"] ["_law_plain_here","_law_room_here","_law_band","_law_part"] (av mw):=eU
abbrev kE:Stmt:=top 87
def fI:aC ["_law_state","_law_room_here","_law_band","_law_bands","_law_found","_law_step","_law_finer_here"] ["_law_state","_law_room_here","_law_band"] (av kE):=eU
abbrev BN:Stmt:=top 88
def jy:aC ["_law_script","_law_plain_here","_law_xs","_law_room_here","_law_band","_law_state","_law_rank","_law_finer_here","_law_states_here","_law_found"] ["_law_script"] (av BN):=eU
structure YA where
 bD:am
 Reach:am
 cO:am
 c6:am
 kO:am
 wA:am
 iB:am
 gU:am
 nS:am
structure Txt (K:aD) (mg:dW) (A:YA):Prop where
 L1:mg "Hold" = some (.ref A.bD)
 HD:mg "Reach" = some (.ref A.Reach)
 K1:mg "Game" = some (.ref A.cO)
 Jh:mg "Ranks" = some (.ref A.c6)
 iV:mg "NOUGHT" = some (.ref A.kO)
 CT:mg "WHOLE" = some (.ref A.wA)
 u8:∃ t,mg "LEAST_MARKS" = some (.int 2 t)
 wP:∃ t,mg "MOST_BANDS" = some (.int 400 t)
 tG:∃ t,mg "MOST_BURNING" = some (.int 4 t)
 BC:∃ t,mg "MOST_CAP" = some (.int 30 t)
 xB:∃ t,mg "MOST_FAILS" = some (.int 3 t)
 Ag:∃ t,mg "MOST_LOAD" = some (.int 30 t)
 xH:∃ t,mg "MOST_MARKS" = some (.int 7 t)
 xL:∃ t,mg "MOST_ROOMS" = some (.int 4 t)
 zZ:∃ t,mg "MOST_STAY" = some (.int 3 t)
 Al:∃ t,mg "MOST_WOOD" = some (.int 9 t)
 lL:Bq K A.kO [.int 0,.int 1]
 Cc:Bq K A.wA [.int 1,.int 1]
 aJ:yG K A.bD
 HL:El K A.bD
 kG:cQ K A.bD "most"
 lA:cQ K A.bD "cap"
 pM:cQ K A.bD "load"
 dL:cQ K A.bD "mark_rows"
 gZ:cQ K A.bD "flows"
 eS:cQ K A.bD "skies"
 gu:cQ K A.bD "stoves"
 se:f6 K A.bD "__init__" "Hold.__init__" fP (.ref A.iB)
 ss:EX K A.iB [.int 4,.int 0,.int 0]
 rY:f6 K A.bD "put_room" "Hold.put_room" ip .none
 sj:f6 K A.bD "put_flow" "Hold.put_flow" ik .none
 tN:f6 K A.bD "put_sky" "Hold.put_sky" iX .none
 pX:f6 K A.bD "put_stove" "Hold.put_stove" fF (.ref A.gU)
 qi:EX K A.gU [.int 0,.int 0,.int 0]
 zN:f6 K A.bD "many" "Hold.many" mq .none
 wY:f6 K A.bD "marks" "Hold.marks" kJ .none
 wX:f6 K A.bD "share" "Hold.share" kU .none
 Ba:f6 K A.bD "sky" "Hold.sky" oC .none
 xb:f6 K A.bD "stove" "Hold.stove" kS .none
 pZ:f6 K A.bD "own_share" "Hold.own_share" gX .none
 sy:f6 K A.bD "look_for" "Hold.look_for" im .none
 l9:f6 K A.bD "look_at_share" "Hold.look_at_share" fw .none
 dM:yG K A.Reach
 Fm:El K A.Reach
 dP:cQ K A.Reach "hold"
 d8:cQ K A.Reach "spreads"
 qa:f6 K A.Reach "__init__" "Reach.__init__" gS .none
 k9:f6 K A.Reach "states_behind" "Reach.states_behind" eV .none
 tK:f6 K A.Reach "spread" "Reach.spread" jf .none
 ce:yG K A.cO
 I0:El K A.cO
 ft:cQ K A.cO "met"
 lD:cQ K A.cO "orders"
 dH:cQ K A.cO "rows"
 gk:cQ K A.cO "places"
 nv:cQ K A.cO "limit"
 sG:f6 K A.cO "__init__" "Game.__init__" iw .none
 yj:f6 K A.cO "go_on" "Game.go_on" kR .none
 rZ:f6 K A.cO "meet_all" "Game.meet_all" iy .none
 zH:f6 K A.cO "meet" "Game.meet" lh .none
 cy:yG K A.c6
 GK:El K A.c6
 iY:cQ K A.c6 "lasts"
 gA:cQ K A.c6 "going"
 fh:cQ K A.c6 "ranks"
 gc:cQ K A.c6 "queue"
 qN:f6 K A.c6 "__init__" "Ranks.__init__" gP .none
 sB:f6 K A.c6 "go_back" "Ranks.go_back" ix .none
 yM:f6 K A.c6 "end" "Ranks.end" ma .none
 BE:gF K mg "has_room" oH
 zF:gF K mg "with_room" lR
 Bs:gF K mg "how_many" ou
 DB:gF K mg "members" qV
 Dx:gF K mg "subsets" rh
 DT:gF K mg "bits_of" qP
 AE:gF K mg "is_state" oi
 Ac:gF K mg "fits_room" mh
 xj:gF K mg "fits_stove" j8
 sg:gF K mg "look_at_state" iz
 wU:gF K mg "with_stove" kK
 Ef:gF K mg "wood_of" qT
 yV:gF K mg "must_stay" lQ
 Bc:gF K mg "can_burn" om
 yS:gF K mg "orders_of" lB
 De:gF K mg "failing" qY
 sJ:gF K mg "stoves_behind" ij
 vn:gF K mg "wait_behind" jC
 sx:gF K mg "failed_behind" ir
 Dr:gF K mg "divisor" qx
 Av:gF K mg "fraction" ox
 LB:gF K mg "plus" Bf
 Jb:gF K mg "minus" wB
 BW:gF K mg "under" wN
 pD:gF K mg "sum_of_products" ga
 Ak:gF K mg "warmth_of" l5
 Da:gF K mg "span_of" qy
 DX:gF K mg "touched" qD
 EF:gF K mg "within" tL
 vB:gF K mg "each_choice" jD
 AL:Jm K mg "ranks_of" kQ (.ref A.nS)
 BF:EX K A.nS [.int 2000]
 sd:gF K mg "choices_ahead" iq
 su:gF K mg "is_whole_upto" il
 yI:gF K mg "is_rising" my
 qh:gF K mg "bands_together" gO
 vb:gF K mg "_law_cell_at" ju
 xc:gF K mg "_law_stream" kP
 u4:gF K mg "_law_divisor" jx
 Aw:gF K mg "_law_frac" oG
 zO:gF K mg "_law_scale" mj
 xF:gF K mg "_law_warmth" j7
 yP:gF K mg "_law_marks" lN
 Ek:gF K mg "_law_sky" p7
 zj:gF K mg "_law_shape" lX
 AD:gF K mg "_law_room" oE
 zQ:gF K mg "_law_plain" l8
 AX:gF K mg "_law_hold" nY
 sE:gF K mg "_law_any_state" iC
 vx:gF K mg "_law_no_less" jv
 ve:gF K mg "_law_between" jA
 yJ:gF K mg "_law_finer" mw
 wR:gF K mg "_law_states" kE
 Qk:gF K mg "law" BN
 GX:mg "abs" = none
 JP:mg "all" = none
 K9:mg "bool" = none
 KY:mg "dict" = none
 dC:mg "enumerate" = none
 Cw:mg "int" = none
 oW:mg "isinstance" = none
 dU:mg "len" = none
 tF:mg "list" = none
 E6:mg "max" = none
 JV:mg "min" = none
 de:mg "range" = none
 Oe:mg "sum" = none
 kz:mg "tuple" = none
 Kj:mg "zip" = none
abbrev sV (K:aD) (C:am) (x y:Str) (s:Stmt) (v:az):Prop:=∃ f b c d e g h i j n,W.findIn K (.ref C) x=some (some (.ref f))/\W.isFn K (.ref f)=true/\K.lookup f=some ⟨b,c,.func (W.fnOf x y (c9 s) (ci s) (av s) v d e g h i j),n⟩/\W.codeIn K i y=true/\W.keepIn K (.ref f)=true
abbrev gR (K:aD) (x:Str) (s:Stmt) (v:az):Prop:=∃ f b c d e g h i j n,W.nsIn K mainGlobals x=some (some (.ref f))/\K.lookup f=some ⟨b,c,.func (W.fnOf x x (c9 s) (ci s) (av s) v d e g h i j),n⟩/\W.codeIn K i x=true/\W.keepIn K (.ref f)=true
def iS {K:aD} {C:am} {x y:Str} {s:Stmt} {v:az} (q:sV K C x y s v):f6 K C x y s v:=by
 obtain ⟨f,Z,Z,Z,Z,Z,Z,Z,Z,Z,a,b,c,d,e⟩:=q
 exact ⟨f,_,⟨a,b,e⟩,Ch (st:=s) c d e⟩
def XB {K:aD} {h:bG} {m:Str->jF} (X:K.In h) (G:h.Ns mainGlobals m) {x:Str} {s:Stmt} {v:az} (q:gR K x s v):Jm K m x s v:=by
 obtain ⟨f,Z,Z,Z,Z,Z,Z,Z,Z,Z,a,c,d,e⟩:=q
 exact ⟨f,_,acj X G a,Ch (st:=s) c d e⟩
def cM {K:aD} {h:bG} {m:Str->jF} (X:K.In h) (G:h.Ns mainGlobals m) {x:Str} {s:Stmt} (q:gR K x s .none):gF K m x s:=by
 obtain ⟨f,Z,Z,Z,Z,Z,Z,Z,Z,Z,a,c,d,e⟩:=q
 exact ⟨f,_,acj X G a,LK (st:=s) c d e⟩
abbrev kq_ (K:W.Frag) (a:Addr):Prop:=W.keepIn K (.ref a)=true
abbrev kn_ (K:W.Frag) (x:Str) (a:Addr):Prop:=W.nsIn K mainGlobals x=some (some (.ref a))
def txt_mk {K:aD} {h:bG} {mg:dW} (X:K.In h) (G:h.Ns mainGlobals mg)
 {a d b c e f g i j:am}
 {k l m n o p q r s t u v w x y z A B C D E:Tok}
 {F H I J L:Option am}
 {M N O P Q:Nat}
 {R S T U V:Array (jF)}
 {Y Z aa:az}
 (ab:kn_ K "Hold" a)
 (ac:kn_ K "Reach" d)
 (ad:kn_ K "Game" b)
 (ae:kn_ K "Ranks" c)
 (af:kn_ K "NOUGHT" e)
 (ag:kn_ K "WHOLE" f)
 (ah:W.nsIn K mainGlobals "LEAST_MARKS" = some (some (.int 2 k)))
 (ai:W.nsIn K mainGlobals "MOST_BANDS" = some (some (.int 400 l)))
 (aj:W.nsIn K mainGlobals "MOST_BURNING" = some (some (.int 4 m)))
 (ak:W.nsIn K mainGlobals "MOST_CAP" = some (some (.int 30 n)))
 (al:W.nsIn K mainGlobals "MOST_FAILS" = some (some (.int 3 o)))
 (an:W.nsIn K mainGlobals "MOST_LOAD" = some (some (.int 30 p)))
 (ao:W.nsIn K mainGlobals "MOST_MARKS" = some (some (.int 7 q)))
 (ap:W.nsIn K mainGlobals "MOST_ROOMS" = some (some (.int 4 r)))
 (aq:W.nsIn K mainGlobals "MOST_STAY" = some (some (.int 3 s)))
 (ar:W.nsIn K mainGlobals "MOST_WOOD" = some (some (.int 9 t)))
 (au:K.lookup e=some ⟨.type "tuple",F,.seq #[.int 0 u,.int 1 v] M,R⟩)
 (av:K.lookup f=some ⟨.type "tuple",H,.seq #[.int 1 w,.int 1 x] N,S⟩)
 (aw:W.plainGet K a Str.empty=true)
 (ax:W.hasDictIn K a=true)
 (ay:W.plainOver K a=true)
 (aA:W.findIn K (.ref a) "__setattr__" = some (some (.builtin "object.__setattr__")))
 (aB:W.makesIn K a=true)
 (aC:kq_ K a)
 (aE:W.findIn K (.ref a) "most" = some none)
 (aF:W.findIn K (.ref a) "cap" = some none)
 (aG:W.findIn K (.ref a) "load" = some none)
 (aH:W.findIn K (.ref a) "mark_rows" = some none)
 (aI:W.findIn K (.ref a) "flows" = some none)
 (aJ:W.findIn K (.ref a) "skies" = some none)
 (aK:W.findIn K (.ref a) "stoves" = some none)
 (aL:sV K a "__init__" "Hold.__init__" fP (.ref g))
 (aM:K.lookup g=some ⟨Y,I,.seq #[.int 4 y,.int 0 z,.int 0 A] O,T⟩)
 (aN:sV K a "put_room" "Hold.put_room" ip .none)
 (aO:sV K a "put_flow" "Hold.put_flow" ik .none)
 (aP:sV K a "put_sky" "Hold.put_sky" iX .none)
 (aQ:sV K a "put_stove" "Hold.put_stove" fF (.ref i))
 (aR:K.lookup i=some ⟨Z,J,.seq #[.int 0 B,.int 0 C,.int 0 D] P,U⟩)
 (aS:sV K a "many" "Hold.many" mq .none)
 (aT:sV K a "marks" "Hold.marks" kJ .none)
 (aU:sV K a "share" "Hold.share" kU .none)
 (aV:sV K a "sky" "Hold.sky" oC .none)
 (aW:sV K a "stove" "Hold.stove" kS .none)
 (aX:sV K a "own_share" "Hold.own_share" gX .none)
 (aY:sV K a "look_for" "Hold.look_for" im .none)
 (aZ:sV K a "look_at_share" "Hold.look_at_share" fw .none)
 (a0:W.plainGet K d Str.empty=true)
 (a1:W.hasDictIn K d=true)
 (a2:W.plainOver K d=true)
 (a3:W.findIn K (.ref d) "__setattr__" = some (some (.builtin "object.__setattr__")))
 (a4:W.makesIn K d=true)
 (a5:kq_ K d)
 (a6:W.findIn K (.ref d) "hold" = some none)
 (a7:W.findIn K (.ref d) "spreads" = some none)
 (a8:sV K d "__init__" "Reach.__init__" gS .none)
 (a9:sV K d "states_behind" "Reach.states_behind" eV .none)
 (ba:sV K d "spread" "Reach.spread" jf .none)
 (bb:W.plainGet K b Str.empty=true)
 (bc:W.hasDictIn K b=true)
 (bd:W.plainOver K b=true)
 (be:W.findIn K (.ref b) "__setattr__" = some (some (.builtin "object.__setattr__")))
 (bf:W.makesIn K b=true)
 (bg:kq_ K b)
 (bh:W.findIn K (.ref b) "met" = some none)
 (bi:W.findIn K (.ref b) "orders" = some none)
 (bj:W.findIn K (.ref b) "rows" = some none)
 (bk:W.findIn K (.ref b) "places" = some none)
 (bl:W.findIn K (.ref b) "limit" = some none)
 (bm:sV K b "__init__" "Game.__init__" iw .none)
 (bn:sV K b "go_on" "Game.go_on" kR .none)
 (bo:sV K b "meet_all" "Game.meet_all" iy .none)
 (bp:sV K b "meet" "Game.meet" lh .none)
 (bq:W.plainGet K c Str.empty=true)
 (br:W.hasDictIn K c=true)
 (bs:W.plainOver K c=true)
 (bt:W.findIn K (.ref c) "__setattr__" = some (some (.builtin "object.__setattr__")))
 (bu:W.makesIn K c=true)
 (bv:kq_ K c)
 (bw:W.findIn K (.ref c) "lasts" = some none)
 (bx:W.findIn K (.ref c) "going" = some none)
 (bz:W.findIn K (.ref c) "ranks" = some none)
 (bA:W.findIn K (.ref c) "queue" = some none)
 (bB:sV K c "__init__" "Ranks.__init__" gP .none)
 (bC:sV K c "go_back" "Ranks.go_back" ix .none)
 (bD:sV K c "end" "Ranks.end" ma .none)
 (bE:gR K "has_room" oH .none)
 (bF:gR K "with_room" lR .none)
 (bH:gR K "how_many" ou .none)
 (bI:gR K "members" qV .none)
 (bJ:gR K "subsets" rh .none)
 (bK:gR K "bits_of" qP .none)
 (bL:gR K "is_state" oi .none)
 (bM:gR K "fits_room" mh .none)
 (bN:gR K "fits_stove" j8 .none)
 (bO:gR K "look_at_state" iz .none)
 (bP:gR K "with_stove" kK .none)
 (bQ:gR K "wood_of" qT .none)
 (bR:gR K "must_stay" lQ .none)
 (bS:gR K "can_burn" om .none)
 (bT:gR K "orders_of" lB .none)
 (bU:gR K "failing" qY .none)
 (bV:gR K "stoves_behind" ij .none)
 (bW:gR K "wait_behind" jC .none)
 (bX:gR K "failed_behind" ir .none)
 (bY:gR K "divisor" qx .none)
 (bZ:gR K "fraction" ox .none)
 (b0:gR K "plus" Bf .none)
 (b1:gR K "minus" wB .none)
 (b2:gR K "under" wN .none)
 (b3:gR K "sum_of_products" ga .none)
 (b4:gR K "warmth_of" l5 .none)
 (b5:gR K "span_of" qy .none)
 (b6:gR K "touched" qD .none)
 (b7:gR K "within" tL .none)
 (b8:gR K "each_choice" jD .none)
 (b9:gR K "ranks_of" kQ (.ref j))
 (ca:K.lookup j=some ⟨aa,L,.seq #[.int 2000 E] Q,V⟩)
 (cb:gR K "choices_ahead" iq .none)
 (cc:gR K "is_whole_upto" il .none)
 (cd:gR K "is_rising" my .none)
 (ce:gR K "bands_together" gO .none)
 (cf:gR K "_law_cell_at" ju .none)
 (cg:gR K "_law_stream" kP .none)
 (ch:gR K "_law_divisor" jx .none)
 (ci:gR K "_law_frac" oG .none)
 (cj:gR K "_law_scale" mj .none)
 (ck:gR K "_law_warmth" j7 .none)
 (cl:gR K "_law_marks" lN .none)
 (cm:gR K "_law_sky" p7 .none)
 (cn:gR K "_law_shape" lX .none)
 (co:gR K "_law_room" oE .none)
 (cp:gR K "_law_plain" l8 .none)
 (cq:gR K "_law_hold" nY .none)
 (cr:gR K "_law_any_state" iC .none)
 (cs:gR K "_law_no_less" jv .none)
 (ct:gR K "_law_between" jA .none)
 (cu:gR K "_law_finer" mw .none)
 (cv:gR K "_law_states" kE .none)
 (cw:gR K "law" BN .none)
 (cx:W.nsIn K mainGlobals "abs" = some none)
 (cy:W.nsIn K mainGlobals "all" = some none)
 (cz:W.nsIn K mainGlobals "bool" = some none)
 (cA:W.nsIn K mainGlobals "dict" = some none)
 (cB:W.nsIn K mainGlobals "enumerate" = some none)
 (cC:W.nsIn K mainGlobals "int" = some none)
 (cD:W.nsIn K mainGlobals "isinstance" = some none)
 (cE:W.nsIn K mainGlobals "len" = some none)
 (cF:W.nsIn K mainGlobals "list" = some none)
 (cG:W.nsIn K mainGlobals "max" = some none)
 (cH:W.nsIn K mainGlobals "min" = some none)
 (cI:W.nsIn K mainGlobals "range" = some none)
 (cJ:W.nsIn K mainGlobals "sum" = some none)
 (cK:W.nsIn K mainGlobals "tuple" = some none)
 (cL:W.nsIn K mainGlobals "zip" = some none)
 : Txt K mg ⟨a,d,b,c,e,f,g,i,j⟩ :=
⟨acj X G ab,
acj X G ac,
acj X G ad,
acj X G ae,
acj X G af,
acj X G ag,
⟨_,acj X G ah⟩,
⟨_,acj X G ai⟩,
⟨_,acj X G aj⟩,
⟨_,acj X G ak⟩,
⟨_,acj X G al⟩,
⟨_,acj X G an⟩,
⟨_,acj X G ao⟩,
⟨_,acj X G ap⟩,
⟨_,acj X G aq⟩,
⟨_,acj X G ar⟩,
J7 au,
J7 av,
⟨aw,ax,ay,aA⟩,
⟨aB,aC⟩,
aE,
aF,
aG,
aH,
aI,
aJ,
aK,
iS aL,
⟨_,_,_,aM,rfl,(.cons ⟨_,rfl⟩ (.cons ⟨_,rfl⟩ (.cons ⟨_,rfl⟩ .nil)))⟩,
iS aN,
iS aO,
iS aP,
iS aQ,
⟨_,_,_,aR,rfl,(.cons ⟨_,rfl⟩ (.cons ⟨_,rfl⟩ (.cons ⟨_,rfl⟩ .nil)))⟩,
iS aS,
iS aT,
iS aU,
iS aV,
iS aW,
iS aX,
iS aY,
iS aZ,
⟨a0,a1,a2,a3⟩,
⟨a4,a5⟩,
a6,
a7,
iS a8,
iS a9,
iS ba,
⟨bb,bc,bd,be⟩,
⟨bf,bg⟩,
bh,
bi,
bj,
bk,
bl,
iS bm,
iS bn,
iS bo,
iS bp,
⟨bq,br,bs,bt⟩,
⟨bu,bv⟩,
bw,
bx,
bz,
bA,
iS bB,
iS bC,
iS bD,
cM X G bE,
cM X G bF,
cM X G bH,
cM X G bI,
cM X G bJ,
cM X G bK,
cM X G bL,
cM X G bM,
cM X G bN,
cM X G bO,
cM X G bP,
cM X G bQ,
cM X G bR,
cM X G bS,
cM X G bT,
cM X G bU,
cM X G bV,
cM X G bW,
cM X G bX,
cM X G bY,
cM X G bZ,
cM X G b0,
cM X G b1,
cM X G b2,
cM X G b3,
cM X G b4,
cM X G b5,
cM X G b6,
cM X G b7,
cM X G b8,
XB X G b9,
⟨_,_,_,ca,rfl,(.cons ⟨_,rfl⟩ .nil)⟩,
cM X G cb,
cM X G cc,
cM X G cd,
cM X G ce,
cM X G cf,
cM X G cg,
cM X G ch,
cM X G ci,
cM X G cj,
cM X G ck,
cM X G cl,
cM X G cm,
cM X G cn,
cM X G co,
cM X G cp,
cM X G cq,
cM X G cr,
cM X G cs,
cM X G ct,
cM X G cu,
cM X G cv,
cM X G cw,
abm X G cx,
abm X G cy,
abm X G cz,
abm X G cA,
abm X G cB,
abm X G cC,
abm X G cD,
abm X G cE,
abm X G cF,
abm X G cG,
abm X G cH,
abm X G cI,
abm X G cJ,
abm X G cK,
abm X G cL⟩
section
variable {P:bE} {w:bz} {K:aD} {mg:dW} {base:bG} {Ad:YA}
def fT {lo:Int} {n:Nat} {g:TG} {tb:TS} {D:Ends} {U:L2.St} {H:Hp} (p:Nat->L2.St->Hp->Prop) (h0:p 0 U H) (c:let G:Nat->L2.St->Hp->Prop:=λ i U H=>g (.int (lo+i)) U H λ a h=>tb { D with nx:=p (i+1),ct:=p (i+1),bk:=D.nx } a h
   ∀ (i:Nat) (U:L2.St) (H:Hp),i<n->p i U H->G i U H) (b:∀ U H,p n U H->D.nx U H):=vO (lo:=lo) (n:=n) (g:=g) (tb:=tb) (D:=D) (U:=U) (H:=H) p h0 c b
def gY {K:aD} {a:am} {xs:aB} {g:TG} {tb:TS} {D:Ends} {U:L2.St} {H:Hp} (p:Nat->L2.St->Hp->Prop) (h0:p 0 U H) (d:∀ i U H,i<=xs.length->p i U H->aT K H a xs) (e:let G:Nat->V->L2.St->Hp->Prop:=λ i x U H=>g x U H λ b h=>tb { D with nx:=p (i+1),ct:=p (i+1),bk:=D.nx } b h
   ∀ (i:Nat) (x:V) (U:L2.St) (H:Hp),xs[i]?=some x->p i U H->G i x U H) (c:∀ U H,p xs.length U H->D.nx U H):=jN (K:=K) (a:=a) (xs:=xs) (g:=g) (tb:=tb) (D:=D) (U:=U) (H:=H) p h0 d e c
def Az (T:Txt K mg Ad):Def P w K mg base "divisor" 1 ["one","other"] Lj:=by
 refine T.Dr.cN gW λ Z Z Z Z Z H V Q E u h=>?_
 obtain ⟨a,b,rfl,k⟩:=h
 refine ⟨_,(ai (cH (i:=2) gW.nd (aU qU (by rfl) T.GX Bg (aa (pv 0) ag)))
     (ai (cH (i:=3) gW.nd (aU qU (by rfl) T.GX Bg (aa (pv 1) ag)))
     (ai (o9 aaI (aL rS (pv 3) ac (aM _)) (ai (cH (i:=4) gW.nd (ax aN (pv 2) (pv 3)))
     (ai (cH (i:=2) gW.nd (pv 3))
     (ap (cH (i:=3) gW.nd (pv 4))))))
     (ap (aH (pv 2)))))),?_⟩
 try dsimp only [eT,bq]
 try (refine eP ?_;intro Z Z Z Z Z)
 refine ⟨_,rfl,_,rfl,λ G o=>⟨_,rfl,_,rfl,λ t p=>?_⟩⟩
 refine ⟨λ m U d=>d=H/\E3 λ (g l:Int) (r:eG)=>A5 (U=[some (.int a),some (.int b),some (.int g),some (.int l),r]) (0<=g) (0<=l) (m=l.toNat) (Int.gcd g l=Int.gcd a b),
   ⟨_,rfl,G,t,none,rfl,by lia,by lia,rfl,by rw [o,p];rfl⟩,?_⟩
 rintro m U d ⟨rfl,g,l,r,rfl,f,s,rfl,e⟩
 refine ⟨_,rfl,rfl,_,rfl,?_⟩
 refine DF (λ h=>?_) (λ h=>?_)
 .
  have L:0<l:=by rw [eF] at h;lia
  refine ⟨λ c A=>A=d/\c=[some (.int a),some (.int b),some (.int l),some (.int (g % l)),some (.int (g % l))],λ c A ⟨j,n⟩=>?_,?_⟩
  . have M:=adG g (by lia:l≠0)
    have v:=adp g L
    exact ⟨(g % l).toNat,by lia,j,l,g % l,_,n,s,M,rfl,(JC f L).trans e⟩
  . refine ⟨_,rfl,_,rfl,_,_,rfl,rfl,L,λ r Z Z q=>?_⟩
    subst q
    exact ⟨_,rfl,_,rfl,rfl,rfl⟩
 .
  have L:l=0:=eF.mp h
  subst L
  refine ⟨_,rfl,k g ?_⟩
  rw [<- e,Qn f]
def lP (T:Txt K mg Ad):Def P w K mg base "fraction" 2 ["top","bottom"] yL:=by
 refine T.Av.cN mC λ Z Z Z Z Z H V Q E x h=>?_
 obtain ⟨t,b,rfl,j,l,k⟩:=h
 refine ⟨_,(ai (bC (aL cV (pv 1) ac (aM _)) (ap cB) aK)
     (ai (cH (i:=2) mC.nd (ay (Az T) x.m (aa (pv 0) (aa (pv 1) ag))))
     (ai (kc (bC (aL jR (pv 1) ac (aM _)) (ap (cH (i:=2) mC.nd (rN tV (pv 2)))) aK))
     (ap (aH (aZ (aa (ax eO (pv 0) (pv 2)) (aa (ax eO (pv 1) (pv 2)) ag)))))))),?_⟩
 try dsimp only [eT,bq]
 try (refine eP ?_;intro Z Z Z Z Z)
 refine ⟨_,rfl,rfl,_,rfl,?_⟩
 refine pT (λ e=>j (eF.mp e)) ?_
 refine ⟨_,rfl,_,rfl,t,b,rfl,λ c n=>?_⟩
 obtain ⟨y,z,F,fn⟩:=JE j n
 have B:Bd 8999 c:=(l.le (by lia)).mono (by decide)
 refine ⟨λ a d=>d=H/\∃ C,A4 (C≠0) (Bd 8999 C) (Fr t b (t.fdiv C) (b.fdiv C)) (a=[some (.int t),some (.int b),some (.int C)]),?_,?_⟩
 .
  refine ⟨_,rfl,_,_,rfl,rfl,_,rfl,?_⟩
  refine eM (λ h=>?_) (λ h=>?_)
  . exact ⟨_,rfl,_,rfl,rfl,-c,by lia,B.neg,fn h,rfl⟩
  . exact ⟨rfl,c,by lia,B,F (by lia),rfl⟩
 .
  rintro a d ⟨rfl,C,f,g,u,rfl⟩
  refine ⟨_,rfl,_,rfl,_,_,rfl,rfl,⟨f,g⟩,λ q o=>⟨_,rfl,_,rfl,_,_,rfl,rfl,⟨f,g⟩,λ r s=>⟨vF,λ p v=>?_⟩⟩⟩
  subst o s
  exact k _ _ p _ u (ak v) af
def Hn (T:Txt K mg Ad):Def P w K mg base "plus" 3 ["one","other"] (yY (λ a b c d=>a * d+c * b) K):=by
 refine T.LB.cN Jp λ Z Z Z Z Z H V Q E r h=>?_
 obtain ⟨s,v,a,b,c,d,rfl,f,g,i,D,j,B,l,e,k⟩:=h
 refine ⟨_,(ap (aH (ay (lP T) r.m (aa (ax aO (ax bL (au ao (pv 0) ac) (au ao (pv 1) ac)) (ax bL (au ao (pv 1) ac) (au ao (pv 0) ac))) (aa (ax bL (au ao (pv 0) ac) (au ao (pv 1) ac)) ag))))),?_⟩
 try dsimp only [eT,bq]
 refine ⟨_,rfl,_,_,_,_,rfl,rfl,.inr f,rfl,_,rfl,_,_,_,_,rfl,rfl,.inr g,rfl,_,_,rfl,rfl,⟨_,_,j,e,by decide⟩,λ x n=>?_⟩
 refine ⟨_,rfl,_,_,_,_,rfl,rfl,.inr g,rfl,_,rfl,_,_,_,_,rfl,rfl,.inr f,rfl,_,_,rfl,rfl,⟨_,_,l,B,by decide⟩,λ X o=>⟨_,_,rfl,rfl,λ t p=>?_⟩⟩
 refine ⟨_,rfl,_,_,_,_,rfl,rfl,.inr f,rfl,_,rfl,_,_,_,_,rfl,rfl,.inr g,rfl,_,_,rfl,rfl,⟨_,_,B,e,by decide⟩,λ u q=>?_⟩
 subst n o p q
 exact ⟨_,_,rfl,ab0 (aaK i D),(B.mul e).mono (by decide),k⟩
def yX (T:Txt K mg Ad):Def P w K mg base "minus" 3 ["one","other"] (yY (λ a b c d=>a * d - c * b) K):=by
 refine T.Jb.cN EL λ Z Z Z Z Z H V Q E r h=>?_
 obtain ⟨s,v,a,b,c,d,rfl,f,g,i,D,j,B,l,e,k⟩:=h
 refine ⟨_,(ap (aH (ay (lP T) r.m (aa (ax cS (ax bL (au ao (pv 0) ac) (au ao (pv 1) ac)) (ax bL (au ao (pv 1) ac) (au ao (pv 0) ac))) (aa (ax bL (au ao (pv 0) ac) (au ao (pv 1) ac)) ag))))),?_⟩
 try dsimp only [eT,bq]
 refine ⟨_,rfl,_,_,_,_,rfl,rfl,.inr f,rfl,_,rfl,_,_,_,_,rfl,rfl,.inr g,rfl,_,_,rfl,rfl,⟨_,_,j,e,by decide⟩,λ x n=>?_⟩
 refine ⟨_,rfl,_,_,_,_,rfl,rfl,.inr g,rfl,_,rfl,_,_,_,_,rfl,rfl,.inr f,rfl,_,_,rfl,rfl,⟨_,_,l,B,by decide⟩,λ X o=>⟨_,_,rfl,rfl,λ t p=>?_⟩⟩
 refine ⟨_,rfl,_,_,_,_,rfl,rfl,.inr f,rfl,_,rfl,_,_,_,_,rfl,rfl,.inr g,rfl,_,_,rfl,rfl,⟨_,_,B,e,by decide⟩,λ u q=>?_⟩
 subst n o p q
 exact ⟨_,_,rfl,ab0 (aaK i D),(B.mul e).mono (by decide),k⟩
def lK (T:Txt K mg Ad):Def P w K mg base "under" 1 ["one","other"] (Gd K):=by
 refine T.BW.cN zS λ Z Z Z Z Z H v Q E n h=>?_
 obtain ⟨p,o,a,b,c,d,rfl,e,f,B,g,i,j,k⟩:=h
 refine ⟨_,(ap (aH (dh jR (ax bL (au ao (pv 0) ac) (au ao (pv 1) ac)) (ax bL (au ao (pv 1) ac) (au ao (pv 0) ac)) (aM _)))),?_⟩
 try dsimp only [eT,bq]
 refine ⟨_,rfl,_,_,_,_,rfl,rfl,.inr e,rfl,_,rfl,_,_,_,_,rfl,rfl,.inr f,rfl,_,_,rfl,rfl,⟨_,_,B,j,by decide⟩,λ x l=>?_⟩
 refine ⟨_,rfl,_,_,_,_,rfl,rfl,.inr f,rfl,_,rfl,_,_,_,_,rfl,rfl,.inr e,rfl,_,_,rfl,rfl,⟨_,_,i,g,by decide⟩,λ X m=>⟨_,_,rfl,rfl,?_⟩⟩
 subst l m
 exact k
def cX (T:Txt K mg Ad):Def P w K mg base "is_whole_upto" 1 ["thing","greatest"] HN:=by
 refine T.su.cN rf λ Z Z Z Z Z H c Q E b h=>?_
 obtain ⟨n,g,rfl,k⟩:=h
 refine ⟨_,(ai (bC (PW.pt (rD (cP (aU rK (by rfl) T.oW nE (aa (pv 0) (aa (CC (v:=V.ty "bool") rfl T.K9 Hr rfl) ag)))) (oA (eK (cP (aU rK (by rfl) T.oW nE (aa (pv 0) (aa (CC (v:=V.ty "int") rfl T.Cw yd rfl) ag)))))))) (ap (aH fX)) aK)
     (ap (aH (GV jq jq ac (pv 0) (pv 1))))),?_⟩
 try dsimp only [eT,bq]
 refine ⟨_,rfl,_,_,_,_,_,rfl,.int n,rfl,yg K,_,rfl,fe ⟨_,rfl,_,_,_,_,_,rfl,.int n,rfl,rfl,_,rfl,fe ?_⟩⟩
 refine ⟨_,rfl,_,_,rfl,rfl,_,rfl,?_⟩
 by_cases a:(0:Int)<=n
 .
  refine sK a ⟨_,rfl,_,_,rfl,rfl,?_⟩
  have:decide (n<=g)=decide (0<=n/\n<=g):=ab8.mpr ⟨λ h=>⟨a,h⟩,λ h=>h.2⟩
  show Q (V.bl (decide (n<=g))) H
  rw [this]
  exact k
 .
  refine pT a ?_
  have:decide (0<=n/\n<=g)=false:=aaq λ h=>a h.1
  rw [this] at k
  exact k
def cI (T:Txt K mg Ad):gM P w K mg base Ad.bD "many" 1 ["self"] [] (Ij K Ad.bD):=by
 refine T.zN.fK xU λ Z Z Z Z Z H v Q E p h=>?_
 obtain ⟨a,o,m,rfl,f,k⟩:=h
 refine ⟨_,(ap (aH (aU bB (by rfl) T.dU cA (aa (bj (pv 0) rfl) ag)))),?_⟩
 try dsimp only [eT,bq]
 obtain ⟨⟨D,u,t,x,y,V,v,L,A,rfl,c,J,i,M,I,q,N,r,s,d,j,l,g,F⟩,z,B,C,G⟩:=f
 refine ⟨_,rfl,a,_,D,_,_,rfl,c,T.aJ,T.dL,tp ..,_,_,rfl,.inl (aT.of i),λ n b=>?_⟩
 have e:n=(m.rows.length:Int):=by rw [b,d.length,M1]
 rw [e]
 exact k
def bW (T:Txt K mg Ad):gM P w K mg base Ad.bD "look_for" 3 ["self","room"] [] (zC K Ad.bD):=by
 refine T.sy.fK qI λ Z Z Z Z Z H v Q E e h=>?_
 obtain ⟨a,f,m,i,rfl,b,g,k⟩:=h
 refine ⟨_,(ap (bC (eK (jQ jq jR ac (pv 1) (fD (pv 0) T.aJ (cI T) .nil e.m))) (ap cB) aK)),?_⟩
 try dsimp only [eT,bq]
 obtain ⟨⟨d,j,p,l,n,V,v,o,A,r,c,Z⟩,Z⟩:=id b
 refine ⟨_,rfl,_,_,rfl,rfl,_,rfl,sK (by lia) ⟨_,rfl,a,d,_,rfl,c,rfl,a,f,m,rfl,b,_,_,rfl,rfl,_,rfl,?_⟩⟩
 exact fO (by lia) k
def pG (T:Txt K mg Ad):gM P w K mg base Ad.bD "sky" 4 ["self","room"] [] (MG K Ad.bD):=by
 refine T.Ba.fK zi λ Z Z Z Z Z H V Q E n h=>?_
 obtain ⟨a,F,m,i,z,rfl,c,e,k⟩:=h
 refine ⟨_,(ai (bA (aV (pv 0) T.aJ (bW T) .nil n.m (aa (pv 1) ag)))
     (ap (aH (au ao (bj (pv 0) rfl) (pv 1))))),?_⟩
 try dsimp only [eT,bq]
 obtain ⟨⟨D,C,B,G,L,W,V,X,A,U,b,J,u,M,I,t,N,x,y,p,f,r,o,s⟩,q,O,R,S⟩:=id c
 have l:i<m.rows.length:=by rw [<- q];exact (Bj.mp e).1
 obtain ⟨v,j,g⟩:=f.get (i:=i) (d:=o5 z) (by rw [Sb,e];rfl)
 refine ⟨_,rfl,a,D,_,rfl,b,rfl,_,rfl,a,F,m,i,rfl,c,l,?_⟩
 exact ⟨_,rfl,a,_,D,_,_,rfl,b,T.aJ,T.eS,j3 ..,_,rfl,_,_,_,_,rfl,rfl,.inl (aT.of I),dO j,k v g⟩
def dZ (T:Txt K mg Ad):gM P w K mg base Ad.bD "stove" 4 ["self","room"] [] (FM K Ad.bD):=by
 refine T.xb.fK vk λ Z Z Z Z Z H V Q E n h=>?_
 obtain ⟨a,F,m,i,z,rfl,c,e,k⟩:=h
 refine ⟨_,(ai (bA (aV (pv 0) T.aJ (bW T) .nil n.m (aa (pv 1) ag)))
     (ap (aH (au ao (bj (pv 0) rfl) (pv 1))))),?_⟩
 try dsimp only [eT,bq]
 obtain ⟨⟨D,C,B,G,L,W,V,X,A,U,b,J,u,M,t,I,N,x,y,p,r,f,o,s⟩,O,q,R,S⟩:=id c
 have l:i<m.rows.length:=by rw [<- q];exact (Bj.mp e).1
 obtain ⟨v,j,g⟩:=f.get (i:=i) (d:=fu z) (by rw [Sb,e];rfl)
 refine ⟨_,rfl,a,D,_,rfl,b,rfl,_,rfl,a,F,m,i,rfl,c,l,?_⟩
 exact ⟨_,rfl,a,_,D,_,_,rfl,b,T.aJ,T.gu,oh ..,_,rfl,_,_,_,_,rfl,rfl,.inl (aT.of I),dO j,k v g⟩
def fo (T:Txt K mg Ad):gM P w K mg base Ad.bD "marks" 4 ["self","room"] [] (FZ K Ad.bD):=by
 refine T.wY.fK vf λ Z Z Z Z Z H V Q E s h=>?_
 obtain ⟨a,F,m,i,r,rfl,e,f,k⟩:=h
 refine ⟨_,(ai (bA (aV (pv 0) T.aJ (bW T) .nil s.m (aa (pv 1) ag)))
     (ap (aH (cD gi (by rfl) T.tF oY (aa (au ao (bj (pv 0) rfl) (pv 1)) ag))))),?_⟩
 try dsimp only [eT,bq]
 obtain ⟨⟨D,R,O,S,U,vm,V,vt,A,rq,c,J,I,M,B,C,N,G,L,g,u,y,t,z⟩,W,X,Y,q4⟩:=id e
 have n:i<m.rows.length:=(Bj.mp f).1
 obtain ⟨v,l,b,x,rfl,q,j⟩:=g.get (i:=i) (d:=vC r) (by rw [Sb,f];rfl)
 refine ⟨_,rfl,a,D,_,rfl,c,rfl,_,rfl,a,F,m,i,rfl,e,n,?_⟩
 exact ⟨_,rfl,a,_,D,_,_,rfl,c,T.aJ,T.dL,tp ..,_,rfl,_,_,_,_,rfl,rfl,.inl (aT.of I),dO l,b,x,rfl,.inr q,λ p o=>k p x o j⟩
def ja (T:Txt K mg Ad):gM P w K mg base Ad.bD "own_share" 4 ["self","room"] [] (LJ K Ad.bD):=by
 refine T.pZ.fK eZ λ Z Z Z Z Z H vs Q E g h=>?_
 obtain ⟨a,fp,m,i,rfl,C,hi,k⟩:=h
 refine ⟨_,(ai (cH (i:=2) eZ.nd (ay (yX T) g.m (aa (g8 (v:=V.ref _) rfl T.CT rfl) (aa (au ao (au ao (bj (pv 0) rfl) (pv 1)) ac) ag))))
     (ai (cR aaI rfl (ck rfl T.de (aa (fD (pv 0) T.aJ (cI T) .nil g.m) ag)) (iD (i:=3) eZ.nd) (ap (cH (i:=2) eZ.nd (ay (yX T) g.m (aa (pv 2) (aa (zR (Cs g) (bj (pv 0) rfl) (aZ (aa (pv 1) (aa (pv 3) ag))) (g8 (v:=V.ref _) rfl T.iV rfl) ⟨rfl,rfl,rfl,rfl⟩) ag))))))
     (ap (aH (pv 2))))),?_⟩
 try dsimp only [eT,bq]
 try (refine d9 ?_;intro Z Z Z Z)
 obtain ⟨⟨y,pm,pf,ps,pt,vm,vs,vt,aE,rq,A,j5,ig,Y,iE,iR,n1,n2,n3,dm,ds,dt,df,fk⟩,q1,q2,q3,L⟩:=id C
 have TN:i<m.bS.length:=by rw [q1];exact hi
 have X:=aI TN
 obtain ⟨v,ev,dv⟩:=ds.get (i:=i) (d:=o5 m.bS[i]) (by rw [Sb,X];rfl)
 obtain ⟨p0,v1,v2,v3,rfl,vw,d1,d2,d3⟩:=dv.pI
 obtain ⟨p1,rfl,ym⟩:=d1.fr
 have W:m.bS[i].1=m.gE i:=by unfold ar.gE;rw [X];rfl
 have O:eB 100 m.bS[i].1:=W ▸ L.gE i
 refine ⟨_,rfl,a,_,y,_,_,rfl,A,T.aJ,T.eS,j3 ..,_,rfl,_,_,_,_,rfl,rfl,.inl (aT.of iE),dO ev,_,_,_,_,rfl,rfl,.inr vw,rfl,?_⟩
 refine ⟨Ad.wA,p1,1,1,_,_,rfl,T.Cc.at H,ym,by decide,O.p,pQ,pQ,O.t.mono (by decide),O.b.mono (by decide),λ q r u H1 F M c=>?_⟩
 have e0:(q,r)=m.gz i 0:=by
   have:=F.nf (aaK (by decide) O.p)
   rw [this]
   unfold ar.gz nP
   rw [<- W];rfl
 refine ⟨_,rfl,a,y,_,rfl,M _ _ A,rfl,a,fp,m,rfl,bv.same M C,_,rfl,by lia,by lia,?_⟩
 refine fT (lo:=0) (n:=m.rows.length) (λ j U N=>aG H N/\E2 λ (u:am) (x:eG)=>N u=some (.tup [.int (m.gz i j).1,.int (m.gz i j).2])/\U=[some (.ref a),some (aq i),some (.ref u),x])
   ⟨M,u,none,by rw [<- e0];exact c,rfl⟩ ?_ ?_
 .
  rintro Z j U e hj ⟨s,u,x,c,rfl⟩
  have l:=(L.gz i j).mono (show 201+101 * j<=1000 by lia)
  obtain ⟨of,ot⟩:True/\True:=⟨trivial,trivial⟩
  refine ⟨_,rfl,_,rfl,a,_,y,_,_,rfl,s _ _ A,T.aJ,T.gZ,qG ..,_,rfl,.inr ⟨_,.inl (s _ _ Y)⟩,_,rfl,_,rfl,vF,λ I Io=>?_⟩
  have S:=ak (o:=.tup [aq i,.int (0+(j:Int))]) Io
  have Au:(upd e I (.tup [aq i,.int (0+(j:Int))])) I=some (.tup ((jj i j).map kV)):=by rw [af,aa0];rfl
  refine ⟨_,C3.t (S _ _ (s _ _ Y)) Au,?_⟩
  have D:Dn K (upd e I (.tup [aq i,.int (0+(j:Int))])) (dJ (m.j0 i j)) ((gG aE (jj i j)).getD (.ref Ad.kO)):=by
    have:=(bv.same (s.trans S) C).ex
    have q:=df i j
    refine Dn.same (s.trans S) _ (CQ q (T.lL.fr (f:=(0,1))))
  obtain ⟨J,z,B⟩:=D.fr
  have R:=L.j0 i j
  rw [z]
  refine ⟨u,J,_,_,_,_,rfl,bY.of (S _ _ c),B,l.p,R.p,l.t,l.b,R.t.mono (by decide),R.b.mono (by decide),λ q r u' H4 F s4 G=>?_⟩
  refine ⟨s.trans (S.trans s4),u',_,?_,rfl⟩
  have:=F.nf (aaK l.p R.p)
  rw [G,ar.nM]
  unfold nP
  rw [<- this]
 . rintro U e ⟨s,u,x,c,rfl⟩
   exact ⟨_,rfl,k _ e s (jS (bY.of c))⟩
def lO (T:Txt K mg Ad):gM P w K mg base Ad.bD "share" 5 ["self","into","of"] [] (Gx K Ad.bD):=by
 refine T.wX.fK vg λ Z Z Z Z Z H u Q E g h=>?_
 obtain ⟨a,F,m,i,j,rfl,c,l,r,k⟩:=h
 refine ⟨_,(ai (bA (aV (pv 0) T.aJ (bW T) .nil g.m (aa (pv 1) ag)))
     (ai (bA (aV (pv 0) T.aJ (bW T) .nil g.m (aa (pv 2) ag)))
     (ai (bC (aL cV (pv 1) (pv 2) (aM _)) (ap (aH (aV (pv 0) T.aJ (ja T) .nil g.m (aa (pv 1) ag)))) aK)
     (ap (aH (zR (Cs g) (bj (pv 0) rfl) (aZ (aa (pv 1) (aa (pv 2) ag))) (g8 (v:=V.ref _) rfl T.iV rfl) ⟨rfl,rfl,rfl,rfl⟩)))))),?_⟩
 try dsimp only [eT,bq]
 try (refine eP ?_;intro Z Z Z Z Z)
 obtain ⟨⟨d,Y,X,ps,pt,vm,u,vt,x,rq,b,O,N,M,G,L,R,U,W,y,z,B,D,C⟩,q1,q2,q3,q4⟩:=id c
 refine ⟨_,rfl,a,d,_,rfl,b,rfl,_,rfl,a,F,m,i,rfl,c,l,⟨_,rfl,a,d,_,rfl,b,rfl,_,rfl,a,F,m,j,rfl,c,r,?_⟩⟩
 refine ⟨_,rfl,_,rfl,rfl,_,rfl,?_⟩
 by_cases J:i=j
 . subst J
   refine sK rfl ⟨_,rfl,a,d,_,rfl,b,rfl,_,rfl,a,F,m,i,rfl,c,l,λ v p S q=>k v p S ?_⟩
   rw [ar.share,aan rfl];exact q
 .
  refine pT (λ e=>J (by have:=eF.mp e;lia)) ?_
  refine ⟨_,rfl,a,_,d,_,_,rfl,b,T.aJ,T.gZ,qG ..,_,rfl,.inr ⟨_,.inl M⟩,_,rfl,_,rfl,vF,λ n I=>?_⟩
  have s:=ak (o:=.tup [aq i,aq j]) I
  have A:(upd H n (.tup [aq i,aq j])) n=some (.tup ((jj i j).map kV)):=by rw [af];rfl
  refine ⟨_,C3.t (s _ _ M) A,k _ _ s ?_⟩
  rw [ar.share,aap J]
  exact Dn.same s _ (CQ (D i j) (T.lL.fr (f:=(0,1))))
def gr (T:Txt K mg Ad):gM P w K mg base Ad.bD "look_at_share" 5 ["self","room","share","former"] [] (HY K Ad.bD):=by
 refine T.l9.fK gH λ Z Z Z Z Z H U Q E c h=>?_
 obtain ⟨a,G,m,i,v1,v2,f,g,rfl,j,J,y,z,d,o,hf,l,k⟩:=h
 refine ⟨_,(ai (cH (i:=4) gH.nd (ay (Hn T) c.m (aa (aV (pv 0) T.aJ (ja T) .nil c.m (aa (pv 1) ag)) (aa (pv 3) ag))))
     (ap (bC (PW.pt (rD (cP (ay (lK T) c.m (aa (pv 2) (aa (g8 (v:=V.ref _) rfl T.iV rfl) ag)))) (oA (cP (ay (lK T) c.m (aa (pv 4) (aa (pv 2) ag))))))) (ap cB) aK))),?_⟩
 try dsimp only [eT,bq]
 obtain ⟨⟨B,pm,pf,ps,pt,vm,U,vt,aE,rq,I,j5,ig,mW,iE,iR,n1,n2,n3,dm,ds,dt,df,fk⟩,q1,q2,q3,N⟩:=id j
 obtain ⟨n,rfl,D⟩:=y.fr
 obtain ⟨L,rfl,X⟩:=z.fr
 refine ⟨_,rfl,a,B,_,rfl,I,rfl,_,rfl,a,G,m,i,rfl,j,J,λ v W s A=>⟨_,rfl,?_⟩⟩
 obtain ⟨M,rfl,R⟩:=A.fr
 have O:eB 800 (m.own i):=(N.gz i _).mono (by lia)
 refine ⟨M,L,_,_,_,_,rfl,R,s.tup X,O.p,o.p,O.t.mono (by decide),O.b.mono (by decide),o.t.mono (by decide),o.b.mono (by decide),λ q r u Y F S x=>?_⟩
 have C:(q,r)=mD (m.own i) g:=F.nf (aaK O.p o.p)
 have e:eB 950 (mD (m.own i) g):=(O.plus o).mono (by decide)
 rw [<- C] at e l
 refine ⟨_,rfl,n,Ad.kO,_,_,_,_,rfl,S.tup (s.tup D),T.lL.at _,d.t.mono (by decide),d.b.mono (by decide),pQ,pQ,_,rfl,pT (by lia) ?_⟩
 refine ⟨_,rfl,_,rfl,u,n,_,_,_,_,rfl,bY.of x,S.tup (s.tup D),e.t.mono (by decide),e.b.mono (by decide),d.t.mono (by decide),d.b.mono (by decide),_,rfl,pT (ack l) (k _ (s.trans S))⟩
def oR (T:Txt K mg Ad):gM P w K mg base Ad.bD "put_flow" 6 ["self","into","of","share"] [] (zg K Ad.bD):=by
 refine T.sj.fK pY λ Z Z Z Z Z H V Q E g h=>?_
 obtain ⟨a,F,m,i,j,v,f,rfl,c,l,p,J,D,O,y,B,k⟩:=h
 refine ⟨_,(ai (bA (aV (pv 0) T.aJ (bW T) .nil g.m (aa (pv 1) ag)))
     (ai (bA (aV (pv 0) T.aJ (bW T) .nil g.m (aa (pv 2) ag)))
     (ai (bC (aL cV (pv 1) (pv 2) (aM _)) (ap cB) aK)
     (ai (bA (aV (pv 0) T.aJ (gr T) .nil g.m (aa (pv 1) (aa (pv 3) (aa (aV (pv 0) T.aJ (lO T) .nil g.m (aa (pv 1) (aa (pv 2) ag))) ag)))))
     (ap (Ic (Cs g) (bj (pv 0) rfl) (aZ (aa (pv 1) (aa (pv 2) ag))) (pv 3) rfl)))))),?_⟩
 try dsimp only [eT,bq]
 try (refine pE ?_;intro Z Z Z Z Z Z)
 obtain ⟨⟨d,pm,pf,ps,pt,vm,V,vt,R,rq,b,j5,ig,r,iE,iR,n1,n2,n3,W,X,Y,U,x⟩,q1,q2,q3,C⟩:=id c
 refine ⟨_,rfl,a,d,_,rfl,b,rfl,_,rfl,a,F,m,i,rfl,c,l,⟨_,rfl,a,d,_,rfl,b,rfl,_,rfl,a,F,m,j,rfl,c,p,?_⟩⟩
 refine ⟨_,rfl,_,rfl,rfl,_,rfl,pT (λ e=>J (by have:=eF.mp e;lia)) ?_⟩
 refine ⟨_,rfl,a,d,_,rfl,b,rfl,_,rfl,_,rfl,_,rfl,a,d,_,rfl,b,rfl,_,rfl,_,rfl,a,F,m,i,j,rfl,c,l,p,λ z N s n=>?_⟩
 rw [ar.share,aap J] at n
 refine ⟨a,F,m,i,v,z,f,_,rfl,c.same s,l,Dn.same s _ D,n,O,C.j0 i j,y,B,λ u G=>?_⟩
 have M:=s.trans G
 refine ⟨_,rfl,_,rfl,a,_,d,_,_,rfl,M _ _ b,T.aJ,T.gZ,qG ..,_,rfl,_,rfl,vF,λ q I=>?_⟩
 have L:=ak (o:=.tup [aq i,aq j]) I
 have A:(upd u q (.tup [aq i,aq j])) q=some (.tup ((jj i j).map kV)):=by rw [af];rfl
 have S:=M.trans L
 refine ⟨_,_,rfl,Gn.t (S _ _ r) A (aat x.len (by decide)),k _ F (Dj c S b r (by lia) (by lia) (Dn.same S _ D) O)⟩
def qQ (T:Txt K mg Ad):gM P w K mg base Ad.bD "put_sky" 6 ["self","room","share","low","high"] [] (AH K Ad.bD):=by
 refine T.tN.fK sF λ Z Z Z Z Z H V Q E j h=>?_
 obtain ⟨a,F,m,i,B,v2,v3,f,lo,hi,rfl,e,L,n,p,q,y,O,l,g,R,S,k⟩:=h
 refine ⟨_,(ai (bA (aV (pv 0) T.aJ (bW T) .nil j.m (aa (pv 1) ag)))
     (ai (bC (cP (ay (lK T) j.m (aa (pv 4) (aa (pv 3) ag)))) (ap cB) aK)
     (ai (bA (aV (pv 0) T.aJ (gr T) .nil j.m (aa (pv 1) (aa (pv 2) (aa (au ao (au ao (bj (pv 0) rfl) (pv 1)) ac) ag)))))
     (ap (ii (aZ (aa (pv 2) (aa (pv 3) (aa (pv 4) ag)))) (qC (bj (pv 0) rfl) (pv 1) set_list)))))),?_⟩
 try dsimp only [eT,bq]
 try (refine eP ?_;intro Z Z Z Z Z)
 obtain ⟨⟨D,pm,pf,U,pt,vm,V,vt,aE,rq,c,j5,ig,mW,I,iR,n1,n2,n3,dm,r,dt,df,fk⟩,W,q2,q3,X⟩:=id e
 obtain ⟨z,rfl,xv⟩:=p.fr
 obtain ⟨A,rfl,vj⟩:=q.fr
 have G:i<m.bS.length:=by rw [W];exact L
 have x:=aI G
 obtain ⟨v,N,J⟩:=r.get (i:=i) (d:=o5 m.bS[i]) (by rw [Sb,x];rfl)
 obtain ⟨p0,w1,w2,w3,rfl,vw,u,e2,e3⟩:=J.pI
 have M:m.bS[i].1=m.gE i:=by unfold ar.gE;rw [x];rfl
 rw [M] at u
 refine ⟨_,rfl,a,D,_,rfl,c,rfl,_,rfl,a,F,m,i,rfl,e,L,?_⟩
 refine ⟨_,rfl,_,rfl,A,z,_,_,_,_,rfl,vj,xv,l.t.mono (by decide),l.b.mono (by decide),O.t.mono (by decide),O.b.mono (by decide),_,rfl,pT (ack g) ?_⟩
 refine ⟨_,rfl,a,D,_,rfl,c,rfl,_,rfl,_,rfl,_,rfl,a,_,D,_,_,rfl,c,T.aJ,T.eS,j3 ..,_,rfl,_,_,_,_,rfl,rfl,.inl (aT.of I),dO N,_,_,_,_,rfl,rfl,.inr vw,rfl,?_⟩
 refine ⟨a,F,m,i,B,w1,f,_,rfl,e,L,n,u,y,X.gE i,R,S,λ H2 Y=>?_⟩
 refine ⟨_,rfl,_,rfl,_,rfl,zG,λ kp C=>?_⟩
 have s3:=ak (o:=.tup [B,.ref z,.ref A]) C
 have s:=Y.trans s3
 have hl:V.length=m.bS.length:=by rw [r.length,M1]
 refine ⟨_,rfl,a,_,D,_,_,rfl,s _ _ c,T.aJ,T.eS,j3 ..,_,rfl,U,V,_,i,rfl,rfl,s _ _ I,j9 (by lia),k _ F (FS e s c I (F6 (bY.of af) (Dn.same s _ n) (Dn.same s _ p) (Dn.same s _ q)) ⟨y,O,l⟩)⟩
def pO (T:Txt K mg Ad):Nl P w K mg base Ad.bD "put_stove" "Hold.put_stove" fF (.ref Ad.gU) 4 ["self","room","heat","wood","stay","fails"] (oN K Ad.bD):=by
 refine T.pX.ZC pi (λ n H Q E h=>?_) (λ f Z Z Z s H n Q E c h=>?_)
 . obtain ⟨a,e,m,i,v,f,W,d,F,rfl,Z⟩:=h
   rfl
 .
  obtain ⟨a,e,m,i,v,f,W,d,F,rfl,j,y,D,O,U,B,J,u,k⟩:=h
  refine ⟨_,(ai (bA (aV (pv 0) T.aJ (bW T) .nil c.m (aa (pv 1) ag)))
    (ai (bC (cP (ay (lK T) c.m (aa (pv 2) (aa (g8 (v:=V.ref _) rfl T.iV rfl) ag)))) (ap cB) aK)
    (ai (bC (eK (cP (ay (cX T) c.m (aa (pv 3) (aa (fM rfl T.Al) ag))))) (ap cB) aK)
    (ai (bC (eK (cP (ay (cX T) c.m (aa (pv 4) (aa (fM rfl T.zZ) ag))))) (ap cB) aK)
    (ai (bC (eK (cP (ay (cX T) c.m (aa (pv 5) (aa (fM rfl T.xB) ag))))) (ap cB) aK)
    (ap (ii (aZ (aa (pv 2) (aa (pv 3) (aa (pv 4) (aa (pv 5) ag))))) (qC (bj (pv 0) rfl) (pv 1) set_list)))))))),?_⟩
  try dsimp only [eT,bq]
  try (refine lH ?_;intro Z Z Z Z Z Z Z)
  obtain ⟨⟨l,pm,pf,ps,C,vm,n,q,G,rq,g,j5,ig,mW,Y,I,n1,n2,n3,M,N,x,L,R⟩,q1,q2,q3,q4⟩:=id j
  obtain ⟨p,rfl,A⟩:=D.fr
  refine ⟨_,rfl,a,l,_,rfl,g,rfl,_,rfl,a,e,m,i,rfl,j,y,?_⟩
  refine ⟨_,rfl,p,Ad.kO,_,_,_,_,rfl,A,T.lL.at _,O.t.mono (by decide),O.b.mono (by decide),pQ,pQ,_,rfl,pT (by lia) ?_⟩
  refine ⟨_,rfl,W,9,rfl,_,rfl,fO B ⟨_,rfl,d,3,rfl,_,rfl,fO J ⟨_,rfl,F,3,rfl,_,rfl,fO u ?_⟩⟩⟩
  refine ⟨_,rfl,_,rfl,_,rfl,_,rfl,pR,λ kp r=>?_⟩
  have S:=ak (o:=.tup [.ref p,.int W,.int d,.int F]) r
  have X:q.length=m.bw.length:=by rw [x.length,M1]
  exact ⟨_,rfl,a,_,l,_,_,rfl,S _ _ g,T.aJ,T.gu,oh ..,_,rfl,C,q,_,i,rfl,rfl,S _ _ I,j9 (by lia),k _ e (Bk (z:=(f,W,d,F)) j S g I (fS (bY.of af) (bo (Dn.same S _ D) (bo rfl (bo rfl (bo rfl cK))))) O)⟩
def lI (T:Txt K mg Ad):zn P w K mg base Ad.bD "put_stove" 4 ["self","room","heat","wood","stay","fails"] [] (oN K Ad.bD) :=
 (pO T).Ig T.qi λ i H=>by
   obtain ⟨U,j,k,rfl,r,R,g⟩:=vals3 H
   exact ⟨[],.nil,λ Z Z Z Z Z Z u h=>by obtain ⟨a,b,c,d,e,f,rfl⟩:∃ a b c d e f,u=[a,b,c,d,e,f]:=FC (by simpa using h:u.length=6) λ a b c d e f=>⟨a,b,c,d,e,f,rfl⟩;exact ⟨_,rfl,rfl⟩⟩
def oV (T:Txt K mg Ad):Def P w K mg base "bands_together" 1 ["rows"] (EW K):=by
 refine T.qh.cN eY λ Z Z Z Z Z H V Q E G h=>?_
 obtain ⟨p,X,r,rfl,o,l,F,J,k⟩:=h
 refine ⟨_,(ai (cH (i:=1) eY.nd ac)
     (ai (cR aaI rfl (cf (pv 0)) (iD (i:=2) eY.nd) (ap (cH (i:=1) eY.nd (ax bL (pv 1) (ax cS (aU bB (by rfl) T.dU cA (aa (pv 2) ag)) ac)))))
     (ap (aH (pv 1))))),?_⟩
 try dsimp only [eT,bq]
 try (refine d9 ?_;intro Z Z Z Z)
 have M:X.length=r.length:=by rw [l.length,M1]
 refine ⟨_,rfl,p,rfl,⟨X,o⟩,?_⟩
 refine gY (xs:=X) (λ i U a=>a=H/\∃ (x:eG),Bd (1+3 * i) (i6 (r.take i))/\U=[some (.ref p),some (.int (i6 (r.take i))),x]) ⟨rfl,none,(by show Bd 1 (i6 []);exact pQ),rfl⟩ (λ i U a Z e=>by rw [e.1];exact o) ?_ ?_
 .
  rintro Z i x U a q ⟨rfl,y,c,rfl⟩
  have f:i<r.length:=by rw [<- M];exact (Bj.mp q).1
  obtain ⟨v,B,b,Y,rfl,C,D⟩:=l.get (i:=i) (d:=vC r[i]) (by rw [Sb,aI f];rfl)
  obtain rfl:x = .ref b:=aao (q.symm.trans B)
  have m:=J r[i] (aar f)
  have s:Y.length=r[i].length:=by rw [D.length,M1]
  refine ⟨_,rfl,_,rfl,_,_,rfl,.inr C,λ n t=>⟨_,_,rfl,rfl,λ u A=>⟨_,_,rfl,rfl,?_,λ z j=>?_⟩⟩⟩
  . exact ⟨_,3,c,(show u.natAbs<2 ^ 3 by lia),(show 1+3 * i+3<=_ by lia)⟩
  .
   have g:z=i6 (r.take (i+1)):=by
     rw [j,A,t,s]
     unfold i6
     rw [acn,aI f,abD];rfl
   refine ⟨rfl,_,?_,by rw [<- g];rfl⟩
   rw [<- g,j]
   exact (c.mul (show u.natAbs<2 ^ 3 by lia)).mono (by lia)
 .
  rintro U a ⟨rfl,y,c,rfl⟩
  refine ⟨_,rfl,?_⟩
  rw [M,aaA]
  exact k
def xC (T:Txt K mg Ad):Def P w K mg base "is_rising" 2 ["marks"] (DR K):=by
 refine T.yI.cN wH λ Z Z Z Z Z H vs Q E hr h=>?_
 obtain ⟨p,X,r,rfl,g,f,N,hl,k⟩:=h
 refine ⟨_,(ap (aH (aU (wc rfl) (by rfl) T.JP FB (aa (fC ["low","high"] [] [] .nil rfl (Ma rfl T.Kj (aa (pv 0) (aa (je sS (pv 0) (kB ac) kj) ag))) (λ Z Z Z Z Z=>(dg (K:=K) (n:=2) rfl rfl (aS (kY (i:=0)) (aS (kY (i:=1)) db)))) (λ Z Z Z Z Z=>cw) (λ Z Z Z Z Z=>(ay (lK T) hr.m (aa (pv 0) (aa (pv 1) ag))))) ag)))),?_⟩
 try dsimp only [eT,bq]
 refine ⟨_,rfl,_,rfl,1,rfl,p,X,rfl,g,λ q xv=>?_⟩
 have s:=ak (o:=.lst (oU X (some 1) none)) xv
 rw [E7] at s |-
 have M:X.length=r.length:=by rw [f.length,M1]
 refine ⟨p,q,rfl,⟨X,s.seq g⟩,⟨X.tail,aT.of af⟩,λ D L=>?_⟩
 have F:min X.length X.tail.length=(List.zipWith aX r r.tail).length:=by rw [adj,acY,acY,M]
 refine GL (K:=K) (a:=p) (b:=q) (xs:=X) (ys:=X.tail) (λ i A U c=>A4 (aG (upd H q (.lst X.tail)) c) (c D=some (.lst A)) (A=((List.zipWith aX r r.tail).take i).map V.bl) (E2 λ B C=>U=[B,C]))
   ⟨ak L,af,rfl,none,none,rfl⟩ (λ i A U c Z e=>⟨e.1.seq (s.seq g),e.1.seq (aT.of af)⟩) ?_ ?_
 .
  rintro i x y z A U c hx l tU ⟨S,j,rfl,B,C,rfl⟩
  rw [ael] at l
  have J:i+1<r.length:=by rw [<- M];exact (Bj.mp l).1
  obtain ⟨u,eu,du⟩:=f.get (i:=i) (d:=dJ r[i]) (by rw [Sb,aI (by lia)];rfl)
  obtain rfl:x=u:=aao (hx.symm.trans eu)
  obtain ⟨v,ev,dv⟩:=f.get (i:=i+1) (d:=dJ r[i+1]) (by rw [Sb,aI J];rfl)
  obtain rfl:y=v:=aao (l.symm.trans ev)
  obtain ⟨G,rfl,g1⟩:=du.fr
  obtain ⟨I,rfl,g2⟩:=dv.fr
  have O:=N r[i] (aar _)
  have R:=N r[i+1] (aar _)
  have W:aG c (upd c z (.tup [.ref G,.ref I])):=ak tU
  have Y:=s.trans (S.trans W)
  have nD:D≠z:=aA j tU
  refine ⟨z,_,rfl,bY.of af,rfl,_,_,rfl,_,_,rfl,rfl,?_⟩
  refine ⟨_,rfl,_,rfl,G,I,_,_,_,_,rfl,Y.tup g1,Y.tup g2,O.t.mono (by decide),O.b.mono (by decide),R.t.mono (by decide),R.b.mono (by decide),?_⟩
  have hb:=ku (aI (show i<r.length by lia)) (aI J)
  refine ⟨by rw [aw nD];exact j,?_,aG.put (S.trans W) L,af,?_,_,_,rfl⟩
  . rw [M1,aaF]
    have:(7:Nat)<sizeLine:=by decide
    rw [<- F]
    lia
  . rw [acn,hb,aaf]
    rfl
 . rintro A U c ⟨S,j,rfl,B,C,rfl⟩
   rw [F,aaA] at j
   exact ⟨D,_,rfl,aT.of j,k _ (s.trans S)⟩
def o7 (T:Txt K mg Ad):gM P w K mg base Ad.bD "put_room" 3 ["self","marks"] [] (yZ K Ad.bD):=by
 refine T.rY.fK jX λ Z Z Z Z Z H l Q E t h=>?_
 obtain ⟨a,fp,m,p,X,r,rfl,B,h4,F,A,ho,yr,YI,Q7,hb,k⟩:=h
 refine ⟨_,(ai (bC (aL Fe (fD (pv 0) T.aJ (cI T) .nil t.m) (fM rfl T.xL) (aM _)) (ap cB) aK)
     (ai (bC (eK (jQ jq jq (fM rfl T.u8) (aU bB (by rfl) T.dU cA (aa (pv 1) ag)) (fM rfl T.xH))) (ap cB) aK)
     (ai (bC (eK (cP (ay (xC T) t.m (aa (pv 1) ag)))) (ap cB) aK)
     (ai (cH (i:=2) jX.nd (ax qO (bj (pv 0) rfl) (bH (aa (cD dS (by rfl) T.kz iT (aa (pv 1) ag)) ag))))
     (ai (bC (aL tJ (ay (oV T) t.m (aa (pv 2) ag)) (fM rfl T.wP) (aM _)) (ap cB) aK)
     (ai (eD (pv 0) (pv 2) rfl)
     (ai (bA (hV aaG aaM aaL cz (bj (pv 0) rfl) (aa (aZ (aa (g8 (v:=V.ref _) rfl T.iV rfl) (aa (g8 (v:=V.ref _) rfl T.iV rfl) (aa (g8 (v:=V.ref _) rfl T.iV rfl) ag)))) ag)))
     (ai (bA (hV aaG aaM aaL cz (bj (pv 0) rfl) (aa c5 ag)))
     (ap (aH (ax cS (fD (pv 0) T.aJ (cI T) .nil t.m) ac))))))))))),?_⟩
 try dsimp only [eT,bq]
 try (refine Gm ?_;intro Z Z Z Z Z Z Z Z Z Z)
 obtain ⟨⟨d,J,pf,L,M,j,l,Y,aE,rq,g,j5,ig,mW,I,G,n1,n2,n3,dm,ds,dt,df,fk⟩,q1,q2,q3,q4⟩:=id B
 have MZ:X.length=r.length:=by rw [A.length,M1]
 have lm:j.length=m.rows.length:=by rw [dm.length,M1]
 have ls:l.length=m.bS.length:=by rw [ds.length,M1]
 have lt:Y.length=m.bw.length:=by rw [dt.length,M1]
 have ab:(7:Nat)<sizeLine:=by decide
 refine ⟨_,rfl,a,d,_,rfl,g,rfl,a,fp,m,rfl,B,_,_,rfl,rfl,_,rfl,pT (by lia) ?_⟩
 refine ⟨_,rfl,_,_,rfl,.inl F,λ n en=>⟨_,_,rfl,rfl,_,rfl,sK (by lia) ⟨_,_,rfl,rfl,_,rfl,fO (by lia) ?_⟩⟩⟩
 refine ⟨_,rfl,p,X,r,rfl,F,A,ho,YI,λ q S=>⟨_,rfl,?_⟩⟩
 rw [Q7]
 refine fe ?_
 refine ⟨_,rfl,a,_,d,_,_,rfl,S _ _ g,T.aJ,T.dL,tp ..,_,rfl,p,X,rfl,.inl ⟨S.seq F,λ b C=>⟨uT,λ u YG=>?_⟩⟩⟩
 have s2:=S.trans (ak (o:=.tup X) C)
 have O:=s2.trans (ak (o:=.lst [.ref b]) YG)
 refine ⟨J,u,j,[.ref b],rfl,rfl,O _ _ ig,af,by rw [aaC];lia,λ c W=>?_⟩
 have R:aG (upd q b (.tup X)) _:=(ak (o:=.lst [.ref b]) YG).trans (ak (o:=.lst (j++[.ref b])) W)
 have s:=O.trans (ak (o:=.lst (j++[.ref b])) W)
 have dr:Dn K (upd (upd (upd q b (.tup X)) u (.lst [.ref b])) c (.lst (j++[.ref b]))) (vC r) (.ref b):=fS (bY.of (R _ _ af)) (bF.same s _ A)
 refine ⟨_,rfl,c,_,m.rows++[r],rfl,aT.of af,?_,by rw [aab,aaC];lia,?_,_,_,rfl,rfl,_,rfl,pT (by lia) ?_⟩
 . rw [aaf]
   exact (bF.same s _ dm).snoc dr
 .
  intro x hx
  rcases aau.mp hx with h|h
  . have:=q4.len x h;lia
  . rw [aac.mp h];lia
 refine ⟨_,rfl,_,rfl,a,_,d,_,rfl,s _ _ g,T.aJ,T.dL,lt1000 rfl,?_⟩
 have X5:H c=none:=O.free W
 have ad:c≠a:=(aA g X5).symm
 refine ⟨_,rfl,a,_,d,_,_,rfl,af,T.aJ,T.eS,j3 ..,?_⟩
 have Qz:=eW I g nofun
 have RP:=eW G g nofun
 have g1:=(aw (H:=upd (upd (upd q b (.tup X)) u (.lst [.ref b])) c (.lst (j++[.ref b]))) (o:=.ins Ad.bD d (aP "mark_rows" (.ref c) (sW m J pf L M))) Qz).trans (s _ _ I)
 have g2:=(aw (H:=upd (upd (upd q b (.tup X)) u (.lst [.ref b])) c (.lst (j++[.ref b]))) (o:=.ins Ad.bD d (aP "mark_rows" (.ref c) (sW m J pf L M))) RP).trans (s _ _ G)
 refine ⟨.inl ⟨rfl,l,aT.of g1⟩,zG,λ q0 vw=>?_⟩
 have U:=ak (o:=.tup [.ref Ad.kO,.ref Ad.kO,.ref Ad.kO]) vw
 refine ⟨L,l,_,rfl,rfl,U _ _ g1,by lia,?_⟩
 have g3:=(aw (o:=.lst (l++[.ref q0])) n3.symm).trans (U _ _ g2)
 have g4:=(aw (o:=.lst (l++[.ref q0])) Qz.symm).trans (U _ _ af)
 refine ⟨_,rfl,a,_,d,_,_,rfl,g4,T.aJ,T.gu,oh ..,.inl ⟨rfl,Y,aT.of g3⟩,M,Y,_,rfl,rfl,g3,by lia,?_⟩
 obtain ⟨uW,D⟩:=DI (N:=Ad.kO) (r:=r) B s g ig I G X5 af dr h4 ho ⟨yr,YI⟩ (λ H'=>T.lL.fr (f:=(0,1))) vw
 obtain ⟨⟨AJ,Ex,vZ,rE,rH,Z,Z,Z,Z,Z,y,Z⟩,Z⟩:=id D.at_
 refine ⟨_,rfl,a,AJ,_,rfl,y,rfl,a,uW,_,rfl,D.at_,_,_,rfl,rfl,λ z ez=>?_⟩
 have e:z=(m.rows.length:Int):=by
   rw [ez]
   show (((m.rows++[r]).length:Nat):Int) - 1=_
   rw [aab,aaC];lia
 rw [e]
 exact k _ uW D
def qv (T:Txt K mg Ad):Nl P w K mg base Ad.bD "__init__" "Hold.__init__" fP (.ref Ad.iB) 2 ["self","most","cap","load"] (CM K Ad.bD):=by
 refine T.se.ZC qe (λ vs H Q E h=>?_) (λ f Z Z Z s H vs Q E L h=>?_)
 . obtain ⟨x,d,most,fR,load,rfl,Z⟩:=h
   rfl
 .
  obtain ⟨x,d,most,fR,load,rfl,V,j5,hm,hc,hl,k⟩:=h
  refine ⟨_,(ai (bC (eK (cP (ay (cX T) L.m (aa (pv 1) (aa (fM rfl T.tG) ag))))) (ap cB) aK)
    (ai (bC (eK (cP (ay (cX T) L.m (aa (pv 2) (aa (fM rfl T.BC) ag))))) (ap cB) aK)
    (ai (bC (eK (cP (ay (cX T) L.m (aa (pv 3) (aa (fM rfl T.Ag) ag))))) (ap cB) aK)
    (ai (eD (pv 0) (pv 1) rfl)
    (ai (eD (pv 0) (pv 2) rfl)
    (ai (eD (pv 0) (pv 3) rfl)
    (ai (eD (pv 0) (bH ag) rfl)
    (ai (eD (pv 0) FI rfl)
    (ai (eD (pv 0) (bH ag) rfl)
    (ap (eD (pv 0) (bH ag) rfl))))))))))),?_⟩
  try dsimp only [eT,bq]
  try (refine C4 ?_;intro Z Z Z Z Z Z Z Z Z Z Z)
  refine ⟨_,rfl,most,4,rfl,_,rfl,fO hm ⟨_,rfl,fR,30,rfl,_,rfl,fO hc ⟨_,rfl,load,30,rfl,_,rfl,fO hl ?_⟩⟩⟩
  have N:kn K Ad.bD x d H H []:=.start V
  refine ⟨_,rfl,_,rfl,x,_,d,_,rfl,N.at_,T.aJ,T.kG,lt1000 rfl,?_⟩
  have O:=N.put (fs':=aP "most" (.int most) [])
  refine ⟨_,rfl,_,rfl,x,_,d,_,rfl,O.at_,T.aJ,T.lA,lt1000 rfl,?_⟩
  have R:=O.put (fs':=aP "cap" (.int fR) (aP "most" (.int most) []))
  refine ⟨_,rfl,_,rfl,x,_,d,_,rfl,R.at_,T.aJ,T.pM,lt1000 rfl,?_⟩
  have B:=R.put (fs':=aP "load" (.int load) (aP "cap" (.int fR) (aP "most" (.int most) [])))
  refine ⟨aaZ _,λ p e=>?_⟩
  have v:=B.new (o:=.lst []) e
  refine ⟨_,rfl,x,_,d,_,rfl,v.at_,T.aJ,T.dL,lt1000 rfl,λ c g=>?_⟩
  have i:=v.put (fs':=aP "mark_rows" (.ref p) (aP "load" (.int load) (aP "cap" (.int fR) (aP "most" (.int most) []))))
  have j:=i.new (o:=.dT []) g
  refine ⟨_,rfl,x,_,d,_,rfl,j.at_,T.aJ,T.gZ,lt1000 rfl,aaZ _,λ r a=>?_⟩
  have l:=j.put (fs':=aP "flows" (.ref c) (aP "mark_rows" (.ref p) (aP "load" (.int load) (aP "cap" (.int fR) (aP "most" (.int most) [])))))
  have y:=l.new (o:=.lst []) a
  refine ⟨_,rfl,x,_,d,_,rfl,y.at_,T.aJ,T.eS,lt1000 rfl,aaZ _,λ W F=>?_⟩
  have z:=y.put (fs':=aP "skies" (.ref r) (aP "flows" (.ref c) (aP "mark_rows" (.ref p) (aP "load" (.int load) (aP "cap" (.int fR) (aP "most" (.int most) []))))))
  have X:=z.new (o:=.lst []) F
  refine ⟨_,rfl,x,_,d,_,rfl,X.at_,T.aJ,T.gu,lt1000 rfl,?_⟩
  have t:=X.put (fs':=sW (ar.new most fR load) p c r W)
  have h1:=v.keep (u:=.ins Ad.bD d (aP "mark_rows" (.ref p) (aP "load" (.int load) (aP "cap" (.int fR) (aP "most" (.int most) []))))) af (B.ne e)
  have S:=j.keep (u:=.ins Ad.bD d (aP "flows" (.ref c) (aP "mark_rows" (.ref p) (aP "load" (.int load) (aP "cap" (.int fR) (aP "most" (.int most) [])))))) (ak (o:=.dT []) g _ _ h1) (B.ne e)
  have C:=j.keep (u:=.ins Ad.bD d (aP "flows" (.ref c) (aP "mark_rows" (.ref p) (aP "load" (.int load) (aP "cap" (.int fR) (aP "most" (.int most) [])))))) af (i.ne g)
  have M:=λ b o (h:_=some o) (n:b≠x)=>y.keep (b:=b) (u:=.ins Ad.bD d (aP "skies" (.ref r) (aP "flows" (.ref c) (aP "mark_rows" (.ref p) (aP "load" (.int load) (aP "cap" (.int fR) (aP "most" (.int most) []))))))) h n
  have U:=M _ _ (ak (o:=.lst []) a _ _ S) (B.ne e)
  have D:=M _ _ (ak (o:=.lst []) a _ _ C) (i.ne g)
  have Y:=M _ _ af (l.ne a)
  have q:=λ b o (h:_=some o) (n:b≠x)=>X.keep (b:=b) (u:=.ins Ad.bD d (sW (ar.new most fR load) p c r W)) h n
  have A:=q _ _ (ak (o:=.lst []) F _ _ U) (B.ne e)
  have G:=q _ _ (ak (o:=.lst []) F _ _ D) (i.ne g)
  have I:=q _ _ (ak (o:=.lst []) F _ _ Y) (l.ne a)
  have J:=q _ _ af (z.ne F)
  exact k _ _ (GC t V j5 A G I J (B.none e) (i.none g) (l.none a) (z.none F) (aA S a) (aA U F) (aA Y F))
def mY (T:Txt K mg Ad):zn P w K mg base Ad.bD "__init__" 2 ["self","most","cap","load"] [] (CM K Ad.bD) :=
 (qv T).Ig T.ss λ i H=>by
   obtain ⟨U,f,g,rfl,r,R,e⟩:=vals3 H
   exact ⟨[],.nil,λ Z Z Z Z Z Z u h=>by obtain ⟨a,b,c,d,rfl⟩:∃ a b c d,u=[a,b,c,d]:=Fb (by simpa using h:u.length=4) λ a b c d=>⟨a,b,c,d,rfl⟩;exact ⟨_,rfl,rfl⟩⟩
def fx (T:Txt K mg Ad):Def P w K mg base "has_room" 1 ["bits","room"] zY:=by
 refine T.BE.cN Aj λ Z Z Z Z Z H v Q E b h=>?_
 obtain ⟨n,r,rfl,k⟩:=h
 refine ⟨_,(ap (aH (dh cV (ax aN (ax BK (pv 0) (pv 1)) ac) ac (aM _)))),?_⟩
 try dsimp only [eT,bq]
 refine ⟨_,rfl,_,rfl,_,_,rfl,rfl,aa3 _,λ s a=>⟨_,_,rfl,rfl,by decide,λ m Z Z e=>⟨rfl,?_⟩⟩⟩
 rw [Jd n r a e]
 exact k
def pA (T:Txt K mg Ad):Def P w K mg base "with_room" 1 ["bits","room"] xI:=by
 refine T.zF.cN xz λ Z Z Z Z Z H v Q E c h=>?_
 obtain ⟨n,r,rfl,L,k⟩:=h
 refine ⟨_,(ap (aH (ax L5 (pv 0) (ax IX ac (pv 1))))),?_⟩
 try dsimp only [eT,bq]
 refine ⟨_,rfl,_,rfl,_,_,rfl,rfl,⟨aa3 _,by lia,by decide⟩,λ s b=>⟨_,_,rfl,rfl,λ m a=>?_⟩⟩
 have e:s=((2 ^ r:Nat):Int):=by rw [b,aaW,acT,Int.natCast_pow];rfl
 rw [a,e,D5]
 exact k
def kL (T:Txt K mg Ad):Def P w K mg base "members" 2 ["bits"] Bi:=by
 refine T.DB.cN AA λ Z Z Z Z Z H V Q E l h=>?_
 obtain ⟨n,rfl,j,k⟩:=h
 refine ⟨_,(ap (aH (fC ["room"] ["bits"] [0] (.cons ⟨rfl,rfl,.inl rfl⟩ .nil) rfl (ck rfl T.de (aa (L0 PySem.F.plainAttrs_int PySem.F.slot_int_bit_length PySem.F.type_int_bit_length DN (pv 0)) ag)) (λ Z Z Z Z Z=>(kY (i:=0))) (λ Z Z Z Z Z=>(jo (cP (ay (fx T) l.m (aa (pv 1) (aa (pv 0) ag)))))) (λ Z Z Z Z Z=>(pv 0))))),?_⟩
 try dsimp only [eT,bq]
 refine ⟨_,rfl,rfl,_,rfl,rfl,λ b o=>?_⟩
 have g:Builtin.Int.intBits (n:Int)<=61:=acu.mpr (by simpa using j)
 have O:n<2 ^ Builtin.Int.intBits (n:Int):=by
   have:=acu.mp (aaj (Builtin.Int.intBits (n:Int)))
   simpa using this
 have f:b.toNat=Builtin.Int.intBits (n:Int):=by lia
 refine ⟨b,rfl,by lia,by lia,λ D d=>?_⟩
 refine dQ (λ i a U c=>A3 (c=upd H D (.lst a)) (a=((List.range i).filter n.testBit).map aq) (∃ v,U=[v,some (aq n)])) ⟨rfl,rfl,none,rfl⟩ ?_ ?_
 .
  rintro i a U c p ⟨rfl,rfl,v,rfl⟩
  refine ⟨_,rfl,_,rfl,n,i,(by show [_,_]=[_,_];rw [aa0];rfl),_,rfl,?_⟩
  have e:((List.range (i+1)).filter n.testBit).map aq=((List.range i).filter n.testBit).map aq++(if n.testBit i=true then [aq i] else []):=by
    rw [aa5,abo,aaf]
    by_cases q:n.testBit i=true<;>simp [q]
  by_cases q:n.testBit i=true
  .
   rw [q]
   refine f7 ⟨_,rfl,af,?_,?_,?_,_,rfl⟩
   . have:=aa8 n.testBit (List.range i)
     rw [aak] at this
     rw [M1]
     exact aW (by lia)
   . rw [mQ]
   . rw [e,aan q,aa0];rfl
  . rw [Bool.not_eq_true] at q
    rw [q]
    refine fe ⟨rfl,?_,_,rfl⟩
    rw [e,q];simp
 . rintro a U c ⟨rfl,rfl,v,rfl⟩
   refine k D _ d (ak d) ?_
   rw [af,f,Bit.Bl O g]
def uJ (T:Txt K mg Ad):Def P w K mg base "subsets" 3 ["bits"] AZ:=by
 refine T.Dx.cN kH λ _ _ _ _ _ H vs Q E B h=>?_
 obtain ⟨n,rfl,X,h8,k⟩:=h
 refine ⟨_,(ai (cH (i:=1) kH.nd (bH (aa ac ag)))
     (ai (cR aaI rfl (cf (ay (kL T) B.m (aa (pv 0) ag))) (iD (i:=2) kH.nd) (ap (cH (i:=1) kH.nd (ax qO (pv 1) (fC ["part"] ["room"] [2] (.cons ⟨rfl,rfl,.inl rfl⟩ .nil) rfl (cf (pv 1)) (λ _ _ _ _ _=>(kY (i:=0))) (λ _ _ _ _ _=>cw) (λ _ _ _ _ _=>(ay (pA T) B.m (aa (pv 0) (aa (pv 1) ag)))))))))
     (ap (aH (pv 1))))),?_⟩
 try dsimp only [eT,bq]
 try (refine d9 ?_;intro _ _ _ _)
 refine ⟨(by show 1<=sizeLine;decide),λ p0 M=>⟨_,rfl,n,rfl,X,λ F L ig I C=>⟨F,rfl,⟨_,aT.of C⟩,?_⟩⟩⟩
 have S:=(ak (o:=.lst [.int 0]) M).trans I
 refine jN (K:=K) (a:=F) (xs:=(Bit.rooms n).map aq) (λ i U d=>aG L d/\E2 λ (b:am) (v:eG)=>A3 (H b=none) (U=[some (aq n),some (.ref b),v]) (d b=some (.lst ((Bit.parts ((Bit.rooms n).take i)).map aq))))
   ⟨aG.refl _,p0,none,M,rfl,I _ _ af⟩ (λ i U d _ ⟨s,_⟩=>aT.of (s _ _ C)) ?_ ?_
 .
  rintro i x U d Y ⟨s,b,v,J,rfl,f⟩
  obtain ⟨r,t,rfl⟩:=dI Y
  have W:i<(Bit.rooms n).length:=(Bj.mp t).1
  have R:r<61:=(Bit.fW.mp (aae t)).1
  have O:(Bit.parts ((Bit.rooms n).take i)).length<=256:=by
    rw [(HZ n i).len,aaF]
    exact aax (abq (by decide) (by lia:min i (Bit.rooms n).length<=8)) (by decide)
  have next:Bit.parts ((Bit.rooms n).take (i+1))=Bit.parts ((Bit.rooms n).take i)++(Bit.parts ((Bit.rooms n).take i)).map (· ||| 2 ^ r):=by
    rw [bU t,Bn]
  generalize Bit.parts ((Bit.rooms n).take i)=g at *
  refine ⟨_,rfl,_,rfl,b,rfl,⟨_,aT.of f⟩,λ D u=>?_⟩
  have N:b≠D:=aA f u
  refine cE (K:=K) (a:=b) (xs:=g.map aq) (λ j A c l=>A3 (l=upd d D (.lst A)) (A=(g.take j).map (λ p=>aq (p ||| 2 ^ r))) (∃ v,c=[v,some (aq r)])) ⟨rfl,rfl,none,rfl⟩
    (λ j A c l _ ⟨e,_,_⟩=>by subst e;exact aT.of (by rw [aw N];exact f)) ?_ ?_
  .
   rintro j y A c l hy ⟨rfl,rfl,v2,rfl⟩
   obtain ⟨p,V,rfl⟩:=dI hy
   refine ⟨_,rfl,_,rfl,p,r,rfl,by lia,af,?_,?_,?_,_,rfl⟩
   . rw [M1,aaF];exact aW (by lia)
   . rw [mQ]
   . rw [bU V,aaf];rfl
  .
   rintro A c l ⟨rfl,rfl,v2,rfl⟩
   rw [M1,aaA]
   refine ⟨b,D,_,_,rfl,rfl,(by rw [aw N];exact f),af,?_,λ q z=>?_⟩
   . rw [M1,M1];exact abY (aW (by lia))
   . have G:=ak (o:=.lst (g.map λ p=>aq (p ||| 2 ^ r))) u
     have s3:=ak (o:=.lst (g.map aq++g.map λ p=>aq (p ||| 2 ^ r))) z
     refine ⟨s.trans (G.trans s3),q,_,S.free (s.free (G.free z)),rfl,?_⟩
     rw [af,next,aaf,acs];rfl
 . rintro U d ⟨s,b,v,J,rfl,f⟩
   rw [M1,aaA] at f
   exact ⟨_,rfl,k b d J (S.trans s) f⟩
def rR (T:Txt K mg Ad):Def P w K mg base "how_many" 3 ["bits"] zc:=by
 refine T.Bs.cN zD λ Z Z Z Z Z H v Q E c h=>?_
 obtain ⟨n,rfl,b,k⟩:=h
 refine ⟨_,(ap (aH (aU bB (by rfl) T.dU cA (aa (ay (kL T) c.m (aa (pv 0) ag)) ag)))),?_⟩
 try dsimp only [eT,bq]
 refine ⟨_,rfl,n,rfl,b,λ p a i s d=>⟨p,_,rfl,.inl (aT.of d),λ y e=>?_⟩⟩
 rw [M1] at e
 rw [e]
 exact k a s
def nX (T:Txt K mg Ad):Def P w K mg base "bits_of" 2 ["rooms"] (C6 K):=by
 refine T.DT.cN kr λ Z Z Z Z Z H V Q E j h=>?_
 obtain ⟨p,l,rfl,d,g,k⟩:=h
 refine ⟨_,(ai (cH (i:=1) kr.nd ac)
     (ai (cR aaI rfl (cf (pv 0)) (iD (i:=2) kr.nd) (ap (cH (i:=1) kr.nd (ay (pA T) j.m (aa (pv 1) (aa (pv 2) ag))))))
     (ap (aH (pv 1))))),?_⟩
 try dsimp only [eT,bq]
 try (refine d9 ?_;intro Z Z Z Z)
 refine ⟨_,rfl,p,rfl,⟨_,d⟩,?_⟩
 refine jN (K:=K) (a:=p) (xs:=l.map aq) (λ i U b=>b=H/\∃ v,U=[some (.ref p),some (aq (Bit.sumOf (l.take i))),v]) ⟨rfl,none,rfl⟩ (λ i U b Z e=>by rw [e.1];exact d) ?_ ?_
 .
  rintro i x U b n ⟨rfl,v,rfl⟩
  obtain ⟨r,c,rfl⟩:=dI n
  have f:Bit.sumOf (l.take (i+1))=Bit.sumOf (l.take i) ||| 2 ^ r:=by
    rw [bU c]
    unfold Bit.sumOf
    rw [abD]
    rfl
  exact ⟨_,rfl,_,rfl,_,r,rfl,g r (aae c),rfl,_,by rw [f];rfl⟩
 . rintro U b ⟨rfl,v,rfl⟩
   rw [M1,aaA]
   exact ⟨_,rfl,k⟩
def vq (T:Txt K mg Ad):Def P w K mg base "fits_stove" 1 ["stove","fired","wait","failed"] (uZ K):=by
 refine T.xj.cN jE λ Z Z Z Z Z H r Q E l h=>?_
 obtain ⟨v,z,f,W,b,rfl,a,c,k⟩:=h
 refine ⟨_,(ai (bC (aL lM (pv 0) c5 (aM _)) (ap (aH (tR (uj (pv 1)) (tR (dh cV (pv 2) ac (aM _)) (qS (dh cV (pv 3) ac (aM _))))))) aK)
     (ai (ii (je ya (pv 0) (kB ac) kj) (dg (K:=K) (n:=2) rfl rfl (aS (iD (i:=4) jE.nd) (aS (iD (i:=5) jE.nd) db))))
     (ai (bC (PW.pt (rD (eK (jQ jq jq ac (pv 2) (pv 4))) (oA (eK (jQ jq jq ac (pv 3) (pv 5)))))) (ap (aH fX)) aK)
     (ap (aH (Ki (dh cV (pv 3) ac (aM _)) (qS (tR (uj (pv 1)) (qS (dh cV (pv 2) ac (aM _))))))))))),?_⟩
 try dsimp only [eT,bq]
 try (refine eP ?_;intro Z Z Z Z Z)
 cases z with
 | none =>
   obtain ⟨rfl,rfl,rfl⟩:=c
   have a:v = .cL:=a
   subst a
   exact ⟨_,rfl,rfl,_,rfl,sK rfl ⟨_,rfl,_,rfl,_,rfl,f7 ⟨_,rfl,rfl,_,rfl,sK rfl ⟨_,rfl,rfl,Yl rfl (k H (aG.refl _))⟩⟩⟩⟩
 | some z =>
   obtain ⟨p,m,rfl,g,Z⟩:=a.bV
   refine ⟨_,rfl,rfl,_,rfl,pT nofun ?_⟩
   refine ⟨_,rfl,2,rfl,p,_,2,rfl,g,rfl,rfl,by decide,(by show 2<=4;decide),λ q j=>?_⟩
   refine ⟨q,_,rfl,bY.of af,rfl,_,_,rfl,_,_,rfl,rfl,?_⟩
   have s:=ak (o:=.tup [V.int z.2.2.1,V.int z.2.2.2]) j
   obtain ⟨F,d,e⟩:=c
   refine ⟨_,rfl,_,_,rfl,rfl,_,rfl,sK (by lia) ⟨_,rfl,_,_,rfl,rfl,_,rfl,fO F ?_⟩⟩
   refine ⟨_,rfl,_,_,rfl,rfl,_,rfl,sK (by lia) ⟨_,rfl,_,_,rfl,rfl,_,rfl,fO d ?_⟩⟩
   refine ⟨_,rfl,rfl,_,rfl,?_⟩
   rcases e with rfl|⟨rfl,rfl⟩
   . exact sK rfl (k _ s)
   . refine eM (λ Z=>k _ s) (λ Z=>⟨_,rfl,_,rfl,_,rfl,f7 ⟨_,rfl,rfl,Yl rfl (k _ s)⟩⟩)
def xK (T:Txt K mg Ad):Def P w K mg base "fits_room" 5 ["hold","state","room"] (wW K Ad.bD):=by
 refine T.Ac.cN fG λ Z Z Z Z Z H vs Q E c h=>?_
 obtain ⟨a,f,m,p,G,i,rfl,d,A,ok,b,k⟩:=h
 refine ⟨_,(ai (ii (pv 1) (dg (K:=K) (n:=5) rfl rfl (aS (iD (i:=3) fG.nd) (aS (iD (i:=4) fG.nd) (aS (iD (i:=5) fG.nd) (aS (iD (i:=6) fG.nd) (aS (iD (i:=7) fG.nd) db)))))))
     (ai (bC (eK (jQ jq jR ac (au ao (pv 3) (pv 2)) (ax cS (aU bB (by rfl) T.dU cA (aa (aV (pv 0) T.aJ (fo T) .nil c.m (aa (pv 2) ag)) ag)) ac))) (ap (aH fX)) aK)
     (ap (aH (ay (vq T) c.m (aa (aV (pv 0) T.aJ (dZ T) .nil c.m (aa (pv 2) ag)) (aa (ay (fx T) c.m (aa (pv 4) (aa (pv 2) ag))) (aa (au ao (pv 5) (pv 2)) (aa (au ao (pv 6) (pv 2)) ag))))))))),?_⟩
 try dsimp only [eT,bq]
 try (refine d9 ?_;intro Z Z Z Z)
 obtain ⟨R,V,U,l,q,t,r⟩:=id A
 obtain ⟨⟨D,Z,Z,Z,Z,Z,Z,Z,Z,Z,e,Z⟩,W,Y,q3,F⟩:=id d
 have X:=aI b
 have L:m.rows.getD i []=m.rows[i]:=by rw [Qm,X];rfl
 have u:=ok.band i b
 rw [L] at u
 have O:=F.len m.rows[i] (aar b)
 have B:=mM (m:=m) (i:=i) (by lia)
 refine ⟨_,rfl,p,_,rfl,l,rfl,_,_,rfl,_,_,rfl,_,_,rfl,_,_,rfl,_,_,rfl,rfl,?_⟩
 refine ⟨_,rfl,_,rfl,_,_,_,_,rfl,rfl,.inr q,rQ (by rw [ok.lb];exact b),_,_,rfl,rfl,_,rfl,sK (by lia) ?_⟩
 refine ⟨_,rfl,a,D,_,rfl,e,rfl,_,rfl,a,f,m,i,_,rfl,d,X,λ C x I J=>⟨C,x,rfl,.inl (aT.of af),λ y M=>⟨_,_,rfl,rfl,λ z N=>⟨_,_,rfl,rfl,_,rfl,fO ?_ ?_⟩⟩⟩⟩
 . have:=J.length
   rw [M1] at this
   lia
 have s:=ak (o:=.lst x) I
 refine ⟨_,rfl,a,D,_,rfl,s _ _ e,rfl,_,rfl,a,f,m,i,_,rfl,d.same s,B,λ v j=>?_⟩
 refine ⟨_,rfl,_,rfl,G.cC,i,rfl,?_⟩
 refine ⟨_,rfl,_,rfl,_,_,_,_,rfl,rfl,.inr (s.tup t),rQ (by rw [ok.lw];exact b),?_⟩
 refine ⟨_,rfl,_,rfl,_,_,_,_,rfl,rfl,.inr (s.tup r),rQ (by rw [ok.lf];exact b),?_⟩
 exact ⟨v,m.pJ i,_,_,_,rfl,j,ok.bV i b,λ g S=>k g (s.trans S)⟩
def zb (T:Txt K mg Ad):Def P w K mg base "is_state" 6 ["hold","state"] (zr K Ad.bD):=by
 refine T.AE.cN fy λ Z Z Z Z Z H W Q E o h=>?_
 obtain ⟨a,F,m,p,d,rfl,l,r,ok,k⟩:=h
 refine ⟨_,(ai (ii (pv 1) (dg (K:=K) (n:=5) rfl rfl (aS (iD (i:=2) fy.nd) (aS (iD (i:=3) fy.nd) (aS (iD (i:=4) fy.nd) (aS (iD (i:=5) fy.nd) (aS (iD (i:=6) fy.nd) db)))))))
     (ai (cH (i:=7) fy.nd (fD (pv 0) T.aJ (cI T) .nil o.m))
     (ai (bC (PW.pt (rD (aL rS (aU bB (by rfl) T.dU cA (aa (pv 2) ag)) (pv 7) (aM _)) (rD (aL rS (aU bB (by rfl) T.dU cA (aa (pv 4) ag)) (pv 7) (aM _)) (oA (aL rS (aU bB (by rfl) T.dU cA (aa (pv 5) ag)) (pv 7) (aM _)))))) (ap (aH fX)) aK)
     (ai (bC (PW.pt (rD (aL rS (ax BK (pv 3) (pv 7)) ac (aM _)) (oA (aL tJ (ay (rR T) o.m (aa (pv 3) ag)) (bj (pv 0) rfl) (aM _))))) (ap (aH fX)) aK)
     (ai (bC (eK (jQ jq jq ac (pv 6) (bj (pv 0) rfl))) (ap (aH fX)) aK)
     (ap (aH (aU (wc rfl) (by rfl) T.JP FB (aa (fC ["room"] ["hold","state"] [0,1] (.cons ⟨rfl,rfl,.inl rfl⟩ (.cons ⟨rfl,rfl,.inl rfl⟩ .nil)) rfl (ck rfl T.de (aa (pv 7) ag)) (λ Z Z Z Z Z=>(kY (i:=0))) (λ Z Z Z Z Z=>cw) (λ Z Z Z Z Z=>(ay (xK T) o.m (aa (pv 1) (aa (pv 2) (aa (pv 0) ag)))))) ag))))))))),?_⟩
 try dsimp only [eT,bq]
 try (refine lH ?_;intro Z Z Z Z Z Z Z)
 obtain ⟨N,R,O,B,C,J,G⟩:=id r
 obtain ⟨⟨f,pm,HR,Y,Jk,vm,W,vt,aE,Z,j,Z⟩,q1,q2,q3,q4⟩:=id l
 have z:d.cC<2 ^ 61:=aav ok.cC (abq (by decide) (by lia))
 refine ⟨_,rfl,p,_,rfl,B,rfl,_,_,rfl,_,_,rfl,_,_,rfl,_,_,rfl,_,_,rfl,rfl,?_⟩
 refine ⟨_,rfl,a,f,_,rfl,j,rfl,a,F,m,rfl,l,?_⟩
 refine ⟨_,rfl,N,_,rfl,.inr C,λ y e=>⟨_,rfl,rfl,_,rfl,fO (by rw [e,M1,ok.lb];rfl) ?_⟩⟩
 refine ⟨_,rfl,R,_,rfl,.inr J,λ y e=>⟨_,rfl,rfl,_,rfl,fO (by rw [e,M1,ok.lw];rfl) ?_⟩⟩
 refine ⟨_,rfl,O,_,rfl,.inr G,λ y e=>⟨_,rfl,rfl,_,rfl,fO (by rw [e,M1,ok.lf];rfl) ?_⟩⟩
 refine ⟨_,rfl,_,rfl,_,_,rfl,rfl,aa3 _,λ s I=>⟨rfl,_,rfl,fO ?_ ?_⟩⟩
 . rw [I,aaW]
   have:((d.cC:Nat):Int) / 2 ^ m.rows.length=0:=Int.ediv_eq_zero_of_lt (aa3 _) (by exact_mod_cast ok.cC)
   rw [this]
 refine ⟨_,rfl,d.cC,rfl,z,λ u S=>⟨_,rfl,a,_,f,_,_,rfl,S _ _ j,T.aJ,T.kG,yy ..,_,_,rfl,rfl,_,rfl,pT (by have:=ok.most;lia) ?_⟩⟩
 refine ⟨_,rfl,_,_,rfl,rfl,_,rfl,sK (by lia) ⟨_,rfl,a,_,f,_,_,rfl,S _ _ j,T.aJ,T.lA,BO ..,_,_,rfl,rfl,_,rfl,fO ok.heap ?_⟩⟩
 refine ⟨_,rfl,_,rfl,by lia,by lia,λ D q=>?_⟩
 refine dQ (lo:=0) (n:=m.rows.length) (λ i A U b=>A4 (aG u b) (b D=some (.lst A)) (A=(List.replicate i true).map V.bl) (∃ v,U=[v,some (.ref a),some (.ref p)])) ⟨ak q,af,rfl,none,rfl⟩ ?_ ?_
 . rintro i A U b L ⟨c,g,rfl,v,rfl⟩
   refine ⟨_,rfl,_,rfl,_,rfl,a,F,m,p,d,i,(by rw [aa0];rfl),l.same (S.trans c),r.same (S.trans c),ok,L,λ X t=>⟨t _ _ g,aW (by rw [M1,abZ];lia),(c.trans t).put q,af,?_,_,rfl⟩⟩
   rw [adb,aaf];rfl
 .
  rintro A U b ⟨c,g,rfl,v,rfl⟩
  refine ⟨D,_,rfl,aT.of g,?_⟩
  have:(List.replicate m.rows.length true).all id=true:=by
    rw [abh]
    intro x M
    exact (List.mem_replicate.mp M).2
  rw [this]
  exact k b (S.trans c)
def jM (T:Txt K mg Ad):Def P w K mg base "look_at_state" 7 ["hold","state"] (vJ K Ad.bD):=by
 refine T.sg.cN qR λ Z Z Z Z Z H v Q E d h=>?_
 obtain ⟨a,f,m,p,S,rfl,c,e,ok,k⟩:=h
 refine ⟨_,(ap (bC (eK (cP (ay (zb T) d.m (aa (pv 0) (aa (pv 1) ag))))) (ap cB) aK)),?_⟩
 try dsimp only [eT,bq]
 exact ⟨_,rfl,_,rfl,a,f,m,p,S,rfl,c,e,ok,λ b s=>⟨_,rfl,fe (k b s)⟩⟩
def ni (T:Txt K mg Ad):Def P w K mg base "with_stove" 5 ["hold"] (u9 K Ad.bD):=by
 refine T.wU.cN vh λ Z Z Z Z Z H V Q E c h=>?_
 obtain ⟨a,F,m,rfl,f,k⟩:=h
 refine ⟨_,(ap (aH (ay (nX T) c.m (aa (fC ["room"] ["hold"] [0] (.cons ⟨rfl,rfl,.inl rfl⟩ .nil) rfl (ck rfl T.de (aa (fD (pv 0) T.aJ (cI T) .nil c.m) ag)) (λ Z Z Z Z Z=>(kY (i:=0))) (λ Z Z Z Z Z=>(jo (aL pF (aV (pv 1) T.aJ (dZ T) .nil c.m (aa (pv 0) ag)) c5 (aM _)))) (λ Z Z Z Z Z=>(pv 0))) ag)))),?_⟩
 try dsimp only [eT,bq]
 obtain ⟨⟨l,G,y,x,J,S,V,W,B,Z,t,Z⟩,M,N,O,R⟩:=id f
 refine ⟨_,rfl,a,l,_,rfl,t,rfl,a,F,m,rfl,f,_,rfl,by lia,by lia,λ D p=>?_⟩
 refine dQ (lo:=0) (n:=m.rows.length) (λ i A U b=>A4 (aG H b) (b D=some (.lst A)) (A=((List.range i).filter m.has).map aq) (∃ v,U=[v,some (.ref a)])) ⟨ak p,af,rfl,none,rfl⟩ ?_ ?_
 .
  rintro i A U b C ⟨s,j,rfl,v,rfl⟩
  have u:=mM (m:=m) (i:=i) (by lia)
  have o:((List.range (i+1)).filter m.has).map aq=((List.range i).filter m.has).map aq++(if m.has i=true then [aq i] else []):=by
    rw [aa5,abo,aaf]
    by_cases q:m.has i=true<;>simp [q]
  have L:=aa8 m.has (List.range i)
  rw [aak] at L
  refine ⟨_,rfl,a,l,_,rfl,s _ _ t,rfl,_,rfl,a,F,m,i,_,(by rw [aa0];rfl),f.same s,u,λ v d=>⟨rfl,_,rfl,?_⟩⟩
  cases e:m.pJ i with
  | none =>
    rw [e] at d
    have d:v = .cL:=d
    have g:m.has i=false:=by unfold ar.has;rw [e];rfl
    refine fO d ⟨s,j,?_,_,rfl⟩
    rw [o,g];simp
  | some z =>
    rw [e] at d
    obtain ⟨I,Z,rfl,Z⟩:=d.bV
    have g:m.has i=true:=by unfold ar.has;rw [e];rfl
    refine Q5 nofun ⟨_,rfl,j,aW (by rw [M1];lia),s.put p,af,?_,_,rfl⟩
    rw [o,g,aa0];rfl
 . rintro A U b ⟨s,j,rfl,v,rfl⟩
   exact ⟨D,(List.range m.rows.length).filter m.has,rfl,aT.of j,λ r c=>by have:=aaD.mp (aa7.mp c).1;lia,k b s⟩
def tY (T:Txt K mg Ad):Def P w K mg base "wood_of" 6 ["hold","bits"] (AW K Ad.bD):=by
 refine T.Ef.cN AB λ Z Z Z Z Z H vs Q E n h=>?_
 obtain ⟨a,F,m,b,rfl,l,k⟩:=h
 refine ⟨_,(ap (aH (aU (DY rfl) (by rfl) T.Oe MH (aa (fC ["room"] ["hold"] [0] (.cons ⟨rfl,rfl,.inl rfl⟩ .nil) rfl (cf (ay (kL T) n.m (aa (ax mP (pv 1) (ay (ni T) n.m (aa (pv 0) ag))) ag))) (λ Z Z Z Z Z=>(kY (i:=0))) (λ Z Z Z Z Z=>cw) (λ Z Z Z Z Z=>(au (dX (K:=K) rfl) (aV (pv 1) T.aJ (dZ T) .nil n.m (aa (pv 0) ag)) ac))) ag)))),?_⟩
 try dsimp only [eT,bq]
 obtain ⟨⟨G,pm,HR,HE,Jk,vm,vs,vt,aE,Z,L,Z⟩,q1,q2,R,q4⟩:=id l
 refine ⟨_,rfl,_,rfl,a,F,m,rfl,l,λ H1 W=>⟨_,_,rfl,rfl,λ y I=>⟨b &&& m.ws,(by rw [I,og];rfl),?_,λ p C hG X o=>⟨p,rfl,⟨_,aT.of o⟩,λ D f=>?_⟩⟩⟩⟩
 . exact aat acX (ac6 (uC R) (by decide))
 have S:=W.trans X
 have lr:=vX (b &&& m.ws)
 have nD:p≠D:=aA o f
 refine cE (K:=K) (a:=p) (xs:=(Bit.rooms (b &&& m.ws)).map aq) (λ j A U c=>A4 (aG C c) (c D=some (.lst A)) (A=(((Bit.rooms (b &&& m.ws)).take j).map m.wd).map V.int) (∃ v,U=[v,some (.ref a)]))
   ⟨ak f,af,rfl,none,rfl⟩ (λ j A U c Z e=>aT.of (e.1 _ _ o)) ?_ ?_
 .
  rintro j x A U c M ⟨s,g,rfl,v,rfl⟩
  obtain ⟨r,d,rfl⟩:=dI M
  have B:=(Bit.fW.mp (aae d)).2
  rw [abu,ar.ws,Ord.iN,aaY,aaY,ab2] at B
  obtain ⟨Z,Lv,J⟩:=B
  obtain ⟨z,t⟩:=abN.mp J
  have N:=mM (m:=m) (i:=r) (by lia)
  have hj:j<(Bit.rooms (b &&& m.ws)).length:=(Bj.mp d).1
  refine ⟨_,rfl,a,G,_,rfl,(S.trans s) _ _ L,rfl,_,rfl,a,F,m,r,_,rfl,l.same (S.trans s),N,λ u q=>?_⟩
  rw [t] at q
  obtain ⟨O,v1,rfl,Y,Z⟩:=q.bV
  refine ⟨O,_,_,_,rfl,rfl,.inr Y,rfl,g,aW (by rw [M1,M1,aaF];lia),s.put f,af,?_,_,rfl⟩
  rw [bU d,aaf,aaf]
  have:m.wd r=z.2.1:=by unfold ar.wd;rw [t];rfl
  show _=_++[V.int (m.wd r)]
  rw [this]
 .
  rintro A U c ⟨s,g,rfl,v,rfl⟩
  rw [M1,aaA] at g
  refine ⟨D,_,rfl,aT.of g,λ r d=>?_⟩
  rw [d]
  exact k c (S.trans s)
def xJ (T:Txt K mg Ad):Def P w K mg base "must_stay" 3 ["state"] (xn K):=by
 refine T.yV.cN yb λ Z Z Z Z Z H X Q E c h=>?_
 obtain ⟨p,s,rfl,B,M,k⟩:=h
 refine ⟨_,(ap (aH (ay (nX T) c.m (aa (fC ["room","wait"] [] [] .nil rfl (LY rfl T.dC (aa (au ao (pv 0) ac) ag)) (λ Z Z Z Z Z=>(dg (K:=K) (n:=2) rfl rfl (aS (kY (i:=0)) (aS (kY (i:=1)) db)))) (λ Z Z Z Z Z=>(jo (aL tJ (pv 1) ac (aM _)))) (λ Z Z Z Z Z=>(pv 0))) ag)))),?_⟩
 try dsimp only [eT,bq]
 obtain ⟨O,t,R,y,F,o,I⟩:=id B
 refine ⟨_,rfl,p,_,_,_,rfl,rfl,.inr y,rfl,t,rfl,⟨_,o⟩,λ D q=>?_⟩
 refine j6 (sq:=bY K) (a:=t) (xs:=s.ib.map aq) (λ i A U b=>A4 (aG H b) (b D=some (.lst A)) (A=((List.range i).filter s.wt).map aq) (E2 λ v V=>U=[v,V]))
   ⟨ak q,af,rfl,none,none,rfl⟩ (λ i A U b Z e=>e.1.tup o) ?_ ?_
 .
  rintro i x f A U b C u ⟨S,j,rfl,v,V,rfl⟩
  obtain ⟨W,z,rfl⟩:=dI C
  have J:i<s.ib.length:=(Bj.mp z).1
  have l:gN s.ib i=W:=by unfold gN;rw [z];rfl
  have g:aG b (upd b f (.tup [aq i,aq W])):=ak u
  have N:D≠f:=aA j u
  have G:=g _ _ j
  have L:=aa8 s.wt (List.range i)
  rw [aak] at L
  refine ⟨f,_,rfl,bY.of af,rfl,_,_,rfl,_,_,rfl,rfl,?_⟩
  refine ⟨_,rfl,_,_,rfl,rfl,_,rfl,eM (λ h=>?_) (λ h=>?_)⟩
  . have d:s.wt i=true:=by unfold cr.wt;rw [l];exact aaH (by lia)
    refine ⟨_,rfl,G,aW (by rw [M1];lia),(S.trans g).put q,af,?_,_,_,rfl⟩
    rw [aa5,abo,aaf]
    simp [d]
  . have d:s.wt i=false:=by unfold cr.wt;rw [l];exact aaq (by lia)
    refine ⟨S.trans g,G,?_,_,_,rfl⟩
    rw [aa5,abo,aaf]
    simp [d]
 . rintro A U b ⟨S,j,rfl,v,V,rfl⟩
   rw [M1] at j
   exact ⟨D,(List.range s.ib.length).filter s.wt,rfl,aT.of j,λ r c=>by have:=aaD.mp (aa7.mp c).1;lia,k b S⟩
def zJ (T:Txt K mg Ad):Def P w K mg base "can_burn" 7 ["hold","order","heap"] (zm K Ad.bD):=by
 refine T.Bc.cN zk λ Z Z Z Z Z H v Q E d h=>?_
 obtain ⟨a,F,m,o,b,rfl,c,j,k⟩:=h
 refine ⟨_,(ap (aH (tR (dh jq (ay (rR T) d.m (aa (pv 1) ag)) (bj (pv 0) rfl) (aM _)) (qS (dh jq (ay (tY T) d.m (aa (pv 0) (aa (pv 1) ag))) (pv 2) (aM _)))))),?_⟩
 try dsimp only [eT,bq]
 obtain ⟨⟨D,p,n,l,J,V,v,x,A,Z,i,Z⟩,q,r,t,u⟩:=id c
 refine ⟨_,rfl,o,rfl,j,λ f s=>⟨_,rfl,a,_,D,_,_,rfl,s _ _ i,T.aJ,T.kG,yy ..,_,_,rfl,rfl,_,rfl,eM (λ h=>?_) (λ h=>?_)⟩⟩
 .
  refine ⟨_,rfl,_,rfl,a,F,m,o,rfl,c.same s,λ g S=>⟨_,rfl,_,_,rfl,rfl,?_⟩⟩
  have e:m.EG o b=decide (m.kh o<=b):=by unfold ar.EG;rw [aaH h,Bool.true_and]
  have:=k g (s.trans S)
  rw [e] at this
  exact this
 .
  have e:m.EG o b=false:=by unfold ar.EG;rw [aaq h,adN]
  have:=k f s
  rw [e] at this
  exact this
def xp (T:Txt K mg Ad):Def P w K mg base "orders_of" 8 ["hold","state"] (yc K Ad.bD):=by
 refine T.yS.cN kA λ Z Z Z Z Z H vs Q E c h=>?_
 obtain ⟨a,F,m,p,s,rfl,l,B,ok,k⟩:=h
 refine ⟨_,(ai (bA (ay (jM T) c.m (aa (pv 0) (aa (pv 1) ag))))
     (ai (cH (i:=2) kA.nd (ay (xJ T) c.m (aa (pv 1) ag)))
     (ai (cH (i:=3) kA.nd (ax mP (au ao (pv 1) ac) (pv 2)))
     (ap (aH (fC ["order"] ["going_on","hold","held","state"] [3,0,2,1] (.cons ⟨rfl,rfl,.inl rfl⟩ (.cons ⟨rfl,rfl,.inl rfl⟩ (.cons ⟨rfl,rfl,.inl rfl⟩ (.cons ⟨rfl,rfl,.inl rfl⟩ .nil)))) rfl (cf (ay (uJ T) c.m (aa (ay (ni T) c.m (aa (pv 0) ag)) ag))) (λ Z Z Z Z Z=>(kY (i:=0))) (λ Z Z Z Z Z=>(jo (PW.pt (qZ (aL cV (ax mP (pv 0) (pv 3)) (pv 1) (aM _)) (mV (cP (ay (zJ T) c.m (aa (pv 2) (aa (pv 0) (aa (au (dX (K:=K) rfl) (pv 4) ac) ag)))))))))) (λ Z Z Z Z Z=>(pv 0)))))))),?_⟩
 try dsimp only [eT,bq]
 try (refine eP ?_;intro Z Z Z Z Z)
 obtain ⟨pb,pw,pf,G,eb,ew,ef⟩:=id B
 obtain ⟨⟨dx,pm,HR,HE,Jk,vm,vs,vt,aE,Z,ha,Z⟩,q1,q2,M,q4⟩:=id l
 refine ⟨_,rfl,_,rfl,a,F,m,p,s,rfl,l,B,ok,λ H1 O=>?_⟩
 refine ⟨_,rfl,p,s,rfl,B.same O,by rw [ok.lw];exact M,λ H2 s2=>?_⟩
 have r:=O.trans s2
 refine ⟨_,rfl,p,_,_,_,rfl,rfl,.inr (r.tup G),rfl,_,rfl,_,_,rfl,rfl,λ X t=>?_⟩
 obtain rfl:X=((s.cC &&& s.held:Nat):Int):=by rw [t,og]
 have L:=uC M
 have V:(Bit.rooms m.ws).length<=8:=by
   rw [ar.ws,Ord.Dy _ (by lia)]
   have:=aa8 m.has (List.range m.rows.length)
   rw [aak] at this
   lia
 refine ⟨_,rfl,a,F,m,rfl,l.same r,λ H3 s3=>⟨m.ws,rfl,ac6 L (by decide),V,λ J R hG sm C=>⟨J,rfl,⟨_,aT.of C⟩,λ D z=>?_⟩⟩⟩
 have f:=(r.trans s3).trans sm
 have lp:(Bit.parts (Bit.rooms m.ws)).length<=16:=by
   rw [Ord.CI _ L]
   exact aax (aa8 _ _) (by rw [aak];decide)
 have N:∀ o∈Bit.parts (Bit.rooms m.ws),o<16:=λ o h=>by
   rw [Ord.CI _ L] at h
   exact aaD.mp (aa7.mp h).1
 generalize iE:Bit.parts (Bit.rooms m.ws)=d at lp N C
 refine cE (K:=K) (a:=J) (xs:=d.map aq) (λ j A U b=>A4 (aG R b) (b D=some (.lst A)) (A=((d.take j).filter (s.DZ m)).map aq) (∃ v,U=[v,some (aq (s.cC &&& s.held)),some (.ref a),some (aq s.held),some (.ref p)]))
   ⟨ak z,af,rfl,none,rfl⟩ (λ j A U b Z e=>aT.of (e.1 _ _ C)) ?_ ?_
 .
  rintro j x A U b hx ⟨S,Y,rfl,v,rfl⟩
  obtain ⟨o,I,rfl⟩:=dI hx
  have ho:=N o (aae I)
  have la:=aa8 (s.DZ m) (d.take j)
  rw [aaF] at la
  refine ⟨_,rfl,_,rfl,_,_,rfl,rfl,λ y W=>⟨_,rfl,rfl,_,rfl,?_⟩⟩
  obtain rfl:y=((o &&& s.held:Nat):Int):=by rw [W,og]
  have u:((d.take (j+1)).filter (s.DZ m)).map aq=((d.take j).filter (s.DZ m)).map aq++(if s.DZ m o=true then [aq o] else []):=by
    rw [bU I,abo,aaf]
    cases q:s.DZ m o<;>simp [q]
  refine eM (λ h=>?_) (λ h=>?_)
  .
   have h:o &&& s.held=s.cC &&& s.held:=by have:=eF.mp h;lia
   have g:s.DZ m o=m.EG o s.heap:=by unfold cr.DZ;rw [aaH h,Bool.true_and]
   refine ⟨_,rfl,_,rfl,_,rfl,p,_,_,_,rfl,rfl,.inr ((f.trans S).tup G),rfl,a,F,m,o,_,rfl,l.same (f.trans S),ac6 ho (by decide),λ H5 n=>⟨_,rfl,?_⟩⟩
   cases q:m.EG o s.heap with
   | true =>
     refine f7 ⟨_,rfl,n _ _ Y,aW (by rw [M1];lia),(S.trans n).put z,af,?_,_,rfl⟩
     rw [u,g,q];rfl
   | false =>
     refine fe ⟨S.trans n,n _ _ Y,?_,_,rfl⟩
     rw [u,g,q];simp
  . have h:¬ (o &&& s.held=s.cC &&& s.held):=λ e=>h (by rw [e];rfl)
    have g:s.DZ m o=false:=by unfold cr.DZ;rw [aaq h,adN]
    refine fe ⟨S,Y,?_,_,rfl⟩
    rw [u,g];simp
 .
  rintro A U b ⟨S,Y,rfl,v,rfl⟩
  rw [M1,aaA] at Y
  refine k D b (f.free z) (f.trans S) ?_
  rw [Y,<- iE]
  rfl
def AV (T:Txt K mg Ad):Def P w K mg base "failing" 5 ["hold","state","order"] (AF K Ad.bD):=by
 refine T.De.cN uS λ Z Z Z Z Z H vs Q E b h=>?_
 obtain ⟨a,fp,m,p,s,o,rfl,R,hs,ok,l,k⟩:=h
 refine ⟨_,(ai (cH (i:=3) uS.nd (ax mP (pv 2) (rN BI (au ao (pv 1) ac))))
     (ap (aH (ay (nX T) b.m (aa (fC ["room"] ["state","hold"] [1,0] (.cons ⟨rfl,rfl,.inl rfl⟩ (.cons ⟨rfl,rfl,.inl rfl⟩ .nil)) rfl (cf (ay (kL T) b.m (aa (pv 3) ag))) (λ Z Z Z Z Z=>(kY (i:=0))) (λ Z Z Z Z Z=>(jo (aL jR (au (dX (K:=K) rfl) (au (dX (K:=K) rfl) (pv 1) ac) (pv 0)) (au (dX (K:=K) rfl) (aV (pv 2) T.aJ (dZ T) .nil b.m (aa (pv 0) ag)) ac) (aM _)))) (λ Z Z Z Z Z=>(pv 0))) ag))))),?_⟩
 try dsimp only [eT,bq]
 obtain ⟨pb,pw,pf,J,eb,ew,ef⟩:=id hs
 obtain ⟨⟨dx,pm,HR,HE,Jk,vm,vs,vt,aE,Z,ha,Z⟩,q1,q2,t,q4⟩:=id R
 have B:o<16:=by rw [<- l];exact aat acX (uC t)
 have WI:s.cC<16:=Ord.Kf t ok.cC
 refine ⟨_,rfl,_,rfl,p,_,_,_,rfl,rfl,.inr J,rfl,_,rfl,_,_,rfl,rfl,λ y ey=>?_⟩
 obtain rfl:y=((Ord.off o s.cC:Nat):Int):=by rw [ey];exact n9 _ _
 have F:Ord.off o s.cC<2 ^ 4:=Ord.Ky (n:=4) B
 have L:=LF t ok l
 have f:∀ r∈Bit.rooms (Ord.off o s.cC),r<m.rows.length/\m.has r=true:=λ r b=>by
   have:=(Bit.fW.mp b).2
   rw [Ord.wZ B WI,aaY] at this
   exact DS l this.1
 generalize Ord.off o s.cC=z at F L f |-
 refine ⟨_,rfl,z,rfl,ac6 F (by decide),λ W Y hG X V=>⟨W,rfl,⟨_,aT.of V⟩,λ D O=>?_⟩⟩
 refine cE (K:=K) (a:=W) (xs:=(Bit.rooms z).map aq) (λ j A U c=>A4 (aG Y c) (c D=some (.lst A)) (A=(((Bit.rooms z).take j).filter λ r=>decide ((gN s.failed r:Int)<m.fails r)).map aq) (∃ v,U=[v,some (.ref p),some (.ref a)]))
   ⟨ak O,af,rfl,none,rfl⟩ (λ j A U c Z e=>aT.of (e.1 _ _ V)) ?_ ?_
 .
  rintro j x A U c hx ⟨S,g,rfl,v,rfl⟩
  obtain ⟨r,M,rfl⟩:=dI hx
  obtain ⟨Lv,JL⟩:=f r (aae M)
  obtain ⟨zz,N⟩:=uu JL
  have hz:=mM (m:=m) (i:=r) (by lia)
  have d:=X.trans S
  have la:=aa8 (λ r=>decide ((gN s.failed r:Int)<m.fails r)) ((Bit.rooms z).take j)
  have lr:=vX z
  rw [aaF] at la
  have G:m.fails r=zz.2.2.2:=by unfold ar.fails;rw [N];rfl
  refine ⟨_,rfl,p,_,_,_,rfl,rfl,.inr (d.tup J),rfl,_,rfl,pf,_,_,_,rfl,rfl,.inr (d.tup ef),rQ (by rw [ok.lf];exact Lv),?_⟩
  refine ⟨_,rfl,a,dx,_,rfl,d _ _ ha,rfl,_,rfl,a,fp,m,r,_,rfl,R.same d,hz,λ u I=>?_⟩
  rw [N] at I
  obtain ⟨pz,v1,rfl,uX,Z⟩:=I.bV
  have C:(((Bit.rooms z).take (j+1)).filter λ r=>decide ((gN s.failed r:Int)<m.fails r)).map aq=(((Bit.rooms z).take j).filter λ r=>decide ((gN s.failed r:Int)<m.fails r)).map aq++(if decide ((gN s.failed r:Int)<m.fails r)=true then [aq r] else []):=by
    rw [bU M,abo,aaf]
    by_cases q:(gN s.failed r:Int)<m.fails r<;>simp [q]
  refine ⟨pz,_,_,_,rfl,rfl,.inr uX,rfl,_,_,rfl,rfl,_,rfl,eM (λ h=>?_) (λ h=>?_)⟩
  . refine ⟨_,rfl,g,aW (by rw [M1];lia),S.put O,af,?_,_,rfl⟩
    rw [C,aaH (by rw [G];exact h)];rfl
  . refine ⟨S,g,?_,_,rfl⟩
    rw [C,aaq (by rw [G];exact h)];simp
 .
  rintro A U c ⟨S,g,rfl,v,rfl⟩
  rw [M1,aaA] at g
  have:=k c (X.trans S)
  rw [<- L] at this
  exact ⟨D,_,rfl,aT.of g,λ r b=>by have:=(f r (aa7.mp b).1).1;lia,this⟩
def ug (T:Txt K mg Ad):Def P w K mg base "wait_behind" 5 ["hold","state","burning","room"] (tZ K Ad.bD):=by
 refine T.vn.cN tT λ Z Z Z Z Z H G Q E f h=>?_
 obtain ⟨a,F,m,p,s,b,i,rfl,l,x,ok,v,A,r,k⟩:=h
 refine ⟨_,(ai (bC (aL rS (ay (fx T) f.m (aa (au ao (pv 1) ac) (aa (pv 3) ag))) (ay (fx T) f.m (aa (pv 2) (aa (pv 3) ag))) (aM _)) (ap (aH (au ao (aV (pv 0) T.aJ (dZ T) .nil f.m (aa (pv 3) ag)) ac))) aK)
     (ap (aH (aU (qz rfl) (by rfl) T.E6 Bv (aa ac (aa (ax cS (au ao (au ao (pv 1) ac) (pv 3)) ac) ag)))))),?_⟩
 try dsimp only [eT,bq]
 obtain ⟨X,B,Y,g,O,q,R⟩:=id x
 obtain ⟨⟨n,pm,L,I,M,vm,G,vt,N,Z,t,Z⟩,q1,q2,q3,q4⟩:=id l
 refine ⟨_,rfl,p,_,_,_,rfl,rfl,.inr g,rfl,_,rfl,s.cC,i,rfl,?_⟩
 refine ⟨_,rfl,_,rfl,b,i,rfl,rfl,_,rfl,DF (λ S=>?_) (λ c=>?_)⟩
 .
  have S:¬ s.cC.testBit i=b.testBit i:=λ e=>S (by rw [e])
  obtain ⟨z,j⟩:=uu (A S)
  have J:=mM (m:=m) (i:=i) (by lia)
  refine ⟨_,rfl,a,n,_,rfl,t,rfl,_,rfl,a,F,m,i,_,rfl,l,J,λ u D=>?_⟩
  rw [j] at D
  obtain ⟨C,v1,rfl,U,Z⟩:=D.bV
  have o:m.eE i=z.2.2.1:=by unfold ar.eE;rw [j];rfl
  have d:aq (s.i8 m b i) = .int z.2.2.1:=by
    unfold cr.i8
    rw [aap S,<- o]
    show V.int _=_
    rw [acd r]
  rw [d] at k
  exact ⟨C,_,_,_,rfl,rfl,.inr U,rfl,k⟩
 .
  have c:s.cC.testBit i=b.testBit i:=by injection c
  refine ⟨_,rfl,p,_,_,_,rfl,rfl,.inr g,rfl,_,rfl,B,_,_,_,rfl,rfl,.inr q,rQ (by rw [ok.lw];exact v),_,_,rfl,rfl,λ y W=>?_⟩
  refine ⟨0,y,rfl,?_⟩
  have d:(if y > 0 then y else 0)=((s.i8 m b i:Nat):Int):=by
    unfold cr.i8
    rw [aan c]
    split<;>lia
  rw [d]
  exact k
def qk (T:Txt K mg Ad):Def P w K mg base "failed_behind" 2 ["state","burning","out","room"] (pW K):=by
 refine T.sx.cN qW λ Z Z Z Z Z H v Q E g h=>?_
 obtain ⟨p,S,b,o,i,rfl,n,f,k⟩:=h
 refine ⟨_,(ai (bC (cP (ay (fx T) g.m (aa (pv 2) (aa (pv 3) ag)))) (ap (aH (ax aO (au ao (au ao (pv 0) ac) (pv 3)) ac))) aK)
     (ai (bC (cP (ay (fx T) g.m (aa (pv 1) (aa (pv 3) ag)))) (ap (aH ac)) aK)
     (ap (aH (au ao (au ao (pv 0) ac) (pv 3)))))),?_⟩
 try dsimp only [eT,bq]
 try (refine d9 ?_;intro Z Z Z Z)
 obtain ⟨s,t,j,e,q,r,a⟩:=id n
 unfold cr.jU at k
 refine ⟨_,rfl,_,rfl,o,i,rfl,_,rfl,?_⟩
 cases c:o.testBit i with
 | true =>
   rw [c] at k
   refine f7 ⟨_,rfl,p,_,_,_,rfl,rfl,.inr e,rfl,_,rfl,j,_,_,_,rfl,rfl,.inr a,rQ f,_,_,rfl,rfl,λ y l=>?_⟩
   rw [l]
   exact k
 | false =>
   rw [c] at k
   refine fe ⟨_,rfl,_,rfl,b,i,rfl,_,rfl,?_⟩
   cases d:b.testBit i with
   | true =>
     rw [d] at k
     exact f7 k
   | false =>
     rw [d] at k
     exact fe ⟨_,rfl,p,_,_,_,rfl,rfl,.inr e,rfl,_,rfl,j,_,_,_,rfl,rfl,.inr a,rQ f,k⟩
def qj (T:Txt K mg Ad):Def P w K mg base "stoves_behind" 7 ["hold","state","order","out"] (Ea K Ad.bD):=by
 refine T.sJ.cN eh λ Z Z Z Z Z H vs Q E e h=>?_
 obtain ⟨a,F,m,p,S,o,O,rfl,d,z,ok,V,h0,M,k⟩:=h
 refine ⟨_,(ai (cH (i:=4) eh.nd (ax mP (pv 2) (rN BI (pv 3))))
     (ai (rG (yi:=5) ["room"] ["hold","state","burning"] [0,1,4] (.cons ⟨rfl,rfl,.inl rfl⟩ (.cons ⟨rfl,rfl,.inl rfl⟩ (.cons ⟨rfl,rfl,.inl rfl⟩ .nil))) rfl (ck rfl T.de (aa (fD (pv 0) T.aJ (cI T) .nil e.m) ag)) (λ Z Z Z Z Z=>(kY (i:=0))) (λ Z Z Z Z Z=>cw) (λ Z Z Z Z Z=>(ay (ug T) e.m (aa (pv 1) (aa (pv 2) (aa (pv 3) (aa (pv 0) ag)))))) eh.nd (lc rfl))
     (ai (rG (yi:=6) ["room"] ["state","burning","out"] [1,4,3] (.cons ⟨rfl,rfl,.inl rfl⟩ (.cons ⟨rfl,rfl,.inl rfl⟩ (.cons ⟨rfl,rfl,.inl rfl⟩ .nil))) rfl (ck rfl T.de (aa (fD (pv 0) T.aJ (cI T) .nil e.m) ag)) (λ Z Z Z Z Z=>(kY (i:=0))) (λ Z Z Z Z Z=>cw) (λ Z Z Z Z Z=>(ay (qk T) e.m (aa (pv 1) (aa (pv 2) (aa (pv 3) (aa (pv 0) ag)))))) eh.nd (lc rfl))
     (ai (cH (i:=7) eh.nd (aU (vM rfl) (by rfl) T.JV FJ (aa (bj (pv 0) rfl) (aa (ax aO (ax cS (au ao (pv 1) ac) (ay (tY T) e.m (aa (pv 0) (aa (pv 4) ag)))) (bj (pv 0) rfl)) ag))))
     (ap (aH (aZ (aa (pv 4) (aa (cD dS (by rfl) T.kz iT (aa (pv 5) ag)) (aa (cD dS (by rfl) T.kz iT (aa (pv 6) ag)) (aa (pv 7) ag))))))))))),?_⟩
 try dsimp only [eT,bq]
 try (refine pE ?_;intro Z Z Z Z Z Z)
 obtain ⟨pb,pw,pf,e0,eb,ew,ef⟩:=id z
 obtain ⟨⟨l,pm,HR,HE,Jk,vm,vs,vt,aE,Z,r,Z⟩,q1,q2,q3,q4⟩:=id d
 refine ⟨_,rfl,_,rfl,_,rfl,_,_,rfl,rfl,λ y ey=>?_⟩
 obtain rfl:y=((Ord.off o O:Nat):Int):=by rw [ey];exact n9 _ _
 generalize Ord.off o O=b at V M k |-
 refine ⟨_,rfl,a,l,_,rfl,r,rfl,a,F,m,rfl,d,_,rfl,by lia,by lia,λ D R=>?_⟩
 refine dQ (lo:=0) (n:=m.rows.length) (λ j A U c=>A4 (aG H c) (c D=some (.lst A)) (A=((List.range j).map (S.i8 m b)).map aq) (∃ v,U=[v,some (.ref a),some (.ref p),some (aq b)])) ⟨ak R,af,rfl,none,rfl⟩ ?_ ?_
 . rintro j A U c t ⟨s,J,rfl,v,rfl⟩
   refine ⟨_,rfl,_,rfl,_,rfl,_,rfl,a,F,m,p,S,b,j,(by rw [aa0];rfl),d.same s,z.same s,ok,t,V j,h0 j,J,aW (by rw [M1,M1,aak];lia),s.put R,af,?_,_,rfl⟩
   rw [aa5,aaf,aaf];rfl
 rintro A U H1 ⟨s,J,rfl,v,rfl⟩
 refine ⟨_,rfl,a,l,_,rfl,s _ _ r,rfl,a,F,m,rfl,d.same s,_,rfl,by lia,by lia,λ I N=>?_⟩
 refine dQ (lo:=0) (n:=m.rows.length) (λ j A U c=>A4 (aG H1 c) (c I=some (.lst A)) (A=((List.range j).map (S.jU b O)).map aq) (∃ v,U=[v,some (.ref p),some (aq b),some (aq O)])) ⟨ak N,af,rfl,none,rfl⟩ ?_ ?_
 . rintro j A U c t ⟨f,B,rfl,v,rfl⟩
   refine ⟨_,rfl,_,rfl,_,rfl,_,rfl,p,S,b,O,j,(by rw [aa0];rfl),z.same (s.trans f),by rw [ok.lf];exact t,B,aW (by rw [M1,M1,aak];lia),f.put N,af,?_,_,rfl⟩
   rw [aa5,aaf,aaf];rfl
 rintro A U H2 ⟨f,B,rfl,v,rfl⟩
 have g:=s.trans f
 refine ⟨_,rfl,a,_,l,_,_,rfl,g _ _ r,T.aJ,T.lA,BO ..,?_⟩
 refine ⟨_,rfl,p,_,_,_,rfl,rfl,.inr (g.tup e0),rfl,?_⟩
 refine ⟨_,rfl,_,rfl,a,F,m,b,rfl,d.same g,λ H3 C=>?_⟩
 have L:=g.trans C
 refine ⟨_,_,rfl,rfl,λ x1 g1=>⟨_,rfl,a,_,l,_,_,rfl,L _ _ r,T.aJ,T.pM,FK ..,_,_,rfl,rfl,λ X g2=>⟨_,X,rfl,?_⟩⟩⟩
 have e2:(if X<m.fR then X else m.fR)=(((S.mo m b).toNat:Nat):Int):=by
   rw [acd M]
   unfold cr.mo
   split<;>lia
 rw [e2]
 refine ⟨_,rfl,_,rfl,D,_,rfl,.inl ⟨aT.of ((f.trans C) _ _ J),λ Y x=>?_⟩⟩
 have u1:aG _ _:=ak (o:=.tup (((List.range m.rows.length).map (S.i8 m b)).map aq)) x
 refine ⟨_,rfl,I,_,rfl,.inl ⟨aT.of (u1 _ _ (C _ _ B)),λ W u=>?_⟩⟩
 have u2:aG _ _:=ak (o:=.tup (((List.range m.rows.length).map (S.jU b O)).map aq)) u
 refine ⟨_,rfl,pR,λ q hq=>?_⟩
 have G:aG _ _:=ak (o:=.tup [aq b,.ref Y,.ref W,aq (S.mo m b).toNat]) hq
 exact k q Y W _ (((L.trans u1).trans u2).trans G) af (G _ _ (u2 _ _ af)) (G _ _ af)
def nU (T:Txt K mg Ad):Def P w K mg base "sum_of_products" 3 ["pairs"] (KI K):=by
 refine T.pD.cN ca λ Z Z Z Z Z H vs Q E hr h=>?_
 obtain ⟨p,X,D,rfl,O,c,A,hl,hB,k⟩:=h
 refine ⟨_,(ai (cH (i:=1) ca.nd ac)
     (ai (cH (i:=2) ca.nd ac)
     (ai (cR aaI rfl (cf (pv 0)) (dg (K:=K) (n:=2) rfl rfl (aS (iD (i:=3) ca.nd) (aS (iD (i:=4) ca.nd) db))) (ai (cH (i:=5) ca.nd (ax bL (au ao (pv 3) ac) (au ao (pv 4) ac)))
     (ai (cH (i:=1) ca.nd (ax aO (ax bL (pv 1) (pv 5)) (ax bL (ax bL (au ao (pv 3) ac) (au ao (pv 4) ac)) (pv 2))))
     (ap (cH (i:=2) ca.nd (ax bL (pv 2) (pv 5)))))))
     (ap (aH (ay (lP T) hr.m (aa (pv 1) (aa (pv 2) ag)))))))),?_⟩
 try dsimp only [eT,bq]
 try (refine eP ?_;intro Z Z Z Z Z)
 have S:X.length=D.length:=by rw [c.length,M1]
 refine ⟨_,rfl,p,rfl,⟨_,O⟩,?_⟩
 refine jN (K:=K) (a:=p) (xs:=X) (λ i U g=>g=H/\E3 λ (V I J:eG)=>U=[some (.ref p),some (.int (dF (D.take i)).1),some (.int (dF (D.take i)).2),V,I,J]) ⟨rfl,none,none,none,rfl⟩ (λ i U g Z e=>by rw [e.1];exact O) ?_ ?_
 .
  rintro i x U g R ⟨rfl,V,I,J,rfl⟩
  have z:i<D.length:=by rw [<- S];exact (Bj.mp R).1
  obtain ⟨L,B,b3⟩:=wM D A i (by lia)
  have et:D.take (i+1)=D.take i++[D[i]]:=by rw [acn,aI z];rfl
  obtain ⟨y,ey,pq,ws,rfl,Y,l⟩:=c.get (i:=i) (d:=Gj D[i]) (by rw [Sb,aI z];rfl)
  obtain rfl:x = .ref pq:=aao (R.symm.trans ey)
  have c:=A D[i] (aar z)
  obtain ⟨w1,r1,rfl,d1,w2,r2,rfl,d2,f⟩:=l
  have f:r2=[]:=f
  subst f
  obtain ⟨C,rfl,o⟩:=Dn.fr d1
  obtain ⟨G,rfl,v⟩:=Dn.fr d2
  rw [et,jh]
  generalize D[i]=d at c o v |-
  generalize dF (D.take i)=s at L B b3 |-
  refine ⟨pq,_,rfl,Y,rfl,_,_,rfl,_,_,rfl,rfl,?_⟩
  refine ⟨_,rfl,C,_,_,_,rfl,rfl,.inr o,rfl,_,rfl,G,_,_,_,rfl,rfl,.inr v,rfl,_,_,rfl,rfl,⟨900,900,c.a.b,c.b.b,by decide⟩,λ be j=>?_⟩
  have j:be=d.1.2 * d.2.2:=j
  have M:Bd 1800 (d.1.2 * d.2.2):=c.a.b.mul c.b.b
  subst j
  have sm:1802 * i+2+1800<=100000:=by lia
  refine ⟨_,rfl,_,rfl,_,_,rfl,rfl,⟨1802 * i+2,1800,L,M,by lia⟩,λ x1 e1=>?_⟩
  refine ⟨_,rfl,C,_,_,_,rfl,rfl,.inr o,rfl,_,rfl,G,_,_,_,rfl,rfl,.inr v,rfl,_,_,rfl,rfl,⟨900,900,c.a.t,c.b.t,by decide⟩,λ x2 N=>?_⟩
  have bt:Bd 1800 x2:=by rw [N];exact c.a.t.mul c.b.t
  refine ⟨_,rfl,_,_,rfl,rfl,⟨1800,1800 * i+1,bt,B,by lia⟩,λ x3 f=>⟨_,_,rfl,rfl,λ x4 e4=>?_⟩⟩
  refine ⟨_,rfl,_,rfl,_,_,rfl,rfl,⟨1800 * i+1,1800,B,M,by lia⟩,λ x5 e5=>⟨rfl,some (.ref C),some (.ref G),some (.int (d.1.2 * d.2.2)),?_⟩⟩
  have f4:x4=s.1 * (d.1.2 * d.2.2)+d.1.1 * d.2.1 * s.2:=by rw [e4,e1,f,N]
  have f5:x5=s.2 * (d.1.2 * d.2.2):=e5
  rw [f4,f5]
  rfl
 .
  rintro U g ⟨rfl,V,I,J,rfl⟩
  rw [S,aaA]
  have U6:=Jc A
  refine ⟨_,rfl,_,rfl,_,_,rfl,by lia,hB,λ q r u W F s2 hu=>k u W s2 ?_⟩
  have:=F.nf U6
  rw [hu,<- this]
def oP (T:Txt K mg Ad):Def P w K mg base "warmth_of" 6 ["hold","room","airs","weather","fired"] (DJ K Ad.bD):=by
 refine T.Ak.cN oS λ Z Z Z Z Z H vs Q E M h=>?_
 obtain ⟨a,fp,m,i,pa,Qs,c,W,wf,F,rfl,L,hi,Sc,da,la,oa,dw,ow,hz,k⟩:=h
 refine ⟨_,(ai (rG (yi:=5) ["of","air"] ["room","hold"] [1,0] (.cons ⟨rfl,rfl,.inl rfl⟩ (.cons ⟨rfl,rfl,.inl rfl⟩ .nil)) rfl (rg rfl T.dC (aa (pv 2) ag)) (λ Z Z Z Z Z=>(dg (K:=K) (n:=2) rfl rfl (aS (kY (i:=0)) (aS (kY (i:=1)) db)))) (λ Z Z Z Z Z=>cw) (λ Z Z Z Z Z=>(aZ (aa (aV (pv 3) T.aJ (lO T) .nil M.m (aa (pv 2) (aa (pv 0) ag))) (aa (pv 1) ag)))) oS.nd (lc rfl))
     (ai (bA (hV aaG aaM aaL cz (pv 5) (aa (aZ (aa (au ao (aV (pv 0) T.aJ (pG T) .nil M.m (aa (pv 1) ag)) ac) (aa (pv 3) ag))) ag)))
     (ai (kc (bC (cP (pv 4)) (ap (bA (hV aaG aaM aaL cz (pv 5) (aa (aZ (aa (g8 (v:=V.ref _) rfl T.CT rfl) (aa (au ao (aV (pv 0) T.aJ (dZ T) .nil M.m (aa (pv 1) ag)) ac) ag))) ag)))) aK))
     (ap (aH (ay (nU T) M.m (aa (pv 5) ag))))))),?_⟩
 try dsimp only [eT,bq]
 try (refine eP ?_;intro Z Z Z Z Z)
 obtain ⟨⟨dx,pm,HR,HE,Jk,vm,vs,vt,aE,rq,ha,Z⟩,q1,q2,q3,q4⟩:=id L
 obtain ⟨ad,Uo,ab⟩:=jr (i:=i) (fired:=F) q4 q3 la oa ow hz
 have ZU:Qs.length=c.length:=by rw [da.length,M1]
 refine ⟨_,rfl,pa,rfl,⟨_,Sc⟩,λ D I=>?_⟩
 refine j6 (sq:=aT K) (a:=pa) (xs:=Qs) (λ j acc U b=>A4 (aG H b) (b D=some (.lst acc)) (bF K b (((List.range j).map λ j=>((m.share i j,c.getD j (0,1)):Pr)).map Gj) acc) (E2 λ v0 v1=>U=[v0,v1,some (aq i),some (.ref a)]))
   ⟨ak I,af,rfl,none,none,rfl⟩ (λ j acc U b Z e=>e.1.seq Sc) ?_ ?_
 .
  rintro j x pp acc U b hx tU ⟨t,J,o,v0,v1,rfl⟩
  have hj:j<c.length:=by rw [<- ZU];exact (Bj.mp hx).1
  obtain ⟨y,ey,dy⟩:=da.get (i:=j) (d:=dJ c[j]) (by rw [Sb,aI hj];rfl)
  obtain rfl:x=y:=aao (hx.symm.trans ey)
  have s:aG b (upd b pp (.tup [aq j,x])):=ak tU
  have nD:D≠pp:=aA J tU
  have O:=t.trans s
  refine ⟨pp,_,rfl,bY.of af,rfl,_,_,rfl,_,_,rfl,rfl,?_⟩
  refine ⟨_,rfl,a,dx,_,rfl,O _ _ ha,rfl,_,rfl,_,rfl,a,fp,m,i,j,rfl,L.same O,hi,by lia,λ v l s3 dv=>?_⟩
  have r:=O.trans s3
  refine ⟨_,rfl,vF,λ p iR=>?_⟩
  have S:aG l (upd l p (.tup [v,x])):=ak iR
  have C:=r.trans S
  have Y:=S _ _ (s3 _ _ (s _ _ J))
  have A:aQ K (upd l p (.tup [v,x])) (upd (upd l p (.tup [v,x])) D (.lst (acc++[.ref p]))):=bT Y rfl
  have Db:acc.length=j:=by rw [o.length,M1,M1,aak]
  refine ⟨Y,aW (by lia),(C).put I,af,?_,_,_,rfl⟩
  rw [aa5,aaf,aaf]
  refine (bF.ts ((aG.ts ((s.trans s3).trans S)).trans A) _ (ui _) o).snoc (Dn.ts A _ (sY _) ?_)
  have ea:c.getD j (0,1)=c[j]:=by rw [Qm,aI hj];rfl
  show Dn K _ (Gj (m.share i j,c.getD j (0,1))) _
  rw [ea]
  exact fS (bY.of af) (bo (Dn.same S _ dv) (bo (Dn.same C _ dy) cK))
 .
  rintro acc U g ⟨t,J,o,v0,v1,rfl⟩
  rw [ZU] at o
  have o:bF K g ((di m i c).map Gj) acc:=o
  have Db:acc.length<=4:=by rw [o.length,M1];unfold di;rw [M1,aak];lia
  have Rp:i<m.bS.length:=by lia
  have Qb:=aI Rp
  have Nh:m.gE i=m.bS[i].1:=by unfold ar.gE;rw [Qb];rfl
  refine ⟨_,rfl,.inl ⟨rfl,_,aT.of J⟩,_,rfl,a,dx,_,rfl,t _ _ ha,rfl,_,rfl,a,fp,m,i,_,rfl,L.same t,Qb,λ v dv=>?_⟩
  obtain ⟨p0,G,Sm,RA,rfl,vw,YB,LV,Ys⟩:=dv.pI
  refine ⟨p0,_,_,_,rfl,rfl,.inr vw,rfl,_,rfl,vF,λ p iR=>?_⟩
  have s:aG g (upd g p (.tup [G,W])):=ak iR
  have gQ:=s _ _ J
  refine ⟨D,_,_,rfl,rfl,gQ,aW (by lia),?_⟩
  have A:aQ K (upd g p (.tup [G,W])) (upd (upd g p (.tup [G,W])) D (.lst (acc++[.ref p]))):=bT gQ rfl
  have N:(upd (upd g p (.tup [G,W])) D (.lst (acc++[.ref p]))) D=some (.lst (acc++[.ref p])):=af
  have r:aG H (upd (upd g p (.tup [G,W])) D (.lst (acc++[.ref p]))):=(t.trans s).put I
  have d3:bF K (upd (upd g p (.tup [G,W])) D (.lst (acc++[.ref p]))) ((di m i c++[(m.gE i,wf)]).map Gj) (acc++[.ref p]):=by
    rw [aaf]
    refine (bF.ts ((aG.ts s).trans A) _ (ui _) o).snoc (Dn.ts A _ (sY _) ?_)
    refine fS (bY.of af) (bo (Dn.same s _ ?_) (bo (Dn.same (t.trans s) _ dw) cK))
    rw [Nh];exact YB
  generalize (upd (upd g p (.tup [G,W])) D (.lst (acc++[.ref p])))=l at N r d3 |-
  refine ⟨λ B b=>aG H b/\∃ X,A3 (b D=some (.lst X)) (bF K b ((fc m i c wf F).map Gj) X) (B=[some (.ref a),some (aq i),some (.ref pa),some W,some (.bl F),some (.ref D)]),?_,?_⟩
  .
   refine ⟨_,rfl,_,rfl,?_⟩
   cases F with
   | false =>
     refine fe ⟨r,_,N,?_,rfl⟩
     unfold fc
     rw [aap aaE,abf]
     exact d3
   | true =>
     obtain ⟨z,ez⟩:=hz rfl
     refine f7 ⟨_,rfl,.inl ⟨rfl,_,aT.of N⟩,?_⟩
     refine ⟨_,rfl,a,dx,_,rfl,r _ _ ha,rfl,_,rfl,a,fp,m,i,_,rfl,L.same r,ez,λ u du=>?_⟩
     obtain ⟨pz,zs,rfl,uX,t1,r1,rfl,e1,Z⟩:=du
     refine ⟨pz,_,_,_,rfl,rfl,.inr uX,cu (j:=0) rfl,vF,λ R SZ=>?_⟩
     have S:aG l (upd l R (.tup [.ref Ad.wA,t1])):=ak SZ
     have Y:=S _ _ N
     refine ⟨D,_,_,rfl,rfl,Y,aW (by rw [aab];simp only [aaX,ac8];lia),(r.trans S).put I,_,af,?_,rfl⟩
     have Yn:aQ K (upd l R (.tup [.ref Ad.wA,t1])) (upd (upd l R (.tup [.ref Ad.wA,t1])) D (.lst ((acc++[.ref p])++[.ref R]))):=bT Y rfl
     have X4:(((m.bw[i]?).getD none).map (·.1)).getD (0,1)=z.1:=by rw [ez];rfl
     unfold fc
     rw [aan rfl,aaf]
     refine (bF.ts ((aG.ts S).trans Yn) _ (ui _) d3).snoc (Dn.ts Yn _ (sY _) ?_)
     show Dn K _ (Gj ((1,1),(((m.bw[i]?).getD none).map (·.1)).getD (0,1))) _
     rw [X4]
     exact fS (bY.of af) (bo (T.Cc.fr (f:=(1,1))) (bo (Dn.same S _ e1) cK))
  . rintro B H4 ⟨C,X,Y,d4,rfl⟩
    exact ⟨_,rfl,D,X,_,rfl,aT.of Y,d4,ad,Uo,ab,λ q H5 s5 IK=>k q H5 (C.trans s5) IK⟩
def Bt (T:Txt K mg Ad):Def P w K mg base "span_of" 7 ["hold","room","bands","fired"] (Iy K Ad.bD):=by
 refine T.Da.cN i5 λ Z Z Z Z Z H vs Q E f h=>?_
 obtain ⟨a,O,m,i,W,B,F,rfl,L,hi,u,lb,R,hz,k⟩:=h
 refine ⟨_,(ai (ii (je ya (aV (pv 0) T.aJ (pG T) .nil f.m (aa (pv 1) ag)) (kB ac) kj) (dg (K:=K) (n:=2) rfl rfl (aS (iD (i:=4) i5.nd) (aS (iD (i:=5) i5.nd) db))))
     (ai (rG (yi:=6) ["of","band"] ["hold"] [0] (.cons ⟨rfl,rfl,.inl rfl⟩ .nil) rfl (ED rfl T.dC (aa (pv 2) ag)) (λ Z Z Z Z Z=>(dg (K:=K) (n:=2) rfl rfl (aS (kY (i:=0)) (aS (kY (i:=1)) db)))) (λ Z Z Z Z Z=>cw) (λ Z Z Z Z Z=>(au (dX (K:=K) rfl) (aV (pv 2) T.aJ (fo T) .nil f.m (aa (pv 0) ag)) (pv 1))) i5.nd (lc rfl))
     (ai (rG (yi:=7) ["of","band"] ["hold"] [0] (.cons ⟨rfl,rfl,.inl rfl⟩ .nil) rfl (ED rfl T.dC (aa (pv 2) ag)) (λ Z Z Z Z Z=>(dg (K:=K) (n:=2) rfl rfl (aS (kY (i:=0)) (aS (kY (i:=1)) db)))) (λ Z Z Z Z Z=>cw) (λ Z Z Z Z Z=>(au (dX (K:=K) rfl) (aV (pv 2) T.aJ (fo T) .nil f.m (aa (pv 0) ag)) (ax aO (pv 1) ac))) i5.nd (lc rfl))
     (ap (aH (aZ (aa (ay (oP T) f.m (aa (pv 0) (aa (pv 1) (aa (pv 6) (aa (pv 4) (aa (pv 3) ag)))))) (aa (ay (oP T) f.m (aa (pv 0) (aa (pv 1) (aa (pv 7) (aa (pv 5) (aa (pv 3) ag)))))) ag)))))))),?_⟩
 try dsimp only [eT,bq]
 try (refine eP ?_;intro Z Z Z Z Z)
 obtain ⟨⟨dx,g,HR,HE,Jk,vm,vs,vt,aE,rq,ha,Z⟩,q1,q2,q3,q4⟩:=id L
 have Rp:i<m.bS.length:=by lia
 have Qb:=aI Rp
 have Nh:jO m i=m.bS[i]:=by unfold jO;rw [Qb];rfl
 have An:=q4.bS m.bS[i] (aar Rp)
 have Pf:eB 120 (jO m i).2.1:=by rw [Nh];exact An.2.1.mono (by decide)
 have NJ:eB 120 (jO m i).2.2:=by rw [Nh];exact An.2.2.mono (by decide)
 have XX:(eX m B 0).length=m.rows.length:=by unfold eX;rw [M1,aak,lb]
 have Y0:(eX m B 1).length=m.rows.length:=by unfold eX;rw [M1,aak,lb]
 refine ⟨_,rfl,a,dx,_,rfl,ha,rfl,_,rfl,a,O,m,i,_,rfl,L,Qb,λ v dv=>?_⟩
 obtain ⟨p0,G5,Sm,RA,rfl,vw,YB,LV,Ys⟩:=dv.pI
 refine ⟨1,rfl,p0,_,1,rfl,vw,rfl,rfl,by decide,(by show 1<=3;decide),λ q0 hq=>?_⟩
 refine ⟨q0,_,rfl,bY.of af,rfl,_,_,rfl,_,_,rfl,rfl,?_⟩
 have M:aG H (upd H q0 (.tup ([G5,Sm,RA].drop 1))):=ak hq
 generalize upd H q0 (.tup ([G5,Sm,RA].drop 1))=H0 at M |-
 have Yo:Dn K H0 (dJ (jO m i).2.1) Sm:=by rw [Nh];exact Dn.same M _ LV
 have Zi:Dn K H0 (dJ (jO m i).2.2) RA:=by rw [Nh];exact Dn.same M _ Ys
 rcases u with u|u
 .
  have u:=M.seq u
  refine ⟨_,rfl,W,rfl,.inl ⟨⟨_,u⟩,λ D hD=>?_⟩⟩
  refine j6 (sq:=aT K) (a:=W) (xs:=B.map aq) (λ j acc U c=>A4 (aG H0 c) (c D=some (.lst acc)) (bF K c (((List.range j).map λ j=>(m.rows.getD j []).getD (B.getD j 0+0) (0,1)).map dJ) acc) (E2 λ V t=>U=[V,t,some (.ref a)]))
    ⟨ak hD,af,rfl,none,none,rfl⟩ (λ j acc U c Z e=>e.1.seq u) ?_ ?_
  .
   rintro j x p acc U c hx tU ⟨r,jH,o,V,t,rfl⟩
   obtain ⟨b,A,rfl⟩:=dI hx
   have hj:j<B.length:=(Bj.mp A).1
   have f:j<m.rows.length:=by lia
   have C:B.getD j 0=b:=by rw [Qm,A];rfl
   have s:aG c (upd c p (.tup [aq j,aq b])):=ak tU
   have l:=M.trans (r.trans s)
   have G:m.rows.getD j []=m.rows[j]:=by rw [Qm,aI f];rfl
   have q:=R j f
   rw [G,C] at q
   refine ⟨p,_,rfl,bY.of af,rfl,_,_,rfl,_,_,rfl,rfl,?_⟩
   refine ⟨_,rfl,a,dx,_,rfl,l _ _ ha,rfl,_,rfl,a,O,m,j,_,rfl,L.same l,aI f,λ g X ig DV=>?_⟩
   have S:aG (upd c p (.tup [aq j,aq b])) (upd (upd c p (.tup [aq j,aq b])) g (.lst X)):=ak ig
   obtain ⟨y,ey,dy⟩:=DV.get (i:=b) (d:=dJ m.rows[j][b]) (by rw [Sb,aI (by lia)];rfl)
   have J:=S _ _ (s _ _ jH)
   have I:aQ K (upd (upd c p (.tup [aq j,aq b])) g (.lst X)) (upd (upd (upd c p (.tup [aq j,aq b])) g (.lst X)) D (.lst (acc++[y]))):=bT J rfl
   have Db:acc.length=j:=by rw [o.length,M1,M1,aak]
   refine ⟨_,rfl,g,_,_,_,rfl,rfl,.inl (aT.of af),cu ey,J,aW (by lia),(r.trans (s.trans S)).put hD,af,?_,_,_,rfl⟩
   rw [aa5,aaf,aaf]
   refine (bF.ts ((aG.ts (s.trans S)).trans I) _ (mH _ id) (by simpa using o)).snoc (Dn.ts I _ (iM _) ?_)
   show Dn K _ (dJ ((m.rows.getD j []).getD (B.getD j 0+0) (0,1))) y
   rw [G,C,ad5,Qm,aI (by lia:b<m.rows[j].length)]
   exact Dn.same S _ dy
  rintro acc U H1 ⟨r,jH,o,V,t,rfl⟩
  rw [M1] at o
  have o:bF K H1 ((eX m B 0).map dJ) acc:=o
  have Fx:=r.seq u
  have S1:=M.trans r
  refine ⟨_,rfl,W,rfl,.inl ⟨⟨_,Fx⟩,λ Y gQ=>?_⟩⟩
  refine j6 (sq:=aT K) (a:=W) (xs:=B.map aq) (λ j acc U c=>A4 (aG H1 c) (c Y=some (.lst acc)) (bF K c (((List.range j).map λ j=>(m.rows.getD j []).getD (B.getD j 0+1) (0,1)).map dJ) acc) (E2 λ V t=>U=[V,t,some (.ref a)]))
    ⟨ak gQ,af,rfl,none,none,rfl⟩ (λ j acc U c Z e=>e.1.seq Fx) ?_ ?_
  .
   rintro j x p jd U c hx tU ⟨P2,Ld,Oq,V,t,rfl⟩
   obtain ⟨b,A,rfl⟩:=dI hx
   have hj:j<B.length:=(Bj.mp A).1
   have f:j<m.rows.length:=by lia
   have C:B.getD j 0=b:=by rw [Qm,A];rfl
   have s:aG c (upd c p (.tup [aq j,aq b])):=ak tU
   have l:=S1.trans (P2.trans s)
   have G:m.rows.getD j []=m.rows[j]:=by rw [Qm,aI f];rfl
   have q:=R j f
   rw [G,C] at q
   refine ⟨p,_,rfl,bY.of af,rfl,_,_,rfl,_,_,rfl,rfl,?_⟩
   refine ⟨_,rfl,a,dx,_,rfl,l _ _ ha,rfl,_,rfl,a,O,m,j,_,rfl,L.same l,aI f,λ g X ig DV=>?_⟩
   have S:aG (upd c p (.tup [aq j,aq b])) (upd (upd c p (.tup [aq j,aq b])) g (.lst X)):=ak ig
   obtain ⟨y,ey,dy⟩:=DV.get (i:=b+1) (d:=dJ m.rows[j][b+1]) (by rw [Sb,aI (by lia)];rfl)
   have J:=S _ _ (s _ _ Ld)
   have I:aQ K (upd (upd c p (.tup [aq j,aq b])) g (.lst X)) (upd (upd (upd c p (.tup [aq j,aq b])) g (.lst X)) Y (.lst (jd++[y]))):=bT J rfl
   have Db:jd.length=j:=by rw [Oq.length,M1,M1,aak]
   refine ⟨_,rfl,_,_,rfl,rfl,λ z ez=>?_⟩
   obtain rfl:z=((b+1:Nat):Int):=by rw [ez];push_cast;rfl
   refine ⟨g,_,_,_,rfl,rfl,.inl (aT.of af),cu ey,J,aW (by lia),(P2.trans (s.trans S)).put gQ,af,?_,_,_,rfl⟩
   rw [aa5,aaf,aaf]
   refine (bF.ts ((aG.ts (s.trans S)).trans I) _ (mH _ id) (by simpa using Oq)).snoc (Dn.ts I _ (iM _) ?_)
   show Dn K _ (dJ ((m.rows.getD j []).getD (B.getD j 0+1) (0,1))) y
   rw [G,C,Qm,aI (by lia:b+1<m.rows[j].length)]
   exact Dn.same S _ dy
  rintro jd U H2 ⟨s,J,N,V,t,rfl⟩
  rw [M1] at N
  have N:bF K H2 ((eX m B 1).map dJ) jd:=N
  have l:=S1.trans s
  refine ⟨_,rfl,_,rfl,_,rfl,_,rfl,_,rfl,a,O,m,i,D,acc,eX m B 0,_,_,F,rfl,L.same l,hi,aT.of (s _ _ jH),bF.same s _ o,XX,kD q4 lb R (by decide),Dn.same ((r.trans s)) _ Yo,Pf,hz,λ w1 H3 S SF=>?_⟩
  have S3:=l.trans S
  refine ⟨_,rfl,_,rfl,_,rfl,_,rfl,_,rfl,a,O,m,i,Y,jd,eX m B 1,_,_,F,rfl,L.same S3,hi,aT.of (S _ _ J),bF.same S _ N,Y0,kD q4 lb R (by decide),Dn.same ((r.trans s).trans S) _ Zi,NJ,hz,λ w2 H4 s4 Wl=>⟨vF,λ q hq=>?_⟩⟩
  have s5:aG H4 (upd H4 q (.tup [.ref w1,.ref w2])):=ak hq
  exact k q w1 w2 _ ((S3.trans s4).trans s5) af (s5 _ _ (s4 _ _ SF)) (s5 _ _ Wl)
 .
  have u:=M.tup u
  refine ⟨_,rfl,W,rfl,.inr ⟨⟨_,u⟩,λ D hD=>?_⟩⟩
  refine j6 (sq:=bY K) (a:=W) (xs:=B.map aq) (λ j acc U c=>A4 (aG H0 c) (c D=some (.lst acc)) (bF K c (((List.range j).map λ j=>(m.rows.getD j []).getD (B.getD j 0+0) (0,1)).map dJ) acc) (E2 λ V t=>U=[V,t,some (.ref a)]))
    ⟨ak hD,af,rfl,none,none,rfl⟩ (λ j acc U c Z e=>e.1.tup u) ?_ ?_
  .
   rintro j x p acc U c hx tU ⟨r,jH,o,V,t,rfl⟩
   obtain ⟨b,A,rfl⟩:=dI hx
   have hj:j<B.length:=(Bj.mp A).1
   have f:j<m.rows.length:=by lia
   have C:B.getD j 0=b:=by rw [Qm,A];rfl
   have s:aG c (upd c p (.tup [aq j,aq b])):=ak tU
   have l:=M.trans (r.trans s)
   have G:m.rows.getD j []=m.rows[j]:=by rw [Qm,aI f];rfl
   have q:=R j f
   rw [G,C] at q
   refine ⟨p,_,rfl,bY.of af,rfl,_,_,rfl,_,_,rfl,rfl,?_⟩
   refine ⟨_,rfl,a,dx,_,rfl,l _ _ ha,rfl,_,rfl,a,O,m,j,_,rfl,L.same l,aI f,λ g X ig DV=>?_⟩
   have S:aG (upd c p (.tup [aq j,aq b])) (upd (upd c p (.tup [aq j,aq b])) g (.lst X)):=ak ig
   obtain ⟨y,ey,dy⟩:=DV.get (i:=b) (d:=dJ m.rows[j][b]) (by rw [Sb,aI (by lia)];rfl)
   have J:=S _ _ (s _ _ jH)
   have I:aQ K (upd (upd c p (.tup [aq j,aq b])) g (.lst X)) (upd (upd (upd c p (.tup [aq j,aq b])) g (.lst X)) D (.lst (acc++[y]))):=bT J rfl
   have Db:acc.length=j:=by rw [o.length,M1,M1,aak]
   refine ⟨_,rfl,g,_,_,_,rfl,rfl,.inl (aT.of af),cu ey,J,aW (by lia),(r.trans (s.trans S)).put hD,af,?_,_,_,rfl⟩
   rw [aa5,aaf,aaf]
   refine (bF.ts ((aG.ts (s.trans S)).trans I) _ (mH _ id) (by simpa using o)).snoc (Dn.ts I _ (iM _) ?_)
   show Dn K _ (dJ ((m.rows.getD j []).getD (B.getD j 0+0) (0,1))) y
   rw [G,C,ad5,Qm,aI (by lia:b<m.rows[j].length)]
   exact Dn.same S _ dy
  rintro acc U H1 ⟨r,jH,o,V,t,rfl⟩
  rw [M1] at o
  have o:bF K H1 ((eX m B 0).map dJ) acc:=o
  have Fx:=r.tup u
  have S1:=M.trans r
  refine ⟨_,rfl,W,rfl,.inr ⟨⟨_,Fx⟩,λ Y gQ=>?_⟩⟩
  refine j6 (sq:=bY K) (a:=W) (xs:=B.map aq) (λ j acc U c=>A4 (aG H1 c) (c Y=some (.lst acc)) (bF K c (((List.range j).map λ j=>(m.rows.getD j []).getD (B.getD j 0+1) (0,1)).map dJ) acc) (E2 λ V t=>U=[V,t,some (.ref a)]))
    ⟨ak gQ,af,rfl,none,none,rfl⟩ (λ j acc U c Z e=>e.1.tup Fx) ?_ ?_
  .
   rintro j x p jd U c hx tU ⟨P2,Ld,Oq,V,t,rfl⟩
   obtain ⟨b,A,rfl⟩:=dI hx
   have hj:j<B.length:=(Bj.mp A).1
   have f:j<m.rows.length:=by lia
   have C:B.getD j 0=b:=by rw [Qm,A];rfl
   have s:aG c (upd c p (.tup [aq j,aq b])):=ak tU
   have l:=S1.trans (P2.trans s)
   have G:m.rows.getD j []=m.rows[j]:=by rw [Qm,aI f];rfl
   have q:=R j f
   rw [G,C] at q
   refine ⟨p,_,rfl,bY.of af,rfl,_,_,rfl,_,_,rfl,rfl,?_⟩
   refine ⟨_,rfl,a,dx,_,rfl,l _ _ ha,rfl,_,rfl,a,O,m,j,_,rfl,L.same l,aI f,λ g X ig DV=>?_⟩
   have S:aG (upd c p (.tup [aq j,aq b])) (upd (upd c p (.tup [aq j,aq b])) g (.lst X)):=ak ig
   obtain ⟨y,ey,dy⟩:=DV.get (i:=b+1) (d:=dJ m.rows[j][b+1]) (by rw [Sb,aI (by lia)];rfl)
   have J:=S _ _ (s _ _ Ld)
   have I:aQ K (upd (upd c p (.tup [aq j,aq b])) g (.lst X)) (upd (upd (upd c p (.tup [aq j,aq b])) g (.lst X)) Y (.lst (jd++[y]))):=bT J rfl
   have Db:jd.length=j:=by rw [Oq.length,M1,M1,aak]
   refine ⟨_,rfl,_,_,rfl,rfl,λ z ez=>?_⟩
   obtain rfl:z=((b+1:Nat):Int):=by rw [ez];push_cast;rfl
   refine ⟨g,_,_,_,rfl,rfl,.inl (aT.of af),cu ey,J,aW (by lia),(P2.trans (s.trans S)).put gQ,af,?_,_,_,rfl⟩
   rw [aa5,aaf,aaf]
   refine (bF.ts ((aG.ts (s.trans S)).trans I) _ (mH _ id) (by simpa using Oq)).snoc (Dn.ts I _ (iM _) ?_)
   show Dn K _ (dJ ((m.rows.getD j []).getD (B.getD j 0+1) (0,1))) y
   rw [G,C,Qm,aI (by lia:b+1<m.rows[j].length)]
   exact Dn.same S _ dy
  rintro jd U H2 ⟨s,J,N,V,t,rfl⟩
  rw [M1] at N
  have N:bF K H2 ((eX m B 1).map dJ) jd:=N
  have l:=S1.trans s
  refine ⟨_,rfl,_,rfl,_,rfl,_,rfl,_,rfl,a,O,m,i,D,acc,eX m B 0,_,_,F,rfl,L.same l,hi,aT.of (s _ _ jH),bF.same s _ o,XX,kD q4 lb R (by decide),Dn.same ((r.trans s)) _ Yo,Pf,hz,λ w1 H3 S SF=>?_⟩
  have S3:=l.trans S
  refine ⟨_,rfl,_,rfl,_,rfl,_,rfl,_,rfl,a,O,m,i,Y,jd,eX m B 1,_,_,F,rfl,L.same S3,hi,aT.of (S _ _ J),bF.same S _ N,Y0,kD q4 lb R (by decide),Dn.same ((r.trans s).trans S) _ Zi,NJ,hz,λ w2 H4 s4 Wl=>⟨vF,λ q hq=>?_⟩⟩
  have s5:aG H4 (upd H4 q (.tup [.ref w1,.ref w2])):=ak hq
  exact k q w1 w2 _ ((S3.trans s4).trans s5) af (s5 _ _ (s4 _ _ SF)) (s5 _ _ Wl)
def mJ (T:Txt K mg Ad):Def P w K mg base "under" 1 ["one","other"] (Eh K):=by
 refine T.BW.cN zS λ Z Z Z Z Z H v Q E n h=>?_
 obtain ⟨p,o,a,b,c,d,rfl,e,f,B,g,i,j,k⟩:=h
 refine ⟨_,(ap (aH (dh jR (ax bL (au ao (pv 0) ac) (au ao (pv 1) ac)) (ax bL (au ao (pv 1) ac) (au ao (pv 0) ac)) (aM _)))),?_⟩
 try dsimp only [eT,bq]
 refine ⟨_,rfl,_,_,_,_,rfl,rfl,.inr e,rfl,_,rfl,_,_,_,_,rfl,rfl,.inr f,rfl,_,_,rfl,rfl,⟨_,_,B,j,by decide⟩,λ x l=>?_⟩
 refine ⟨_,rfl,_,_,_,_,rfl,rfl,.inr f,rfl,_,rfl,_,_,_,_,rfl,rfl,.inr e,rfl,_,_,rfl,rfl,⟨_,_,i,g,by decide⟩,λ X m=>⟨_,_,rfl,rfl,?_⟩⟩
 subst l m
 exact k
def As (T:Txt K mg Ad):Def P w K mg base "touched" 5 ["hold","room","least","greatest"] (Ed K Ad.bD):=by
 refine T.DX.cN tP λ Z Z Z Z Z H vs Q E G h=>?_
 obtain ⟨a,fp,m,i,r,v1,v2,f,F,rfl,hh,V,d1,d2,o1,o2,k⟩:=h
 refine ⟨_,(ai (cH (i:=4) tP.nd (aV (pv 0) T.aJ (fo T) .nil G.m (aa (pv 1) ag)))
     (ap (aH (fC ["band"] ["greatest","least","marks"] [3,2,4] (.cons ⟨rfl,rfl,.inl rfl⟩ (.cons ⟨rfl,rfl,.inl rfl⟩ (.cons ⟨rfl,rfl,.inl rfl⟩ .nil))) rfl (ck rfl T.de (aa (ax cS (aU bB (by rfl) T.dU cA (aa (pv 4) ag)) ac) ag)) (λ Z Z Z Z Z=>(kY (i:=0))) (λ Z Z Z Z Z=>(jo (PW.pt (qZ (eK (cP (ay (mJ T) G.m (aa (pv 1) (aa (au (dX (K:=K) rfl) (pv 3) (pv 0)) ag))))) (mV (eK (cP (ay (mJ T) G.m (aa (au (dX (K:=K) rfl) (pv 3) (ax aO (pv 0) ac)) (aa (pv 2) ag)))))))))) (λ Z Z Z Z Z=>(pv 0)))))),?_⟩
 try dsimp only [eT,bq]
 obtain ⟨⟨dx,pm,pf,ps,pt,vm,vs,vt,aE,rq,ha,Z⟩,ab,lst,l4,wf⟩:=id hh
 have W:r∈m.rows:=aae V
 have hl:=wf.len r W
 have O:=wf.rows r W
 refine ⟨_,rfl,a,dx,_,rfl,ha,rfl,_,rfl,a,fp,m,i,r,rfl,hh,V,λ p X hp M=>?_⟩
 have S:aG H (upd H p (.lst X)):=ak hp
 have I:(upd H p (.lst X)) p=some (.lst X):=af
 have l:=bF.same S _ M
 have e1:=Dn.same S _ d1
 have e2:=Dn.same S _ d2
 generalize upd H p (.lst X)=H1 at S I l e1 e2 |-
 have lx:X.length=r.length:=by rw [M.length,M1]
 obtain ⟨p1,rfl,q1⟩:=e1.fr
 obtain ⟨p2,rfl,q2⟩:=e2.fr
 refine ⟨_,rfl,_,_,rfl,.inl (aT.of I),λ y ey=>?_⟩
 have hn:2<=r.length/\r.length<=7:=hl
 refine ⟨_,_,rfl,rfl,λ z ez=>⟨_,rfl,by lia,by lia,λ D B=>?_⟩⟩
 obtain ⟨n,en⟩:∃ n:Nat,z=(n:Int)/\n+1=r.length:=⟨r.length - 1,by lia,by lia⟩
 obtain ⟨rfl,en⟩:=en
 refine dQ (lo:=0) (n:=n) (λ j A U c=>A4 (aG H1 c) (c D=some (.lst A)) (A=(kN r f F j).map aq) (∃ v,U=[v,some (.ref p2),some (.ref p1),some (.ref p)]))
   ⟨ak B,af,rfl,none,rfl⟩ ?_ ?_
 .
  rintro j A U c hj ⟨s,g,rfl,v,rfl⟩
  have N:j<r.length:=by lia
  have o:j+1<r.length:=by lia
  obtain ⟨x,ex,ze⟩:=(bF.same s _ l).get (i:=j) (d:=dJ r[j]) (by rw [Sb,aI N];rfl)
  obtain ⟨x',Rv,KP⟩:=(bF.same s _ l).get (i:=j+1) (d:=dJ r[j+1]) (by rw [Sb,aI o];rfl)
  obtain ⟨u1,rfl,w1⟩:=ze.fr
  obtain ⟨u2,rfl,w2⟩:=KP.fr
  have zW:=(O r[j] (aar N)).mono (n:=20000) (by decide)
  have R:=(O r[j+1] (aar o)).mono (n:=20000) (by decide)
  have J:=s.tup q1
  have L:=s.tup q2
  have Y:=s _ _ I
  have q:n8 r f F j=((!aX F r[j]) && !aX r[j+1] f):=by
    unfold n8
    rw [Qm,Qm,aI N,aI o];rfl
  have la:=lF r f F j
  refine ⟨_,rfl,_,rfl,_,rfl,_,_,_,_,rfl,rfl,.inl (aT.of Y),by rw [aa0];exact cu ex,p2,u1,_,_,_,_,rfl,L,w1,o2.t,o2.b,zW.t,zW.b,_,rfl,?_⟩
  show if (!aX F r[j])=true then _ else _
  cases C:aX F r[j] with
  | true =>
    refine fe (fe ⟨s,g,?_,_,rfl⟩)
    rw [kg,q,C];simp
  | false =>
    refine f7 ⟨_,rfl,_,rfl,_,_,rfl,rfl,λ y1 u=>⟨_,_,_,_,rfl,rfl,.inl (aT.of Y),by rw [u,aa0];exact cu (j:=j+1) Rv,_,rfl,u2,p1,_,_,_,_,rfl,w2,J,R.t,R.b,o1.t,o1.b,_,rfl,?_⟩⟩
    show if (!aX r[j+1] f)=true then _ else _
    cases c2:aX r[j+1] f with
    | true =>
      refine fe ⟨s,g,?_,_,rfl⟩
      rw [kg,q,C,c2];simp
    | false =>
      refine f7 ⟨_,rfl,g,aW (by rw [M1];lia),s.put B,af,?_,_,rfl⟩
      rw [kg,q,C,c2,aaf,aa0];rfl
 .
  rintro A U c ⟨s,g,rfl,v,rfl⟩
  have e:n=r.length - 1:=by lia
  rw [e] at g
  exact k D c (S.free B) (S.trans s) g
def Dc (T:Txt K mg Ad):Def P w K mg base "within" 5 ["hold","room","least","greatest"] (Bz K Ad.bD):=by
 refine T.EF.cN wj λ Z Z Z Z Z H vs Q E l h=>?_
 obtain ⟨a,Y,m,i,r,v1,v2,f,F,rfl,A,v,M,N,B,I,k⟩:=h
 refine ⟨_,(ai (cH (i:=4) wj.nd (aV (pv 0) T.aJ (fo T) .nil l.m (aa (pv 1) ag)))
     (ap (aH (tR (uj (ay (mJ T) l.m (aa (pv 2) (aa (au ao (pv 4) ac) ag)))) (qS (uj (ay (mJ T) l.m (aa (au ao (pv 4) (rN tV ac)) (aa (pv 3) ag))))))))),?_⟩
 try dsimp only [eT,bq]
 obtain ⟨⟨U,pm,pf,ps,pt,vm,vs,vt,aE,rq,ha,Z⟩,ab,lst,l4,W⟩:=id A
 have O:r∈m.rows:=aae v
 have hl:=W.len r O
 have G:=W.rows r O
 refine ⟨_,rfl,a,U,_,rfl,ha,rfl,_,rfl,a,Y,m,i,r,rfl,A,v,λ p X hp q=>?_⟩
 have S:aG H (upd H p (.lst X)):=ak hp
 have o:(upd H p (.lst X)) p=some (.lst X):=af
 have D:=bF.same S _ q
 have y:=Dn.same S _ M
 have z:=Dn.same S _ N
 generalize upd H p (.lst X)=u at S o D y z |-
 have lx:X.length=r.length:=by rw [q.length,M1]
 obtain ⟨p1,rfl,q1⟩:=y.fr
 obtain ⟨p2,rfl,q2⟩:=z.fr
 have e:0<r.length:=by lia
 have g:r.length - 1<r.length:=by lia
 obtain ⟨x,ex,ze⟩:=D.get (i:=0) (d:=dJ r[0]) (by rw [Sb,aI e];rfl)
 obtain ⟨x',R,L⟩:=D.get (i:=r.length - 1) (d:=dJ r[r.length - 1]) (by rw [Sb,aI g];rfl)
 obtain ⟨u1,rfl,w1⟩:=ze.fr
 obtain ⟨u2,rfl,w2⟩:=L.fr
 have J:=(G r[0] (aar e)).mono (n:=20000) (by decide)
 have s:=(G r[r.length - 1] (aar g)).mono (n:=20000) (by decide)
 have V:iL r f F=((!aX f r[0]) && !aX r[r.length - 1] F):=by
   unfold iL
   rw [Qm,Qm,aI e,aI g];rfl
 have c:=k u S
 rw [V] at c
 refine ⟨_,rfl,_,rfl,_,_,_,_,rfl,rfl,.inl (aT.of o),cu (j:=0) ex,p1,u1,_,_,_,_,rfl,q1,w1,B.t,B.b,J.t,J.b,_,rfl,_,rfl,?_⟩
 show if (!aX f r[0])=true then _ else _
 cases C:aX f r[0] with
 | true =>
   rw [C] at c
   exact fe c
 | false =>
   rw [C] at c
   refine f7 ⟨_,rfl,_,rfl,_,_,_,_,rfl,rfl,.inl (aT.of o),HX (by lia) (by rw [lx];exact R),_,rfl,u2,p2,_,_,_,_,rfl,w2,q2,s.t,s.b,I.t,I.b,_,rfl,?_⟩
   show Q (.bl (!aX r[r.length - 1] F)) u
   exact c
def uk (T:Txt K mg Ad):Def P w K mg base "each_choice" 1 ["rows"] (Bp K):=by
 refine T.vB.cN d6 λ Z Z Z Z Z H vs Q E hr h=>?_
 obtain ⟨p,X,rows,rfl,hp,YV,l4,l6,k⟩:=h
 refine ⟨_,(ai (cH (i:=1) d6.nd (bH (aa (aZ ag) ag)))
     (ai (cR aaI rfl (cf (pv 0)) (iD (i:=2) d6.nd) (ai (cH (i:=3) d6.nd (bH ag))
     (ai (cR aaI rfl (cf (pv 1)) (iD (i:=4) d6.nd) (ap (bA (hV aaG adQ adP vV (pv 3) (aa (fC ["band"] ["choice"] [4] (.cons ⟨rfl,rfl,.inl rfl⟩ .nil) rfl (cf (pv 2)) (λ Z Z Z Z Z=>(kY (i:=0))) (λ Z Z Z Z Z=>cw) (λ Z Z Z Z Z=>(ax (yO (K:=K) rfl) (pv 1) (aZ (aa (pv 0) ag))))) ag)))))
     (ap (cH (i:=1) d6.nd (pv 3))))))
     (ap (aH (pv 1))))),?_⟩
 try dsimp only [eT,bq]
 try (refine d9 ?_;intro Z Z Z Z)
 refine ⟨Eg,λ t0 ad=>⟨uT,λ pc SA=>?_⟩⟩
 have s0:=ak (o:=.tup []) ad
 have s1:=ak (o:=.lst [.ref t0]) SA
 refine ⟨_,rfl,p,rfl,⟨_,(s0.trans s1).seq hp⟩,?_⟩
 have lx:=YV.length
 refine jN (K:=K) (a:=p) (xs:=X) (λ i U d=>aG H d/\E2 λ q Y=>A3 (d q=some (.lst Y)) (Iq K d Y (bP (rows.take i))) (E3 λ (v2 v3 V:eG)=>U=[some (.ref p),some (.ref q),v2,v3,V]))
   ⟨s0.trans s1,pc,[.ref t0],af,Refs.snoc .nil (bY.of (s1 _ _ af)),none,none,none,rfl⟩ (λ i U d Z ⟨O,_⟩=>O.seq hp) ?_ ?_
 .
  rintro i x U W hx ⟨G,q,Y,I,l,v2,v3,V,rfl⟩
  obtain ⟨N,r,rfl,er,ab⟩:=YV.get hx
  have hi:i<rows.length:=(Bj.mp er).1
  have r6:=l6 r (aae er)
  have lc:=jk l6 i
  have p6:6 ^ i<=216:=by
    have:=abq (n:=6) (by decide) (show i<=3 by lia)
    lia
  have WC:bP (rows.take (i+1))=(bP (rows.take i)).flatMap λ c=>r.map λ b=>c++[b]:=by
    rw [bU er,iI]
  have L:∀ c∈bP (rows.take i),c.length<=4:=λ c h=>by
    have:=(fZ.mp h).1
    rw [aaF] at this
    lia
  generalize bP (rows.take i)=cs at l lc WC L
  rw [WC]
  clear WC
  refine ⟨Eg,λ u hG=>?_⟩
  have O:=ak (o:=.lst []) hG
  refine ⟨_,rfl,q,rfl,⟨_,aT.of (O _ _ I)⟩,?_⟩
  refine jN (K:=K) (a:=q) (xs:=Y) (λ j U d=>aG W d/\∃ e,A3 (d u=some (.lst e)) (Iq K d e ((cs.take j).flatMap λ c=>r.map λ b=>c++[b])) (∃ (V:eG),U=[some (.ref p),some (.ref q),some (.ref N),some (.ref u),V]))
    ⟨O,[],af,.nil,V,rfl⟩ (λ j U d Z ⟨s,_⟩=>aT.of (s _ _ I)) ?_ ?_
  .
   rintro j y U F hy ⟨S,e,J,t,V,rfl⟩
   obtain ⟨tc,c,rfl,ec,VL⟩:=l.get hy
   have hj:j<cs.length:=(Bj.mp ec).1
   have JL:aT K F N (r.map aq):=(G.trans S).seq ab
   have Ew:bY K F tc (c.map aq):=S.tup VL
   have lz:e.length<=216 * 6:=by
     rw [t.length]
     refine aax (fm (k:=6) λ a=>by rw [M1];exact r6) ?_
     rw [aaF]
     lia
   rw [bU ec,aef,ad1]
   refine ⟨_,rfl,.inl ⟨rfl,_,aT.of J⟩,_,rfl,N,rfl,⟨_,JL⟩,λ D hD=>?_⟩
   refine cE (K:=K) (a:=N) (xs:=r.map aq) (λ b A f g=>A4 (aG F g) (g D=some (.lst A)) (Iq K g A ((r.take b).map λ x=>c++[x])) (∃ v,f=[v,some (.ref tc)]))
     ⟨ak hD,af,.nil,none,rfl⟩ (λ b A f g Z ⟨s,_,_,_⟩=>s.seq JL) ?_ ?_
   .
    rintro b z A f g hb ⟨s,M,m,v,rfl⟩
    obtain ⟨bn,eb,rfl⟩:=dI hb
    have ae:b<r.length:=(Bj.mp eb).1
    have la:A.length<=6:=by rw [m.length,M1,aaF];lia
    refine ⟨_,rfl,_,rfl,uT,λ tb Vj=>?_⟩
    have B:=ak (o:=.tup [aq bn]) Vj
    refine ⟨tc,tb,_,_,rfl,rfl,(s.trans B).tup Ew,bY.of af,?_,λ t5 H5 R h5=>?_⟩
    . have:=L c (aae ec)
      exact abY (aW (by rw [M1,aaC];lia))
    . refine ⟨R _ _ (B _ _ M),aat la (by decide),((s.trans B).trans R).put hD,af,?_,_,rfl⟩
      rw [bU eb,aaf]
      have C:aQ K H5 (upd H5 D (.lst (A++[.ref t5]))):=bT (R _ _ (B _ _ M)) rfl
      refine Refs.snoc (m.imp λ p a h=>C _ _ ((B.trans R).tup h)) (C _ _ ?_)
      rw [aaf]
      exact h5
   .
    rintro A f g ⟨s,M,m,v,rfl⟩
    rw [M1,aaA] at m
    have la:A.length<=6:=by rw [m.length,M1];exact r6
    have ZG:=s _ _ J
    refine ⟨u,D,e,A,rfl,rfl,ZG,M,abY (aat (show e.length+A.length<=1302 by lia) (by decide)),?_⟩
    have C:aQ K g (upd g u (.lst (e++A))):=bT ZG rfl
    exact ⟨(S.trans s).put hG,_,af,Refs.append (t.imp λ p a h=>C _ _ (s.tup h)) (m.imp λ p a h=>C _ _ h),_,rfl⟩
  . rintro U F ⟨S,e,J,t,V,rfl⟩
    rw [l.length,aaA] at t
    exact ⟨_,rfl,G.trans S,u,e,J,t,_,_,_,rfl⟩
 . rintro U W ⟨G,q,Y,I,l,v2,v3,V,rfl⟩
   rw [aa6 (by lia)] at l
   exact ⟨_,rfl,k q Y W G I l⟩
def nR (T:Txt K mg Ad):gM P w K mg base Ad.Reach "__init__" 1 ["self","hold"] [] (Dk P w K Ad.bD Ad.Reach):=by
 refine T.qa.fK o8 λ Z Z Z Z Z H V Q E y h=>?_
 obtain ⟨x,D,a,F,m,rfl,s,p,nx,k⟩:=h
 refine ⟨_,(ai (eD (pv 0) (pv 1) rfl)
     (ap (eD (pv 0) (Ct (P:=P) (w:=w) rfl rfl) rfl))),?_⟩
 try dsimp only [eT,bq]
 have j:kn K Ad.Reach x D H H []:=.start s
 refine ⟨_,rfl,_,rfl,x,_,D,_,rfl,j.at_,T.dM,T.dP,lt1000 rfl,?_⟩
 have b:=j.put (fs':=aP "hold" (.ref a) [])
 intro d g
 have l:=b.new (o:=kZ P w d []) g
 refine ⟨_,rfl,x,_,D,_,rfl,l.at_,T.dM,T.d8,lt1000 rfl,?_⟩
 have B:=l.put (fs':=aP "spreads" (.ref d) (aP "hold" (.ref a) []))
 have N:d≠x:=b.ne g
 have X:H d=none:=b.none g
 refine k d _ (λ c u r n=>B.st c u r λ z=>n (aac.mpr z)) B.ts X ⟨⟨D,B.at_⟩,p.Ir B.st B.ts nx,λ z=>?_,[],io.nil (by rw [aw N];exact af),aaj _,λ i t f v e=>by cases e⟩
 obtain ⟨o,q⟩:=p.some d z
 rw [X] at q
 cases q
def pV (T:Txt K mg Ad):gM P w K mg base Ad.Reach "spread" 8 ["self","room","bands","fired"] [] (Dm P w K Ad.bD Ad.Reach):=by
 refine T.tK.fK eR λ Z Z Z Z Z H vs Q E p h=>?_
 obtain ⟨x,d,a,G,m,c,i,y,B,b,L,rfl,LO,hL,hc,hi,Br,lb,hb,hf,Sw,Sg,k⟩:=h
 refine ⟨_,(ai (cH (i:=4) eR.nd (aZ (aa (pv 1) (aa (pv 2) (aa (pv 3) ag)))))
     (ai (kc (bC (aL (vW (P:=P) (w:=w) (K:=K) rfl rfl rfl p.Kq) (pv 4) (bj (pv 0) rfl) (by with_unfolding_all rfl)) (ai (ii (ay (Bt T) p.m (aa (bj (pv 0) rfl) (aa (pv 1) (aa (pv 2) (aa (pv 3) ag))))) (dg (K:=K) (n:=2) rfl rfl (aS (iD (i:=5) eR.nd) (aS (iD (i:=6) eR.nd) db))))
     (ai (cH (i:=7) eR.nd (ay (Dc T) p.m (aa (bj (pv 0) rfl) (aa (pv 1) (aa (pv 5) (aa (pv 6) ag))))))
     (ap (CO (P:=P) (w:=w) (K:=K) rfl rfl rfl p.Kq (bj (pv 0) rfl) (pv 4) (uz (cP (pv 7)) (ay (As T) p.m (aa (bj (pv 0) rfl) (aa (pv 1) (aa (pv 5) (aa (pv 6) ag))))) c5) rfl)))) aK))
     (ap (aH (sP (P:=P) (w:=w) (K:=K) rfl rfl rfl p.Kq (bj (pv 0) rfl) (pv 4) (λ Z Z=>rfl)))))),?_⟩
 try dsimp only [eT,bq]
 try (refine d9 ?_;intro Z Z Z Z)
 refine ⟨_,rfl,_,rfl,_,rfl,zG,λ tk Sq=>?_⟩
 have j:=ak (o:=.tup [aq i,.ref y,.bl b]) Sq
 have F:=LO.same j
 have t:gJ K (upd H tk (.tup [aq i,.ref y,.bl b])) (k7 i B b) tk:=Bx (bY.of af) (j.tup Br)
 generalize upd H tk (.tup [aq i,.ref y,.bl b])=H1 at j F t |-
 obtain ⟨⟨D,r⟩,O,nd,A,g,J,R⟩:=id F
 refine ⟨λ C l=>(E2 λ A v=>A7 (gC [d] H1 l) (aQ K H1 l) (eJ P w K Ad.bD Ad.Reach L l x d a G m (c+1)) (io P w K l d A) (gJ K l (k7 i B b) tk) (iA A (k7 i B b)=some v) (fq L l v (dY m i B b)))/\E3 λ (v5 v6 v7:eG)=>C=[some (.ref x),some (aq i),some (.ref y),some (.bl b),some (.ref tk),v5,v6,v7],?_,?_⟩
 .
  refine ⟨_,rfl,_,rfl,x,_,D,_,_,rfl,r,T.dM,T.d8,rfl,d,tk,A,_,rfl,rfl,g,t,_,rfl,?_⟩
  cases e:iA A (k7 i B b) with
  | some v=>exact fe ⟨⟨A,v,λ Z Z h Z=>h,aQ.refl _,F.more (acb _),g,t,e,R i B b v e⟩,none,none,none,rfl⟩
  | none =>
    refine f7 ?_
    refine ⟨_,rfl,x,_,D,_,_,rfl,r,T.dM,T.dP,rfl,_,rfl,_,rfl,_,rfl,a,G,m,i,y,B,b,rfl,O,hi,.inr (j.tup Br),lb,hb,hf,λ q q1 q2 H2 Y e0 e1 e2=>?_⟩
    refine ⟨q,_,rfl,bY.of e0,rfl,_,_,rfl,_,_,rfl,rfl,?_⟩
    have N:=Y _ _ r
    have xt:=aI hi
    have Li:m.rows.getD i []=m.rows[i]:=by rw [Qm,xt];rfl
    refine ⟨_,rfl,x,_,D,_,_,rfl,N,T.dM,T.dP,rfl,_,rfl,_,rfl,_,rfl,a,G,m,i,m.rows[i],.ref q1,.ref q2,_,_,rfl,O.same Y,xt,jS (bY.of e1),jS (bY.of e2),Sw,Sg,λ H3 s3=>?_⟩
    have S:=Y.trans s3
    have G4:=S _ _ r
    have I:dY m i B b=if iL m.rows[i] (iW m i B b) (iZ m i B b)=true then some (oB m.rows[i] (iW m i B b) (iZ m i B b)) else none:=by unfold dY;rw [Li]
    cases ew:iL m.rows[i] (iW m i B b) (iZ m i B b) with
    | true =>
      rw [ew,aan rfl] at I
      refine ⟨_,rfl,_,rfl,f7 ⟨_,rfl,x,_,D,_,_,rfl,G4,T.dM,T.dP,rfl,_,rfl,_,rfl,_,rfl,a,G,m,i,m.rows[i],.ref q1,.ref q2,_,_,rfl,O.same S,xt,jS (bY.of (s3 _ _ e1)),jS (bY.of (s3 _ _ e2)),Sw,Sg,λ M H4 nt s4 ht=>?_⟩⟩
      have s:=S.trans s4
      have W:fq L H4 (.ref M) (dY m i B b):=by rw [I];exact ⟨M,rfl,λ z=>hL M z ((j.trans S).free nt),ht⟩
      obtain ⟨U,V,u,X⟩:=(F.same s).put (g.same s) J (λ i B f v e=>(R i B f v e).same s) (t.ts s.ts) W
      exact ⟨_,rfl,x,_,D,_,_,rfl,s _ _ r,T.dM,T.d8,rfl,_,rfl,d,tk,A,_,rfl,rfl,g.same s,t.ts s.ts,aat (aax J hc) (by decide),⟨_,.ref M,λ c o e n=>V c o (s c o e) n,s.ts.trans u,U,(g.same s).put (t.ts s.ts),(t.ts s.ts).ts u,by rw [lW,aan rfl],X⟩,_,_,_,rfl⟩
    | false =>
      rw [ew,aap aaE] at I
      have W:fq L H3 .cL (dY m i B b):=by rw [I];rfl
      obtain ⟨U,V,u,X⟩:=(F.same S).put (g.same S) J (λ i B f v e=>(R i B f v e).same S) (t.ts S.ts) W
      exact ⟨_,rfl,_,rfl,fe ⟨_,rfl,x,_,D,_,_,rfl,G4,T.dM,T.d8,rfl,_,rfl,d,tk,A,_,rfl,rfl,g.same S,t.ts S.ts,aat (aax J hc) (by decide),⟨_,.cL,λ c o e n=>V c o (S c o e) n,S.ts.trans u,U,(g.same S).put (t.ts S.ts),(t.ts S.ts).ts u,by rw [lW,aan rfl],X⟩,_,_,_,rfl⟩⟩
 .
  rintro C H2 ⟨⟨MC,v,b2,t2,RE,O6,Q8,ev,G8⟩,v5,v6,v7,rfl⟩
  obtain ⟨KP,N⟩:=RE.ins
  refine ⟨_,rfl,x,_,KP,_,_,rfl,N,T.dM,T.d8,rfl,_,rfl,d,tk,MC,_,v,rfl,rfl,O6,Q8,ev,?_⟩
  exact k v H2 (λ c o e n=>b2 c o (j c o e) n) (j.ts.trans t2) RE G8
def jZ (T:Txt K mg Ad):gM P w K mg base Ad.Reach "states_behind" 9 ["self","state","order"] [] (D6 P w K Ad.bD Ad.Reach):=by
 refine T.k9.fK cb λ Z Z Z Z Z H vs Q E I h=>?_
 obtain ⟨x,d,a,F,m,c,p,st,o,L,rfl,LO,hL,hc,hs,so,ow,tn,EO,k1,k2⟩:=h
 refine ⟨_,(ai (cH (i:=3) cb.nd (bH ag))
     (ai (cR aaI rfl (cf (ay (uJ T) I.m (aa (ay (AV T) I.m (aa (bj (pv 0) rfl) (aa (pv 1) (aa (pv 2) ag)))) ag))) (iD (i:=4) cb.nd) (ai (cH (i:=5) cb.nd (ax mP (pv 2) (rN BI (pv 4))))
     (ai (rG (yi:=6) ["room"] ["self","state","burning"] [0,1,5] (.cons ⟨rfl,rfl,.inl rfl⟩ (.cons ⟨rfl,rfl,.inl rfl⟩ (.cons ⟨rfl,rfl,.inl rfl⟩ .nil))) rfl (ck rfl T.de (aa (fD (bj (pv 0) rfl) T.aJ (cI T) .nil I.m) ag)) (λ Z Z Z Z Z=>(kY (i:=0))) (λ Z Z Z Z Z=>cw) (λ Z Z Z Z Z=>(aV (pv 1) T.dM (pV (P:=P) (w:=w) T) .nil I.m (aa (pv 0) (aa (au (dX (K:=K) rfl) (pv 2) ac) (aa (ay (fx T) I.m (aa (pv 3) (aa (pv 0) ag))) ag))))) cb.nd (lc rfl))
     (ai (bC (aL (Lg (Cs I)) c5 (pv 6) (by with_unfolding_all rfl)) (ap (aH c5)) aK)
     (ai (cH (i:=7) cb.nd (ay (qj T) I.m (aa (bj (pv 0) rfl) (aa (pv 1) (aa (pv 2) (aa (pv 4) ag))))))
     (ap (bA (hV aaG adQ adP vV (pv 3) (aa (fC ["bands"] ["stoves"] [7] (.cons ⟨rfl,rfl,.inl rfl⟩ .nil) rfl (cf (ay (uk T) I.m (aa (pv 6) ag))) (λ Z Z Z Z Z=>(kY (i:=0))) (λ Z Z Z Z Z=>cw) (λ Z Z Z Z Z=>(ax (yO (K:=K) rfl) (aZ (aa (pv 0) ag)) (pv 1)))) ag)))))))))
     (ap (aH (pv 3))))),?_⟩
 try dsimp only [eT,bq]
 try (refine d9 ?_;intro Z Z Z Z)
 obtain ⟨Z,Z,Z,q3,q4⟩:=id LO.hold
 refine ⟨Eg,λ f W=>?_⟩
 have s1:=ak (o:=.lst []) W
 have e1:(upd H f (.lst [])) f=some (.lst []):=af
 generalize upd H f (.lst [])=H1 at s1 e1 |-
 obtain ⟨dx,hx⟩:=LO.ins
 refine ⟨_,rfl,x,_,dx,_,_,rfl,s1 _ _ hx,T.dM,T.dP,rfl,_,rfl,_,rfl,a,F,m,p,st,o,rfl,LO.hold.same s1,hs.same s1,so,ow,λ H2 s2=>?_⟩
 have S2:=s1.trans s2
 have ad:st.may m o<16:=wJ q3
 have ol:=oX ad
 refine ⟨st.may m o,rfl,by lia,ol.1,λ pl H3 hG s3 V=>⟨pl,rfl,⟨_,aT.of V⟩,?_⟩⟩
 have S:=S2.trans s3
 have e3:H3 f=some (.lst []):=s3 _ _ (s2 _ _ e1)
 have ah:pl≠f:=(aA (s2 _ _ e1) hG).symm
 have WP:f∉F:=λ z=>by
   obtain ⟨u,hu⟩:=LO.hold.some f z
   rw [W] at hu;cases hu
 have PY:eJ P w K Ad.bD Ad.Reach (f::L) H3 x d a F m c:=(LO.new W).same S
 obtain ⟨al,QL,Z⟩:=PY.Me
 have RD:pl≠d:=λ z=>by rw [z,QL.ob] at V;cases V
 have Zu:f≠d:=λ z=>by rw [z,QL.ob] at e3;cases e3
 have Ly:=hs.same S
 have lo:(dB m st o).length<=16:=ol.2
 have V:H3 pl=some (.lst ((dB m st o).map aq)):=V
 unfold ul at k2
 generalize dB m st o=O at V lo tn k1 k2
 refine gY (K:=K) (a:=pl) (xs:=O.map aq) (λ i U H'=>A6 (gC [d,f] H3 H') (aQ K H3 H') (eJ P w K Ad.bD Ad.Reach (f::L) H' x d a F m (c+4 * i)) (∃ X,H' f=some (.lst X)/\jc K H' X ((O.take i).flatMap (iJ m st o))) (∀ out∈O.take i,lG m st (Ord.off o out)=true) (E4 λ (v4 v5 v6 v7:eG)=>U=[some (.ref x),some (.ref p),some (aq o),some (.ref f),v4,v5,v6,v7]))
   ⟨λ Z Z h Z=>h,aQ.refl _,PY,⟨[],e3,Refs.nil⟩,λ Z h=>absurd h (by simp),none,none,none,none,rfl⟩ (λ i U H' Z ⟨b,_,_,_,_,_⟩=>aT.of (b _ _ V (by simp [RD,ah]))) ?_ ?_
 .
  rintro Z i v U H4 hv ⟨b4,t4,C,⟨X,IM,yo⟩,BV,v4,v5,v6,v7,rfl⟩
  obtain ⟨out,eo,rfl⟩:=dI hv
  have hi:i<O.length:=(Bj.mp eo).1
  have NE:=tn out (aae eo)
  have G:∀ i,(Ord.off o out).testBit i=true->m.has i=true:=λ i h=>(NE.JG (NE.Lx h).1).2
  refine ⟨_,rfl,_,rfl,_,rfl,_,_,rfl,rfl,λ y ey=>?_⟩
  obtain rfl:y=((Ord.off o out:Nat):Int):=by rw [ey];exact n9 _ _
  obtain ⟨Tn,UB⟩:=C.ins
  obtain ⟨⟨ab,Z,Z,Z,Z,Z,Z,Z,Z,Z,TK,Z⟩,Z⟩:=id C.hold
  refine ⟨_,rfl,x,_,Tn,_,_,rfl,UB,T.dM,T.dP,rfl,a,ab,_,rfl,TK,rfl,a,F,m,rfl,C.hold,_,rfl,by lia,by lia,λ D R=>?_⟩
  have PU:f9 K H4 p st:=Ly.ts t4
  obtain ⟨pb,pw,pf,h0,Of,aj,ZD⟩:=id PU
  obtain ⟨an,Ts,Z⟩:=C.Me
  have nD:D≠d:=(aA Ts.ob R).symm
  have ae:D∉F:=λ z=>by
    obtain ⟨u,hu⟩:=C.hold.some D z
    rw [R] at hu;cases hu
  refine dQ (lo:=0) (n:=m.rows.length) (λ j A g H5=>A6 (gC [d] H4 H5) (aQ K H4 H5) (eJ P w K Ad.bD Ad.Reach (D::f::L) H5 x d a F m (c+4 * i+j)) (H5 D=some (.lst A)) (Paired (fq (D::f::L) H5) A ((List.range j).map (kW m st (Ord.off o out)))) (∃ v,g=[v,some (.ref x),some (.ref p),some (aq (Ord.off o out))]))
    ⟨λ b u h Z=>ak R b u h,(ak R).ts,(C.new R).same (ak R),af,.nil,none,rfl⟩ ?_ ?_
  .
   rintro j A g H5 hj ⟨N,M,B,En,Y,v,rfl⟩
   obtain ⟨Rm,Pw⟩:=B.ins
   obtain ⟨aE,Q6,Z⟩:=B.Me
   have la:A.length=j:=by rw [aca Y,M1,aak]
   have Jw:=N _ _ IM (by simp [Zu])
   obtain ⟨Sw,Sg⟩:=EO j ((Ord.off o out).testBit j) hj (G j)
   refine ⟨_,rfl,x,Rm,_,rfl,Pw,rfl,_,rfl,_,rfl,p,_,_,_,rfl,rfl,.inr (M _ _ h0),rfl,_,rfl,_,rfl,Ord.off o out,j,by rw [aa0];rfl,?_⟩
   refine ⟨x,d,a,F,m,c+4 * i+j,j,pb,st.aF,(Ord.off o out).testBit j,D::f::L,by rw [aa0];rfl,B,?_,by lia,hj,M _ _ Of,so.lb,λ j hj=>by have:=so.band j hj;unfold gN at this;rw [Qm];exact this,λ z=>?_,Sw,Sg,λ v6 H6 b6 t6 Yr TY=>?_⟩
   .
    intro b hb
    rcases aaa.mp hb with rfl|hb
    . rw [En];exact nofun
    rcases aaa.mp hb with rfl|hb
    . rw [Jw];exact nofun
    . by_cases z:b=d
      . rw [z,Q6.ob];exact nofun
      . cases e:H b with
        | none=>exact absurd e (hL b hb)
        | some u=>rw [N b u (b4 b u (S b u e) (by simp only [aaa,aad,aaR,abJ];exact ⟨z,aA e W⟩)) (by simp [z])];exact nofun
   . obtain ⟨z',ez⟩:=uu (G j z)
     exact ⟨z',by rw [mM (by lia),ez]⟩
   .
    have Ip:=b6 _ _ En (by simp [nD])
    obtain ⟨a0,W5,Z⟩:=Yr.Me
    have ks:∀ {v r},fq (D::f::L) H6 v r->fq (D::f::L) (upd H6 D (.lst (A++[v6]))) v r:=λ h=>h.but W5.ob nZ (λ c u e Z n=>by rw [aw (λ z=>n (by simp [z]))];exact e) λ Z h=>h
    refine ⟨Ip,aW (by lia),λ b u h n=>by rw [aw (aA h R)];exact b6 b u (N b u h n) n,M.trans (t6.trans (bT Ip rfl)),Yr.write Ip (by simp) ae,af,?_,_,rfl⟩
    rw [aa5,aaf]
    exact acL (Paired.wD Y λ a r h=>ks (h.but Q6.ob nZ (λ c u e n Z=>b6 c u e (by simp [n])) λ Z h=>h)) (ks TY)
  .
   rintro A g H5 ⟨N,M,B,En,Y,v,rfl⟩
   have Ln:∀ v∈A,v = .cL\/∃ a ys,v = .ref a/\aT K H5 a ys:=λ v hv=>(Cu Y v hv).imp id λ ⟨q,ys,e,h⟩=>⟨q,ys,e,aT.of h⟩
   have Jw:=N _ _ IM (by simp [Zu])
   obtain ⟨Rm,Pw⟩:=B.ins
   have B5:gC [d] H H5:=λ b u h n=>N b u (b4 b u (S b u h) (by
     simp only [aaa,aad,aaR,abJ] at n |-
     exact ⟨n,aA h W⟩)) n
   have T5:aQ K H H5:=S.ts.trans (t4.trans M)
   refine ⟨_,rfl,D,A,rfl,rfl,aT.of En,Ln,_,rfl,eM (λ hn=>?_) (λ hn=>?_)⟩
   . exact k1 ⟨out,aae eo,wm.mp ((tM Y).mp hn)⟩ H5 B5 T5 ((B.less λ b h=>aai _ (aai _ h)).more (by lia))
   have nn:none∉(List.range m.rows.length).map (kW m st (Ord.off o out)):=λ z=>hn ((tM Y).mpr z)
   have xt:=yK Y nn
   rw [Hx] at xt
   have sf:lG m st (Ord.off o out)=true:=by
     cases e:lG m st (Ord.off o out) with
     | true=>rfl
     | false=>exact absurd (wm.mpr e) nn
   refine ⟨_,rfl,x,_,Rm,_,_,rfl,Pw,T.dM,T.dP,rfl,_,rfl,_,rfl,_,rfl,a,F,m,p,st,o,out,rfl,B.hold,PU.ts M,so,λ i h=>NE.has h,NE.J0,NE.JY,λ qt QP vZ H6 s6 g1 g2 g3=>?_⟩
   have lr:(gw m st (Ord.off o out)).length=m.rows.length:=by unfold gw;rw [M1,aak]
   refine ⟨_,rfl,.inl ⟨rfl,_,aT.of (s6 _ _ Jw)⟩,_,rfl,D,A,gw m st (Ord.off o out),rfl,aT.of (s6 _ _ En),xt.imp λ q r h=>aT.of (s6 _ _ h),by lia,yH q4,λ qc ys H7 s7 Yd wL=>⟨qc,rfl,⟨_,aT.of Yd⟩,λ D2 gQ=>?_⟩⟩
   have bl:=ko q4 q3 (s:=st) (o:=o) out
   unfold iJ at bl
   rw [M1] at bl
   have eb:iJ m st o out=(bP (gw m st (Ord.off o out))).map λ c=>st.behind m c o out:=rfl
   have l4:∀ c∈bP (gw m st (Ord.off o out)),c.length<=4:=λ c h=>by have:=(fZ.mp h).1;lia
   generalize bP (gw m st (Ord.off o out))=cs at wL bl eb l4
   refine cE (K:=K) (a:=qc) (xs:=ys) (λ j J g l=>A4 (aG H7 l) (l D2=some (.lst J)) (jc K l J ((cs.take j).map λ c=>st.behind m c o out)) (∃ v,g=[v,some (.ref qt)]))
     ⟨ak gQ,af,Refs.nil,none,rfl⟩ (λ j J g l Z ⟨s8,_,_,_⟩=>aT.of (s8 _ _ Yd)) ?_ ?_
   .
    rintro j z J g l hz ⟨s8,Gk,uR,v,rfl⟩
    obtain ⟨tc,cc,rfl,ec,VL⟩:=wL.get hz
    have hj:j<cs.length:=(Bj.mp ec).1
    have la:J.length<=1296:=by rw [uR.length,M1,aaF];lia
    have KO:=s7.trans s8
    refine ⟨_,rfl,uT,λ tb Vj=>?_⟩
    have s9:=ak (o:=.tup [.ref tc]) Vj
    refine ⟨_,rfl,tb,qt,_,_,rfl,rfl,bY.of af,bY.of (s9 _ _ (KO _ _ g1)),(by show 1+4<=sizeLine;decide),λ tq Em wk WQ=>?_⟩
    have Qc:=wk _ _ (s9 _ _ Gk)
    have t:aQ K Em (upd Em D2 (.lst (J++[.ref tq]))):=bT Qc rfl
    have EE:=s9.trans wk
    refine ⟨Qc,aat la (by decide),(s8.trans EE).put gQ,af,?_,_,rfl⟩
    rw [bU ec,aaf]
    refine Refs.snoc (uR.imp λ p a h=>(h.same EE).ts t) ?_
    exact ⟨tc,QP,vZ,t _ _ WQ,t _ _ ((s8.trans EE).tup VL),t _ _ ((KO.trans EE).tup (bY.of g2)),t _ _ ((KO.trans EE).tup (bY.of g3))⟩
   .
    rintro J g l ⟨s8,Gk,uR,v,rfl⟩
    rw [wL.length,aaA] at uR
    rw [<- eb] at uR
    have S8:=(s6.trans s7).trans s8
    have Lq:=S8 _ _ Jw
    have lx:X.length<=16 * 1296:=by
      rw [yo.length]
      refine aax (fm (k:=1296) (ko q4 q3)) ?_
      rw [aaF]
      exact abK 1296 (aax (Nat.min_le_right _ _) lo)
    have la:J.length<=1296:=by rw [uR.length];exact ko q4 q3 out
    refine ⟨f,D2,X,J,rfl,rfl,Lq,Gk,abY (aat (show X.length+J.length<=22032 by lia) (by decide)),?_⟩
    have t:aQ K l (upd l f (.lst (X++J))):=bT Lq rfl
    refine ⟨λ b u h n=>?_,t4.trans (M.trans (S8.ts.trans t)),(((B.less λ b h=>aai _ h).same S8).write Lq (by simp) WP).more (by lia),⟨_,af,?_⟩,λ Xf h'=>?_,_,_,_,_,rfl⟩
    . have n':=n
      simp only [aaa,aad,aaR,abJ] at n'
      rw [aw n'.2]
      exact S8 _ _ (N _ _ (b4 b u h n) (by simp [n'.1]))
    . rw [bU eo,aef,ad1]
      exact Refs.append (yo.imp λ p a h=>(((h.ts M).same S8).ts t)) (uR.imp λ p a h=>h.ts t)
    . rw [bU eo] at h'
      rcases aau.mp h' with z|z
      . exact BV Xf z
      . rw [aac.mp z];exact sf
 .
  rintro U H4 ⟨b4,t4,C,⟨X,IM,yo⟩,BV,v4,v5,v6,v7,rfl⟩
  rw [M1,aaA] at yo BV
  refine ⟨_,rfl,k2 BV f X H4 W (λ b u h n=>b4 b u (S b u h) ?_) (S.ts.trans t4) ((C.less λ b h=>aai _ h).more (by rw [M1];lia)) IM yo⟩
  simp only [aaa,aad,aaR,abJ] at n |-
  exact ⟨n,aA h W⟩
def nG (T:Txt K mg Ad):gM P w K mg base Ad.cO "meet" 1 ["self","state"] [] (Jn P w K Ad.cO):=by
 refine T.zH.fK wI λ Z Z Z Z Z H vs Q E t h=>?_
 obtain ⟨x,p,c,I,R,a,l,g,m,st,L,rfl,s,ok,F,l2,u,so,k⟩:=h
 refine ⟨_,(ai (kc (bC (aL (vW (P:=P) (w:=w) (K:=K) rfl rfl rfl t.Kq) (pv 1) (bj (pv 0) rfl) (by with_unfolding_all rfl)) (ai (bC (aL Fe (aU bB (by rfl) T.dU cA (aa (bj (pv 0) rfl) ag)) (bj (pv 0) rfl) (aM _)) (ap cB) aK)
     (ai (CO (P:=P) (w:=w) (K:=K) rfl rfl rfl t.Kq (bj (pv 0) rfl) (pv 1) (aU bB (by rfl) T.dU cA (aa (bj (pv 0) rfl) ag)) rfl)
     (ap (bA (hV aaG aaM aaL cz (bj (pv 0) rfl) (aa (pv 1) ag)))))) aK))
     (ap (aH (sP (P:=P) (w:=w) (K:=K) rfl rfl rfl t.Kq (bj (pv 0) rfl) (pv 1) (λ Z Z=>rfl))))),?_⟩
 try dsimp only [eT,bq]
 obtain ⟨⟨d,b⟩,⟨v,i,B⟩,Z,Z,⟨A,f,hl,r⟩,Z,Z,Z⟩:=id s
 have n:=iQ u
 refine ⟨λ o q=>(E3 λ j G M=>A9 (gC [c,a] H q) (aQ K H q) (d7 P w K Ad.cO L q x c I R a l G) (uV g G) (f8 m G) (G.met[j]?=some st) (io P w K q a M) (iA M (lV st)=some (aq j)) (G=g\/G=g.add st))/\o=[some (.ref x),some (.ref p)],?_,?_⟩
 .
  refine ⟨_,rfl,_,rfl,x,_,d,_,_,rfl,b,T.ce,T.gk,rfl,a,p,A,lV st,rfl,rfl,f,n,_,rfl,?_⟩
  by_cases Y:st∈g.met
  . obtain ⟨j,e⟩:=acr.mp Y
    rw [r.1 j st e]
    exact fe ⟨⟨j,g,A,λ Z Z h Z=>h,aQ.refl _,s,uV.refl g,ok,e,f,r.1 j st e,.inl rfl⟩,rfl⟩
  .
   rw [r.2 st Y]
   have J:=ok.add so Y
   have ll:((g.met++[st]).length:Int)<=l:=F _ J.nd J.st
   rw [aab,aaC] at ll
   have lv:=B.length
   refine f7 ⟨_,rfl,x,_,d,_,_,rfl,b,T.ce,T.ft,rfl,c,v,rfl,.inl (aT.of i),λ y ey=>⟨_,rfl,x,_,d,_,_,rfl,b,T.ce,T.nv,rfl,_,_,rfl,rfl,_,rfl,eM (λ h=>?_) (λ h=>?_)⟩⟩
   . exfalso;lia
   refine ⟨_,rfl,x,_,d,_,_,rfl,b,T.ce,T.ft,rfl,c,v,rfl,.inl (aT.of i),λ y2 QO=>?_⟩
   obtain rfl:y2=((g.met.length:Nat):Int):=by rw [QO,lv]
   refine ⟨_,rfl,x,_,d,_,_,rfl,b,T.ce,T.gk,rfl,_,rfl,a,p,A,lV st,rfl,rfl,f,n,aat (show A.length<=2000 by lia) (by decide),?_⟩
   obtain ⟨D,b1,t1⟩:=s.add i B f hl r u Y
   have nm:c≠a:=λ z=>by rw [z,f.ob] at i;cases i
   have nx:x≠a:=λ z=>by rw [z,f.ob] at b;cases b
   have N:(upd H a (kZ P w a (fH A (lV st) p (aq g.met.length)))) c=some (.lst v):=by rw [aw nm];exact i
   have vS:(upd H a (kZ P w a (fH A (lV st) p (aq g.met.length)))) x=some (.ins Ad.cO d (OI c I R a l)):=by rw [aw nx];exact b
   obtain ⟨MC,O,Z,xv⟩:=D.pls
   have e:(g.add st).met[g.met.length]?=some st:=aa2
   exact ⟨_,rfl,x,_,d,_,_,rfl,vS,T.ce,T.ft,rfl,.inl ⟨rfl,_,aT.of N⟩,_,rfl,c,v,_,rfl,rfl,N,aat (show v.length<=2000 by lia) (by decide),⟨g.met.length,g.add st,MC,b1,t1,D,uV.add g st,J,e,O,xv.1 _ _ e,.inr rfl⟩,rfl⟩
 . rintro o V ⟨⟨j,G,M,b2,S,C,gx,U,e,O,ev,wh⟩,rfl⟩
   obtain ⟨X,W⟩:=C.ins
   exact ⟨_,rfl,x,_,X,_,_,rfl,W,T.ce,T.gk,rfl,_,rfl,a,p,M,lV st,aq j,rfl,rfl,O,iQ (u.ts S),ev,k j G V b2 S C gx U e wh⟩
def oO (T:Txt K mg Ad):gM P w K mg base Ad.cO "meet_all" 2 ["self","states"] [] (BH P w K Ad.cO):=by
 refine T.rZ.fK qE λ Z Z Z Z Z H vs Q E hr h=>?_
 obtain ⟨x,v,I,X,Y,B,t,g,m,L,rfl,hg,ok,S,l2,h⟩:=h
 refine ⟨_,(ap (aH (uz (aL lM (pv 1) c5 (aM _)) c5 (fC ["state"] ["self"] [0] (.cons ⟨rfl,rfl,.inl rfl⟩ .nil) rfl (cf (pv 1)) (λ Z Z Z Z Z=>(kY (i:=0))) (λ Z Z Z Z Z=>cw) (λ Z Z Z Z Z=>(aV (pv 1) T.ce (nG (P:=P) (w:=w) T) .nil hr.m (aa (pv 0) ag))))))),?_⟩
 try dsimp only [eT,bq]
 rcases h with ⟨rfl,k⟩|⟨q,xs,l,rfl,F,nq,yo,Nb,ll,k⟩
 . exact ⟨_,rfl,rfl,_,rfl,f7 k⟩
 refine ⟨_,rfl,rfl,_,rfl,eM (λ h=>nomatch h) λ Z=>?_⟩
 refine ⟨_,rfl,q,rfl,⟨_,aT.of F⟩,λ D d=>?_⟩
 obtain ⟨⟨dx,hx⟩,⟨vm,hm,Z⟩,⟨vo,ho,Z⟩,⟨vr,Ha,Z⟩,⟨aE,hk,Z⟩,Z,Z,Z⟩:=id hg
 have MY:D≠I:=(aA hm d).symm
 have Su:D≠X:=(aA ho d).symm
 have RL:D≠Y:=(aA Ha d).symm
 have RO:D≠B:=(aA hk.ob d).symm
 have TB:q≠B:=λ z=>by rw [z,hk.ob] at F;cases F
 have lx:=yo.length
 have s0:=ak (o:=.lst []) d
 refine cE (K:=K) (a:=q) (xs:=xs) (λ i A c r=>A5 (gC [I,B] H r) (aQ K H r) (r D=some (.lst A)) (E2 λ G J=>A5 (d7 P w K Ad.cO (D::L) r x I X Y B t G) (uV g G) (f8 m G) (A=J.map aq) (Paired (λ j s=>G.met[j]?=some s) J (l.take i))) (∃ v,c=[v,some (.ref x)]))
   ⟨λ b u h Z=>s0 b u h,s0.ts,af,⟨g,[],(hg.new d).same s0,uV.refl g,ok,rfl,.nil⟩,none,rfl⟩ (λ i A c r Z ⟨b,_,_,_,_⟩=>aT.of (b _ _ F (by simp [nq,TB]))) ?_ ?_
 .
  rintro i y A c H1 hy ⟨O,M,W,⟨U,J,C,N,zW,rfl,f⟩,v,rfl⟩
  obtain ⟨p,st,rfl,R,jG⟩:=yo.get hy
  have hi:i<l.length:=(Bj.mp R).1
  have lj:J.length<=100000:=by rw [aca f,aaF];lia
  obtain ⟨ze,vS⟩:=C.ins
  refine ⟨_,rfl,x,ze,_,rfl,vS,rfl,_,rfl,x,p,I,X,Y,B,t,U,m,st,D::L,rfl,C,zW,S,l2,jG.ts M,Nb st (aae R),λ j g2 H2 b2 t2 MW Yw G9 ej Z=>?_⟩
  have V:=b2 _ _ W (by simp [MY,RO])
  refine ⟨V,aat (show (J.map aq).length<=100000 by rw [M1];exact lj) (by decide),λ b u h n=>?_,M.trans (t2.trans (bT V rfl)),af,⟨g2,J++[j],MW.write V (by simp) MY Su RL,N.trans Yw,G9,by rw [aaf];rfl,?_⟩,_,rfl⟩
  . rw [aw (aA h d)]
    exact b2 b u (O b u h n) n
  . rw [bU R]
    exact acL (Paired.wD f λ j s e=>Yw.at e) ej
 . rintro A c H1 ⟨O,M,W,⟨U,J,C,N,zW,rfl,f⟩,v,rfl⟩
   rw [lx,aaA] at f
   exact k D J U H1 d O M (C.less λ b h=>aai _ h) N zW W f
def tX (T:Txt K mg Ad):gM P w K mg base Ad.cO "go_on" 10 ["self","hold"] [] (IB P w K Ad.bD Ad.cO):=by
 refine T.yj.fK hC λ _ _ _ _ _ H vs Q E hr h=>?_
 obtain ⟨x,a,l,f,A,F,L,g0,m,S,rfl,X2,WT,a8,ab,l2,hm,hh,f1,f2,f3,f4,k⟩:=h
 refine ⟨_,(ai (cH (i:=2) hC.nd (pK T.Fm (nR (P:=P) (w:=w) T) .nil hr.m T.HD (aa (pv 1) ag)))
     (ap (o9 aaI (aL jR (aU bB (by rfl) T.dU cA (aa (bj (pv 0) rfl) ag)) (aU bB (by rfl) T.dU cA (aa (bj (pv 0) rfl) ag)) (aM _)) (ai (cH (i:=3) hC.nd (au ao (bj (pv 0) rfl) (aU bB (by rfl) T.dU cA (aa (bj (pv 0) rfl) ag))))
     (ai (cH (i:=4) hC.nd (ay (xp T) hr.m (aa (pv 1) (aa (pv 3) ag))))
     (ai (bA (hV aaG aaM aaL cz (bj (pv 0) rfl) (aa (pv 4) ag)))
     (ap (bA (hV aaG aaM aaL cz (bj (pv 0) rfl) (aa (fC ["order"] ["self","state","reach"] [0,3,2] (.cons ⟨rfl,rfl,.inl rfl⟩ (.cons ⟨rfl,rfl,.inl rfl⟩ (.cons ⟨rfl,rfl,.inl rfl⟩ .nil))) rfl (cf (pv 4)) (λ _ _ _ _ _=>(kY (i:=0))) (λ _ _ _ _ _=>cw) (λ _ _ _ _ _=>(aV (pv 1) T.ce (oO (P:=P) (w:=w) T) .nil hr.m (aa (aV (pv 3) T.dM (jZ (P:=P) (w:=w) T) .nil hr.m (aa (pv 2) (aa (pv 0) ag))) ag)))) ag)))))))))),?_⟩
 try dsimp only [eT,bq]
 refine ⟨_,rfl,λ X Ka QI j5 n=>?_⟩
 have s1:aG H (upd (upd H Ka (.own X)) X (.ins Ad.Reach Ka [])):=(ak j5).trans (ak (by first|(rw [aw n];exact QI)|(rw [aw n.symm];exact QI)))
 have vS:(upd (upd H Ka (.own X)) X (.ins Ad.Reach Ka [])) X=some (.ins Ad.Reach Ka []):=af
 generalize upd (upd H Ka (.own X)) X (.ins Ad.Reach Ka [])=H1 at s1 vS |-
 have m5:∀ {b},H b=none->b∉S:=λ e z=>by
   obtain ⟨u,hu⟩:=hh.some _ z
   rw [e] at hu;cases hu
 refine ⟨X,Ka,a,S,m,rfl,vS,hh.same s1,m5 QI,λ d H2 b2 t2 hd RE=>⟨rfl,?_⟩⟩
 have dn:H d=none:=s1.free hd
 have S2:aG H H2:=λ b u e=>b2 b u (s1 b u e) (by simp only [aac];exact aA e QI)
 obtain ⟨_,⟨bS,Rc,_⟩,⟨b4,a2,_⟩,⟨cg,Z1,_⟩,⟨bt,R6,_⟩,n1,n2,n3⟩:=id X2
 have ex:∀ {b u},H b=some u->b≠d/\b≠X:=λ e=>⟨aA e dn,aA e QI⟩
 obtain ⟨dm,xm⟩:=ex Rc
 obtain ⟨bp,xo⟩:=ex a2
 obtain ⟨dr,cl⟩:=ex Z1
 obtain ⟨dd,xd⟩:=ex R6.ob
 refine ⟨λ mz U R=>A4 (gC [l,f,A,F] H R) (aQ K H R) (∃ g,A6 (d7 P w K Ad.cO [] R x l f A F L g) (f8 m g) (g.fE.length=g.rows.length) (∃ B,g.met=g0.met++B) (eJ P w K Ad.bD Ad.Reach [l,f,A] R X d a S m (1024 * g.rows.length)) (mz=2000 - g.rows.length)) (E2 λ (v3 v4:eG)=>U=[some (.ref x),some (.ref a),some (.ref X),v3,v4]),
   ⟨_,λ b u h _=>S2 b u h,S2.ts,⟨g0,X2.same S2,WT,a8,⟨[],(abf _).symm⟩,RE.zero.more (aaZ _),rfl⟩,none,none,rfl⟩,?_⟩
 rintro mz U H3 ⟨b3,t3,⟨g,hg,ok,lo,ad,re,rfl⟩,v3,v4,rfl⟩
 obtain ⟨⟨dx,hx⟩,⟨vm,Hf,Yh⟩,⟨O,Z2,aj⟩,⟨vr,RK,al⟩,⟨aE,hk,_⟩,_,_,_⟩:=id hg
 have a9:vr.length=g.rows.length:=by rw [al.length,M1]
 have bQ:O.length=g.fE.length:=by rw [aj.length,M1]
 have bO:=Yh.length
 have bi:(g.met.length:Int)<=L:=ab g.met ok.nd ok.st
 refine ⟨_,rfl,x,_,dx,_,_,rfl,hx,T.ce,T.dH,rfl,A,vr,rfl,.inl (aT.of RK),λ y1 e1=>⟨_,rfl,x,_,dx,_,_,rfl,hx,T.ce,T.ft,rfl,l,vm,rfl,.inl (aT.of Hf),λ y2 e2=>⟨_,_,rfl,rfl,_,rfl,eM (λ h=>?_) (λ h=>?_)⟩⟩⟩
 .
  have hi:g.rows.length<g.met.length:=by lia
  refine ⟨λ I R=>A4 (gC [l,f,A,F] H R) (aQ K H R) (∃ G,A6 (d7 P w K Ad.cO [] R x l f A F L G) (f8 m G) (G.fE.length=G.rows.length) (∃ B,G.met=g0.met++B) (eJ P w K Ad.bD Ad.Reach [l,f,A] R X d a S m (1024 * G.rows.length)) (G.rows.length=g.rows.length+1)) (E2 λ (v3 v4:eG)=>I=[some (.ref x),some (.ref a),some (.ref X),v3,v4]),
    λ I R ⟨b,t,⟨G,h1,h2,h3,h4,h5,h6⟩,w3,w4,e⟩=>⟨2000 - G.rows.length,by lia,b,t,⟨G,h1,h2,h3,h4,h5,rfl⟩,w3,w4,e⟩,?_⟩
  obtain ⟨p,st,ep,es,jG⟩:=Yh.get (aI (show g.rows.length<vm.length by lia))
  have so:=ok.st st (aae es)
  have JT:nQ vm ((g.rows.length:Nat):Int)=some (.ref p):=dO (by rw [aI (show g.rows.length<vm.length by lia),ep])
  refine ⟨_,rfl,x,_,dx,_,_,rfl,hx,T.ce,T.ft,rfl,_,rfl,x,_,dx,_,_,rfl,hx,T.ce,T.dH,rfl,A,vr,rfl,.inl (aT.of RK),λ y3 e3=>⟨l,_,_,_,rfl,rfl,.inl (aT.of Hf),(by rw [e3,a9];exact JT:nQ vm y3=some (.ref p)),?_⟩⟩
  refine ⟨_,rfl,_,rfl,a,S,m,p,st,rfl,re.hold,jG,so,λ q H4 nq s4 hq=>?_⟩
  have E1:=s4 _ _ Z2
  refine ⟨_,rfl,x,_,dx,_,_,rfl,s4 _ _ hx,T.ce,T.lD,rfl,.inl ⟨rfl,_,aT.of E1⟩,_,rfl,f,O,_,rfl,rfl,E1,aat (show O.length<=2000 by lia) (by decide),?_⟩
  have Y5:q≠l:=(aA Hf nq).symm
  have XV:q≠f:=(aA Z2 nq).symm
  have bd:q≠A:=(aA RK nq).symm
  have VM:=(hg.same s4).ord E1 hq (by simp [Y5,XV,bd])
  have BP:=(re.same s4).write (ys:=O++[.ref q]) E1 (by simp) f2
  have Yi:aQ K H4 (upd H4 f (.lst (O++[.ref q]))):=bT E1 rfl
  have IK:(upd H4 f (.lst (O++[.ref q]))) q=some (.lst ((st.orders m).map aq)):=by rw [aw XV];exact hq
  have DL:(upd H4 f (.lst (O++[.ref q]))) A=some (.lst vr):=by rw [aw n3.symm];exact s4 _ _ RK
  have b5:gC [l,f,A,F] H (upd H4 f (.lst (O++[.ref q]))):=λ b u h z=>by
    have:=b3 b u h z
    simp only [aaa,aad,aaR,abJ] at z
    rw [aw z.2.1]
    exact s4 _ _ this
  have T5:aQ K H (upd H4 f (.lst (O++[.ref q]))):=t3.trans (s4.ts.trans Yi)
  have C5:f9 K (upd H4 f (.lst (O++[.ref q]))) p st:=(jG.same s4).ts Yi
  have be:=ok.ord (s:=st) (by rw [lo];exact es)
  have bN:=tI hm.h4 st
  generalize upd H4 f (.lst (O++[.ref q]))=H5 at VM BP IK DL b5 T5 C5 |-
  obtain ⟨⟨Rm,Pw⟩,⟨bV,a0,_⟩,⟨b9,a3,_⟩,_,⟨bu,WN,_⟩,_,_,_⟩:=id VM
  refine ⟨_,rfl,x,_,Rm,_,_,rfl,Pw,T.ce,T.dH,rfl,.inl ⟨rfl,_,aT.of DL⟩,_,rfl,q,rfl,⟨_,aT.of IK⟩,λ D W=>?_⟩
  have TB:q≠d:=λ z=>by
    obtain ⟨bJ,aJ,_⟩:=BP.Me
    rw [z,aJ.ob] at IK;cases IK
  have bc:q≠F:=λ z=>by rw [z,WN.ob] at IK;cases IK
  have MY:D≠l:=(aA a0 W).symm
  have Su:D≠f:=(aA a3 W).symm
  have RL:D≠A:=(aA DL W).symm
  have ba:D≠F:=(aA WN.ob W).symm
  have Qr:D∉S:=λ z=>by
    obtain ⟨u,hu⟩:=BP.hold.some D z
    rw [W] at hu;cases hu
  obtain ⟨bn,Vm,_⟩:=BP.Me
  have RO:D≠d:=(aA Vm.ob W).symm
  have s5:=ak (o:=.lst []) W
  refine cE (K:=K) (a:=q) (xs:=(st.orders m).map aq) (λ j acc I N=>A5 (gC [l,F,d] H5 N) (aQ K H5 N) (N D=some (.lst acc)) (E2 λ G r=>A6 (d7 P w K Ad.cO [D] N x l f A F L G) (uV (g.ord (st.orders m)) G) (f8 m G) (eJ P w K Ad.bD Ad.Reach [D,l,f,A] N X d a S m (1024 * g.rows.length+64 * j)) (bF K (cW N ([D]++[l,f,A])) ((r:bX).map uv) acc) (Paired (λ o b=>oZ G.met (kC m st o) b) ((st.orders m).take j) r)) (∃ v,I=[v,some (.ref x),some (.ref p),some (.ref X)]))
    ⟨λ b u h _=>s5 b u h,s5.ts,af,⟨_,[],(VM.new W).same s5,uV.refl _,be,(BP.new W).same s5,cK,.nil⟩,none,rfl⟩ (λ j acc I N _ ⟨b,_,_,_,_⟩=>aT.of (b _ _ IK (by simp [Y5,bc,TB]))) ?_ ?_
  .
   rintro j y acc I N hy ⟨b6,t6,Ip,⟨J,r,DO,Hk,zW,MV,QN,Pl⟩,v,rfl⟩
   obtain ⟨o,eo,rfl⟩:=dI hy
   have ho:=aae eo
   have hj:j<(st.orders m).length:=(Bj.mp eo).1
   have Db:acc.length<=16:=by rw [QN.length,M1,<- aca Pl,aaF];lia
   obtain ⟨an,Sh⟩:=DO.ins
   obtain ⟨Wi,Uq⟩:=MV.ins
   obtain ⟨_,⟨b0,YZ,_⟩,⟨cc,a4,_⟩,⟨ch,a6,_⟩,⟨bw,bs,_⟩,_,_,_⟩:=id DO
   obtain ⟨bm,IP,_⟩:=MV.Me
   have OO:∀ (Y:V) (b':Option (aR)) (g2:qJ) (C:Hp),gC [l,F,d] N C->aQ K N C->d7 P w K Ad.cO [D] C x l f A F L g2->uV J g2->f8 m g2->eJ P w K Ad.bD Ad.Reach [D,l,f,A] C X d a S m (1024 * g.rows.length+64 * j+64)->bF K (cW C ([D]++[l,f,A])) (r.map uv) acc->Dn K (cW C ([D]++[l,f,A])) (uv b') Y->oZ g2.met (kC m st o) b' ->
       C D=some (.lst acc)/\acc.length<sizeLine/\(gC [l,F,d] H5 (upd C D (.lst (acc++[Y])))/\aQ K H5 (upd C D (.lst (acc++[Y])))/\(upd C D (.lst (acc++[Y]))) D=some (.lst (acc++[Y]))/\(∃ G r,d7 P w K Ad.cO [D] (upd C D (.lst (acc++[Y]))) x l f A F L G/\uV (g.ord (st.orders m)) G/\f8 m G/\eJ P w K Ad.bD Ad.Reach [D,l,f,A] (upd C D (.lst (acc++[Y]))) X d a S m (1024 * g.rows.length+64 * (j+1))/\bF K (cW (upd C D (.lst (acc++[Y]))) ([D]++[l,f,A])) ((r:bX).map uv) (acc++[Y])/\Paired (λ o b=>oZ G.met (kC m st o) b) ((st.orders m).take (j+1)) r)):=by
     intro Y b' g2 C b8 t8 Tw RN Q3 W3 Na ah ri
     have Gk:=b8 _ _ Ip (by simp [MY,ba,RO])
     refine ⟨Gk,aW (by lia),λ b u h n=>?_,t6.trans (t8.trans (bT Gk rfl)),af,g2,r++[b'],Tw.write Gk (by simp) MY Su RL,Hk.trans RN,Q3,(W3.write Gk (by simp) Qr).more (by lia),?_,?_⟩
     . rw [aw (aA h W)]
       exact b8 b u (b6 b u h n) n
     . rw [mN (by simp),aaf]
       exact bF.snoc Na ah
     . rw [bU eo]
       obtain ⟨⟨B,em⟩,_⟩:=RN
       exact acL (Paired.wD Pl λ o b q=>by rw [em];exact q.more) ri
   have TD:∀ b∈[D,l,f,A],N b≠none:=by
     intro b hb
     simp only [aaa,aad,aaR] at hb
     rcases hb with rfl|rfl|rfl|rfl
     . rw [Ip];exact nofun
     . rw [YZ];exact nofun
     . rw [a4];exact nofun
     . rw [a6];exact nofun
   refine ⟨_,rfl,x,an,_,rfl,Sh,rfl,_,rfl,X,Wi,_,rfl,Uq,rfl,_,rfl,_,rfl,X,d,a,S,m,_,p,st,o,[D,l,f,A],rfl,MV,TD,by lia,C5.ts t6,so,hm.ow ho,hm.tn st o so ho,hm.sp st so,λ hu H7 b7 t7 Vf=>?_,λ a7 q2 bh H7 bb b7 t7 Vf qL Ui=>?_⟩
   . have Mn:=DO.but IP.ob dd.symm b7 t7
     refine ⟨x,.cL,l,f,A,F,L,J,m,[D],rfl,Mn,zW,ab,l2,.inl ⟨rfl,?_⟩⟩
     obtain ⟨z1,z2,z3,z4,z5,g9,r9,y1,y2,y3,y4,y5,y6⟩:=OO .cL none J H7 (λ b u h n=>b7 b u h (by simp only [aaa,aad,aaR,abJ] at n;simp [n.2.2])) t7 Mn (uV.refl J) zW Vf (bF.xM IP.ob rfl (DK b7) QN) rfl (by rw [GN hu];trivial)
     exact ⟨z1,z2,z3,z4,z5,⟨g9,r9,y1,y2,y3,y4,y5,y6⟩,_,rfl⟩
   .
    have Mn:=DO.but IP.ob dd.symm b7 t7
    have bk:=HI (id MV.hold).5 hm.h4 st o
    refine ⟨x,.ref q2,l,f,A,F,L,J,m,[D],rfl,Mn,zW,ab,l2,.inr ⟨q2,bh,ul m st o,rfl,qL,(aA YZ bb).symm,Ui,λ s' h'=>hm.nx st o s' so ho h',by lia,λ D2 js g2 C gQ b8 t8 Tw RN Q3 Wu DA=>?_⟩⟩
    obtain ⟨_,⟨b1,a1,_⟩,⟨cd,a5,_⟩,⟨cj,NY,_⟩,⟨bx,Zt,_⟩,_,_,_⟩:=id Mn
    have OC:=b7 _ _ Ip (by simp [RO])
    have W3:=Vf.frame (M:=[l,F]) b8 t8 (by simp [xm.symm,xd.symm]) (by simp [dm.symm,dd.symm]) (λ c hc z=>by
      simp only [aaa,aad,aaR] at z
      rcases z with rfl|rfl
      . exact f1 hc
      . exact f4 hc) (λ c hc=>by
      simp only [aaa,aad,aaR] at hc
      rcases hc with rfl|rfl
      . exact .inl (by simp)
      . exact .inr λ xs z=>by rw [Zt.ob] at z;cases z)
    have ae:bF K (cW H7 ([D]++[l,f,A])) (r.map uv) acc:=bF.xM IP.ob rfl (DK b7) QN
    have Na:bF K (cW C ([D]++[l,f,A])) (r.map uv) acc:=bF.xM Zt.ob rfl (λ c u e n1 n2=>b8 c u e (by
      simp only [adB,ac7,aaa,aad,aaR,abJ] at n2 |-
      exact ⟨n2.2.1,n1⟩)) ae
    obtain ⟨z1,z2,z3,z4,z5,g9,r9,y1,y2,y3,y4,y5,y6⟩:=OO (.ref D2) (some js) g2 C (λ b u h n=>by
      simp only [aaa,aad,aaR,abJ] at n
      exact b8 b u (b7 b u h (by simp [n.2.2])) (by simp [n.1,n.2.1])) (t7.trans t8) Tw RN Q3 W3 Na (Cb (aT.of (i9 Wu (by
      simp only [adB,ac7,aaa,aad,aaR,abJ]
      exact ⟨(aA OC gQ).symm,(aA a1 gQ).symm,(aA a5 gQ).symm,(aA NY gQ).symm⟩)))) (by rw [EZ a7];exact DA)
    exact ⟨z1,z2,z3,z4,z5,⟨g9,r9,y1,y2,y3,y4,y5,y6⟩,_,rfl⟩
  .
   rintro acc I N ⟨b6,t6,Ip,⟨J,r,DO,Hk,zW,MV,QN,Pl⟩,v,rfl⟩
   rw [M1,aaA] at Pl
   have HQ:=b6 _ _ DL (by
     simp only [aaa,aad,aaR,abJ]
     exact ⟨n2.symm,(λ z=>by rw [z,WN.ob] at DL;cases DL),dr⟩)
   have er:J.rows=g.rows:=Hk.rows
   have eo:J.fE=g.fE++[st.orders m]:=Hk.fE
   have Ur:bF K (cW N ([]++[l,f,A])) (r.map uv) acc:=bF.same (λ b u e=>by
     unfold cW at e |-
     split at e
     . cases e
     . rename_i z
       rw [aap (show b∉[]++[l,f,A] from λ y=>z (aau.mpr (.inr y)))]
       exact e) _ QN
   have Mn:=(DO.less (L':=[]) λ b h=>absurd h aad).row HQ Ip (by simp [MY,Su,RL]) Ur
   have bf:=zW.row (s:=st) (r:=r) (by rw [er];exact Hk.at (show (g.ord (st.orders m)).met[g.rows.length]?=some st from es)) Pl
   refine ⟨A,vr,_,rfl,rfl,HQ,aat (show vr.length<=2000 by lia) (by decide),λ b u h z=>?_,T5.trans (t6.trans (bT HQ rfl)),⟨J.row r,Mn,bf,?_,?_,?_,?_⟩,_,_,rfl⟩
   . have:=b5 b u h z
     simp only [aaa,aad,aaR,abJ] at z
     rw [aw z.2.2.1]
     exact b6 _ _ this (by simp only [aaa,aad,aaR,abJ];exact ⟨z.1,z.2.2.2,aA h dn⟩)
   . show J.fE.length=(J.rows++[r]).length
     rw [eo,er,aab,aab,lo]
     rfl
   . obtain ⟨⟨B,em⟩,_⟩:=Hk
     obtain ⟨PC,aF⟩:=ad
     exact ⟨PC++B,by show J.met=_;rw [em];show g.met++B=_;rw [aF,abi]⟩
   . refine ((MV.less λ b h=>aai _ h).write HQ (by simp) f3).more ?_
     show _<=1024 * (J.rows++[r]).length
     rw [er,aab,aaC,M1]
     lia
   . show (J.rows++[r]).length=_
     rw [er,aab];rfl
 . exact k g H3 b3 t3 hg ok lo (by have:=ok.lr;lia) ad
def o6 (T:Txt K mg Ad):gM P w K mg base Ad.cO "__init__" 11 ["self","hold","states","limit"] [] (FE P w K Ad.bD Ad.cO):=by
 refine T.sG.fK gT λ Z Z Z Z Z H vs Q E hr h=>?_
 obtain ⟨x,D,a,q,L,fp,m,xs,l,rfl,hx,hh,nx,hm,F,l2,C,yo,Nb,k⟩:=h
 refine ⟨_,(ai (cR aaI rfl (cf (pv 2)) (iD (i:=4) gT.nd) (ap (bA (ay (jM T) hr.m (aa (pv 1) (aa (pv 4) ag))))))
     (ai (eD (pv 0) (bH ag) rfl)
     (ai (eD (pv 0) (bH ag) rfl)
     (ai (eD (pv 0) (bH ag) rfl)
     (ai (eD (pv 0) (Ct (P:=P) (w:=w) rfl rfl) rfl)
     (ai (eD (pv 0) (pv 3) rfl)
     (ai (cR aaI rfl (cf (pv 2)) (iD (i:=4) gT.nd) (ap (bA (aV (pv 0) T.ce (nG (P:=P) (w:=w) T) .nil hr.m (aa (pv 4) ag)))))
     (ap (bA (aV (pv 0) T.ce (tX (P:=P) (w:=w) T) .nil hr.m (aa (pv 1) ag))))))))))),?_⟩
 try dsimp only [eT,bq]
 try (refine zB ?_;intro Z Z Z Z Z Z Z Z Z)
 have lx:=yo.length
 refine ⟨_,rfl,q,rfl,⟨_,aT.of C⟩,?_⟩
 refine gY (K:=K) (a:=q) (xs:=xs) (λ i U A=>aG H A/\∃ (v:eG),U=[some (.ref x),some (.ref a),some (.ref q),some (.int L),v]) ⟨aG.refl _,none,rfl⟩ (λ i U A Z ⟨S,_⟩=>aT.of (S _ _ C)) ?_ ?_
 . rintro Z i v U y hv ⟨S,v4,rfl⟩
   obtain ⟨p,N,rfl,B,jG⟩:=yo.get hv
   exact ⟨_,rfl,_,rfl,a,fp,m,p,N,rfl,hh.same S,jG.same S,Nb N (aae B),λ X s2=>⟨S.trans s2,_,rfl⟩⟩
 rintro U y ⟨S,v4,rfl⟩
 have B0:kn K Ad.cO x D y y []:=.start (S _ _ hx)
 refine ⟨Eg,λ c ig=>?_⟩
 have B1:=B0.new (o:=.lst []) ig
 refine ⟨_,rfl,x,_,D,_,rfl,B1.at_,T.ce,T.ft,lt1000 rfl,?_⟩
 have O:=B1.put (fs':=aP "met" (.ref c) [])
 have Rq:=B0.ne ig
 have MA:(upd (upd y c (.lst [])) x (.ins Ad.cO D (aP "met" (.ref c) []))) c=some (.lst []):=by rw [aw Rq];exact af
 have mn:y c=none:=ig
 generalize upd (upd y c (.lst [])) x (.ins Ad.cO D (aP "met" (.ref c) []))=X at O MA |-
 refine ⟨Eg,λ d Sv=>?_⟩
 have B3:=O.new (o:=.lst []) Sv
 refine ⟨_,rfl,x,_,D,_,rfl,B3.at_,T.ce,T.lD,lt1000 rfl,?_⟩
 have R:=B3.put (fs':=aP "orders" (.ref d) (aP "met" (.ref c) []))
 have Wx:=O.ne Sv
 have on:y d=none:=O.none Sv
 have Za:c≠d:=aA MA Sv
 have KR:(upd (upd X d (.lst [])) x (.ins Ad.cO D (aP "orders" (.ref d) (aP "met" (.ref c) [])))) d=some (.lst []):=by rw [aw Wx];exact af
 have KE:(upd (upd X d (.lst [])) x (.ins Ad.cO D (aP "orders" (.ref d) (aP "met" (.ref c) [])))) c=some (.lst []):=by rw [aw Rq,aw Za];exact MA
 generalize upd (upd X d (.lst [])) x (.ins Ad.cO D (aP "orders" (.ref d) (aP "met" (.ref c) [])))=Y at R KR KE |-
 refine ⟨Eg,λ f I=>?_⟩
 have B5:=R.new (o:=.lst []) I
 refine ⟨_,rfl,x,_,D,_,rfl,B5.at_,T.ce,T.dH,lt1000 rfl,?_⟩
 have V:=B5.put (fs':=aP "rows" (.ref f) (aP "orders" (.ref d) (aP "met" (.ref c) [])))
 have Z7:=R.ne I
 have rn:y f=none:=R.none I
 have Y4:c≠f:=aA KE I
 have YT:d≠f:=aA KR I
 have O8:(upd (upd Y f (.lst [])) x (.ins Ad.cO D (aP "rows" (.ref f) (aP "orders" (.ref d) (aP "met" (.ref c) []))))) f=some (.lst []):=by rw [aw Z7];exact af
 have P0:(upd (upd Y f (.lst [])) x (.ins Ad.cO D (aP "rows" (.ref f) (aP "orders" (.ref d) (aP "met" (.ref c) []))))) d=some (.lst []):=by rw [aw Wx,aw YT];exact KR
 have Nj:(upd (upd Y f (.lst [])) x (.ins Ad.cO D (aP "rows" (.ref f) (aP "orders" (.ref d) (aP "met" (.ref c) []))))) c=some (.lst []):=by rw [aw Rq,aw Y4];exact KE
 generalize upd (upd Y f (.lst [])) x (.ins Ad.cO D (aP "rows" (.ref f) (aP "orders" (.ref d) (aP "met" (.ref c) []))))=H6 at V O8 P0 Nj |-
 refine λ t SC=>?_
 have B7:=V.new (o:=kZ P w t []) SC
 refine ⟨_,rfl,x,_,D,_,rfl,B7.at_,T.ce,T.gk,lt1000 rfl,?_⟩
 have B8:=B7.put (fs':=aP "places" (.ref t) (aP "rows" (.ref f) (aP "orders" (.ref d) (aP "met" (.ref c) []))))
 have RD:=V.ne SC
 have dn:y t=none:=V.none SC
 refine ⟨_,rfl,_,rfl,x,_,D,_,rfl,B8.at_,T.ce,T.nv,lt1000 rfl,?_⟩
 have W:=B8.put (fs':=aP "limit" (.int L) (aP "places" (.ref t) (aP "rows" (.ref f) (aP "orders" (.ref d) (aP "met" (.ref c) [])))))
 have kp:∀ {b o o1 o2 o3},H6 b=some o->b≠x->(upd (upd (upd H6 t o1) x o2) x o3) b=some o:=λ e n=>by rw [aw n,aw n,aw (aA e SC)];exact e
 have Tv:(upd (upd (upd H6 t (kZ P w t [])) x (.ins Ad.cO D (aP "places" (.ref t) (aP "rows" (.ref f) (aP "orders" (.ref d) (aP "met" (.ref c) [])))))) x (.ins Ad.cO D (aP "limit" (.int L) (aP "places" (.ref t) (aP "rows" (.ref f) (aP "orders" (.ref d) (aP "met" (.ref c) []))))))) t=some (kZ P w t []):=by rw [aw RD,aw RD];exact af
 have g9:d7 P w K Ad.cO [] _ x c d f t L ⟨[],[],[]⟩:=⟨⟨D,W.at_⟩,⟨[],kp Nj Rq,Refs.nil⟩,⟨[],kp P0 Wx,cK⟩,⟨[],kp O8 Z7,cK⟩,⟨[],io.nil Tv,aaj _,zu.nil⟩,Za,Y4,YT⟩
 generalize upd (upd (upd H6 t (kZ P w t [])) x (.ins Ad.cO D (aP "places" (.ref t) (aP "rows" (.ref f) (aP "orders" (.ref d) (aP "met" (.ref c) [])))))) x (.ins Ad.cO D (aP "limit" (.int L) (aP "places" (.ref t) (aP "rows" (.ref f) (aP "orders" (.ref d) (aP "met" (.ref c) []))))))=H9 at W g9 |-
 have b9:gC [x] H H9:=λ b u e n=>W.st b u (S b u e) λ z=>n (aac.mpr z)
 have T9:aQ K H H9:=S.ts.trans W.ts
 have Zr:q∉[x]:=λ z=>by rw [aac.mp z,hx] at C;cases C
 have fr:∀ b∈[c,d,f,t],H b=none:=by
   intro b hb
   simp only [aaa,aad,aaR] at hb
   rcases hb with rfl|rfl|rfl|rfl
   . exact S.free mn
   . exact S.free on
   . exact S.free rn
   . exact S.free dn
 have ex:∀ {b u},H b=some u->b∉[x]->b∉[c,d,f,t]:=λ e Z z=>by rw [fr _ z] at e;cases e
 refine ⟨_,rfl,q,rfl,⟨_,aT.of (b9 _ _ C Zr)⟩,?_⟩
 refine gY (K:=K) (a:=q) (xs:=xs) (λ i U A=>A4 (gC [x] H A) (aQ K H A) (∃ g,A7 (d7 P w K Ad.cO [] A x c d f t L g) (f8 m g) (g.fE=[]) (g.rows=[]) (∀ s∈l.take i,s∈g.met) (∀ s r,l=s::r->0<i->g.met[0]?=some s) (i=0->g.met=[])) (∃ (v:eG),U=[some (.ref x),some (.ref a),some (.ref q),some (.int L),v]))
   ⟨b9,T9,⟨_,g9,⟨aco,aaj _,aaj _,λ Z h=>absurd h aad,λ i s o e=>by simp at e,λ i s o e=>by simp at e⟩,rfl,rfl,λ s h=>absurd h (by simp),λ Z Z Z h=>absurd h (abH _),λ Z=>rfl⟩,_,rfl⟩ (λ i U A Z ⟨b,_,_,_⟩=>aT.of (b _ _ C Zr)) ?_ ?_
 .
  rintro Z i v U Em hv ⟨Ko,J,⟨g,G,ok,o0,r0,yu,hz,SO⟩,v5,rfl⟩
  obtain ⟨p,N,rfl,B,jG⟩:=yo.get hv
  obtain ⟨LL,K6⟩:=G.ins
  refine ⟨_,rfl,x,LL,_,rfl,K6,rfl,_,rfl,x,p,c,d,f,t,L,g,m,N,[],rfl,G,ok,F,l2,jG.ts J,Nb N (aae B),λ j g' He Hg LX LR gx wQ ej wh=>⟨λ b u e n=>Hg b u (Ko b u e n) (λ z=>ex e n (by
    simp only [aaa,aad,aaR] at z |-
    rcases z with z|z
    . exact .inl z
    . exact .inr (.inr (.inr z)))),J.trans LX,⟨g',LR,wQ,gx.fE.trans o0,gx.rows.trans r0,λ s hs=>?_,λ s r e Z=>?_,λ e=>absurd e (acU _)⟩,_,rfl⟩⟩
  .
   rw [bU B] at hs
   rcases aau.mp hs with z|z
   . obtain ⟨⟨M,em⟩,Z⟩:=gx
     rw [em]
     exact aaU _ (yu s z)
   . rw [aac.mp z];exact aae ej
  .
   by_cases h0:0<i
   . exact gx.at (hz s r e h0)
   .
    obtain rfl:i=0:=by lia
    rw [e] at B
    cases B
    rcases wh with rfl|rfl
    . rw [SO rfl] at ej;simp at ej
    . show (g.met++_)[0]?=_
      rw [SO rfl];rfl
 .
  rintro U Em ⟨Ko,J,⟨g,G,ok,o0,r0,yu,hz,SO⟩,v5,rfl⟩
  rw [lx,aaA] at yu
  obtain ⟨LL,K6⟩:=G.ins
  have nf:∀ {b},b∈[c,d,f,t]->b∉fp:=λ hb z=>by
    obtain ⟨u,hu⟩:=hh.some _ z
    rw [fr _ hb] at hu;cases hu
  refine ⟨_,rfl,x,LL,_,rfl,K6,rfl,_,rfl,x,a,c,d,f,t,L,g,m,fp,rfl,G,ok,by rw [o0,r0];rfl,F,l2,hm,hh.Ir (λ b u e n=>Ko b u e λ z=>n (aac.mp z)) J nx,nf (by simp),nf (by simp),nf (by simp),nf (by simp),λ g' He Hg LX LR wQ UJ Xh ⟨M,em⟩=>?_⟩
  refine k c d f t g' He (λ b u e n=>Hg b u (Ko b u e n) (ex e n)) (J.trans LX) fr LR wQ UJ Xh (λ s hs=>by rw [em];exact aaU _ (yu s hs)) λ s r e=>?_
  have:=hz s r e (by rw [lx,e];exact ad3 _)
  rw [em,aal (Bj.mp this).1]
  exact this
def nI (T:Txt K mg Ad):gM P w K mg base Ad.c6 "end" 1 ["self","place","number","lasting"] [] (Lz Ad.c6):=by
 refine T.yM.fK wS λ Z Z Z Z Z H vs Q E hr h=>?_
 obtain ⟨x,A,d,i,m,q,S,p,c,t,n,l,rfl,a,y,hc,en,n0,hp,hz,k⟩:=h
 refine ⟨_,(ai (ii (pv 3) (qC (au ao (bj (pv 0) rfl) (pv 1)) (pv 2) set_list))
     (ai (Hz (bj (pv 0) rfl) (pv 1) Fo ac K8 set_list)
     (ap (bC (aL cV (au ao (bj (pv 0) rfl) (pv 1)) ac (aM _)) (ai (ii (ax aO (pv 3) ac) (qC (bj (pv 0) rfl) (pv 1) set_list))
     (ap (bA (hV aaG aaM aaL cz (bj (pv 0) rfl) (aa (pv 1) ag))))) aK)))),?_⟩
 try dsimp only [eT,bq]
 try (refine d9 ?_;intro Z Z Z Z)
 obtain ⟨D,g⟩:=a.ins
 have hG:p<q.length:=by rw [a.len];exact (Bj.mp y).1
 have j:q[p]?=some q[p]:=Yb hG
 have Y:=a.CK p _ l j y
 have J:=a.nd
 simp only [aaP,aaa,abJ] at J
 obtain ⟨⟨a1,a2,a3,a4⟩,⟨b1,b2,X⟩,⟨c1,c2⟩,d1,Z⟩:=J
 have O:=aae j
 have F:(S.c7.map aq)[p]?=some (aq n):=by rw [Sb,en];rfl
 have I:p<(S.c7.map aq).length:=(Bj.mp F).1
 refine ⟨_,rfl,_,rfl,x,_,D,_,_,rfl,g,T.cy,T.iY,rfl,_,rfl,A,_,_,_,rfl,rfl,.inl (aT.of a.T6),cu (by rw [Sb,j];rfl),_,rfl,q[p],_,_,c,rfl,rfl,Y,?_,?_⟩
 . exact j9 (by rw [M1];exact hc)
 have G:d≠q[p]:=λ z=>X (z ▸ O)
 have xq:x≠q[p]:=λ z=>by rw [z,Y] at g;cases g
 have xg:x≠d:=λ z=>by rw [z,a.QY] at g;cases g
 refine ⟨_,rfl,x,_,D,_,_,rfl,(aw xq).trans g,T.cy,T.gA,rfl,_,rfl,d,_,p,_,rfl,rfl,aT.of ((aw G).trans a.QY),F,_,_,rfl,rfl,d,_,_,p,rfl,rfl,(aw G).trans a.QY,j9 I,?_⟩
 have f:=a.fin (c:=c) (t:=t) (n:=n) j y
 have ez:(V.int ((n:Int) - 1))=aq (n - 1):=by
   show V.int _=V.int _
   rw [show ((n:Int) - 1)=((n - 1:Nat):Int) by lia]
 rw [ez]
 have U:gC (A::d::i::m::q) H (upd (upd H q[p] (.lst ((l.map jL).set c (aq t)))) d (.lst ((S.c7.map aq).set p (aq (n - 1))))):=λ b u e N=>by
   simp only [aaa,abJ] at N
   rw [aw N.2.1,aw (λ z=>N.2.2.2.2 (by rw [z];exact O))]
   exact e
 generalize upd (upd H q[p] (.lst ((l.map jL).set c (aq t)))) d (.lst ((S.c7.map aq).set p (aq (n - 1))))=C at f U |-
 obtain ⟨B,v⟩:=f.ins
 have s:((S.c7.set p (n - 1)).map aq)[p]?=some (aq (n - 1)):=by
   rw [Sb,cT.mpr (.inl ⟨rfl,by rw [M1] at I;exact I,rfl⟩)];rfl
 refine ⟨_,rfl,x,_,B,_,_,rfl,v,T.cy,T.gA,rfl,_,rfl,d,_,_,_,rfl,rfl,.inl (aT.of f.QY),cu s,?_⟩
 refine ⟨rfl,_,rfl,?_⟩
 by_cases M:n=1
 .
  rw [show decide (aq (n - 1)=V.int 0)=true from aaH (by rw [M];rfl)]
  have R:p<(S.bO.map jL).length:=by rw [M1];exact hp
  have xk:x≠i:=λ z=>by rw [z,f.Oo] at v;cases v
  have h2:=f.U7 (p:=p) (t:=t)
  have W:gC (A::d::i::m::q) H (upd (upd C i (.lst ((S.bO.map jL).set p (aq (t+1))))) m (.lst (S.queue.map aq++[aq p]))):=λ b u e N=>by
    have:=U b u e N
    simp only [aaa,abJ] at N
    rw [aw N.2.2.2.1,aw N.2.2.1]
    exact this
  refine f7 ⟨_,rfl,_,_,rfl,rfl,λ r er=>?_⟩
  obtain rfl:r=((t+1:Nat):Int):=er
  refine ⟨_,rfl,x,_,B,_,_,rfl,v,T.cy,T.fh,rfl,_,rfl,i,_,_,p,rfl,rfl,f.Oo,j9 R,?_⟩
  have L:=(aw (o:=.lst ((S.bO.map jL).set p (aq (t+1)))) (λ z=>c1 z.symm)).trans f.RY
  refine ⟨_,rfl,x,_,B,_,_,rfl,(aw xk).trans v,T.cy,T.gc,rfl,.inl ⟨rfl,_,aT.of L⟩,_,rfl,m,_,_,rfl,rfl,L,aat (show (S.queue.map aq).length<=10000 by rw [M1];exact hz) (by decide),k _ W ?_⟩
  unfold jI.fin
  rw [aan M,aan M]
  exact h2
 .
  rw [show decide (aq (n - 1)=V.int 0)=false from aaq (λ z=>M (by have:=V.int.inj z;lia))]
  refine fe (k C U ?_)
  unfold jI.fin
  rw [aap M,aap M]
  exact f
def pC (T:Txt K mg Ad):gM P w K mg base Ad.c6 "go_back" 2 ["self","ahead"] [] (DG K Ad.c6):=by
 refine T.sB.fK cY λ Z Z Z Z Z H vs Q E hr h=>?_
 obtain ⟨x,D,I,C,u,B,S0,pa,ah,rows,rfl,R6,WT,aE,ae,Rk,lr,k⟩:=h
 refine ⟨_,(ai (cH (i:=2) cY.nd ac)
     (ap (o9 aaI (aL jR (pv 2) (aU bB (by rfl) T.dU cA (aa (bj (pv 0) rfl) ag)) (aM _)) (ai (cH (i:=3) cY.nd (au ao (bj (pv 0) rfl) (pv 2)))
     (ai (cR aaI rfl (cf (au ao (pv 1) (pv 3))) (dg (K:=K) (n:=2) rfl rfl (aS (iD (i:=4) cY.nd) (aS (iD (i:=5) cY.nd) db))) (ap (bC (aL lM (au ao (au ao (bj (pv 0) rfl) (pv 4)) (pv 5)) c5 (aM _)) (ap (bA (aV (pv 0) T.cy (nI (P:=P) (w:=w) T) .nil hr.m (aa (pv 4) (aa (pv 5) (aa (au ao (bj (pv 0) rfl) (pv 3)) ag)))))) aK)))
     (ap (Kt (i:=2) cY.nd rfl (lc rfl) ac Mb))))))),?_⟩
 try dsimp only [eT,bq]
 refine ⟨λ mz U f=>(E3 λ S F d=>A8 (gC (FD D I C u B) H f) (hU Ad.c6 f x D I C u B S) (ia rows S F) (fJ rows S) (∀ i j,i<d->S.queue[i]?=some j->xf rows S j) (∀ i j k,d<=i->S.queue[i]?=some j->S.bO[j]?=some (some k)->F<=k) (mz=2000 - d) (E3 λ (v3 W Y:eG)=>U=[some (.ref x),some (.ref pa),some (aq d),v3,W,Y])),
   ⟨_,S0,0,0,λ Z Z h Z=>h,R6,WT,aE,λ i j h=>absurd h (abn _),λ Z Z Z Z Z Z=>aaZ _,rfl,none,none,none,rfl⟩,?_⟩
 rintro mz U H1 ⟨S,F,d,b1,V,ok,nd,gd,lo,rfl,v3,W,Y,rfl⟩
 obtain ⟨dx,hx⟩:=V.ins
 have ql:=ok.ql
 refine ⟨_,rfl,_,rfl,x,_,dx,_,_,rfl,hx,T.cy,T.gc,rfl,u,_,rfl,.inl (aT.of V.RY),λ y ey=>⟨_,_,rfl,rfl,_,rfl,eM (λ h=>?_) (λ h=>?_)⟩⟩
 .
  rw [M1] at ey
  have hi:d<S.queue.length:=by lia
  have R:S.queue[d]?=some S.queue[d]:=Yb hi
  generalize S.queue[d]=j at R
  obtain ⟨kk,ek⟩:=(ok.qu j).mp (aae R)
  have zW:=ok.up (lo d j kk (aaj _) R ek)
  have hj:j<ah.length:=by rw [Rk.1,<- ok.lk];exact (Bj.mp ek).1
  have ea:ah[j]?=some ah[j]:=Yb hj
  generalize ah[j]=l at ea
  refine ⟨λ ad f=>∃ s,A6 (gC (FD D I C u B) H f) (hU Ad.c6 f x D I C u B s) (ia rows s kk) (Ap S s) (xf rows s j) (E3 λ (v3 W Y:eG)=>ad=[some (.ref x),some (.ref pa),some (aq (d+1)),v3,W,Y]),
    λ ad f ⟨s,b',J5,J8,X,gj,w3,w4,w5,e⟩=>⟨2000 - (d+1),by lia,s,kk,d+1,b',J5,J8,nd.more X,λ i a hi e=>?_,λ i a k hi e N=>?_,rfl,w3,w4,w5,e⟩,?_⟩
  .
   by_cases q:i=d
   . rw [q,X.at R] at e
     cases e
     exact gj
   . have hq:i<S.queue.length:=by lia
     have G:=X.at (Yb hq)
     rw [e] at G
     cases G
     exact (gd i _ (by lia) (Yb hq)).more X
  .
   obtain ⟨i1,O⟩:=Bj.mp (X.at R)
   obtain ⟨i2,G⟩:=Bj.mp e
   have:=List.pairwise_iff_getElem.mp J8.SV d i i1 i2 (by lia)
   rw [O,G] at this
   exact this kk k (X.rk _ _ ek) N
  obtain ⟨va,Sc,aJ,YS⟩:=ae.but b1 (BZ R6.uh b1)
  obtain ⟨q,vw⟩:∃ q,va[j]?=some (.ref q)/\q∉FD D I C u B/\∃ vs,H1 q=some (.lst vs)/\Refs (λ b (pc:Nat×Nat)=>bY K H1 b [aq pc.1,aq pc.2]) vs l:=by
    have hv:j<va.length:=by rw [YS.length];exact hj
    obtain ⟨q,l',eq,o,z⟩:=YS.get (Yb hv)
    rw [ea] at o
    cases o
    exact ⟨q,by rw [Yb hv,eq],z⟩
  obtain ⟨eq,nq,vs,hq,ZB⟩:=vw
  refine ⟨_,rfl,x,_,dx,_,_,rfl,hx,T.cy,T.gc,rfl,_,rfl,u,_,_,_,rfl,rfl,.inl (aT.of V.RY),cu (by rw [Sb,R];rfl),?_⟩
  refine ⟨_,rfl,_,rfl,pa,_,_,_,rfl,rfl,.inl (aT.of Sc),cu eq,q,rfl,⟨_,aT.of hq⟩,?_⟩
  refine gY (K:=K) (a:=q) (xs:=vs) (λ i U f=>∃ s,A7 (gC (FD D I C u B) H f) (gC (FD D I C u B) H1 f) (hU Ad.c6 f x D I C u B s) (ia rows s kk) (Ap S s) (∀ p c,(p,c)∈l.take i->∃ t L,s.bN[p]?=some L/\L[c]?=some (some t)) (E2 λ (W Y:eG)=>U=[some (.ref x),some (.ref pa),some (aq d),some (aq j),W,Y])) ⟨S,b1,λ Z Z h Z=>h,V,zW,Ap.refl S,λ p c h=>by simp at h,_,_,rfl⟩ (λ i U f Z ⟨_,_,b,_,_,_,_,_⟩=>aT.of (b _ _ hq nq)) ?_ ?_
  .
   rintro Z i v U H2 hv ⟨g,b2,J1,J,A,X,tk,w4,w5,rfl⟩
   obtain ⟨b,⟨p,c⟩,rfl,es,al⟩:=ZB.get hv
   obtain ⟨r,js,N,ec,DA⟩:=(Rk.2 j l p c ea).mp (aae es)
   have hp:p<rows.length:=(Bj.mp N).1
   have Do:p<g.bN.length:=by rw [A.ll];exact hp
   have xv:p<g.c7.length:=by rw [A.lg];exact hp
   have vj:p<B.length:=by rw [J.len];exact Do
   have o:=Yb Do
   have eg:=Yb xv
   have ab:=Yb vj
   have hc:c<g.bN[p].length:=by rw [A.sh p _ _ o N];exact (Bj.mp ec).1
   have M:=Yb hc
   have yu:=J.CK p _ _ ab o
   obtain ⟨ze,vS⟩:=J.ins
   have T2:aQ K H1 H2:=BZ V.uh J1
   refine ⟨b,_,rfl,T2 _ _ al,rfl,_,_,rfl,_,_,rfl,rfl,?_⟩
   refine ⟨_,rfl,x,_,ze,_,_,rfl,vS,T.cy,T.iY,rfl,_,rfl,D,_,_,_,rfl,rfl,.inl (aT.of J.T6),cu (by rw [Sb,ab];rfl),_,rfl,B[p],_,_,_,rfl,rfl,.inl (aT.of yu),cu (by rw [Sb,M];rfl),rfl,_,rfl,?_⟩
   have ZJ:∀ {S2:jI},Ap g S2->(∃ t L,S2.bN[p]?=some L/\L[c]?=some (some t))->∀ p' c',(p',c')∈l.take (i+1)->∃ t L,S2.bN[p']?=some L/\L[c']?=some (some t):=λ x2 hh p' c' hm=>by
     rw [bU es] at hm
     rcases aau.mp hm with z|z
     . obtain ⟨t,L,O,G⟩:=tk p' c' z
       obtain ⟨an,f1,f2⟩:=x2.la _ _ _ _ O G
       exact ⟨t,an,f1,f2⟩
     . cases aac.mp z
       exact hh
   cases q0:g.bN[p][c] with
   | some t =>
     rw [q0] at M
     refine fe ⟨g,b2,J1,J,A,X,ZJ (Ap.refl _) ⟨t,_,o,M⟩,_,_,rfl⟩
   | none =>
     rw [q0] at M
     have en:=A.go p _ _ o eg
     have n0:g.c7[p]≠0:=λ z=>by
       rw [z] at en
       exact abQ.mp en.symm _ (aae M) rfl
     have Zy:=X.rk _ _ ek
     have aF:um rows g.bO p c kk:=⟨r,N,.inr ⟨js,ec,j,DA,Zy⟩⟩
     refine f7 ⟨_,rfl,x,ze,_,rfl,vS,rfl,_,rfl,_,rfl,_,rfl,x,_,ze,_,_,rfl,vS,T.cy,T.fh,rfl,_,rfl,C,_,_,_,rfl,rfl,.inl (aT.of J.Oo),cu (by rw [Sb,Zy];rfl),x,D,I,C,u,B,g,p,c,kk,_,_,rfl,J,o,hc,eg,n0,by rw [A.lk];exact hp,aax A.ql (aax lr (by decide)),λ H3 b3 aj=>?_⟩
     refine ⟨_,yx b2 b3,yx J1 b3,aj,A.fin o eg M aF,X.trans (A.OY o eg M),ZJ (A.OY o eg M) ⟨kk,_,cT.mpr (.inl ⟨rfl,Do,rfl⟩),cT.mpr (.inl ⟨rfl,hc,rfl⟩)⟩,_,_,rfl⟩
  .
   rintro U H2 ⟨g,b2,J1,J,A,X,tk,w4,w5,rfl⟩
   rw [ZB.length,aaA] at tk
   refine ⟨_,rfl,_,_,rfl,rfl,g,b2,J,A,X,λ p r c js N ec DA=>?_,_,_,_,rfl⟩
   obtain ⟨t,L,O,G⟩:=tk p c ((Rk.2 j l p c ea).mpr ⟨r,js,N,ec,DA⟩)
   exact ⟨L,t,kk,O,G,X.rk _ _ ek,A.lo _ _ _ _ O G⟩
 .
  rw [M1] at ey
  refine k H1 S F b1 V ok nd λ j hj=>?_
  obtain ⟨i,hi,rfl⟩:=abk.mp hj
  exact gd i _ (by lia) (Yb hi)
def pS (T:Txt K mg Ad):Def P w K mg base "choices_ahead" 1 ["rows"] (ER K):=by
 refine T.sd.cN cG λ Z Z Z Z Z H vs Q E hr h=>?_
 obtain ⟨G,vr,rows,rfl,jJ,dr,lr,hb,k⟩:=h
 refine ⟨_,(ai (rG (yi:=1) ["row"] [] [] .nil rfl (cf (pv 0)) (λ Z Z Z Z Z=>(kY (i:=0))) (λ Z Z Z Z Z=>cw) (λ Z Z Z Z Z=>(bH ag)) cG.nd (lc rfl))
     (ai (cR aaI rfl (rg rfl T.dC (aa (pv 0) ag)) (dg (K:=K) (n:=2) rfl rfl (aS (iD (i:=2) cG.nd) (aS (iD (i:=3) cG.nd) db))) (ap (cR aaI rfl (rg rfl T.dC (aa (pv 3) ag)) (dg (K:=K) (n:=2) rfl rfl (aS (iD (i:=4) cG.nd) (aS (iD (i:=5) cG.nd) db))) (ap (bC (aL pF (pv 5) c5 (aM _)) (ap (cR aaI rfl (cf (pv 5)) (iD (i:=6) cG.nd) (ap (bA (hV aaG aaM aaL cz (au ao (pv 1) (pv 6)) (aa (aZ (aa (pv 2) (aa (pv 4) ag))) ag)))))) aK)))))
     (ap (aH (pv 1))))),?_⟩
 try dsimp only [eT,bq]
 try (refine d9 ?_;intro Z Z Z Z)
 have lv:vr.length=rows.length:=by rw [dr.length,M1]
 refine ⟨_,rfl,G,rfl,⟨_,aT.of jJ⟩,λ D hD=>?_⟩
 have s0:=ak (o:=.lst []) hD
 have a0:yA K H (upd H D (.lst [])) D [] []:=⟨s0,λ b hb=>by rw [aac.mp hb];exact hD,aaP.mpr ⟨aad,aco⟩,rfl,af,λ j b l e=>by simp at e⟩
 refine cE (K:=K) (a:=G) (xs:=vr) (λ i f g c=>∃ as,A3 (yA K H c D as ((rows.take i).map λ Z=>[])) (f=as.map .ref) (∃ v,g=[v])) ⟨[],a0,rfl,none,rfl⟩ (λ i f g c Z ⟨_,h,_,_⟩=>aT.of (h.sm _ _ jJ)) ?_ ?_
 .
  rintro i y f g H1 hy ⟨as,m,rfl,v,rfl⟩
  have hi:i<rows.length:=by rw [<- lv];exact (Bj.mp hy).1
  have la:=m.le
  rw [M1,aaF] at la
  refine ⟨Eg,λ q J=>⟨ak J _ _ m.hp,aat (show (as.map V.ref).length<=100000 by rw [M1];lia) (by decide),as++[q],?_,by rw [aaf];rfl,_,rfl⟩⟩
  rw [bU (Yb hi),aaf]
  exact m.row J
 rintro f g H1 ⟨as,m,rfl,v,rfl⟩
 rw [lv,aaA] at m
 have I:∀ {AK q xs},aG H AK->aT K H q xs->aT K AK q xs:=λ S e=>by
   rcases e with (e|⟨o,e⟩)|e
   . exact .inl (.inl (S _ _ e))
   . exact .inl (.inr ⟨o,S _ _ e⟩)
   . exact .inr e
 refine ⟨_,rfl,G,rfl,⟨_,aT.of (m.sm _ _ jJ)⟩,?_⟩
 refine xD (sq:=aT K) (xs:=vr) (λ i U c=>∃ A,A4 (yA K H c D as A) (mE rows i 0 0 A) (wC (i * 16 * 400) A) (E5 λ (v2 v3 R W u:eG)=>U=[some (.ref G),some (.ref D),v2,v3,R,W,u])) ⟨_,m,mE.zero rows,λ j l e=>?_,none,none,none,none,none,rfl⟩ (λ i U c Z ⟨_,h,_,_,_⟩=>aT.of (h.sm _ _ jJ)) ?_ ?_
 . rw [Sb] at e
   obtain ⟨r,Z,rfl⟩:=abl.mp e
   exact aaZ _
 .
  rintro i x pp U H2 hx tU ⟨A,a2,t2,l2,v2,v3,R,W,u,rfl⟩
  have hi:i<rows.length:=by rw [<- lv];exact (Bj.mp hx).1
  have s:=Yb hi
  generalize rows[i]=r at s
  obtain ⟨x',ex,dx⟩:=dr.get (d:=rM r) (by rw [Sb,s];rfl)
  rw [hx] at ex
  cases ex
  obtain ⟨q,xs,rfl,J,dq⟩:=dx
  have lq:xs.length=r.length:=by rw [dq.length,M1]
  have bd:=hb r (aae s)
  refine ⟨pp,_,rfl,bY.of af,rfl,_,_,rfl,_,_,rfl,rfl,?_⟩
  have a3:=a2.same (ak (o:=.tup [aq i,.ref q]) tU)
  generalize upd H2 pp (.tup [aq i,.ref q])=H3 at a3 |-
  refine ⟨_,rfl,q,rfl,⟨_,I a3.sm J⟩,?_⟩
  refine xD (sq:=aT K) (xs:=xs) (λ n U c=>∃ A,A4 (yA K H c D as A) (mE rows i n 0 A) (wC ((i * 16+n) * 400) A) (E3 λ (R W u:eG)=>U=[some (.ref G),some (.ref D),some (aq i),some (.ref q),R,W,u])) ⟨_,a3,t2,l2,_,_,_,rfl⟩ (λ i U c Z ⟨_,h,_,_,_⟩=>I h.sm J) ?_ ?_
  .
   rintro n y NX U H4 hy KC ⟨X,a4,N,L,w4,w5,w6,rfl⟩
   have hn:n<r.length:=by rw [<- lq];exact (Bj.mp hy).1
   have F:=Yb hn
   generalize r[n]=vv at F
   obtain ⟨y',ey,dy⟩:=dq.get (d:=uv vv) (by rw [Sb,F];rfl)
   rw [hy] at ey
   cases ey
   refine ⟨NX,_,rfl,bY.of af,rfl,_,_,rfl,_,_,rfl,rfl,?_⟩
   have a5:=a4.same (ak (o:=.tup [aq n,y]) KC)
   generalize upd H4 NX (.tup [aq n,y])=H5 at a5 |-
   cases vv with
   | none =>
     obtain rfl:y = .cL:=dy
     exact ⟨_,rfl,rfl,_,rfl,fe ⟨X,a5,N.JM s F (λ Z z=>by cases z),L.mono (by lia),_,_,_,rfl⟩⟩
   | some js =>
     obtain ⟨q2,ys,rfl,qL,ab⟩:=dy
     obtain rfl:=wx ab
     obtain ⟨lj,hj⟩:=bd.2 js (aae F)
     refine ⟨_,rfl,rfl,_,rfl,f7 ?_⟩
     refine ⟨_,rfl,q2,rfl,⟨_,I a5.sm qL⟩,?_⟩
     refine gY (K:=K) (a:=q2) (xs:=js.map aq) (λ kx U c=>∃ A,A4 (yA K H c D as A) (mE rows i n kx A) (wC ((i * 16+n) * 400+kx) A) (∃ (u:eG),U=[some (.ref G),some (.ref D),some (aq i),some (.ref q),some (aq n),some (.ref q2),u])) ⟨X,a5,N,by rw [ad5];exact L,_,rfl⟩ (λ i U c Z ⟨_,h,_,_,_⟩=>I h.sm qL) ?_ ?_
     .
      rintro Z kx z U H6 hz ⟨Y,B,O,M,u6,rfl⟩
      rw [Sb] at hz
      obtain ⟨j,ej,rfl⟩:=abl.mp hz
      have Nw:=hj j (aae ej)
      have ZZ:j<Y.length:=by rw [O.1];exact Nw
      have DA:j<as.length:=by rw [B.le];exact ZZ
      have C:=Yb ZZ
      have eb:=Yb DA
      have hk:kx<js.length:=(Bj.mp ej).1
      generalize Y[j]=la at C
      generalize as[j]=b at eb
      refine ⟨_,rfl,_,rfl,D,_,_,_,rfl,rfl,.inl (aT.of B.hp),cu (by rw [Sb,eb];rfl),?_⟩
      obtain ⟨vs,Yt,Sf⟩:=B.CK j b la eb C
      refine ⟨.inl ⟨rfl,_,aT.of Yt⟩,_,rfl,_,rfl,vF,λ t ht=>?_⟩
      have st:=ak (o:=.tup [aq i,aq n]) ht
      have a7:=B.same st
      have Wh:=st _ _ Yt
      have UA:=Sf.imp λ p (pc:Nat×Nat) z=>st.ts (K:=K) _ _ z
      have Zx:bY K (upd H6 t (.tup [aq i,aq n])) t [aq i,aq n]:=bY.of af
      generalize upd H6 t (.tup [aq i,aq n])=H7 at a7 Wh UA Zx |-
      have le:=M j la C
      refine ⟨b,vs,_,rfl,rfl,Wh,aat (show vs.length<=14000000 by rw [UA.length];lia) (by decide),_,a7.put eb C Wh UA Zx,O.put s F ej C,by rw [<- Nat.add_assoc];exact M.put C,_,rfl⟩
     . rintro U H6 ⟨Y,B,O,M,u6,rfl⟩
       rw [M1] at O M
       exact ⟨Y,B,O.JM s F (λ Z z=>by cases z;rfl),M.mono (by lia),_,_,_,rfl⟩
  . rintro U H4 ⟨X,a4,N,L,w4,w5,w6,rfl⟩
    rw [lq] at N L
    exact ⟨X,a4,N.OR s,L.mono (by have:=bd.1;lia),_,_,_,_,_,rfl⟩
 . rintro U H2 ⟨A,a2,t2,l2,v2,v3,R,W,u,rfl⟩
   rw [lv] at t2
   exact ⟨_,rfl,k D as A H2 a2 t2.done⟩
def nV (T:Txt K mg Ad):gM P w K mg base Ad.c6 "__init__" 3 ["self","game"] [] (Fw P w K Ad.cO Ad.c6):=by
 refine T.qN.fK dE λ Z Z Z Z Z H vs Q E hr h=>?_
 obtain ⟨x,J,y,pm,po,W,pd,ad,g,rfl,hx,hg,N,k⟩:=h
 refine ⟨_,(ai (eD (pv 0) (fC ["choices"] [] [] .nil rfl (cf (bj (pv 1) rfl)) (λ Z Z Z Z Z=>(kY (i:=0))) (λ Z Z Z Z Z=>cw) (λ Z Z Z Z Z=>(fC ["row"] [] [] .nil rfl (EB (K:=K) rfl (pv 0)) (λ Z Z Z Z Z=>(kY (i:=0))) (λ Z Z Z Z Z=>cw) (λ Z Z Z Z Z=>c5)))) rfl)
     (ai (eD (pv 0) (fC ["choices"] [] [] .nil rfl (cf (bj (pv 1) rfl)) (λ Z Z Z Z Z=>(kY (i:=0))) (λ Z Z Z Z Z=>cw) (λ Z Z Z Z Z=>(aU (vT (K:=K) rfl) (by rfl) T.dU cA (aa (pv 0) ag)))) rfl)
     (ai (eD (pv 0) (fC ["many"] [] [] .nil rfl (cf (bj (pv 0) rfl)) (λ Z Z Z Z Z=>(kY (i:=0))) (λ Z Z Z Z Z=>cw) (λ Z Z Z Z Z=>(uz (aL cV (pv 0) ac (aM _)) ac c5))) rfl)
     (ai (eD (pv 0) (fC ["place","rank"] [] [] .nil rfl (rg rfl T.dC (aa (bj (pv 0) rfl) ag)) (λ Z Z Z Z Z=>(dg (K:=K) (n:=2) rfl rfl (aS (kY (i:=0)) (aS (kY (i:=1)) db)))) (λ Z Z Z Z Z=>(jo (aL cV (pv 1) ac (aM _)))) (λ Z Z Z Z Z=>(pv 0))) rfl)
     (ai (cR aaI rfl (rg rfl T.dC (aa (bj (pv 1) rfl) ag)) (dg (K:=K) (n:=2) rfl rfl (aS (iD (i:=2) dE.nd) (aS (iD (i:=3) dE.nd) db))) (ap (cR aaI rfl (rg rfl T.dC (aa (pv 3) ag)) (dg (K:=K) (n:=2) rfl rfl (aS (iD (i:=4) dE.nd) (aS (iD (i:=5) dE.nd) db))) (ap (bC (aL lM (pv 5) c5 (aM _)) (ap (bA (aV (pv 0) T.cy (nI (P:=P) (w:=w) T) .nil hr.m (aa (pv 2) (aa (pv 4) (aa ac ag)))))) aK)))))
     (ap (bA (aV (pv 0) T.cy (pC (P:=P) (w:=w) T) .nil hr.m (aa (ay (pS T) hr.m (aa (bj (pv 1) rfl) ag)) ag))))))))),?_⟩
 try dsimp only [eT,bq]
 try (refine lH ?_;intro Z Z Z Z Z Z Z)
 obtain ⟨dy,hy⟩:=hg.ins
 obtain ⟨vr,jJ,dr⟩:=hg.rows
 have Ur:=bF.same ie _ dr
 have lv:vr.length=g.rows.length:=by rw [dr.length,M1]
 refine ⟨_,rfl,y,_,dy,_,_,rfl,hy,T.ce,T.dH,rfl,W,rfl,⟨_,aT.of jJ⟩,λ C hG=>?_⟩
 have s0:=ak (o:=.lst []) hG
 have a0:Mi H (upd H C (.lst [])) C [] []:=⟨s0,λ b N=>by rw [aac.mp N];exact hG,aaP.mpr ⟨aad,aco⟩,rfl,af,λ j b l e=>by simp at e⟩
 refine cE (K:=K) (a:=W) (xs:=vr) (λ i A f s=>∃ O,A3 (Mi H s C O ((g.rows.take i).map λ r=>r.map λ Z=>none)) (A=O.map .ref) (∃ v,f=[v])) ⟨[],a0,rfl,none,rfl⟩ (λ i A f s Z ⟨_,h,_,_⟩=>aT.of (h.sm _ _ jJ)) ?_ ?_
 .
  rintro i v A f H1 F ⟨O,X,rfl,v0,rfl⟩
  have M:i<g.rows.length:=by rw [<- lv];exact (Bj.mp F).1
  have t:=Yb M
  obtain ⟨v',ev,dv⟩:=Ur.get (d:=rM g.rows[i]) (by rw [Sb,t];rfl)
  rw [F] at ev
  cases ev
  obtain ⟨q,xs,rfl,hq,dq⟩:=dv
  have lq:xs.length=g.rows[i].length:=by rw [dq.length,M1]
  have lb:=(N.2 _ (aar M)).1
  have la:=X.le
  rw [M1,aaF] at la
  refine ⟨_,rfl,q,rfl,⟨_,hq.sm X.sm⟩,λ D hD=>?_⟩
  refine cE (K:=K) (a:=q) (xs:=xs) (λ j gD ab s=>s=upd H1 D (.lst gD)/\gD=List.replicate j .cL/\∃ v,ab=[v]) ⟨rfl,rfl,none,rfl⟩ (λ j gD ab s Z ⟨e,_,_⟩=>by rw [e];exact (hq.sm X.sm).sm (ak hD)) ?_ ?_
  . rintro j u gD ab H2 hu ⟨rfl,rfl,v2,rfl⟩
    have hj:j<xs.length:=(Bj.mp hu).1
    exact ⟨af,aat (show (List.replicate j V.cL).length<=100000 by rw [abZ];lia) (by decide),mQ,List.replicate_succ'.symm,_,rfl⟩
  .
   rintro gD ab H2 ⟨rfl,rfl,v2,rfl⟩
   have en:List.replicate xs.length V.cL=(g.rows[i].map λ Z=>(none:Option Nat)).map jL:=by
     rw [lq,acs]
     exact (List.map_const' ..).symm
   refine ⟨ak hD _ _ X.hp,aat (show (O.map V.ref).length<=100000 by rw [M1];have:=N.1;lia) (by decide),O++[D],?_,by rw [aaf];rfl,_,rfl⟩
   rw [bU t,aaf,en]
   exact X.row hD
 rintro A f H1 ⟨O,X,rfl,v,rfl⟩
 rw [lv,aaA] at X
 have la:=X.le
 rw [M1] at la
 have B0:=X.rkb (K:=K) hx
 generalize YN:(g.rows.map λ r=>r.map λ Z=>(none:Option Nat))=aJ at B0
 refine ⟨_,rfl,x,_,J,_,rfl,B0.b.at_,T.cy,T.iY,lt1000 rfl,?_⟩
 have B1:=B0.put (fs':=aP "lasts" (.ref C) [])
 have ny:y≠x:=λ z=>by rw [z,hx] at hy;injection hy with h;injection h with _ _ h;cases h
 have nr:W≠x:=λ z=>by rw [z,hx] at jJ;cases jJ
 have rd:∀ {s fs L},AS K Ad.c6 x J H s fs L->s y=some (.ins Ad.cO dy (OI pm po W pd ad))/\s W=some (.lst vr)/\bF K s (g.rows.map rM) vr:=λ B=>⟨B.b.st _ _ hy ny,B.b.st _ _ jJ nr,bF.same ie _ (bF.xM hx rfl (λ c u e n Z=>B.b.st c u e n) dr)⟩
 generalize upd H1 x (.ins Ad.c6 J (aP "lasts" (.ref C) []))=H2 at B1 |-
 obtain ⟨Ks,NN,al⟩:=rd B1
 refine ⟨_,rfl,y,_,dy,_,_,rfl,Ks,T.ce,T.dH,rfl,W,rfl,⟨_,aT.of NN⟩,λ G Iv=>?_⟩
 refine cE (K:=K) (a:=W) (xs:=vr) (λ i A f s=>A3 (s=upd H2 G (.lst A)) (A=(g.rows.take i).map (λ r:bX=>aq r.length)) (∃ v,f=[v])) ⟨rfl,rfl,none,rfl⟩ (λ i A f s Z ⟨e,_,_⟩=>by rw [e];exact aT.of (ak Iv _ _ NN)) ?_ ?_
 .
  rintro i v A f H3 F ⟨rfl,rfl,v0,rfl⟩
  have M:i<g.rows.length:=by rw [<- lv];exact (Bj.mp F).1
  have t:=Yb M
  obtain ⟨v',ev,dv⟩:=al.get (d:=rM g.rows[i]) (by rw [Sb,t];rfl)
  rw [F] at ev
  cases ev
  obtain ⟨q,xs,rfl,hq,dq⟩:=dv
  have lq:xs.length=g.rows[i].length:=by rw [dq.length,M1]
  refine ⟨_,rfl,q,xs,rfl,.inl (hq.sm (ak Iv)),λ r KN=>⟨af,aat (show _<=100000 by rw [M1,aaF];have:=N.1;lia) (by decide),mQ,?_,_,rfl⟩⟩
  rw [bU t,aaf,KN,lq]
  rfl
 rintro A f H3 ⟨rfl,rfl,v0,rfl⟩
 rw [lv,aaA]
 have B2:=B1.more (ak (o:=.lst (g.rows.map λ r:bX=>aq r.length)) Iv) Iv af
 refine ⟨_,rfl,x,_,J,_,rfl,B2.b.at_,T.cy,T.gA,lt1000 rfl,?_⟩
 have B3:=B2.put (fs':=aP "going" (.ref G) (aP "lasts" (.ref C) []))
 generalize upd (upd H2 G (.lst (g.rows.map λ r:bX=>aq r.length))) x (.ins Ad.c6 J (aP "going" (.ref G) (aP "lasts" (.ref C) [])))=H4 at B3 |-
 have Pc:=(B3.at_ _ aas).1
 have lg:(g.rows.map λ r:bX=>aq r.length).length=g.rows.length:=M1 ..
 refine ⟨_,rfl,x,_,J,_,_,rfl,B3.b.at_,T.cy,T.gA,rfl,G,rfl,⟨_,aT.of Pc⟩,λ I Rj=>?_⟩
 refine cE (K:=K) (a:=G) (xs:=g.rows.map λ r:bX=>aq r.length) (λ i A f s=>A3 (s=upd H4 I (.lst A)) (A=(g.rows.take i).map (λ r:bX=>jL (if r.length=0 then some 0 else none))) (∃ v,f=[v])) ⟨rfl,rfl,none,rfl⟩ (λ i A f s Z ⟨e,_,_⟩=>by rw [e];exact aT.of (ak Rj _ _ Pc)) ?_ ?_
 .
  rintro i v A f H5 F ⟨rfl,rfl,v0,rfl⟩
  have M:i<g.rows.length:=by rw [<- lg];exact (Bj.mp F).1
  have t:=Yb M
  rw [Sb,t] at F
  cases F
  have nx:(upd H4 I (.lst ((g.rows.take i).map (λ r:bX=>jL (if r.length=0 then some 0 else none))))) I=some (.lst ((g.rows.take i).map (λ r:bX=>jL (if r.length=0 then some 0 else none))))/\((g.rows.take i).map (λ r:bX=>jL (if r.length=0 then some 0 else none))).length<sizeLine:=⟨af,aat (show _<=100000 by rw [M1,aaF];have:=N.1;lia) (by decide)⟩
  refine ⟨_,rfl,rfl,_,rfl,?_⟩
  by_cases Y:g.rows[i].length=0
  . rw [show decide (aq g.rows[i].length=V.int 0)=true from aaH (by rw [Y];rfl)]
    refine f7 ⟨nx.1,nx.2,mQ,?_,_,rfl⟩
    rw [bU t,aaf,acl,aan Y]
    rfl
  . rw [show decide (aq g.rows[i].length=V.int 0)=false from aaq (λ z=>Y (by have:=V.int.inj z;lia))]
    refine fe ⟨nx.1,nx.2,mQ,?_,_,rfl⟩
    rw [bU t,aaf,acl,aap Y]
    rfl
 rintro A f H5 ⟨rfl,rfl,v0,rfl⟩
 rw [lg,aaA]
 have B4:=B3.more (ak (o:=.lst (g.rows.map λ r:bX=>jL (if r.length=0 then some 0 else none))) Rj) Rj af
 refine ⟨_,rfl,x,_,J,_,rfl,B4.b.at_,T.cy,T.fh,lt1000 rfl,?_⟩
 have B5:=B4.put (fs':=aP "ranks" (.ref I) (aP "going" (.ref G) (aP "lasts" (.ref C) [])))
 generalize upd (upd H4 I (.lst (g.rows.map λ r:bX=>jL (if r.length=0 then some 0 else none)))) x (.ins Ad.c6 J (aP "ranks" (.ref I) (aP "going" (.ref G) (aP "lasts" (.ref C) []))))=H6 at B5 |-
 have QX:=(B5.at_ _ aas).1
 have lk:(g.rows.map λ r:bX=>jL (if r.length=0 then some 0 else none)).length=g.rows.length:=M1 ..
 refine ⟨_,rfl,x,_,J,_,_,rfl,B5.b.at_,T.cy,T.fh,rfl,I,rfl,⟨_,aT.of QX⟩,λ pq Q4=>?_⟩
 refine j6 (sq:=aT K) (a:=I) (xs:=g.rows.map λ r:bX=>jL (if r.length=0 then some 0 else none)) (λ i A f s=>A4 (aG H6 s) (s pq=some (.lst A)) (A=((List.range i).filter λ p=>g.rows[p]? == some []).map aq) (E2 λ v w=>f=[v,w])) ⟨ak Q4,af,rfl,none,none,rfl⟩ (λ i A f s Z ⟨e,_,_,_⟩=>aT.of (e _ _ QX)) ?_ ?_
 .
  rintro i v p A f H7 F hp ⟨s7,Sd,rfl,v0,w0,rfl⟩
  have M:i<g.rows.length:=by rw [<- lk];exact (Bj.mp F).1
  have t:=Yb M
  rw [Sb,t] at F
  obtain rfl:v=jL (if g.rows[i].length=0 then some 0 else none):=(aao F).symm
  have s8:=ak (o:=.tup [aq i,jL (if g.rows[i].length=0 then some 0 else none)]) hp
  refine ⟨p,_,rfl,bY.of af,rfl,_,_,rfl,_,_,rfl,rfl,?_⟩
  have Tg:=s8 _ _ Sd
  have KO:=s7.trans s8
  generalize upd H7 p (.tup [aq i,jL (if g.rows[i].length=0 then some 0 else none)])=H8 at Tg KO |-
  have lf:(((List.range i).filter λ p=>g.rows[p]? == some []).map aq).length<=100000:=by
    rw [M1]
    have:=aa8 (λ p=>g.rows[p]? == some []) (List.range i)
    rw [aak] at this
    have:=N.1
    lia
  have rs:(List.range (i+1)).filter (λ p=>g.rows[p]? == some [])=(List.range i).filter (λ p=>g.rows[p]? == some [])++[i].filter (λ p=>g.rows[p]? == some []):=by
    rw [aa5,abo]
  by_cases Y:g.rows[i].length=0
  .
   have e1:[i].filter (λ p=>g.rows[p]? == some [])=[i]:=by
     have:=abP.mp Y
     simp [t,this]
   rw [aan Y]
   refine ⟨_,rfl,rfl,_,rfl,f7 ⟨_,rfl,Tg,aat lf (by decide),λ b u e=>?_,af,?_,_,_,rfl⟩⟩
   . rw [aw (aA e Q4)];exact KO b u e
   . rw [rs,e1,aaf];rfl
  .
   have e1:[i].filter (λ p=>g.rows[p]? == some [])=[]:=by
     have:g.rows[i]≠[]:=λ z=>Y (by rw [z];rfl)
     simp [t,this]
   rw [aap Y]
   refine ⟨_,rfl,rfl,_,rfl,fe ⟨KO,Tg,?_,_,_,rfl⟩⟩
   rw [rs,e1,abf]
 rintro A f H7 ⟨s7,Sd,rfl,v0,w0,rfl⟩
 rw [lk] at Sd
 have B6:=B5.more s7 Q4 Sd
 refine ⟨_,rfl,x,_,J,_,rfl,B6.b.at_,T.cy,T.gc,lt1000 rfl,?_⟩
 have B7:=B6.put (fs':=aP "queue" (.ref pq) (aP "ranks" (.ref I) (aP "going" (.ref G) (aP "lasts" (.ref C) []))))
 generalize upd H7 x (.ins Ad.c6 J (aP "queue" (.ref pq) (aP "ranks" (.ref I) (aP "going" (.ref G) (aP "lasts" (.ref C) [])))))=H8 at B7 |-
 have R8:hU Ad.c6 H8 x C G I pq O (GP g.rows):=by
   refine AS.rk (K:=K) (dx:=J) (H:=H) ?_ (by rw [la];exact (M1 ..).symm)
   rw [show (GP g.rows).bO.map jL=g.rows.map (λ r:bX=>jL (if r.length=0 then some 0 else none)) from acs,show (GP g.rows).c7.map aq=g.rows.map (λ r:bX=>aq r.length) from acs,show (GP g.rows).bN=aJ from YN]
   exact B7
 have R1:=B7.R1 (by rw [la,<- YN];exact (M1 ..).symm)
 have b8:=B7.fr
 have t8:=B7.b.ts
 clear B0 B1 B2 B3 B4 B5 B6 B7
 have Vc:∀ {s},gC [x] H s->s y=some (.ins Ad.cO dy (OI pm po W pd ad))/\s W=some (.lst vr)/\bF K s (g.rows.map rM) vr:=λ b=>⟨b _ _ hy (by simp [ny]),b _ _ jJ (by simp [nr]),bF.same ie _ (bF.xM hx rfl (λ c u e n Z=>b c u e (by simp [n])) dr)⟩
 obtain ⟨aE,V6,Na⟩:=Vc b8
 refine ⟨_,rfl,y,_,dy,_,_,rfl,aE,T.ce,T.dH,rfl,W,rfl,⟨_,aT.of V6⟩,?_⟩
 refine xD (sq:=aT K) (xs:=vr) (λ i U s=>∃ S,A5 (gC [x] H s) (aQ K H s) (hU Ad.c6 s x C G I pq O S) (m4 g.rows S i 0) (E4 λ (v2 v3 v4 v5:eG)=>U=[some (.ref x),some (.ref y),v2,v3,v4,v5])) ⟨_,b8,t8,R8,m4.zero _,none,none,none,none,rfl⟩ (λ i U s Z ⟨_,b,_,_,_,_⟩=>aT.of (Vc b).2.1) ?_ ?_
 .
  rintro i v pp U H9 F tU ⟨S,b9,t9,R9,Qh,v2,v3,v4,v5,rfl⟩
  have M:i<g.rows.length:=by rw [<- lv];exact (Bj.mp F).1
  have t:=Yb M
  generalize g.rows[i]=r at t
  have bd:=N.2 r (aae t)
  have wk:=ak (o:=.tup [aq i,v]) tU
  refine ⟨pp,_,rfl,bY.of af,rfl,_,_,rfl,_,_,rfl,rfl,?_⟩
  have Ko:gC [x] H _:=λ c u e n=>wk c u (b9 c u e n)
  have JX:=t9.trans wk.ts
  have YM:=R9.same wk
  generalize upd H9 pp (.tup [aq i,v])=Em at Ko JX YM |-
  obtain ⟨v',ev,dv⟩:=dr.get (d:=rM r) (by rw [Sb,t];rfl)
  rw [F] at ev
  cases ev
  obtain ⟨q,xs,rfl,hq,dq⟩:=dv
  have lq:xs.length=r.length:=by rw [dq.length,M1]
  have X0:∀ {s},gC [x] H s->aT K s q xs:=λ b=>by
    have nx:∀ {u},H q=some u->lZ u=false->q∉[x]:=λ e n z=>by
      rw [aac.mp z,hx] at e
      cases e
      cases n
    rcases hq with (e|⟨o,e⟩)|e
    . exact .inl (.inl (b _ _ (ie _ _ e) (nx (ie _ _ e) rfl)))
    . exact .inl (.inr ⟨o,b _ _ (ie _ _ e) (nx (ie _ _ e) rfl)⟩)
    . exact .inr e
  refine ⟨_,rfl,q,rfl,⟨_,X0 Ko⟩,?_⟩
  refine xD (sq:=aT K) (xs:=xs) (λ n U s=>∃ S,A5 (gC [x] H s) (aQ K H s) (hU Ad.c6 s x C G I pq O S) (m4 g.rows S i n) (E2 λ (v4 v5:eG)=>U=[some (.ref x),some (.ref y),some (aq i),some (.ref q),v4,v5])) ⟨_,Ko,JX,YM,Qh,_,_,rfl⟩ (λ i U s Z ⟨_,b,_,_,_,_⟩=>X0 b) ?_ ?_
  .
   rintro n u NX U He hu KC ⟨S1,Hg,LX,PK,R,w4,w5,rfl⟩
   have hn:n<r.length:=by rw [<- lq];exact (Bj.mp hu).1
   have ec:=Yb hn
   generalize r[n]=vv at ec
   obtain ⟨u',eu,du⟩:=dq.get (d:=uv vv) (by rw [Sb,ec];rfl)
   rw [hu] at eu
   cases eu
   have MT:=ak (o:=.tup [aq n,u]) KC
   refine ⟨NX,_,rfl,bY.of af,rfl,_,_,rfl,_,_,rfl,rfl,?_⟩
   have J1:gC [x] H _:=λ c z e m=>MT c z (Hg c z e m)
   have QQ:=LX.trans MT.ts
   have NM:=PK.same MT
   generalize upd He NX (.tup [aq n,u])=a2 at J1 QQ NM |-
   cases vv with
   | some js =>
     obtain ⟨q2,ys,rfl,Z,Z⟩:=du
     exact ⟨_,rfl,rfl,_,rfl,fe ⟨S1,J1,QQ,NM,R.skip t ec,_,_,rfl⟩⟩
   | none =>
     obtain rfl:u = .cL:=du
     have Do:i<S1.bN.length:=by rw [R.ok.ll];exact M
     have xv:i<S1.c7.length:=by rw [R.ok.lg];exact M
     have el:=Yb Do
     have eg:=Yb xv
     generalize S1.bN[i]=l at el
     generalize S1.c7[i]=m at eg
     have hc:n<l.length:=by rw [R.ok.sh i l r el t];exact hn
     have Eo:=R.un i l n el hc (.inr ⟨rfl,aaj _⟩)
     have en:=R.ok.go i _ _ el eg
     have n0:m≠0:=λ z=>by
       rw [z] at en
       exact abQ.mp en.symm _ (aae Eo) rfl
     obtain ⟨ze,vS⟩:=NM.ins
     refine ⟨_,rfl,rfl,_,rfl,f7 ⟨_,rfl,x,ze,_,rfl,vS,rfl,_,rfl,_,rfl,x,C,G,I,pq,O,S1,i,n,0,m,l,rfl,NM,el,hc,eg,n0,by rw [R.ok.lk];exact M,aax R.ok.ql (aax N.1 (by decide)),λ a3 YR ae=>?_⟩⟩
     refine ⟨_,λ c z e mx=>YR c z (J1 c z e mx) λ y=>?_,QQ.trans (BZ NM.uh YR),ae,R.step t ec el eg,_,_,rfl⟩
     rw [R1 c y] at e
     cases e
  . rintro U He ⟨S1,Hg,LX,PK,R,w4,w5,rfl⟩
    rw [lq] at R
    exact ⟨S1,Hg,LX,PK,R.next t,_,_,_,_,rfl⟩
 .
  rintro U H9 ⟨S,b9,t9,R9,Qh,v2,v3,v4,v5,rfl⟩
  rw [lv] at Qh
  obtain ⟨W1,Z8⟩:=R9.ins
  obtain ⟨aF,UH,an⟩:=Vc b9
  refine ⟨_,rfl,x,W1,_,rfl,Z8,rfl,_,rfl,y,_,dy,_,_,rfl,aF,T.ce,T.dH,rfl,W,vr,g.rows,rfl,UH,an,N.1,N.2,λ pa as ah Em Et Rk=>?_⟩
  refine ⟨x,C,G,I,pq,O,S,pa,ah,g.rows,rfl,R9.same Et.sm,Qh.ok,Qh.done,Et.at R9,Rk,N.1,λ He S' aj Hg PK wQ XH TQ=>?_⟩
  exact k C G I pq O S' aj He (λ c z e mx=>Hg c z (Et.sm c z (b9 c z e mx)) λ y=>by rw [R1 c y] at e;cases e) ((t9.trans Et.sm.ts).trans (BZ (R9.same Et.sm).uh Hg)) PK wQ XH TQ
def zT (T:Txt K mg Ad):R0 P w K mg base "ranks_of" kQ (.ref Ad.nS) 13 ["hold","states","limit"] (zV P w K Ad.bD):=by
 refine T.AL.dok rX (λ vs H Q E h=>?_) (λ f Z Z Z s H vs Q E M h=>?_)
 . obtain ⟨a,q,L,fp,m,xs,l,rfl,Z⟩:=h
   rfl
 .
  obtain ⟨a,q,L,fp,m,xs,l,rfl,hh,gh,F,l2,rl,hq,yo,Nb,k⟩:=h
  refine ⟨_,(ai (cH (i:=3) rX.nd (pK T.I0 (o6 (P:=P) (w:=w) T) .nil M.m T.K1 (aa (pv 0) (aa (pv 1) (aa (pv 2) ag)))))
    (ap (aH (By (P:=P) (w:=w) (K:=K) rfl rfl rfl M.u70 rfl (aa (bj (pv 3) rfl) (aa (bj (pK T.GK (nV (P:=P) (w:=w) T) .nil M.m T.Jh (aa (pv 3) ag)) rfl) ag)) rfl T.KY rfl T.Kj)))),?_⟩
  try dsimp only [eT,bq]
  refine ⟨_,rfl,_,rfl,_,rfl,λ y D j B n=>?_⟩
  have c:aG H (upd (upd H D (.own y)) y (.ins Ad.cO D [])):=(ak B).trans (ak (by first|(rw [aw n];exact j)|(rw [aw n.symm];exact j)))
  have W:(upd (upd H D (.own y)) y (.ins Ad.cO D [])) y=some (.ins Ad.cO D []):=af
  generalize upd (upd H D (.own y)) y (.ins Ad.cO D [])=H1 at c W |-
  refine ⟨y,D,a,q,L,fp,m,xs,l,rfl,W,hh.same c,λ z=>?_,gh,F,l2,c _ _ hq,yo.imp (λ Z Z z=>z.same c),Nb,λ pm po pr pd g H2 b2 t2 fr C ok lo R yu Z=>⟨rfl,?_⟩⟩
  . obtain ⟨u,hu⟩:=hh.some y z
    rw [j] at hu;cases hu
  have s2:aG H H2:=λ b u e=>b2 b u (c b u e) (by simp only [aac];exact aA e j)
  obtain ⟨r,Ks⟩:=C.ins
  have lm:g.met.length<=2000:=by
    have:=F g.met ok.nd ok.st
    lia
  have hb:=ok.MB gh rl R lm
  refine ⟨_,rfl,y,_,r,_,_,rfl,Ks,T.ce,T.ft,rfl,_,rfl,λ x d N j5 n2=>?_⟩
  have U:aG H2 (upd (upd H2 d (.own x)) x (.ins Ad.c6 d [])):=(ak j5).trans (ak (by first|(rw [aw n2];exact N)|(rw [aw n2.symm];exact N)))
  have V:(upd (upd H2 d (.own x)) x (.ins Ad.c6 d [])) x=some (.ins Ad.c6 d []):=af
  generalize upd (upd H2 d (.own x)) x (.ins Ad.c6 d [])=H3 at U V |-
  refine ⟨x,d,y,pm,po,pr,pd,L,g,rfl,V,C.same U,hb,λ pl pg pk pq qs S ab H4 b4 t4 hk rk nd gd=>⟨rfl,?_⟩⟩
  have s4:aG H2 H4:=λ b u e=>b4 b u (U b u e) (by simp only [aac];exact aA e N)
  obtain ⟨Tn,UB⟩:=hk.ins
  obtain ⟨vm,ig,Hf⟩:=(C.same s4).met
  have lk:S.bO.length=g.met.length:=by rw [rk.lk,R]
  obtain ⟨A,e1,X,t,e4⟩:=LG Hf lk
  have Y:(A.map (·.1)).Nodup:=by
    rw [t]
    exact List.Pairwise.map lV (λ a b h z=>h (yl z)) ok.nd
  have O:A.length=g.met.length:=by rw [<- M1 (·.1),t,M1]
  refine ⟨x,_,Tn,_,_,rfl,UB,T.cy,T.fh,rfl,pm,pk,A,rfl,by rw [<- e1];exact aT.of ig,by rw [<- X];exact aT.of hk.Oo,Y,e4,aax (show _<=2000 by lia) (by decide),λ p hp=>?_⟩
  have s5:=ak (o:=kZ P w p A) hp
  refine k p A _ ((s2.trans s4).trans s5) ⟨af,λ e he=>(e4 e he).ts s5.ts⟩ λ st jG=>?_
  obtain ⟨i,G,ei⟩:=abk.mp (yu st jG)
  have I:i<A.length:=by rw [O];exact G
  have J:i<S.bO.length:=by rw [lk];exact G
  have v:=Yb I
  have er:=Yb J
  have em:g.met[i]?=some st:=by rw [Yb G,ei]
  have k1:(A.map (·.1))[i]?=some A[i].1:=by rw [Sb,v];rfl
  rw [t,Sb,em] at k1
  have k2:(A.map (λ e=>e.2.2))[i]?=some A[i].2.2:=by rw [Sb,v];rfl
  rw [<- X,Sb,er] at k2
  refine ⟨S.bO[i],?_,rk.rank nd gd ok R em er⟩
  rw [show lV st=A[i].1 from aao k1,CD Y v]
  exact k2.symm
def np (T:Txt K mg Ad):KU P w K mg base "ranks_of" 13 ["hold","states","limit"] [.int 2000] (zV P w K Ad.bD) :=
 (zT T).VA T.BF λ i H=>by
   obtain ⟨u,e,r⟩:=vals1 H
   obtain rfl:i=#[u]:=by
     obtain ⟨l⟩:=i
     exact abV _ e
   exact ⟨[u],.cons r .nil,λ Z Z Z Z Z Z U h=>by obtain ⟨a,b,rfl⟩:∃ a b,U=[a,b]:=GO (by simpa using h:U.length=2) λ a b=>⟨a,b,rfl⟩;exact ⟨_,rfl,rfl⟩⟩
def fB (T:Txt K mg Ad):Def P w K mg base "_law_cell_at" 1 ["_law_script","_law_k"] (Ay K):=by
 refine T.vb.cN ud λ Z Z Z Z Z H v Q E i h=>?_
 obtain ⟨a,N,z,rfl,d,g,k⟩:=h
 refine ⟨_,(ai (bC (aL jR (pv 1) (aU bB (by rfl) T.dU cA (aa (pv 0) ag)) (aM _)) (ap (aH (au ao (pv 0) (pv 1)))) aK)
     (ap (aH ac))),?_⟩
 try dsimp only [eT,bq]
 refine ⟨_,rfl,_,rfl,_,_,rfl,.inl d,λ n f=>⟨_,_,rfl,rfl,_,rfl,?_⟩⟩
 rw [M1] at f
 refine eM (λ h=>?_) (λ h=>?_)
 .
  have b:z.toNat<N.length:=by lia
  have e:(N.map V.int)[z.toNat]?=some (.int (N[z.toNat]'b)):=by simp [b]
  have c:=cu e
  rw [acd g] at c
  refine ⟨_,rfl,_,rfl,_,_,_,_,rfl,rfl,.inl d,c,k _ (.inl (aar b))⟩
 . exact k 0 (.inr rfl)
def fN (T:Txt K mg Ad):Def P w K mg base "_law_stream" 1 ["_law_cell","_law_many"] DC:=by
 refine T.xc.cN fL λ Z Z Z Z Z H vs Q E W h=>?_
 obtain ⟨c,m,rfl,S,k⟩:=h
 refine ⟨_,(ai (cH (i:=2) fL.nd (bH ag))
     (ai (cH (i:=3) fL.nd (ax aO (ax aN (pv 0) ac) ac))
     (ai (cR aaI rfl (ck rfl T.de (aa (ax aO (pv 1) ac) ag)) (iD (i:=4) fL.nd) (ai (cH (i:=3) fL.nd (ax aN (ax aO (ax aO (ax bL (pv 3) ac) (ax bL (ax bL ac (pv 4)) (pv 4))) ac) ac))
     (ap (bA (hV aaG aaM aaL cz (pv 2) (aa (ax eO (pv 3) ac) ag))))))
     (ap (aH (je sS (pv 2) (kB ac) kj)))))),?_⟩
 try dsimp only [eT,bq]
 try (refine eP ?_;intro Z Z Z Z Z)
 refine ⟨Eg,λ p M=>?_⟩
 refine ⟨_,rfl,_,_,rfl,rfl,by decide,λ q q0 q1 L=>⟨_,_,rfl,rfl,λ N o=>?_⟩⟩
 refine ⟨_,rfl,_,_,rfl,rfl,λ y r=>⟨_,rfl,by lia,by lia,?_⟩⟩
 obtain rfl:y=((m+2:Nat):Int):=by rw [r];push_cast;rfl
 refine fT (lo:=0) (n:=m+2) (λ i U b=>A3 (aG H b) (∃ (a:List Int),A3 (b p=some (.lst (a.map V.int))) (a.length=i) (∀ z∈a,0<=z/\z<2 ^ 31)) (E2 λ N v=>A3 (0<=N) (N<=2147483647) (U=[some (.int c),some (aq m),some (.ref p),some (.int N),v])))
   ⟨ak M,⟨[],af,rfl,nofun⟩,N,none,by lia,by lia,rfl⟩ ?_ ?_
 .
  rintro Z i U b R ⟨s,⟨a,d,l,B⟩,N,v,t,u,rfl⟩
  refine ⟨_,rfl,_,_,rfl,rfl,⟨31,16,(show N.natAbs<2 ^ 31 by lia),pQ,by decide⟩,λ y1 C=>?_⟩
  refine ⟨_,rfl,_,_,rfl,rfl,⟨13,7,pQ,(show Int.natAbs _<2 ^ 7 by lia),by decide⟩,λ A g=>?_⟩
  have g:A=7919 * (0+(i:Int)):=g
  refine ⟨_,rfl,_,_,rfl,rfl,⟨20,7,(show Int.natAbs _<2 ^ 20 by lia),(show Int.natAbs _<2 ^ 7 by lia),by decide⟩,λ y3 D=>⟨_,_,rfl,rfl,λ y4 F=>⟨_,_,rfl,rfl,λ y5 I=>⟨_,_,rfl,rfl,by decide,λ Y G O J=>?_⟩⟩⟩⟩
  refine ⟨_,rfl,.inl ⟨rfl,_,aT.of d⟩,_,rfl,_,_,rfl,rfl,⟨by decide,pQ⟩,λ j e=>?_⟩
  rw [ab4 _ (by decide)] at e
  have e:j=Y / 3:=e
  refine ⟨p,_,_,rfl,rfl,d,aW (by rw [M1];lia),s.put M,⟨a++[j],by rw [aaf];exact af,by rw [aab,l];rfl,λ z f=>?_⟩,Y,_,G,by lia,rfl⟩
  rcases aau.mp f with h|h
  . exact B z h
  . rw [aac.mp h];lia
 .
  rintro U b ⟨s,⟨a,d,l,B⟩,N,v,t,u,rfl⟩
  refine ⟨_,rfl,2,rfl,p,_,rfl,aT.of d,λ x X=>?_⟩
  rw [UY l]
  exact k x (a.drop 2) _ (s.trans (ak X)) af (by rw [abT];lia) (λ z f=>B z (aeb f))
def uH (T:Txt K mg Ad):Def P w K mg base "_law_divisor" 1 ["_law_one","_law_other"] Ih:=by
 refine T.u4.cN gB λ Z Z Z Z Z H v Q E t h=>?_
 obtain ⟨a,b,rfl,p,q,k⟩:=h
 refine ⟨_,(ai (o9 aaI (aL rS (pv 1) ac (aM _)) (ai (cH (i:=2) gB.nd (ax aN (pv 0) (pv 1)))
     (ai (cH (i:=0) gB.nd (pv 1))
     (ap (cH (i:=1) gB.nd (pv 2))))))
     (ap (aH (pv 0)))),?_⟩
 try dsimp only [eT,bq]
 refine ⟨λ m U d=>d=H/\E3 λ (g l:Int) (r:eG)=>A5 (U=[some (.int g),some (.int l),r]) (0<=g) (0<=l) (m=l.toNat) (Int.gcd g l=Int.gcd a b),
   ⟨_,rfl,a,b,none,rfl,p,q,rfl,rfl⟩,?_⟩
 rintro m U d ⟨rfl,g,l,r,rfl,f,s,rfl,e⟩
 refine ⟨_,rfl,rfl,_,rfl,?_⟩
 refine DF (λ h=>?_) (λ h=>?_)
 .
  have L:0<l:=by rw [eF] at h;lia
  refine ⟨λ c A=>A=d/\c=[some (.int l),some (.int (g % l)),some (.int (g % l))],λ c A ⟨j,n⟩=>?_,?_⟩
  . have M:=adG g (by lia:l≠0)
    have u:=adp g L
    exact ⟨(g % l).toNat,by lia,j,l,g % l,_,n,s,M,rfl,(JC f L).trans e⟩
  . refine ⟨_,rfl,_,rfl,_,_,rfl,rfl,L,λ r Z Z o=>?_⟩
    subst o
    exact ⟨_,rfl,_,rfl,rfl,rfl⟩
 .
  have L:l=0:=eF.mp h
  subst L
  refine ⟨_,rfl,k g ?_⟩
  rw [<- e,Qn f]
def ic (T:Txt K mg Ad):Def P w K mg base "_law_frac" 2 ["_law_top","_law_bottom"] QT:=by
 refine T.Aw.cN rC λ Z Z Z Z Z H v Q E q h=>?_
 obtain ⟨a,b,rfl,s,r,c,k⟩:=h
 refine ⟨_,(ai (cH (i:=2) rC.nd (ay (uH T) q.m (aa (aU qU (by rfl) T.GX Bg (aa (pv 0) ag)) (aa (pv 1) ag))))
     (ap (aH (aZ (aa (ax eO (pv 0) (pv 2)) (aa (ax eO (pv 1) (pv 2)) ag)))))),?_⟩
 try dsimp only [eT,bq]
 refine ⟨_,rfl,_,rfl,λ y j=>⟨_,rfl,y,b,rfl,by lia,by lia,λ d e=>?_⟩⟩
 have n:Int.gcd y b=Int.gcd a b:=by rw [j];unfold Int.gcd;rw [Int.natAbs_natCast]
 rw [n] at e
 have D:0<d:=by rw [e];exact Int.natCast_pos.mpr (Int.gcd_pos_iff.mpr (.inr (by lia)))
 have B:Bd 400 d:=by
   have:Int.gcd a b<=b.natAbs:=Nat.le_of_dvd (by lia) (Int.gcd_dvd_natAbs_right ..)
   show d.natAbs<2 ^ 400
   have l:d.natAbs=Int.gcd a b:=by rw [e];rfl
   rw [l]
   exact aat this c
 refine ⟨_,rfl,_,rfl,_,_,rfl,rfl,⟨by lia,B.mono (by decide)⟩,λ t f=>⟨_,rfl,_,rfl,_,_,rfl,rfl,⟨by lia,B.mono (by decide)⟩,λ u g=>⟨vF,λ p o=>?_⟩⟩⟩
 subst f g e
 exact k p _ (ak o) af
def jz (T:Txt K mg Ad):Def P w K mg base "_law_warmth" 3 ["_law_steps","_law_scale_here"] (Fs K):=by
 refine T.xF.cN vE λ Z Z Z Z Z H v Q E q h=>?_
 obtain ⟨x,p,sc,rfl,b,ok,u,k⟩:=h
 refine ⟨_,(ap (aH (ay (ic T) q.m (aa (ax aO (ax bL (ax bL (pv 0) (au ao (pv 1) ac)) (au ao (pv 1) ac)) (ax bL (au ao (pv 1) ac) (au ao (pv 1) ac))) (aa (ax bL (au ao (pv 1) ac) (au ao (pv 1) ac)) ag))))),?_⟩
 try dsimp only [eT,bq]
 have i:Bd 30 x:=show x.natAbs<2 ^ 30 by lia
 have B:=i.mul ok.ba
 have j:=B.mul ok.bd
 have l:=ok.bt.mul ok.bb
 have n:=ok.bb.mul ok.bd
 refine ⟨_,rfl,_,rfl,p,_,_,_,rfl,rfl,.inr b,rfl,_,_,rfl,rfl,⟨30,30,i,ok.ba,by decide⟩,λ y e=>?_⟩
 have e:y=x * sc.a:=e
 subst e
 refine ⟨_,rfl,p,_,_,_,rfl,rfl,.inr b,rfl,_,_,rfl,rfl,⟨60,30,B,ok.bd,by decide⟩,λ Y c=>?_⟩
 have c:Y=x * sc.a * sc.d:=c
 subst c
 refine ⟨_,rfl,p,_,_,_,rfl,rfl,.inr b,rfl,_,rfl,p,_,_,_,rfl,rfl,.inr b,rfl,_,_,rfl,rfl,⟨30,30,ok.bt,ok.bb,by decide⟩,λ z o=>⟨_,_,rfl,rfl,λ s f=>?_⟩⟩
 have f:s=eA x 1 sc:=by
   rw [f,o]
   unfold eA
   rw [acT]
 refine ⟨_,rfl,p,_,_,_,rfl,rfl,.inr b,rfl,_,rfl,p,_,_,_,rfl,rfl,.inr b,rfl,_,_,rfl,rfl,⟨30,30,ok.bb,ok.bd,by decide⟩,λ t g=>?_⟩
 have g:t=gI 1 sc:=by
   rw [g]
   unfold gI
   rw [acT]
 subst f g
 have r:Bd 60 (gI 1 sc):=by
   unfold gI
   rw [acT];exact n
 have W:Bd 91 (eA x 1 sc):=by
   unfold eA
   rw [acT];exact (j.mono (by decide)).add (l.mono (by decide))
 exact ⟨_,_,rfl,fY ok (by decide),W.mono (by decide),r.mono (by decide),k⟩
def yk (T:Txt K mg Ad):Def P w K mg base "_law_scale" 2 ["_law_cell"] GA:=by
 refine T.zO.cN ky λ Z Z Z Z Z H vs Q E hr h=>?_
 obtain ⟨c,rfl,k⟩:=h
 refine ⟨_,(ai (cH (i:=1) ky.nd (ay (fN T) hr.m (aa (pv 0) (aa ac ag))))
     (ai (cH (i:=2) ky.nd (au ao (bH (aa (ax Cg ac ac) (aa (ax Cg ac ac) ag))) (cD qF (by rfl) T.Cw yd (aa (dh cV (ax aN (pv 0) ac) ac (aM _)) ag))))
     (ap (aH (aZ (aa (ax aO ac (ax aN (au ao (pv 1) ac) (pv 2))) (aa (ax aO ac (ax aN (au ao (pv 1) ac) (pv 2))) (aa (ax cS (ax aN (au ao (pv 1) ac) (ax aO (ax bL ac (pv 2)) ac)) (pv 2)) (aa (ax aO ac (ax aN (au ao (pv 1) ac) (pv 2))) ag))))))))),?_⟩
 try dsimp only [eT,bq]
 try (refine d9 ?_;intro Z Z Z Z)
 refine ⟨_,rfl,c,4,rfl,by decide,λ e N C s1 W ln Z=>?_⟩
 refine ⟨_,_,rfl,rfl,⟨by decide,by decide,by decide⟩,λ I X=>⟨_,_,rfl,rfl,⟨by decide,by decide,by decide⟩,λ J t=>⟨vF,λ v Y=>⟨_,rfl,_,_,rfl,rfl,by decide,λ r Z Z Z=>⟨rfl,.inr ⟨_,rfl,?_⟩⟩⟩⟩⟩⟩
 have X:I=10000:=by rw [X];rfl
 have t:J=1000000000:=by rw [t];rfl
 subst X t
 generalize decide (V.int r=V.int 3)=B
 have A:∃ MX:Int,nQ [V.int 10000,V.int 1000000000] (if B=true then 1 else 0)=some (.int MX)/\1<=MX/\MX<=10 ^ 9:=by
   cases B
   . exact ⟨10000,rfl,by decide,by decide⟩
   . exact ⟨1000000000,rfl,by decide,by decide⟩
 obtain ⟨MX,F,f1,f2⟩:=A
 have y:=ak (o:=.lst [.int 10000,.int 1000000000]) Y
 refine ⟨v,_,_,_,rfl,rfl,.inl (aT.of af),F,?_⟩
 have u:=y _ _ W
 have S:=s1.trans y
 generalize upd C v (.lst [.int 10000,.int 1000000000])=D at u S |-
 have G:Bd 40 MX:=show MX.natAbs<2 ^ 40 by lia
 obtain ⟨x,f,g,j,rfl⟩:∃ x f g j,N=[x,f,g,j]:=by
   match N,ln with
   | [a,b,c,d],_=>exact ⟨a,b,c,d,rfl⟩
 have s:aT K D e [V.int x,V.int f,V.int g,V.int j]:=aT.of u
 refine ⟨_,rfl,e,_,_,_,rfl,rfl,.inl s,rfl,_,rfl,_,_,rfl,rfl,by lia,λ r1 a0 a1 Z=>⟨_,_,rfl,rfl,λ z O=>?_⟩⟩
 refine ⟨_,rfl,e,_,_,_,rfl,rfl,.inl s,rfl,_,rfl,_,_,rfl,rfl,by lia,λ r2 b0 b1 Z=>⟨_,_,rfl,rfl,λ l X4=>?_⟩⟩
 refine ⟨_,rfl,e,_,_,_,rfl,rfl,.inl s,rfl,_,rfl,_,_,rfl,rfl,⟨2,40,pQ,G,by decide⟩,λ y4 L=>⟨_,_,rfl,rfl,λ y5 M=>⟨_,_,rfl,rfl,by lia,λ r3 c0 c1 Z=>⟨_,rfl,_,_,rfl,rfl,λ n R=>?_⟩⟩⟩⟩
 refine ⟨_,rfl,e,_,_,_,rfl,rfl,.inl s,rfl,_,rfl,_,_,rfl,rfl,by lia,λ r4 d0 d1 Z=>⟨_,_,rfl,rfl,λ q U=>⟨pR,λ p hp=>?_⟩⟩⟩
 exact k p _ ⟨z,l,n,q⟩ ⟨by show 1<=z;lia,by show z<=10 ^ 9;lia,by show 1<=l;lia,by show l<=10 ^ 9;lia,by show -(10 ^ 9)<=n;lia,by show n<=10 ^ 9;lia,by show 1<=q;lia,by show q<=10 ^ 9;lia⟩ (S.trans (ak hp)) af
def xS (T:Txt K mg Ad):Def P w K mg base "_law_marks" 1 ["_law_xs","_law_bands","_law_ends"] (Du K):=by
 refine T.yP.cN kI λ Z Z Z Z Z H vs Q E hr h=>?_
 obtain ⟨F,n,ev,rfl,⟨ns,f,ln⟩,n1,n6,he,O,k⟩:=h
 refine ⟨_,(ai (bC (aL lM (pv 2) c5 (aM _)) (ai (cH (i:=3) kI.nd (bH (aa (ax cS (ax aN (au ao (pv 0) ac) ac) ac) ag)))
     (ai (cR aaI rfl (ck rfl T.de (aa (pv 1) ag)) (iD (i:=4) kI.nd) (ap (bA (hV aaG aaM aaL cz (pv 3) (aa (ax aO (ax aO (au ao (pv 3) (rN tV ac)) ac) (ax aN (au ao (pv 0) (ax aO ac (pv 4))) ac)) ag)))))
     (ap (aH (pv 3))))) aK)
     (ai (bC (aL cV (pv 1) ac (aM _)) (ap (aH (bH (aa (au ao (pv 2) ac) (aa (au ao (pv 2) ac) ag))))) aK)
     (ap (aH (bH (aa (au ao (pv 2) ac) (aa (ax aO (ax aO (au ao (pv 2) ac) ac) (ax aN (au ao (pv 0) ac) (ax cS (ax cS (au ao (pv 2) ac) (au ao (pv 2) ac)) ac))) (aa (au ao (pv 2) ac) ag)))))))),?_⟩
 try dsimp only [eT,bq]
 try (refine d9 ?_;intro Z Z Z Z)
 refine ⟨_,rfl,rfl,_,rfl,?_⟩
 rcases he with rfl|⟨s,a,b,rfl,I,ea,eb,ZI⟩
 .
  refine f7 ?_
  refine ⟨_,rfl,F,_,_,_,rfl,rfl,.inl f,nF (i:=0) (by lia),_,_,rfl,rfl,by decide,λ m0 Sk ae Z=>⟨_,_,rfl,rfl,λ N ab=>⟨uT,λ B W=>?_⟩⟩⟩
  have ZD : -30<=N/\N<=30:=by lia
  refine ⟨_,rfl,_,rfl,by lia,by lia,?_⟩
  refine fT (lo:=0) (n:=n) (λ j U t=>A3 (aG H t) (∃ (m:List Int),A5 (t B=some (.lst (m.map V.int))) (m.length=j+1) (∀ (a:Nat) (x y:Int),m[a]?=some x->m[a+1]?=some y->x<y) (∀ x∈m,-30<=x/\x<=30+20 * (j:Int)) (∀ x y,m[0]?=some x->m[j]?=some y->x+2 * (j:Int)<=y)) (∃ X,U=[some (.ref F),some (aq n),some .cL,some (.ref B),X]))
    ⟨ak W,⟨[N],af,rfl,λ a x y h1 O=>?_,λ x f=>?_,λ x y ex d=>?_⟩,none,rfl⟩ ?_ ?_
  . have:=(Bj.mp O).1
    have:a+1<1:=this
    lia
  . rw [aac.mp f];exact ⟨ZD.1,by lia⟩
  . rw [ex] at d
    cases d
    exact Int.le_of_eq (Int.add_zero _)
  .
   rintro Z j U t hj ⟨D,⟨m,u,C,J,A,R⟩,X,rfl⟩
   have hl:(m.map V.int).length=j+1:=by rw [M1,C]
   have G:m[j]?=some m[j]:=aI (by lia)
   refine ⟨_,rfl,.inl ⟨rfl,_,aT.of u⟩,_,rfl,_,rfl,B,_,_,.int m[j],rfl,rfl,.inl (aT.of u),?_,?_⟩
   . refine BJ ?_
     rw [hl,Sb,aby,G];rfl
   refine ⟨_,_,rfl,rfl,λ y1 e1=>⟨_,rfl,_,rfl,_,_,rfl,rfl,λ y2 L=>?_⟩⟩
   obtain rfl:y2=((1+j:Nat):Int):=by rw [L];push_cast;lia
   refine ⟨F,_,_,_,rfl,rfl,.inl (D.seq f),nF (i:=1+j) (by lia),_,_,rfl,rfl,by decide,λ q q0 q1 Z=>⟨_,_,rfl,rfl,λ Y e4=>?_⟩⟩
   have h4:m[j]+2<=Y/\Y<=m[j]+20:=by lia
   clear e4 e1 q0 q1 L
   refine ⟨B,_,_,rfl,rfl,u,aW (by lia),D.put W,⟨m++[Y],by rw [aaf];exact af,by rw [aab,C];rfl,λ a x y f o=>?_,λ x f=>?_,λ x y ex d=>?_⟩,_,rfl⟩
   .
    by_cases ha:a+1<m.length
    . rw [aal ha] at o
      rw [aal (by lia)] at f
      exact J a x y f o
    .
     have S:=(Bj.mp o).1
     rw [aab,aaC] at S
     have M:a=j:=by lia
     subst M
     rw [aal (by lia),G] at f
     rw [aaO (by lia),show a+1 - m.length=0 by lia] at o
     cases f
     have o:some Y=some y:=o
     cases o
     lia
   . have ad:=A m[j] (aar _)
     rcases aau.mp f with h|h
     . have:=A x h;lia
     . rw [aac.mp h];lia
   .
    rw [aal (by lia)] at ex
    rw [aaO (by lia),show j+1 - m.length=0 by lia] at d
    have d:some Y=some y:=d
    cases d
    have:=R x _ ex G
    lia
  . rintro U t ⟨D,⟨m,u,C,J,A,R⟩,X,rfl⟩
    exact ⟨_,rfl,k B t m D W u ⟨C,J,λ x h=>⟨(A x h).1,by have:=(A x h).2;lia⟩,λ x y ex d=>by have:=R x y ex d;lia⟩⟩
 .
  refine fe ?_
  have n2:n<=2:=by
    rcases O with z|z
    . cases z
    . exact z
  have go:∀ (c:Int) (p:am),a<c->c<b->n=2->H p=none->Q (.ref p) (upd H p (.lst [.int a,.int c,.int b])):=λ c p c1 c2 g l=>k p _ [a,c,b] (ak l) l af ⟨by rw [g];rfl,λ i x y ex d=>by
      have v:=(Bj.mp d).1
      have v:i+1<3:=v
      have:i=0\/i=1:=by lia
      rcases this with rfl|rfl
      . cases ex;cases d;exact c1
      . cases ex;cases d;exact c2,λ x h=>by
      simp only [aaa,aad,aaR] at h
      rcases h with rfl|rfl|rfl<;>lia,λ x y ex d=>by
      subst g
      cases ex;cases d;exact ZI⟩
  refine ⟨_,rfl,rfl,_,rfl,eM (λ e=>?_) (λ e=>?_)⟩
  .
   have g:n=1:=by
     have:=eF.mp e
     lia
   refine ⟨_,rfl,s,_,_,_,rfl,rfl,.inr I,rfl,_,rfl,s,_,_,_,rfl,rfl,.inr I,rfl,vF,λ p l=>?_⟩
   refine k p _ [a,b] (ak l) l af ⟨by rw [g];rfl,λ i x y ex d=>?_,λ x h=>?_,λ x y ex d=>?_⟩
   . have v:=(Bj.mp d).1
     have v:i+1<2:=v
     obtain rfl:i=0:=by lia
     cases ex;cases d;lia
   . simp only [aaa,aad,aaR] at h
     rcases h with rfl|rfl<;>lia
   . subst g
     cases ex;cases d;exact ZI
  .
   have g:n=2:=by
     have:n≠1:=λ z=>e (by rw [z];rfl)
     lia
   refine ⟨_,rfl,s,_,_,_,rfl,rfl,.inr I,rfl,_,rfl,s,_,_,_,rfl,rfl,.inr I,rfl,_,_,rfl,rfl,λ y1 e1=>?_⟩
   refine ⟨_,rfl,F,_,_,_,rfl,rfl,.inl f,nF (i:=1) (by lia),_,rfl,s,_,_,_,rfl,rfl,.inr I,rfl,_,rfl,s,_,_,_,rfl,rfl,.inr I,rfl,_,_,rfl,rfl,λ y2 L=>⟨_,_,rfl,rfl,λ y3 e3=>?_⟩⟩
   refine ⟨_,_,rfl,rfl,by lia,λ r r0 r1 Z=>⟨_,_,rfl,rfl,λ Y e4=>⟨_,rfl,s,_,_,_,rfl,rfl,.inr I,rfl,zG,λ p l=>?_⟩⟩⟩
   exact go Y p (by lia) (by lia) g l
def Bb (T:Txt K mg Ad):Def P w K mg base "_law_sky" 1 ["_law_xs","_law_marks_here","_law_fired"] (Hu K):=by
 refine T.Ek.cN gL λ Z Z Z Z Z H vs Q E hr h=>?_
 obtain ⟨b,g,m,n,F,rfl,⟨ns,f,ln⟩,j,n1,mk,k⟩:=h
 refine ⟨_,(ai (cH (i:=3) gL.nd (ax aO ac (ax aN (au ao (pv 0) ac) ac)))
     (ai (cH (i:=4) gL.nd (ax cS (au ao (pv 1) ac) (ax aN (au ao (pv 0) ac) ac)))
     (ai (kc (bC (PW.pt (rD (aL cV (ax aN (au ao (pv 0) ac) ac) ac (aM _)) (oA (PW.pt (qZ (eK (cP (pv 2))) (mV (aL jR (ax aN (au ao (pv 0) ac) ac) ac (aM _)))))))) (ap (cH (i:=4) gL.nd (ax aO (au ao (pv 1) ac) (ax aN (au ao (pv 0) ac) ac)))) aK))
     (ai (cH (i:=5) gL.nd (ax aO (pv 4) (ax aN (au ao (pv 0) ac) ac)))
     (ai (kc (bC (aL tJ (ax aN (au ao (pv 0) ac) ac) ac (aM _)) (ap (cH (i:=5) gL.nd (aU (qz rfl) (by rfl) T.E6 Bv (aa (pv 4) (aa (aU (vM rfl) (by rfl) T.JV FJ (aa (pv 5) (aa (au ao (pv 1) (rN tV ac)) ag))) ag))))) aK))
     (ap (aH (aZ (aa (pv 3) (aa (pv 4) (aa (pv 5) ag))))))))))),?_⟩
 try dsimp only [eT,bq]
 try (refine lH ?_;intro Z Z Z Z Z Z Z)
 have L:0<m.length:=by rw [mk.len];exact ad3 _
 have D:=mk.bd (m.getD 0 0) (by rw [Qm,aI L];exact aar _)
 have A:=nF L
 generalize m.getD 0 0=W at A D
 have S:n<m.length:=by rw [mk.len];exact adz _
 have G:m[n]?=some m[n]:=aI S
 have bl:=mk.bd m[n] (aar _)
 have I:(m.map V.int).length=n+1:=by rw [M1,mk.len]
 generalize m[n]=M at G bl
 refine ⟨_,rfl,b,_,_,_,rfl,rfl,.inl f,nF (i:=5) (by lia),_,_,rfl,rfl,by decide,λ r R d Z=>⟨_,_,rfl,rfl,λ s v=>?_⟩⟩
 have X:1<=s/\s<=4:=by lia
 clear v R d
 refine ⟨_,rfl,g,_,_,_,rfl,rfl,.inl j,A,_,rfl,b,_,_,_,rfl,rfl,.inl f,nF (i:=6) (by lia),_,_,rfl,rfl,by decide,λ r R d Z=>⟨_,_,rfl,rfl,λ l u=>?_⟩⟩
 have q : -60<=l/\l<=152:=by lia
 clear u R d
 refine ⟨λ c o=>o=H/\∃ (l:Int),(-60<=l/\l<=152)/\c=[some (.ref b),some (.ref g),some (.bl F),some (.int s),some (.int l),none],?_,?_⟩
 .
  have Y:∀ {r y:Int},0<=r->r<3->y=W+r->-60<=y/\y<=152:=λ R d e=>by lia
  have N:H=H/\∃ U:Int,(-60<=U/\U<=152)/\[some (V.ref b),some (.ref g),some (.bl F),some (.int s),some (.int l),none]=[some (.ref b),some (.ref g),some (.bl F),some (.int s),some (.int U),none]:=⟨rfl,l,q,rfl⟩
  refine ⟨_,rfl,b,_,_,_,rfl,rfl,.inl f,nF (i:=7) (by lia),_,_,rfl,rfl,by decide,λ r Z Z Z=>⟨rfl,_,rfl,eM (λ Z=>f7 ?_) (λ Z=>?_)⟩⟩
  . exact ⟨_,rfl,g,_,_,_,rfl,rfl,.inl j,A,_,rfl,b,_,_,_,rfl,rfl,.inl f,nF (i:=6) (by lia),_,_,rfl,rfl,by decide,λ r R d Z=>⟨_,_,rfl,rfl,λ y x=>⟨rfl,y,Y R d x,rfl⟩⟩⟩
  .
   refine ⟨_,rfl,_,rfl,?_⟩
   cases F
   . refine f7 ⟨_,rfl,b,_,_,_,rfl,rfl,.inl f,nF (i:=7) (by lia),_,_,rfl,rfl,by decide,λ r Z Z Z=>⟨_,_,rfl,rfl,_,rfl,eM (λ Z=>?_) (λ Z=>N)⟩⟩
     exact ⟨_,rfl,g,_,_,_,rfl,rfl,.inl j,A,_,rfl,b,_,_,_,rfl,rfl,.inl f,nF (i:=6) (by lia),_,_,rfl,rfl,by decide,λ r R d Z=>⟨_,_,rfl,rfl,λ y x=>⟨rfl,y,Y R d x,rfl⟩⟩⟩
   . exact fe (fe N)
 clear q
 rintro c o ⟨rfl,l,q,rfl⟩
 refine ⟨_,rfl,_,rfl,b,_,_,_,rfl,rfl,.inl f,nF (i:=8) (by lia),_,_,rfl,rfl,by decide,λ r R d Z=>⟨_,_,rfl,rfl,λ a t=>?_⟩⟩
 have z:l<=a/\a.natAbs<=300:=by lia
 clear t R d
 refine ⟨λ c B=>B=o/\∃ (a:Int),(l<=a/\a.natAbs<=300)/\c=[some (.ref b),some (.ref g),some (.bl F),some (.int s),some (.int l),some (.int a)],?_,?_⟩
 .
  refine ⟨_,rfl,b,_,_,_,rfl,rfl,.inl f,nF (i:=9) (by lia),_,_,rfl,rfl,by decide,λ r Z Z Z=>⟨_,_,rfl,rfl,_,rfl,eM (λ Z=>?_) (λ Z=>⟨rfl,a,z,rfl⟩)⟩⟩
  refine ⟨_,rfl,_,rfl,_,rfl,_,rfl,g,_,_,_,rfl,rfl,.inl j,BJ (by rw [I,Sb,aby,G];rfl),_,_,rfl,_,_,rfl,rfl,_,?_,rfl⟩
  have O:(if M<a then M else a)<=300/\-300<=(if M<a then M else a):=by split<;>lia
  generalize (if M<a then M else a)=y at O |-
  split<;>lia
 rintro c B ⟨rfl,a,C,rfl⟩
 exact ⟨_,rfl,_,rfl,_,rfl,zG,λ p J=>k p _ (s,l,a) (ak J) af ⟨X,C.1,by show l.natAbs<=300;lia,C.2⟩⟩
def xO (T:Txt K mg Ad):Def P w K mg base "_law_shape" 1 ["_law_xs"] (DQ K):=by
 refine T.zj.cN gv λ Z Z Z Z Z H vs Q E hr h=>?_
 obtain ⟨x,rfl,⟨N,A,ln⟩,k⟩:=h
 refine ⟨_,(ai (cH (i:=1) gv.nd (ax aN (au ao (pv 0) ac) ac))
     (ai (cH (i:=2) gv.nd (au ao (bH (aa ac (aa ac (aa ac (aa ac (aa ac ag)))))) (ax aN (au ao (pv 0) ac) ac)))
     (ai (bC (PW.pt (qZ (aL cV (pv 1) ac (aM _)) (mV (aL cV (ax aN (au ao (pv 0) ac) ac) ac (aM _))))) (ap (aH (aZ (aa (bH (aa ac ag)) (aa (bH (aa fX ag)) (aa (aZ (aa ac (aa ac (aa ac (aa ac ag))))) (aa (aZ (aa ac (aa ac (aa ac ag)))) ag))))))) aK)
     (ai (bC (aL cV (pv 1) ac (aM _)) (ap (aH (aZ (aa (bH (aa (ax aO ac (ax aN (au ao (pv 0) ac) ac)) ag)) (aa (bH (aa fX ag)) (aa (aZ (aa ac (aa ac (aa ac (aa ac ag))))) (aa (aZ (aa ac (aa (ax aO ac (ax aN (au ao (pv 0) ac) ac)) (aa (ax eO (pv 2) ac) ag)))) ag))))))) aK)
     (ai (bC (aL cV (pv 1) ac (aM _)) (ap (aH (aZ (aa (bH (aa (ax aO ac (ax aN (au ao (pv 0) ac) ac)) ag)) (aa (bH (aa fX ag)) (aa (aZ (aa ac (aa ac (aa ac (aa ac ag))))) (aa (aZ (aa ac (aa ac (aa ac ag)))) ag))))))) aK)
     (ai (bC (aL cV (pv 1) ac (aM _)) (ap (aH (aZ (aa (bH (aa (ax aO ac (ax aN (au ao (pv 0) ac) ac)) ag)) (aa (bH (aa fX ag)) (aa (aZ (aa ac (aa ac (aa ac (aa ac ag))))) (aa (aZ (aa (ax aO ac (ax aN (au ao (pv 0) ac) ac)) (aa (ax aN (au ao (pv 0) ac) ac) (aa (pv 2) ag)))) ag))))))) aK)
     (ai (bC (aL jR (pv 1) ac (aM _)) (ap (aH (aZ (aa (bH (aa (ax aO ac (ax aN (au ao (pv 0) ac) ac)) ag)) (aa (bH (aa fX ag)) (aa (aZ (aa ac (aa ac (aa ac (aa ac ag))))) (aa (aZ (aa (au ao (bH (aa ac (aa ac (aa ac (aa ac (aa ac ag)))))) (ax aN (au ao (pv 0) ac) ac)) (aa (ax aN (au ao (pv 0) ac) ac) (aa (pv 2) ag)))) ag))))))) aK)
     (ai (cH (i:=3) gv.nd (bH (aa (ax aO ac (ax aN (au ao (pv 0) ac) ac)) (aa (ax aO ac (ax aN (ax eO (au ao (pv 0) ac) ac) ac)) ag))))
     (ai (bC (aL cV (pv 1) ac (aM _)) (ai (cH (i:=4) gv.nd (dh cV (ax aN (au ao (pv 0) ac) ac) ac (aM _)))
     (ap (aH (aZ (aa (pv 3) (aa (bH (aa (pv 4) (aa (uj (pv 4)) ag))) (aa (aZ (aa ac (aa ac (aa ac (aa ac ag))))) (aa (aZ (aa ac (aa (ax aN (au ao (pv 0) ac) ac) (aa (pv 2) ag)))) ag)))))))) aK)
     (ai (bC (aL cV (pv 1) ac (aM _)) (ap (aH (aZ (aa (pv 3) (aa (bH (aa fX (aa fX ag))) (aa (aZ (aa (ax aN (au ao (pv 0) ac) ac) (aa ac (aa ac (aa ac ag))))) (aa (aZ (aa (au ao (bH (aa ac (aa ac (aa ac ag)))) (ax aN (au ao (pv 0) ac) ac)) (aa (ax aN (au ao (pv 0) ac) ac) (aa (pv 2) ag)))) ag))))))) aK)
     (ai (bC (aL cV (ax aN (au ao (pv 0) ac) ac) ac (aM _)) (ap (aH (aZ (aa (pv 3) (aa (bH (aa fX (aa fX ag))) (aa (aZ (aa ac (aa ac (aa ac (aa ac ag))))) (aa (aZ (aa (ax aO ac (ax aN (au ao (pv 0) ac) ac)) (aa ac (aa ac ag)))) ag))))))) aK)
     (ai (bC (aL cV (ax aN (au ao (pv 0) ac) ac) ac (aM _)) (ap (aH (aZ (aa (ax qO (bH (aa ac (aa ac ag))) (pv 3)) (aa (bH (aa fX (aa fX (aa fX (aa fX ag))))) (aa (aZ (aa ac (aa ac (aa ac (aa ac ag))))) (aa (aZ (aa (ax aO ac (ax aN (au ao (pv 0) ac) ac)) (aa (ax aN (au ao (pv 0) ac) ac) (aa (pv 2) ag)))) ag))))))) aK)
     (ap (aH (aZ (aa (ax qO (pv 3) (bH (aa (ax aO ac (ax aN (ax eO (au ao (pv 0) ac) ac) ac)) ag))) (aa (fC ["_law_k"] ["_law_xs"] [0] (.cons ⟨rfl,rfl,.inl rfl⟩ .nil) rfl (ck rfl T.de (aa ac ag)) (λ Z Z Z Z Z=>(kY (i:=0))) (λ Z Z Z Z Z=>cw) (λ Z Z Z Z Z=>(dh cV (ax aN (au (dX (K:=K) rfl) (pv 1) ac) ac) (pv 0) (aM _)))) (aa (aZ (aa ac (aa ac (aa ac (aa ac ag))))) (aa (aZ (aa ac (aa ac (aa ac ag)))) ag))))))))))))))))))),?_⟩
 try dsimp only [eT,bq]
 try (refine C1 ?_;intro Z Z Z Z Z Z Z Z Z Z Z Z Z Z)
 have a0:=nF (ns:=N) (i:=0) (by lia)
 have a1:=nF (ns:=N) (i:=1) (by lia)
 have X:=nF (ns:=N) (i:=2) (by lia)
 have a3:=nF (ns:=N) (i:=3) (by lia)
 have a4:=nF (ns:=N) (i:=4) (by lia)
 have a5:=nF (ns:=N) (i:=5) (by lia)
 refine ⟨_,rfl,x,_,_,_,rfl,rfl,.inl A,a0,_,_,rfl,rfl,by decide,λ kd an aE Z=>?_⟩
 refine ⟨(by show 5<=sizeLine;decide),λ pl hG=>⟨_,rfl,x,_,_,_,rfl,rfl,.inl ((ak hG).seq A),a4,_,_,rfl,rfl,by decide,λ r r0 r1 Z=>?_⟩⟩
 have al:∃ ld:Int,nQ [V.int 0,V.int 1,V.int 2,V.int 1,V.int 0] r=some (.int ld)/\0<=ld/\ld<=2:=by
   have:r=0\/r=1\/r=2\/r=3\/r=4:=by lia
   rcases this with rfl|rfl|rfl|rfl|rfl
   . exact ⟨0,rfl,by decide,by decide⟩
   . exact ⟨1,rfl,by decide,by decide⟩
   . exact ⟨2,rfl,by decide,by decide⟩
   . exact ⟨1,rfl,by decide,by decide⟩
   . exact ⟨0,rfl,by decide,by decide⟩
 obtain ⟨ld,ad,Ol,Om⟩:=al
 have S:=ak (o:=.lst [V.int 0,V.int 1,V.int 2,V.int 1,V.int 0]) hG
 refine ⟨pl,_,_,_,rfl,rfl,.inl (aT.of af),ad,?_⟩
 generalize upd H pl (.lst [V.int 0,V.int 1,V.int 2,V.int 1,V.int 0])=G at S |-
 have k:=λ q pb pf pz po bs L z b kd H' (s:aG G H')=>k q pb pf pz po bs L z b kd H' (S.trans s)
 have A:=S.seq A
 clear S hG r0 r1
 have R:∀ {n:Nat} {z:Int×Int×Int×Int} {b:Int×Int×Int} {kd:aR×aR×Nat×Nat},uU [n] [true] z b kd->∀ {u B J M q:am} (I:G u=none) (p:upd G u (.lst [aq n]) B=none) (f:upd (upd G u (.lst [aq n])) B (.lst [.bl true]) J=none) (F:upd (upd (upd G u (.lst [aq n])) B (.lst [.bl true])) J (.tup [.int z.1,.int z.2.1,.int z.2.2.1,.int z.2.2.2]) M=none) (C:upd (upd (upd (upd G u (.lst [aq n])) B (.lst [.bl true])) J (.tup [.int z.1,.int z.2.1,.int z.2.2.1,.int z.2.2.2])) M (.tup [.int b.1,.int b.2.1,.int b.2.2]) q=none),
     Q (.ref q) (upd (upd (upd (upd (upd G u (.lst [aq n])) B (.lst [.bl true])) J (.tup [.int z.1,.int z.2.1,.int z.2.2.1,.int z.2.2.2])) M (.tup [.int b.1,.int b.2.1,.int b.2.2])) q (.tup [.ref u,.ref B,.ref J,.ref M])) :=
   λ {n z b kd} sh {u B J M q} I p f F C=>jb (H1:=upd G u (.lst [aq n])) sh k (ak I) af (ak p) af (ak f) af F C
 have G4:∀ {u B J:am} {o1 o2 o3:HO} (I:G u=none) (p:upd G u o1 B=none) (f:upd (upd G u o1) B o2 J=none),aT K (upd (upd (upd G u o1) B o2) J o3) x (N.map V.int):=λ I p f=>(((ak I).trans (ak p)).trans (ak f)).seq A
 refine ⟨_,rfl,rfl,_,rfl,eM (λ e4=>?_) (λ e4=>fe ?_)⟩
 .
  refine ⟨_,rfl,x,_,_,_,rfl,rfl,.inl A,X,_,_,rfl,rfl,by decide,λ r r0 r1 Z=>⟨rfl,_,rfl,eM (λ Z=>?_) (λ Z=>?_)⟩⟩
  . exact ⟨uT,λ u I=>⟨uT,λ B p=>⟨pR,λ J f=>⟨zG,λ M F=>⟨pR,λ q C=>R (n:=1) (z:=(0,0,1,0)) (b:=(4,30,0)) (kd:=([2],[0],0,30)) (uU.one (by decide) (by decide) (by decide) (by decide) (by decide) (by decide) (by decide) (by decide)) I p f F C⟩⟩⟩⟩⟩
  refine ⟨_,rfl,rfl,_,rfl,eM (λ Z=>?_) (λ e=>absurd e4 e)⟩
  refine ⟨_,rfl,x,_,_,_,rfl,rfl,.inl A,a1,_,_,rfl,rfl,by decide,λ r r0 r1 Z=>⟨_,_,rfl,rfl,λ y ey=>?_⟩⟩
  obtain ⟨n,rfl⟩:∃ n:Nat,y=(n:Int):=⟨y.toNat,by lia⟩
  refine ⟨uT,λ u I=>⟨uT,λ B p=>⟨pR,λ J f=>?_⟩⟩⟩
  refine ⟨_,rfl,x,_,_,_,rfl,rfl,.inl (G4 I p f),X,_,_,rfl,rfl,by decide,λ c c0 c1 Z=>⟨_,_,rfl,rfl,λ Y e2=>⟨_,rfl,_,_,rfl,rfl,⟨by decide,pQ⟩,λ y3 e3=>⟨zG,λ M F=>⟨pR,λ q C=>?_⟩⟩⟩⟩⟩
  rw [ab4 _ (by decide)] at e3
  have Ks:4<=Y/\Y<=12:=by lia
  have ae:0<=y3/\y3<=2:=by lia
  exact R (n:=n) (z:=(0,0,1,0)) (b:=(4,Y,y3)) (kd:=([2],[0],0,30)) (uU.one (by decide) (by lia) (by lia) (by decide) (by decide) ⟨(by decide:(0:Int)<=4),(by decide:(4:Int)<=4)⟩ ⟨by show 0<=Y;lia,by show Y<=30;lia,.inr rfl⟩ ae) I p f F C
 refine ⟨_,rfl,rfl,_,rfl,eM (λ e=>absurd e e4) (λ Z=>?_)⟩
 refine ⟨_,rfl,rfl,_,rfl,eM (λ Z=>?_) (λ e2=>?_)⟩
 . refine ⟨_,rfl,x,_,_,_,rfl,rfl,.inl A,a1,_,_,rfl,rfl,by decide,λ r r0 r1 Z=>⟨_,_,rfl,rfl,λ y ey=>?_⟩⟩
   obtain ⟨n,rfl⟩:∃ n:Nat,y=(n:Int):=⟨y.toNat,by lia⟩
   exact ⟨uT,λ u I=>⟨uT,λ B p=>⟨pR,λ J f=>⟨zG,λ M F=>⟨pR,λ q C=>R (n:=n) (z:=(0,1,0,0)) (b:=(4,0,0)) (kd:=([6],[1],0,2)) (uU.one (by decide) (by lia) (by lia) (by decide) (by decide) (by decide) (by decide) (by decide)) I p f F C⟩⟩⟩⟩⟩
 refine ⟨_,rfl,rfl,_,rfl,eM (λ Z=>?_) (λ e3=>?_)⟩
 .
  refine ⟨_,rfl,x,_,_,_,rfl,rfl,.inl A,a1,_,_,rfl,rfl,by decide,λ r r0 r1 Z=>⟨_,_,rfl,rfl,λ y ey=>?_⟩⟩
  obtain ⟨n,rfl⟩:∃ n:Nat,y=(n:Int):=⟨y.toNat,by lia⟩
  refine ⟨uT,λ u I=>⟨uT,λ B p=>⟨pR,λ J f=>?_⟩⟩⟩
  have J3:=G4 (o1:=.lst [aq n]) (o2:=.lst [V.bl true]) (o3:=.tup [V.int 2,V.int 2,V.int 2,V.int 0]) I p f
  refine ⟨_,rfl,x,_,_,_,rfl,rfl,.inl J3,a3,_,_,rfl,rfl,by decide,λ c c0 c1 Z=>⟨_,_,rfl,rfl,λ Y QO=>⟨_,rfl,x,_,_,_,rfl,rfl,.inl J3,X,_,_,rfl,rfl,by decide,λ d W d1 Z=>⟨_,rfl,zG,λ M F=>⟨pR,λ q C=>?_⟩⟩⟩⟩⟩
  have Ks:0<=Y/\Y<=4:=by lia
  have hd:0<=d/\d<=30/\(d+2<=((5:Nat):Int)\/5=30):=⟨W,by lia,.inl (by lia)⟩
  exact R (n:=n) (z:=(2,2,2,0)) (b:=(Y,d,ld)) (kd:=([4],[2],2,5)) (uU.one (by decide) (by lia) (by lia) (by decide) (by decide) Ks hd ⟨Ol,Om⟩) I p f F C
 refine ⟨_,rfl,_,_,rfl,rfl,_,rfl,eM (λ Z=>?_) (λ lt=>?_)⟩
 .
  refine ⟨_,rfl,x,_,_,_,rfl,rfl,.inl A,a1,_,_,rfl,rfl,by decide,λ r r0 r1 Z=>⟨_,_,rfl,rfl,λ y ey=>?_⟩⟩
  obtain ⟨n,rfl⟩:∃ n:Nat,y=(n:Int):=⟨y.toNat,by lia⟩
  refine ⟨uT,λ u I=>⟨uT,λ B p=>⟨pR,λ J f=>⟨(by show 5<=sizeLine;decide),λ p6 h6=>?_⟩⟩⟩⟩
  have s6:=ak (o:=.lst [V.int 4,V.int 1,V.int 2,V.int 4,V.int 0]) h6
  have J3:=s6.seq (G4 (o1:=.lst [aq n]) (o2:=.lst [V.bl true]) (o3:=.tup [V.int 1,V.int 1,V.int 1,V.int 0]) I p f)
  refine ⟨_,rfl,x,_,_,_,rfl,rfl,.inl J3,a3,_,_,rfl,rfl,by decide,λ c c0 c1 Z=>?_⟩
  have al:∃ O:Int,nQ [V.int 4,V.int 1,V.int 2,V.int 4,V.int 0] c=some (.int O)/\0<=O/\O<=4:=by
    have:c=0\/c=1\/c=2\/c=3\/c=4:=by lia
    rcases this with rfl|rfl|rfl|rfl|rfl
    . exact ⟨4,rfl,by decide,by decide⟩
    . exact ⟨1,rfl,by decide,by decide⟩
    . exact ⟨2,rfl,by decide,by decide⟩
    . exact ⟨4,rfl,by decide,by decide⟩
    . exact ⟨0,rfl,by decide,by decide⟩
  obtain ⟨O,Rc,Sk,Wy⟩:=al
  refine ⟨p6,_,_,_,rfl,rfl,.inl (aT.of af),Rc,?_⟩
  refine ⟨_,rfl,x,_,_,_,rfl,rfl,.inl J3,X,_,_,rfl,rfl,by decide,λ d W d1 Z=>⟨_,rfl,zG,λ M F=>⟨pR,λ q C=>?_⟩⟩⟩
  have hd:0<=d/\d<=30/\(d+2<=((5:Nat):Int)\/5=30):=⟨W,by lia,.inl (by lia)⟩
  exact jb (bs:=[n]) (fs:=[true]) (z:=(1,1,1,0)) (b:=(O,d,ld)) (kd:=([4],[2],2,5)) (uU.one (by decide) (by lia) (by lia) (by decide) (by decide) ⟨Sk,Wy⟩ hd ⟨Ol,Om⟩) k (H1:=upd G u (.lst [aq n])) (ak I) af (ak p) af ((ak f).trans s6) (s6 _ _ af) F C
 refine ⟨_,rfl,x,_,_,_,rfl,rfl,.inl A,a1,_,_,rfl,rfl,by decide,λ r r0 r1 Z=>⟨_,_,rfl,rfl,λ y ey=>⟨_,rfl,x,_,_,_,rfl,rfl,.inl A,a1,_,_,rfl,rfl,⟨by decide,pQ⟩,λ w Z=>⟨_,_,rfl,rfl,by decide,λ t t0 t1 Z=>⟨_,_,rfl,rfl,λ Y QO=>⟨vF,λ u I=>?_⟩⟩⟩⟩⟩⟩
 obtain ⟨n,rfl⟩:∃ n:Nat,y=(n:Int):=⟨y.toNat,by lia⟩
 obtain ⟨m,rfl⟩:∃ m:Nat,Y=(m:Int):=⟨Y.toNat,by lia⟩
 have hn:1<=n/\n<=2:=by lia
 have hm:1<=m/\m<=2:=by lia
 clear ey QO r0 r1 t0 t1
 have S:=ak (o:=.lst [aq n,aq m]) I
 have e1:upd G u (.lst [aq n,aq m]) u=some (.lst [aq n,aq m]):=af
 have A:=S.seq A
 change aG G (upd G u (.lst [V.int (n:Int),V.int (m:Int)])) at S
 change upd G u (.lst [V.int (n:Int),V.int (m:Int)]) u=_ at e1
 change aT K (upd G u (.lst [V.int (n:Int),V.int (m:Int)])) x _ at A
 generalize upd G u (.lst [V.int (n:Int),V.int (m:Int)])=H2 at S e1 A |-
 clear R G4
 refine ⟨_,rfl,rfl,_,rfl,eM (λ Z=>?_) (λ e5=>?_)⟩
 .
  refine ⟨_,rfl,x,_,_,_,rfl,rfl,.inl A,a3,_,_,rfl,rfl,by decide,λ c c0 c1 Z=>⟨rfl,_,rfl,_,rfl,_,rfl,_,rfl,vF,λ B p=>⟨pR,λ J f=>?_⟩⟩⟩
  generalize decide (V.int c=V.int 0)=fi at *
  have s3:=(ak (o:=.lst [V.bl fi,V.bl (!fi)]) p).trans (ak (o:=.tup [V.int 1,V.int 1,V.int 1,V.int 0]) f)
  refine ⟨_,rfl,x,_,_,_,rfl,rfl,.inl (s3.seq A),X,_,_,rfl,rfl,by decide,λ d W d1 Z=>⟨_,rfl,zG,λ M F=>⟨pR,λ q C=>?_⟩⟩⟩
  exact jb (bs:=[n,m]) (fs:=[fi,!fi]) (z:=(1,1,1,0)) (b:=(4,d,ld)) (kd:=([2,2],[1,1],1,4)) (uU.two hn hm (by decide) ⟨(by decide:(0:Int)<=4),(by decide:(4:Int)<=4)⟩ ⟨W,by show d<=2;lia⟩ ⟨Ol,Om⟩) k S e1 (ak p) af (ak f) af F C
 refine ⟨_,rfl,rfl,_,rfl,eM (λ Z=>?_) (λ e6=>?_)⟩
 .
  refine ⟨_,rfl,vF,λ B p=>?_⟩
  have Hb:=(ak (o:=.lst [V.bl true,V.bl true]) p).seq A
  refine ⟨_,rfl,x,_,_,_,rfl,rfl,.inl Hb,a5,_,_,rfl,rfl,by decide,λ c c0 c1 Z=>⟨pR,λ J f=>⟨zG,λ p6 h6=>?_⟩⟩⟩
  have s6:=ak (o:=.lst [V.int 4,V.int 2,V.int 1]) h6
  have Sh:=((ak (o:=.tup [V.int c,V.int 1,V.int 1,V.int 1]) f).trans s6).seq Hb
  refine ⟨_,rfl,x,_,_,_,rfl,rfl,.inl Sh,a3,_,_,rfl,rfl,by decide,λ c2 ah aj Z=>?_⟩
  have al:∃ O:Int,nQ [V.int 4,V.int 2,V.int 1] c2=some (.int O)/\0<=O/\O<=4:=by
    have:c2=0\/c2=1\/c2=2:=by lia
    rcases this with rfl|rfl|rfl
    . exact ⟨4,rfl,by decide,by decide⟩
    . exact ⟨2,rfl,by decide,by decide⟩
    . exact ⟨1,rfl,by decide,by decide⟩
  obtain ⟨O,Rc,Sk,Wy⟩:=al
  refine ⟨p6,_,_,_,rfl,rfl,.inl (aT.of af),Rc,?_⟩
  refine ⟨_,rfl,x,_,_,_,rfl,rfl,.inl Sh,X,_,_,rfl,rfl,by decide,λ d W d1 Z=>⟨_,rfl,zG,λ M F=>⟨pR,λ q C=>?_⟩⟩⟩
  exact jb (bs:=[n,m]) (fs:=[true,true]) (z:=(c,1,1,1)) (b:=(O,d,ld)) (kd:=([2,2],[1,1],1,4)) (uU.two hn hm ⟨⟨c0,by show c<=1;lia⟩,(by decide:(1:Int)<=1),⟨(by decide:(0:Int)<=1),(by decide:(1:Int)<=2)⟩,⟨(by decide:(0:Int)<=1),(by decide:(1:Int)<=1)⟩⟩ ⟨Sk,Wy⟩ ⟨W,by show d<=2;lia⟩ ⟨Ol,Om⟩) k S e1 (ak p) af ((ak f).trans s6) (s6 _ _ af) F C
 refine ⟨_,rfl,x,_,_,_,rfl,rfl,.inl A,a3,_,_,rfl,rfl,by decide,λ c c0 c1 Z=>⟨rfl,_,rfl,eM (λ Z=>?_) (λ Z=>?_)⟩⟩
 .
  refine ⟨_,rfl,vF,λ B p=>⟨pR,λ J f=>?_⟩⟩
  have s3:=(ak (o:=.lst [V.bl true,V.bl true]) p).trans (ak (o:=.tup [V.int 0,V.int 0,V.int 0,V.int 0]) f)
  refine ⟨_,rfl,x,_,_,_,rfl,rfl,.inl (s3.seq A),X,_,_,rfl,rfl,by decide,λ d W d1 Z=>⟨_,_,rfl,rfl,λ y ey=>⟨zG,λ M F=>⟨pR,λ q C=>?_⟩⟩⟩⟩
  exact jb (bs:=[n,m]) (fs:=[true,true]) (z:=(0,0,0,0)) (b:=(y,0,0)) (kd:=([2,2],[1,1],1,4)) (uU.two hn hm (by decide) ⟨by show 0<=y;lia,by show y<=4;lia⟩ ⟨(by decide:(0:Int)<=0),(by decide:(0:Int)<=2)⟩ ⟨(by decide:(0:Int)<=0),(by decide:(0:Int)<=2)⟩) k S e1 (ak p) af (ak f) af F C
 refine ⟨_,rfl,x,_,_,_,rfl,rfl,.inl A,a3,_,_,rfl,rfl,by decide,λ c c0 c1 Z=>⟨rfl,_,rfl,eM (λ Z=>?_) (λ Z=>?_)⟩⟩
 .
  refine ⟨vF,λ p0 h0=>⟨_,rfl,?_⟩⟩
  have s0:=ak (o:=.lst [V.int 1,V.int 1]) h0
  refine ⟨p0,u,_,_,rfl,rfl,af,s0 _ _ e1,(by show 4<=sizeLine;decide),λ B p=>⟨pR,λ J f=>⟨pR,λ p5 C=>?_⟩⟩⟩
  have s2:=s0.trans (ak (o:=.lst [V.int 1,V.int 1,aq n,aq m]) p)
  have s5:=s2.trans ((ak (o:=.lst [V.bl false,V.bl false,V.bl true,V.bl true]) f).trans (ak (o:=.tup [V.int 0,V.int 1,V.int 1,V.int 0]) C))
  refine ⟨_,rfl,x,_,_,_,rfl,rfl,.inl (s5.seq A),a5,_,_,rfl,rfl,by decide,λ g g0 g1 Z=>⟨_,_,rfl,rfl,λ y ey=>⟨_,rfl,x,_,_,_,rfl,rfl,.inl (s5.seq A),X,_,_,rfl,rfl,by decide,λ d W d1 Z=>⟨_,rfl,zG,λ M F=>⟨pR,λ q h6=>?_⟩⟩⟩⟩⟩
  exact jb (bs:=[1,1,n,m]) (fs:=[false,false,true,true]) (z:=(0,1,1,0)) (b:=(y,d,ld)) (kd:=([1,1,2,2],[0,0,1,1],0,3)) (uU.four hn hm ⟨by show 0<=y;lia,by show y<=4;lia⟩ ⟨W,by show d<=1;lia⟩ ⟨Ol,Om⟩) k (S.trans s2) af (ak f) af (ak C) af F h6
 refine ⟨_,rfl,?_⟩
 refine ⟨_,rfl,x,_,_,_,rfl,rfl,.inl A,a1,_,_,rfl,rfl,⟨by decide,pQ⟩,λ w Z=>⟨_,_,rfl,rfl,by decide,λ t t0 t1 Z=>⟨_,_,rfl,rfl,λ Y QO=>⟨uT,λ p0 h0=>?_⟩⟩⟩⟩
 obtain ⟨l,rfl⟩:∃ l:Nat,Y=(l:Int):=⟨Y.toNat,by lia⟩
 have hl:1<=l/\l<=2:=by lia
 have s0:=ak (o:=.lst [aq l]) h0
 refine ⟨u,p0,_,_,rfl,rfl,s0 _ _ e1,af,(by show 3<=sizeLine;decide),λ B p=>?_⟩
 have s2:=s0.trans (ak (o:=.lst [aq n,aq m,aq l]) p)
 have e2:upd (upd H2 p0 (.lst [V.int (l:Int)])) B (.lst ([aq n,aq m]++[V.int (l:Int)])) B=some (.lst [aq n,aq m,aq l]):=af
 have s2:aG H2 (upd (upd H2 p0 (.lst [V.int (l:Int)])) B (.lst ([aq n,aq m]++[V.int (l:Int)]))):=s2
 generalize upd (upd H2 p0 (.lst [V.int (l:Int)])) B (.lst ([aq n,aq m]++[V.int (l:Int)]))=H3 at s2 e2 |-
 refine ⟨_,rfl,by decide,by decide,λ D hD=>?_⟩
 refine dQ (lo:=0) (n:=3) (λ j ab U H'=>A4 (aG H3 H') (H' D=some (.lst ab)) (∃ (L:List Bool),ab=L.map V.bl/\L.length=j) (∃ v,U=[v,some (.ref x)])) ⟨ak hD,af,⟨[],rfl,rfl⟩,none,rfl⟩ ?_ ?_
 . rintro j ab U H' hj ⟨s4,yq,⟨L,rfl,lf⟩,v,rfl⟩
   refine ⟨_,rfl,x,_,_,_,rfl,rfl,.inl ((s2.trans s4).seq A),X,_,_,rfl,rfl,by decide,λ c c0 c1 Z=>⟨_,rfl,rfl,yq,aW (by rw [M1];lia),s4.put hD,af,⟨L++[_],by rw [aaf];rfl,by rw [aab,lf];rfl⟩,_,rfl⟩⟩
 .
  rintro ab U H4 ⟨s4,yq,⟨L,rfl,lf⟩,v,rfl⟩
  obtain ⟨f1,f2,f3,rfl⟩:∃ a b c,L=[a,b,c]:=by
    match L,lf with
    | [a,b,c],_=>exact ⟨a,b,c,rfl⟩
  refine ⟨pR,λ J f=>⟨zG,λ M F=>⟨pR,λ q C=>?_⟩⟩⟩
  exact jb (bs:=[n,m,l]) (fs:=[f1,f2,f3]) (z:=(0,0,0,0)) (b:=(4,0,0)) (kd:=([2,2,2],[0,0,0],0,2)) (uU.three hn hm hl) k (S.trans s2) e2 s4 yq (ak f) af F C
theorem ux {H:Hp}:∀ l:List Int,bF K H (l.map PyData.int) (l.map V.int)
 | []=>cK
 | x::l=>bo rfl (ux l)
def zL (T:Txt K mg Ad):Def P w K mg base "_law_room" 4 ["_law_xs","_law_marks_here","_law_sky_here","_law_stove","_law_scale_here","_law_flows"] (Ga K):=by
 refine T.AD.cN fA λ Z Z Z Z Z H vs Q E hr h=>?_
 obtain ⟨px,pm,M,n,C,S,sv,yw,s,pf,fl,zo,rfl,⟨ns,hx,ln⟩,hm,n6,mk,W,EO,jG,N,ok,hf,k⟩:=h
 refine ⟨_,(ai (cH (i:=6) fA.nd c5)
     (ai (kc (bC (aL pF (pv 3) c5 (aM _)) (ai (cH (i:=7) fA.nd (aU (qz rfl) (by rfl) T.E6 Bv (aa ac (aa (ax cS (ax aO (ax eO (ax aO (ax bL (au ao (pv 2) ac) (ax cS (au ao (pv 1) ac) (au ao (pv 2) ac))) ac) ac) (ax aN (au ao (pv 0) ac) ac)) ac) ag))))
     (ai (cH (i:=8) fA.nd (ax aN (au ao (pv 0) ac) (ax aO (au ao (pv 3) ac) ac)))
     (ai (cH (i:=9) fA.nd (ax aO (au ao (pv 3) ac) (ax aN (au ao (pv 0) ac) (ax cS (ax aO (au ao (pv 3) ac) ac) (au ao (pv 3) ac)))))
     (ap (cH (i:=6) fA.nd (aZ (aa (ay (ic T) hr.m (aa (ax bL (pv 7) (au ao (pv 4) ac)) (aa (au ao (pv 4) ac) ag))) (aa (pv 8) (aa (ax aN (au ao (pv 0) ac) (ax aO (au ao (pv 3) ac) ac)) (aa (pv 9) ag)))))))))) aK))
     (ai (cH (i:=10) fA.nd (aZ (aa (au ao (pv 2) ac) (aa (ay (jz T) hr.m (aa (au ao (pv 2) ac) (aa (pv 4) ag))) (aa (ay (jz T) hr.m (aa (au ao (pv 2) ac) (aa (pv 4) ag))) ag)))))
     (ap (aH (aZ (aa (fC ["_law_one"] ["_law_scale_here"] [4] (.cons ⟨rfl,rfl,.inl rfl⟩ .nil) rfl (cf (pv 1)) (λ Z Z Z Z Z=>(kY (i:=0))) (λ Z Z Z Z Z=>cw) (λ Z Z Z Z Z=>(ay (jz T) hr.m (aa (pv 0) (aa (pv 1) ag))))) (aa (pv 10) (aa (pv 6) (aa (pv 5) ag)))))))))),?_⟩
 try dsimp only [eT,bq]
 try (refine eP ?_;intro Z Z Z Z Z)
 have l0:0<M.length:=by rw [mk.len];exact ad3 _
 have a0:=nF l0
 have b0:=mk.bd (M.getD 0 0) (by rw [Qm,aI l0];exact aar _)
 generalize M.getD 0 0=mf at a0 b0
 have k1:=EO.sh
 have k2:=EO.lo
 have k3:=EO.hi
 refine ⟨λ ab H'=>aG H H'/\E5 λ (tv:V) (u:Option (cm×Int×Int×Int)) (x7 x8 x9:eG)=>A4 (Dn K H' (fu u) tv) (zo=none->u=none) (∀ z,zo=some z->∃ t,u=some t/\eB 100 t.1/\0<=t.1.1/\(0<=t.2.1/\t.2.1<=z.2.2.1)/\(0<=t.2.2.1/\t.2.2.1<=z.1)/\(0<=t.2.2.2/\t.2.2.2<=z.2.1)) (ab=[some (.ref px),some (.ref pm),some (.ref C),some sv,some (.ref yw),some (.ref pf),some tv,x7,x8,x9,none]),?_,?_⟩
 .
  refine ⟨_,rfl,rfl,_,rfl,?_⟩
  rcases jG with ⟨rfl,rfl⟩|⟨pz,z,rfl,rfl,B,hz⟩
  . exact fO rfl ⟨aG.refl _,.cL,none,none,none,none,LS,λ Z=>rfl,nofun,rfl⟩
  refine DF (λ Z=>?_) (λ q=>nomatch q)
  obtain ⟨z1,z2,z3,z4⟩:=hz
  refine ⟨_,rfl,C,_,_,_,rfl,rfl,.inr W,rfl,_,rfl,pm,_,_,_,rfl,rfl,.inl hm,a0,_,rfl,C,_,_,_,rfl,rfl,.inr W,rfl,_,_,rfl,rfl,λ y1 e1=>?_⟩
  have e1:y1=mf - S.2.1:=e1
  refine ⟨_,_,rfl,rfl,⟨10,10,(show Int.natAbs _<2 ^ 10 by lia),(show Int.natAbs _<2 ^ 10 by lia),by decide⟩,λ y2 e2=>⟨_,_,rfl,rfl,λ y3 e3=>⟨_,_,rfl,rfl,⟨by decide,pQ⟩,λ y4 e4=>?_⟩⟩⟩
  rw [ab4 _ (by decide)] at e4
  have Ks:y2.natAbs<=2000:=by
    have:=PB (x:=4) (y:=500) (a:=S.1) (b:=y1) (by lia) (by lia)
    rw [e2];exact this
  have al:y4.natAbs<=300:=by lia
  clear e4 e3 e2 Ks
  refine ⟨_,rfl,px,_,_,_,rfl,rfl,.inl hx,nF (i:=10) (by lia),_,_,rfl,rfl,by decide,λ c c0 c1 Z=>⟨_,_,rfl,rfl,λ y5 e5=>⟨_,_,rfl,rfl,λ Y e6=>⟨_,_,rfl,?_⟩⟩⟩⟩
  have an:Y.natAbs<=400:=by lia
  have hh:0<=(if Y > 0 then Y else 0)/\(if Y > 0 then Y else 0)<=400:=by split<;>lia
  generalize (if Y > 0 then Y else 0)=he at hh |-
  clear e5 e6 an al c0 c1
  refine ⟨_,rfl,px,_,_,_,rfl,rfl,.inl hx,nF (i:=11) (by lia),_,rfl,pz,_,_,_,rfl,rfl,.inr B,rfl,_,_,rfl,rfl,λ y7 e7=>⟨_,_,rfl,rfl,by lia,λ wo w0 w1 Z=>?_⟩⟩
  refine ⟨_,rfl,pz,_,_,_,rfl,rfl,.inr B,rfl,_,rfl,px,_,_,_,rfl,rfl,.inl hx,nF (i:=13) (by lia),_,rfl,pz,_,_,_,rfl,rfl,.inr B,rfl,_,_,rfl,rfl,λ y8 e8=>⟨_,rfl,pz,_,_,_,rfl,rfl,.inr B,rfl,_,_,rfl,rfl,λ y9 e9=>⟨_,_,rfl,rfl,by lia,λ c c0 c1 Z=>⟨_,_,rfl,rfl,λ fa ae=>?_⟩⟩⟩⟩
  have aj:0<=wo/\wo<=z.2.2.1:=by lia
  have ah:0<=fa/\fa<=z.2.1:=by lia
  clear e7 e8 e9 ae c0 c1 w0 w1
  have oa:=ok.a0
  have ob:=ok.b0
  have bh:Bd 10 he:=show he.natAbs<2 ^ 10 by lia
  refine ⟨_,rfl,_,rfl,yw,_,_,_,rfl,rfl,.inr N,rfl,_,_,rfl,rfl,⟨10,30,bh,ok.ba,by decide⟩,λ y O=>⟨_,rfl,yw,_,_,_,rfl,rfl,.inr N,rfl,_,_,rfl,by show 0<s.b;lia,?_,ok.bb.mono (by decide),λ pr H1 f h1=>?_⟩⟩
  . rw [O];exact (bh.mul ok.ba).mono (by decide)
  have O:y=he * s.a:=O
  have y0:0<=y:=by rw [O];exact acJ hh.1 (by lia)
  have Yg:Bd 100 y:=by rw [O];exact (bh.mul ok.ba).mono (by decide)
  have B:=f.tup B
  refine ⟨_,rfl,_,rfl,px,_,_,_,rfl,rfl,.inl (f.seq hx),nF (i:=12) (by lia),_,rfl,pz,_,_,_,rfl,rfl,.inr B,rfl,_,_,rfl,rfl,λ y7 e7=>⟨_,_,rfl,rfl,by lia,λ st aF aJ Z=>⟨_,rfl,pR,λ p hp=>?_⟩⟩⟩
  have G:=ak (o:=.tup [V.ref pr,V.int wo,V.int st,V.int fa]) hp
  refine ⟨f.trans G,.ref p,some (nf y s.b,wo,st,fa),_,_,_,fS (bY.of af) (bo (jS (bY.of (G _ _ h1))) (bo nK (bo nK (bo nK cK)))),nofun,λ z' R=>?_,rfl⟩
  cases R
  exact ⟨_,rfl,GF (by lia) Yg (ok.bb.mono (by decide)),Ov.nonneg (by lia) (Ov.nf (by lia)) y0,aj,by lia,ah⟩
 rintro ab H1 ⟨f,tv,u,x7,x8,x9,dt,no,st,rfl⟩
 refine ⟨_,rfl,C,_,_,_,rfl,rfl,.inr (f.tup W),rfl,_,rfl,C,_,_,_,rfl,rfl,.inr (f.tup W),rfl,_,rfl,_,_,s,rfl,f.tup N,ok,by lia,λ q1 H2 G h2=>?_⟩
 have S2:=f.trans G
 refine ⟨_,rfl,C,_,_,_,rfl,rfl,.inr (S2.tup W),rfl,_,rfl,_,_,s,rfl,S2.tup N,ok,by lia,λ q2 d l h3=>⟨zG,λ F Z3=>?_⟩⟩
 have s4:=ak (o:=.tup [V.int S.1,V.ref q1,V.ref q2]) Z3
 have dw:Dn K (upd d F (.tup [V.int S.1,V.ref q1,V.ref q2])) (.tuple [.int S.1,dJ (bg S.2.1 1 s),dJ (bg S.2.2 1 s)]) (.ref F):=fS (bY.of af) (bo nK (bo (jS (bY.of ((l.trans s4) _ _ h2))) (bo (jS (bY.of (s4 _ _ h3))) cK)))
 have g:=(S2.trans l).trans s4
 have Y9:=(G.trans l).trans s4
 generalize upd d F (.tup [V.int S.1,V.ref q1,V.ref q2])=H4 at dw g Y9 |-
 clear s4 h3 h2 G l S2 Z3
 refine ⟨_,rfl,pm,rfl,⟨_,g.seq hm⟩,λ D hD=>?_⟩
 refine cE (K:=K) (a:=pm) (xs:=M.map V.int) (λ j A U d=>A4 (aG H4 d) (d D=some (.lst A)) (bF K d ((M.take j).map λ x=>dJ (bg x 1 s)) A) (∃ v,U=[v,some (.ref yw)]))
   ⟨ak hD,af,cK,none,rfl⟩ (λ j A U d Z e=>(g.trans e.1).seq hm) ?_ ?_
 .
  rintro j y A U d X ⟨l,jn,d3,v,rfl⟩
  obtain ⟨z,R,rfl⟩:∃ z,M[j]?=some z/\V.int z=y:=by
    rw [Sb] at X
    cases e:M[j]? with
    | none=>rw [e] at X;cases X
    | some r=>rw [e] at X;cases X;exact ⟨r,rfl,rfl⟩
  have hz:=mk.bd z (aae R)
  have aE:=(Bj.mp R).1
  have lm:=mk.len
  have la:A.length=j:=by rw [d3.length,M1,aaF];lia
  refine ⟨_,rfl,_,rfl,z,yw,s,rfl,(g.trans l).tup N,ok,by lia,λ q J I h5=>?_⟩
  have RG:aQ K J (upd J D (.lst (A++[.ref q]))):=bT (I _ _ jn) rfl
  refine ⟨I _ _ jn,aW (by lia),(l.trans I).put hD,af,?_,_,rfl⟩
  rw [acn,R,aaf]
  exact (bF.ts ((aG.ts I).trans RG) _ (mH _ _) d3).snoc (Dn.ts RG _ (iM _) (jS (bY.of h5)))
 .
  rintro A U J ⟨I,En,d5,v,rfl⟩
  rw [M1,aaA] at d5
  refine ⟨_,rfl,_,rfl,_,rfl,pR,λ q hq=>?_⟩
  have s6:=ak (o:=.tup [V.ref D,V.ref F,tv,V.ref pf]) hq
  have J6:=I.trans s6
  refine k q _ ⟨M.map λ x=>bg x 1 s,S.1,bg S.2.1 1 s,bg S.2.2 1 s,u,fl⟩ (g.trans J6) (λ L us hL nL=>?_) ⟨rfl,rfl,rfl,rfl,rfl,no,st⟩
  have S6:=g.trans J6
  have nt:aQ K _ _:=Ml (K:=K) (H:=upd J q (.tup [V.ref D,V.ref F,tv,V.ref pf])) (L:=[L]) ?_
  .
   have nD:D∉[L]:=λ z=>by
     rw [aac.mp z,g _ _ hL] at hD
     cases hD
   have nf:pf∉[L]:=λ z=>nL (aac.mp z).symm
   have ad:Dn K (cW (upd J q (.tup [V.ref D,V.ref F,tv,V.ref pf])) [L]) (fu u) tv:=Dn.ts nt _ (by cases u<;>simp [fu,eQ,dJ]) (Dn.same (Y9.trans J6) _ dt)
   refine fS (nt _ _ (bY.of af)) (bo (lC (aT.of (i9 (s6 _ _ En) nD)) ?_) (bo (Dn.ts nt _ (by simp [eQ,dJ]) (Dn.same J6 _ dw)) (bo ad (bo (lC (aT.of (i9 (S6 _ _ hf) nf)) (ux fl)) cK))))
   rw [acs]
   exact bF.ts nt _ (mH _ _) (bF.same s6 _ d5)
  . intro b hb
    rw [aac.mp hb]
    exact ⟨_,S6 _ _ hL,rfl⟩
def xP (T:Txt K mg Ad):Def P w K mg base "_law_plain" 5 ["_law_script","_law_at","_law_scale_here"] (C2 K):=by
 refine T.zQ.cN bI λ Z Z Z Z Z H l Q E G h=>?_
 obtain ⟨ps,ns,L,yw,sc,rfl,hs,KA,ok,k⟩:=h
 refine ⟨_,(ai (cH (i:=3) bI.nd (ay (fN T) G.m (aa (ay (fB T) G.m (aa (pv 0) (aa (pv 1) ag))) (aa ac ag))))
     (ai (ii (ay (xO T) G.m (aa (pv 3) ag)) (dg (K:=K) (n:=4) rfl rfl (aS (iD (i:=4) bI.nd) (aS (iD (i:=5) bI.nd) (aS (iD (i:=6) bI.nd) (aS (iD (i:=7) bI.nd) db))))))
     (ai (cH (i:=8) bI.nd (bH ag))
     (ai (cH (i:=9) bI.nd c5)
     (ai (cR aaI rfl (ck rfl T.de (aa (aU bB (by rfl) T.dU cA (aa (pv 4) ag)) ag)) (iD (i:=10) bI.nd) (ai (cH (i:=11) bI.nd (ay (fN T) G.m (aa (ax aO (ay (fB T) G.m (aa (pv 0) (aa (ax aO (pv 1) ac) ag))) (ax bL ac (pv 10))) (aa ac ag))))
     (ai (cH (i:=12) bI.nd (ay (xS T) G.m (aa (pv 11) (aa (au ao (pv 4) (pv 10)) (aa (pv 9) ag)))))
     (ai (cH (i:=13) bI.nd (ay (Bb T) G.m (aa (pv 11) (aa (pv 12) (aa (au ao (pv 5) (pv 10)) ag)))))
     (ai (cH (i:=14) bI.nd c5)
     (ai (kc (bC (cP (au ao (pv 5) (pv 10))) (ap (cH (i:=14) bI.nd (pv 6))) aK))
     (ai (cH (i:=15) bI.nd (ax cS ac (cD qF (by rfl) T.Cw yd (aa (dh cV (aU bB (by rfl) T.dU cA (aa (pv 4) ag)) ac (aM _)) ag))))
     (ai (rG (yi:=16) ["_law_of"] ["_law_share","_law_ys","_law_k"] [15,11,10] (.cons ⟨rfl,rfl,.inl rfl⟩ (.cons ⟨rfl,rfl,.inl rfl⟩ (.cons ⟨rfl,rfl,.inl rfl⟩ .nil))) rfl (ck rfl T.de (aa (aU bB (by rfl) T.dU cA (aa (pv 4) ag)) ag)) (λ Z Z Z Z Z=>(kY (i:=0))) (λ Z Z Z Z Z=>cw) (λ Z Z Z Z Z=>(ax bL (ax aN (au (dX (K:=K) rfl) (pv 2) (ax aO ac (ax aN (pv 0) ac))) (pv 1)) (cD qF (by rfl) T.Cw yd (aa (dh rS (pv 0) (pv 3) (aM _)) ag)))) bI.nd (lc rfl))
     (ai (bA (hV aaG aaM aaL cz (pv 8) (aa (ay (zL T) G.m (aa (pv 11) (aa (pv 12) (aa (pv 13) (aa (pv 14) (aa (pv 2) (aa (pv 16) ag))))))) ag)))
     (ap (bC (PW.pt (qZ (aL tJ (ax aN (au ao (pv 3) ac) ac) ac (aM _)) (mV (aL cV (pv 10) ac (aM _))))) (ap (cH (i:=9) bI.nd (aZ (aa (au ao (pv 12) ac) (aa (au ao (pv 12) (rN tV ac)) ag))))) aK)))))))))))
     (ap (aH (aZ (aa (pv 8) (aa (pv 7) ag)))))))))),?_⟩
 try dsimp only [eT,bq]
 try (refine lH ?_;intro Z Z Z Z Z Z Z)
 refine ⟨_,rfl,_,rfl,ps,ns,(L:Int),rfl,hs,by lia,λ c Z=>⟨c,8,rfl,by decide,λ px xs H1 s1 h1 lx Z=>?_⟩⟩
 refine ⟨_,rfl,px,rfl,⟨xs,aT.of h1,lx⟩,λ q pb pf pz po O fs z b kd H2 s2 hq hb hf hz ho S=>?_⟩
 refine ⟨q,_,rfl,bY.of hq,rfl,_,_,rfl,_,_,rfl,_,_,rfl,_,_,rfl,rfl,?_⟩
 have S2:=s1.trans s2
 obtain ⟨a0,a1,aE,an⟩:=uP S.kk
 have lb:=S.lb
 have lf:=S.lf
 have Hb:=s2 _ _ h1
 refine ⟨Eg,λ g jJ=>⟨_,rfl,pb,_,rfl,.inl (aT.of (ak jJ _ _ hb)),λ n en=>?_⟩⟩
 rw [M1] at en
 subst en
 refine ⟨_,rfl,by lia,by lia,?_⟩
 refine fT (lo:=0) (n:=O.length) (λ i U D=>A3 (aG H2 D) (E2 λ (l:aB) (R:List R8)=>A4 (D g=some (.lst l)) (bF K (cW D [g]) (R.map EA) l) (R.length=i) (∀ j,j<i->Iw kd sc j (bZ R j))) (E8 λ ev Mv UK SR T0 TX Ru RJ=>A3 (CJ K D 0 ev) (i=0->ev = .cL) (U=[some (.ref ps),some (aq L),some (.ref yw),some (.ref px),some (.ref pb),some (.ref pf),some (.ref pz),some (.ref po),some (.ref g),some ev,Mv,UK,SR,T0,TX,Ru,RJ])))
   ⟨ak jJ,⟨[],[],af,cK,rfl,λ Z h=>absurd h (abn _)⟩,.cL,none,none,none,none,none,none,none,.inl rfl,λ Z=>rfl,rfl⟩ ?_ ?_
 .
  rintro Z i U H3 hi ⟨s3,⟨l,R,OE,dr,lr,G2⟩,ev,Mv,UK,SR,T0,TX,Ru,RJ,Tr,PM,rfl⟩
  have S3:=S2.trans s3
  refine ⟨_,rfl,_,rfl,_,_,rfl,rfl,λ y1 e1=>⟨ps,ns,y1,rfl,S3.seq hs,by lia,λ c2 Z=>?_⟩⟩
  refine ⟨_,rfl,_,_,rfl,rfl,⟨13,7,pQ,(show Int.natAbs _<2 ^ 7 by lia),by decide⟩,λ y2 Z=>⟨_,_,rfl,rfl,λ y3 Z=>⟨y3,17,rfl,by decide,λ py ys H4 A h4 ly Z=>?_⟩⟩⟩
  have S4:=s3.trans A
  have gb:nQ (O.map aq) (0+(i:Int))=some (aq (O.getD i 0)):=by
    rw [aa0]
    refine cu ?_
    rw [Sb,Qm,aI hi];rfl
  have gf:nQ (fs.map V.bl) (0+(i:Int))=some (.bl (fs.getD i false)):=by
    rw [aa0]
    refine cu ?_
    rw [Sb,Qm,aI (by lia)];rfl
  have Yv:fs.getD i false=true->fs[i]?=some true:=λ h=>by
    rw [Qm] at h
    rw [aI (show i<fs.length by lia)] at h |-
    exact abV some h
  obtain ⟨b1,b2⟩:=S.bb i hi
  have b6:=aE i
  have Zw:ev = .cL\/O.getD i 0<=2:=by
    by_cases i0:i=0
    . exact .inl (PM i0)
    . have:=an (by lia) i
      exact .inr (by lia)
  have Xe:CJ K H4 0 ev:=Tr.imp id λ ⟨pe,a,b,e,h,z⟩=>⟨pe,a,b,e,A.tup h,z⟩
  generalize O.getD i 0=N at gb b1 b2 Zw
  generalize fs.getD i false=fi at gf Yv
  refine ⟨_,rfl,_,rfl,_,rfl,pb,_,_,_,rfl,rfl,.inl (aT.of (S4 _ _ hb)),gb,_,rfl,py,N,ev,rfl,⟨ys,aT.of h4,ly⟩,b1,by lia,Xe,Zw,λ pm H5 M s5 Ye h5 mk=>?_⟩
  have S5:=S4.trans s5
  refine ⟨_,rfl,_,rfl,_,rfl,_,rfl,pf,_,_,_,rfl,rfl,.inl (aT.of (S5 _ _ hf)),gf,py,pm,M,N,fi,rfl,⟨ys,aT.of (s5 _ _ h4),ly⟩,aT.of h5,b1,mk,λ pk H6 sk Y h6 EO=>?_⟩
  have S6:=S5.trans Y
  refine ⟨λ ad D=>D=H6/\E2 λ (sv:V) (zo:Option (Int×Int×Int×Int))=>A3 (EY K H6 sv zo) (∀ z',zo=some z'->z'=z/\fi=true) (ad=[some (.ref ps),some (aq L),some (.ref yw),some (.ref px),some (.ref pb),some (.ref pf),some (.ref pz),some (.ref po),some (.ref g),some ev,some (.int (0+(i:Int))),some (.ref py),some (.ref pm),some (.ref pk),some sv,Ru,RJ]),?_,?_⟩
  .
   refine ⟨_,rfl,_,rfl,pf,_,_,_,rfl,rfl,.inl (aT.of (S6 _ _ hf)),gf,_,rfl,?_⟩
   obtain ⟨z1,z2,z3,z4,z5⟩:=S.zz
   have:kd.2.2.1<=2:=Hw S.kk
   cases fi
   . exact fe ⟨rfl,.cL,none,.inl ⟨rfl,rfl⟩,nofun,rfl⟩
   . exact f7 ⟨_,rfl,rfl,.ref pz,some z,.inr ⟨pz,z,rfl,rfl,bY.of (S6 _ _ hz),⟨by lia,by lia,by lia,by lia⟩⟩,λ z' e=>by cases e;exact ⟨rfl,rfl⟩,rfl⟩
  rintro ad D ⟨rfl,sv,zo,jG,al,rfl⟩
  refine ⟨_,rfl,pb,_,rfl,.inl (aT.of (S6 _ _ hb)),λ n en=>⟨rfl,.inr ⟨_,rfl,_,_,rfl,rfl,λ s Iz=>?_⟩⟩⟩
  rw [M1] at en
  have SU:(s=4\/s=3)/\(O.length=4->s=3):=by
    by_cases e4:n=4
    . rw [e4] at Iz
      have:s=3:=Iz
      lia
    . have:s=4:=by rw [Iz,aaq (λ z=>e4 (eF.mp z))];rfl
      lia
  clear Iz
  refine ⟨_,rfl,pb,_,rfl,.inl (aT.of (S6 _ _ hb)),λ n' Zf=>?_⟩
  rw [M1] at Zf
  subst Zf
  clear en
  refine ⟨_,rfl,by lia,by lia,λ Df hD=>?_⟩
  refine dQ (lo:=0) (n:=O.length) (λ j C U H7=>A4 (aG D H7) (H7 Df=some (.lst C)) (∃ (F:List Int),A4 (C=F.map V.int) (F.length=j) (∀ t,0<=F.getD t 0/\F.getD t 0<=s - 1) (F.getD i 0=0)) (∃ v,U=[v,some (.int s),some (.ref py),some (.int (0+(i:Int)))]))
    ⟨ak hD,af,⟨[],rfl,rfl,λ t=>by show (0:Int)<=0/\(0:Int)<=s - 1;lia,rfl⟩,none,rfl⟩ ?_ ?_
  .
   rintro j C U H7 hj ⟨B,OC,⟨F,rfl,TC,Ss,RU⟩,v,rfl⟩
   refine ⟨_,rfl,_,rfl,_,_,rfl,rfl,by decide,λ t t0 t1 Z=>⟨_,_,rfl,rfl,λ y ey=>?_⟩⟩
   obtain ⟨m,rfl⟩:∃ m:Nat,y=(m:Int):=⟨y.toNat,by lia⟩
   refine ⟨py,_,_,_,rfl,rfl,.inl (aT.of ((s5.trans (Y.trans B)) _ _ h4)),nF (i:=m) (by lia),_,rfl,_,_,rfl,rfl,by lia,λ u u0 u1 Z=>⟨_,rfl,_,rfl,rfl,.inr ⟨_,rfl,?_⟩⟩⟩
   have he:((if (!decide (V.int (0+(j:Int))=V.int (0+(i:Int))))=true then (1:Int) else 0)=1\/(if (!decide (V.int (0+(j:Int))=V.int (0+(i:Int))))=true then (1:Int) else 0)=0)/\(j=i->(if (!decide (V.int (0+(j:Int))=V.int (0+(i:Int))))=true then (1:Int) else 0)=0):=by
     refine ⟨?_,λ e=>?_⟩
     . split
       . exact .inl rfl
       . exact .inr rfl
     . rw [e,aaH rfl];rfl
   generalize (if (!decide (V.int (0+(j:Int))=V.int (0+(i:Int))))=true then (1:Int) else 0)=e at he |-
   refine ⟨_,_,rfl,rfl,⟨3,3,(show Int.natAbs _<2 ^ 3 by lia),(show Int.natAbs _<2 ^ 3 by lia),by decide⟩,λ y ey=>?_⟩
   have hy:(0<=y/\y<=s - 1)/\(j=i->y=0):=by
     have ey:y=u * e:=ey
     rcases he with ⟨rfl|rfl,he⟩
     . rw [Int.mul_one] at ey
       exact ⟨by lia,λ z=>absurd (he z) (by decide)⟩
     . rw [Int.mul_zero] at ey
       exact ⟨by lia,λ Z=>ey⟩
   refine ⟨OC,aW (by rw [M1];lia),B.put hD,af,⟨F++[y],by rw [aaf];rfl,by rw [aab,TC];rfl,λ t=>?_,?_⟩,_,rfl⟩
   . rcases getD_snoc (fl:=F) (y:=y) t with ⟨q,Z⟩|⟨Z,q⟩
     . rw [q];exact Ss t
     . rw [q];exact hy.1
   . rcases getD_snoc (fl:=F) (y:=y) i with ⟨q,Z⟩|⟨z,q⟩
     . rw [q];exact RU
     . rw [q];exact hy.2 (by lia)
  rintro C U H7 ⟨B,OC,⟨F,rfl,TC,Ss,RU⟩,v,rfl⟩
  have S7:=S6.trans B
  have Xq:=((A.trans s5).trans Y).trans B
  have LZ:EY K H7 sv zo:=jG.imp id λ ⟨p,z,a,b,c,d⟩=>⟨p,z,a,b,B.tup c,d⟩
  have NY:=Xq _ _ OE
  refine ⟨_,rfl,.inl ⟨rfl,_,aT.of NY⟩,_,rfl,_,rfl,_,rfl,_,rfl,_,rfl,_,rfl,py,pm,M,N,pk,sk,sv,yw,sc,Df,F,zo,rfl,⟨ys,aT.of ((s5.trans (Y.trans B)) _ _ h4),ly⟩,aT.of ((Y.trans B) _ _ h5),by lia,mk,bY.of (B _ _ h6),EO,LZ,(S2.trans S7).tup KA,ok,OC,λ I J r s8 Na X=>?_⟩
  have Qr:g≠Df:=λ z=>by
    rw [<- z,((A.trans s5).trans Y) _ _ OE] at hD
    cases hD
  have a2:l.length=i:=by rw [dr.length,M1,lr]
  have S8:=S7.trans s8
  have aF:∀ z',zo=some z'->Uz z':=λ z' e=>by
    rcases jG with ⟨Z,rfl⟩|⟨Z,z2,Z,rfl,Z,h⟩
    . cases e
    . cases e;exact h
  have Qo:sk.1+k8 (λ j=>F.getD j 0) kd.1.length<=12:=by
    have h0:=(Cm (c:=s - 1) (k:=i) (f:=λ j=>F.getD j 0) Ss RU kd.1.length).2.2 (by lia)
    have YX:=EO.sh
    obtain ⟨e1,e2⟩:=SU
    have:kd.1.length=1\/kd.1.length=2\/kd.1.length=3\/kd.1.length=4:=by lia
    rcases e1 with rfl|rfl
    . rcases this with e|e|e|e<;>rw [e] at h0 |- <;> lia
    . rcases this with e|e|e|e<;>rw [e] at h0 |- <;> lia
  have aJ:r.Ok kd.1.length i:=X.ok ok mk b1 (by lia) EO aF (by rw [TC];exact lb) (λ j=>by have:=Ss j;lia) RU Qo
  have ah:Iw kd sc i r:=⟨aJ,by rw [X.marks,M1,mk.len];lia,λ t et=>by
    cases ez:zo with
    | none=>rw [X.no ez] at et;cases et
    | some z' =>
      obtain ⟨t',ae,Z,Z,Z,c,d⟩:=X.st z' ez
      rw [ae] at et
      cases et
      obtain ⟨rfl,aj⟩:=al z' ez
      have:=S.ff i (Yv aj)
      have:=S.zz.2.1
      lia,⟨sk.2.1,sk.2.2,X.lo,X.hi,EO.lo,EO.hi⟩,⟨M,X.marks,λ x hx=>by have:=mk.bd x hx;lia⟩⟩
  have X6:=s8 _ _ NY
  refine ⟨g,l,_,rfl,rfl,X6,aW (by lia),?_⟩
  have ab:aG H2 (upd J g (.lst (l++[.ref I])))/\∃ (vI:aB) (W:List R8),upd J g (.lst (l++[.ref I])) g=some (.lst vI)/\bF K (cW (upd J g (.lst (l++[.ref I]))) [g]) (W.map EA) vI/\W.length=i+1/\∀ j,j<i+1->Iw kd sc j (bZ W j):=by
    refine ⟨S8.put jJ,l++[.ref I],R++[r],af,?_,by rw [aab,lr];rfl,λ j hj=>?_⟩
    . rw [mN (by simp),aaf]
      exact (bF.same (pP (Xq.trans s8)) _ dr).snoc (Na g l NY Qr)
    . by_cases e:j<i
      . rw [Af.1 j (by lia)];exact G2 j e
      . obtain rfl:j=R.length:=by lia
        rw [Af.2,lr];exact ah
  have VN:upd J g (.lst (l++[.ref I])) pm=some (.lst (M.map V.int)):=by
    rw [aw λ z=>by rw [z,A _ _ OE] at Ye;cases Ye]
    exact ((Y.trans B).trans s8) _ _ h5
  have ZQ:upd J g (.lst (l++[.ref I])) px=some (.lst (xs.map V.int)):=(S8.put jJ) _ _ Hb
  have Vb:CJ K (upd J g (.lst (l++[.ref I]))) 0 ev:=Tr.imp id λ ⟨pe,a,b,e,h,z⟩=>⟨pe,a,b,e,bT X6 rfl _ _ ((Xq.trans s8).tup h),z⟩
  generalize upd J g (.lst (l++[.ref I]))=H9 at ab VN ZQ Vb |-
  obtain ⟨S9,vI,W,i1,i2,i3,i4⟩:=ab
  refine ⟨_,rfl,px,_,_,_,rfl,rfl,.inl (aT.of ZQ),nF (i:=6) (by lia),_,_,rfl,rfl,by decide,λ r Z Z Z=>⟨_,_,rfl,rfl,_,rfl,eM (λ Z=>?_) (λ Z=>fe ⟨S9,⟨vI,W,i1,i2,i3,i4⟩,ev,_,_,_,_,_,_,_,Vb,λ z=>absurd z (acU _),rfl⟩)⟩⟩
  refine ⟨_,rfl,rfl,_,rfl,eM (λ Z=>?_) (λ Z=>⟨S9,⟨vI,W,i1,i2,i3,i4⟩,ev,_,_,_,_,_,_,_,Vb,λ z=>absurd z (acU _),rfl⟩)⟩
  have lm:=mk.len
  have g0:M[0]?=some M[0]:=aI (by lia)
  have gl:M[N]?=some M[N]:=aI (by lia)
  have hw:=mk.wide _ _ g0 gl
  have w0:=mk.bd M[0] (aar _)
  have wl:=mk.bd M[N] (aar _)
  generalize M[0]=mf at g0 hw w0
  generalize M[N]=ml at gl hw wl
  refine ⟨_,rfl,pm,_,_,.int mf,rfl,rfl,.inl (aT.of VN),cu (j:=0) (by rw [Sb,g0];rfl),_,rfl,_,rfl,pm,_,_,.int ml,rfl,rfl,.inl (aT.of VN),BJ (by rw [M1,lm,Sb,aby,gl];rfl),vF,λ pe IA=>?_⟩
  have s9:=ak (o:=.tup [V.int mf,V.int ml]) IA
  exact ⟨S9.trans s9,⟨vI,W,s9 _ _ i1,bF.same (pP s9) _ i2,i3,i4⟩,.ref pe,_,_,_,_,_,_,_,.inr ⟨pe,mf,ml,rfl,bY.of af,w0.1,wl.2,hw⟩,λ z=>absurd z (acU _),rfl⟩
 .
  rintro U H3 ⟨s3,⟨l,R,OE,dr,lr,G2⟩,ev,Mv,UK,SR,T0,TX,Ru,RJ,Tr,PM,rfl⟩
  refine ⟨_,rfl,_,rfl,vF,λ q2 qL=>?_⟩
  have A:=ak (o:=.tup [V.ref g,V.ref po]) qL
  exact k q2 R b kd _ ((S2.trans s3).trans A) ⟨g,po,l,bY.of af,aT.of (A _ _ OE),bF.same A _ (bF.same ie _ dr),bY.of ((s3.trans A) _ _ ho)⟩ ⟨S.kk,by lia,λ i hi=>G2 i (by lia),S.b0,S.b1,S.b2⟩
def qB {H:Hp} {r:R8} {v:V} (h:Dn K H (EA r) v):∃ p b c s a xs d e,v = .ref p/\bY K H p [.ref b,.ref c,s,.ref a]/\aT K H b xs/\bF K H (r.marks.map dJ) xs/\bY K H c [.int r.share,d,e]/\Dn K H (dJ r.lo) d/\Dn K H (dJ r.hi) e/\Dn K H (fu r.bV) s/\aT K H a (r.cg.map V.int):=by
 obtain ⟨p,W,rfl,o,T,z,rfl,⟨b,U,rfl,n,i⟩,C,A,rfl,⟨c,w,rfl,q,u,x,rfl,g,d,y,rfl,j,e,Q,rfl,k,G⟩,s,B,rfl,l,E,R,rfl,⟨a,t,rfl,m,D⟩,f⟩:=h
 have G:Q=[]:=G
 have f:R=[]:=f
 have g:u = .int r.share:=g
 subst g G f
 obtain rfl:=rA D
 exact ⟨p,b,c,s,a,U,d,e,rfl,o,n,i,q,j,k,l,m⟩
def rW (T:Txt K mg Ad):Def P w K mg base "_law_hold" 7 ["_law_plain_here"] (Gs K Ad.bD):=by
 refine T.AX.cN fV λ Z Z Z Z Z H vs Q E B h=>?_
 obtain ⟨q,r,b,rfl,⟨pr,po,xs,A,W,dr,Br⟩,R,Of,Fx,O5,k⟩:=h
 refine ⟨_,(ai (cH (i:=1) fV.nd (FH T.HL (mY T) B.m T.L1 (aa (au ao (au ao (pv 0) ac) ac) (aa (au ao (au ao (pv 0) ac) ac) (aa (au ao (au ao (pv 0) ac) ac) ag)))))
     (ai (cR aaI rfl (cf (au ao (pv 0) ac)) (iD (i:=2) fV.nd) (ap (bA (aV (pv 1) T.aJ (o7 T) .nil B.m (aa (cD gi (by rfl) T.tF oY (aa (au ao (pv 2) ac) ag)) ag)))))
     (ai (cR aaI rfl (ck rfl T.de (aa (aU bB (by rfl) T.dU cA (aa (au ao (pv 0) ac) ag)) ag)) (iD (i:=3) fV.nd) (ai (cH (i:=2) fV.nd (au ao (au ao (pv 0) ac) (pv 3)))
     (ai (bA (aV (pv 1) T.aJ (qQ T) .nil B.m (aa (pv 3) (aa (ay (ic T) B.m (aa (au ao (au ao (pv 2) ac) ac) (aa ac ag))) (aa (au ao (au ao (pv 2) ac) ac) (aa (au ao (au ao (pv 2) ac) ac) ag))))))
     (ai (cR aaI rfl (ck rfl T.de (aa (aU bB (by rfl) T.dU cA (aa (au ao (pv 0) ac) ag)) ag)) (iD (i:=4) fV.nd) (ap (bC (aL tJ (au ao (au ao (pv 2) ac) (pv 4)) ac (aM _)) (ap (bA (aV (pv 1) T.aJ (oR T) .nil B.m (aa (pv 3) (aa (pv 4) (aa (ay (ic T) B.m (aa (au ao (au ao (pv 2) ac) (pv 4)) (aa ac ag))) ag)))))) aK)))
     (ap (bC (aL pF (au ao (pv 2) ac) c5 (aM _)) (ap (bA (FR (pv 1) T.aJ (lI T) B.m (aa (pv 3) (aa (au ao (au ao (pv 2) ac) ac) (aa (au ao (au ao (pv 2) ac) ac) (aa (au ao (au ao (pv 2) ac) ac) (aa (au ao (au ao (pv 2) ac) ac) ag)))))))) aK))))))
     (ap (aH (pv 1)))))),?_⟩
 try dsimp only [eT,bq]
 try (refine eP ?_;intro Z Z Z Z Z)
 have lx:xs.length=r.length:=by rw [dr.length,M1]
 have n1:=R.n1
 have n4:=R.n4
 refine ⟨_,rfl,q,_,_,_,rfl,rfl,.inr A,rfl,po,_,_,_,rfl,rfl,.inr Br,rfl,_,rfl,q,_,_,_,rfl,rfl,.inr A,rfl,po,_,_,_,rfl,rfl,.inr Br,rfl,_,rfl,q,_,_,_,rfl,rfl,.inr A,rfl,po,_,_,_,rfl,rfl,.inr Br,rfl,λ a Ua fa Yz a0=>?_⟩
 have s0:aG H (upd (upd H Ua (.own a)) a (.ins Ad.bD Ua [])):=λ c o C=>by
   rw [aw (aA C fa),aw (aA C Yz)]
   exact C
 refine ⟨a,Ua,b.1,b.2.1,b.2.2,rfl,af,by rw [aw a0];exact af,Of,Fx,O5,λ H1 ae D1=>⟨rfl,?_⟩⟩
 obtain ⟨S1,F1⟩:=D1.keep s0 (λ c C=>by
   simp only [aaa,aad,aaR] at C
   rcases C with rfl|rfl
   . exact fa
   . exact Yz)
 refine ⟨_,rfl,q,_,_,_,rfl,rfl,.inr (S1.tup A),rfl,pr,rfl,⟨_,S1.seq W⟩,?_⟩
 refine gY (xs:=xs) (λ i U l=>A3 (aG H l) (E2 λ F m=>A4 (bv K Ad.bD l a F m) (∀ c∈F,H c=none) (m.rows.length=i) (zp r b i m)) (∃ X,U=[some (.ref q),some (.ref a),X,none,none]))
   ⟨S1,⟨ae,_,D1.at_,F1,rfl,⟨rfl,rfl,rfl,rfl,rfl,rfl,rfl⟩⟩,none,rfl⟩ (λ i U l Z e=>e.1.seq W) ?_ ?_
 .
  rintro Z i x U H2 hx ⟨t,⟨Wn,m2,h2,F2,l2,J⟩,x5,rfl⟩
  have f:i<r.length:=by rw [<- lx];exact (Bj.mp hx).1
  obtain ⟨v,ev,dv⟩:=dr.get (i:=i) (d:=EA (bZ r i)) (by rw [Sb,fQ f];rfl)
  obtain rfl:x=v:=aao (hx.symm.trans ev)
  obtain ⟨p,pm,pw,sv,pf,us,v1,v2,rfl,g,hm,dm,Z⟩:=qB dv
  have M:=R.ok i f
  obtain ⟨⟨Uy,Z,Z,Z,Z,Z,Z,Z,Z,Z,Vg,Z⟩,Z,Z,Z,w2⟩:=id h2
  refine ⟨_,rfl,a,Uy,_,rfl,Vg,rfl,_,rfl,p,_,_,_,rfl,rfl,.inr (t.tup g),rfl,?_⟩
  refine ⟨pm,_,rfl,.inl (t.seq hm),λ Dl hD=>?_⟩
  have sD:=ak (o:=.lst us) hD
  refine ⟨a,Wn,m2,Dl,us,(bZ r i).marks,rfl,h2.same sD,by lia,aT.of af,bF.same (t.trans sD) _ dm,M.ok,M.len.1,M.len.2,M.ri,J.aF R f,λ H4 ah D4=>?_⟩
  obtain ⟨s,F4⟩:=D4.keep (t.trans sD) F2
  exact ⟨s,⟨ah,_,D4.at_,F4,by show (m2.rows++[_]).length=_;rw [aab,l2];rfl,J.add f⟩,_,rfl⟩
 rintro U H2 ⟨t,⟨Wn,m2,h2,F2,l2,J⟩,x5,rfl⟩
 refine ⟨_,rfl,q,_,_,_,rfl,rfl,.inr (t.tup A),rfl,pr,_,rfl,.inl (t.seq W),λ n L=>?_⟩
 rw [lx] at L J
 subst L
 refine ⟨_,rfl,by lia,by lia,?_⟩
 refine fT (lo:=0) (n:=r.length) (λ i U l=>A3 (aG H l) (E2 λ F m=>A3 (bv K Ad.bD l a F m) (∀ c∈F,H c=none) (mS r b i i 0 i m)) (E3 λ X x3 Y=>U=[some (.ref q),some (.ref a),X,x3,Y]))
   ⟨t,⟨Wn,m2,h2,F2,J.lk⟩,_,none,none,rfl⟩ ?_ ?_
 .
  rintro Z i U H3 f ⟨y,⟨Ut,m3,h3,F3,G⟩,X,x3,Y,rfl⟩
  obtain ⟨v,ev,dv⟩:=dr.get (i:=i) (d:=EA (bZ r i)) (by rw [Sb,fQ f];rfl)
  obtain ⟨p,pm,pw,sv,pf,us,v1,v2,rfl,g,hm,dm,hw,d1,d2,D,hf⟩:=qB dv
  have M:=R.ok i f
  have a4:=M.sh
  have ND:nQ xs (0+(i:Int))=some (.ref p):=by rw [aa0];exact dO ev
  obtain ⟨⟨Uy,Z,Z,Z,Z,Z,Z,Z,Z,Z,Vg,Z⟩,k1,k2,k3,w3⟩:=id h3
  refine ⟨_,rfl,q,_,_,_,rfl,rfl,.inr (y.tup A),rfl,_,rfl,pr,_,_,_,rfl,rfl,.inl (y.seq W),ND,?_⟩
  refine ⟨_,rfl,a,Uy,_,rfl,Vg,rfl,_,rfl,_,rfl,p,_,_,_,rfl,rfl,.inr (y.tup g),rfl,pw,_,_,_,rfl,rfl,.inr (y.tup hw),rfl,_,_,rfl,by decide,(show Int.natAbs _<2 ^ 400 from aav (show Int.natAbs _<2 ^ 3 by lia) (by decide)),pQ,λ pu H4 s4 h4=>?_⟩
  have s:=y.trans s4
  refine ⟨_,rfl,p,_,_,_,rfl,rfl,.inr (s.tup g),rfl,pw,_,_,_,rfl,rfl,.inr (s.tup hw),rfl,_,rfl,p,_,_,_,rfl,rfl,.inr (s.tup g),rfl,pw,_,_,_,rfl,rfl,.inr (s.tup hw),rfl,?_⟩
  have a1:eB 100 (nf (bZ r i).share 12):=GF (by decide) (show Int.natAbs _<2 ^ 100 by lia) pQ
  refine ⟨a,Ut,m3,i,.ref pu,v1,v2,nf (bZ r i).share 12,(bZ r i).lo,(bZ r i).hi,by rw [aa0];rfl,h3.same s4,by rw [G.len];exact f,jS (bY.of h4),Dn.same s _ d1,Dn.same s _ d2,a1,M.Pf,M.NJ,M.le,Ov.nonneg (by decide) (Ov.nf (by decide)) (by lia),G.xh R f,λ H7 aj D7=>?_⟩
  obtain ⟨S7,F7⟩:=D7.keep s F3
  have SY:=G.rj f
  refine ⟨_,rfl,q,_,_,_,rfl,rfl,.inr (S7.tup A),rfl,pr,_,rfl,.inl (S7.seq W),λ n L=>?_⟩
  rw [lx] at L
  subst L
  refine ⟨_,rfl,by lia,by lia,?_⟩
  refine fT (lo:=0) (n:=r.length) (λ j U l=>A3 (aG H l) (E2 λ F m=>A3 (bv K Ad.bD l a F m) (∀ c∈F,H c=none) (mS r b (i+1) i j i m)) (∃ Y,U=[some (.ref q),some (.ref a),some (.ref p),some (.int (0+(i:Int))),Y]))
    ⟨S7,⟨aj,_,D7.at_,F7,SY⟩,_,rfl⟩ ?_ ?_
  .
   rintro Z j U H9 hj ⟨u,⟨RB,m9,h9,F9,I⟩,a6,rfl⟩
   have aE:j<(bZ r i).cg.length:=by rw [M.fn];exact hj
   have YH:nQ ((bZ r i).cg.map V.int) (0+(j:Int))=some (.int ((bZ r i).fl j)):=by rw [aa0];exact nF aE
   have a3:=M.fb j
   refine ⟨_,rfl,p,_,_,_,rfl,rfl,.inr (u.tup g),rfl,_,rfl,pf,_,_,_,rfl,rfl,.inl (u.seq hf),YH,_,_,rfl,rfl,_,rfl,eM (λ gt=>?_) (λ ng=>⟨u,⟨RB,m9,h9,F9,I.Lo (by lia)⟩,_,rfl⟩)⟩
   have JH:i≠j:=λ z=>by
     have:=M.own
     rw [z] at this gt
     lia
   obtain ⟨⟨W1,Z,Z,Z,Z,Z,Z,Z,Z,Z,an,Z⟩,o1,o2,o3,w9⟩:=id h9
   refine ⟨_,rfl,a,W1,_,rfl,an,rfl,_,rfl,_,rfl,_,rfl,p,_,_,_,rfl,rfl,.inr (u.tup g),rfl,_,rfl,pf,_,_,_,rfl,rfl,.inl (u.seq hf),YH,_,_,rfl,by decide,(show Int.natAbs _<2 ^ 400 from aav (show Int.natAbs _<2 ^ 3 by lia) (by decide)),pQ,λ pu Em wk WQ=>?_⟩
   have Vk:eB 100 (nf ((bZ r i).fl j) 12):=GF (by decide) (show Int.natAbs _<2 ^ 100 by lia) pQ
   refine ⟨a,RB,m9,i,j,.ref pu,nf ((bZ r i).fl j) 12,by rw [aa0,aa0];rfl,h9.same wk,by rw [I.len];exact f,by rw [I.len];exact hj,JH,jS (bY.of WQ),Vk,Ov.nonneg (by decide) (Ov.nf (by decide)) (by lia),I.uQ R f hj,λ a2 UN Yq=>?_⟩
   obtain ⟨ab,Z9⟩:=Yq.keep (u.trans wk) F9
   exact ⟨ab,⟨UN,_,Yq.at_,Z9,I.kq gt⟩,_,rfl⟩
  rintro U H8 ⟨S,⟨YE,m8,h8,F8,O⟩,a5,rfl⟩
  have O:=O.Gf (by rw [M.fn];exact aaj _)
  refine ⟨_,rfl,p,_,_,_,rfl,rfl,.inr (S.tup g),rfl,rfl,_,rfl,?_⟩
  cases N:(bZ r i).bV with
  | none =>
    rw [N] at D
    have D:sv = .cL:=D
    subst D
    exact fO rfl ⟨S,⟨YE,_,h8,F8,O.IC N⟩,_,_,_,rfl⟩
  | some z =>
    rw [N] at D
    obtain ⟨pz,v3,rfl,uX,dz⟩:=Dn.bV D
    obtain ⟨z0,z1,z2,z3,z4⟩:=M.st z N
    refine DF (λ Z=>?_) (λ q=>nomatch q)
    obtain ⟨⟨ad,Z,Z,Z,Z,Z,Z,Z,Z,Z,al,Z⟩,Z⟩:=id h8
    refine ⟨_,rfl,a,ad,_,rfl,al,rfl,_,rfl,_,rfl,p,_,_,_,rfl,rfl,.inr (S.tup g),rfl,pz,_,_,_,rfl,rfl,.inr (S.tup uX),rfl,_,rfl,p,_,_,_,rfl,rfl,.inr (S.tup g),rfl,pz,_,_,_,rfl,rfl,.inr (S.tup uX),rfl,_,rfl,p,_,_,_,rfl,rfl,.inr (S.tup g),rfl,pz,_,_,_,rfl,rfl,.inr (S.tup uX),rfl,_,rfl,p,_,_,_,rfl,rfl,.inr (S.tup g),rfl,pz,_,_,_,rfl,rfl,.inr (S.tup uX),rfl,a,YE,_,i,v3,z.1,z.2.1,z.2.2.1,z.2.2.2,by rw [aa0];rfl,h8,by rw [O.len];exact f,Dn.same S _ dz,z0,z1,z2,z3,z4,λ H9 RB D9=>?_⟩
    obtain ⟨u,F9⟩:=D9.keep S F8
    exact ⟨u,⟨RB,_,D9.at_,F9,O.j4 f N⟩,_,_,_,rfl⟩
 . rintro U H3 ⟨y,⟨Ut,m3,h3,F3,G⟩,X,x3,Y,rfl⟩
   exact ⟨_,rfl,k a Ut m3 H3 y h3 F3 G⟩
def MJ (i:Nat) (h:i<4):nQ [V.int 1,V.int 2,V.int 4,V.int 8] (i:Int)=some (.int ((2 ^ i:Nat):Int)):=by
 have:i=0\/i=1\/i=2\/i=3:=by lia
 rcases this with rfl|rfl|rfl|rfl<;>exact cu rfl
def qo (T:Txt K mg Ad):Def P w K mg base "_law_any_state" 2 ["_law_cell","_law_plain_here"] (Dt K):=by
 refine T.sE.cN br λ Z Z Z Z Z H vs Q E hr h=>?_
 obtain ⟨c,q,g,b,rfl,⟨pr,po,xs,N,jJ,dr,Br⟩,R,Of,Fx,k⟩:=h
 refine ⟨_,(ai (cH (i:=2) br.nd (ay (fN T) hr.m (aa (pv 0) (aa ac ag))))
     (ai (cH (i:=3) br.nd ac)
     (ai (cH (i:=4) br.nd ac)
     (ai (cH (i:=5) br.nd (bH ag))
     (ai (cH (i:=6) br.nd (bH ag))
     (ai (cR aaI rfl (ck rfl T.de (aa (aU bB (by rfl) T.dU cA (aa (au ao (pv 1) ac) ag)) ag)) (iD (i:=7) br.nd) (ai (cH (i:=8) br.nd (au ao (au ao (au ao (pv 1) ac) (pv 7)) ac))
     (ai (cH (i:=9) br.nd ac)
     (ai (cH (i:=10) br.nd ac)
     (ai (kc (bC (aL pF (pv 8) c5 (aM _)) (ai (cH (i:=9) br.nd (ax aN (ax eO (au ao (pv 2) (pv 7)) ac) (ax aO (au ao (pv 8) ac) ac)))
     (ap (bC (PW.pt (qZ (aL cV (ax aN (ax eO (au ao (pv 2) (pv 7)) ac) ac) ac (aM _)) (mV (aL jR (pv 4) (au ao (au ao (pv 1) ac) ac) (aM _))))) (ai (cH (i:=3) br.nd (ax aO (pv 3) (au ao (bH (aa ac (aa ac (aa ac (aa ac ag))))) (pv 7))))
     (ap (cH (i:=4) br.nd (ax aO (pv 4) ac)))) (ap (bC (aL cV (pv 9) ac (aM _)) (ap (cH (i:=10) br.nd (ax aN (ax eO (au ao (pv 2) (pv 7)) ac) (ax aO (au ao (pv 8) ac) ac)))) aK))))) aK))
     (ai (bA (hV aaG aaM aaL cz (pv 5) (aa (pv 9) ag)))
     (ap (bA (hV aaG aaM aaL cz (pv 6) (aa (pv 10) ag))))))))))
     (ai (cH (i:=11) br.nd (cD dS (by rfl) T.kz iT (aa (fC ["_law_k"] ["_law_xs","_law_plain_here"] [2,1] (.cons ⟨rfl,rfl,.inl rfl⟩ (.cons ⟨rfl,rfl,.inl rfl⟩ .nil)) rfl (ck rfl T.de (aa (aU bB (by rfl) T.dU cA (aa (au ao (pv 1) ac) ag)) ag)) (λ Z Z Z Z Z=>(kY (i:=0))) (λ Z Z Z Z Z=>cw) (λ Z Z Z Z Z=>(ax aN (au (dX (K:=K) rfl) (pv 1) (pv 0)) (ax cS (aU (vT (K:=K) rfl) (by rfl) T.dU cA (aa (au (dX (K:=K) rfl) (au (dX (K:=K) rfl) (au (dX (K:=K) rfl) (pv 2) ac) (pv 0)) ac) ag)) ac)))) ag)))
     (ap (aH (aZ (aa (pv 11) (aa (pv 3) (aa (cD dS (by rfl) T.kz iT (aa (pv 5) ag)) (aa (cD dS (by rfl) T.kz iT (aa (pv 6) ag)) (aa (ax aN (au ao (pv 2) ac) (ax aO (au ao (au ao (pv 1) ac) ac) ac)) ag))))))))))))))),?_⟩
 try dsimp only [eT,bq]
 try (refine zB ?_;intro Z Z Z Z Z Z Z Z Z)
 have lx:xs.length=g.length:=by rw [dr.length,M1]
 have n1:=R.n1
 have n4:=R.n4
 refine ⟨_,rfl,c,6,rfl,by decide,λ B ys H0 s0 h0 ly Z=>?_⟩
 refine ⟨Eg,λ C hw=>⟨Eg,λ A hf=>?_⟩⟩
 have sw:=ak (o:=.lst []) hw
 have sf:=ak (o:=.lst []) hf
 have Yy:=sf _ _ (af (H:=H0) (a:=C) (o:=.lst []))
 have YY:C≠A:=λ z=>by rw [<- z,af] at hf;cases hf
 have Zj:(upd (upd H0 C (.lst [])) A (.lst [])) A=some (.lst []):=af
 have S0:=sw.trans sf
 have an:H0 A=none:=sw.free hf
 generalize upd (upd H0 C (.lst [])) A (.lst [])=H1 at Yy Zj S0 |-
 have N:=s0.tup N
 have jJ:=s0.seq jJ
 have dr:=bF.same s0 _ dr
 have Br:=s0.tup Br
 refine ⟨_,rfl,q,_,_,_,rfl,rfl,.inr (S0.tup N),rfl,pr,_,rfl,.inl (S0.seq jJ),λ n en=>?_⟩
 rw [lx] at en
 subst en
 refine ⟨_,rfl,by lia,by lia,?_⟩
 refine vO (lo:=0) (n:=g.length) (λ i U M=>aG H0 M/\E4 λ (bs u p:aR) (bu:Nat)=>A4 (M C=some (.lst (u.map aq))) (M A=some (.lst (p.map aq))) (mr (g.map Dh) b.1 i bs u p bu) (E4 λ (x7 x8 x9 Mv:eG)=>U=[some (.int c),some (.ref q),some (.ref B),some (aq bu),some (aq (Bit.rooms bu).length),some (.ref C),some (.ref A),x7,x8,x9,Mv,none]))
   ⟨S0,[],[],[],0,Yy,Zj,mr.zero Of,none,none,none,none,rfl⟩ ?_ ?_
 .
  rintro i U H1 hi ⟨S,bs,u,p,bu,WX,Uw,I,x7,x8,x9,Mv,rfl⟩
  obtain ⟨v,ev,dv⟩:=dr.get (i:=i) (d:=EA (bZ g i)) (by rw [Sb,fQ hi];rfl)
  obtain ⟨pq,pm,QP,sv,vZ,us,v1,v2,rfl,mK,hm,dm,Z,Z,Z,l,Z⟩:=qB dv
  have mB:=R.ok i hi
  have e7:(g.map Dh)[i]?=some (Dh (bZ g i)):=by rw [Sb,fQ hi];rfl
  have l7:0+1<(Dh (bZ g i)).marks.length:=by
    unfold Dh
    rw [M1]
    exact mB.len.1
  have lw:=I.lw
  have lf:=I.lf
  have ad:i<61:=by lia
  have ND:nQ xs (0+(i:Int))=some (.ref pq):=by rw [aa0];exact dO ev
  have JT:nQ (ys.map V.int) (0+(i:Int))=some (.int (ys.getD i 0)):=by rw [aa0];exact nF (by lia)
  have O:aT K H1 B (ys.map V.int):=aT.of (S _ _ h0)
  refine ⟨_,rfl,q,_,_,_,rfl,rfl,.inr (S.tup N),rfl,_,rfl,pr,_,_,_,rfl,rfl,.inl (S.seq jJ),ND,pq,_,_,_,rfl,rfl,.inr (S.tup mK),rfl,?_⟩
  refine ⟨λ ab M=>aG H1 M/\E3 λ (L:Bool) (W F:Nat)=>A3 (FP (Dh (bZ g i)).bV L W F) (L=true->((Bit.rooms bu).length:Int)<b.1) (ab=[some (.int c),some (.ref q),some (.ref B),some (aq (if L then bu+2 ^ i else bu)),some (aq ((Bit.rooms bu).length+(if L then 1 else 0))),some (.ref C),some (.ref A),some (.int (0+(i:Int))),some sv,some (aq W),some (aq F),none]),?_,?_⟩
  .
   refine ⟨_,rfl,rfl,_,rfl,?_⟩
   unfold Dh
   cases jG:(bZ g i).bV with
   | none =>
     rw [jG] at l
     have l:sv = .cL:=l
     subst l
     exact fO rfl ⟨aG.refl _,false,0,0,⟨rfl,rfl,rfl⟩,nofun,rfl⟩
   | some z =>
     rw [jG] at l
     obtain ⟨pz,v3,rfl,uX,dz⟩:=Dn.bV l
     obtain ⟨z0,z1,z2,z3,z4⟩:=mB.st z jG
     have Lk:=S.tup uX
     refine DF (λ Z=>?_) (λ q=>nomatch q)
     refine ⟨_,rfl,_,rfl,B,_,_,_,rfl,rfl,.inl O,JT,_,_,rfl,rfl,⟨by decide,pQ⟩,λ y1 Z=>⟨_,rfl,pz,_,_,_,rfl,rfl,.inr Lk,rfl,_,_,rfl,rfl,λ y2 e2=>⟨_,_,rfl,rfl,by lia,λ W aJ a0 Z=>?_⟩⟩⟩
     obtain ⟨W,rfl⟩:∃ x:Nat,W=(x:Int):=⟨W.toNat,by lia⟩
     have QD:(W:Int)<=z.2.2.1:=by lia
     refine ⟨_,rfl,_,rfl,B,_,_,_,rfl,rfl,.inl O,JT,_,_,rfl,rfl,⟨by decide,pQ⟩,λ y3 Z=>⟨_,_,rfl,rfl,by decide,λ r Z Z Z=>⟨rfl,_,rfl,eM (λ Z=>?_) (λ Z=>fe ?_)⟩⟩⟩
     .
      refine ⟨_,rfl,_,rfl,q,_,_,_,rfl,rfl,.inr (S.tup N),rfl,po,_,_,_,rfl,rfl,.inr (S.tup Br),rfl,_,_,rfl,rfl,_,rfl,eM (λ nJ=>?_) (λ Z=>?_)⟩
      .
       refine ⟨_,rfl,pR,λ p6 SG=>⟨_,rfl,?_⟩⟩
       have s6:=ak (o:=.lst [.int 1,.int 2,.int 4,.int 8]) SG
       have Tt:nQ [V.int 1,V.int 2,V.int 4,V.int 8] (0+(i:Int))=some (.int ((2 ^ i:Nat):Int)):=by
         rw [aa0]
         exact MJ i (by lia)
       refine ⟨p6,_,_,_,rfl,rfl,.inl (aT.of af),Tt,_,_,rfl,rfl,λ y8 e8=>⟨_,rfl,_,_,rfl,rfl,λ y9 e9=>?_⟩⟩
       obtain rfl:y8=((bu+2 ^ i:Nat):Int):=by rw [e8];push_cast;rfl
       obtain rfl:y9=(((Bit.rooms bu).length+1:Nat):Int):=by rw [e9];push_cast;rfl
       exact ⟨s6,true,W,0,⟨QD,z4.1,.inl rfl⟩,λ Z=>nJ,rfl⟩
      . refine ⟨_,rfl,rfl,_,rfl,eM (λ Y=>?_) (λ Z=>⟨aG.refl _,false,W,0,⟨QD,z4.1,.inl rfl⟩,nofun,rfl⟩)⟩
        refine ⟨_,rfl,_,rfl,B,_,_,_,rfl,rfl,.inl O,JT,_,_,rfl,rfl,⟨by decide,pQ⟩,λ y4 Z=>⟨_,rfl,pz,_,_,_,rfl,rfl,.inr Lk,rfl,_,_,rfl,rfl,λ y5 e5=>⟨_,_,rfl,rfl,by lia,λ F ah aj Z=>?_⟩⟩⟩
        obtain ⟨F,rfl⟩:∃ x:Nat,F=(x:Int):=⟨F.toNat,by lia⟩
        have Y:W=0:=by have:=eF.mp Y;lia
        exact ⟨aG.refl _,false,W,F,⟨QD,by show (F:Int)<=z.2.2.2;lia,.inr ⟨rfl,Y⟩⟩,nofun,rfl⟩
     . refine ⟨_,rfl,rfl,_,rfl,eM (λ Y=>?_) (λ Z=>⟨aG.refl _,false,W,0,⟨QD,z4.1,.inl rfl⟩,nofun,rfl⟩)⟩
       refine ⟨_,rfl,_,rfl,B,_,_,_,rfl,rfl,.inl O,JT,_,_,rfl,rfl,⟨by decide,pQ⟩,λ y4 Z=>⟨_,rfl,pz,_,_,_,rfl,rfl,.inr Lk,rfl,_,_,rfl,rfl,λ y5 e5=>⟨_,_,rfl,rfl,by lia,λ F ah aj Z=>?_⟩⟩⟩
       obtain ⟨F,rfl⟩:∃ x:Nat,F=(x:Int):=⟨F.toNat,by lia⟩
       have Y:W=0:=by have:=eF.mp Y;lia
       exact ⟨aG.refl _,false,W,F,⟨QD,by show (F:Int)<=z.2.2.2;lia,.inr ⟨rfl,Y⟩⟩,nofun,rfl⟩
  rintro ab H2 ⟨J,L,W,F,ae,lm,rfl⟩
  obtain ⟨Um,aF⟩:=I.next (x:=0) (w:=W) (f:=F) (lit:=L) ad e7 l7 ae lm
  rw [<- aF]
  have S2:=S.trans J
  have ZF:=J _ _ WX
  have al:=J _ _ Uw
  refine ⟨_,rfl,.inl ⟨rfl,_,aT.of ZF⟩,_,rfl,C,_,_,rfl,rfl,ZF,aW (by rw [M1];lia),?_⟩
  have Zg:upd H2 C (.lst (u.map aq++[aq W])) A=some (.lst (p.map aq)):=by rw [aw YY.symm];exact al
  refine ⟨_,rfl,.inl ⟨rfl,_,aT.of Zg⟩,_,rfl,A,_,_,rfl,rfl,Zg,aW (by rw [M1];lia),(S2.put hw).put an,_,_,_,_,by rw [aw YY,af,aaf];rfl,by rw [af,aaf];rfl,Um,_,_,_,_,rfl⟩
 .
  rintro U H1 ⟨S,bs,u,p,bu,WX,Uw,I,x7,x8,x9,Mv,rfl⟩
  have O:aT K H1 B (ys.map V.int):=aT.of (S _ _ h0)
  refine ⟨_,rfl,q,_,_,_,rfl,rfl,.inr (S.tup N),rfl,pr,_,rfl,.inl (S.seq jJ),λ n en=>?_⟩
  rw [lx] at en
  subst en
  refine ⟨_,rfl,by lia,by lia,λ D hD=>?_⟩
  refine dQ (lo:=0) (n:=g.length) (λ j G U M=>A4 (aG H1 M) (M D=some (.lst G)) (∃ (cs:aR),A3 (G=cs.map aq) (cs.length=j) (∀ t,t<j->gN cs t+1<(bZ g t).marks.length)) (∃ v,U=[v,some (.ref B),some (.ref q)]))
    ⟨ak hD,af,⟨[],rfl,rfl,λ Z h=>absurd h (abn _)⟩,none,rfl⟩ ?_ ?_
  .
   rintro j G U H2 hj ⟨J,gQ,⟨cs,rfl,lc,bc⟩,v,rfl⟩
   have S2:=S.trans J
   obtain ⟨v,ev,dv⟩:=dr.get (i:=j) (d:=EA (bZ g j)) (by rw [Sb,fQ hj];rfl)
   obtain ⟨pq,pm,QP,sv,vZ,us,v1,v2,rfl,mK,hm,dm,Z,Z,Z,l,Z⟩:=qB dv
   have lm:us.length=(bZ g j).marks.length:=by rw [dm.length,M1]
   have G9:=(R.ok j hj).len
   have ND:nQ xs (0+(j:Int))=some (.ref pq):=by rw [aa0];exact dO ev
   have JT:nQ (ys.map V.int) (0+(j:Int))=some (.int (ys.getD j 0)):=by rw [aa0];exact nF (by lia)
   refine ⟨_,rfl,_,rfl,B,_,_,_,rfl,rfl,.inl (J.seq O),JT,_,rfl,q,_,_,_,rfl,rfl,.inr (S2.tup N),rfl,_,rfl,pr,_,_,_,rfl,rfl,.inl (S2.seq jJ),ND,pq,_,_,_,rfl,rfl,.inr (S2.tup mK),rfl,pm,_,rfl,.inl (S2.seq hm),λ y2 e2=>⟨_,_,rfl,rfl,λ y3 e3=>⟨_,_,rfl,rfl,by lia,λ x x0 x1 Z=>?_⟩⟩⟩
   obtain ⟨x,rfl⟩:∃ y:Nat,x=(y:Int):=⟨x.toNat,by lia⟩
   refine ⟨gQ,aW (by rw [M1];lia),J.put hD,af,⟨cs++[x],by rw [aaf];rfl,by rw [aab,lc];rfl,λ t ht=>?_⟩,_,rfl⟩
   by_cases e:t<j
   . rw [xA (by lia)];exact bc t e
   . obtain rfl:t=cs.length:=by lia
     rw [EH,lc];lia
  rintro G U H2 ⟨J,gQ,⟨cs,rfl,lc,bc⟩,v,rfl⟩
  refine ⟨D,_,rfl,.inl ⟨aT.of gQ,λ t1 Mc=>?_⟩⟩
  have s3:=ak (o:=.tup (cs.map aq)) Mc
  have e3:(upd H2 t1 (.tup (cs.map aq))) t1=some (.tup (cs.map aq)):=af
  generalize upd H2 t1 (.tup (cs.map aq))=H3 at s3 e3 |-
  have S3:=J.trans s3
  refine ⟨_,rfl,_,rfl,_,rfl,C,_,rfl,.inl ⟨aT.of (S3 _ _ WX),λ t2 Ew=>?_⟩⟩
  have s4:=ak (o:=.tup (u.map aq)) Ew
  have e4:(upd H3 t2 (.tup (u.map aq))) t2=some (.tup (u.map aq)):=af
  generalize upd H3 t2 (.tup (u.map aq))=H4 at s4 e4 |-
  refine ⟨_,rfl,A,_,rfl,.inl ⟨aT.of ((S3.trans s4) _ _ Uw),λ t3 KM=>?_⟩⟩
  have s5:=ak (o:=.tup (p.map aq)) KM
  have e5:(upd H4 t3 (.tup (p.map aq))) t3=some (.tup (p.map aq)):=af
  generalize upd H4 t3 (.tup (p.map aq))=H5 at s5 e5 |-
  have S5:=(S3.trans s4).trans s5
  have Xj:=S.trans S5
  refine ⟨_,rfl,B,_,_,_,rfl,rfl,.inl (S5.seq O),nF (i:=5) (by lia),_,rfl,q,_,_,_,rfl,rfl,.inr (Xj.tup N),rfl,po,_,_,_,rfl,rfl,.inr (Xj.tup Br),rfl,_,_,rfl,rfl,λ y e=>⟨_,_,rfl,rfl,by lia,λ X MR Do Z=>⟨(by show 5<=sizeLine;decide),λ qt aE=>?_⟩⟩⟩
  obtain ⟨X,rfl⟩:∃ x:Nat,X=(x:Int):=⟨X.toNat,by lia⟩
  have s6:=ak (o:=.tup [.ref t1,aq bu,.ref t2,.ref t3,aq X]) aE
  have SA:(X:Int)<=b.2.1:=by lia
  refine k qt ⟨cs,bu,u,p,X⟩ _ ((s0.trans Xj).trans s6) ⟨t1,t2,t3,bY.of af,bY.of (((s4.trans s5).trans s6) _ _ e3),bY.of ((s5.trans s6) _ _ e4),bY.of (s6 _ _ e5)⟩ (λ m hk=>?_) SA
  have l7:(g.map Dh).length=g.length:=M1 ..
  have rH:mr (g.map Dh) b.1 g.length cs u p bu:=⟨lc,I.lw,I.lf,I.cC,I.most,λ j q' hj e=>by
    rw [Sb,fQ hj] at e
    cases e
    show _<((bZ g j).marks.map _).length
    rw [M1]
    exact bc j hj,I.bV⟩
  have lk:=hk.SY
  rw [<- l7] at rH lk
  exact mr.ok (s:=⟨cs,bu,u,p,X⟩) rH lk (by rw [l7];exact hk.len) SA
def ue (T:Txt K mg Ad):Def P w K mg base "_law_no_less" 1 ["_law_rank","_law_former"] KG:=by
 refine T.vx.cN tH λ Z Z Z Z Z H V Q E a h=>?_
 obtain ⟨u,v,rfl,M,k⟩:=h
 refine ⟨_,(ai (bC (aL lM (pv 1) c5 (aM _)) (ap (aH (dh lM (pv 0) c5 (aM _)))) aK)
     (ap (aH (Ki (dh lM (pv 0) c5 (aM _)) (qS (dh Fe (pv 0) (pv 1) (aM _))))))),?_⟩
 try dsimp only [eT,bq]
 rcases M with rfl|⟨x,y,rfl,rfl,l⟩
 . cases u with
   | none=>exact ⟨_,rfl,rfl,_,rfl,f7 ⟨_,rfl,rfl,k⟩⟩
   | some x=>exact ⟨_,rfl,rfl,_,rfl,fe ⟨_,rfl,rfl,_,rfl,f7 k⟩⟩
 . refine ⟨_,rfl,rfl,_,rfl,fe ⟨_,rfl,rfl,_,rfl,fe ⟨_,rfl,_,rfl,_,_,rfl,rfl,?_⟩⟩⟩
   rw [aaH (show (x:Int)<=(y:Int) by lia)]
   exact k
def uN (T:Txt K mg Ad):Def P w K mg base "_law_between" 3 ["_law_one","_law_other","_law_part"] (Jz K):=by
 refine T.ve.cN mm λ Z Z Z Z Z H vs Q E G h=>?_
 obtain ⟨v1,v2,p,x,y,S,rfl,D,C,ok,W,V,X,k⟩:=h
 refine ⟨_,(ai (cH (i:=3) mm.nd (ax aO (ax bL (ax bL (au ao (pv 0) ac) (au ao (pv 1) ac)) (ax cS ac (pv 2))) (ax bL (ax bL (au ao (pv 1) ac) (au ao (pv 0) ac)) (pv 2))))
     (ap (aH (ay (ic T) G.m (aa (pv 3) (aa (ax bL (ax bL ac (au ao (pv 0) ac)) (au ao (pv 1) ac)) ag)))))),?_⟩
 try dsimp only [eT,bq]
 obtain ⟨s,rfl,q⟩:=D.fr
 obtain ⟨u,rfl,r⟩:=C.fr
 have o:=lE (x:=x) ok (by lia)
 have O:=lE (x:=y) ok (by lia)
 rw [<- TZ ok] at k
 generalize bg x 1 S=f at *
 generalize bg y 1 S=g at *
 have B:Bd 4 (8 - p):=show Int.natAbs _<2 ^ 4 by lia
 have v:Bd 4 p:=show Int.natAbs _<2 ^ 4 by lia
 have M:=o.t.mul O.b
 have z:=O.t.mul o.b
 have A:=(show Bd 4 8 from pQ).mul o.b
 refine ⟨_,rfl,s,_,_,_,rfl,rfl,.inr q,rfl,_,rfl,u,_,_,_,rfl,rfl,.inr r,rfl,_,_,rfl,rfl,⟨100,100,o.t,O.b,by decide⟩,λ Y e=>⟨_,rfl,_,_,rfl,rfl,λ I a=>?_⟩⟩
 have e:Y=f.1 * g.2:=e
 have a:I=8 - p:=a
 subst e a
 refine ⟨_,_,rfl,rfl,⟨200,4,M,B,by decide⟩,λ J c=>?_⟩
 have c:J=f.1 * g.2 * (8 - p):=c
 subst c
 refine ⟨_,rfl,u,_,_,_,rfl,rfl,.inr r,rfl,_,rfl,s,_,_,_,rfl,rfl,.inr q,rfl,_,_,rfl,rfl,⟨100,100,O.t,o.b,by decide⟩,λ L d=>?_⟩
 have d:L=g.1 * f.2:=d
 subst d
 refine ⟨_,rfl,_,_,rfl,rfl,⟨200,4,z,v,by decide⟩,λ y5 F=>⟨_,_,rfl,rfl,λ N j=>?_⟩⟩
 have j:N=f.1 * g.2 * (8 - p)+g.1 * f.2 * p:=by rw [j,F]
 subst j
 refine ⟨_,rfl,_,rfl,s,_,_,_,rfl,rfl,.inr q,rfl,_,_,rfl,rfl,⟨4,100,pQ,o.b,by decide⟩,λ R l=>?_⟩
 have l:R=8 * f.2:=l
 subst l
 refine ⟨_,rfl,u,_,_,_,rfl,rfl,.inr r,rfl,_,_,rfl,rfl,⟨104,100,A,O.b,by decide⟩,λ U n=>?_⟩
 have n:U=8 * f.2 * g.2:=n
 subst n
 exact ⟨_,_,rfl,aaK (aaK (by decide) o.p) O.p,(((M.mul B).mono (by decide:204<=204)).add (z.mul v)).mono (by decide),(A.mul O.b).mono (by decide),k⟩
def xT (T:Txt K mg Ad):Def P w K mg base "_law_finer" 4 ["_law_plain_here","_law_room_here","_law_band","_law_part"] (Je K):=by
 refine T.yJ.cN iK λ Z Z Z Z Z H vs Q E hr h=>?_
 obtain ⟨q,R,b,f,r,B,p,rfl,⟨pr,po,X,hq,jJ,dr,Br⟩,ok,wG,⟨M,em,bm⟩,M5,l6,n4,hp,k⟩:=h
 refine ⟨_,(ai (cH (i:=4) iK.nd (cD gi (by rfl) T.tF oY (aa (au ao (pv 0) ac) ag)))
     (ai (cH (i:=5) iK.nd (au ao (pv 4) (pv 1)))
     (ai (cH (i:=6) iK.nd (ay (uN T) hr.m (aa (au ao (au ao (pv 5) ac) (pv 2)) (aa (au ao (au ao (pv 5) ac) (ax aO (pv 2) ac)) (aa (pv 3) ag)))))
     (ai (ii (aZ (aa (ax qO (ax qO (je sS (au ao (pv 5) ac) kj (kB (ax aO (pv 2) ac))) (bH (aa (pv 6) ag))) (je sS (au ao (pv 5) ac) (kB (ax aO (pv 2) ac)) kj)) (aa (au ao (pv 5) ac) (aa (au ao (pv 5) ac) (aa (au ao (pv 5) ac) ag))))) (qC (pv 4) (pv 1) set_list))
     (ap (aH (aZ (aa (pv 4) (aa (au ao (pv 0) ac) ag))))))))),?_⟩
 try dsimp only [eT,bq]
 try (refine pE ?_;intro Z Z Z Z Z Z)
 have lx:X.length=R.length:=by rw [dr.length,M1]
 refine ⟨_,rfl,q,_,_,_,rfl,rfl,.inr hq,rfl,pr,_,rfl,.inl jJ,λ D hD=>?_⟩
 have s:=ak (o:=.lst X) hD
 have J:upd H D (.lst X) D=some (.lst X):=af
 generalize upd H D (.lst X)=H1 at s J |-
 obtain ⟨v,ev,dv⟩:=dr.get (i:=r) (d:=EA (bZ R r)) (by rw [Sb,fQ wG];rfl)
 obtain ⟨j,pm,pw,sv,Y,u,v1,v2,rfl,g,I,F,hw,d1,d2,ad,hf⟩:=qB dv
 have lu:u.length=(bZ R r).marks.length:=by rw [F.length,M1]
 have Pq:M.length=(bZ R r).marks.length:=by rw [em,M1]
 refine ⟨_,rfl,_,rfl,D,_,_,_,rfl,rfl,.inl (aT.of J),dO ev,?_⟩
 have G:∀ i (hi:i<M.length),(bZ R r).marks[i]?=some (bg M[i] 1 f):=λ i hi=>by rw [em,Sb,aI hi];rfl
 obtain ⟨u1,ah,Zh⟩:=F.get (i:=B) (d:=dJ (bg M[B] 1 f)) (by rw [Sb,G B (by lia)];rfl)
 obtain ⟨u2,aj,ZO⟩:=F.get (i:=B+1) (d:=dJ (bg M[B+1] 1 f)) (by rw [Sb,G (B+1) (by lia)];rfl)
 have b1:=bm M[B] (aar _)
 have b2:=bm M[B+1] (aar _)
 have g1:=G B (by lia)
 have g2:=G (B+1) (by lia)
 generalize M[B]=x at Zh b1 g1
 generalize M[B+1]=y at ZO b2 g2
 refine ⟨_,rfl,j,_,_,_,rfl,rfl,.inr (s.tup g),rfl,_,rfl,pm,_,_,_,rfl,rfl,.inl (s.seq I),dO ah,_,rfl,j,_,_,_,rfl,rfl,.inr (s.tup g),rfl,_,rfl,_,_,rfl,rfl,λ y1 e1=>?_⟩
 obtain rfl:y1=((B+1:Nat):Int):=by rw [e1];push_cast;rfl
 refine ⟨pm,_,_,_,rfl,rfl,.inl (s.seq I),dO aj,_,rfl,u1,u2,p,x,y,f,rfl,Dn.same s _ Zh,Dn.same s _ ZO,ok,b1,b2,by lia,λ a H2 s2 h2=>?_⟩
 have S2:=s.trans s2
 refine ⟨_,rfl,j,_,_,_,rfl,rfl,.inr (S2.tup g),rfl,_,rfl,_,_,rfl,rfl,λ y2 e2=>?_⟩
 obtain rfl:y2=((B+1:Nat):Int):=by rw [e2];push_cast;rfl
 refine ⟨_,rfl,pm,u,rfl,S2.seq I,λ L ha=>?_⟩
 rw [KW (by lia)]
 have A:=ak (o:=.lst (u.take (B+1))) ha
 have e3:upd H2 L (.lst (u.take (B+1))) L=some (.lst (u.take (B+1))):=af
 generalize upd H2 L (.lst (u.take (B+1)))=H3 at A e3 |-
 refine ⟨_,rfl,uT,λ N hb=>?_⟩
 have n:=ak (o:=.lst [V.ref a]) hb
 have e4:upd H3 N (.lst [V.ref a]) N=some (.lst [V.ref a]):=af
 generalize upd H3 N (.lst [V.ref a])=H4 at n e4 |-
 refine ⟨L,N,_,_,rfl,rfl,n _ _ e3,e4,by rw [aaF];exact abY (aW (by show min _ _+1<=1000;lia)),λ O hc=>?_⟩
 have C:=ak (o:=.lst (u.take (B+1)++[V.ref a])) hc
 have e5:upd H4 O (.lst (u.take (B+1)++[V.ref a])) O=some (.lst (u.take (B+1)++[V.ref a])):=af
 generalize upd H4 O (.lst (u.take (B+1)++[V.ref a]))=H5 at C e5 |-
 have S5:=((S2.trans A).trans n).trans C
 refine ⟨_,rfl,j,_,_,_,rfl,rfl,.inr (S5.tup g),rfl,_,rfl,_,_,rfl,rfl,λ y3 ae=>?_⟩
 obtain rfl:y3=((B+1:Nat):Int):=by rw [ae];push_cast;rfl
 refine ⟨_,rfl,pm,u,rfl,S5.seq I,λ U hd=>?_⟩
 rw [Gb (by lia)]
 have t:=ak (o:=.lst (u.drop (B+1))) hd
 have e6:upd H5 U (.lst (u.drop (B+1))) U=some (.lst (u.drop (B+1))):=af
 generalize upd H5 U (.lst (u.drop (B+1)))=H6 at t e6 |-
 refine ⟨O,U,_,_,rfl,rfl,t _ _ e5,e6,by rw [aab,aaF,abT];exact abY (aW (by show min _ _+1+_<=1000;lia)),λ e he=>?_⟩
 have s7:=ak (o:=.lst (u.take (B+1)++[V.ref a]++u.drop (B+1))) he
 have e7:upd H6 e (.lst (u.take (B+1)++[V.ref a]++u.drop (B+1))) e=some (.lst (u.take (B+1)++[V.ref a]++u.drop (B+1))):=af
 have nD:e≠D:=λ z=>by
   rw [z,((((s2.trans A).trans n).trans C).trans t) _ _ J] at he
   cases he
 generalize upd H6 e (.lst (u.take (B+1)++[V.ref a]++u.drop (B+1)))=H7 at s7 e7 |-
 have S7:=(S5.trans t).trans s7
 refine ⟨_,rfl,j,_,_,_,rfl,rfl,.inr (S7.tup g),rfl,_,rfl,j,_,_,_,rfl,rfl,.inr (S7.tup g),rfl,_,rfl,j,_,_,_,rfl,rfl,.inr (S7.tup g),rfl,pR,λ c ht=>?_⟩
 have s8:=ak (o:=.tup [V.ref e,V.ref pw,sv,V.ref Y]) ht
 have e8:upd H7 c (.tup [V.ref e,V.ref pw,sv,V.ref Y]) c=some (.tup [V.ref e,V.ref pw,sv,V.ref Y]):=af
 generalize upd H7 c (.tup [V.ref e,V.ref pw,sv,V.ref Y])=l at s8 e8 |-
 have Zq:=(((((s2.trans A).trans n).trans C).trans t).trans s7).trans s8
 have S8:=s.trans Zq
 have Gk:=Zq _ _ J
 refine ⟨_,rfl,_,rfl,D,X,_,r,rfl,rfl,Gk,j9 (by lia),?_⟩
 have S:aG H (upd l D (.lst (X.set r (.ref c)))):=S8.put hD
 have nt:aQ K l (upd l D (.lst (X.set r (.ref c)))):=bT Gk rfl
 have e9:upd l D (.lst (X.set r (.ref c))) e=some (.lst (u.take (B+1)++[V.ref a]++u.drop (B+1))):=by
   rw [aw nD]
   exact s8 _ _ e7
 have Zv:upd l D (.lst (X.set r (.ref c))) D=some (.lst (X.set r (.ref c))):=af
 generalize upd l D (.lst (X.set r (.ref c)))=H9 at S nt e9 Zv |-
 have dk:Dn K H9 (dJ (bg (x * (8 - p)+y * p) 8 f)) (.ref a):=jS (nt _ _ (bY.of ((((((A.trans n).trans C).trans t).trans s7).trans s8) _ _ h2)))
 have ZH:=bF.same S _ F
 have ab:Dn K H9 (EA { bZ R r with marks:=(bZ R r).marks.take (B+1)++[bg (x * (8 - p)+y * p) 8 f]++(bZ R r).marks.drop (B+1)}) (.ref c):=by
   refine fS (nt _ _ (bY.of e8)) (bo (lC (aT.of e9) ?_) (bo (fS (S.tup hw) (bo nK (bo (Dn.same S _ d1) (bo (Dn.same S _ d2) cK)))) (bo (Dn.same S _ ad) (bo (lC (S.seq hf) (ux _)) cK))))
   show bF K H9 (((bZ R r).marks.take (B+1)++[bg (x * (8 - p)+y * p) 8 f]++(bZ R r).marks.drop (B+1)).map dJ) _
   rw [aaf,aaf,List.map_take,List.map_drop]
   exact ((ZH.take (B+1)).app (bo dk cK)).app (ZH.drop (B+1))
 refine ⟨_,rfl,_,rfl,q,_,_,_,rfl,rfl,.inr (S.tup hq),rfl,vF,λ q2 qL=>?_⟩
 have W:=ak (o:=.tup [V.ref D,V.ref po]) qL
 have On:=Ib (rs:=R) (q:={ bZ R r with marks:=(bZ R r).marks.take (B+1)++[bg (x * (8 - p)+y * p) 8 f]++(bZ R r).marks.drop (B+1)}) wG
 refine k q2 (R.set r _) _ (S.trans W) ⟨D,po,_,bY.of af,aT.of (W _ _ Zv),?_,(S.trans W).tup Br⟩ ⟨abc ..,On.1,⟨x,y,g1,g2,b1,b2,On.2⟩⟩
 rw [adx]
 exact bF.set (bF.same (S.trans W) _ dr) (Dn.same W _ ab)
def vd (T:Txt K mg Ad):Def P w K mg base "_law_states" 1 ["_law_state","_law_room_here","_law_band"] (IQ K):=by
 refine T.wR.cN fI λ Z Z Z Z Z H vs Q E hr h=>?_
 obtain ⟨q,S,r,bn,rfl,⟨qb,N,M,vw,ym,qL,Rt⟩,wG,n4,k⟩:=h
 refine ⟨_,(ai (cH (i:=3) fI.nd (cD gi (by rfl) T.tF oY (aa (au ao (pv 0) ac) ag)))
     (ai (bC (aL jR (au ao (pv 3) (pv 1)) (pv 2) (aM _)) (ap (aH (bH (aa (pv 0) ag)))) aK)
     (ai (cH (i:=4) fI.nd (bH ag))
     (ai (cR aaI rfl (ck rfl T.de (aa ac ag)) (iD (i:=5) fI.nd) (ai (cH (i:=6) fI.nd (cD gi (by rfl) T.tF oY (aa (pv 3) ag)))
     (ai (ii (ax aO (au ao (pv 3) (pv 1)) (pv 5)) (qC (pv 6) (pv 1) set_list))
     (ap (bC (PW.pt (rD (aL cV (pv 5) ac (aM _)) (oA (aL cV (au ao (pv 3) (pv 1)) (pv 2) (aM _))))) (ap (bA (hV aaG aaM aaL cz (pv 4) (aa (ax CP (aZ (aa (cD dS (by rfl) T.kz iT (aa (pv 6) ag)) ag)) (je ya (pv 0) (kB ac) kj)) ag)))) aK)))))
     (ap (aH (pv 4))))))),?_⟩
 try dsimp only [eT,bq]
 try (refine pE ?_;intro Z Z Z Z Z Z)
 refine ⟨_,rfl,q,_,_,_,rfl,rfl,.inr vw,rfl,qb,_,rfl,.inr ym,λ D hD=>?_⟩
 have s1:=ak (o:=.lst (S.aF.map aq)) hD
 have jH:upd H D (.lst (S.aF.map aq)) D=some (.lst (S.aF.map aq)):=af
 generalize upd H D (.lst (S.aF.map aq))=H1 at s1 jH |-
 have VC:nQ (S.aF.map aq) (r:Int)=some (aq (gN S.aF r)):=rQ wG
 have WU:S.aF.set r (gN S.aF r)=S.aF:=by
   refine adt λ i=>?_
   by_cases e:i=r
   . rw [e,abU wG,AY wG]
   . rw [ab5 (λ z=>e z.symm)]
 refine ⟨_,rfl,_,rfl,D,_,_,_,rfl,rfl,.inl (aT.of jH),VC,_,rfl,_,_,rfl,rfl,_,rfl,eM (λ lt=>?_) (λ ge=>?_)⟩
 .
  refine ⟨_,rfl,uT,λ pl hG=>?_⟩
  have Y:=ak (o:=.lst [V.ref q]) hG
  refine k pl [.ref q] [S] _ (s1.trans Y) af (.cons ⟨q,rfl,f9.same ⟨qb,N,M,vw,ym,qL,Rt⟩ (s1.trans Y)⟩ .nil) (λ s hs=>?_) (acb 1)
  rw [aac.mp hs]
  exact ⟨gN S.aF r,by rw [WU],by rw [aan (by lia)],by lia⟩
 refine ⟨Eg,λ b mW=>?_⟩
 have Y:=ak (o:=.lst []) mW
 have Pe:upd H1 b (.lst []) b=some (.lst []):=af
 have Qr:D≠b:=λ z=>by
   rw [<- z,jH] at mW
   cases mW
 have gQ:=Y _ _ jH
 have SH:H b=none:=s1.free mW
 generalize upd H1 b (.lst [])=H2 at Y Pe gQ |-
 refine ⟨_,rfl,by decide,by decide,?_⟩
 refine fT (lo:=0) (n:=2) (λ i U H'=>A4 (aG H H') (H' D=some (.lst (S.aF.map aq))) (E2 λ x l=>A4 (H' b=some (.lst x)) (jc K H' x l) (∀ s∈l,∃ c,s={ S with aF:=S.aF.set r c }/\(if c<=bn then c else c - 1)=gN S.aF r/\c<=gN S.aF r+1) (l.length<=i)) (E2 λ x5 x6=>U=[some (.ref q),some (aq r),some (aq bn),some (.ref D),some (.ref b),x5,x6]))
   ⟨s1.trans Y,gQ,⟨[],[],Pe,.nil,λ Z h=>absurd h aad,aaj _⟩,none,none,rfl⟩ ?_ ?_
 .
  rintro Z i U O hi ⟨S3,jn,⟨x,l,RH,BB,MS,ll⟩,x5,x6,rfl⟩
  refine ⟨_,rfl,D,_,rfl,.inl (aT.of jn),λ pn W=>?_⟩
  have s4:=ak (o:=.lst (S.aF.map aq)) W
  have e4:upd O pn (.lst (S.aF.map aq)) pn=some (.lst (S.aF.map aq)):=af
  have ad:D≠pn:=λ z=>by
    rw [<- z,jn] at W
    cases W
  have ae:b≠pn:=λ z=>by
    rw [<- z,RH] at W
    cases W
  generalize upd O pn (.lst (S.aF.map aq))=R at s4 e4 |-
  refine ⟨_,rfl,_,rfl,D,_,_,_,rfl,rfl,.inl (aT.of (s4 _ _ jn)),VC,_,rfl,_,_,rfl,rfl,λ y ey=>?_⟩
  obtain rfl:y=((gN S.aF r+i:Nat):Int):=by rw [ey];push_cast;lia
  refine ⟨_,rfl,_,rfl,pn,_,_,r,rfl,rfl,e4,j9 (by rw [M1];exact wG),?_⟩
  have e5:upd R pn (.lst ((S.aF.map aq).set r (.int ((gN S.aF r+i:Nat):Int)))) pn=some (.lst ((S.aF.set r (gN S.aF r+i)).map aq)):=by rw [af,show V.int ((gN S.aF r+i:Nat):Int)=aq (gN S.aF r+i) from rfl,<- adx]
  have En:upd R pn (.lst ((S.aF.map aq).set r (.int ((gN S.aF r+i:Nat):Int)))) D=some (.lst (S.aF.map aq)):=by rw [aw ad];exact s4 _ _ jn
  have X:upd R pn (.lst ((S.aF.map aq).set r (.int ((gN S.aF r+i:Nat):Int)))) b=some (.lst x):=by rw [aw ae];exact s4 _ _ RH
  have t5:aQ K O (upd R pn (.lst ((S.aF.map aq).set r (.int ((gN S.aF r+i:Nat):Int))))):=(aG.ts s4).trans (bT e4 rfl)
  have S5:aG O (upd R pn (.lst ((S.aF.map aq).set r (.int ((gN S.aF r+i:Nat):Int))))):=s4.put W
  generalize upd R pn (.lst ((S.aF.map aq).set r (.int ((gN S.aF r+i:Nat):Int))))=A at e5 En X t5 S5 |-
  have JB:jc K A x l:=BB.imp λ p a h=>h.VW t5
  have C:=S3.trans S5
  have L:∀ {y:Nat},gN S.aF r+i=y->(if y<=bn then y else y - 1)=gN S.aF r->y<=gN S.aF r+1->∀ (g:am) (d:Hp),aG A d->f9 K d g { S with aF:=S.aF.set r y }->d b=some (.lst x)/\x.length<sizeLine/\(aG H (upd d b (.lst (x++[.ref g])))/\upd d b (.lst (x++[.ref g])) D=some (.lst (S.aF.map aq))/\∃ HC l',upd d b (.lst (x++[.ref g])) b=some (.lst HC)/\jc K (upd d b (.lst (x++[.ref g]))) HC l'/\(∀ s∈l',∃ c,s={ S with aF:=S.aF.set r c }/\(if c<=bn then c else c - 1)=gN S.aF r/\c<=gN S.aF r+1)/\l'.length<=i+1):=λ {y} ey h1 h2 g d f ab=>by
    have X8:=f _ _ X
    have t6:aQ K d (upd d b (.lst (x++[.ref g]))):=bT X8 rfl
    refine ⟨X8,aW (by rw [BB.length];lia),(C.trans f).put SH,by rw [aw Qr];exact f _ _ En,x++[.ref g],l++[{ S with aF:=S.aF.set r y }],af,Refs.snoc (JB.imp λ p a h=>(h.same f).VW t6) (ab.VW t6),λ s hs=>?_,by rw [aab];show l.length+1<=i+1;lia⟩
    rcases aau.mp hs with h|h
    . exact MS s h
    . rw [aac.mp h]
      exact ⟨y,rfl,h1,h2⟩
  refine ⟨_,rfl,rfl,_,rfl,eM (λ e1=>f7 ?_) (λ Z=>?_)⟩
  .
   have i1:i=1:=by
     have:=eF.mp e1
     lia
   refine ⟨_,rfl,.inl ⟨rfl,_,aT.of X⟩,_,rfl,pn,_,rfl,.inl ⟨aT.of e5,λ t Mc=>⟨uT,λ m v=>?_⟩⟩⟩
   have f:=ak (o:=.tup ((S.aF.set r (gN S.aF r+i)).map aq)) Mc
   have G:upd A t (.tup ((S.aF.set r (gN S.aF r+i)).map aq)) t=some (.tup ((S.aF.set r (gN S.aF r+i)).map aq)):=af
   generalize upd A t (.tup ((S.aF.set r (gN S.aF r+i)).map aq))=d at f G v |-
   have j:=ak (o:=.tup [V.ref t]) v
   have I:upd d m (.tup [V.ref t]) m=some (.tup [V.ref t]):=af
   generalize upd d m (.tup [V.ref t])=H7 at j I |-
   refine ⟨_,rfl,_,rfl,q,_,1,rfl,((C.trans f).trans j).tup vw,rfl,rfl,by decide,(by show 1<=5;decide),λ t3 KM=>?_⟩
   have u:=ak (o:=.tup (List.drop 1 [V.ref qb,aq S.cC,V.ref N,V.ref M,aq S.heap])) KM
   refine ⟨m,t3,_,_,rfl,rfl,bY.of (u _ _ I),bY.of af,(by show 5<=sizeLine;decide),λ g H9 J Qy=>?_⟩
   have F:=((f.trans j).trans u).trans J
   have B:=C.trans F
   obtain ⟨f1,f2,f3,f4,g1,g2,g3,g4,g5,g6⟩:=L rfl (by rw [aap (by lia)];lia) (by lia) g H9 F ⟨t,N,M,Qy,bY.of (((j.trans u).trans J) _ _ G),B.tup qL,B.tup Rt⟩
   exact ⟨b,_,_,rfl,rfl,f1,f2,f3,f4,⟨g1,g2,g3,g4,g5,g6⟩,_,_,rfl⟩
  .
   refine ⟨_,rfl,_,rfl,D,_,_,_,rfl,rfl,.inl (aT.of En),VC,_,rfl,rfl,_,rfl,eM (λ e1=>?_) (λ Z=>⟨C,En,⟨x,l,X,JB,MS,by lia⟩,_,_,rfl⟩)⟩
   have eb:gN S.aF r=bn:=by
     have:=eF.mp e1
     lia
   by_cases i0:i=0
   .
    refine ⟨_,rfl,.inl ⟨rfl,_,aT.of X⟩,_,rfl,pn,_,rfl,.inl ⟨aT.of e5,λ t Mc=>⟨uT,λ m v=>?_⟩⟩⟩
    have f:=ak (o:=.tup ((S.aF.set r (gN S.aF r+i)).map aq)) Mc
    have G:upd A t (.tup ((S.aF.set r (gN S.aF r+i)).map aq)) t=some (.tup ((S.aF.set r (gN S.aF r+i)).map aq)):=af
    generalize upd A t (.tup ((S.aF.set r (gN S.aF r+i)).map aq))=d at f G v |-
    have j:=ak (o:=.tup [V.ref t]) v
    have I:upd d m (.tup [V.ref t]) m=some (.tup [V.ref t]):=af
    generalize upd d m (.tup [V.ref t])=H7 at j I |-
    refine ⟨_,rfl,_,rfl,q,_,1,rfl,((C.trans f).trans j).tup vw,rfl,rfl,by decide,(by show 1<=5;decide),λ t3 KM=>?_⟩
    have u:=ak (o:=.tup (List.drop 1 [V.ref qb,aq S.cC,V.ref N,V.ref M,aq S.heap])) KM
    refine ⟨m,t3,_,_,rfl,rfl,bY.of (u _ _ I),bY.of af,(by show 5<=sizeLine;decide),λ g H9 J Qy=>?_⟩
    have F:=((f.trans j).trans u).trans J
    have B:=C.trans F
    obtain ⟨f1,f2,f3,f4,g1,g2,g3,g4,g5,g6⟩:=L rfl (by rw [aan (by lia)];lia) (by lia) g H9 F ⟨t,N,M,Qy,bY.of (((j.trans u).trans J) _ _ G),B.tup qL,B.tup Rt⟩
    exact ⟨b,_,_,rfl,rfl,f1,f2,f3,f4,⟨g1,g2,g3,g4,g5,g6⟩,_,_,rfl⟩
   .
    refine ⟨_,rfl,.inl ⟨rfl,_,aT.of X⟩,_,rfl,pn,_,rfl,.inl ⟨aT.of e5,λ t Mc=>⟨uT,λ m v=>?_⟩⟩⟩
    have f:=ak (o:=.tup ((S.aF.set r (gN S.aF r+i)).map aq)) Mc
    have G:upd A t (.tup ((S.aF.set r (gN S.aF r+i)).map aq)) t=some (.tup ((S.aF.set r (gN S.aF r+i)).map aq)):=af
    generalize upd A t (.tup ((S.aF.set r (gN S.aF r+i)).map aq))=d at f G v |-
    have j:=ak (o:=.tup [V.ref t]) v
    have I:upd d m (.tup [V.ref t]) m=some (.tup [V.ref t]):=af
    generalize upd d m (.tup [V.ref t])=H7 at j I |-
    refine ⟨_,rfl,_,rfl,q,_,1,rfl,((C.trans f).trans j).tup vw,rfl,rfl,by decide,(by show 1<=5;decide),λ t3 KM=>?_⟩
    have u:=ak (o:=.tup (List.drop 1 [V.ref qb,aq S.cC,V.ref N,V.ref M,aq S.heap])) KM
    refine ⟨m,t3,_,_,rfl,rfl,bY.of (u _ _ I),bY.of af,(by show 5<=sizeLine;decide),λ g H9 J Qy=>?_⟩
    have F:=((f.trans j).trans u).trans J
    have B:=C.trans F
    obtain ⟨f1,f2,f3,f4,g1,g2,g3,g4,g5,g6⟩:=L rfl (by rw [aap (by lia)];lia) (by lia) g H9 F ⟨t,N,M,Qy,bY.of (((j.trans u).trans J) _ _ G),B.tup qL,B.tup Rt⟩
    exact ⟨b,_,_,rfl,rfl,f1,f2,f3,f4,⟨g1,g2,g3,g4,g5,g6⟩,_,_,rfl⟩
 . rintro U O ⟨S3,jn,⟨x,l,RH,BB,MS,ll⟩,x5,x6,rfl⟩
   exact ⟨_,rfl,k b x l O S3 RH BB MS ll⟩
def Lm {f:am} {fd:FuncData} (F:HG K "law" "law" BN f fd) (T:Txt K mg Ad):lY P w K mg base yn 14 f fd ["_law_script"] (Gc K):=by
 refine F.ok jy (λ vs H Q E h=>?_) (λ bQ A outer s H vs Q E g h=>?_)
 . obtain ⟨a,ns,rfl,Z⟩:=h
   rfl
 .
  obtain ⟨ps,ns,rfl,hS,ah,BM,k⟩:=h
  refine ⟨_,(ai (cH (i:=1) jy.nd (ay (xP T) g.m (aa (pv 0) (aa ac (aa (ay (yk T) g.m (aa (ay (fB T) g.m (aa (pv 0) (aa ac ag))) ag)) ag)))))
    (ai (cH (i:=2) jy.nd (ay (fN T) g.m (aa (ay (fB T) g.m (aa (pv 0) (aa ac ag))) (aa ac ag))))
    (ai (cH (i:=3) jy.nd (ax aN (au ao (pv 2) ac) (aU bB (by rfl) T.dU cA (aa (au ao (pv 1) ac) ag))))
    (ai (bC (aL tJ (aU bB (by rfl) T.dU cA (aa (au ao (au ao (au ao (pv 1) ac) (pv 3)) ac) ag)) ac (aM _)) (ap (aH fX)) aK)
    (ai (cH (i:=4) jy.nd (ax aN (au ao (pv 2) ac) (ax cS (aU bB (by rfl) T.dU cA (aa (au ao (au ao (au ao (pv 1) ac) (pv 3)) ac) ag)) ac)))
    (ai (cH (i:=5) jy.nd (ay (qo T) g.m (aa (ay (fB T) g.m (aa (pv 0) (aa ac ag))) (aa (pv 1) ag))))
    (ai (cH (i:=6) jy.nd (sP (P:=P) (w:=w) (K:=K) rfl rfl rfl g.Kq (zf (np (P:=P) (w:=w) T) g.m (aa (ay (rW T) g.m (aa (pv 1) ag)) (aa (bH (aa (pv 5) ag)) ag))) (pv 5) (λ Z Z=>rfl)))
    (ai (cH (i:=7) jy.nd (ay (xT T) g.m (aa (pv 1) (aa (pv 3) (aa (pv 4) (aa (ax aO ac (ax aN (au ao (pv 2) ac) ac)) ag))))))
    (ai (cH (i:=8) jy.nd (ay (vd T) g.m (aa (pv 5) (aa (pv 3) (aa (pv 4) ag)))))
    (ai (cH (i:=9) jy.nd (zf (np (P:=P) (w:=w) T) g.m (aa (ay (rW T) g.m (aa (pv 7) ag)) (aa (pv 8) ag))))
    (ap (aH (dh (L9 g.units) (fC ["_law_one"] ["_law_rank","_law_found"] [6,9] (.cons ⟨rfl,rfl,.inl rfl⟩ (.cons ⟨rfl,rfl,.inl rfl⟩ .nil)) rfl (cf (pv 8)) (λ Z Z Z Z Z=>(kY (i:=0))) (λ Z Z Z Z Z=>(jo (eK (cP (ay (ue T) g.m (aa (sP (P:=P) (w:=w) (K:=K) rfl rfl rfl g.Kq (pv 2) (pv 0) (λ Z Z=>rfl)) (aa (pv 1) ag))))))) (λ Z Z Z Z Z=>(pv 0))) (bH ag) (aM _)))))))))))))),?_⟩
  try dsimp only [eT,bq]
  try (refine CZ ?_;intro Z Z Z Z Z Z Z Z Z Z Z Z)
  refine ⟨_,rfl,_,rfl,ps,ns,2,rfl,hS,by decide,λ c1 Z=>⟨c1,rfl,λ yw H1 sc ok s1 h1=>?_⟩⟩
  refine ⟨ps,ns,0,yw,sc,rfl,s1.seq hS,bY.of h1,ok,λ q u b kd H2 s2 hp z=>?_⟩
  have S2:=s1.trans s2
  have b0:=z.b0
  have I:=z.b1
  have b2:=z.b2
  have R:=z.rooms
  refine ⟨_,rfl,ps,ns,5,rfl,S2.seq hS,by decide,λ c3 Z=>⟨c3,3,rfl,by decide,λ px ys H3 s3 h3 ly Z=>?_⟩⟩
  have S3:=S2.trans s3
  have vj:=hp.same s3
  obtain ⟨pr,po,xs,hq,jJ,dr,Br⟩:=id vj
  have lx:xs.length=u.length:=by rw [dr.length,M1]
  have n1:=R.n1
  have n4:=R.n4
  refine ⟨_,rfl,px,_,_,_,rfl,rfl,.inl (aT.of h3),nF (i:=0) (by lia),_,rfl,q,_,_,_,rfl,rfl,.inr hq,rfl,pr,_,rfl,.inl jJ,λ n en=>⟨_,_,rfl,rfl,by lia,λ r r0 r1 Z=>?_⟩⟩
  obtain ⟨r,rfl⟩:∃ x:Nat,r=(x:Int):=⟨r.toNat,by lia⟩
  have W:r<u.length:=by lia
  obtain ⟨v,ev,dv⟩:=dr.get (i:=r) (d:=EA (bZ u r)) (by rw [Sb,fQ W];rfl)
  obtain ⟨pq,pm,pw,sv,pf,us,v1,v2,rfl,mK,hm,dm,Z⟩:=qB dv
  have lu:us.length=(bZ u r).marks.length:=by rw [dm.length,M1]
  have G2:=(R.ok r W).len
  refine ⟨_,rfl,q,_,_,_,rfl,rfl,.inr hq,rfl,_,rfl,pr,_,_,_,rfl,rfl,.inl jJ,dO ev,pq,_,_,_,rfl,rfl,.inr mK,rfl,pm,_,rfl,.inl hm,λ y1 e1=>⟨_,_,rfl,rfl,_,rfl,eM (λ Z=>k _) (λ l6=>?_)⟩⟩
  refine ⟨_,rfl,px,_,_,_,rfl,rfl,.inl (aT.of h3),nF (i:=1) (by lia),_,rfl,q,_,_,_,rfl,rfl,.inr hq,rfl,_,rfl,pr,_,_,_,rfl,rfl,.inl jJ,dO ev,pq,_,_,_,rfl,rfl,.inr mK,rfl,pm,_,rfl,.inl hm,λ y2 e2=>⟨_,_,rfl,rfl,λ y3 e3=>⟨_,_,rfl,rfl,by lia,λ J n0 Um Z=>?_⟩⟩⟩
  obtain ⟨J,rfl⟩:∃ x:Nat,J=(x:Int):=⟨J.toNat,by lia⟩
  have V:J+1<(bZ u r).marks.length:=by lia
  have Yp:(bZ u r).marks.length<=6:=by lia
  refine ⟨_,rfl,ps,ns,4,rfl,S3.seq hS,by decide,λ c2 Z=>⟨_,rfl,c2,q,u,b,rfl,vj,R,b0.1,I.1,λ qs st H4 s4 jG X al=>?_⟩⟩
  clear e1 l6 e2 e3 n0 Um en r0 r1 dv dm hm mK ev dr jJ Br hq
  refine ⟨_,rfl,q,u,b,rfl,vj.same s4,R,b0,⟨I.1,I.2.1⟩,⟨b2.1,by lia⟩,λ a fp m H5 s5 O Z L=>?_⟩
  have so:=X m L
  have pw:=L.Rb R (Tz L z)
  have gm:=Nv O.wf O.mx O.sk pw
  have CL:LA m _ _ _ _:=L.CL z (Tq L z) (a:=m.most) (l:=m.load)
  have C5:=jG.same s5
  refine ⟨_,rfl,uT,λ pl hG=>?_⟩
  refine ⟨a,pl,2000,fp,m,[.ref qs],[st],rfl,O.same (ak hG),gm,CL.fin,by decide,CL.NI O.mx,af,.cons ⟨qs,rfl,C5.same (ak hG)⟩ .nil,λ s hs=>by rw [aac.mp hs];exact so,λ p aE H6 s6 Yf Sf=>?_⟩
  obtain ⟨v0,X1,GP⟩:=Sf st (aac.mpr rfl)
  have J6:=(ak (o:=.lst [.ref qs]) hG).trans s6
  have Q2:=C5.same J6
  refine ⟨_,rfl,p,qs,aE,lV st,_,rfl,rfl,Yf,iQ Q2,X1,?_⟩
  have T8:=(s4.trans s5).trans J6
  have SG:=vj.same T8
  have h6:=T8 _ _ h3
  clear J6 Yf Sf X1 hG s6 C5 jG s4 s5 T8 h3 vj hp
  refine ⟨_,rfl,_,rfl,_,rfl,_,rfl,px,_,_,_,rfl,rfl,.inl (aT.of h6),nF (i:=2) (by lia),_,_,rfl,rfl,by decide,λ t t0 t1 Z=>⟨_,_,rfl,rfl,λ pt aj=>?_⟩⟩
  have iR:1<=pt/\pt<=7:=by lia
  refine ⟨q,u,b,sc,r,J,pt,rfl,SG,ok,W,(z.r r W).ms,V,Yp,n4,iR,λ q' kF H7 s7 ad G=>?_⟩
  have LZ:=Q2.same s7
  have an:=so.lb
  have UF:=L.len
  refine ⟨_,rfl,_,rfl,_,rfl,qs,st,r,J,rfl,LZ,by lia,by lia,λ pl HC l H8 s8 YU BB MS ll=>?_⟩
  have l3:u.length=1\/∀ i,i<u.length->(bZ u i).marks.length<=4:=by
    by_cases e:u.length=1
    . exact .inl e
    . refine .inr λ i Y=>?_
      have:=(uP z.kk).2.2.2 (by have:=z.n;lia) i
      have:=(z.r i Y).b
      lia
  have R':=G.rooms ok R W iR V Yp l3
  refine ⟨_,rfl,q',kF,b,rfl,ad.same s8,R',b0,⟨I.1,I.2.1⟩,⟨b2.1,by lia⟩,λ a' uW m' H9 s9 M Z C=>?_⟩
  have UQ:m'.MN:=by
    unfold ar.MN
    rw [C.most,C.fR,C.load]
    exact ⟨b0,⟨I.1,I.2.1⟩,⟨b2.1,by lia⟩⟩
  have Yu:=Nv M.wf M.mx M.sk (C.Rb R' UQ)
  have PD:=G.CL z W V C
  have N:=G.fnr ok R W iR V L C
  have em:=G.with L C
  have aF:=C.len
  have ro:∀ i,i<m.rows.length->i≠r->m'.rows.getD i []=m.rows.getD i []:=λ i Y ei=>by
    rw [UF] at Y
    rw [vz C (by rw [G.n];exact Y),vz L Y,G.o i ei]
  have rl:(m'.rows.getD r []).length=(m.rows.getD r []).length+1:=by
    obtain ⟨x,y,Z,Z,Z,Z,e⟩:=G.r
    rw [vz C (by rw [G.n];exact W),vz L W,e]
    exact mX _ V
  obtain ⟨cJ,em⟩:∃ cJ,m'={ m with rows:=cJ }:=⟨m'.rows,em⟩
  subst em
  have X:∀ s∈l,eI { m with rows:=cJ } s/\cs m (Hj r J) s=st:=λ s hs=>by
    obtain ⟨c,rfl,c1,c2⟩:=MS s hs
    exact ⟨Mt so N.n (by rw [UF];exact W) ro rl c2,Lb so (by rw [UF];exact W) c1⟩
  refine ⟨_,rfl,a',pl,2000,uW,_,HC,l,rfl,M,Yu,PD.fin,by decide,PD.NI M.mx,s9 _ _ YU,BB.imp λ p s h=>h.same s9,λ s hs=>(X s hs).1,λ p9 Ws Em wk SQ V4=>?_⟩
  have No:=(s9.trans wk) _ _ YU
  have Ms:jc K Em HC l:=BB.imp λ p s h=>h.same (s9.trans wk)
  refine ⟨_,rfl,pl,rfl,⟨_,aT.of No⟩,λ D hD=>?_⟩
  refine cE (K:=K) (a:=pl) (xs:=HC) (λ j B U S=>A4 (aG Em S) (S D=some (.lst B)) (B=[]) (∃ v,U=[v,some (jL v0),some (.ref p9)]))
    ⟨ak hD,af,rfl,none,rfl⟩ (λ j B U S Z e=>e.1.seq (aT.of No)) ?_ ?_
  .
   rintro j x B U S hx ⟨NH,LW,rfl,v,rfl⟩
   obtain ⟨rE,s',rfl,es,XD⟩:=Ms.get hx
   have HJ:=aae es
   obtain ⟨v1,ab,ae⟩:=V4 s' HJ
   have le:v1=none\/∃ x y,v0=some x/\v1=some y/\x<=y:=GP.le ae λ k q=>by
     have:=N.ill O.wf M.wf gm Yu k s' (X s' HJ).1 q
     rw [(X s' HJ).2] at this
     exact this
   exact ⟨_,rfl,_,rfl,p9,rE,Ws,lV s',_,rfl,rfl,SQ.same NH,iQ (XD.same NH),ab,_,rfl,v0,v1,rfl,le,_,rfl,fe ⟨NH,LW,rfl,_,rfl⟩⟩
  .
   rintro B U S ⟨NH,LW,rfl,v,rfl⟩
   refine ⟨Eg,λ pe he=>⟨.list [],.list [],lC (aT.of (ak he _ _ LW)) cK,lC (aT.of af) cK,rfl,rfl,?_⟩⟩
   have e:PyData.eqv (.list []) (.list [])=true:=by decide +kernel
   rw [e]
   exact k _
end
def walk {l:W.OpenLaw} {q:bE} {L:cZ} {X:(dW)->bG->Prop} {Y:bz->bG->Prop} {d:DefRec} {K:Params->aD} (n:l.most=some 63) (O:d.params.defaults=[]) (c:d.name = "law")
   (H:∀ (w:bz) (h:bG),Y w h->(K w.params).In h)
   (F:∀ (w:bz) (m:dW) (h:bG),(K w.params).In h->h.Ns mainGlobals m->∃ A,Txt (K w.params) m A) :
   W.WalkO q L X Y l.row.toRowW d [] (λ f vs=>PySem.call f vs) :=
 L2.GI (k:=14) (x:="_law_script") n O ⟨rfl,by decide,by decide⟩ H
   (λ w m o h g G M=>by
     obtain ⟨Z,T⟩:=F w m h g G
     obtain ⟨f,i,j,a⟩:=id T.Qk
     rw [c] at M
     have e:=M.symm.trans j
     cases e
     exact ⟨i,a.La (λ Z Z Z Z Z Z Z=>rfl),λ b Z Z=>Lm a T⟩)
end K54
namespace PySem.W.Fast
abbrev q:=True
def tw4859194041821674132:=q
def tw3838006334204525007:=q
def tw12620397847211412868:=q
def tw18432246322101958044:=q
def tw6415724936660935964:=q
def tw8646927075163458120:=q
def tw4880059972819268746:=q
def tw12941310959669126815:=q
def tw16521353878436266971:=q
def tw11754081884623017818:=q
def tw14865925445543046667:=q
def tw6470821618662065081:=q
def tw5047761318643731761:=q
def tw7150922054747054701:=q
def tw12656913117388776819:=q
def tw12374591181702590274:=q
def tw4793501526703610135:=q
def tw1534412293997101162:=q
def tw1601387949013022083:=q
def tw13468793299722508029:=q
def tw4200552635721902995:=q
def tw4540548252025439371:=q
def tw13564038071980065608:=q
def tw1977535511772425444:=q
def tw11372092596143234348:=q
def tw10116176615202499535:=q
def tw535989098533747999:=q
def tw6504938904722489171:=q
def tw1576819700716933925:=q
def tw14251493310783577596:=q
def tw10325040764131690157:=q
def tw3587846867549445127:=q
def tw10518152710800977242:=q
def tw2292076718037219417:=q
def tw745703095504042895:=q
def tw15312208899284078672:=q
def tw3691244148209482704:=q
def tw8365094120490052617:=q
def tw7905912095247970464:=q
def tw4049419517473577516:=q
def tw16590397379035467731:=q
def tw13697176832197734170:=q
def tw16665041947361141156:=q
def tw15938810702503421741:=q
def tw13441231373646254747:=q
def tw4613718106796298810:=q
def tw13982632784123960566:=q
def tw10221401743942966605:=q
def tw1386503322181968162:=q
def tw12335463426526657494:=q
def tw12920264007883417146:=q
def tw925980055090676410:=q
def tw8600900246593207493:=q
def tw4982130952698531588:=q
def tw17853585279997703447:=q
def tw11566691248084480063:=q
def tw10682475457864759790:=q
def tw1918605248607231026:=q
def tw2499020343008832166:=q
def tw13430705063509280189:=q
def tw6832017654438719077:=q
def tw3116829492894246847:=q
def tw15870131153501805735:=q
def tw7880590820779782327:=q
def tw355945220498913833:=q
def tw18171318110978464020:=q
def tw3236752164138973763:=q
def tw12496647702716732797:=q
def tw10242229056325504655:=q
def tw9366742707176588750:=q
def tw11420359284366203446:=q
def tw1941668969501170988:=q
def tw6820768382274889055:=q
def tw3481143997787802022:=q
def tw4831816085636384821:=q
def tw4498251629226855625:=q
def tw6568755718619211572:=q
def tw16010463567992301201:=q
def tw15208520536869860577:=q
def tw17378779380063726013:=q
def tw16411836351208947820:=q
def tw14877240468343681413:=q
def tw11241471914269298929:=q
def tw7433796801519872628:=q
def tw13774897045300581187:=q
def tw14703225831731078708:=q
def tw5846963689387169306:=q
def tw4295630641759987829:=q
def tw13219189424675999890:=q
def tw15976469621071392409:=q
def tw14288931109620782884:=q
def tw13892394282738051546:=q
def tw6995250996995889685:=q
def tw10408107763343677578:=q
def tw11902025099950423101:=q
def tw2170762761985502795:=q
def tw17775172908629887004:=q
def tw6281738626560386576:=q
def tw11652832247283803912:=q
def tw6639251124720176654:=q
def tw9982625077060355150:=q
def tw17140012497164745910:=q
def tw10182721753282324282:=q
def tw5848934159812541040:=q
def tw11705839471660717980:=q
def tw1133048664328557126:=q
def tw2417013567980985320:=q
def tw7221760358931585072:=q
def tw6568534466537569712:=q
def tw11903270940166397699:=q
def tw12694663761312245642:=q
def tw2541568745122197696:=q
def tw34787242318454063:=q
def tw15661749491299643526:=q
def tw16968329841014024461:=q
def tw2887985438371484077:=q
def tw16036164202339036394:=q
def tw1589418060779653603:=q
def tw350063163326308083:=q
def tw6828264621805958486:=q
def tw14090195399088622571:=q
def tw17638647530702221122:=q
def tw956591356291449005:=q
def tw844525294057463215:=q
def tw7714956770300586401:=q
def tw6583070549279062886:=q
def tw1822227238526444183:=q
def tw4378190970486784099:=q
def tw15136896978026095288:=q
def tw2576436069960181394:=q
def tw11823570717636492118:=q
def tw13691680867368202574:=q
def tw7140832500883528723:=q
def tw1502419229812198823:=q
def tw3139139890048238902:=q
def tw7558842614973474388:=q
def tw10660050562185785362:=q
def tw12906862936699617670:=q
def tw3675711003355928399:=q
def tw9648627129704889192:=q
def tw14432411431149741344:=q
def tw8999279067940233038:=q
def tw12058512784529678906:=q
def tw9307548222200103978:=q
def tw1072468903572195261:=q
def tw7412837854972058063:=q
def tw17362705078403774702:=q
def tw11762848484384231381:=q
def tw2777680661435756644:=q
def tw8924488402500213395:=q
def tw12789205155089936229:=q
def tw3295068508117941090:=q
def tw7349504850555963772:=q
def tw12341028032238111049:=q
def tw2140414859228255822:=q
def tw4352373051770083424:=q
def tw10437004873217772276:=q
def tw11537455229236761421:=q
def tw5519374094185694176:=q
def tw16036487243354395863:=q
def tw11435646287546463956:=q
def tw11779056572212416162:=q
def tw8698017720788562908:=q
def tw9552443736824642018:=q
def tw4209414038240482707:=q
def tw411320288456294867:=q
def tw16777531099637195577:=q
def tw16702317645287532372:=q
def tw7827021284821900774:=q
def tw2545854608936114412:=q
def tw12145607283234857533:=q
def tw405526512835203751:=q
def tw6596932630240877525:=q
def tw9379278062955350299:=q
def tw9720093541059796482:=q
def tw1126269377816153427:=q
def tw3524615578670440347:=q
def tw16734770477677089760:=q
def tw16241028523811964692:=q
def tw14002235853564230518:=q
def tw4124798230780989877:=q
def tw16733098347085495868:=q
def tw395713778647585225:=q
def tw15818427284654563544:=q
def tw15856252478210771659:=q
def tw9341582710700769821:=q
def tw12550368857781684383:=q
def tw15825220001801384254:=q
def tw7733835103796766677:=q
def tw17159619928504859336:=q
def tw4781084844856732104:=q
def tw2047445083750394226:=q
def tw11112319469401869358:=q
def tw4223778855116380371:=q
def tw167170106045961230:=q
def tw15870360134081555984:=q
def tw6865885621171322436:=q
def tw7904163374866733772:=q
def tw14135345366814450225:=q
def tw15221116424564612552:=q
def tw5967277013435234645:=q
def tw14569794564683798888:=q
def tw3540508436875265478:=q
def tw10187194548211557123:=q
def tw7517434486314742925:=q
def tw226108339779073574:=q
def tw7460691241426448949:=q
def tw3079616814125998746:=q
def tw13114972923737404818:=q
def tw6808646139738554666:=q
def tw3999634242315158545:=q
def tw10673626034428876158:=q
def tw13814887934566183331:=q
def tw12358636717127769869:=q
def tw3011858076576025936:=q
def tw10396971895406834801:=q
def tw6443564669362250650:=q
def tw2223366240485857994:=q
def tw7814851665179642443:=q
def tw10250867885331641961:=q
def tw3302156650979866551:=q
def tw13211602153114967482:=q
def tw9010534655854664411:=q
def tw6743937137602247827:=q
def tw1802962906098592058:=q
def tw17692350956620626335:=q
def tw9690486048558131311:=q
def tw11774050960209895106:=q
def tw8741552021753319300:=q
def tw6208222108524766830:=q
def tw6777962803229272423:=q
def tw4274747232187019777:=q
def tw13290019417112970139:=q
def tw10710049060654072446:=q
def tw13639475707455075819:=q
def tw17642506000116227307:=q
def tw13293769327540871267:=q
def tw3006519013094547490:=q
def tw11460704549553128499:=q
def tw5300809110806501539:=q
def tw6712395070969638408:=q
def tw9235817408246880931:=q
def tw4696928038031398201:=q
def tw1212895734907428722:=q
def tw8506746468109534467:=q
def tw4783309099515707246:=q
def tw17194136524803906816:=q
def tw10876552389745811400:=q
def tw7202660287413924791:=q
def tw460228834786707315:=q
def tw12945070708581977105:=q
def tw17471296827284375962:=q
def tw5516494023121357535:=q
def tw16280934256348129451:=q
def tw177479463351266256:=q
def tw7636278956902740460:=q
def tw16452887583601872136:=q
def tw6325060804619512805:=q
def tw13102136497043401956:=q
def tw8020343898645673428:=q
def tw6762266049923516683:=q
def tw3568738701542004767:=q
def tw3275944437384424157:=q
def tw15589636364572156564:=q
def tw15588233380124760139:=q
def tw6600546369920110069:=q
def tw15860431720271455130:=q
def tw11320750852828003890:=q
def tw6240982068518463648:=q
def tw1174436186691559104:=q
def tw12541049604376856788:=q
def tw14304749619776064552:=q
def tw16982574495437715225:=q
def tw6518267666105096892:=q
def tw3442648980371041462:=q
def tw7267357813640348499:=q
def tw15732552382082827174:=q
def tw6606455749375297258:=q
def tw12057335796329969726:=q
def tw8660594039578389722:=q
def tw2219657324958229189:=q
def tw16873624533502493025:=q
def tw15138085387461628362:=q
def tw5861968835241071770:=q
def tw13910339803998791972:=q
def tw1978607044619718411:=q
def tw2647494578567272586:=q
def tw3035017041531388784:=q
def tw1049448792786499327:=q
def tw9585213387272599749:=q
def tw3936939751317249054:=q
def tw7061959420676447990:=q
def tw16656384567773455709:=q
def tw10462431689117571534:=q
def tw12047582144400045466:=q
def tw13896873224303261794:=q
def tw4263173641093794544:=q
def tw8799932928623425332:=q
def tw4613573671684427021:=q
def tw14978194604828183151:=q
def tw16032208819569172597:=q
def tw18287402037776496403:=q
def tw8773502362024952905:=q
def tw14538526158686792977:=q
def tw8664666093018589599:=q
def tw8097585159975477134:=q
def tw2752939807714782526:=q
def tw349591244843888822:=q
def tw17446494737650391535:=q
def tw14551072246571304663:=q
def tw7388822139403821138:=q
def tw7837952788946475821:=q
def tw15431219645445981951:=q
def tw8526122382637628069:=q
def tw7924445387929375709:=q
def tw6094839037829002263:=q
def tw3646602589507083984:=q
def tw15188344711451254495:=q
def tw14264411124998418954:=q
def tw12818099389926903655:=q
def tw9434095921840827287:=q
def tw8639118537336733560:=q
def tw6629758410291742543:=q
def tw15356103706608697808:=q
def tw3342389290536859380:=q
def tw11098511701793257755:=q
def tw727680517105364467:=q
def tw645415098438797807:=q
def tw4557861578911635825:=q
def tw17181310502985359383:=q
def tw14908030029570561413:=q
def tw5418925956828571474:=q
def tw16545690392291201108:=q
def tw6972749154399047213:=q
def tw10576585129420416301:=q
def tw15322099437042306977:=q
def tw9586154666317327638:=q
def tw4152786527781290324:=q
def tw3503906865309098084:=q
def tw1652809406648205523:=q
def tw2390482166023299507:=q
def tw12658034228869181914:=q
def tw2844630227777342329:=q
def tw1242617972393577419:=q
def tw11584808828181629772:=q
def tw17985224521638090050:=q
def tw16009060821917110993:=q
def tw14854903794056056472:=q
def tw18110883027642767553:=q
def tw6160751247465004092:=q
def tw4035496930276266356:=q
def tw14346562315330060271:=q
def tw13625253741635809363:=q
def tw12037941081160915908:=q
def tw8713735298099116945:=q
def tw3188023194108123549:=q
def tw17023781775633384282:=q
def tw12209892377684872905:=q
def tw4794001701133455979:=q
def tw4230856001178141700:=q
def tw8498434299125938188:=q
def tw6899746691780426292:=q
def tw6693999637348527360:=q
def tw4761661906484813614:=q
def tw10290673837489426141:=q
def tw5170860099211806109:=q
def tw17804184336117514011:=q
def tw16956973509511360865:=q
def tw16030900956401143796:=q
def tw15948250692776334557:=q
def tw8137258128011801365:=q
def tw17240017942179205816:=q
def tw5009779588442603376:=q
def tw15343300100879068919:=q
def tw10470099461482206910:=q
def tw13141771972165029379:=q
def tw12216333916724798211:=q
def tw16432265343161423631:=q
def tw6776204277895966511:=q
def tw580458718777764945:=q
def tw15241731642436132220:=q
def tw4490794501268926362:=q
def tw8051224079472195193:=q
def tw13765615578576279720:=q
def tw5403207338402126771:=q
def tw3109200115784918492:=q
def tw1074263637657416799:=q
def tw16299285389876754631:=q
def tw9974592755257733461:=q
def tw17902920330086672658:=q
def tw17666465084995999825:=q
def tw3275221561191573999:=q
def tw14136249036128531528:=q
def tw16381325564753451054:=q
def tw12936846417002892998:=q
def tw468039068069985691:=q
def tw17950009841776795247:=q
def tw1216058848534408409:=q
def tw11762992109327014024:=q
def tw14689927385532434836:=q
def tw13800503493576743297:=q
def tw12044737307985778372:=q
def tw304171675173267470:=q
def tw16707348605265751176:=q
def tw1310082406724489880:=q
def tw1039739342139419469:=q
def tw1985664122572489830:=q
def tw15367831567416846596:=q
def tw1058089260096127080:=q
def tw7962393434487821372:=q
def tw15522899347979237347:=q
def tw11470132500252449439:=q
def tw1979845404874502834:=q
def tw10117989906878158719:=q
def tw11656746533175256911:=q
def tw7572195841677881159:=q
def tw6518738039689997113:=q
def tw7472967888942246685:=q
def tw5499739957102582462:=q
def tw15044407361782543014:=q
def tw10746470922139766608:=q
def tw16837721385530217707:=q
def tw9994699247020311981:=q
def tw5563800259250222962:=q
def tw2942422150912605619:=q
def tw1413948358130883825:=q
def tw12483853783972201874:=q
def tw7157464376849921542:=q
def tw14117884091769502033:=q
def tw7298679187675287538:=q
def tw6179892273206487548:=q
def tw11493901164641111457:=q
def tw303788056257520000:=q
def tw10238881577264350810:=q
def tw12095174398632889285:=q
def tw17376491867697444538:=q
def tw12407426599896549470:=q
def tw10004421703657791397:=q
def tw9229151167285347922:=q
def tw8865111974791155788:=q
def tw11629890714736739815:=q
def tw14689916573676563551:=q
def tw520446669860835983:=q
def tw15787315468473706644:=q
def tw1388614948108599060:=q
def tw6538526680713761396:=q
def tw5931972523903280422:=q
def tw4270382364586817836:=q
def tw17121413856619610787:=q
def tw15316674836504109476:=q
def tw14182015320626421643:=q
def tw13716061093389755729:=q
def tw11577736681999965864:=q
def tw16792997368907955989:=q
def tw1868092965103915955:=q
def tw13534374067075932335:=q
def tw9886028124040485533:=q
def tw8141454724507130639:=q
def tw5301331271989667370:=q
def tw16793160341290320549:=q
def tw15291370350053054115:=q
def tw7516097789436136432:=q
def tw7322419240497890618:=q
def tw5769000481699975935:=q
def tw547242677409453688:=q
def tw4372911835950456991:=q
def tw3830204582224643076:=q
def tw3810124013808746726:=q
def tw2640654763850174670:=q
def tw16107219591576425561:=q
def tw11712286635804212240:=q
def tw11188035072229233354:=q
def tw1041089206638142270:=q
def tw5556887278364813922:=q
def tw8381363123308207771:=q
def tw4070888808783208187:=q
def tw16648146221718187569:=q
def tw4499496805085757054:=q
def tw4367629167271138609:=q
def tw17583698613063858943:=q
def tw14944953407676476173:=q
def tw11311569505700793603:=q
def tw15992463629729714574:=q
def tw7898796369262546999:=q
def tw592060057125137165:=q
def tw5148517947700477089:=q
def tw4208589446196267986:=q
def tw17185160167072521595:=q
def tw16684415884988741245:=q
def tw16279668666380364521:=q
def tw14985014811620577468:=q
def tw14868061309850958330:=q
def tw11939676178768085196:=q
def tw7441866902000229596:=q
def tw10330078644496504783:=q
def tw10728743759594194309:=q
def tw6188400041157788256:=q
def tw1538673931350910802:=q
def tw14840815311645036611:=q
def tw16301608608211969938:=q
def tw12785328743396676437:=q
def tw6867452584153770817:=q
def tw9793586466684788259:=q
def tw8762163407924251547:=q
def tw5099209859038032673:=q
def tw4910183203354978435:=q
def tw4455616904168734059:=q
def tw3579040029499697852:=q
def tw282319554230709686:=q
def tw18365466586100901929:=q
def tw17548061733019075331:=q
def tw16992436024208992186:=q
def tw16860966416512158826:=q
def tw16085781198740479554:=q
def tw14879814716850106016:=q
def tw14381242413480592345:=q
def tw13613201502872068525:=q
def tw11284743821676529033:=q
def tw858924968734207454:=q
def tw6789558539898601347:=q
def tw5967870787352227302:=q
def tw5802232632266437869:=q
def tw4610122921707932041:=q
def tw17224640635186146242:=q
def tw17035381843910822656:=q
def tw16073587289886660893:=q
def tw1545825221907248473:=q
def tw14673029657645813794:=q
def tw14666409725506147268:=q
def tw13460590086488359829:=q
def tw13158717272075754016:=q
def tw11105976693165261402:=q
def tw10792031432845650255:=q
def tw15100421849042634182:=q
def tw12252127131203803031:=q
def tw10166398007897797399:=q
def tw16046210409535673594:=q
def tw15488146133578754992:=q
def tw3357052574290703822:=q
def tw4112358899548372264:=q
def tw13638965568189536117:=q
def tw741794991126836819:=q
def tw6864513658756294659:=q
def tw6235555672543311954:=q
def tw3897619892331687172:=q
def tw2518386142691102774:=q
def tw17881582578813417550:=q
def tw17224721014359983948:=q
def tw17031242280057791137:=q
def tw14648457730628633975:=q
def tw12930603838689235106:=q
def tw7646226877208364110:=q
def tw5512429192409550916:=q
def tw5307422547890225325:=q
def tw4557465516441365433:=q
def tw3913521535719808882:=q
def tw3058552155560110183:=q
def tw302720469975381403:=q
def tw2469873199688871641:=q
def tw17703628117683686077:=q
def tw1585896729782525247:=q
def tw13764517185849352632:=q
def tw13163397387112050825:=q
def tw11879209395512288429:=q
def tw11610962201721539020:=q
def tw11260390474157031971:=q
def tw9997973149128619369:=q
def tw9987410215181831015:=q
def tw9972327192977207059:=q
def tw9867778230916444534:=q
def tw9843097846013021485:=q
def tw9838089298636133372:=q
def tw9556506111081777032:=q
def tw9530309012203865634:=q
def tw9500183335283412164:=q
def tw9459810106274315066:=q
def tw9458841015282655847:=q
def tw9437418833673301205:=q
def tw9431490481867740785:=q
def tw9322739857189416443:=q
def tw925320822105672780:=q
def tw911248532455286584:=q
def tw9036119611175113870:=q
def tw9015682068763719475:=q
def tw9001097903290404697:=q
def tw8837149765807535593:=q
def tw8808547635117311392:=q
def tw8733855529515714374:=q
def tw8696460948449424170:=q
def tw8685632135450066559:=q
def tw8654901667261581754:=q
def tw8467346448828977986:=q
def tw8366019679651477780:=q
def tw8353232975694206397:=q
def tw8183880376031028708:=q
def tw8182356577103452725:=q
def tw8077175937368848633:=q
def tw8016269185268125169:=q
def tw7971177359927987049:=q
def tw7811039282888822179:=q
def tw7744169236605432597:=q
def tw7696007364404692278:=q
def tw7662785036048917882:=q
def tw7516581220485384111:=q
def tw7298269493254083856:=q
def tw7176573960643402650:=q
def tw7158918342248521657:=q
def tw7089421040483418184:=q
def tw6807788953773886542:=q
def tw680182263827159292:=q
def tw6776784550691468162:=q
def tw6667598295452643268:=q
def tw6335789368888736808:=q
def tw6108720867521510885:=q
def tw6004775416072052919:=q
def tw5877926606176796635:=q
def tw5803210099423742330:=q
def tw5736983527442704861:=q
def tw5641833626273272186:=q
def tw5568227916471508797:=q
def tw5562691915655280715:=q
def tw5557726728803597752:=q
def tw5396561952535743280:=q
def tw5327776318075031467:=q
def tw5187364603334913048:=q
def tw5114015330494514748:=q
def tw5054874444584507273:=q
def tw4780148173287718056:=q
def tw4739213869746969767:=q
def tw4650301366313015182:=q
def tw4606261812316252627:=q
def tw4573959563106472420:=q
def tw4475487216064134651:=q
def tw4172879535141811953:=q
def tw4063177559218421918:=q
def tw386334179329662057:=q
def tw3719753173564727375:=q
def tw3710752787515741172:=q
def tw3672836342099201355:=q
def tw3442508727427791657:=q
def tw3251903030176056751:=q
def tw3163875125595701338:=q
def tw3112390100078678895:=q
def tw3098919597219440390:=q
def tw3070838501809726779:=q
def tw3000847042366033849:=q
def tw2967770995663264405:=q
def tw2955954000492442828:=q
def tw2849593250326046128:=q
def tw2778962117313870740:=q
def tw2687635460622195563:=q
def tw2679192147808182922:=q
def tw2581797706782772039:=q
def tw2575910137932467400:=q
def tw2508319010650613750:=q
def tw2472623025472901569:=q
def tw1865586957604439928:=q
def tw18310016867746708670:=q
def tw18226668683398370093:=q
def tw18087616239035519879:=q
def tw18048592245547788730:=q
def tw17979949739008126994:=q
def tw17957037908337760703:=q
def tw17799767632773895319:=q
def tw17743652725139052568:=q
def tw1746510835416280614:=q
def tw17415169232885068646:=q
def tw1733275390348969045:=q
def tw17292248376535879932:=q
def tw1718195078983837607:=q
def tw1702968934254073869:=q
def tw17017847818043223538:=q
def tw16878609150963297198:=q
def tw16669866592886581980:=q
def tw16593963740014302601:=q
def tw16510517032695943959:=q
def tw16486294082421060837:=q
def tw16470737550118196388:=q
def tw16391767349113848366:=q
def tw1639123379159975765:=q
def tw16383545605549856789:=q
def tw16291708884425555240:=q
def tw16203623550417532770:=q
def tw16167849956647782188:=q
def tw15895523090517417956:=q
def tw15849209336696535283:=q
def tw15848635931850873011:=q
def tw15824054795370586165:=q
def tw15684141596295284052:=q
def tw15664559178158677434:=q
def tw15635075393947614855:=q
def tw15135761925760057197:=q
def tw15127678135227297601:=q
def tw15076336960658343532:=q
def tw14883252539061672814:=q
def tw14874757311323365585:=q
def tw14868972626101818572:=q
def tw14812647161105297898:=q
def tw14803399046892974620:=q
def tw14784095329966783605:=q
def tw14666637475808003480:=q
def tw14588161518949763721:=q
def tw14535455573834058938:=q
def tw14501543869023652588:=q
def tw14424250579999624905:=q
def tw14386788812566838460:=q
def tw14216445094170252447:=q
def tw142158462793659841:=q
def tw14165606820686108202:=q
def tw14048431289199257380:=q
def tw14041240066166538418:=q
def tw13966263112489532377:=q
def tw13942094765529841099:=q
def tw13922069654470013366:=q
def tw13866971175924135022:=q
def tw13661298137722178173:=q
def tw13654827101887224638:=q
def tw13560234359860396294:=q
def tw13494742681598658722:=q
def tw13443478314944111775:=q
def tw13382255710176834280:=q
def tw13208340733699596509:=q
def tw13160842834027934279:=q
def tw12998975347534271385:=q
def tw12993934357966383814:=q
def tw12940665367479485935:=q
def tw12890147614042552323:=q
def tw12876478458951362434:=q
def tw12728455802141384548:=q
def tw12531914656594985577:=q
def tw12484276514712398353:=q
def tw12409916154189549580:=q
def tw12341772771627573230:=q
def tw12170559980576289456:=q
def tw12067602873206047913:=q
def tw11701937216614227535:=q
def tw11661153733221526935:=q
def tw11630780020511983386:=q
def tw11588210968364260956:=q
def tw11484932465455134621:=q
def tw11266383371466787156:=q
def tw10896849964167523196:=q
def tw10782131720622746927:=q
def tw10722014345863010434:=q
def tw10621808363824521740:=q
def tw1031250870095919099:=q
def tw10287145464044448819:=q
def tw1023691285218303509:=q
def tw10117409711386815471:=q
def tw10065434648347822815:=q
end PySem.W.Fast
open PySem PySem.W PyProof.Rows
set_option maxRecDepth 100000 in
set_option maxHeartbeats 0 in
theorem PySem.Challenge.cw_stoke_k54_whole_finer_gauges_holds : PySem.Challenge.rw_stoke_k54_whole_finer_gauges.Holds := by
 w_on; o_law; k_head; (case hw => w_witness2)
 k_fill
 refine K54.walk (l:=PySem.Challenge.rw_stoke_k54_whole_finer_gauges) rfl rfl rfl (fun w h Y => PySem.W.kIn_of Y) ?F
 case F =>
   intro w mg h KX G
   refine' ⟨_,K54.txt_mk KX G ..⟩
   iterate 2 (all_goals try first | exact ⟨_,_,_,_,_,_,_,_,_,_,by k_is,by k_is,by k_is,by k_is,by k_is⟩ | exact ⟨_,_,_,_,_,_,_,_,_,_,by k_is,by k_is,by k_is,by k_is⟩ | ((try delta K54.kq_); (try delta K54.kc_); (try delta K54.kf_); (try delta K54.kn_); (try delta K54.kg_); first | k_is | k_exc | kernel_rfl))
