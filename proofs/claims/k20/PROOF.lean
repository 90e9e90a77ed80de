import PyProof.Rows.All
import Wide.All
import OpenK.AllK
import Wide.FinOn
import Lean
import PyProof.EqAt
import PyProof.EqKinds
import PyProof.TupleCall
import PySem.Challenge.RW_stoke_k20_walks_left
set_option compiler.extract_closed false
set_option maxHeartbeats 0
set_option Elab.async false
set_option linter.all false
set_option maxRecDepth 100000
abbrev bR:=PySem.Str->Option PySem.Value
abbrev iO:=Option PySem.Value
abbrev aU:=List PySem.Value
abbrev cM:=List PySem.Addr
abbrev bN:=List PySem.Str
abbrev cx:=List Nat
abbrev aq:=PySem.Value
abbrev ag:=PySem.Addr
abbrev aC:=PySem.W.Frag
abbrev aO:=PySem.Heap
abbrev bh:=PySem.Program
abbrev bf:=PySem.World
def Bl:=@List.length_map
def Nr:=@List.getD_eq_getElem?_getD
def OW:=@PySem.wpAny_bind
def RI:=@List.getElem?_map
def T1:=@List.mem_singleton
def Yp:=@List.getElem?_eq_some_iff
def ZB:=@PySem.Heap.get?_push_of_some
def aaa:=@List.mem_cons
def aab:=@List.map_append
def aac:=@Nat.le_refl
def aad:=@List.length_append
def aae:=@List.not_mem_nil
def aaf:=@List.getElem_mem
def aag:=@PySem.Heap.lt_size
def aah:=@Bool.false_ne_true
def aai:=@Option.some.inj
def aaj:=@List.mem_append_right
def aak:=@PySem.wpAny_pure
def aal:=@if_neg
def aam:=@Nat.lt_of_lt_of_le
def aan:=@Int.zero_add
def aao:=@List.mem_cons_of_mem
def aap:=@decide_eq_false
def aaq:=@if_pos
def aar:=@List.size_toArray
def aas:=@Nat.ne_of_lt
def aat:=@List.length_take
def aau:=@PySem.wpAny_mono
def aav:=@List.length_cons
def aaw:=@Bool.and_eq_true
def aax:=@List.mem_map
def aay:=@PySem.F.plainAttrs_list
def aaz:=@List.mem_cons_self
def aaA:=@Int.mul_right_comm
def aaC:=@decide_eq_true
def aaD:=@List.mem_append
def aaE:=@PySem.Heap.get?_push_size
def aaG:=@List.length_range
def aaH:=@PySem.PassesOwn.never
def aaI:=@PySem.F.type_list_append
def aaJ:=@PySem.F.slot_list_append
def aaK:=@List.mem_range
def aaL:=@List.getElem?_append_right
def aaM:=@List.getElem?_append_left
def aaN:=@List.map_cons
def aaO:=@List.mem_of_getElem?
def aaP:=@Int.mul_pos
def aaR:=@decide_eq_true_eq
def aaS:=@List.range_succ
def aaT:=@List.append_nil
def aaU:=@List.mem_append_left
def aaV:=@Nat.zero_le
def aaW:=@List.mem_filter
def aaX:=@or_false
def aaY:=@Nat.lt_of_le_of_lt
def aaZ:=@List.eq_nil_of_length_eq_zero
def aa0:=@Nat.testBit_and
def aa1:=@List.length_filter_le
def aa2:=@List.take_length
def aa3:=@Nat.le_trans
def aa4:=@Int.mul_assoc
def aa5:=@PySem.wpAny_holding
def aa6:=@PySem.W.mg_none_of
def aa7:=@PyProof.Rows.callWith_type1
def aa8:=@Nat.lt_irrefl
def aa9:=@List.filter_append
def aba:=@Nat.pow_le_pow_right
def abb:=@PySem.F.excBase_ValueError
def abc:=@Int.eq_of_mul_eq_mul_right
def abd:=@List.foldl_append
def abe:=@Int.toNat_natCast
def abf:=@Int.le_of_lt
def abg:=@Option.isSome_iff_exists
def abh:=@List.lookup_cons
def abi:=@Nat.eq_of_testBit_eq
def abj:=@List.getElem?_set_ne
def abk:=@beq_eq_false_iff_ne
def abn:=@PySem.mem_of_lookup
def abo:=@List.nodup_cons
def abq:=@Int.mul_lt_mul_of_pos_right
def abr:=@PySem.wpAny_truthy_bool
def abt:=@Ne.symm
def abu:=@Int.lt_of_mul_lt_mul_right
def abv:=@List.all_eq_true
def abw:=@PySem.W.mg_of
def abx:=@List.length_singleton
def aby:=@List.length_replicate
def abz:=@Int.natCast_nonneg
def abA:=@PySem.Heap.get?_update_other
def abB:=@List.take_succ
def abC:=@beq_iff_eq
def abD:=@List.getElem?_eq_getElem
def abE:=@PySem.Heap.get?_update_self
def abG:=@Bool.eq_iff_iff
def abH:=@PySem.wpAny_loadPart_at
def abI:=@Int.mul_le_mul_of_nonneg_left
def abJ:=@List.getElem?_set_self
def abK:=@congrArg
def abL:=@PySem.wpAny_standAt
def abM:=@List.length_set
def abN:=@List.length_nil
def abO:=@Int.ne_of_gt
def abP:=@Int.add_zero
def abQ:=@PySem.wpAny_Call_Name_kw
def abR:=@if_true
def abS:=@PySem.wpAny_passesOwn
def abT:=@PySem.codeAny_mono
def abU:=@decide_eq_decide
def abV:=@Nat.le_add_right
def abW:=@PySem.wpAny_pyIter_enum
def abX:=@PySem.wpAny_call
def abY:=@Nat.le_succ
def abZ:=@List.getElem?_take_of_lt
def ab0:=@Int.mul_fdiv_cancel_left
def ab1:=@Int.mul_comm
def ab2:=@PySem.F.slot_tuple_iterator_next
def ab3:=@PySem.Heap.get?_none_of_le
def ab4:=@PySem.Calls.evalArgs_plain
def ab5:=@PySem.W.looks_findIn
def ab6:=@PySem.W.kia_one
def ab7:=@Nat.not_lt_zero
def ab8:=@List.nil_append
def ab9:=@List.find?_cons
def aca:=@Bool.false_eq_true
def acb:=@PySem.wpAny_of_eq
def acd:=@Int.le_refl
def ace:=@PySem.wpAny_execs_nil
def acf:=@PySem.intBits_le_iff
def acg:=@PySem.plainObj_wpAny_Assign_Attribute
def ach:=@if_false
def aci:=@List.any_cons
def acj:=@PySem.W.callWith_K
def ack:=@List.of_mem_zip
def acl:=@List.filterMap_cons
def acm:=@PySem.codeAny_call_builtin
def acn:=@Nat.lt_trans
def aco:=@Nat.add_comm
def acp:=@List.mem_filterMap
def acq:=@List.map_map
def acr:=@List.mem_or_eq_of_mem_set
def acs:=@Int.mul_nonneg
def act:=@of_decide_eq_true
def acu:=@PySem.Within.cons
def acv:=@Nat.lt_succ_of_lt
def acw:=@Bool.not_eq_true'
def acx:=@PySem.wpAny_newFunctionEnv_cells
def acy:=@List.length_eq_zero_iff
def acz:=@List.getElem?_replicate
def acA:=@PySem.W.of_hideAll
def acB:=@Nat.succ_ne_self
def acD:=@Nat.and_le_right
def acE:=@List.cons_append
def acF:=@PySem.wpAny_dictEntries
def acG:=@not_or
def acH:=@PySem.W.Looks.ld
def acI:=@PySem.F.slot_dict_get
def acJ:=@Option.map_some
def acK:=@Nat.ne_of_gt
def acL:=@Nat.le_of_ble_eq_true
def acM:=@PySem.AutoSeq1.wpAny_loadPart'
def acN:=@Int.mul_lt_mul_right
def acO:=@PySem.W.cellsFrom_some
def acP:=@List.nodup_nil
def acQ:=@Int.natAbs_mul
def acR:=@Nat.testBit_two_pow
def acS:=@Int.toNat_of_nonneg
def acT:=@PySem.Calls.callWith_builtin
def acU:=@Array.length_toList
def acV:=@PySem.codeAny_call_function
def acW:=@PySem.W.methodCall_KW
def acX:=@List.getElem?_tail
def acY:=@List.contains_cons
def acZ:=@Int.emod_lt_of_pos
def ac0:=@PySem.SeqAt.EqAt.bool_bool
def ac1:=@List.pairwise_map
def ac2:=@List.append_assoc
def ac3:=@PySem.Around.frames_deeper
def ac4:=@PySem.wpAny_loadPart
def ac5:=@Nat.le_of_lt
def ac6:=@List.map_nil
def ac7:=@PySem.Heap.size_push
def ac8:=@Bool.or_true
def ac9:=@PySem.wpAny_isSubtype_exc
def ada:=@PySem.wpAny_field
def adb:=@PySem.sizeLine_eq
def adc:=@beq_self_eq_true
def ade:=@List.filter_cons
def adf:=@PySem.Heap.SameBut.update
def adg:=@List.mem_zipIdx_iff_getElem?
def adh:=@PySem.tupleKind_room_in1
def adi:=@PySem.W.looks_mroIn
def adj:=@PySem.W.looks_clsIn
def adk:=@PySem.Paired.length
def adl:=@Nat.two_pow_add_eq_or_of_lt
def adm:=@Int.emod_nonneg
def adn:=@PySem.Code.quiet_builtin
def ado:=@PySem.Calls.spliced_cons
def adp:=@Int.fdiv_eq_ediv_of_nonneg
def adq:=@PySem.wpAny_newObj_type
def adr:=@Nat.testBit_or
def ads:=@Nat.lt_pow_two_of_testBit
def adt:=@Bool.not_false
def adu:=@Bool.false_and
def adv:=@PySem.wpAny_lookBehind
def adw:=@PySem.wpAny_execs_cons
def adx:=@PySem.pastItsLine_dict
def ady:=@PySem.F.slot_list_index
def adz:=@PySem.F.slot_list_count
def adA:=@PySem.F.args_dict_get_3
def adB:=@Nat.add_sub_cancel_left
def adC:=@Int.eq_ofNat_of_zero_le
def adD:=@Bool.not_true
def adE:=@PySem.F.entry_dict_get
def adF:=@Option.map_eq_some_iff
def adG:=@Nat.le_of_succ_le_succ
def adH:=@List.pairwise_lt_range
def adI:=@List.filter_eq_nil_iff
def adJ:=@PySem.F.args_tuple_iterator_next_1
def adK:=@PySem.wpAny_specialOf
def adL:=@PySem.F.entry_bexc_ga
def adM:=@Nat.pow_succ
def adN:=@List.map_set
def adO:=@List.getElem?_zipWith
def adP:=@List.getElem?_toArray
def adQ:=@Int.natAbs_dvd_natAbs
def adR:=@Int.le_trans
def adS:=@PySem.F.entry_tuple_iterator_next
def adT:=@PySem.wpAny_letOwnedTupleGo_enum
def adU:=@PySem.F.args_bexc_ga
def adV:=@List.pairwise_append
def adW:=@PySem.Calls.Name_function_global
def adX:=@PySem.wpAny_setField
def adY:=@PySem.W.hideAll_none
def adZ:=@Nat.mul_one
def ad0:=@List.replicate_succ
def ad1:=@List.getElem_of_mem
def ad2:=@Int.mul_neg
def ad3:=@true_and
def ad4:=@of_decide_eq_false
def ad5:=@PySem.W.any_some
def ad6:=@List.pairwise_cons
def ad7:=@Array.find?_toList
def ad8:=@Array.append_assoc
def ad9:=@List.getElem?_eq_some_iff
theorem za_ (h:True:=by rfl):True:=⟨⟩
theorem zb_ (h:True:=by decide):True:=⟨⟩
theorem zc_ (h:True:=by decide +kernel):True:=⟨⟩
theorem zd_ (h:True:=by first|exact .inl rfl|exact .inr rfl|assumption):True:=⟨⟩
theorem ze_ (h:True:=by with_unfolding_all rfl):True:=⟨⟩
namespace L2
open PySem PySem.Spec PyProof.Rows
variable {H:Hp} {Q:VK} {es:List Expr} {g:TG} {i t':Nat} {lo:Int} {o u:HO} {qual:Str} {s':Shared} {tb:TS} {te:TE} {tg:Expr} {v:V} {U:St}
abbrev Key:=Sum Int Str
def uw:Key->aq->Bool
 | .inl k,v=>Value.isInt k v
 | .inr x,v=>Value.isStrOf x v
def Ug (w:bf):Key->Int
 | .inl k=>hashInt k
 | .inr x=>hashStr w x
def c9:∀ {k:Key} {v:aq},uw k v=true->(∃ i t,k=Sum.inl i/\v=Value.int i t)\/(∃ x t,k=Sum.inr x/\v=Value.str x t)
 | .inl i,v,h=>by
   obtain ⟨t,e⟩:=Value.isInt_shape (k:=i) (v:=v) h
   exact .inl ⟨i,t,rfl,e⟩
 | .inr x,v,h=>by
   obtain ⟨t,e⟩:=Value.isStrOf_shape (x:=x) (v:=v) h
   exact .inr ⟨x,t,rfl,e⟩
def DK (i:Int) (t:Tok):uw (.inl i) (.int i t)=true:=by simp [uw,Value.isInt]
def Eh (x:Str) (t:Tok):uw (.inr x) (.str x t)=true:=by simp [uw,Value.isStrOf]
def Ll (a b:Int):decide ((Sum.inl a:Key)=Sum.inl b)=(a == b):=by
 by_cases e:a=b
 . subst e;simp
 . have h:¬ (Sum.inl a:Key)=Sum.inl b:=λ q=>e (Sum.inl.inj q)
   rw [aap h]
   exact (abk.mpr e).symm
def LQ (a b:Str):decide ((Sum.inr a:Key)=Sum.inr b)=decide (a=b):=by
 by_cases e:a=b
 . subst e;simp
 . have h:¬ (Sum.inr a:Key)=Sum.inr b:=λ q=>e (Sum.inr.inj q)
   rw [aap h,aap e]
def KZ (a:Int) (b:Str):decide ((Sum.inl a:Key)=Sum.inr b)=false:=aap (λ q=>nomatch q)
def MW (a:Str) (b:Int):decide ((Sum.inr a:Key)=Sum.inl b)=false:=aap (λ q=>nomatch q)
def cy (prog:bh) (w:bf):PySem.KeyKind prog w Key where
 is:=uw
 hash:=Ug w
 inj:=λ v a b d c=>by
   rcases c9 d with ⟨i,t,rfl,rfl⟩|⟨x,t,rfl,rfl⟩
   . rcases c9 c with ⟨j,u,rfl,e⟩|⟨y,u,rfl,e⟩
     . injection e with e1 _;rw [e1]
     . exact nomatch e
   . rcases c9 c with ⟨j,u,rfl,e⟩|⟨y,u,rfl,e⟩
     . exact nomatch e
     . injection e with e1 _;rw [e1]
 byValue:=λ k v h=>by
   rcases c9 h with ⟨i,t,rfl,rfl⟩|⟨x,t,rfl,rfl⟩<;>rfl
 pyHash:=λ H h=>by
   rcases c9 H with ⟨i,t,rfl,rfl⟩|⟨x,t,rfl,rfl⟩
   . exact wpAny_pyHash_int h
   . exact wpAny_pyHash_str h
 eqBool:=λ f H h=>by
   rcases c9 f with ⟨i,t,rfl,rfl⟩|⟨x,t,rfl,rfl⟩
   . rcases c9 H with ⟨j,u,rfl,rfl⟩|⟨y,u,rfl,rfl⟩
     . rw [Ll] at h;exact wpAny_eqBool_int h
     . rw [KZ] at h;exact SeqAt.EqAt.int_str i t y u _ _ _ _ h
   . rcases c9 H with ⟨j,u,rfl,rfl⟩|⟨y,u,rfl,rfl⟩
     . rw [MW] at h;exact SeqAt.EqAt.str_int x t j u _ _ _ _ h
     . rw [LQ] at h;exact wpAny_eqBool_str h
 «strs»:=λ k x t v h=>by
   rcases c9 h with ⟨i,u,rfl,e⟩|⟨y,u,rfl,e⟩
   . exact nomatch e
   . injection e with e1 _
     subst e1
     cases v<;>rfl
def yt (prog:bh) (w:bf) (i:Int) (t:Tok):(cy prog w).is (.inl i) (.int i t)=true:=DK i t
def yD (prog:bh) (w:bf) (x:Str) (t:Tok):(cy prog w).is (.inr x) (.str x t)=true:=Eh x t
inductive V where
 | bL|bl (b:Bool)|int (i:Int)|str (x:Str)|Ds (b:Array UInt8)|Kz (b:UInt64)|ref (a:ag)|ty (n:String)
 deriving DecidableEq
abbrev aA:=List V
abbrev fH:=Option V
def RelV:V->aq->Prop
 | .bL,u=>u=Value.none
 | .bl b,u=>u=Value.bool b
 | .int i,u=>∃ t,u=Value.int i t
 | .str x,u=>∃ t,u=Value.str x t
 | .Ds b,u=>∃ t,u=Value.bytes b t
 | .Kz b,u=>∃ t,u=Value.float b t
 | .ref a,u=>u=Value.ref a
 | .ty n,u=>u=Value.type n
abbrev Vals:aA->aU->Prop:=Paired RelV
theorem Vals.length {xs:aA} {us:aU} (r:Vals xs us):xs.length=us.length:=adk r
theorem Vals.get:∀ {xs:aA} {us:aU} {i:Nat} {x:V},Vals xs us->xs[i]?=some x->∃ u,us[i]?=some u/\RelV x u
 | _,_,_,_,.nil,e=>by simp at e
 | _,_,0,_,.cons r _,e=>by simp at e;subst e;exact ⟨_,rfl,r⟩
 | _,_,i+1,x,.cons _ t,e=>by
   obtain ⟨u,h,H⟩:=Vals.get (i:=i) (x:=x) t (by simpa using e)
   exact ⟨u,by simpa using h,H⟩
theorem Vals.set {x:V} {u:aq} (r:RelV x u):∀ {xs:aA} {us:aU} (i:Nat),Vals xs us->Vals (xs.set i x) (us.set i u)
 | _,_,_,.nil => .nil
 | _,_,0,.cons _ t => .cons r t
 | _,_,i+1,.cons q t => .cons q (Vals.set r i t)
theorem Vals.append:∀ {xs ys:aA} {us w:aU},Vals xs us->Vals ys w->Vals (xs++ys) (us++w)
 | _,_,_,_,.nil,s=>s
 | _,_,_,_,.cons r t,s => .cons r (Vals.append t s)
theorem Vals.take:∀ {xs:aA} {us:aU} (n:Nat),Vals xs us->Vals (xs.take n) (us.take n)
 | _,_,0,_ => .nil
 | _,_,_+1,.nil => .nil
 | _,_,n+1,.cons r t => .cons r (Vals.take n t)
theorem Vals.drop:∀ {xs:aA} {us:aU} (n:Nat),Vals xs us->Vals (xs.drop n) (us.drop n)
 | _,_,0,r=>r
 | _,_,_+1,.nil => .nil
 | _,_,n+1,.cons _ t=>Vals.drop n t
def jj:fH->iO->Prop
 | some v,some u=>RelV v u
 | none,none=>True
 | _,_=>False
def KV {a:Type}:List (a×V)->List (a×aq)->Prop:=Paired λ (p:a×V) (q:a×aq)=>p.1=q.1/\RelV p.2 q.2
def kV:Key->V
 | .inl i => .int i
 | .inr x => .str x
inductive HO where
 | lst (xs:aA)
 | tup (xs:aA)
 | dK (aK:List (Key×V))|dT (aK:List (List Key×V))
 | set (S:Int->Bool) (n:Nat)
 | ins (C dx:ag) (fs:List (Str×V))
 | own (x:ag)
 | xd (fs:List (Str×V))
 | met (f x:ag)
 | QH (lo hi:Int)
 | yz (o:Obj) (u:HO)
 | IC (ps:Array aq)
 | ext (φ:aO->Prop)
abbrev Hp:=ag->Option HO
def upd (H:Hp) (a:ag) (o:HO):Hp:=λ b=>if b=a then some o else H b
def ai {a:ag}:upd H a o a=some o:=by unfold upd;rw [aaq rfl]
def aG {a b:ag} (h:b≠a):upd H a o b=H b:=by unfold upd;rw [aal h]
def Cv {a:ag}:upd (upd H a o) a u=upd H a u:=by
 funext b;unfold upd;split<;>rfl
def QF {a b:ag} (h:H a=some o) (h':H b=some u) (d:o≠u):a≠b:=by
 intro e;subst e;rw [h] at h';exact d (aai h')
def aD {a b:ag} (h:H a=some o) (h':H b=none):a≠b:=by
 intro e;subst e;rw [h] at h';cases h'
section
variable (P:bh) (w:bf)
def c5 (H:Hp) (h:aO) (a:ag):HO->Prop
 | .lst xs=>xs.length<=sizeLine/\∃ (b:aU) (n:Nat),Vals xs b/\h.get? a=some { cls:=.type "list",data:=.seq b.toArray n }
 | .tup xs=>xs.length<=sizeLine/\∃ b:aU,Vals xs b/\IsTup h a b.toArray
 | .dK A=>A.length<=sizeLine/\(a == sysModules)=false/\∃ vs,KV A vs/\h.DictOf (cy P w) a vs
 | .dT A=>A.length<=sizeLine/\(a == sysModules)=false/\∃ xs:List (List Key×ag×aq),
     Paired (λ (p:List Key×V) (q:List Key×ag×aq)=>p.1=q.1/\H q.2.1=some (.tup (p.1.map kV))/\RelV p.2 q.2.2) A xs /\
     ∃ o es E,h.get? a=some o/\o.ExactDict/\o.data = .dict es E/\es.toList=xs.map (entryOfKey (tupleKind (cy P w)))/\(xs.map (·.1)).Nodup
 | .set S n=>h.SetOf (intKind P w) a S n
 | .ins C d F=>H d=some (.own a)/\F.length<=1000/\d≠a/\h.get? a=some (W.instObj C d) /\
     ∃ m,h.Ns1 d m/\(∀ f,jj (F.lookup f) (m f))/\PySem.Within m (F.map (·.1))
 | .own _=>∃ o,h.get? a=some o
 | .xd F=>∃ m,h.Ns1 a m/\∀ f,jj (F.lookup f) (m f)
 | .QH lo i=>∃ t u v,h.get? a=some { cls:=.type "range",data:=.fields #[.int lo t,.int i u,.int 1 v]}
 | .yz o u=>h.get? a=some o/\c5 H h a u
 | .IC j=>h.get? a=some { cls:=.none,data:=.fields j }
 | .met f x=>h.get? a=some (W.methodObj (.ref f) (.ref x))
 | .ext c=>c h/\(∃ o,h.get? a=some o)/\∀ e g:aO,c e->(∀ o,e.get? a=some o->g.get? a=some o)->c g
def jz (H:Hp) (h:aO):Prop:=∀ a o,H a=some o->c5 P w H h a o
end
section
variable {P:bh} {w:bf} {H H':Hp} {h h':aO} {a:ag} {o:HO}
theorem c5.lt (x:c5 P w H h a o):a<h.objs.size:=by
 cases o with
 | lst X=>obtain ⟨Z,Z,Z,Z,e⟩:=x;exact aag e
 | tup X=>obtain ⟨Z,Z,Z,p⟩:=x;exact p.lt
 | dK A=>obtain ⟨Z,Z,Z,Z,o,Z,Z,e,Z⟩:=x;exact aag e
 | dT A=>obtain ⟨Z,Z,Z,Z,o,Z,Z,e,Z⟩:=x;exact aag e
 | set S n=>obtain ⟨o,Z,Z,Z,e,Z⟩:=x;exact aag e
 | ins C d F=>obtain ⟨Z,Z,Z,e,Z⟩:=x;exact aag e
 | own y=>obtain ⟨Z,e⟩:=x;exact aag e
 | xd F=>obtain ⟨Z,⟨Z,Z,Z,e,Z⟩,Z⟩:=x;exact aag e
 | QH lo b=>obtain ⟨Z,Z,Z,e⟩:=x;exact aag e
 | yz O u=>obtain ⟨e,Z⟩:=x;exact aag e
 | IC c=>exact aag (show h.get? a=some _ from x)
 | met f y=>exact aag (show h.get? a=some _ from x)
 | ext g=>obtain ⟨Z,⟨Z,e⟩,Z⟩:=x;exact aag e
theorem Paired.Mw {c d:Type} {F G:c->d->Prop}:∀ {l:List c} {L:List d},Paired F l L->(∀ a b,F a b->G a b)->Paired G l L
 | _,_,.nil,_ => .nil
 | _,_,.cons r t,f => .cons (f _ _ r) (Paired.Mw t f)
def c5.gE (x:c5 P w H h a o) (k:∀ b u,(b=a\/H b=some (.own a))->h.get? b=some u->h'.get? b=some u) (l:∀ b,H b=some (.own a)->H' b=some (.own a)) (D:∀ b xs,H b=some (.tup xs)->H' b=some (.tup xs)):c5 P w H' h' a o:=by
 induction o with
 | lst xs=>obtain ⟨z,B,n,r,e⟩:=x;exact ⟨z,B,n,r,k _ _ (.inl rfl) e⟩
 | tup xs=>obtain ⟨z,B,r,O,e,c⟩:=x;exact ⟨z,B,r,O,k _ _ (.inl rfl) e,c⟩
 | dK A=>obtain ⟨z,y,V,r,O,es,E,e,c⟩:=x;exact ⟨z,y,V,r,O,es,E,k _ _ (.inl rfl) e,c⟩
 | dT A =>
   obtain ⟨z,y,xs,r,O,es,E,e,c⟩:=x
   exact ⟨z,y,xs,Paired.Mw r λ p q z=>⟨z.1,D _ _ z.2.1,z.2.2⟩,O,es,E,k _ _ (.inl rfl) e,c⟩
 | set S n=>obtain ⟨O,es,E,t,e,c⟩:=x;exact ⟨O,es,E,t,k _ _ (.inl rfl) e,c⟩
 | ins C G F =>
   obtain ⟨d,z,N,e,m,⟨g,es,E,j,c⟩,r⟩:=x
   exact ⟨l _ d,z,N,k _ _ (.inl rfl) e,m,⟨g,es,E,k _ _ (.inr d) j,c⟩,r⟩
 | own y=>obtain ⟨O,e⟩:=x;exact ⟨O,k _ _ (.inl rfl) e⟩
 | xd F=>obtain ⟨m,⟨g,es,E,e,c⟩,r⟩:=x;exact ⟨m,⟨g,es,E,k _ _ (.inl rfl) e,c⟩,r⟩
 | QH lo J=>obtain ⟨t,u,v,e⟩:=x;exact ⟨t,u,v,k _ _ (.inl rfl) e⟩
 | yz O u I=>obtain ⟨e,q⟩:=x;exact ⟨k _ _ (.inl rfl) e,I q⟩
 | IC i =>
   have e:h.get? a=some { cls:=.none,data:=.fields i }:=x
   show h'.get? a=some { cls:=.none,data:=.fields i }
   exact k a _ (.inl rfl) e
 | met f y =>
   have e:h.get? a=some (W.methodObj (.ref f) (.ref y)):=x
   show h'.get? a=some (W.methodObj (.ref f) (.ref y))
   exact k a _ (.inl rfl) e
 | ext K=>obtain ⟨p,⟨o,e⟩,s⟩:=x;exact ⟨s _ _ p λ o q=>k _ _ (.inl rfl) q,⟨o,k _ _ (.inl rfl) e⟩,s⟩
theorem jz.lt (x:jz P w H h) (e:H a=some o):a<h.objs.size:=(x a o e).lt
def jz.fresh (x:jz P w H h) (e:h.objs.size<=a):H a=none:=by
 cases q:H a with
 | none=>rfl
 | some u=>exact absurd (aam (x.lt q) e) (aa8 _)
def jz.kept (x:jz P w H h) (k:∀ b u,h.get? b=some u->h'.get? b=some u):jz P w H h':=λ a o e =>
 (x a o e).gE (λ b u Z q=>k b u q) (λ Z q=>q) λ Z Z q=>q
def jz.laid (x:jz P w H h) (k:∀ b u,h.get? b=some u->h'.get? b=some u) (g:h.objs.size<=a) (n:c5 P w (upd H a o) h' a o):jz P w (upd H a o) h':=λ b u e=>by
 have f:=x.fresh g
 by_cases d:b=a
 . subst d;rw [ai] at e;cases e;exact n
 . rw [aG d] at e
   exact (x b u e).gE (λ c v Z q=>k c v q) (λ c q=>by rw [aG (aD q f)];exact q) λ c X q=>by rw [aG (aD q f)];exact q
end
def Rd (H:Hp) (a:ag) (u:HO):Prop:=H a=some u\/∃ o,H a=some (.yz o u)
def Rd.ok {P:bh} {w:bf} {h:aO} {a:ag} (r:Rd H a u) (x:jz P w H h):c5 P w H h a u:=by
 rcases r with r|⟨o,r⟩
 . exact x a u r
 . obtain ⟨Z,q⟩:=x a _ r
   exact q
def P0:Option HO->Prop
 | some (.lst _)=>True
 | some (.dK _)=>True
 | some (.dT _)=>True
 | some (.set _ _)=>True
 | some (.ins _ _ _)=>True
 | some (.ext _)=>True
 | _=>False
section
variable {P:bh} {w:bf} {H:Hp} {h h':aO} {x e:ag} {o':HO}
def jz.write (ok:jz P w H h) (m:P0 (H x)) (f:e=x\/H e=some (.own x)) (k:∀ b u,b≠e->h.get? b=some u->h'.get? b=some u) (C:∃ u,h'.get? e=some u) (n:c5 P w (upd H x o') h' x o'):jz P w (upd H x o') h':=λ b u q=>by
 have p:∀ c y,H c=some (.own y)->c≠x:=λ c y r z=>by subst z;rw [r] at m;exact m
 have T:∀ c X,H c=some (.tup X)->c≠x:=λ c X r z=>by subst z;rw [r] at m;exact m
 by_cases a:b=x
 . subst a;rw [ai] at q;cases q;exact n
 .
  rw [aG a] at q
  by_cases L:b=e
  .
   have Q:H b=some (.own x):=by
     rcases f with z|z
     . exact absurd (L.trans z) a
     . rw [L];exact z
   rw [q] at Q;cases Q
   obtain ⟨v,g⟩:=C
   exact ⟨v,by rw [L];exact g⟩
  .
   refine (ok b u q).gE (λ c v d r=>k c v ?_ r) (λ c r=>by rw [aG (p c b r)];exact r) λ c X r=>by rw [aG (T c X r)];exact r
   rcases d with rfl|d
   . exact L
   . rintro rfl
     rcases f with z|z
     . exact p c b d z
     . rw [d] at z;cases z;exact a rfl
end
structure Un (fs ex:cM) (H H':Hp) (h h':aO):Prop where
 keep:∀ b o,h.get? b=some o->H b=none->b∉fs->b∉ex->h'.get? b=some o
 slot:∀ b o,h.get? b=some o->H b=none->b∈fs->b∉ex->∃ sl,h'.get? b=some { o with slots:=sl }
 free:∀ b o,h.get? b=some o->H b=none->b∉ex->H' b=none
 there:∀ b o,h.get? b=some o->b∉ex->∃ o',h'.get? b=some o'
 mX:∀ b xs,H b=some (.tup xs)->H' b=some (.tup xs)
 mO:∀ b o u,H b=some (.yz o u)->H' b=some (.yz o u)
 nu:∀ b ps,H b=some (.IC ps)->∃ more,H' b=some (.IC (ps++more))
section
variable {fs ex:cM} {H H1:Hp} {h h1 h':aO} {a x e:ag} {o:HO}
def Un.any (u:Un fs ex H H1 h h1) {b:ag} {o:Obj} (q:h.get? b=some o) (n:H b=none) (c:b∉ex):∃ sl,h1.get? b=some { o with slots:=sl }:=by
 by_cases a:b∈fs
 . exact u.slot b o q n a c
 . exact ⟨o.slots,u.keep b o q n a c⟩
def Un.kept (k:∀ b u,h.get? b=some u->h'.get? b=some u):Un fs ex H H h h' :=
 ⟨λ b o q Z Z Z=>k b o q,λ b o q Z Z Z=>⟨o.slots,k b o q⟩,λ Z Z Z n Z=>n,λ b o q Z=>⟨o,k b o q⟩,λ Z Z q=>q,λ Z Z Z q=>q,λ Z p q=>⟨#[],by rw [q];simp⟩⟩
def Un.refl:Un fs ex H H h h:=Un.kept λ Z Z q=>q
def Un.laid (k:∀ b u,h.get? b=some u->h'.get? b=some u) (d:h.objs.size<=a) (c:H a=none):Un fs ex H (upd H a o) h h' where
 keep:=λ b u q Z Z Z=>k b u q
 slot:=λ b u q Z Z Z=>⟨u.slots,k b u q⟩
 free:=λ b u q n Z=>by rw [aG (aas (aam (aag q) d))];exact n
 there:=λ b u q Z=>⟨u,k b u q⟩
 mX:=λ b x q=>by rw [aG (aD q c)];exact q
 mO:=λ b u x q=>by rw [aG (aD q c)];exact q
 nu:=λ b p q=>⟨#[],by rw [aG (aD q c),q];simp⟩
def Un.write (m:P0 (H x)) (f:e=x\/H e=some (.own x)) (k:∀ b u,b≠e->h.get? b=some u->h'.get? b=some u) (C:∃ u,h'.get? e=some u):Un fs ex H (upd H x o) h h':=by
 have d:∀ b,H b=none->b≠x:=λ b n z=>by subst z;rw [n] at m;exact m
 have c:∀ b,H b=none->b≠e:=λ b n z=>by
   subst z
   rcases f with r|r
   . exact d b n r
   . rw [n] at r;cases r
 have a:∀ b u,H b=some u->¬ P0 (some u)->b≠x:=λ b u q N z=>by subst z;rw [q] at m;exact N m
 refine ⟨λ b u q n Z Z=>k b u (c b n) q,λ b u q n Z Z=>⟨u.slots,k b u (c b n) q⟩,λ b u q n Z=>by rw [aG (d b n)];exact n,λ b u q Z=>?_,
   λ b X q=>by rw [aG (a b _ q λ z=>z)];exact q,λ b u X q=>by rw [aG (a b _ q λ z=>z)];exact q,λ b p q=>⟨#[],by rw [aG (a b _ q λ z=>z),q];simp⟩⟩
 by_cases L:b=e
 . subst L;exact C
 . exact ⟨u,k b u L q⟩
end
def Rs (h:aO) (H:Hp):cM:=(List.range h.objs.size).filter λ a=>(H a).isSome
def uT (h:aO) (H:Hp):aO:=W.hideAll h (Rs h H)
def DQ (h:aO) (H:Hp):(uT h H).objs.size=h.objs.size:=W.hideAll_size _ _
def ES {h:aO} {b:ag} {o:Obj} (e:h.get? b=some o) (n:H b=none):(uT h H).get? b=some o :=
 W.hideAll_get _ e λ a=>by
   have q:(H b).isSome=true:=(aaW.mp a).2
   rw [n] at q;simp at q
def IK {h:aO} {b:ag} {o:Obj} (e:(uT h H).get? b=some o):h.get? b=some o/\H b=none:=by
 have E:h.get? b=some o:=acA (Rs h H) e
 refine ⟨E,?_⟩
 cases q:H b with
 | none=>rfl
 | some x =>
   have a:b∈Rs h H:=aaW.mpr ⟨aaK.mpr (aag E),by simp [q]⟩
   have z:(uT h H).get? b=none:=adY (Rs h H) a
   rw [z] at e;cases e
def Jl (g h:aO) (L:ag):List (ag×Obj):=(List.range h.objs.size).filterMap λ a=>if a=L\/(g.get? a).isSome=true then none else (h.get? a).map λ o=>(a,o)
def rest (g h:aO) (L d:ag):List (ag×Obj):=(Jl g h L).filter λ p=>decide (p.1≠d)
structure Mod (K:aC) (mg:bR) (base:aO):Prop where
 Bu:K.In base
 glob:base.Ns mainGlobals mg
 blt:∃ mb,base.Ns builtinsNs mb/\∀ x:Str,x ≠ "__name__"->mb x=bootBuiltins x
 nolimit:base.NoLimit
structure Cx where
 prog:bh
 w:bf
 K:aC
 mg:bR
 base:aO
 A:Around
 N:bN
 s₀:Shared
 H₀:Hp
 env:Env
 outer:List Env
 stack:List Env
 ex:cM
 fn:Str->Bool
 calm:Bool
 pn:List (ag×Obj)
 xe:aq->Shared->Prop
abbrev zu (X:Cx) (e:Expr) (es:List Expr):Prop:=starEach (e::es) X.env=(false,eval e X.env)::starEach es X.env
abbrev wP (X:Cx) (es:List Expr) (pos:Pos):Prop:=(backTo pos (starEach es X.env)).any (·.1)=false
abbrev Rg (X:Cx) (x:Str):Prop:=X.fn x=true\/X.env.scope.names.lookup x=some .local
abbrev wO (x:Str):Prop:=(x == ("__debug__" : Str))=false
def f8 (l:List Env):cM:=l.filterMap (·.frame)
abbrev Cx.fs (X:Cx):cM:=f8 X.outer
def Q2 (s:Scope) (x:Str):Prop:=s.names.lookup x=some .local\/s.names.lookup x=some .cell\/s.names.lookup x=some .free
def Loc (s:Scope) (x:Str):Prop:=s.names.lookup x=some .local\/s.names.lookup x=some .cell
def Look (env:Env) (h:aO) (m:bR) (x:Str) (u:aq):Prop :=
 (env.kindOf x=some .local/\m x=some u)\/((env.kindOf x=some .cell\/env.kindOf x=some .free)/\∃ c,env.cells.lookup x=some c/\h.IsCell c (some u))
structure Cx.Ok (X:Cx):Prop where
 mod:Mod X.K X.mg X.base
 kind:X.env.scope.kind = .function
 glob:X.env.globals=mainGlobals
 blt:X.env.builtins=builtinsNs
 above:X.s₀.heap.objs.size<=X.env.locals
 inj:∀ x y c,X.env.cells.lookup x=some c->X.env.cells.lookup y=some c->x=y
 has:∀ x,(X.env.kindOf x=some .cell\/X.env.kindOf x=some .free)->∃ c,X.env.cells.lookup x=some c
 Kl:∀ x c,X.fn x=true->X.env.cells.lookup x=some c->X.s₀.heap.objs.size<=c
 hd:X.calm=true->X.A.handled=none
 frames:X.A.frames=some X.stack
 Kq:X.stack=X.outer\/(X.stack=X.env::X.outer/\X.env.frame=some X.env.locals)
 QO:∀ b∈X.ex,b≠X.env.locals/\∀ x c,X.env.cells.lookup x=some c->c≠b
 bs:∀ b o,X.base.get? b=some o->X.s₀.heap.get? b=some o/\X.H₀ b=none
 CP:X.base.objs.size<=X.s₀.heap.objs.size
 yf:∀ b o,X.base.get? b=some o->b∉X.ex
 AR:∀ b∈X.ex,b∉X.fs
 jq:X.s₀.heap.FunFrames X.base X.outer
 BH:∀ b∈X.fs,X.H₀ b=none
structure Inv (X:Cx) (pins:List (ag×Obj)) (U:List (fH)) (H:Hp) (s:Shared):Prop where
 ok:X.Ok
 os:s.os=X.s₀.os
 bare:AllBare s.gens
 base:Un X.fs X.ex X.H₀ H X.s₀.heap s.heap
 loc:∃ m,s.heap.Ns X.env.locals m/\∀ (i:Nat) (x:Str) (v:V),X.N[i]?=some x->U[i]?=some (some v)->Q2 X.env.scope x->∃ u,RelV v u/\Look X.env s.heap m x u
 cell:∀ x c,X.env.cells.lookup x=some c->∃ v,s.heap.IsCell c v
 free:H X.env.locals=none
 iu:∀ x c,X.env.cells.lookup x=some c->H c=none
 pin:∀ p∈X.pn++pins,s.heap.get? p.1=some p.2/\H p.1=none/\p.1≠X.env.locals/\p.1∉X.fs/\∀ v,p.2.data ≠ .cell v
 ck:jz X.prog X.w H s.heap
 len:U.length=X.N.length
section
variable {X:Cx} {pins:List (ag×Obj)} {U:List (fH)} {H H':Hp} {s:Shared} {h':aO}
def Cx.Ok.mD (ok:X.Ok) {b:ag} {o:Obj} (e:X.base.get? b=some o):b∉X.fs:=λ h=>by
 have:=(ok.jq.mem h).1
 rw [e] at this;cases this
theorem Inv.bs (I:Inv X pins U H s):∀ b o,X.base.get? b=some o->s.heap.get? b=some o/\H b=none:=λ b o e =>
 ⟨I.base.keep b o (I.ok.bs b o e).1 (I.ok.bs b o e).2 (I.ok.mD e) (I.ok.yf b o e),I.base.free b o (I.ok.bs b o e).1 (I.ok.bs b o e).2 (I.ok.yf b o e)⟩
def Inv.bk (I:Inv X pins U H s):∀ b o,X.base.get? b=some o->s.heap.get? b=some o:=λ b o e=>(I.bs b o e).1
theorem Inv.mod (I:Inv X pins U H s):Mod X.K X.mg X.base:=I.ok.mod
def Inv.jy (I:Inv X pins U H s):X.K.In s.heap:=I.ok.mod.Bu.keeps I.bk
theorem Inv.lt (I:Inv X pins U H s):X.env.locals<s.heap.objs.size:=let ⟨_,h,_⟩:=I.loc;h.lt
def Inv.sz (I:Inv X pins U H s):X.s₀.heap.objs.size<=s.heap.objs.size:=aa3 I.ok.above (ac5 I.lt)
def Inv.UM (I:Inv X pins U H s) {a:ag} (h:s.heap.objs.size<=a):a∉X.fs:=λ b=>by
 obtain ⟨Z,o,c,Z⟩:=I.ok.jq.mem b
 exact absurd (aam (aag c) (aa3 I.sz h)) (aa8 _)
def Inv.Fy (I:Inv X pins U H s):∀ x c,X.env.cells.lookup x=some c->c≠X.env.locals:=λ x c e z=>by
 obtain ⟨v,o,a,h⟩:=I.cell x c e
 obtain ⟨m,⟨O,es,b,V,E,Z⟩,Z⟩:=I.loc
 rw [z,V] at a;cases a;rw [E] at h;cases h
theorem Inv.jq (I:Inv X pins U H s):s.heap.FunFrames X.base X.outer:=by
 have all:∀ (l:List Env),(∀ b∈f8 l,b∈X.fs)->X.s₀.heap.FunFrames X.base l->s.heap.FunFrames X.base l:=by
   intro l
   induction l with
   | nil=>intro Z Z;trivial
   | cons env r n =>
     intro d i
     obtain ⟨g,⟨L,o,c,j,k,f⟩,m⟩:=i
     have h:L∈X.fs:=d L (by unfold f8;rw [acl,c];exact aaz)
     obtain ⟨sl,e⟩:=I.base.slot L o k (I.ok.BH L h) h λ z=>I.ok.AR L z h
     exact ⟨g,⟨L,_,c,j,e,f⟩,n (λ b a=>d b (by unfold f8;rw [acl,c];exact aao _ a)) m⟩
 exact all X.outer (λ Z a=>a) I.ok.jq
theorem Inv.stack (I:Inv X pins U H s):s.heap.FunFrames X.base X.stack:=by
 rcases I.ok.Kq with e|⟨e,h⟩
 . rw [e];exact I.jq
 .
  rw [e]
  obtain ⟨m,a,Z⟩:=I.loc
  refine .cons (by rw [I.ok.kind];decide) h a ?_ I.jq
  exact ab3 (aa3 I.ok.CP I.ok.above)
def Inv.Bn (I:Inv X pins U H s):∀ b∈f8 X.stack,b∈X.env.locals::X.fs:=λ b h=>by
 rcases I.ok.Kq with e|⟨e,a⟩
 . rw [e] at h;exact aao _ h
 .
  rw [e] at h
  unfold f8 at h
  rw [acl,a] at h
  exact h
def Inv.nY (I:Inv X pins U H s):∀ b∈f8 X.stack,H b=none:=λ b h=>by
 rcases aaa.mp (I.Bn b h) with e|h
 . rw [e];exact I.free
 . obtain ⟨Z,o,a,Z⟩:=I.ok.jq.mem h
   exact I.base.free b o a (I.ok.BH b h) λ z=>I.ok.AR b z h
def Inv.step {g':Array GenState} {t':Nat} {d':Drawn} {ch:cM} (I:Inv X pins U H s) (B:∀ b∈ch,(b∈X.ex\/X.s₀.heap.objs.size<=b)/\b≠X.env.locals/\(∀ x c,X.env.cells.lookup x=some c->c≠b)/\∀ p∈X.pn++pins,p.1≠b) (K:∀ b o,b≠X.env.locals->b∉X.fs->b∉ch->s.heap.get? b=some o->H b=none->h'.get? b=some o) (S:∀ b o,b≠X.env.locals->b∈X.fs->b∉ch->s.heap.get? b=some o->H b=none->∃ sl,h'.get? b=some { o with slots:=sl }) (f:∀ b o,b∉ch->s.heap.get? b=some o->H b=none->H' b=none) (t:∀ b o,b∉ch->s.heap.get? b=some o->∃ y,h'.get? b=some y) (mX:∀ b xs,H b=some (.tup xs)->H' b=some (.tup xs)) (mO:∀ b o u,H b=some (.yz o u)->H' b=some (.yz o u)) (nu:∀ b A,H b=some (.IC A)->∃ M,H' b=some (.IC (A++M))) (ns:∀ m,s.heap.Ns X.env.locals m->h'.Ns X.env.locals m) (L:jz X.prog X.w H' h') (T:AllBare g') :
   Inv X pins U H' { s with heap:=h',gens:=g',drawn:=d',toks:=t' }:=by
 have F:∀ b o,X.s₀.heap.get? b=some o->b≠X.env.locals:=λ b o e=>aas (aam (aag e) I.ok.above)
 have Q:∀ b o,X.s₀.heap.get? b=some o->b∉X.ex->b∉ch:=λ b o e h a=>by
   rcases (B b a).1 with z|z
   . exact h z
   . exact absurd (aam (aag e) z) (aa8 _)
 have C:∀ x c,X.env.cells.lookup x=some c->∀ v,s.heap.IsCell c v->h'.IsCell c v:=λ x c e v ⟨o,g,D⟩=>by
   have O:c∉ch:=λ z=>(B c z).2.2.1 x c e rfl
   by_cases G:c∈X.fs
   . obtain ⟨sl,q⟩:=S c o (I.Fy x c e) G O g (I.iu x c e)
     exact ⟨_,q,D⟩
   . exact ⟨o,K c o (I.Fy x c e) G O g (I.iu x c e),D⟩
 refine ⟨I.ok,I.os,T,⟨λ b o e n a h=>?_,λ b o e n a h=>?_,λ b o e n h=>?_,λ b o e h=>?_,λ b xs e=>mX b xs (I.base.mX b xs e),λ b o xs e=>mO b o xs (I.base.mO b o xs e),λ b A e=>?_⟩,?_,λ x c e=>?_,?_,λ x c e=>?_,λ p J=>?_,L,I.len⟩
 . exact K b o (F b o e) a (Q b o e h) (I.base.keep b o e n a h) (I.base.free b o e n h)
 . obtain ⟨sl,E⟩:=I.base.slot b o e n a h
   obtain ⟨Y,j⟩:=S b _ (F b o e) a (Q b o e h) E (I.base.free b o e n h)
   exact ⟨Y,j⟩
 . obtain ⟨y,E⟩:=I.base.there b o e h
   exact f b y (Q b o e h) E (I.base.free b o e n h)
 . obtain ⟨y,E⟩:=I.base.there b o e h
   exact t b y (Q b o e h) E
 . obtain ⟨m1,E⟩:=I.base.nu b A e
   obtain ⟨m2,j⟩:=nu b _ E
   exact ⟨m1++m2,by rw [j,ad8]⟩
 .
  obtain ⟨m,W,V⟩:=I.loc
  refine ⟨m,ns m W,λ i x v E j R=>?_⟩
  obtain ⟨u,r,l⟩:=V i x v E j R
  refine ⟨u,r,?_⟩
  rcases l with l|⟨k,c,e,z⟩
  . exact .inl l
  . exact .inr ⟨k,c,e,C x c e _ z⟩
 . obtain ⟨v,z⟩:=I.cell x c e
   exact ⟨v,C x c e v z⟩
 . obtain ⟨m,⟨o,Z,Z,g,Z⟩,Z⟩:=I.loc
   exact f _ o (λ z=>(B _ z).2.1 rfl) g I.free
 . obtain ⟨v,o,g,D⟩:=I.cell x c e
   exact f c o (λ z=>(B c z).2.2.1 x c e rfl) g (I.iu x c e)
 . obtain ⟨e,n,N,nf,d⟩:=I.pin p J
   have O:p.1∉ch:=λ z=>(B p.1 z).2.2.2 p J rfl
   exact ⟨K p.1 p.2 N nf O e n,f p.1 p.2 O e n,N,nf,d⟩
def Inv.un {t':Nat} (I:Inv X pins U H s) (u:Un X.fs [] H H' s.heap h') (C:jz X.prog X.w H' h'):Inv X pins U H' { s with heap:=h',toks:=t' }:=by
 obtain ⟨m,⟨o,es,E,a,r⟩,Z⟩:=id I.loc
 obtain ⟨sl,d⟩:=u.any a I.free (by simp)
 exact I.step (g':=s.gens) (d':=s.drawn) (ch:=[]) (λ Z z=>nomatch z) (λ b o Z h Z e n=>u.keep b o e n h (by simp)) (λ b o Z h Z e n=>u.slot b o e n h (by simp)) (λ b o Z e n=>u.free b o e n (by simp)) (λ b o Z e=>u.there b o e (by simp)) u.mX u.mO u.nu (λ M f=>by
   obtain ⟨O,c,R,v,g⟩:=f
   rw [a] at v;cases v
   exact ⟨_,c,R,d,g⟩) C I.bare
def Inv.call {g':Array GenState} {t':Nat} {d':Drawn} {ch:cM} (I:Inv X pins U H s) (u:Un (f8 X.stack) ch H H' s.heap h') (C:jz X.prog X.w H' h') (i:AllBare g') (B:∀ b∈ch,(b∈X.ex\/X.s₀.heap.objs.size<=b)/\b≠X.env.locals/\(∀ x c,X.env.cells.lookup x=some c->c≠b)/\∀ p∈X.pn++pins,p.1≠b) :
   Inv X pins U H' { s with heap:=h',gens:=g',drawn:=d',toks:=t' }:=by
 obtain ⟨m,⟨o,es,E,d,r⟩,Z⟩:=id I.loc
 obtain ⟨sl,a⟩:=u.any d I.free λ z=>(B _ z).2.1 rfl
 exact I.step (ch:=ch) B (λ b o a g h e n=>u.keep b o e n (λ z=>(aaa.mp (I.Bn b z)).elim a g) h) (λ b o Z Z h e n=>u.any e n h) (λ b o h e n=>u.free b o e n h) (λ b o h e=>u.there b o e h) u.mX u.mO u.nu (λ M j=>by
   obtain ⟨O,f,R,v,k⟩:=j
   rw [d] at v;cases v
   exact ⟨_,f,R,a,k⟩) C i
def Inv.turned {t':Nat} {i:ag} (I:Inv X pins U H s) (k:∀ b o,b≠i->s.heap.get? b=some o->h'.get? b=some o) (t:H i=none) (a:i≠X.env.locals) (d:i∈X.ex\/X.s₀.heap.objs.size<=i) (f:∀ x c,X.env.cells.lookup x=some c->c≠i) (g:∀ p∈X.pn++pins,p.1≠i):Inv X pins U H { s with heap:=h',toks:=t' }:=by
 have Y:∀ b u,H b=some u->b≠i:=λ b u e z=>by rw [z,t] at e;cases e
 refine I.step (g':=s.gens) (d':=s.drawn) (ch:=[i]) (λ b j=>?_) (λ b o Z Z h e Z=>k b o (λ z=>h (by simp [z])) e) (λ b o Z Z h e Z=>⟨o.slots,k b o (λ z=>h (by simp [z])) e⟩) (λ Z Z Z Z n=>n)
   (λ b o h e=>⟨o,k b o (λ z=>h (by simp [z])) e⟩) (λ Z Z e=>e) (λ Z Z Z e=>e) (λ b y e=>⟨#[],by rw [e];simp⟩) (λ m l=>?_) (λ b u e=>?_) I.bare
 . have e:b=i:=by simpa using j
   subst e
   exact ⟨d,a,f,g⟩
 . obtain ⟨o,es,E,w,r⟩:=l
   exact ⟨o,es,E,k _ o (abt a) w,r⟩
 .
  refine (I.ck b u e).gE (λ c v h q=>k c v ?_ q) (λ Z q=>q) λ Z Z q=>q
  rcases h with z|z
  . rw [z];exact Y b u e
  . exact Y c _ z
def Inv.tok (I:Inv X pins U H s) (t:Nat):Inv X pins U H { s with toks:=t }:=I.un (h':=s.heap) (t':=t) Un.refl I.ck
theorem Inv.kept {t':Nat} (I:Inv X pins U H s) (k:∀ b u,s.heap.get? b=some u->h'.get? b=some u):Inv X pins U H { s with heap:=h',toks:=t' }:=I.un (Un.kept k) (I.ck.kept k)
theorem Inv.laid {a:ag} {t':Nat} (I:Inv X pins U H s) (k:∀ b u,s.heap.get? b=some u->h'.get? b=some u) (h:s.heap.objs.size<=a) (n:c5 X.prog X.w (upd H a o) h' a o) :
   Inv X pins U (upd H a o) { s with heap:=h',toks:=t' }:=I.un (Un.laid k h (I.ck.fresh h)) (I.ck.laid k h n)
theorem Inv.write {x e:ag} {t':Nat} (I:Inv X pins U H s) (m:P0 (H x)) (h:e=x\/H e=some (.own x)) (k:∀ b u,b≠e->s.heap.get? b=some u->h'.get? b=some u) (C:∃ u,h'.get? e=some u) (n:c5 X.prog X.w (upd H x o) h' x o):Inv X pins U (upd H x o) { s with heap:=h',toks:=t' }:=I.un (Un.write m h k C) (I.ck.write m h k C n)
def Inv.BS {K:List (ag×Obj)} (I:Inv X pins U H s) (h:∀ p∈K,s.heap.get? p.1=some p.2/\H p.1=none/\p.1≠X.env.locals/\p.1∉X.fs/\∀ v,p.2.data ≠ .cell v):Inv X K U H s :=
 ⟨I.ok,I.os,I.bare,I.base,I.loc,I.cell,I.free,I.iu,λ p a=>(aaD.mp a).elim (λ z=>I.pin p (aaU _ z)) (h p),I.ck,I.len⟩
def rQ {N:bN} (h:N.Nodup) {j:Nat} {x:Str} (a:N[i]?=some x) (b:N[j]?=some x):i=j:=by
 obtain ⟨H,e⟩:=Yp.mp a
 obtain ⟨c,E⟩:=Yp.mp b
 exact (List.getElem_inj h).mp (e.trans E.symm)
def uc {M:Model} {A:Around} {E:aq->Shared->Prop} {x:Str} {u:aq} {Q:Unit->Shared->Prop} (I:Inv X pins U H s) (hN:X.N.Nodup) (J:X.N[i]?=some x) (B:Loc X.env.scope x) (r:RelV v u) (h:∀ s',Inv X pins (U.set i (some v)) H s'->(∃ a,Heap.SameBut a s.heap s'.heap/\(a=X.env.locals\/X.env.cells.lookup x=some a))->Q () s') (hf:autoParam (Rg X x) zd_._auto_1):wpAny M A (storeName X.env x u) Q E s:=by
 obtain ⟨m,S,hl⟩:=id I.loc
 have Sx:(X.env.scope.kind == .class || (X.env.scope.kind == .module && X.env.locals != X.env.globals))=false:=by rw [I.ok.kind];rfl
 have W2:i<U.length:=by rw [I.len];exact (Yp.mp J).1
 have O:=I.Fy
 have t:∀ {a:ag} {h':aO},(∃ o,s.heap.get? a=some o/\H a=none)->Heap.SameBut a s.heap h'->jz X.prog X.w H h':=λ {a h'} ha f b ob e=>by
   obtain ⟨Z,Z,jx⟩:=ha
   refine (I.ck b ob e).gE (λ c W l q=>(f.2 c ?_).trans q) (λ Z q=>q) λ Z Z q=>q
   rintro rfl
   rcases l with rfl|l
   . rw [jx] at e;cases e
   . rw [jx] at l;cases l
 rcases B with D|D
 .
  refine wpAny_storeName_local D S (λ h' VZ f=>?_) Sx
  obtain ⟨oL,Z,Z,Zs,Z⟩:=id S
  refine h _ ⟨I.ok,I.os,I.bare,⟨λ b o e n F B=>?_,λ b o e n F B=>?_,I.base.free,λ b o e B=>?_,I.base.mX,I.base.mO,I.base.nu⟩,⟨_,VZ,λ j y v' g C R=>?_⟩,λ y c e=>?_,I.free,I.iu,λ p T=>?_,t ⟨oL,Zs,I.free⟩ f,by simpa using I.len⟩ ⟨_,f,.inl rfl⟩
  . exact (f.2 b (aas (aam (aag e) I.ok.above))).trans (I.base.keep b o e n F B)
  . obtain ⟨sl,g⟩:=I.base.slot b o e n F B
    exact ⟨sl,(f.2 b (aas (aam (aag e) I.ok.above))).trans g⟩
  . obtain ⟨Y,g⟩:=I.base.there b o e B
    exact ⟨Y,(f.2 b (aas (aam (aag e) I.ok.above))).trans g⟩
  .
   by_cases G:j=i
   . subst G
     rw [J] at g;cases g
     rw [abJ W2] at C
     cases C
     exact ⟨u,r,.inl ⟨D,by simp⟩⟩
   .
    rw [abj (abt G)] at C
    obtain ⟨u',r',q⟩:=hl j y v' g C R
    refine ⟨u',r',?_⟩
    rcases q with ⟨k,e⟩|⟨k,c,e,z⟩
    . refine .inl ⟨k,?_⟩
      have:y≠x:=λ e=>G (rQ hN g (e ▸ J))
      simp [this,e]
    . exact .inr ⟨k,c,e,z.sameBut f (O y c e)⟩
  . obtain ⟨W,z⟩:=I.cell y c e
    exact ⟨W,z.sameBut f (O y c e)⟩
  . obtain ⟨e,n,L,nf,d⟩:=I.pin p T
    exact ⟨(f.2 p.1 L).trans e,n,L,nf,d⟩
 .
  have V:X.fn x=true:=by
    rcases hf with z|z
    . exact z
    . rw [z] at D;cases D
  obtain ⟨c,l⟩:=I.ok.has x (.inl D)
  obtain ⟨W,z⟩:=I.cell x c l
  refine wpAny_storeName_cell I.ok.kind D l z (λ h' ww f=>?_)
  obtain ⟨oc,Y1,Ve⟩:=id z
  refine h { s with heap:=h' } ⟨I.ok,I.os,I.bare,⟨λ b o e n F B=>?_,λ b o e n F B=>?_,I.base.free,λ b o e B=>?_,I.base.mX,I.base.mO,I.base.nu⟩,⟨m,S.sameBut f (abt (O x c l)),λ j y v' g C R=>?_⟩,λ y K e=>?_,I.free,I.iu,λ p T=>?_,t ⟨oc,Y1,I.iu x c l⟩ f,by simpa using I.len⟩ ⟨c,f,.inr l⟩
  . exact (f.2 b (aas (aam (aag e) (I.ok.Kl x c V l)))).trans (I.base.keep b o e n F B)
  . obtain ⟨sl,g⟩:=I.base.slot b o e n F B
    exact ⟨sl,(f.2 b (aas (aam (aag e) (I.ok.Kl x c V l)))).trans g⟩
  . obtain ⟨Y,g⟩:=I.base.there b o e B
    exact ⟨Y,(f.2 b (aas (aam (aag e) (I.ok.Kl x c V l)))).trans g⟩
  .
   by_cases G:j=i
   . subst G
     rw [J] at g;cases g
     rw [abJ W2] at C
     cases C
     exact ⟨u,r,.inr ⟨.inl D,c,l,ww⟩⟩
   .
    rw [abj (abt G)] at C
    obtain ⟨u',r',q⟩:=hl j y v' g C R
    refine ⟨u',r',?_⟩
    rcases q with q|⟨k,K,e,z'⟩
    . exact .inl q
    . refine .inr ⟨k,K,e,z'.sameBut f ?_⟩
      rintro rfl
      exact G (rQ hN g (I.ok.inj _ _ _ e l ▸ J))
  . by_cases Yh:K=c
    . subst Yh;exact ⟨_,ww⟩
    . obtain ⟨w2,z2⟩:=I.cell y K e
      exact ⟨w2,z2.sameBut f Yh⟩
  .
   obtain ⟨e,n,L,nf,d⟩:=I.pin p T
   refine ⟨(f.2 p.1 ?_).trans e,n,L,nf,d⟩
   intro q
   rw [q,Y1] at e
   have q':oc=p.2:=aai e
   exact d W (by rw [<- q'];exact Ve)
def sd {M:Model} {A:Around} {E:aq->Shared->Prop} {x:Str} {u:aq} {Q:Unit->Shared->Prop} (I:Inv X pins U H s) (b:X.N.Nodup) (d:X.N[i]?=some x) (e:Loc X.env.scope x) (r:RelV v u) (h:∀ s',Inv X pins (U.set i (some v)) H s'->Q () s') (c:autoParam (Rg X x) zd_._auto_1):wpAny M A (storeName X.env x u) Q E s :=
 uc I b d e r (λ s' a Z=>h s' a) c
def Inv.Km {ch:cM} (I:Inv X pins U H s) (a:s'.os=s.os) (u:Un (f8 X.stack) ch H H' s.heap s'.heap) (C:jz X.prog X.w H' s'.heap) (h:AllBare s'.gens) (B:∀ b∈ch,(b∈X.ex\/X.s₀.heap.objs.size<=b)/\b≠X.env.locals/\(∀ x c,X.env.cells.lookup x=some c->c≠b)/\∀ p∈X.pn++pins,p.1≠b):Inv X pins U H' s':=by
 obtain ⟨h',g,d,t',o⟩:=s'
 have e:o=s.os:=a
 subst e
 exact I.call (g':=g) (t':=t') (d':=d) u C h B
end
abbrev XK:=aq->Option ag->Hp->Prop
abbrev St:=List (fH)
abbrev VK:=V->Hp->Prop
abbrev TE:=St->Hp->VK->Prop
abbrev TT:=St->Hp->(Bool->Hp->Prop)->Prop
abbrev TA:=St->Hp->(aA->Hp->Prop)->Prop
structure Ends where
 nx:St->Hp->Prop
 rt:VK
 bk:St->Hp->Prop:=λ _ _=>False
 ct:St->Hp->Prop:=λ _ _=>False
abbrev TS:=Ends->St->Hp->Prop
inductive EP (X:Cx) (pins:List (ag×Obj)) (U:St) (Q:VK) (u:aq) (s':Shared):Prop|mk (v:V) (H':Hp) (_:Inv X pins U H' s') (_:RelV v u) (_:Q v H')
def TP (X:Cx) (p:List (ag×Obj)) (U:St) (Q:Bool->Hp->Prop) (b:Bool) (s':Shared):Prop:=∃ H,Inv X p U H s'/\Q b H
inductive AP (X:Cx) (pins:List (ag×Obj)) (U:St) (Q:aA->Hp->Prop) (us:aU) (s':Shared):Prop|mk (vs:aA) (H':Hp) (_:Inv X pins U H' s') (_:Vals vs us) (_:Q vs H')
def SP (X:Cx) (p:List (ag×Obj)) (D:Ends) (f:Flow) (s':Shared):Prop :=
 match f with
 | .next=>∃ a H,Inv X p a H s'/\D.nx a H
 | .brk=>∃ a H,Inv X p a H s'/\D.bk a H
 | .cont=>∃ a H,Inv X p a H s'/\D.ct a H
 | .ret u=>∃ v a H,Inv X p a H s'/\RelV v u/\D.rt v H
def PE (X:Cx) (e:Expr) (t:TE):Prop :=
 ∀ (p:List (ag×Obj)) (s:Shared) (U:St) (H:Hp) (Q:VK),Inv X p U H s->t U H Q->wpAny (model X.prog X.w) X.A (eval e X.env) (EP X p U Q) X.xe s
def PT (X:Cx) (e:Expr) (t:TT):Prop :=
 ∀ (p:List (ag×Obj)) (s:Shared) (U:St) (H:Hp) (Q:Bool->Hp->Prop),Inv X p U H s->t U H Q->wpAny (model X.prog X.w) X.A (isTrue e X.env (eval e X.env)) (TP X p U Q) X.xe s
def PW (X:Cx) (e:Expr) (t:TT):Prop :=
 ∀ (W:Sem aq) (p:List (ag×Obj)) (s:Shared) (U:St) (H:Hp) (Q:Bool->Hp->Prop),Inv X p U H s->t U H Q->wpAny (model X.prog X.w) X.A (isTrue e X.env W) (TP X p U Q) X.xe s
def PW.pt {X:Cx} {e:Expr} {t:TT} (h:PW X e t):PT X e t:=h _
def PA (X:Cx) (e:List Expr) (t:TA):Prop :=
 ∀ (a:Pos) (p:List (ag×Obj)) (s:Shared) (U:St) (H:Hp) (Q:aA->Hp->Prop),Inv X p U H s->t U H Q->wpAny (model X.prog X.w) X.A (spliced (backTo a (starEach e X.env))) (AP X p U Q) X.xe s
def PS (X:Cx) (st:Stmt) (t:TS):Prop :=
 ∀ (p:List (ag×Obj)) (s:Shared) (U:St) (H:Hp) (D:Ends),Inv X p U H s->t D U H->wpAny (model X.prog X.w) X.A (exec st X.env) (SP X p D) X.xe s
def l8 (X:Cx) (st:List Stmt) (t:TS):Prop :=
 ∀ (p:List (ag×Obj)) (s:Shared) (U:St) (H:Hp) (D:Ends),Inv X p U H s->t D U H->wpAny (model X.prog X.w) X.A (execs st X.env) (SP X p D) X.xe s
def cO {b:Type} {t:Sem b} {Q q:b->Shared->Prop} {M:Model} {A:Around} {E:aq->Shared->Prop} {s:Shared} (h:wpAny M A t Q E s) (H:∀ a s,Q a s->q a s):wpAny M A t q E s:=aau h H λ Z Z x=>x
section
variable {X:Cx}
inductive JB (i:Nat) (U:St) (H:Hp) (Q:VK):Prop|mk (v:_) (_:U[i]?=some (some v)) (_:Q v H)
def tC (v:V):TE:=λ Z H Q=>Q v H
def K6 {x:Str} {d:Pos} (k:X.N[i]?=some x) (t:Q2 X.env.scope x) (b:autoParam (wO x) zb_._auto_1) (J:autoParam ((x == ("__classdict__" : Str))=false) zb_._auto_1):PE X (.Name x d) (JB i):=by
 intro p s U H Q I h
 obtain ⟨v,e,h⟩:=h
 obtain ⟨m,q,n⟩:=I.loc
 obtain ⟨u,r,l⟩:=n i x v k e t
 have f:EP X p U Q u s:=⟨v,H,I,r,h⟩
 rcases l with ⟨a,o⟩|⟨a,c,j,g⟩
 . exact wpAny_Name (wpAny_loadName_local I.ok.kind a q o f) b
 . rcases a with a|a
   . exact wpAny_Name (wpAny_loadName_cell I.ok.kind a j g f) b
   . exact wpAny_Name (wpAny_loadName_free I.ok.kind a j g f J) b
def ah {i j p}:PE X (.Constant (.int i) j p) (tC (.int i)):=λ Z Z Z H Z I h=>wpAny_Constant_int ⟨.int i,H,I.tok _,⟨_,rfl⟩,h⟩
def fh {b j p}:PE X (.Constant (.bool b) j p) (tC (.bl b)):=λ Z Z Z H Z I h=>Constant_bool ⟨.bl b,H,I,rfl,h⟩
def cQ {j p}:PE X (.Constant .none j p) (tC .bL):=λ Z Z Z H Z I h=>Constant_none ⟨.bL,H,I,rfl,h⟩
def aP {x j p}:PE X (.Constant (.str x) j p) (tC (.str x)):=λ Z Z Z H Z I h=>Calls.Constant_str ⟨.str x,H,I.tok _,⟨_,rfl⟩,h⟩
def Gl (X:Cx) (x:Str):Prop:=X.env.kindOf x=some .globalImplicit
def ia {E:aq->Shared->Prop} {p:List (ag×Obj)} {s:Shared} {x:Str} {u:aq} {a:Pos} {Q:aq->Shared->Prop} (I:Inv X p U H s) (c:Gl X x) (d:X.mg x=some u) (h:Q u s) (b:autoParam (wO x) zb_._auto_1):wpAny (model X.prog X.w) X.A (eval (.Name x a) X.env) Q E s :=
 adW I.ok.kind c (Calls.loadGlobal_global (by rw [I.ok.glob];exact I.mod.glob.keeps I.bk) d h) b
def kF {E:aq->Shared->Prop} {p:List (ag×Obj)} {s:Shared} {x:Str} {u:aq} {a:Pos} {Q:aq->Shared->Prop} (I:Inv X p U H s) (e:Gl X x) (f:X.mg x=none) (i:bootBuiltins x=some u) (h:Q u s) (g:autoParam (x ≠ "__name__") zb_._auto_1) (d:autoParam (wO x) zb_._auto_1):wpAny (model X.prog X.w) X.A (eval (.Name x a) X.env) Q E s:=by
 obtain ⟨m,b,c⟩:=I.mod.blt
 exact adW I.ok.kind e (Calls.loadGlobal_builtin (by rw [I.ok.glob];exact I.mod.glob.keeps I.bk) f (by rw [I.ok.blt];exact b.keeps I.bk) ((c x g).trans i) h) d
def cK {x:Str} {u:aq} {p:Pos} (b:Gl X x) (c:X.mg x=some u) (r:RelV v u) (a:autoParam (wO x) zb_._auto_1):PE X (.Name x p) (tC v) :=
 λ Z Z Z H Z I h=>ia I b c ⟨v,H,I,r,h⟩ a
def qD {x:Str} {u:aq} {p:Pos} (b:Gl X x) (c:X.mg x=none) (e:bootBuiltins x=some u) (r:RelV v u) (d:autoParam (x ≠ "__name__") zb_._auto_1) (a:autoParam (wO x) zb_._auto_1):PE X (.Name x p) (tC v) :=
 λ Z Z Z H Z I h=>kF I b c e ⟨v,H,I,r,h⟩ d a
variable {a b:Expr} {ta tb:TE} {pos:Pos}
def tB (t:TE):TT:=λ U H Q=>t U H λ x h=>∃ c,x = .bl c/\Q c h
def bX {e:Expr} {t:TE} (h:PE X e t) (b:∀ w,isTrue e X.env w=(do let v <- w;standAt e.pos;holding [v] (truthy v)):=by intro Z;rfl):PT X e (tB t):=by
 intro p s U H Q I c
 refine isTrue_plain (cO (h p s U H _ I c) λ v S ⟨x,a,i,r,f⟩=>?_) (b _)
 obtain ⟨d,rfl,q⟩:=f
 cases r
 exact abr ⟨a,i,q⟩
variable {tA RC:TT} {rest:List Expr}
def NR (t u:TT):TT:=λ U H Q=>t U H λ c h=>if c=true then u U h Q else Q false h
def tOr (t u:TT):TT:=λ U H Q=>t U H λ c h=>if c=true then Q true h else u U h Q
def RY (t:TT):TT:=λ U H Q=>t U H λ c h=>Q (!c) h
def lS (b:PT X a tA):PW X (.BoolOp .And [a] pos) tA:=by
 intro w p s U H Q I h
 refine isTrue_and (cO (b p s U H Q I h) λ c S e=>?_)
 cases c with
 | true=>exact isTrue_and_nil e
 | false=>exact e
def iy (b:PT X a tA):PW X (.BoolOp .Or [a] pos) tA:=by
 intro w p s U H Q I h
 refine isTrue_or (cO (b p s U H Q I h) λ c S e=>?_)
 cases c with
 | false=>exact isTrue_or_nil e
 | true=>exact e
def o7 (e:PT X a tA) (f:PW X (.BoolOp .And (b::rest) pos) RC):PW X (.BoolOp .And (a::b::rest) pos) (NR tA RC):=by
 intro w p s U H Q I h
 refine isTrue_and (cO (e p s U H _ I h) λ c S ⟨d,i,q⟩=>?_)
 cases c with
 | true=>exact f w p S U d Q i q
 | false=>exact ⟨d,i,q⟩
def jn (e:PT X a tA) (f:PW X (.BoolOp .Or (b::rest) pos) RC):PW X (.BoolOp .Or (a::b::rest) pos) (tOr tA RC):=by
 intro w p s U H Q I h
 refine isTrue_or (cO (e p s U H _ I h) λ c S ⟨d,i,q⟩=>?_)
 cases c with
 | true=>exact ⟨d,i,q⟩
 | false=>exact f w p S U d Q i q
def dM (d:PT X a tA):PT X (.UnaryOp .Not a pos) (RY tA):=by
 intro p s U H Q I h
 exact isTrue_not (d p s U H (λ c b=>Q (!c) b) I h)
def EZ (t tb:TE):TE:=λ U H Q=>t U H λ x h=>∃ c,x = .bl c/\if c=true then tb U h Q else Q (.bl false) h
def R8 (t tb:TE):TE:=λ U H Q=>t U H λ x h=>∃ c,x = .bl c/\if c=true then Q (.bl true) h else tb U h Q
def Qd (t:TE):TE:=λ U H Q=>t U H λ x h=>∃ c,x = .bl c/\Q (.bl (!c)) h
def i8 {o} {t:TE} (h:PE X a t):PE X (.BoolOp o [a] pos) t:=λ p s U H Q I b=>BoolOp_one (h p s U H Q I b)
def iE (e:PE X a ta) (f:PE X (.BoolOp .And (b::rest) pos) tb):PE X (.BoolOp .And (a::b::rest) pos) (EZ ta tb):=by
 intro p s U H Q I h
 refine BoolOp_and (cO (e p s U H _ I h) λ v S ⟨x,d,i,r,q⟩=>?_)
 obtain ⟨c,rfl,q⟩:=q
 cases r
 refine abr ?_
 cases c with
 | true=>exact f p S U d Q i q
 | false=>exact ⟨.bl false,d,i,rfl,q⟩
def KP (e:PE X a ta) (f:PE X (.BoolOp .Or (b::rest) pos) tb):PE X (.BoolOp .Or (a::b::rest) pos) (R8 ta tb):=by
 intro p s U H Q I h
 refine BoolOp_or (cO (e p s U H _ I h) λ v S ⟨x,d,i,r,q⟩=>?_)
 obtain ⟨c,rfl,q⟩:=q
 cases r
 refine abr ?_
 cases c with
 | false=>exact f p S U d Q i q
 | true=>exact ⟨.bl true,d,i,rfl,q⟩
def mH (d:PE X a ta):PE X (.UnaryOp .Not a pos) (Qd ta):=by
 intro p s U H Q I h
 refine UnaryOp_ (cO (d p s U H _ I h) λ v S ⟨x,b,i,r,q⟩=>?_)
 obtain ⟨c,rfl,q⟩:=q
 cases r
 exact not_of (abr ⟨.bl (!c),b,i,rfl,q⟩)
def YI (t:TT) (T tb:TE):TE:=λ U H Q=>t U H λ c h=>if c=true then T U h Q else tb U h Q
def sN {c:Expr} (j:PT X c tA) (f:PE X a ta) (g:PE X b tb):PE X (.IfExp c a b pos) (YI tA ta tb):=by
 intro p s U H Q I h
 refine wpAny_IfExp (cO (j p s U H _ I h) λ d S ⟨e,i,q⟩=>?_)
 cases d with
 | true=>exact f p S U e Q i q
 | false=>exact g p S U e Q i q
end
def bw (K:aC) (H:Hp) (a:ag) (xs:aA):Prop :=
 Rd H a (.lst xs) \/
   ∃ (o:Obj) (b:Array aq) (n:Nat),K.lookup a=some o/\o.cls = .type "list"/\o.dict=none/\o.data = .seq b n/\b.size<=sizeLine/\Vals xs b.toList
def cH (K:aC) (H:Hp) (a:ag) (xs:aA):Prop :=
 Rd H a (.tup xs) \/
   ∃ (o:Obj) (b:Array aq) (n:Nat),K.lookup a=some o/\o.cls = .type "tuple"/\o.data = .seq b n/\b.size<=sizeLine/\Vals xs b.toList
def T7:aq->fH
 | .none=>some .bL
 | .bool b=>some (.bl b)
 | .int i _=>some (.int i)
 | .str x _=>some (.str x)
 | .bytes b _=>some (.Ds b)
 | .float b _=>some (.Kz b)
 | .ref a=>some (.ref a)
 | .type n=>some (.ty n)
 | _=>none
def RelV.abs {x:V} {u:aq} (r:RelV x u):T7 u=some x:=by
 cases x with
 | bL=>cases r;rfl
 | bl _=>cases r;rfl
 | int _=>obtain ⟨t,rfl⟩:=r;rfl
 | str _=>obtain ⟨t,rfl⟩:=r;rfl
 | Ds _=>obtain ⟨t,rfl⟩:=r;rfl
 | Kz _=>obtain ⟨t,rfl⟩:=r;rfl
 | ref _=>cases r;rfl
 | ty _=>cases r;rfl
def RelV.inj {x y:V} {u:aq} (r:RelV x u) (q:RelV y u):x=y:=aai (r.abs.symm.trans q.abs)
theorem Vals.inj:∀ {xs ys:aA} {us:aU},Vals xs us->Vals ys us->xs=ys
 | _,_,_,.nil,.nil=>rfl
 | _,_,_,.cons r t,.cons R t'=>by rw [r.inj R,Vals.inj t t']
section
variable {X:Cx} {pins:List (ag×Obj)} {U:St} {H:Hp} {s:Shared} {a:ag} {xs ys:aA}
def bw.of {K:aC} (h:H a=some (.lst xs)):bw K H a xs:=.inl (.inl h)
def cH.of {K:aC} (h:H a=some (.tup xs)):cH K H a xs:=.inl (.inl h)
def Inv.list (I:Inv X pins U H s) (h:bw X.K H a xs):∃ b:aU,Vals xs b/\PlainL s.heap a b.toArray/\xs.length<=sizeLine:=by
 rcases h with h|⟨o,b,n,f,c,d,g,i,r⟩
 . obtain ⟨z,b,n,r,e⟩:=h.ok I.ck
   exact ⟨b,r,⟨_,n,e,rfl,rfl,rfl⟩,z⟩
 .
  refine ⟨b.toList,r,⟨o,n,I.jy a o f,c,d,by simpa using g⟩,?_⟩
  have e:=r.length
  simp only [acU] at e
  lia
def Inv.tuple (I:Inv X pins U H s) (h:cH X.K H a xs):∃ b:aU,Vals xs b/\IsTup s.heap a b.toArray/\xs.length<=sizeLine:=by
 rcases h with h|⟨o,b,n,d,c,f,g,r⟩
 . obtain ⟨z,b,r,p⟩:=h.ok I.ck
   exact ⟨b,r,p,z⟩
 .
  refine ⟨b.toList,r,⟨o,I.jy a o d,c,n,by simpa using f⟩,?_⟩
  have e:=r.length
  simp only [acU] at e
  lia
def Inv.nE (I:Inv X pins U H s) (h:bw X.K H a xs) (h':bw X.K H a ys):xs=ys:=by
 obtain ⟨b,r,⟨o,n,e,Z,Z,d⟩,Z⟩:=I.list h
 obtain ⟨i,R,⟨O,N,E,Z,Z,D⟩,Z⟩:=I.list h'
 rw [e] at E;cases E
 rw [d] at D
 injection D with d1 _
 have:b=i:=by simpa using abK Array.toList d1
 subst this
 exact r.inj R
def Inv.CY (I:Inv X pins U H s) (h:cH X.K H a xs) (h':cH X.K H a ys):xs=ys:=by
 obtain ⟨b,r,⟨o,e,Z,n,d⟩,Z⟩:=I.tuple h
 obtain ⟨i,R,⟨O,E,Z,N,D⟩,Z⟩:=I.tuple h'
 rw [e] at E;cases E
 rw [d] at D
 injection D with d1 _
 have:b=i:=by simpa using abK Array.toList d1
 subst this
 exact r.inj R
end
abbrev Cx.ki (X:Cx) (E:aq->Shared->Prop):Cx:={ X with xe:=E }
abbrev Cx.sS (X:Cx):Cx:=X.ki λ _ _=>False
theorem Cx.Ok.ki {X:Cx} (ok:X.Ok) (E:aq->Shared->Prop):(X.ki E).Ok :=
 ⟨ok.mod,ok.kind,ok.glob,ok.blt,ok.above,ok.inj,ok.has,ok.Kl,ok.hd,ok.frames,ok.Kq,ok.QO,ok.bs,ok.CP,ok.yf,ok.AR,ok.jq,ok.BH⟩
def Cx.Ok.gL {X:Cx} {E:aq->Shared->Prop} (ok:(X.ki E).Ok):X.Ok :=
 ⟨ok.mod,ok.kind,ok.glob,ok.blt,ok.above,ok.inj,ok.has,ok.Kl,ok.hd,ok.frames,ok.Kq,ok.QO,ok.bs,ok.CP,ok.yf,ok.AR,ok.jq,ok.BH⟩
section
variable {X:Cx} {pins:List (ag×Obj)} {U:St} {H:Hp} {s:Shared} {E:aq->Shared->Prop}
theorem Inv.ki (I:Inv X pins U H s) (E:aq->Shared->Prop):Inv (X.ki E) pins U H s:=⟨I.ok.ki E,I.os,I.bare,I.base,I.loc,I.cell,I.free,I.iu,I.pin,I.ck,I.len⟩
theorem Inv.gL (I:Inv (X.ki E) pins U H s):Inv X pins U H s:=⟨I.ok.gL,I.os,I.bare,I.base,I.loc,I.cell,I.free,I.iu,I.pin,I.ck,I.len⟩
theorem SP.gL {D:Ends} {f:Flow} (h:SP (X.ki E) pins D f s'):SP X pins D f s':=by
 cases f with
 | next=>obtain ⟨a,H,I,q⟩:=h;exact ⟨a,H,I.gL,q⟩
 | brk=>obtain ⟨a,H,I,q⟩:=h;exact ⟨a,H,I.gL,q⟩
 | cont=>obtain ⟨a,H,I,q⟩:=h;exact ⟨a,H,I.gL,q⟩
 | ret u=>obtain ⟨v,a,H,I,r,q⟩:=h;exact ⟨v,a,H,I.gL,r,q⟩
theorem l8.sS {st:List Stmt} {t:TS} (h:l8 X.sS st t):l8 X st t:=λ pins s U H D I a =>
 aau (h pins s U H D (I.ki _) a) (λ Z Z q=>q.gL) λ Z Z z=>False.elim z
end
section
variable {X:Cx} {st:Stmt} {rest:List Stmt} {t u:TS} {e:Expr} {te:TE} {pos:Pos}
def Oq:TS:=λ D U H=>D.nx U H
def aS (t u:TS):TS:=λ D U H=>t { D with nx:=u D } U H
def aL:l8 X [] Oq:=λ Z Z U H Z I h=>ace ⟨U,H,I,h⟩
def af (c:PS X st t) (d:l8 X rest u):l8 X (st::rest) (aS t u):=by
 intro p s U H D I h
 refine adw (cO (c p s U H { D with nx:=u D } I h) λ f S q=>?_)
 cases f with
 | next =>
   obtain ⟨a,b,i,q⟩:=q
   exact d p S a b D i q
 | ret v=>exact q
 | brk=>exact q
 | cont=>exact q
def ao (a:PS X st t):l8 X [st] t:=by
 intro p s U H D I h
 refine adw (cO (a p s U H D I h) λ f S q=>?_)
 cases f with
 | next=>exact ace q
 | ret v=>exact q
 | brk=>exact q
 | cont=>exact q
def Inv.quiet {p:List (ag×Obj)} {s:Shared} (I:Inv X p U H s):interactive X.env=false:=by simp [interactive,I.ok.kind]
def P3 (t:TE):TS:=λ D U H=>t U H λ Z h=>D.nx U h
def bC (b:PE X e te) (c:autoParam (swapsWith e none pos.line X.env=pure false) za_._auto_1):PS X (.Expr e pos) (P3 te):=by
 intro p s U H D I h
 exact wpAny_Expr_any (cO (b p s U H _ I h) λ v S ⟨x,a,i,r,q⟩=>⟨U,a,i,q⟩) I.quiet c
def Tv (t:TE):TS:=λ D U H=>t U H D.rt
def aJ (b:PE X e te):PS X (.Return (some e) pos) (Tv te):=by
 intro p s U H D I h
 exact wpAny_Return_some (cO (b p s U H _ I h) λ v S ⟨x,a,i,r,q⟩=>⟨x,U,a,i,r,q⟩)
def U5 (c:TT) (t u:TS):TS:=λ D U H=>c U H λ b h=>if b=true then t D U h else u D U h
def bA {c:Expr} {a b:List Stmt} {T:TT} (j:PT X c T) (f:l8 X a t) (g:l8 X b u):PS X (.If c a b pos) (U5 T t u):=by
 intro p s U H D I h
 refine wpAny_If (cO (j p s U H _ I h) λ d S ⟨e,i,q⟩=>?_)
 cases d with
 | true=>exact f p S U e D i q
 | false=>exact g p S U e D i q
def LF:TS:=λ Z Z Z=>False
def bH:PS X st LF:=λ Z Z Z Z Z Z h=>h.elim
end
abbrev TG:=V->St->Hp->(St->Hp->Prop)->Prop
abbrev K4:=aA->St->Hp->(St->Hp->Prop)->Prop
def PG (X:Cx) (T:Expr) (t:TG):Prop :=
 ∀ (p:List (ag×Obj)) (s:Shared) (U:St) (H:Hp) (v:V) (u:aq) (Q:St->Hp->Prop),Inv X p U H s->RelV v u->t v U H Q ->
   wpAny (model X.prog X.w) X.A (assign T X.env u) (λ Z s'=>∃ a h,Inv X p a h s'/\Q a h) X.xe s
def Nf (X:Cx) (T:List Expr) (t:K4):Prop :=
 ∀ (p:List (ag×Obj)) (s:Shared) (U:St) (H:Hp) (v:aA) (u:aU) (Q:St->Hp->Prop),Inv X p U H s->Vals v u->t v U H Q ->
   wpAny (model X.prog X.w) X.A (assignInOrder ((assignEach T X.env).map (·.2)) u) (λ Z s'=>∃ a h,Inv X p a h s'/\Q a h) X.xe s
abbrev LP:=V->V->V->Hp->(Hp->Prop)->Prop
def Pp (X:Cx) (t:LP):Prop :=
 ∀ (p:List (ag×Obj)) (s:Shared) (U:St) (H:Hp) (o i v:V) (O I u:aq) (Q:Hp->Prop),Inv X p U H s->RelV o O->RelV i I->RelV v u->t o i v H Q ->
   wpAny (model X.prog X.w) X.A (setItem O I u) (λ Z s'=>∃ h,Inv X p U h s'/\Q h) X.xe s
section
variable {X:Cx} {pos:Pos}
def lZ (i:Nat):TG:=λ v U H Q=>Q (U.set i (some v)) H
def Ch {x:Str} (b:X.N.Nodup) (d:X.N[i]?=some x) (e:Loc X.env.scope x) (c:autoParam (Rg X x) zd_._auto_1):PG X (.Name x pos) (lZ i):=by
 intro p s U H v u Q I r h
 exact wpAny_assign_Name (sd I b d e r (λ s' a=>⟨_,H,a,h⟩) c)
def SA:K4:=λ v U H Q=>v=[]/\Q U H
inductive OH (t:TG) (u:K4) (vs:aA) (U:St) (H:Hp) (Q:(St->Hp->Prop)):Prop|mk (v r:_) (_:vs=v::r) (_:t v U H λ σ' H'=>u r σ' H' Q)
def eF:Nf X [] SA:=by
 intro p s U H v u Q I r h
 obtain ⟨e,h⟩:=h
 subst e
 cases r
 exact assignInOrder_nil ⟨U,H,I,h⟩
def aX {e:Expr} {t:TG} {u:K4} (c:PG X e t) (d:Nf X es u) (f:autoParam ((assignEach (e::es) X.env).map (·.2)=assign e X.env::(assignEach es X.env).map (·.2)) za_._auto_1):Nf X (e::es) (OH t u):=by
 intro p s U H j g Q I r h
 obtain ⟨v,V,E,h⟩:=h
 subst E
 cases r with
 | cons r R =>
   rw [f]
   refine assignInOrder_cons (cO (c p s U H _ _ _ I r h) λ Z S ⟨a,b,i,q⟩=>?_)
   exact d p S a b _ _ Q i R q
inductive O6 (K:aC) (n:Nat) (t:K4) (v:V) (U:St) (H:Hp) (Q:(St->Hp->Prop)):Prop|mk (a xs:_) (_:v = .ref a) (_:cH K H a xs) (_:xs.length=n) (_:t xs U H Q)
def Lo {k:Nat} {t:K4} {n:Nat} (f:X.calm=true) (h:Nf X es t) (l:autoParam ((assignEach es X.env).length=n) za_._auto_1) (g:autoParam ((assignEach es X.env).findIdx? (·.1)=none) za_._auto_1):PG X (.Tuple es k pos) (O6 X.K n t):=by
 intro p s U H v u Q I r c
 obtain ⟨a,x,E,m,j,c⟩:=c
 subst E
 cases r
 obtain ⟨B,R,q,y⟩:=I.tuple m
 refine assign_Tuple_tuple (I.ok.hd f) q (by simp [l,<- j,R.length]) g λ d w=>?_
 have i:Inv X p U H { s with heap:=d }:=I.kept (t':=s.toks) λ b o e=>w b o (aas (aag e)) e
 exact h p _ U H x _ Q i (by simpa using R) c
def VP (c T:TE) (t:LP):TG:=λ v U H Q=>c U H λ o h=>T U h λ i a=>t o i v a λ b=>Q U b
def zN {o i:Expr} {b T:TE} {t:LP} (m:PE X o b) (l:PE X i T) (n:Pp X t) (k:∀ v,assign (.Subscript o i pos) X.env v=(do
     let O <- holding [v] (eval o X.env)
     let a <- holding [v,O] (eval i X.env)
     standAt pos
     holding [v,O,a] (setItem O a v)
     release [v,O,a] []):=by intro Z;rfl):PG X (.Subscript o i pos) (VP b T t):=by
 intro p s U H v u Q I r h
 rw [k]
 refine OW (aa5 (cO (m p s U H _ I h) λ O S ⟨x,c,f,R,q⟩=>?_))
 refine OW (aa5 (cO (l p S U c _ f q) λ a B ⟨y,d,g,A,w⟩=>?_))
 refine OW (abL (OW (aa5 (cO (n p B U d x y v O a u _ g R A r w) λ Z C ⟨e,j,z⟩=>?_))))
 exact wpAny_release ⟨U,e,j,z⟩
def CO (t:TE) (g:TG):TS:=λ D U H=>t U H λ x h=>g x U h D.nx
def jB {e:Expr} (c:PE X e te) (d:PG X tg g) (f:autoParam (swapsWithSole [tg] e pos.line X.env=pure false) za_._auto_1) (hw:autoParam (swappedStores [tg] e X.env=pure none) za_._auto_1) (b:autoParam ((assignEach [tg] X.env).map (·.2)=[assign tg X.env]) za_._auto_1):PS X (.Assign [tg] e pos) (CO te g):=by
 intro p s U H D I h
 refine wpAny_Assign_stores (cO (c p s U H _ I h) λ v S ⟨x,a,i,r,Q⟩=>?_) f hw
 rw [b]
 exact cO (d p S U a x v _ i r Q) λ Z j q=>q
def Mg {x:Str} {e:Expr} {p:Pos} (f:X.N.Nodup) (k:X.N[i]?=some x) (m:Loc X.env.scope x) (g:PE X e te) (l:autoParam (swapsWith e (some (.Name x p)) pos.line X.env=pure false) za_._auto_1) (j:autoParam (Rg X x) zd_._auto_1) :
   PS X (.Assign [.Name x p] e pos) (CO te (lZ i)):=by
 intro a s U H D I h
 refine wpAny_Assign_Name (cO (g a s U H _ I h) λ v S ⟨y,b,c,r,q⟩=>?_) l
 exact sd c f k m r (λ n d=>⟨_,b,d,q⟩) j
end
section
variable {X:Cx} {pos:Pos}
def Lp (c:TT) (tb:TS):TS:=λ D U H=>∃ W:Nat->St->Hp->Prop,(∃ m,W m U H)/\∀ m U H,W m U H ->
 c U H λ b d=>if b=true then ∃ N:St->Hp->Prop,(∀ a h,N a h->∃ M,M<m/\W M a h)/\tb { D with nx:=N,ct:=N,bk:=D.nx } U d else D.nx U d
def xB {c:Expr} {B:List Stmt} {T:TT} (z:PassesOwn (model X.prog X.w) X.A X.env X.xe) (F:PT X c T) (E:l8 X B tb):PS X (.While c B [] pos) (Lp T tb):=by
 intro p s U H D I h
 obtain ⟨W,⟨M,J⟩,t⟩:=h
 refine wpAny_While (codeAny_whileLoop (λ n s'=>∃ g o,Inv X p g o s'/\W n g o) ?_ M ⟨U,H,I,J⟩)
 rintro n S ⟨d,r,C,K⟩
 refine abS z (cO (F p S d r _ C (t n d r K)) λ b G ⟨u,x,q⟩=>?_)
 cases b with
 | true =>
   obtain ⟨N,y,q⟩:=q
   rw [aaq rfl]
   refine abS z (cO (E p G d u _ x q) λ f L Q=>?_)
   cases f with
   | next =>
     obtain ⟨a,e,i,k⟩:=Q
     obtain ⟨m,j,l⟩:=y a e k
     exact ⟨m,j,a,e,i,l⟩
   | cont =>
     obtain ⟨a,e,i,k⟩:=Q
     obtain ⟨m,j,l⟩:=y a e k
     exact ⟨m,j,a,e,i,l⟩
   | brk=>exact Q
   | ret v=>exact Q
 | false =>
   rw [aal aah]
   exact ace ⟨d,u,x,q⟩
end
structure It where
 go:Nat->Hp->Prop
 Ey:Nat->Hp->V->Hp->Prop
 stop:Nat->Hp->Prop
def tW (X:Cx) (a:List (ag×Obj)) (H:Hp) (b:ag):Prop :=
 H b=none/\b≠X.env.locals/\b∉X.fs/\(b∈X.ex\/X.s₀.heap.objs.size<=b)/\(∀ x c,X.env.cells.lookup x=some c->c≠b)/\∀ p∈X.pn++a,p.1≠b
def Inv.yF {X:Cx} {a:List (ag×Obj)} {d:Hp} {s:Shared} {b:ag} (I:Inv X a U H s) (h:s.heap.objs.size<=b) (f:d b=none):tW X a d b:=by
 refine ⟨f,acK (aam I.lt h),I.UM h,.inr (aa3 I.sz h),λ x c e z=>?_,λ p g z=>?_⟩
 . obtain ⟨v,q⟩:=I.cell x c e
   exact absurd (aam q.lt (by rw [z];exact h)) (aa8 _)
 . exact absurd (aam (aag (I.pin p g).1) (by rw [z];exact h)) (aa8 _)
structure Turn (P:bh) (w:bf) (K:aC) (tg:Expr) (J:It) (fp:cM) (it:ag) (tn:Nat->aO->Prop):Prop where
 mem:it∈fp
 obj:∀ i h,tn i h->∀ b∈fp,∃ o,h.get? b=some o/\∀ v,o.data ≠ .cell v
 keep:∀ i h h',tn i h->(∀ b∈fp,∀ o,h.get? b=some o->h'.get? b=some o)->tn i h'
 item:∀ (X:Cx),X.prog=P->X.w=w->X.K=K->X.calm=true->∀ (i:Nat) (pins:List (ag×Obj)) (s:Shared) (U:St) (H:Hp) (E:aq->Shared->Prop),Inv X pins U H s->(∀ b∈fp,tW X pins H b)->tn i s.heap->J.go i H ->
   wpAny (model P w) X.A (pyNext (.ref it)) (λ r s1=>∃ u,r=some u /\
     wpAny (model P w) X.A (letOwnedTupleGo tg (.ref it) u) (λ _ s2=>∃ x H',Inv X pins U H' s2/\RelV x u/\J.Ey i H x H'/\tn (i+1) s2.heap/\∀ b∈fp,H' b=none) E s1) E s
 done:∀ (X:Cx),X.prog=P->X.w=w->X.K=K->X.calm=true->∀ (i:Nat) (pins:List (ag×Obj)) (s:Shared) (U:St) (H:Hp) (E:aq->Shared->Prop),Inv X pins U H s->(∀ b∈fp,tW X pins H b)->tn i s.heap->J.stop i H ->
   wpAny (model P w) X.A (pyNext (.ref it)) (λ r s1=>r=none/\Inv X pins U H s1) E s
 self:∀ (A:Around) (i:Nat) (s:Shared) (Q:aq->Shared->Prop) (E:aq->Shared->Prop),tn i s.heap->Q (.ref it) s->wpAny (model P w) A (pyIter (.ref it)) Q E s
abbrev TI:=St->Hp->(It->Hp->Prop)->Prop
def YX (X:Cx) (p:List (ag×Obj)) (U:St) (T:Expr) (R:It->Hp->Prop) (V:aq) (s:Shared):Prop :=
 ∃ (i:ag) (f:cM) (t:Nat->aO->Prop) (J:It) (H:Hp),V = .ref i/\Inv X p U H s/\Turn X.prog X.w X.K T J f i t/\t 0 s.heap/\(∀ b∈f,tW X p H b)/\R J H
def PI (X:Cx) (t i:Expr) (W:TI):Prop :=
 ∀ (p:List (ag×Obj)) (s:Shared) (U:St) (H:Hp) (R:It->Hp->Prop),Inv X p U H s->W U H R ->
   wpAny (model X.prog X.w) X.A (eval i X.env) (λ v S=>wpAny (model X.prog X.w) X.A (pyIter v) (YX X p U t R) X.xe S) X.xe s
def Kt {M:Model} {A:Around} {E:aq->Shared->Prop} {s:Shared} {i:ag} {u:aq} {o:Obj} {n:String} {vs:Array aq} {Q:Unit->Shared->Prop} (d:s.heap.get? i=some o) (a:o.cls = .type n) (b:o.data = .fields vs) (c:["enumerate","zip","dict_itemiterator","dict_reverseitemiterator","odict_iterator","itertools.zip_longest","itertools.pairwise"].contains n=false) (H:Q () s):wpAny M A (letOwnedTupleGo tg (.ref i) u) Q E s:=by
 unfold letOwnedTupleGo
 cases tg<;>first
   | exact aak H
   | (cases u<;>first
       | exact aak H
       | (refine OW (wpAny_load d ?_)
          rw [a,b]
          show wpAny M A (if (["enumerate","zip","dict_itemiterator","dict_reverseitemiterator","odict_iterator","itertools.zip_longest","itertools.pairwise"].contains n && vs[0]? == some (rawInt _))=true then _ else _) Q E s
          rw [aal (by intro h;rw [c,adu] at h;cases h)]
          exact aak H))
def Ht (K:aC) (a:ag):It :=
 ⟨λ i H=>∃ X x,bw K H a X/\X[i]?=some x,λ i H x h=>h=H/\∀ X,bw K H a X->X[i]?=some x,λ i H=>∃ X,bw K H a X/\X.length<=i⟩
def EG (lo:Int) (n:Nat):It:=⟨λ i Z=>i<n,λ i H x h=>h=H/\x = .int (lo+i),λ i Z=>n<=i⟩
def CU {P:bh} {w:bf} {K:aC} (a j:ag):Turn P w K tg (Ht K a) [j] j (λ i h=>h.IsListIter j a i) where
 mem:=by simp
 obj:=λ i h S b g=>by
   have e:b=j:=by simpa using g
   subst e
   obtain ⟨o,e,c,d⟩:=S
   exact ⟨o,e,λ v z=>by rw [d] at z;cases z⟩
 keep:=λ i h l S k=>S.at λ o e=>k j (by simp) o e
 item:=by
   intro X B D A L i f s U H E I m S C
   subst B D A
   obtain ⟨xs,x,n,G⟩:=C
   obtain ⟨N,R,p,W⟩:=I.list n
   obtain ⟨u,T,Y⟩:=R.get G
   obtain ⟨F,q,Q,r,t,y⟩:=m j (by simp)
   refine wpAny_pyNext_list_item S p.isList (x:=u) (by simpa using T) λ l J sb=>?_
   have M:Inv X f U H { s with heap:=l }:=I.turned (t':=s.toks) (λ b o g e=>(sb.2 b g).trans e) F q r t y
   obtain ⟨o,e,c,d⟩:=id J
   exact ⟨u,rfl,Kt (s:={ s with heap:=l }) e c d (by decide) ⟨x,H,M,Y,⟨rfl,λ ys V=>by rw [I.nE V n];exact G⟩,J,λ b g=>(m b g).1⟩⟩
 done:=by
   intro X B D A L i f s U H E I m S C
   subst B D A
   obtain ⟨xs,n,G⟩:=C
   obtain ⟨N,R,p,W⟩:=I.list n
   obtain ⟨F,q,Q,r,t,y⟩:=m j (by simp)
   have hl:=R.length
   exact wpAny_pyNext_list_end (I.ok.hd L) S p.isList (by simp;lia) λ l O=>⟨rfl,I.turned (t':=s.toks) (λ b o g e=>O b o g e) F q r t y⟩
 self:=λ Z Z Z Z Z S h=>wpAny_pyIter_listiter S h
def zY {P:bh} {w:bf} {K:aC} (a:ag) (lo:Int) (n:Nat):Turn P w K tg (EG lo n) [a] a (λ i h=>IsRangeIter h a (lo+(i:Nat) * 1) ((n:Int) - (i:Nat)) 1) where
 mem:=by simp
 obj:=λ i h S b c=>by
   have e:b=a:=by simpa using c
   subst e
   exact ⟨_,S,λ v z=>by
     have L:Data.fields _=Data.cell v:=z
     cases L⟩
 keep:=λ i h d S k=>k a (by simp) _ S
 item:=by
   intro X r y q u i p s U H E I f S x
   subst r y q
   obtain ⟨F,g,D,j,l,m⟩:=f a (by simp)
   have W:=Walks.range (prog:=X.prog) (w:=X.w) (I.ok.hd u) a lo 1 n
   refine W.item i s _ _ x S λ v d T G A J=>?_
   obtain ⟨t,rfl⟩:=G
   have B:Inv X p U H { s with heap:=d,toks:=T }:=I.turned (λ b o c e=>J b o (by simpa using c) e) F g j l m
   refine ⟨_,rfl,Kt (s:={ s with heap:=d,toks:=T }) (n:="range_iterator") A rfl rfl (by decide) ⟨.int (lo+i),H,B,⟨t,?_⟩,⟨rfl,rfl⟩,A,λ b c=>(f b c).1⟩⟩
   rw [Int.mul_one]
 done:=by
   intro X r y q u i p s U H E I f S x
   subst r y q
   obtain ⟨F,g,D,j,l,m⟩:=f a (by simp)
   exact wpAny_pyNext_range_end (I.ok.hd u) S (by have:n<=i:=x;lia) λ d C=>⟨rfl,I.turned (t':=s.toks) (λ b o c e=>C b o c e) F g j l m⟩
 self:=λ Z Z Z Z Z S h=>wpAny_pyIter_rangeiter S h
section
variable {X:Cx} {tg:Expr}
inductive U3 (K:aC) (R:It->Hp->Prop) (x:V) (H1:Hp):Prop|mk (a:ag) (h1:x = .ref a) (h2:∃ xs,bw K H1 a xs) (q:R (Ht K a) H1)
def OP (K:aC) (t:TE):TI:=λ U H R=>t U H (U3 K R)
def fo {l:Expr} {t:TE} (g:PE X l t):PI X tg l (OP X.K t):=by
 intro c s U H R I h
 refine cO (g c s U H _ I h) λ v S ⟨x,d,i,r,Q⟩=>?_
 obtain ⟨a,e,⟨n,j⟩,q⟩:=Q
 subst e
 cases r
 obtain ⟨B,m,p,k⟩:=i.list j
 refine wpAny_pyIter_list p.isList ?_
 refine ⟨S.heap.objs.size,[S.heap.objs.size],_,_,d,rfl,i.kept (t':=S.toks) λ b o e=>ZB _ e,CU a _,⟨_,aaE _ rfl,rfl,rfl⟩,λ b f=>?_,q⟩
 have e:b=S.heap.objs.size:=by simpa using f
 subst e
 exact i.yF (aac _) (i.ck.fresh (aac _))
def GQ {p:List (ag×Obj)} {s:Shared} {R:It->Hp->Prop} {E:aq->Shared->Prop} {h:Int} {t u v:Tok} {T:Nat} (I:Inv X p U H s) (d : -(2 ^ 62)<=lo) (f:lo<2 ^ 62) (g : -(2 ^ 62)<=h) (j:h<2 ^ 62) (q:R (EG lo (h - lo).toNat) H):wpAny (model X.prog X.w) X.A (pyIter (.ref s.heap.objs.size)) (YX X p U tg R) E { s with heap:=s.heap.push { cls:=.type "range",data:=.fields #[.int lo t,.int h u,.int 1 v]},toks:=T }:=by
 refine wpAny_pyIter_range (IsRange.new ..) (small_one d f g j) ?_
 have i:Inv X p U H { s with heap:=s.heap.push { cls:=.type "range",data:=.fields #[.int lo t,.int h u,.int 1 v]},toks:=T }:=I.kept λ b o e=>ZB _ e
 refine ⟨(s.heap.push { cls:=.type "range",data:=.fields #[.int lo t,.int h u,.int 1 v]}).objs.size,[(s.heap.push { cls:=.type "range",data:=.fields #[.int lo t,.int h u,.int 1 v]}).objs.size],_,_,H,rfl,
   i.kept (t':=T) λ b o e=>ZB _ e,zY _ lo (h - lo).toNat,?_,λ b k=>?_,q⟩
 .
  have a:lo+((0:Nat):Int) * 1=lo:=by simp
  have c:(((h - lo).toNat:Nat):Int) - ((0:Nat):Int)=Builtin.Range.rangeSize lo h 1:=by rw [rangeSize_one];split<;>lia
  show IsRangeIter _ _ (lo+((0:Nat):Int) * 1) ((((h - lo).toNat:Nat):Int) - ((0:Nat):Int)) 1
  rw [a,c]
  exact aaE _ rfl
 . have e:b=(s.heap.push { cls:=.type "range",data:=.fields #[.int lo t,.int h u,.int 1 v]}).objs.size:=by simpa using k
   subst e
   exact i.yF (aac _) (i.ck.fresh (aac _))
inductive Sw (R:It->Hp->Prop) (vs:aA) (H1:Hp):Prop|mk (j:Int) (h1:vs=[.int j]) (h2 : -(2 ^ 62)<=j) (h3:j<2 ^ 62) (q:R (EG 0 j.toNat) H1)
def Oe (t:TA):TI:=λ U H R=>t U H (Sw R)
def bZ {a:Expr} {T:TA} {p c:Pos} (f:Gl X "range") (g:X.mg "range" = none) (d:PA X [a] T) (k:autoParam (starEach [a] X.env=[(false,eval a X.env)]) za_._auto_1):PI X tg (.Call (.Name "range" p) [a] [] c) (Oe T):=by
 intro b s U H R I h
 refine Call_ (kF I f g boot_range (aa7 (cO (d c b s U H _ I h) λ u S ⟨v,o,i,m,Q⟩=>?_) k rfl))
 obtain ⟨j,e,Q,l,q⟩:=Q
 subst e
 cases m with
 | cons r n =>
   cases n
   obtain ⟨t,rfl⟩:=r
   exact call_range_1 (GQ i (by lia) (by lia) Q l (by simpa using q))
def Sv (w:TI) (g:TG) (tb:TS):TS:=λ D U H=>w U H λ J c=>∃ W:Nat->Nat->St->Hp->Prop,(∃ m,W 0 m U c)/\∀ i m U H,W i m U H ->
 (J.stop i H/\D.nx U H)\/(J.go i H/\∃ N:St->Hp->Prop,(∀ a h,N a h->∃ M,M<m/\W (i+1) M a h)/\∀ x h,J.Ey i H x h->g x U h λ b d=>tb { D with nx:=N,ct:=N,bk:=D.nx } b d)
def sJ (f:cM) (h:aO):List (ag×Obj):=f.filterMap λ b=>(h.get? b).map λ o=>(b,o)
def jV {f:cM} {h:aO} {b:ag} {o:Obj} (H:b∈f) (e:h.get? b=some o):(b,o)∈sJ f h:=acp.mpr ⟨b,H,by rw [e];rfl⟩
def Ed {f:cM} {h:aO} {p:ag×Obj} (a:p∈sJ f h):p.1∈f/\h.get? p.1=some p.2:=by
 obtain ⟨b,H,e⟩:=acp.mp a
 cases q:h.get? b with
 | none=>rw [q] at e;cases e
 | some o =>
   rw [q] at e
   have E:(b,o)=p:=aai e
   subst E
   exact ⟨H,q⟩
def Inv.pinned {a:List (ag×Obj)} {s:Shared} {f:cM} (I:Inv X a U H s) (i:∀ b∈f,tW X a H b) (j:∀ b∈f,∃ o,s.heap.get? b=some o/\∀ v,o.data ≠ .cell v):Inv X (a++sJ f s.heap) U H s :=
 I.BS λ p k=>(aaD.mp k).elim (λ z=>I.pin p (aaj _ z)) λ z=>by
   obtain ⟨h,e⟩:=Ed z
   obtain ⟨F,c,g,Z⟩:=i p.1 h
   obtain ⟨o,E,d⟩:=j p.1 h
   rw [e] at E;cases E
   exact ⟨e,F,c,g,d⟩
def Inv.nM {a pl:List (ag×Obj)} {s:Shared} (I:Inv X (a++pl) U H s):Inv X a U H s:=I.BS λ p h=>I.pin p (aaj _ (aaU _ h))
def dE {q:Expr} {B:List Stmt} {wi:TI} {V:Pos} (z:PassesOwn (model X.prog X.w) X.A X.env X.xe) (hc:X.calm=true) (hi:PI X tg q wi) (hg:PG X tg g) (l:l8 X B tb) (hs:∀ x,foldedSetIterable q X.env x=pure x:=by intro _;rfl):PS X (.For tg q B [] V) (Sv wi g tb):=by
 intro p s U H D I h
 refine wpAny_For (cO (hi p s U H _ I h) λ v s1 h1=>cO h1 λ VE s2 h2=>?_) hs
 obtain ⟨it,F,tn,J,H2,e,I2,T,RH,f2,W,⟨m0,w0⟩,G⟩:=h2
 subst e
 have M:∀ {H':Hp},(∀ b∈F,H' b=none)->∀ b∈F,tW X p H' b:=λ hn b l=>⟨hn b l,(f2 b l).2⟩
 refine codeAny_forLoop_any (λ n s'=>∃ i t H',Inv X p t H' s'/\tn i s'.heap/\(∀ b∈F,H' b=none)/\W i n t H') ?_ m0 ⟨0,U,H2,I2,RH,λ b l=>(f2 b l).1,w0⟩
 rintro n s3 ⟨i,y,K,I3,YR,W3,w3⟩
 rcases G i n y K w3 with ⟨E,qn⟩|⟨go,N,hN,S⟩
 . refine abS z (cO (T.done X rfl rfl rfl hc i p s3 y K X.xe I3 (M W3) YR E) λ r s4 ⟨R,I4⟩=>?_)
   subst R
   exact ace ⟨y,K,I4,qn⟩
 .
  refine abS z (cO (T.item X rfl rfl rfl hc i p s3 y K X.xe I3 (M W3) YR go) λ r s4 ⟨u,R,h4⟩=>?_)
  subst R
  refine abS z (cO h4 λ _ s5 ⟨x,H5,I5,r5,y5,O,Ru⟩=>?_)
  have L:=I5.pinned (M Ru) (T.obj _ _ O)
  refine abS z (cO (hg _ s5 y H5 x u _ L r5 (S x H5 y5)) λ _ s6 ⟨ab,H6,I6,q6⟩=>?_)
  refine abS z (cO (l _ s6 ab H6 _ I6 q6) λ f Y Q=>?_)
  have k:∀ {a:St} {c:Hp},Inv X (p++sJ F s5.heap) a c Y->N a c->∃ m,m<n/\∃ i t H',Inv X p t H' Y/\tn i Y.heap/\(∀ b∈F,H' b=none)/\W i m t H':=λ {a c} j C=>by
    obtain ⟨m',hm,w7⟩:=hN a c C
    refine ⟨m',hm,i+1,a,c,j.nM,T.keep _ _ _ O λ b l o e=>(j.pin (b,o) (aaj _ (aaj _ (jV l e)))).1,λ b l=>?_,w7⟩
    obtain ⟨o,e,d⟩:=T.obj _ _ O b l
    exact (j.pin (b,o) (aaj _ (aaj _ (jV l e)))).2.1
  cases f with
  | next=>obtain ⟨a,c,j,C⟩:=Q;exact k j C
  | cont=>obtain ⟨a,c,j,C⟩:=Q;exact k j C
  | brk=>obtain ⟨a,c,j,Q⟩:=Q;exact ⟨a,c,j.nM,Q⟩
  | ret v=>obtain ⟨x7,a,c,j,r7,Q⟩:=Q;exact ⟨x7,a,c,j.nM,r7,Q⟩
end
def lB {K:aC} {a:ag} {xs:aA} {D:Ends} (b:Nat->St->Hp->Prop) (j:b 0 U H) (o:∀ i U H,i<=xs.length->b i U H->bw K H a xs) (r:∀ i x U H,xs[i]?=some x->b i U H->g x U H λ d f=>tb { D with nx:=b (i+1),ct:=b (i+1),bk:=D.nx } d f) (l:∀ U H,b xs.length U H->D.nx U H) :
   ∃ W:Nat->Nat->St->Hp->Prop,(∃ m,W 0 m U H)/\∀ i m U H,W i m U H ->
     ((Ht K a).stop i H/\D.nx U H)\/((Ht K a).go i H/\∃ N:St->Hp->Prop,(∀ c h,N c h->∃ m',m'<m/\W (i+1) m' c h)/\∀ x h,(Ht K a).Ey i H x h->g x U h λ d f=>tb { D with nx:=N,ct:=N,bk:=D.nx } d f):=by
 refine ⟨λ i m U H=>m=xs.length - i/\i<=xs.length/\b i U H,⟨xs.length,by simp,aaV _,j⟩,?_⟩
 rintro i m U H ⟨rfl,n,p⟩
 have q:=o i U H n p
 by_cases k:i<xs.length
 .
  refine .inr ⟨⟨xs,xs[i],q,by simp [k]⟩,b (i+1),λ c h s=>⟨xs.length - (i+1),by lia,rfl,k,s⟩,λ x h y=>?_⟩
  obtain ⟨e,y⟩:=y
  subst e
  exact r i x U _ (y xs q) p
 . have e:i=xs.length:=by lia
   subst e
   exact .inl ⟨⟨xs,q,aac _⟩,l U H p⟩
def lJ {n:Nat} {D:Ends} (a:Nat->St->Hp->Prop) (f:a 0 U H) (l:∀ i U H,i<n->a i U H->g (.int (lo+i)) U H λ c d=>tb { D with nx:=a (i+1),ct:=a (i+1),bk:=D.nx } c d) (j:∀ U H,a n U H->D.nx U H) :
   ∃ W:Nat->Nat->St->Hp->Prop,(∃ m,W 0 m U H)/\∀ i m U H,W i m U H ->
     ((EG lo n).stop i H/\D.nx U H)\/((EG lo n).go i H/\∃ N:St->Hp->Prop,(∀ b h,N b h->∃ m',m'<m/\W (i+1) m' b h)/\∀ x h,(EG lo n).Ey i H x h->g x U h λ c d=>tb { D with nx:=N,ct:=N,bk:=D.nx } c d):=by
 refine ⟨λ i m U H=>m=n - i/\i<=n/\a i U H,⟨n,by simp,aaV _,f⟩,?_⟩
 rintro i m U H ⟨rfl,q,p⟩
 by_cases k:i<n
 .
  refine .inr ⟨k,a (i+1),λ b h o=>⟨n - (i+1),by lia,rfl,k,o⟩,λ x h y=>?_⟩
  obtain ⟨e,y⟩:=y
  subst e y
  exact l i U _ k p
 . have e:i=n:=by lia
   subst e
   exact .inl ⟨aac _,j U H p⟩
abbrev R2:=V->V->Hp->VK->Prop
def jw (X:Cx) (f:aq->aq->Sem aq) (r:R2):Prop :=
 ∀ (p:List (ag×Obj)) (s:Shared) (U:St) (H:Hp) (x y:V) (v u:aq) (Q:VK),Inv X p U H s->RelV x v->RelV y u->r x y H Q ->
   wpAny (model X.prog X.w) X.A (f v u) (EP X p U Q) X.xe s
def Rn (X:Cx) (f:aq->Sem aq) (r:V->Hp->VK->Prop):Prop :=
 ∀ (p:List (ag×Obj)) (s:Shared) (U:St) (H:Hp) (x:V) (v:aq) (Q:VK),Inv X p U H s->RelV x v->r x H Q ->
   wpAny (model X.prog X.w) X.A (f v) (EP X p U Q) X.xe s
def ir (X:Cx) (f:aq) (r:aA->Hp->VK->Prop):Prop :=
 ∀ (p:List (ag×Obj)) (s:Shared) (U:St) (H:Hp) (x:aA) (u:aU) (Q:VK),Inv X p U H s->Vals x u->r x H Q ->
   wpAny (model X.prog X.w) X.A (call f u) (EP X p U Q) X.xe s
def PB (r:R2) (t tb:TE):TE:=λ U H Q=>t U H λ x h=>tb U h λ y a=>r x y a Q
def Z0 (r:V->Hp->VK->Prop) (t:TE):TE:=λ U H Q=>t U H λ x h=>r x h Q
inductive rI (C:Int->Int->Prop) (g:Int->Int->V) (x:V) (y:V) (H:Hp) (Q:VK):Prop|mk (i j:_) (_:x = .int i) (_:y = .int j) (_:C i j) (_:Q (g i j) H)
inductive HU (g:Int->Int->V) (x:V) (y:V) (H:Hp) (Q:VK):Prop|mk (i j:_) (_:x = .int i) (_:y = .int j) (_:Q (g i j) H)
inductive rU (g:Int->V) (x:V) (H:Hp) (Q:VK):Prop|mk (i:_) (_:x = .int i) (_:Q (g i) H)
section
variable {X:Cx} {a b c:Expr} {ta tb:TE} {pos:Pos}
def MC (k:PE X a ta) (l:PE X b tb) {p:List (ag×Obj)} {s:Shared} {R:V->V->Hp->Prop} (I:Inv X p U H s) (h:ta U H λ x g=>tb U g λ y c=>R x y c) {Q:aq->Shared->Prop} {f:aq->aq->Sem aq} (m:∀ v u e x y c,Inv X p U c e->RelV x v->RelV y u->R x y c->wpAny (model X.prog X.w) X.A (f v u) Q X.xe e) :
   wpAny (model X.prog X.w) X.A (eval a X.env) (λ v S=>wpAny (model X.prog X.w) X.A (eval b X.env) (λ u d=>wpAny (model X.prog X.w) X.A (f v u) Q X.xe d) X.xe S) X.xe s:=by
 refine cO (k p s U H _ I h) λ v t ⟨x,g,i,r,q⟩=>?_
 refine cO (l p t U g _ i q) λ u e ⟨y,c,j,o,n⟩=>?_
 exact m v u e x y c j r o n
def aB {o:Operator} {r:R2} (f:jw X (binaryOp o) r) (d:PE X a ta) (e:PE X b tb):PE X (.BinOp a o b pos) (PB r ta tb):=by
 intro p s U H Q I h
 exact wpAny_BinOp (MC d e I h λ v u S x y c i R g q=>f p S U c x y v u Q i R g q)
def rg {o:UnaryOp} {r:V->Hp->VK->Prop} (d:Rn X (unaryOp o) r) (c:PE X a ta):PE X (.UnaryOp o a pos) (Z0 r ta):=by
 intro p s U H Q I h
 exact UnaryOp_ (cO (c p s U H _ I h) λ v S ⟨x,b,i,R,q⟩=>d p S U b x v Q i R q)
def Nt {f:aq->aq->Sem aq} {C:Int->Int->Prop} {g:Int->Int->Int} (r:∀ (i j:Int) (t u:Tok) (s:Shared) (Q:aq->Shared->Prop) (E:aq->Shared->Prop),C i j->Q (.int (g i j) s.toks) { s with toks:=s.toks+1 }->wpAny (model X.prog X.w) X.A (f (.int i t) (.int j u)) Q E s) :
   jw X f (rI C λ i j => .int (g i j)):=by
 intro p s U H x y v u Q I R b h
 obtain ⟨i,j,rfl,rfl,a,q⟩:=h
 obtain ⟨t,rfl⟩:=R
 obtain ⟨t',rfl⟩:=b
 exact r i j t t' s _ _ a ⟨.int (g i j),H,I.tok _,⟨_,rfl⟩,q⟩
def Im {f:aq->aq->Sem aq} {g:Int->Int->Int} (r:∀ (i j:Int) (t u:Tok) (s:Shared) (Q:aq->Shared->Prop) (E:aq->Shared->Prop),Q (.int (g i j) s.toks) { s with toks:=s.toks+1 }->wpAny (model X.prog X.w) X.A (f (.int i t) (.int j u)) Q E s) :
   jw X f (HU λ i j => .int (g i j)):=by
 intro p s U H x y v u Q I R a h
 obtain ⟨i,j,rfl,rfl,q⟩:=h
 obtain ⟨t,rfl⟩:=R
 obtain ⟨t',rfl⟩:=a
 exact r i j t t' s _ _ ⟨.int (g i j),H,I.tok _,⟨_,rfl⟩,q⟩
def HX {f:aq->aq->Sem aq} {g:Int->Int->Bool} (r:∀ (i j:Int) (t u:Tok) (s:Shared) (Q:aq->Shared->Prop) (E:aq->Shared->Prop),Q (.bool (g i j)) s->wpAny (model X.prog X.w) X.A (f (.int i t) (.int j u)) Q E s) :
   jw X f (HU λ i j => .bl (g i j)):=by
 intro p s U H x y v u Q I R a h
 obtain ⟨i,j,rfl,rfl,q⟩:=h
 obtain ⟨t,rfl⟩:=R
 obtain ⟨t',rfl⟩:=a
 exact r i j t t' s _ _ ⟨.bl (g i j),H,I,rfl,q⟩
def HY (i j:Int):Prop:=0<=j/\j<=1000000/\i.natAbs<2 ^ 64
def zK (k:Nat):(0:Int)<=2 ^ k:=by
 rw [two_pow_cast]
 exact abz _
def L0:jw X (binaryOp .Add) (HU λ i j => .int (i+j)):=Im λ Z Z Z Z Z Z Z q=>add_int q
def Lz:jw X (binaryOp .Sub) (HU λ i j => .int (i - j)):=Im λ Z Z Z Z Z Z Z q=>sub_int q
def MA:jw X (binaryOp .Mod) (rI (λ Z j=>0<j) λ i j => .int (i % j)):=Nt λ i j Z Z Z Z Z h q=>by
 have H:(0:Int)<j:=h
 exact mod_int' (by lia) (by rw [Int.fmod_eq_emod_of_nonneg i (by lia)];exact q)
def LV:jw X (binaryOp .Pow) (rI HY λ i j => .int (i ^ j.toNat)):=Nt λ Z Z Z Z Z Z Z h q=>pow_int_small h.1 h.2.1 h.2.2 q
def LM:jw X (binaryOp .LShift) (rI HY λ i j => .int (i * 2 ^ j.toNat)):=Nt λ Z Z Z Z Z Z Z h q=>lshift_int_small h.1 h.2.1 h.2.2 q
def Ld:jw X (binaryOp .RShift) (rI (λ Z j=>0<=j) λ i j => .int (i / 2 ^ j.toNat)):=Nt λ i j Z Z Z Z Z h q =>
 rshift_int h (by rw [adp i (zK _)];exact q)
def Li:jw X (binaryOp .BitAnd) (HU λ i j => .int (Builtin.bitAnd i j)):=Im λ Z Z Z Z Z Z Z q=>and_int q
def Qx:jw X (binaryOp .BitOr) (HU λ i j => .int (Builtin.bitOr i j)):=Im λ Z Z Z Z Z Z Z q=>or_int q
def XS {f:aq->Sem aq} {g:Int->Int} (r:∀ (i:Int) (t:Tok) (s:Shared) (Q:aq->Shared->Prop) (E:aq->Shared->Prop),Q (.int (g i) s.toks) { s with toks:=s.toks+1 }->wpAny (model X.prog X.w) X.A (f (.int i t)) Q E s) :
   Rn X f (rU λ i => .int (g i)):=by
 intro p s U H x v Q I R h
 obtain ⟨i,rfl,q⟩:=h
 obtain ⟨t,rfl⟩:=R
 exact r i t s _ _ ⟨.int (g i),H,I.tok _,⟨_,rfl⟩,q⟩
def wu:Rn X (unaryOp .USub) (rU λ i => .int (-i)):=XS λ Z Z Z Z Z q=>neg_int q
def Aj:Rn X (unaryOp .Invert) (rU λ i => .int (Builtin.bitNot i)):=XS λ Z Z Z Z Z q=>invert_int q
end
def Mh:V->V->Bool
 | .bL,.bL=>true | .bL,.int _=>true | .int _,.bL=>true | .bL,.bl _=>true | .bl _,.bL=>true | .bL,.str _=>true | .str _,.bL=>true
 | .int _,.int _=>true | .bl _,.bl _=>true | .str _,.str _=>true | .Ds _,.Ds _=>true
 | .int _,.str _=>true | .str _,.int _=>true | .bl _,.str _=>true | .str _,.bl _=>true
 | _,_=>false
def rEq:R2:=λ x y H Q=>Mh x y=true/\Q (.bl (decide (x=y))) H
def rNe:R2:=λ x y H Q=>Mh x y=true/\Q (.bl (!decide (x=y))) H
def Cd {i j:Int}:decide (V.int i=V.int j)=(i == j):=by
 rw [abG]
 simp
def Gb {i j:Bool}:decide (V.bl i=V.bl j)=(i == j):=by
 rw [abG]
 simp
def CA {i j:Str}:decide (V.str i=V.str j)=(i == j):=by
 rw [abG]
 simp
def Bz {i j:Array UInt8}:decide (V.Ds i=V.Ds j)=(i.toList == j.toList):=by
 rw [abG]
 cases i
 cases j
 simp
section
variable {X:Cx} {a b c:Expr} {ta tb tc:TE} {pos:Pos}
def b9 {p:List (ag×Obj)} {s:Shared} {k K:Bool} (I:Inv X p U H s) (q:Q (.bl k) H) (e:k=K):EP X p U Q (.bool K) s:=by
 subst e
 exact ⟨.bl k,H,I,rfl,q⟩
def gY:jw X (compareOp .Eq) rEq:=by
 intro p s U H x y v u Q I R r h
 obtain ⟨a,q⟩:=h
 cases x with
 | bL =>
   cases R
   cases y with
   | bL=>cases r;exact PySem.EqNone.eq_none_none (b9 I q (by simp))
   | bl j=>cases r;exact PySem.EqNone.eq_none_bool (b9 I q (by simp))
   | int j=>obtain ⟨t',rfl⟩:=r;exact PySem.EqNone.eq_none_int (b9 I q (by simp))
   | str j=>obtain ⟨t',rfl⟩:=r;exact PySem.EqNone.eq_none_str (b9 I q (by simp))
   | _=>exact absurd (show false=true from a) aah
 | bl i =>
   cases R
   cases y with
   | bL=>cases r;exact PySem.EqNone.eq_bool_none (b9 I q (by simp))
   | bl j=>cases r;exact eq_bool (b9 I q Gb)
   | str j=>obtain ⟨t',rfl⟩:=r;exact PySem.EqMixed.eq_bool_str (b9 I q (by simp))
   | _=>exact absurd (show false=true from a) aah
 | int i =>
   obtain ⟨t,rfl⟩:=R
   cases y with
   | bL=>cases r;exact PySem.EqNone.eq_int_none (b9 I q (by simp))
   | int j=>obtain ⟨t',rfl⟩:=r;exact eq_int (b9 I q Cd)
   | str j=>obtain ⟨t',rfl⟩:=r;exact PySem.EqMixed.eq_int_str (b9 I q (by simp))
   | _=>exact absurd (show false=true from a) aah
 | str i =>
   obtain ⟨t,rfl⟩:=R
   cases y with
   | bL=>cases r;exact PySem.EqNone.eq_str_none (b9 I q (by simp))
   | bl j=>cases r;exact PySem.EqMixed.eq_str_bool (b9 I q (by simp))
   | int j=>obtain ⟨t',rfl⟩:=r;exact PySem.EqMixed.eq_str_int (b9 I q (by simp))
   | str j=>obtain ⟨t',rfl⟩:=r;exact eq_str (b9 I q CA)
   | _=>exact absurd (show false=true from a) aah
 | Ds i =>
   obtain ⟨t,rfl⟩:=R
   cases y with
   | Ds j=>obtain ⟨t',rfl⟩:=r;exact W.eq_bytes (b9 I q Bz)
   | _=>exact absurd (show false=true from a) aah
 | _=>cases y<;>exact absurd (show false=true from a) aah
def gx:jw X (compareOp .NotEq) rNe:=by
 intro p s U H x y v u Q I R r h
 obtain ⟨a,q⟩:=h
 cases x with
 | bL =>
   cases R
   cases y with
   | bL=>cases r;exact PySem.EqNone.ne_none_none (b9 I q (by simp))
   | bl j=>cases r;exact PySem.EqNone.ne_none_bool (b9 I q (by simp))
   | int j=>obtain ⟨t',rfl⟩:=r;exact PySem.EqNone.ne_none_int (b9 I q (by simp))
   | str j=>obtain ⟨t',rfl⟩:=r;exact PySem.EqNone.ne_none_str (b9 I q (by simp))
   | _=>exact absurd (show false=true from a) aah
 | bl i =>
   cases R
   cases y with
   | bL=>cases r;exact PySem.EqNone.ne_bool_none (b9 I q (by simp))
   | bl j=>cases r;exact ne_bool (b9 I q (abK not Gb))
   | str j=>obtain ⟨t',rfl⟩:=r;exact PySem.EqMixed.ne_bool_str (b9 I q (by simp))
   | _=>exact absurd (show false=true from a) aah
 | int i =>
   obtain ⟨t,rfl⟩:=R
   cases y with
   | bL=>cases r;exact PySem.EqNone.ne_int_none (b9 I q (by simp))
   | int j=>obtain ⟨t',rfl⟩:=r;exact ne_int (b9 I q (abK not Cd))
   | str j=>obtain ⟨t',rfl⟩:=r;exact PySem.EqMixed.ne_int_str (b9 I q (by simp))
   | _=>exact absurd (show false=true from a) aah
 | str i =>
   obtain ⟨t,rfl⟩:=R
   cases y with
   | bL=>cases r;exact PySem.EqNone.ne_str_none (b9 I q (by simp))
   | bl j=>cases r;exact PySem.EqMixed.ne_str_bool (b9 I q (by simp))
   | int j=>obtain ⟨t',rfl⟩:=r;exact PySem.EqMixed.ne_str_int (b9 I q (by simp))
   | str j=>obtain ⟨t',rfl⟩:=r;exact ne_str (b9 I q (abK not CA))
   | _=>exact absurd (show false=true from a) aah
 | Ds i =>
   obtain ⟨t,rfl⟩:=R
   cases y with
   | Ds j=>obtain ⟨t',rfl⟩:=r;exact W.ne_bytes (b9 I q (abK not Bz))
   | _=>exact absurd (show false=true from a) aah
 | _=>cases y<;>exact absurd (show false=true from a) aah
def nj:jw X (compareOp .Lt) (HU λ i j => .bl (decide (i<j))):=HX λ Z Z Z Z Z Z Z q=>lt_int q
def f9:jw X (compareOp .LtE) (HU λ i j => .bl (decide (i<=j))):=HX λ Z Z Z Z Z Z Z q=>le_int q
def pV:jw X (compareOp .Gt) (HU λ i j => .bl (decide (j<i))):=HX λ Z Z Z Z Z Z Z q=>gt_int q
def Ko:jw X (compareOp .GtE) (HU λ i j => .bl (decide (j<=i))):=HX λ Z Z Z Z Z Z Z q=>ge_int q
def qW:jw X (compareOp .Is) (λ x y H Q=>y = .bL/\Q (.bl (decide (x = .bL))) H):=by
 intro p s U H x y v u Q I r R h
 obtain ⟨rfl,q⟩:=h
 cases R
 refine is_none_gen (b9 I q ?_)
 cases x<;>first
   | (cases r;rfl)
   | (obtain ⟨t,rfl⟩:=r;rfl)
def m8:jw X (compareOp .IsNot) (λ x y H Q=>y = .bL/\Q (.bl (!decide (x = .bL))) H):=by
 intro p s U H x y v u Q I r R h
 obtain ⟨rfl,q⟩:=h
 cases R
 refine isnot_none_gen (b9 I q ?_)
 cases x<;>first
   | (cases r;rfl)
   | (obtain ⟨t,rfl⟩:=r;rfl)
def aN (b:Expr) {o:CmpOp} (h:autoParam (o ≠ .In) zb_._auto_1) (H:autoParam (o ≠ .NotIn) zb_._auto_1):behindInMarks o b=false:=by
 have e:(o == CmpOp.In)=false:=by cases o<;>first|rfl|exact absurd rfl h
 have E:(o == CmpOp.NotIn)=false:=by cases o<;>first|rfl|exact absurd rfl H
 cases b<;>simp [behindInMarks,e,E]
def de {o:CmpOp} {r:R2} (g:jw X (compareOp o) r) (d:PE X a ta) (e:PE X b tb) (f:behindInMarks o b=false):PE X (.Compare a [o] [b] pos) (PB r ta tb):=by
 intro p s U H Q I h
 exact wpAny_Compare1 (MC d e I h λ v u S x y c i R j q=>g p S U c x y v u Q i R j q) f
inductive Uk (Q:Bool->Hp->Prop) (x:V) (H:Hp):Prop|mk (k:Bool) (h:x = .bl k) (q:Q k H)
def FH (t:TE):TT:=λ U H Q=>t U H (Uk Q)
def aQ {o:CmpOp} {r:R2} (t:jw X (compareOp o) r) (m:PE X a ta) (n:PE X b tb) (q:behindInMarks o b=false):PT X (.Compare a [o] [b] pos) (FH (PB r ta tb)):=by
 intro p s U H Q I h
 refine wpAny_isTrue_Compare1 (cO (m p s U H _ I h) λ v S ⟨x,d,i,R,w⟩=>cO (n p S U d _ i w) λ u E ⟨y,f,j,C,A⟩ =>
   cO (t p E U f x y v u _ j R C A) λ c F ⟨z,g,l,D,k,e,B⟩=>?_) q
 subst e
 cases D
 exact abr ⟨g,l,B⟩
def Hu (r R:R2) (t tb T:TE):TE:=λ U H Q=>t U H λ x a=>tb U a λ y b=>r x y b λ z h=>∃ k,z = .bl k /\
 (if k=true then T U h λ w c=>R y w c Q else Q (.bl false) h)
def FE {o M:CmpOp} {r R:R2} (E:jw X (compareOp o) r) (W:jw X (compareOp M) R) (A:PE X a ta) (B:PE X b tb) (C:PE X c tc) (D:autoParam (lastMarks [o,M] [b,c]=false) ze_._auto_1):PE X (.Compare a [o,M] [b,c] pos) (Hu r R ta tb tc):=by
 intro p s U H Q I h
 refine Compare_chain (cO (A p s U H _ I h) λ v S ⟨x,j,n,K,F⟩=>chain_link (cO (B p S U j _ n F) λ u O ⟨y,l,t,g,G⟩ =>
   cO (E p O U l x y v u _ t K g G) λ d T ⟨z,f,i,L,k,e,q⟩=>?_)) D
 subst e
 cases L
 refine abr ?_
 cases k with
 | false=>exact ite_ff ⟨.bl false,f,i,rfl,q⟩
 | true=>exact ite_tt (chain_last (cO (C p T U f _ i q) λ Y V ⟨z',m,w,N,J⟩=>W p V U m y z' u Y Q w g N J))
def jt {o M:CmpOp} {r R:R2} (K:jw X (compareOp o) r) (vw:jw X (compareOp M) R) (D:PE X a ta) (F:PE X b tb) (G:PE X c tc) (J:autoParam (lastMarks [o,M] [b,c]=false) ze_._auto_1):PT X (.Compare a [o,M] [b,c] pos) (FH (Hu r R ta tb tc)):=by
 intro p s U H Q I h
 refine isTrue_chain (cO (D p s U H _ I h) λ v s1 ⟨x,j,t,V,N⟩=>test_link (cO (F p s1 U j _ t N) λ u s2 ⟨y,l,w,g,O⟩ =>
   cO (K p s2 U l x y v u _ w V g O) λ d s3 ⟨z,f,i,W,k,e,q⟩=>?_)) J
 subst e
 cases W
 refine abr ?_
 cases k with
 | false =>
   obtain ⟨k',E,L⟩:=q
   cases E
   exact ite_ff ⟨f,i,L⟩
 | true =>
   refine ite_tt (test_last (cO (G p s3 U f _ i q) λ w' s4 ⟨z',m,A,Y,S⟩=>cO (vw p s4 U m y z' u w' _ A g Y S) λ d' s5 ⟨z2,n,B,r5,k2,C,T⟩=>?_))
   subst C
   cases r5
   exact abr ⟨n,B,T⟩
def vB:(sizeLine:Nat)<2 ^ 63:=by rw [adb];decide
def vals1 {x:V} {us:aU} (r:Vals [x] us):∃ u,us=[u]/\RelV x u:=by
 cases r with
 | cons R a=>cases a;exact ⟨_,rfl,R⟩
def vals2 {x y:V} {us:aU} (r:Vals [x,y] us):∃ u w',us=[u,w']/\RelV x u/\RelV y w':=by
 cases r with
 | cons R a =>
   cases a with
   | cons b c=>cases c;exact ⟨_,_,rfl,R,b⟩
def Hq:ir X (.builtin "abs") (λ xs H Q=>∃ i,xs=[.int i]/\Q (.int (if i<0 then -i else i)) H):=by
 intro p s U H xs a Q I r h
 obtain ⟨i,rfl,q⟩:=h
 obtain ⟨u,rfl,t,rfl⟩:=vals1 r
 exact call_abs_int λ u T=>⟨.int (if i<0 then -i else i),H,I.tok _,⟨_,rfl⟩,q⟩
def DM (b:X.calm=true):ir X (.builtin "max") (λ xs H Q=>∃ i j,xs=[.int i,.int j]/\Q (.int (if j > i then j else i)) H):=by
 intro p s U H xs d Q I r h
 obtain ⟨i,j,rfl,q⟩:=h
 obtain ⟨u,w,rfl,⟨t,rfl⟩,⟨t',rfl⟩⟩:=vals2 r
 refine max_two_ints (I.ok.hd b) λ c T k=>⟨_,H,I.kept k,?_,q⟩
 by_cases a:j > i
 . rw [aaq a,aaq a];exact ⟨_,rfl⟩
 . rw [aal a,aal a];exact ⟨_,rfl⟩
def CM:ir X (.type "int") (λ xs H Q=>(∃ i,xs=[.int i]/\Q (.int i) H)\/∃ k,xs=[.bl k]/\Q (.int (if k then 1 else 0)) H):=by
 intro p s U H xs a Q I r h
 rcases h with ⟨i,rfl,q⟩|⟨k,rfl,q⟩
 . obtain ⟨u,rfl,t,rfl⟩:=vals1 r
   exact call_int_int ⟨.int i,H,I,⟨_,rfl⟩,q⟩
 . obtain ⟨u,rfl,R⟩:=vals1 r
   cases R
   exact call_int_bool ⟨.int (if k then 1 else 0),H,I.tok _,⟨_,rfl⟩,q⟩
end
structure Ag (h:aO) (x dx C:ag) (mA:bR):Prop where
 obj:h.get? x=some (W.instObj C dx)
 ns:h.Ns1 dx mA
 ne:dx≠x
def pE {h:aO} {d:ag} {m:bR} (n:h.Ns1 d m):∃ O,h.get? d=some O/\∀ name,W.lookIn name O=some (m name):=by
 obtain ⟨o,es,E,f,H,b,_,c⟩:=n
 refine ⟨o,f,λ name=>?_⟩
 have e:=c name
 unfold nsFind findBy at e
 rw [<- ad7] at e
 unfold W.lookIn
 rw [H]
 dsimp only
 split
 . rename_i y q
   rw [q] at e
   exact abK some e
 .
  rename_i q
  rw [q] at e
  have a:es.toList.any (·.refKey)=false:=by
    rw [List.any_eq_false]
    intro y g
    obtain ⟨z,t,p⟩:=b y (Array.mem_toList_iff.mp g)
    simp [DictEntry.refKey,p]
  have A:¬ es.toList.any (·.refKey)=true:=by rw [a];exact aah
  rw [aal A]
  exact abK some e
def Ag.look {h:aO} {x d C:ag} {m:bR} (I:Ag h x d C m):∃ o,W.InstAt h x (W.instObj C d) C (some o)/\∀ name,W.lookIn name o=some (m name) :=
 let ⟨o,a,H⟩:=pE I.ns
 ⟨o,⟨I.obj,rfl,rfl,a⟩,H⟩
section
variable {prog:bh} {w:bf} {A:Around} {E:aq->Shared->Prop} {s:Shared} {K:aC} {x dx C f:ag} {mA:bR} {name:Str} {v:aq}
def get_map {e:Bool} {Q:aq->Shared->Prop} (X:K.In s.heap) (I:Ag s.heap x dx C mA) (b:W.plainGet K C name=true) (c:W.hasDictIn K C=true) (a:W.findIn K (.ref C) name=some none) (f:mA name=some v) (H:W.handedIn v=true) (h:Q v { s with toks:=s.toks+1 }) :
   wpAny (model prog w) A (getAttr (.ref x) name e) Q E s:=by
 obtain ⟨o,J,d⟩:=I.look
 exact W.get_value X J (W.plainGet_of b).1 (W.findObj_own c a rfl (by rw [d,f])) H h
def GR {pl:Sem Bool} {Q:aq×aU->Shared->Prop} (X:K.In s.heap) (I:Ag s.heap x dx C mA) (H:W.plainGet K C name=true) (a:W.findIn K (.ref C) name=some (some (.ref f))) (c:W.isFn K (.ref f)=true) (d:mA name=none) (h:Q (.ref f,[.ref x]) s) :
   wpAny (model prog w) A (getMethod (.ref x) name pl) Q E s:=by
 obtain ⟨o,J,b⟩:=I.look
 exact W.method_fn X J (W.plainGet_of H).1 (W.plainGet_of H).2 a (abC.mp c) (by show (W.lookIn name o).map (·.isSome)=some false;rw [b,d];rfl) h
def JH {ns:bN} {Q:Unit->Shared->Prop} (X:K.In s.heap) (I:Ag s.heap x dx C mA) (i:W.findIn K (.ref C) "__setattr__" = some (some (.builtin "object.__setattr__"))) (g:W.plainOver K C=true) (j:W.takerIn K C name=some none) (f:W.hasDictIn K C=true) (hw:PySem.Within mA ns) (hsz:ns.length<=sizeLine) (h:∀ h',Ag h' x dx C (λ y=>if y=name then some v else mA y)->Heap.SameBut dx s.heap h'->Q () { s with heap:=h',toks:=s.toks+2 }) :
   wpAny (model prog w) A (setAttr (.ref x) name v) Q E s:=by
 obtain ⟨u,J,o⟩:=I.look
 refine W.set_plain X J i (W.osa_open (s:={ s with toks:=s.toks+1 }) (r:=none) X J g j λ b=>?_)
 obtain ⟨n,d,c⟩:=ad5 f
 have k:s.heap.get? x=some ⟨.ref C,some dx,.plain,#[]⟩:=I.obj
 refine OW (aak (OW (OW (ac4 k (OW (W.Looks.here (s:={ s with toks:=s.toks+1 }) (adj X d) ?_))))))
 rw [c]
 refine aak (a:=some dx) (OW (aak (OW ?_)))
 refine wpAny_nsSet1 (s:={ s with toks:=s.toks+1 }) I.ns λ h' H e=>?_
 obtain ⟨t,l,m,p,O,q⟩:=H.count (acu name v hw)
 refine OW (adv p (by rw [O];exact adx (aa3 q (by rw [aav];lia))) ?_)
 exact aak (h _ ⟨(e.2 _ (abt I.ne)).trans I.obj,H,I.ne⟩ e)
def Fx {R:Result->Shared->Prop} {vs:aU} {kw:List (Str×aq)} (X:K.In s.heap) (b:W.makesIn K C=true) (a:W.findIn K (.ref C) "__init__" = some (some (.ref f))) (H:W.typeIn K (.ref f)=some (.type "function")) (h:codeAny (model prog w) (A.under (.builtin "type.__call__" ⟨.ref C::vs,kw⟩)) (.call (.ref f) ⟨.ref (s.heap.objs.size+1)::vs,kw⟩) (W.InitBack (s.heap.objs.size+1) R)
     { s with heap:=(s.heap.push W.emptyDict).push (W.instObj C s.heap.objs.size)}) :
   codeAny (model prog w) A (.call (.ref C) ⟨vs,kw⟩) R s:=by
 obtain ⟨c,g,d,t,o⟩:=s
 exact W.make_core (W.makes_of X b) (ab5 X a) (λ S=>W.bind_fn X S H) (.inl rfl) h
end
def bK (f:Str) (v:V):List (Str×V)->List (Str×V)
 | []=>[(f,v)]
 | (g,x)::r=>if g=f then (g,v)::r else (g,x)::bK f v r
theorem pW (f g:Str) (v:V):∀ F:List (Str×V),(bK f v F).lookup g=if g=f then some v else F.lookup g
 | []=>by
   show List.lookup g [(f,v)]=_
   by_cases h:g=f
   . have H:(g == f)=true:=abC.mpr h
     simp only [List.lookup,H,aaq h]
   . have H:(g == f)=false:=abk.mpr h
     simp only [List.lookup,H,aal h]
 | (k,x)::r=>by
   have i:=pW f g v r
   rw [show bK f v ((k,x)::r)=(if k=f then (k,v)::r else (k,x)::bK f v r) from rfl]
   by_cases a:k=f
   .
    rw [aaq a]
    by_cases h:g=k
    . have H:(g == k)=true:=abC.mpr h
      simp only [List.lookup,H,aaq (h.trans a)]
    . have H:(g == k)=false:=abk.mpr h
      simp only [List.lookup,H,aal (λ e:g=f=>h (e.trans a.symm))]
   .
    rw [aal a]
    by_cases h:g=k
    . have H:(g == k)=true:=abC.mpr h
      simp only [List.lookup,H,aal (λ e:g=f=>a (h.symm.trans e))]
    . have H:(g == k)=false:=abk.mpr h
      simp only [List.lookup,H]
      exact i
theorem pi (f:Str) (v:V):∀ F:List (Str×V),f∈(bK f v F).map (·.1)/\∀ g,g∈F.map (·.1)->g∈(bK f v F).map (·.1)
 | []=>⟨by simp [bK],λ g h=>by simp at h⟩
 | (k,x)::r=>by
   obtain ⟨i,I⟩:=pi f v r
   rw [show bK f v ((k,x)::r)=(if k=f then (k,v)::r else (k,x)::bK f v r) from rfl]
   by_cases H:k=f
   . rw [aaq H]
     subst H
     exact ⟨by simp,λ g h=>by simpa using h⟩
   .
    rw [aal H]
    refine ⟨?_,λ g h=>?_⟩
    . rw [aaN]
      exact aao _ i
    . rw [aaN] at h |-
      rcases aaa.mp h with e|e
      . exact aaa.mpr (.inl e)
      . exact aao _ (I g e)
theorem pX (f:Str) (v:V):∀ F:List (Str×V),(bK f v F).length<=F.length+1
 | []=>by simp [bK]
 | (k,x)::r=>by
   have i:=pX f v r
   rw [show bK f v ((k,x)::r)=(if k=f then (k,v)::r else (k,x)::bK f v r) from rfl]
   by_cases h:k=f
   . rw [aaq h,aav,aav];lia
   . rw [aal h,aav,aav];lia
def jj.some_of {o:iO} (r:jj (some v) o):∃ u,o=some u/\RelV v u:=by
 cases o with
 | none=>exact (show False from r).elim
 | some u=>exact ⟨u,rfl,r⟩
def jj.none_of {o:iO} (r:jj none o):o=none:=by
 cases o with
 | none=>rfl
 | some u=>exact (show False from r).elim
def ux {u:aq} (r:RelV v u):W.handedIn u=true:=by
 cases v with
 | bL=>cases (show u=Value.none from r);rfl
 | bl b=>cases (show u=Value.bool b from r);rfl
 | int i=>obtain ⟨t,e⟩:=(show ∃ t,u=Value.int i t from r);cases e;rfl
 | str x=>obtain ⟨t,e⟩:=(show ∃ t,u=Value.str x t from r);cases e;rfl
 | Ds b=>obtain ⟨t,e⟩:=(show ∃ t,u=Value.bytes b t from r);cases e;rfl
 | Kz b=>obtain ⟨t,e⟩:=(show ∃ t,u=Value.float b t from r);cases e;rfl
 | ref a=>cases (show u=Value.ref a from r);rfl
 | ty n=>cases (show u=Value.type n from r);rfl
section
variable {P:bh} {w:bf} {H:Hp} {h:aO} {a C dx:ag} {fs:List (Str×V)}
def qL (c:jz P w H h) (e:H a=some (.ins C dx fs)):∃ m,Ag h a dx C m/\(∀ f,jj (fs.lookup f) (m f))/\PySem.Within m (fs.map (·.1))/\fs.length<=1000/\H dx=some (.own a):=by
 obtain ⟨d,z,N,o,m,n,r,q⟩:=(show c5 P w H h a (.ins C dx fs) from c a _ e)
 exact ⟨m,⟨o,n,N⟩,r,q,z,d⟩
end
structure tH (K:aC) (C:ag):Prop where
 pg:W.plainGet K C Str.empty=true
 hd:W.hasDictIn K C=true
 po:W.plainOver K C=true
 sa:W.findIn K (.ref C) "__setattr__" = some (some (.builtin "object.__setattr__"))
def tH.get {K:aC} {C:ag} (c:tH K C) (f:Str):W.plainGet K C f=true:=c.pg
def dZ (K:aC) (C:ag) (f:Str):Prop:=W.findIn K (.ref C) f=some none
def dZ.O4 {K:aC} {C:ag} {f:Str} (n:dZ K C f):W.takerIn K C f=some none:=by
 unfold W.takerIn
 rw [show W.findIn K (.ref C) f=some none from n]
 rfl
structure Meth (K:aC) (C:ag) (m:Str) (f:ag):Prop where
 at_:W.findIn K (.ref C) m=some (some (.ref f))
 fn:W.isFn K (.ref f)=true
 kp:W.keepIn K (.ref f)=true
section
variable {X:Cx} {pins:List (ag×Obj)} {U:St} {H:Hp} {s:Shared} {a C dx:ag} {fs:List (Str×V)} {f:Str} {v:V} {A:Around} {E:aq->Shared->Prop}
def qV {b:Bool} {Q:aq->Shared->Prop} (I:Inv X pins U H s) (e:H a=some (.ins C dx fs)) (c:tH X.K C) (n:dZ X.K C f) (l:fs.lookup f=some v) (h:∀ u s',Inv X pins U H s'->RelV v u->Q u s'):wpAny (model X.prog X.w) A (getAttr (.ref a) f b) Q E s:=by
 obtain ⟨m,O,r,Z,Z,Z⟩:=qL I.ck e
 obtain ⟨u,d,R⟩:=jj.some_of (v:=v) (o:=m f) (by rw [<- l];exact r f)
 exact get_map I.jy O (c.get f) c.hd n d (ux R) (h u _ (I.tok _) R)
def j0 {m:Str} {g:ag} {pl:Sem Bool} {Q:aq×aU->Shared->Prop} (I:Inv X pins U H s) (e:H a=some (.ins C dx fs)) (c:tH X.K C) (k:Meth X.K C m g) (l:fs.lookup m=none) (h:Q (.ref g,[.ref a]) s):wpAny (model X.prog X.w) A (getMethod (.ref a) m pl) Q E s:=by
 obtain ⟨M,O,r,Z,Z,Z⟩:=qL I.ck e
 have b:M m=none:=jj.none_of (by rw [<- l];exact r m)
 exact GR I.jy O (c.get m) k.at_ k.fn b h
def si {y:V} {u:aq} {Q:Unit->Shared->Prop} (I:Inv X pins U H s) (e:H a=some (.ins C dx fs)) (c:tH X.K C) (n:dZ X.K C f) (B:fs.length<1000) (R:RelV y u) (h:∀ s',Inv X pins U (upd H a (.ins C dx (bK f y fs))) s'->Q () s'):wpAny (model X.prog X.w) A (setAttr (.ref a) f u) Q E s:=by
 obtain ⟨m,O,r,W,Z,i⟩:=qL I.ck e
 have v:(fs.map (·.1)).length<=sizeLine:=by rw [Bl,adb];lia
 refine JH I.jy O c.sa c.po n.O4 c.hd W v λ k d S=>h _ ?_
 have p:∃ o,k.get? dx=some o:=let ⟨o,_,_,j,_⟩:=d.ns;⟨o,j⟩
 refine I.write (x:=a) (e:=dx) (by rw [e];exact True.intro) (.inr i) (λ b q l z=>(S.2 b l).trans z) p ?_
 refine ⟨by rw [aG O.ne];exact i,?_,O.ne,d.obj,_,d.ns,λ g=>?_,λ g t=>?_⟩
 . have:=pX f y fs;lia
 .
  show jj ((bK f y fs).lookup g) (if g=f then some u else m g)
  rw [pW]
  by_cases q:g=f
  . rw [aaq q,aaq q];exact R
  . rw [aal q,aal q];exact r g
 .
  by_cases q:g=f
  . rw [q];exact (pi f y fs).1
  . refine (pi f y fs).2 g (W g λ z=>t ?_)
    show (if g=f then some u else m g)=none
    rw [aal q];exact z
def Inv.made (I:Inv X pins U H s):Inv X pins U (upd (upd H s.heap.objs.size (.own (s.heap.objs.size+1))) (s.heap.objs.size+1) (.ins C s.heap.objs.size []))
   { s with heap:=(s.heap.push W.emptyDict).push (W.instObj C s.heap.objs.size)}:=by
 have E:(s.heap.push W.emptyDict).get? s.heap.objs.size=some W.emptyDict:=aaE s.heap rfl
 have c:((s.heap.push W.emptyDict).push (W.instObj C s.heap.objs.size)).get? (s.heap.objs.size+1)=some (W.instObj C s.heap.objs.size):=by
   have:=aaE (s.heap.push W.emptyDict) (o:=W.instObj C s.heap.objs.size) rfl
   rwa [ac7] at this
 have d:(s.heap.push W.emptyDict).Ns s.heap.objs.size (λ Z=>none):=⟨W.emptyDict,#[],_,E,rfl,(λ e h=>absurd h (by simp)),λ Z=>rfl⟩
 have i:=I.laid (a:=s.heap.objs.size) (o:=.own (s.heap.objs.size+1)) (h':=s.heap.push W.emptyDict) (t':=s.toks) (λ b u q=>ZB _ q) (aac _) ⟨_,E⟩
 refine i.laid (a:=s.heap.objs.size+1) (o:=.ins C s.heap.objs.size []) (t':=s.toks) (λ b u q=>ZB _ q) (Nat.le_of_eq (ac7 _ _)) ?_
 have n:s.heap.objs.size≠s.heap.objs.size+1:=aas (Nat.lt_succ_self _)
 refine ⟨by rw [aG n,ai],aaV _,n,c,λ Z=>none,(Heap.Ns1.of_empty d).at λ o q=>ZB _ q,λ Z=>True.intro,λ y f=>absurd rfl f⟩
def CC {prog:bh} {w:bf} {env:Env} {e:Expr} {f:Str} {p:Pos} {s:Shared} {Q:aq->Shared->Prop} (H:attributeBase e f env (eval e env)=eval e env) (h:wpAny (model prog w) A (eval e env) (λ o S=>wpAny (model prog w) A (getAttr o f true) Q E S) E s):wpAny (model prog w) A (eval (.Attribute e f p) env) Q E s :=
 Attribute_any_ h (by rw [arm_eval_Attribute,H])
end
inductive Pu (K:aC) (f:Str) (Q:VK) (x:V) (H1:Hp):Prop|mk (a C dx:ag) (fs:List (Str×V)) (v:V) (h1:x = .ref a) (h2:H1 a=some (.ins C dx fs)) (h3:tH K C) (h4:dZ K C f) (h5:fs.lookup f=some v) (q:Q v H1)
def P1 (K:aC) (t:TE) (f:Str):TE:=λ U H Q=>t U H (Pu K f Q)
def Uo (K:aC) (t T:TE) (f:Str):TS:=λ D U H=>T U H λ y b=>t U b λ x h=>∃ a C d F,x = .ref a/\h a=some (.ins C d F)/\tH K C/\dZ K C f/\F.length<1000 /\
 D.nx U (upd h a (.ins C d (bK f y F)))
def QW (X:Cx) (o:Operator) (r:V->V->Hp->VK->Prop):Prop :=
 ∀ (p:List (ag×Obj)) (s:Shared) (U:St) (H:Hp) (x y:V) (u v:aq) (Q:VK),Inv X p U H s->RelV x u->RelV y v->r x y H Q->wpAny (model X.prog X.w) X.A (inplaceOp o u v) (EP X p U Q) X.xe s
def JU (K:aC) (t T:TE) (r:V->V->Hp->VK->Prop) (f:Str):TS:=λ D U H=>t U H λ x h=>∃ a C e c v,x = .ref a/\h a=some (.ins C e c)/\tH K C/\dZ K C f/\c.lookup f=some v /\
 T U h λ y d=>r v y d λ z b=>∃ u F,b a=some (.ins C u F)/\F.length<1000/\D.nx U (upd b a (.ins C u (bK f z F)))
section
variable {X:Cx} {o e value:Expr} {f:Str} {pos pos' qc:Pos} {ta tv:TE}
def bM (j:PE X e ta) (g:attributeBase e f X.env (eval e X.env)=eval e X.env):PE X (.Attribute e f pos) (P1 X.K ta f):=by
 intro p s U H Q I h
 refine CC g (cO (j p s U H _ I h) λ u S ⟨x,b,i,R,a,C,D,F,v,ex,E,c,n,l,q⟩=>?_)
 subst ex
 obtain rfl:u=Value.ref a:=R
 exact qV i E c n l λ m k d r=>⟨v,b,d,r,q⟩
def eU (g:PE X o ta) (k:PE X value tv) (j:swapsWith value (some (.Attribute o f pos')) pos.line X.env=pure false):PS X (.Assign [.Attribute o f pos'] value pos) (Uo X.K ta tv f):=by
 intro p s U H D I h
 refine acg (cO (k p s U H _ I h) λ u S ⟨y,b,i,R,q⟩=>cO (g p S U b _ i q) λ O v ⟨x,m,d,r,a,C,t,F,ex,E,c,n,l,Q⟩=>?_) j
 subst ex
 obtain rfl:O=Value.ref a:=r
 exact si d E c n l R λ w e=>⟨U,_,e,Q⟩
def D6 {O:Operator} {r:V->V->Hp->VK->Prop} (w:PE X o ta) (A:PE X value tv) (b:QW X O r):PS X (.AugAssign (.Attribute o f qc) O value pos) (JU X.K ta tv r f):=by
 intro p s U H D I h
 refine wpAny_AugAssign_AttributeAny (cO (w p s U H _ I h) λ B s1 ⟨x,d,i,J,a,C,dx,fs,v,ex,E,c,n,l,q⟩=>?_)
 subst ex
 obtain rfl:B=Value.ref a:=J
 refine qV i E c n l λ u S j R=>cO (A p S U d _ j q) λ W T ⟨y,g,k,M,Q⟩=>cO (b p T U g v y u W _ k R M Q) λ w4 s4 ⟨z,Y,m,N,uv,F,e,L,G⟩=>?_
 exact si m e c n L N λ s5 t=>⟨U,_,t,G⟩
inductive U8 (x:V) (y:V) (H:Hp) (Q:VK):Prop|mk (i j:_) (_:x = .int i) (_:y = .int j) (_:Q (.int (i+j)) H)
def Mi:QW X .Add U8:=by
 rintro p s U H x y u v Q I r R ⟨i,j,rfl,rfl,q⟩
 obtain ⟨t,rfl⟩:=(show ∃ t,u=Value.int i t from r)
 obtain ⟨t',rfl⟩:=(show ∃ t',v=Value.int j t' from R)
 exact PyProof.Rows.iadd_int ⟨.int (i+j),H,I.tok _,⟨_,rfl⟩,q⟩
end
section
variable {X:Cx} {pins:List (ag×Obj)} {U:St} {H:Hp} {s:Shared} {A:Around} {E:aq->Shared->Prop} {Q:aq->Shared->Prop} {c:aq} {b:Bool}
inductive oH (K:aC) (H:Hp):V->aq->Prop where
 | bL:oH K H .bL (.type "NoneType")
 | bl (x:Bool):oH K H (.bl x) (.type "bool")
 | int (i:Int):oH K H (.int i) (.type "int")
 | str (x:Str):oH K H (.str x) (.type "str")
 | Kz (x:UInt64):oH K H (.Kz x) (.type "float")
 | lst {a:ag} {xs:aA} (e:H a=some (.lst xs)):oH K H (.ref a) (.type "list")
 | yz {a:ag} {o:Obj} {xs:aA} (e:H a=some (.yz o (.lst xs))):oH K H (.ref a) (.type "list")
 | tup {a:ag} {xs:aA} (e:H a=some (.tup xs)):oH K H (.ref a) (.type "tuple")
 | dK {a:ag} {aK:List (Key×V)} (e:H a=some (.dK aK)):oH K H (.ref a) (.type "dict")
 | dT {a:ag} {aK:List (List Key×V)} (e:H a=some (.dT aK)):oH K H (.ref a) (.type "dict")
 | ins {a C dx:ag} {fs:List (Str×V)} (e:H a=some (.ins C dx fs)) (cl:tH K C) (ha:W.findIn K (.ref C) "__class__" = some (some (.builtin "object.__class__")))
     (hn:W.specialIn K (.builtin "object.__class__") "__get__" = some (some (.builtin "getset_descriptor.__get__"))) (YA:W.takesIn K (.builtin "object.__class__")=some true)
     (hm:W.mroIn K C (.type "object")=some true):oH K H (.ref a) (.ref C)
def Db {x:V} {u t:aq} (I:Inv X pins U H s) (r:RelV x u) (ty:oH X.K H x t) (e:W.kitOne X.K t c=some b) (h:∀ T,Q (.bool b) { s with toks:=T }) :
   wpAny (model X.prog X.w) A (call (.builtin "isinstance") [u,c]) Q E s:=by
 cases ty with
 | bL=>cases (show u=Value.none from r);exact ab6 W.kitx_none I.jy True.intro e (λ z=>nomatch z) h
 | bl y=>cases (show u=Value.bool y from r);exact ab6 W.kitx_bool I.jy True.intro e (λ z=>nomatch z) h
 | int i=>obtain ⟨t,q⟩:=(show ∃ t,u=Value.int i t from r);cases q;exact ab6 W.kitx_int I.jy True.intro e (λ z=>nomatch z) h
 | str y=>obtain ⟨t,q⟩:=(show ∃ t,u=Value.str y t from r);cases q;exact ab6 W.kitx_str I.jy True.intro e (λ z=>nomatch z) h
 | Kz y=>obtain ⟨t,q⟩:=(show ∃ t,u=Value.float y t from r);cases q;exact ab6 W.kitx_float I.jy True.intro e (λ z=>nomatch z) h
 | @lst a g d =>
   cases (show u=Value.ref a from r)
   obtain ⟨Z,Z,n,Z,f⟩:=(show c5 X.prog X.w H s.heap a (.lst g) from I.ck a _ d)
   exact ab6 W.kitx_list I.jy ⟨_,f,rfl⟩ e (λ z=>nomatch z) h
 | @yz a F g d =>
   cases (show u=Value.ref a from r)
   obtain ⟨Z,Z,Z,n,Z,f⟩:=(show c5 X.prog X.w H s.heap a (.yz F (.lst g)) from I.ck a _ d)
   exact ab6 W.kitx_list I.jy ⟨_,f,rfl⟩ e (λ z=>nomatch z) h
 | @tup a g d =>
   cases (show u=Value.ref a from r)
   obtain ⟨Z,Z,Z,p⟩:=(show c5 X.prog X.w H s.heap a (.tup g) from I.ck a _ d)
   obtain ⟨o,f,j,Z⟩:=p
   exact ab6 W.kitx_tuple I.jy ⟨o,f,j⟩ e (λ z=>nomatch z) h
 | @dK a k d =>
   cases (show u=Value.ref a from r)
   obtain ⟨Z,Z,R,Z,p⟩:=(show c5 X.prog X.w H s.heap a (.dK k) from I.ck a _ d)
   obtain ⟨o,es,m,f,j,Z⟩:=p
   exact ab6 W.kitx_dict I.jy ⟨o,f,j.1⟩ e (λ z=>nomatch z) h
 | @dT a k d =>
   cases (show u=Value.ref a from r)
   obtain ⟨Z,Z,g,Z,o,es,m,f,j,Z⟩:=(show c5 X.prog X.w H s.heap a (.dT k) from I.ck a _ d)
   exact ab6 W.kitx_dict I.jy ⟨o,f,j.1⟩ e (λ z=>nomatch z) h
 | @ins a C G L d l v D Y B =>
   cases (show u=Value.ref a from r)
   obtain ⟨M,O,Z⟩:=qL I.ck d
   obtain ⟨N,J,Z⟩:=O.look
   exact ab6 (W.kitx_own (l.get _) l.hd v D Y B) I.jy J e (λ z=>nomatch z) h
end
structure cA (k:Nat) (A:Around):Prop where
 hd:A.handled=none
 dp:A.depth+3 * k+5<recursionLimit
 un:A.units+16 * k+200<cLine
def cA.mono {j k:Nat} {A:Around} (r:cA k A) (h:j<=k):cA j A:=⟨r.hd,by have:=r.dp;lia,by have:=r.un;lia⟩
theorem cA.deeper {k:Nat} {A:Around} (r:cA (k+1) A) (env:Env):cA k (A.deeper env) :=
 ⟨r.hd,by have:=r.dp;show A.depth+1+3 * k+5<_;lia,by have:=r.un;show A.units+3+16 * k+200<_;lia⟩
def AL {A:Around} {C:ag} {us:aU} {kw:List (Str×aq)}:(A.under (.builtin "type.__call__" ⟨.ref C::us,kw⟩)).depth=A.depth+1:=by
 first|rfl|simp [Around.under,Code.weight,Code.isCreation,Code.isGuard,Code.isCaller,Code.frames,Code.isFrame,guardIds]
def AG {A:Around} {C:ag} {us:aU} {kw:List (Str×aq)}:(A.under (.builtin "type.__call__" ⟨.ref C::us,kw⟩)).units=A.units+1:=by
 first|rfl|simp [Around.under,Code.cUnits,Code.frames,Code.isFrame]
def cA.make {k:Nat} {A:Around} (r:cA (k+1) A) (C:ag) (us:aU) (kw:List (Str×aq)):cA k (A.under (.builtin "type.__call__" ⟨.ref C::us,kw⟩)) :=
 ⟨r.hd,by have:=r.dp;rw [AL];lia,by have:=r.un;rw [AG];lia⟩
theorem cA.depth {k:Nat} {A:Around} (r:cA k A):A.depth<recursionLimit:=by have:=r.dp;lia
theorem cA.units {k:Nat} {A:Around} (r:cA k A):A.units+64<cLine:=by have:=r.un;lia
def Dt:TA:=λ Z H Q=>Q [] H
def OO (t:TE) (T:TA):TA:=λ U H Q=>t U H λ x h=>T U h λ X a=>Q (x::X) a
section
variable {X:Cx} {e:Expr} {es:List Expr} {te:TE} {t:TA} {pos:Pos}
def ac:PA X [] Dt:=λ Z Z Z Z H Q I h=>Calls.spliced_nil ⟨[],H,I,.nil,h⟩
def aa (d:PE X e te) (f:PA X es t) (g:autoParam (zu X e es) za_._auto_1):PA X (e::es) (OO te t):=by
 intro pos p s U H Q I h
 rw [g]
 show wpAny _ _ (spliced ((false,eval e X.env)::backTo pos (starEach es X.env))) _ _ s
 refine ado (cO (d p s U H _ I h) λ u S ⟨x,a,i,r,q⟩=>?_)
 exact cO (f pos p S U a _ i q) λ m l ⟨k,b,c,R,j⟩=>⟨x::k,b,c,.cons r R,j⟩
def Wc (t:TA):TE:=λ U H Q=>t U H λ x h=>x.length<=sizeLine/\∀ p,h p=none->Q (.ref p) (upd h p (.tup x))
def Td (t:TA):TE:=λ U H Q=>t U H λ x h=>x.length<=sizeLine/\∀ p,h p=none->Q (.ref p) (upd h p (.lst x))
def bI {x} (h:PA X es t):PE X (.Tuple es x pos) (Wc t):=by
 intro p s U H Q I d
 refine wpAny_Tuple_spliced (cO (h pos p s U H _ I d) λ f S ⟨g,a,i,r,z,q⟩=>⟨by rw [<- r.length];exact z,?_⟩)
 have c:a S.heap.objs.size=none:=i.ck.fresh (aac _)
 refine ⟨.ref S.heap.objs.size,upd a S.heap.objs.size (.tup g),i.laid (t':=S.toks) (λ b u e=>ZB _ e) (aac _) ?_,rfl,q _ c⟩
 exact ⟨z,f,r,⟨_,aaE _ rfl,rfl,_,rfl⟩⟩
def cY (h:PA X es t):PE X (.List es pos) (Td t):=by
 intro p s U H Q I d
 refine wpAny_List_spliced (cO (h pos p s U H _ I d) λ f S ⟨x,a,i,r,z,q⟩=>⟨by rw [<- r.length];exact z,?_⟩)
 have c:a S.heap.objs.size=none:=i.ck.fresh (aac _)
 refine ⟨.ref S.heap.objs.size,upd a S.heap.objs.size (.lst x),i.laid (t':=S.toks) (λ b u e=>ZB _ e) (aac _) ?_,rfl,q _ c⟩
 exact ⟨z,f,0,r,aaE _ rfl⟩
end
abbrev Sp:=aA->Hp->VK->XK->Prop
abbrev CH:=List Env->Hp->Shared->XK->aq->Shared->Prop
structure qi (P:bh) (w:bf) (K:aC) (mg:bR) (base:aO) (A:Around) (outer:List Env) (s:Shared) (H:Hp):Prop where
 frames:A.frames=some outer
 mod:Mod K mg base
 bs:∀ b o,base.get? b=some o->s.heap.get? b=some o/\H b=none
 CP:base.objs.size<=s.heap.objs.size
 jq:s.heap.FunFrames base outer
 BH:∀ b∈f8 outer,H b=none
 ck:jz P w H s.heap
 bare:AllBare s.gens
def CE (outer:List Env) (P:bh) (w:bf) (H:Hp) (s:Shared) (Q:VK) (u:aq) (s':Shared):Prop :=
 ∃ v h,s'.os=s.os/\AllBare s'.gens/\Un (f8 outer) [] H h s.heap s'.heap/\jz P w h s'.heap/\RelV v u/\Q v h
def CR (CX:CH) (outer:List Env) (P:bh) (w:bf) (H:Hp) (s:Shared) (Q:VK) (E:XK) (r:Result) (s':Shared):Prop :=
 match r with
 | .ok (.ret u)=>CE outer P w H s Q u s'
 | .ok _=>False
 | .error e=>CX outer H s E e s'
structure iN (P:bh) (w:bf) (K:aC) (mg:bR) (base:aO) (CX:CH) (k:Nat) (f:ag) (fd:FuncData) (ps:bN) (sp:Sp):Prop where
 len:∀ vs H Q E,sp vs H Q E->vs.length=ps.length
 run:∀ (A:Around) (outer:List Env) (s:Shared) (H:Hp) (args:Args) (us:aU) (vs:aA) (Q:VK) (E:XK),cA k A->qi P w K mg base A outer s H->BindsTo s fd args (ps.zip us)->Vals vs us->sp vs H Q E ->
   codeAny (model P w) A (.call (.ref f) args) (CR CX outer P w H s Q E) s
def qi.make {P:bh} {w:bf} {K:aC} {m:bR} {base:aO} {A:Around} {outer:List Env} {s:Shared} (e:qi P w K m base A outer s H) (C:ag) (us:aU) (kw:List (Str×aq)) :
   qi P w K m base (A.under (.builtin "type.__call__" ⟨.ref C::us,kw⟩)) outer s H:=⟨by first|exact e.frames|(simpa [Around.under,Code.envs,Code.isFrame,pushEnvs] using e.frames),e.mod,e.bs,e.CP,e.jq,e.BH,e.ck,e.bare⟩
section
variable {X:Cx} {pins:List (ag×Obj)} {U:St} {H:Hp} {s s':Shared}
def Inv.Bb (I:Inv X pins U H s):qi X.prog X.w X.K X.mg X.base X.A X.stack s H :=
 ⟨I.ok.frames,I.ok.mod,I.bs,aa3 I.ok.CP I.sz,I.stack,I.nY,I.ck,I.bare⟩
def Inv.after {u:aq} (I:Inv X pins U H s) (h:CE X.stack X.prog X.w H s Q u s'):EP X pins U Q u s':=by
 obtain ⟨v,a,O,B,f,c,r,q⟩:=h
 obtain ⟨e,g,d,t,o⟩:=s'
 obtain rfl:o=s.os:=O
 exact ⟨v,a,I.call (h':=e) (g':=g) (d':=d) (t':=t) (ch:=[]) f c B (λ b z=>absurd z (by simp)),r,q⟩
end
def BF (s:Sp) (f:aA) (E:XK) (t:TA):TE:=λ U H Q=>t U H λ v h=>s (v++f) h Q E
inductive MX (C:ag) (m:Str) (sp:Sp) (fD:aA) (E:XK) (t:TA) (U:St) (Q:VK) (x:V) (H1:Hp):Prop|mk (a dx:ag) (fs:List (Str×V)) (h1:x = .ref a) (h2:H1 a=some (.ins C dx fs)) (h3:fs.lookup m=none) (q:t U H1 λ vs H2=>sp (x::(vs++fD)) H2 Q E)
def pJ (C:ag) (m:Str) (s:Sp) (f:aA) (E:XK) (T:TE) (t:TA):TE:=λ U H Q=>T U H (MX C m s f E t U Q)
def Fn (C:ag) (s:Sp) (f:aA) (E:XK) (t:TA):TE:=λ U H Q=>t U H λ V h=>∀ x d,h x=none->h d=none->d≠x ->
 s (.ref x::(V++f)) (upd (upd h d (.own x)) x (.ins C d [])) (λ v a=>v = .bL/\Q (.ref x) a) E
def Binds (K:aC) (f:FuncData) (p:bN) (d:aU):Prop :=
 ∀ (s:Shared) (u:aU),K.In s.heap->(u++d).length=p.length->BindsTo s f ⟨u,[]⟩ (p.zip (u++d))
def Binds.all {K:aC} {f:FuncData} {p:bN} (h:∀ us:aU,us.length=p.length->bindArgs f ⟨us,[]⟩=pure (p.zip us)):Binds K f p []:=λ s us Z H=>by
 rw [aaT] at H |-
 exact .of_eq (h us H)
def Passes (CX:CH) (X:Cx) (E:XK):Prop:=∀ (p:List (ag×Obj)) (U:St) (H:Hp) (s:Shared) (e:aq) (s':Shared),Inv X p U H s->CX X.stack H s E e s'->X.xe e s'
section
variable {X:Cx} {CX:CH} {k:Nat} {f C:ag} {fd:FuncData} {ps:bN} {sp:Sp} {fD:aA} {ds:aU} {E:XK} {x m:Str} {p pos apos:Pos} {e o:Expr} {es:List Expr} {ta:TE} {t:TA}
def AT {p:List (ag×Obj)} {s:Shared} {us:aU} {vs:aA} (F:iN X.prog X.w X.K X.mg X.base CX k f fd ps sp) (i:cA k X.A) (c:Binds X.K fd ps ds) (d:Vals fD ds) (j:Passes CX X E) (I:Inv X p U H s) (r:Vals vs us) (h:sp (vs++fD) H Q E):wpAny (model X.prog X.w) X.A (call (.ref f) us) (EP X p U Q) X.xe s:=by
 have R:Vals (vs++fD) (us++ds):=r.append d
 have g:(us++ds).length=ps.length:=by rw [<- R.length];exact F.len _ _ _ _ h
 refine abX (abT (F.run X.A X.stack s H ⟨us,[]⟩ (us++ds) (vs++fD) Q E i I.Bb (c s us I.jy g) R h) λ r s' a=>?_)
 cases r with
 | error e=>exact j p U H s e s' I a
 | ok b =>
   cases b with
   | ret u=>exact I.after a
   | next=>exact False.elim a
   | brk=>exact False.elim a
   | cont=>exact False.elim a
def BQ (F:iN X.prog X.w X.K X.mg X.base CX k f fd ps sp) (o:cA k X.A) (l:Gl X x) (n:X.mg x=some (.ref f)) (m:W.keepIn X.K (.ref f)=true) (c:Binds X.K fd ps ds) (d:Vals fD ds) (u:Passes CX X E) (b:PA X (e::es) t) (v:autoParam (wO x) zb_._auto_1) (j:autoParam (zu X e es) za_._auto_1) (g:autoParam (wP X es pos) za_._auto_1) :
   PE X (.Call (.Name x p) (e::es) [] pos) (BF sp fD E t):=by
 intro a s U H Q I h
 refine abQ (ia I l n ?_ v)
 refine acj (h₀:=X.base) I.ok.mod.Bu m (cO (b pos a s U H _ I h) λ z S ⟨V,y,i,r,q⟩=>⟨i.jy,?_⟩) j g
 exact AT F o c d u i r q
def BB {pl:Sem Bool} (J:PE X o ta) (c:tH X.K C) (d:Meth X.K C m f) (F:iN X.prog X.w X.K X.mg X.base CX k f fd ps sp) (L:cA k X.A) (B:Binds X.K fd ps ds) (D:Vals fD ds) (N:Passes CX X E) (z:PA X (e::es) t) (y:autoParam (zu X e es) za_._auto_1) (G:autoParam (wP X es pos) za_._auto_1) (M:autoParam (eval (.Call (.Attribute o m apos) (e::es) [] pos) X.env=(do
     let O <- eval o X.env
     standAt apos.atName
     let (f,first) <- holding [O] (getMethod O m pl)
     callWith pos f first (backTo pos (starEach (e::es) X.env)) (backToKw pos (keywordEach [] X.env)))) za_._auto_1) :
   PE X (.Call (.Attribute o m apos) (e::es) [] pos) (pJ C m sp fD E ta t):=by
 intro p s U H Q I h
 refine acW (pl:=pl) (cO (J p s U H _ I h) λ u T ⟨x,j,i,S,a,W,Y,ex,n,l,q⟩=>?_) M
 subst ex
 obtain rfl:u=Value.ref a:=S
 refine j0 i n c d l ?_
 refine acj (first:=[.ref a]) (h₀:=X.base) I.ok.mod.Bu d.kp (cO (z pos p T U j _ i q) λ g s2 ⟨v,V,b,r,R⟩=>⟨b.jy,?_⟩) y G
 exact AT (us:=.ref a::g) (vs:=.ref a::v) F L B D N b (.cons rfl r) R
def G5 {pl:Sem Bool} (j:PE X o ta) (c:tH X.K C) (b:Meth X.K C m f) (F:iN X.prog X.w X.K X.mg X.base CX k f fd ps sp) (n:cA k X.A) (d:Binds X.K fd ps ds) (g:Vals fD ds) (t:Passes CX X E) (r:autoParam (eval (.Call (.Attribute o m apos) [] [] pos) X.env=(do
     let O <- eval o X.env
     standAt apos.atName
     let (f,first) <- holding [O] (getMethod O m pl)
     callWith pos f first (backTo pos (starEach [] X.env)) (backToKw pos (keywordEach [] X.env)))) za_._auto_1) :
   PE X (.Call (.Attribute o m apos) [] [] pos) (pJ C m sp fD E ta Dt):=by
 intro p s U H Q I h
 refine acW (pl:=pl) (cO (j p s U H _ I h) λ u S ⟨x,v,i,R,a,D,y,ex,e,l,q⟩=>?_) r
 subst ex
 obtain rfl:u=Value.ref a:=R
 refine j0 i e c b l ?_
 exact W.callWith_K0 (first:=[.ref a]) i.jy b.kp (AT (us:=[.ref a]) (vs:=[.ref a]) F n d g t i (.cons rfl .nil) q)
structure Mk (K:aC) (C f:ag):Prop where
 makes:W.makesIn K C=true
 init:W.findIn K (.ref C) "__init__" = some (some (.ref f))
 fn:W.isFn K (.ref f)=true
 kp:W.keepIn K (.ref C)=true
def FG {p:List (ag×Obj)} {s:Shared} {us:aU} {vs:aA} (M:Mk X.K C f) (F:iN X.prog X.w X.K X.mg X.base CX k f fd ps sp) (q:cA (k+1) X.A) (m:Binds X.K fd ps ds) (n:Vals fD ds) (t:Passes CX X E) (I:Inv X p U H s) (r:Vals vs us) (h:∀ x d,H x=none->H d=none->d≠x->sp (.ref x::(vs++fD)) (upd (upd H d (.own x)) x (.ins C d [])) (λ v c=>v = .bL/\Q (.ref x) c) E) :
   wpAny (model X.prog X.w) X.A (call (.ref C) us) (EP X p U Q) X.xe s:=by
 have a:=h (s.heap.objs.size+1) s.heap.objs.size (I.ck.fresh (abY _)) (I.ck.fresh (aac _)) (aas (Nat.lt_succ_self _))
 have i:=Inv.made (C:=C) I
 have R:Vals (V.ref (s.heap.objs.size+1)::(vs++fD)) (Value.ref (s.heap.objs.size+1)::(us++ds)):=.cons rfl (r.append n)
 have o:(Value.ref (s.heap.objs.size+1)::us++ds).length=ps.length:=by
   have e:=R.length
   rw [F.len _ _ _ _ a] at e
   exact e.symm
 refine abX (Fx (f:=f) I.jy M.makes M.init (abC.mp M.fn) (abT (F.run _ X.stack _ _ ⟨Value.ref (s.heap.objs.size+1)::us,[]⟩ (Value.ref (s.heap.objs.size+1)::(us++ds)) _ _ E (q.make C us [])
   (i.Bb.make C us []) (m _ (Value.ref (s.heap.objs.size+1)::us) i.jy o) R a) λ r s' G=>?_))
 cases r with
 | error e=>exact t p U _ _ e s' i G
 | ok l =>
   cases l with
   | ret u =>
     obtain ⟨v,b,g,z,j,y⟩:=i.after G
     subst j
     exact ⟨z,⟨V.ref (s.heap.objs.size+1),b,g,rfl,y⟩⟩
   | next=>exact False.elim G
   | brk=>exact False.elim G
   | cont=>exact False.elim G
def JM (M:Mk X.K C f) (F:iN X.prog X.w X.K X.mg X.base CX k f fd ps sp) (n:cA (k+1) X.A) (l:Gl X x) (m:X.mg x=some (.ref C)) (c:Binds X.K fd ps ds) (d:Vals fD ds) (o:Passes CX X E) (b:PA X (e::es) t) (u:autoParam (wO x) zb_._auto_1) (j:autoParam (zu X e es) za_._auto_1) (g:autoParam (wP X es pos) za_._auto_1) :
   PE X (.Call (.Name x p) (e::es) [] pos) (Fn C sp fD E t):=by
 intro a s U H Q I h
 refine abQ (ia I l m ?_ u)
 refine acj (h₀:=X.base) I.ok.mod.Bu M.kp (cO (b pos a s U H _ I h) λ y S ⟨V,v,i,r,q⟩=>⟨i.jy,?_⟩) j g
 exact FG M F n c d o i r q
end
structure az (N P:bN) (sc:Scope):Prop where
 kind:sc.kind = .function
 co:sc.isCoroutine=false
 gen:sc.isGenerator=false
 nd:N.Nodup
 pre:N.take P.length=P
 par:∀ x∈P,sc.names.lookup x=some .local\/sc.names.lookup x=some .cell
 Lw:∀ y∈sc.names,y.2 ≠ .free
theorem uE {k:Str->Option NameKind} {x:Str}:∀ {b:List (Str×aq)} {m:bR},(∀ v,(x,v)∉b)->bindL k b m x=m x
 | [],_,_=>rfl
 | (n,v)::r,m,h=>by
   unfold bindL
   rw [uE λ w hw=>h w (aao _ hw)]
   split
   . have:x≠n:=by rintro rfl;exact h v aaz
     simp [this]
   . rfl
theorem t8 {k:Str->Option NameKind} {x:Str}:∀ {b:List (Str×aq)} {m:bR},(∀ v,(x,v)∉b)->bindC k b m x=m x
 | [],_,_=>rfl
 | (n,v)::r,m,h=>by
   unfold bindC
   rw [t8 λ w hw=>h w (aao _ hw)]
   split
   . rfl
   . have:x≠n:=by rintro rfl;exact h v aaz
     simp [this]
theorem ue {k:Str->Option NameKind} {x:Str} {v:aq}:∀ {P:bN} {vs:aU} {i:Nat} {m:bR},P.Nodup->P[i]?=some x->vs[i]?=some v->k x=some .local ->
   bindL k (P.zip vs) m x=some v
 | [],_,_,_,_,h,_,_=>by simp at h
 | _::_,[],_,_,_,_,h,_=>by simp at h
 | p::P,w::vs,0,m,n,H,a,b=>by
   simp at H a;subst H;subst a
   show bindL k ((p,w)::P.zip vs) m p=_
   unfold bindL
   rw [uE λ v c=>(abo.mp n).1 (ack c).1,aaq b]
   simp
 | p::P,w::vs,i+1,m,n,H,a,b=>by
   show bindL k ((p,w)::P.zip vs) m x=_
   unfold bindL
   exact ue (i:=i) (abo.mp n).2 (by simpa using H) (by simpa using a) b
theorem uh {k:Str->Option NameKind} {x:Str} {v:aq}:∀ {P:bN} {vs:aU} {i:Nat} {m:bR},P.Nodup->P[i]?=some x->vs[i]?=some v->k x≠some .local ->
   bindC k (P.zip vs) m x=some v
 | [],_,_,_,_,h,_,_=>by simp at h
 | _::_,[],_,_,_,_,h,_=>by simp at h
 | p::P,w::vs,0,m,n,H,a,b=>by
   simp at H a;subst H;subst a
   show bindC k ((p,w)::P.zip vs) m p=_
   unfold bindC
   rw [t8 λ v c=>(abo.mp n).1 (ack c).1,aal b]
   simp
 | p::P,w::vs,i+1,m,n,H,a,b=>by
   show bindC k ((p,w)::P.zip vs) m x=_
   unfold bindC
   exact uh (i:=i) (abo.mp n).2 (by simpa using H) (by simpa using a) b
def start (N:bN) (vs:aA):St:=vs.map some++List.replicate (N.length - vs.length) none
def dh (CX:CH) (P:bh) (w:bf) (K:aC) (mg:bR) (base:aO) (N:bN) (q:Str) (S:Scope) (f:ag) (c:aq) (A:Around) (outer:List Env) (s:Shared) (H:Hp) (E:XK):Cx where
 prog:=P
 w:=w
 K:=K
 mg:=mg
 base:=base
 A:=A.deeper (envOfC q S s.heap.objs.size f c)
 N:=N
 s₀:=s
 H₀:=H
 env:=envOfC q S s.heap.objs.size f c
 outer:=outer
 stack:=envOfC q S s.heap.objs.size f c::outer
 ex:=[]
 calm:=true
 fn:=λ Z=>true
 pn:=[]
 xe:=λ e s'=>wpAny (model P w) (A.deeper (envOfC q S s.heap.objs.size f c)) (leaving (envOfC q S s.heap.objs.size f c) e) (λ Z R=>CX outer H s E e R) (λ a R=>CX outer H s E a R) s'
def zk {s:Scope} {n:Nat} {x:Str} (h:s.names.lookup x=some .cell):∃ c,(cellsFrom n s.names []).lookup x=some c:=by
 have q:=acO s.names n [] (.inl h)
 exact abg.mp q
def oO {CX:CH} {P:bh} {w:bf} {K:aC} {M:bR} {base:aO} {N m:bN} {d:Scope} {f:ag} {C:aq} {A:Around} {outer:List Env} {s s1:Shared} {E:XK} {us:aU} {vs:aA} (S:az N m d) (I:A.handled=none) (j:qi P w K M base A outer s H) (O:vs.length=m.length) (r:Vals vs us) (x:InCallC s s.heap.objs.size (bindL (envOfC qual d s.heap.objs.size f C).kindOf (m.zip us) λ Z=>none) (cellsFrom (s.heap.objs.size+1) d.names []) (bindC (envOfC qual d s.heap.objs.size f C).kindOf (m.zip us) λ Z=>none) s1) :
   Inv (dh CX P w K M base N qual d f C A outer s H E) [] (start N vs) H s1:=by
 have J:m.length<=N.length:=by have:=abK List.length S.pre;rw [aat] at this;lia
 obtain ⟨t,T,rfl,D⟩:=x.done
 have Q:∀ b:ag,b∉(dh CX P w K M base N qual d f C A outer s H E).ex:=λ b z=>absurd (show b∈([]:cM) from z) (by simp)
 refine ⟨⟨j.mod,S.kind,rfl,rfl,aac _,λ y z c t g=>?_,λ y l=>?_,λ y c Z h=>?_,λ Z=>I,ac3 j.frames,.inr ⟨rfl,rfl⟩,λ b z=>absurd z (Q b),j.bs,j.CP,λ b Z Z=>Q b,λ b z=>absurd z (Q b),j.jq,j.BH⟩,
   rfl,j.bare,Un.kept D,⟨_,x.toInCall.ns,λ i y v t g L=>?_⟩,λ y c h=>⟨_,x.cell y c h⟩,j.ck.fresh (aac _),λ y c h=>?_,λ p o=>absurd (show p∈([]:List (ag×Obj)) from o) (by simp),j.ck.kept D,?_⟩
 . exact name_of_addr x.apart (abn t) (abn g)
 .
  have l:d.names.lookup y=some .cell\/d.names.lookup y=some .free:=l
  rcases l with l|l
  . exact zk l
  . exact absurd rfl (S.Lw _ (abn l))
 . exact ac5 (x.above y c (abn h))
 .
  have B:i<vs.length:=by
    unfold start at g
    by_cases B:i<vs.length
    . exact B
    . rw [aaL (by simpa using B)] at g
      rw [acz] at g
      split at g<;>cases g
  have G:vs[i]?=some v:=by
    unfold start at g
    rw [aaM (by simpa using B),RI] at g
    cases e:vs[i]? with
    | none=>rw [e] at g;cases g
    | some a=>rw [e] at g;cases g;rfl
  obtain ⟨u,F,R⟩:=r.get G
  have o:m[i]?=some y:=by
    rw [<- S.pre,abZ (by lia)];exact t
  have Y:m.Nodup:=by rw [<- S.pre];exact S.nd.sublist (List.take_sublist _ _)
  refine ⟨u,R,?_⟩
  rcases S.par y (aaO o) with k|k
  . exact .inl ⟨k,ue Y o F k⟩
  .
   obtain ⟨c,e⟩:=zk (n:=s.heap.objs.size+1) k
   refine .inr ⟨.inl k,c,e,?_⟩
   have q:=x.cell y c e
   rw [uh Y o F (by show d.names.lookup y≠_;rw [k];decide)] at q
   exact q
 . exact j.ck.fresh (ac5 (x.above y c (abn h)))
 .
  unfold start
  show _=N.length
  rw [aad,Bl,aby]
  lia
def FJ {CX:CH} {P:bh} {w:bf} {K:aC} {m:bR} {base:aO} {k:Nat} {f:ag} {name:Str} {p:Arguments} {B:List Stmt} {a:Scope} {G kV D M d ct oc:aq} {C od:Option ag} {qz:Array (iO)} {N j:bN} {sp:Sp} (lk:K.lookup f=some ⟨oc,od,.func (W.fnOf name qual p B a G kV D M C d ct),qz⟩) (je:W.codeIn K d qual=true) (S:az N j a) (len:∀ vs H Q E,sp vs H Q E->vs.length=j.length) (T:∀ (A:Around) (outer:List Env) (s:Shared) (H:Hp) (vs:aA) (Q:VK) (E:XK),cA k (A.deeper (envOfC qual a s.heap.objs.size f d))->sp vs H Q E ->
     ∃ t,l8 (dh CX P w K m base N qual a f d A outer s H E) B t/\t { nx:=λ _ h=>Q .bL h,rt:=Q } (start N vs) H) :
   iN P w K m base CX (k+1) f (W.fnOf name qual p B a G kV D M C d ct) j sp:=by
 refine ⟨len,λ A outer s H args us vs Q E l i X r O=>?_⟩
 have hl:=len _ _ _ _ O
 have z:K.In s.heap:=i.mod.Bu.keeps λ b o e=>(i.bs b o e).1
 have L:s.heap.NoLimit:=i.mod.nolimit.keeps λ b o e=>(i.bs b o e).1
 have zj:∀ y∈j.zip us,a.names.lookup y.1=some .local\/(a.names.lookup y.1=some .cell/\((cellsFrom (s.heap.objs.size+1) a.names []).lookup y.1).isSome=true):=λ ⟨n,v⟩ hy=>by
   rcases S.par n (ack hy).1 with q|q
   . exact .inl q
   . exact .inr ⟨q,acO _ _ _ (.inl q)⟩
 refine acV l.depth (z _ _ lk) rfl S.co S.gen rfl (W.codeRec_of z je) (X _ _ _ _ ?_)
 refine acx S.kind zj λ env Y s1 x=>?_
 subst Y
 refine ⟨L.keeps x.toInCall.keep,codeAny_func ?_⟩
 obtain ⟨t,ht,hq⟩:=T A outer s H vs Q E (l.deeper _) O
 have I:Inv (dh CX P w K m base N qual a f d A outer s H E) [] (start N vs) H s1:=oO S l.hd i hl r x
 refine aau (ht [] s1 (start N vs) H _ I hq) (λ U s' g=>?_) λ e s' g=>g
 have F:∀ {c:St} {h:Hp} {v:V} {u:aq},Inv (dh CX P w K m base N qual a f d A outer s H E) [] c h s'->RelV v u->Q v h->CE outer P w H s Q u s' :=
   λ {c h v u} J R q=>⟨v,h,J.os,J.bare,J.base,J.ck,R,q⟩
 cases U with
 | ret u =>
   obtain ⟨v,c,h,J,R,q⟩:=g
   exact F J R q
 | next =>
   obtain ⟨c,h,J,q⟩:=g
   exact F (v:=V.bL) (u:=Value.none) J rfl q
 | brk =>
   obtain ⟨_,_,_,q⟩:=g
   exact False.elim q
 | cont =>
   obtain ⟨_,_,_,q⟩:=g
   exact False.elim q
section
variable {X:Cx} {x:Str} {p pos:Pos} {e:Expr} {es:List Expr} {t:TA} {id T:String} {r:aA->Hp->VK->Prop}
def W9 (r:aA->Hp->VK->Prop) (t:TA):TE:=λ U H Q=>t U H λ v h=>r v h Q
def aT (d:ir X (.builtin id) r) (j:Gl X x) (k:X.mg x=none) (m:bootBuiltins x=some (.builtin id)) (c:PA X (e::es) t) (l:autoParam (x ≠ "__name__") zb_._auto_1) (n:autoParam (wO x) zb_._auto_1) (f:autoParam (zu X e es) za_._auto_1) (g:autoParam (wP X es pos) za_._auto_1):PE X (.Call (.Name x p) (e::es) [] pos) (W9 r t):=by
 intro a s U H Q I h
 refine abQ (kF I j k m ?_ l n)
 exact PyProof.Rows.callWith_builtin1 (cO (c pos a s U H _ I h) λ u S ⟨v,b,i,R,q⟩=>d a S U b v u Q i R q) f g
def dC (d:ir X (.type T) r) (j:Gl X x) (k:X.mg x=none) (m:bootBuiltins x=some (.type T)) (c:PA X (e::es) t) (l:autoParam (x ≠ "__name__") zb_._auto_1) (n:autoParam (wO x) zb_._auto_1) (f:autoParam (zu X e es) za_._auto_1) (g:autoParam (wP X es pos) za_._auto_1):PE X (.Call (.Name x p) (e::es) [] pos) (W9 r t):=by
 intro a s U H Q I h
 refine abQ (kF I j k m ?_ l n)
 exact aa7 (cO (c pos a s U H _ I h) λ u S ⟨v,b,i,R,q⟩=>d a S U b v u Q i R q) f g
end
end L2
namespace HT
open PySem PyProof.Rows
def lexLt:List Int->List Int->Bool
 | [],[]=>false
 | [],_::_=>true
 | _::_,[]=>false
 | x::xs,y::ys=>if x=y then lexLt xs ys else decide (x<y)
section
def sY (n d:Nat):Option Int->Nat
 | none=>d
 | some v=>if v<0 then (v+(n:Int)).toNat else min v.toNat n
def FW (n d:Nat):sY n d none=d:=rfl
def J2 (n d k:Nat):sY n d (some (k:Int))=min k n:=by
 show (if (k:Int)<0 then ((k:Int)+(n:Int)).toNat else min (k:Int).toNat n)=min k n
 rw [aal (by lia),abe]
end
end HT
namespace L2
open PySem PySem.Spec PyProof.Rows
variable {H H':Hp} {t':Nat} {v:V} {U:St}
abbrev TO:=St->Hp->(Option Int->Hp->Prop)->Prop
def PO (X:Cx) (e:Option Expr) (t:TO):Prop :=
 ∀ (p:List (ag×Obj)) (s:Shared) (U:St) (H:Hp) (Q:Option Int->Hp->Prop),Inv X p U H s->t U H Q ->
   wpAny (model X.prog X.w) X.A (evalPart e X.env) (λ u S=>∃ o H',Inv X p U H' S/\IsPart u o/\Q o H') X.xe s
def JW:TO:=λ Z H Q=>Q none H
def N9 (t:TE):TO:=λ U H Q=>t U H λ x h=>∃ i,x = .int i/\Q (some i) h
section
variable {X:Cx} {e:Expr} {te:TE} {lo hi:Option Expr} {tl th:TO} {pos p2:Pos}
def vC:PO X none JW:=by
 intro p s U H Q I h
 rw [evalPart_none]
 exact aak ⟨none,H,I,.none,h⟩
def jF (h:PE X e te):PO X (some e) (N9 te):=by
 intro p s U H Q I c
 rw [evalPart_some]
 refine cO (h p s U H _ I c) λ u S ⟨x,a,b,r,d⟩=>?_
 obtain ⟨i,rfl,q⟩:=d
 obtain ⟨t,rfl⟩:=r
 exact ⟨some i,a,b,.int i t,q⟩
def Uw (X:Cx) (r:V->Option Int->Option Int->Hp->VK->Prop):Prop :=
 ∀ (p:List (ag×Obj)) (s:Shared) (U:St) (H:Hp) (x:V) (v a b:aq) (lo hi:Option Int) (sl:ag) (Q:VK),Inv X p U H s->RelV x v->s.heap.IsSliceOf sl a b .none->IsPart a lo->IsPart b hi->r x lo hi H Q ->
   ∃ T id,typeLookup (.type T) "__getitem__" = pure (some (.builtin id))/\s.TypeIs v T/\wpAny (model X.prog X.w) X.A (getItem v (.ref sl)) (EP X p U Q) X.xe s
def tSl (r:V->Option Int->Option Int->Hp->VK->Prop) (t:TE) (c T:TO):TE:=λ U H Q=>t U H λ x h=>c U h λ l a=>T U a λ u b=>r x l u b Q
def ko {r:V->Option Int->Option Int->Hp->VK->Prop} (z:Uw X r) (o:PE X e te) (y:PO X lo tl) (C:PO X hi th):PE X (.Subscript e (.Slice lo hi none p2) pos) (tSl r te tl th):=by
 intro p s U H Q I h
 refine Subscript_ (cO (o p s U H _ I h) λ v K ⟨x,f,i,R,F⟩=>?_)
 refine wpAny_Slice (cO (y p K U f _ i F) λ a L ⟨l,g,j,D,G⟩=>cO (C p L U g _ j G) λ c S ⟨u,d,k,E,J⟩=>?_)
 rw [evalPart_none]
 refine aak ?_
 have m:Inv X p U d { S with heap:=S.heap.push { cls:=.type "slice",data:=.fields #[a,c,.none]}}:=k.kept (t':=S.toks) λ b O q=>ZB _ q
 obtain ⟨T,id,n,B,t⟩:=z p { S with heap:=S.heap.push { cls:=.type "slice",data:=.fields #[a,c,.none]}} U d x v a c l u S.heap.objs.size Q m R (Heap.IsSliceOf.new ..) D E J
 show wpAny (model X.prog X.w) X.A (subscriptTail e (.Slice lo hi none p2) v (.ref S.heap.objs.size)) (EP X p U Q) X.xe { S with heap:=S.heap.push { cls:=.type "slice",data:=.fields #[a,c,.none]}}
 exact tail_any (ops:=[.ref S.heap.objs.size,v]) B n t (by with_unfolding_all rfl)
def pB (xs:aA) (lo h:Option Int):aA:=(xs.drop (HT.sY xs.length 0 lo)).take (HT.sY xs.length xs.length h - HT.sY xs.length 0 lo)
def pR (xs:aA) (lo h:Option Int):(pB xs lo h).length<=xs.length:=by
 unfold pB
 rw [aat,List.length_drop]
 lia
end
def Ew (n:Nat) (i:Int):Option Nat:=if 0<=i then (if i<n then some i.toNat else none) else if -(n:Int)<=i then some (i+n).toNat else none
def tM {α:Type} (xs:List α) (i:Int):Option α:=(Ew xs.length i).bind λ j=>xs[j]?
def BK {n:Nat} {i:Int} {j:Nat} (h:Ew n i=some j):seqIndex? i n=some j/\j<n/\-(n:Int)<=i/\i<n:=by
 unfold Ew at h
 by_cases a:0<=i
 .
  rw [aaq a] at h
  by_cases H:i<n
  . rw [aaq H] at h
    have e:i.toNat=j:=aai h
    exact ⟨by rw [seqIndex_of a H,e],by lia,by lia,H⟩
  . rw [aal H] at h;cases h
 .
  rw [aal a] at h
  by_cases H : -(n:Int)<=i
  . rw [aaq H] at h
    have e:(i+n).toNat=j:=aai h
    exact ⟨by rw [seqIndex_neg (by lia) H,e],by lia,H,by lia⟩
  . rw [aal H] at h;cases h
def Ck {a:Type} {xs:List a} {i:Int} {v:a} (h:tM xs i=some v):∃ j,seqIndex? i xs.length=some j/\xs[j]?=some v/\j<xs.length/\-(xs.length:Int)<=i/\i<xs.length:=by
 unfold tM at h
 cases e:Ew xs.length i with
 | none=>rw [e] at h;cases h
 | some j =>
   rw [e] at h
   obtain ⟨H,b,c,d⟩:=BK e
   exact ⟨j,H,h,b,c,d⟩
def bB {a:Type} {xs:List a} {j:Nat} {v:a} (h:xs[j]?=some v):tM xs (j:Int)=some v:=by
 have H:j<xs.length:=(Yp.mp h).1
 have e:Ew xs.length (j:Int)=some j:=by
   unfold Ew
   rw [aaq (by lia),aaq (by lia)];simp
 unfold tM;rw [e];exact h
def Ic (b:Expr):Prop:=∀ o i,subscripted b false o i=operate [o,i] (getItem o i)
def ND (X:Cx) (r:R2):Prop :=
 ∀ (a S:Expr) (p:List (ag×Obj)) (s:Shared) (U:St) (H:Hp) (x y:V) (v u:aq) (Q:VK),Inv X p U H s->RelV x v->RelV y u->r x y H Q ->
   subscripted S false v u=operate [v,u] (getItem v u)->wpAny (model X.prog X.w) X.A (subscriptTail a S v u) (EP X p U Q) X.xe s
def NQ (X:Cx) (id:String) (r:V->aA->Hp->VK->Prop):Prop :=
 ∀ (p:List (ag×Obj)) (s:Shared) (U:St) (H:Hp) (x:V) (a:aA) (v:aq) (u:aU) (Q:VK),Inv X p U H s->RelV x v->Vals a u->r x a H Q ->
   wpAny (model X.prog X.w) X.A (call (.builtin id) (v::u)) (EP X p U Q) X.xe s
section
variable {X:Cx} {a b:Expr} {ta tb:TE} {pos:Pos}
def aE {r:R2} (f:ND X r) (d:PE X a ta) (e:PE X b tb) (g:Ic b:=by exact λ Z Z=>rfl):PE X (.Subscript a b pos) (PB r ta tb):=by
 intro p s U H Q I h
 exact Subscript_ (MC d e I h λ v u S x y c i R j q=>f a b p S U c x y v u Q i R j q (g _ _))
inductive Vy (K:aC) (x:V) (y:V) (H:Hp) (Q:VK):Prop|mk (p xs i v:_) (_:x = .ref p) (_:y = .int i) (_:bw K H p xs) (_:tM xs i=some v) (_:Q v H)
inductive V1 (K:aC) (x:V) (y:V) (H:Hp) (Q:VK):Prop|mk (p xs i v:_) (_:x = .ref p) (_:y = .int i) (_:cH K H p xs) (_:tM xs i=some v) (_:Q v H)
def IM:ND X (Vy X.K):=by
 intro V S a s U H x y v u Q I R D h k
 obtain ⟨p,M,i,z,rfl,rfl,C,o,q⟩:=h
 cases R
 obtain ⟨t,rfl⟩:=D
 obtain ⟨B,r,d,L⟩:=I.list C
 obtain ⟨j,b,l,F,m,n⟩:=Ck o
 obtain ⟨w,e,G⟩:=r.get l
 have A:=r.length
 have J:=vB
 have f:EP X a U Q w s:=⟨z,H,I,G,q⟩
 by_cases g:0<=i
 .
  have c:i.toNat=j:=by
    rw [seqIndex_of g n] at b
    exact aai b
  exact item_listR d.isList g (by lia) (by rw [c];simpa using e) f k
 .
  have c:(i+(B.toArray.size:Int)).toNat=j:=by
    rw [seqIndex_neg (by lia) m] at b
    rw [aar,<- A]
    exact aai b
  exact subscriptTail_builtinR (x:=w) d.isList.typeIs slot_list_getitem.lookup
    (wpAny_getItem_list_neg (Q:=λ r E=>r=w/\EP X a U Q r E) d.isList (by lia) (by rw [aar]<;>lia) (by lia) (by rw [c];simpa using e) ⟨rfl,f⟩) k
def K2:ND X (V1 X.K):=by
 intro V S a s U H x y v u Q I R n h m
 obtain ⟨p,J,i,z,rfl,rfl,l,g,q⟩:=h
 cases R
 obtain ⟨t,rfl⟩:=n
 obtain ⟨B,r,b,F⟩:=I.tuple l
 obtain ⟨j,c,d,A,C,D⟩:=Ck g
 obtain ⟨w,e,G⟩:=r.get d
 have k:=r.length
 have E:=vB
 have f:EP X a U Q w s:=⟨z,H,I,G,q⟩
 exact subscriptTail_builtinR (x:=w) b.typeIs slot_tuple_getitem.lookup
   (getItem_tuple (j:=j) (Q:=λ r o=>r=w/\EP X a U Q r o) b (by lia) (by lia) (by rw [aar,<- k];exact c) (by simpa using e) ⟨rfl,f⟩) m
def zM (b:aU) (n j:Nat) (u:aq):Obj.mapSeq (·.setIfInBounds j u) { cls:=.type "list",data:=.seq b.toArray n }={ cls:=.type "list",data:=.seq (b.set j u).toArray n }:=by
 simp [Obj.mapSeq]
theorem Inv.lst {a:List (ag×Obj)} {s:Shared} {p:ag} {xs:aA} (I:Inv X a U H s) (h:H p=some (.lst xs)) :
   ∃ (b:aU) (n:Nat),Vals xs b/\s.heap.get? p=some { cls:=.type "list",data:=.seq b.toArray n }/\xs.length<=sizeLine:=by
 obtain ⟨z,b,n,r,e⟩:=I.ck p _ h
 exact ⟨b,n,r,e,z⟩
def Inv.MJ {a:List (ag×Obj)} {s:Shared} {p:ag} {xs ys:aA} {B its':aU} {n N:Nat} {f:Obj->Obj} (I:Inv X a U H s) (h:H p=some (.lst xs)) (g:s.heap.get? p=some { cls:=.type "list",data:=.seq B.toArray n }) (c:f { cls:=.type "list",data:=.seq B.toArray n }={ cls:=.type "list",data:=.seq its'.toArray N }) (r:Vals ys its') (i:ys.length<=sizeLine) (t:Nat) :
   Inv X a U (upd H p (.lst ys)) { s with heap:=s.heap.update p f,toks:=t }:=by
 have e:(s.heap.update p f).get? p=some { cls:=.type "list",data:=.seq its'.toArray N }:=by
   rw [abE f g (by rw [c]<;>rfl),c]
 refine I.write (x:=p) (e:=p) (by rw [h];trivial) (.inl rfl) (λ b u d q=>(abA _ _ (abt d)).trans q) ⟨_,e⟩ ?_
 exact ⟨i,its',N,r,e⟩
def NA:V->V->V->Hp->(Hp->Prop)->Prop:=λ o i v H Q=>∃ p x k j,o = .ref p/\i = .int k/\H p=some (.lst x)/\Ew x.length k=some j/\Q (upd H p (.lst (x.set j v)))
def set_list:Pp X NA:=by
 intro a s U H o i v O F u Q I z R A h
 obtain ⟨p,C,k,j,rfl,rfl,w,x,q⟩:=h
 cases z
 obtain ⟨t,rfl⟩:=R
 obtain ⟨B,n,r,e,y⟩:=I.lst w
 obtain ⟨b,D,l,m⟩:=BK x
 have d:=r.length
 have E:=vB
 have f:Inv X a U (upd H p (.lst (C.set j v))) { s with heap:=s.heap.update p (Obj.mapSeq (·.setIfInBounds j u))} :=
   I.MJ w e (zM B n j u) (r.set A j) (by rw [abM];exact y) s.toks
 by_cases g:0<=k
 .
  have c:k.toNat=j:=by
    rw [seqIndex_of g m] at b
    exact aai b
  exact W.ki_setAt e g (by lia) (by rw [aar,<- d];exact m) (by rw [c];exact ⟨_,f,q⟩)
 .
  have c:(k+(B.toArray.size:Int)).toNat=j:=by
    rw [seqIndex_neg (by lia) l] at b
    rw [aar,<- d]
    exact aai b
  exact W.ki_setBack e (by lia) (by rw [aar,<- d];exact l) (by lia) (by rw [c];exact ⟨_,f,q⟩)
def wx (lo H:Option Int) (n:Nat):(sliceBounds lo H none n).1=((HT.sY n 0 lo:Nat):Int)/\(sliceBounds lo H none n).2.1=((HT.sY n n H:Nat):Int)/\(sliceBounds lo H none n).2.2=1:=by
 refine ⟨?_,?_,rfl⟩
 .
  cases lo with
  | none=>simp [sliceBounds,HT.sY]
  | some i =>
    simp only [sliceBounds,HT.sY,Option.getD_none,show (1:Int) > 0 by decide,abR]
    by_cases h:i<0
    . simp only [h,abR]<;>lia
    . simp only [h,ach]<;>lia
 .
  cases H with
  | none=>simp [sliceBounds,HT.sY]
  | some i =>
    simp only [sliceBounds,HT.sY,Option.getD_none,show (1:Int) > 0 by decide,abR]
    by_cases h:i<0
    . simp only [h,abR]<;>lia
    . simp only [h,ach]<;>lia
def tD (b:aU) (lo h:Option Int):slicePick b.toArray lo h none=((b.drop (HT.sY b.length 0 lo)).take (HT.sY b.length b.length h - HT.sY b.length 0 lo)).toArray:=by
 obtain ⟨H,a,c⟩:=wx lo h b.toArray.size
 unfold slicePick
 rw [H,a,c]
 simp only [sliceRange_one,pick_run,aar]<;>rfl
inductive RP (K:aC) (x:V) (lo:Option Int) (hi:Option Int) (H:Hp) (Q:VK):Prop|mk (a xs:_) (_:x = .ref a) (_:bw K H a xs) (_:∀ p,H p=none->Q (.ref p) (upd H p (.lst (pB xs lo hi))))
def vE:Uw X (RP X.K):=by
 intro p s U H x v V n l e sl Q I R g k m h
 obtain ⟨a,c,rfl,i,q⟩:=h
 cases R
 obtain ⟨B,r,f,j⟩:=I.list i
 have d:=r.length
 refine ⟨"list",_,slot_list_getitem.lookup,f.isList.typeIs,?_⟩
 refine wpAny_getItem_list_slice f.isList g k m .none (by simp) ?_ (by rw [aar]<;>lia)
 rw [tD,<- d]
 refine ⟨.ref s.heap.objs.size,_,I.laid (t':=s.toks) (o:=.lst (pB c l e)) (λ b O q=>ZB _ q) (aac _) ?_,rfl,q _ (I.ck.fresh (aac _))⟩
 exact ⟨aa3 (pR c l e) j,_,0,(r.drop (HT.sY c.length 0 l)).take (HT.sY c.length c.length e - HT.sY c.length 0 l),aaE _ rfl⟩
def oi:V->Bool
 | .bL=>true
 | .bl _=>true
 | .int _=>true
 | .str _=>true
 | _=>false
def Kw:V->V->Bool
 | .bL,.bL=>true
 | .bl a,.bl b=>a == b
 | .bl a,.int b=>(if a then 1 else 0) == b
 | .int a,.bl b=>a == (if b then 1 else 0)
 | .int a,.int b=>a == b
 | .str a,.str b=>a == b
 | _,_=>false
def Mu {A:Around} {s:Shared} {y x:V} {u v:aq} (R:RelV y u) (r:RelV x v) (F:oi y=true) (f:oi x=true):SeqAt.EqAt A s u v (Kw y x):=by
 cases y with
 | bL =>
   cases R
   cases x with
   | bL=>cases r;exact SeqAt.EqAt.same _
   | bl b=>cases r;exact SeqAt.EqAt.none_bool b
   | int b=>obtain ⟨t,rfl⟩:=r;exact SeqAt.EqAt.none_int b t
   | str b=>obtain ⟨t,rfl⟩:=r;exact SeqAt.EqAt.none_str b t
   | _=>exact absurd (show false=true from f) aah
 | bl a =>
   cases R
   cases x with
   | bL=>cases r;exact SeqAt.EqAt.bool_none a
   | bl b=>cases r;exact ac0 a b
   | int b=>obtain ⟨t,rfl⟩:=r;exact SeqAt.EqAt.bool_int a b t
   | str b=>obtain ⟨t,rfl⟩:=r;exact SeqAt.EqAt.bool_str a b t
   | _=>exact absurd (show false=true from f) aah
 | int a =>
   obtain ⟨t',rfl⟩:=R
   cases x with
   | bL=>cases r;exact SeqAt.EqAt.int_none a t'
   | bl b=>cases r;exact SeqAt.EqAt.int_bool a t' b
   | int b=>obtain ⟨t,rfl⟩:=r;exact SeqAt.EqAt.int_int a t' b t
   | str b=>obtain ⟨t,rfl⟩:=r;exact SeqAt.EqAt.int_str a t' b t
   | _=>exact absurd (show false=true from f) aah
 | str a =>
   obtain ⟨t',rfl⟩:=R
   cases x with
   | bL=>cases r;exact SeqAt.EqAt.str_none a t'
   | bl b=>cases r;exact SeqAt.EqAt.str_bool a t' b
   | int b=>obtain ⟨t,rfl⟩:=r;exact SeqAt.EqAt.str_int a t' b t
   | str b=>obtain ⟨t,rfl⟩:=r;exact SeqAt.EqAt.str_str a t' b t
   | _=>exact absurd (show false=true from f) aah
 | _=>exact absurd (show false=true from F) aah
def J0 (x:V) (u:aq):Bool:=match u with
 | .none=>Kw .bL x
 | .bool b=>Kw (.bl b) x
 | .int i _=>Kw (.int i) x
 | .str z _=>Kw (.str z) x
 | _=>false
def E7 {x y:V} {u:aq} (r:RelV y u) (f:oi y=true):J0 x u=Kw y x:=by
 cases y with
 | bL=>cases r;rfl
 | bl b=>cases r;rfl
 | int i=>obtain ⟨t,rfl⟩:=r;rfl
 | str z=>obtain ⟨t,rfl⟩:=r;rfl
 | _=>exact absurd (show false=true from f) aah
theorem wI {x:V}:∀ {xs:aA} {us:aU},Vals xs us->xs.all oi=true->us.any (J0 x)=xs.any λ y=>Kw y x
 | _,_,.nil,_=>rfl
 | y::xs,u::us,.cons r t,f=>by
   rw [List.all_cons,aaw] at f
   rw [aci,aci,E7 r f.1,wI t f.2]
theorem rL {A:Around} {s:Shared} {x:V} {v:aq} (R:RelV x v) (F:oi x=true):∀ {xs:aA} {us:aU},Vals xs us->xs.all oi=true->∀ u∈us,SeqAt.EqAt A s u v (J0 x u)
 | _,_,.nil,_=>λ u h=>by cases h
 | y::xs,u::us,.cons r t,f=>λ U h=>by
   rw [List.all_cons,aaw] at f
   rcases aaa.mp h with rfl|h
   . rw [E7 r f.1];exact Mu r R f.1 F
   . exact rL R F t f.2 U h
def No (x:V) (xs:aA):Bool:=xs.any λ y=>Kw y x
inductive rIn (K:aC) (neg:Bool) (x:V) (y:V) (H:Hp) (Q:VK):Prop|mk (p xs:_) (_:y = .ref p) (_:(bw K H p xs\/cH K H p xs)) (_:oi x=true) (_:xs.all oi=true) (_:Q (.bl (if neg then !No x xs else No x xs)) H)
def wk:jw X (compareOp .NotIn) (rIn X.K true):=by
 intro e s U H x y v u Q I R i h
 obtain ⟨p,j,rfl,a,F,f,q⟩:=h
 cases i
 rcases a with a|a
 .
  obtain ⟨b,r,d,g⟩:=I.list a
  refine SeqAt.notIn_listAt (J0 x) d.isList (λ w c=>rL R F r f w (by simpa using c)) ⟨.bl _,H,I,rfl,?_⟩
  rw [show b.toArray.any (J0 x)=b.any (J0 x) by simp,wI r f]
  exact q
 .
  obtain ⟨b,r,d,g⟩:=I.tuple a
  refine SeqAt.notIn_tupleAt (J0 x) d (λ w c=>rL R F r f w (by simpa using c)) ⟨.bl _,H,I,rfl,?_⟩
  rw [show b.toArray.any (J0 x)=b.any (J0 x) by simp,wI r f]
  exact q
def vW:ir X (.builtin "len") (λ xs H Q=>∃ p ys,xs=[.ref p]/\(bw X.K H p ys\/cH X.K H p ys)/\Q (.int ys.length) H):=by
 intro d s U H xs i Q I r h
 obtain ⟨p,ys,rfl,b,q⟩:=h
 obtain ⟨u,rfl,f⟩:=vals1 r
 cases f
 have g:=vB
 rcases b with b|b
 . obtain ⟨B,R,c,e⟩:=I.list b
   have a:=R.length
   exact Calls.call_len_list c.isList (by simp only [aar]<;>lia) ⟨.int ys.length,H,I.tok _,⟨s.toks+1,by rw [aar,a]⟩,q⟩
 . obtain ⟨B,R,c,e⟩:=I.tuple b
   have a:=R.length
   exact len_tuple c (by simp only [aar]<;>lia) ⟨.int ys.length,H,I.tok _,⟨s.toks+1,by rw [aar,a]⟩,q⟩
def fV:ir X (.type "list") (λ xs H Q=>∃ p ys,xs=[.ref p]/\(bw X.K H p ys\/cH X.K H p ys)/\∀ l,H l=none->Q (.ref l) (upd H l (.lst ys))):=by
 intro j s U H xs z Q I r h
 obtain ⟨p,ys,rfl,g,q⟩:=h
 obtain ⟨u,rfl,y⟩:=vals1 r
 cases y
 have f:∀ (B:aU),Vals ys B->ys.length<=sizeLine->∀ (a:aO) (c:Nat),(∀ b O,s.heap.get? b=some O->a.get? b=some O) ->
     a.get? s.heap.objs.size=some { cls:=.type "list",dict:=none,data:=.seq B.toArray c,slots:=#[]}->EP X j U Q (.ref s.heap.objs.size) { s with heap:=a }:=λ B R i a c k e =>
   ⟨.ref s.heap.objs.size,_,I.laid (t':=s.toks) k (aac _) (show c5 X.prog X.w _ a _ (.lst ys) from ⟨i,B,c,R,e⟩),rfl,q _ (I.ck.fresh (aac _))⟩
 rcases g with g|g
 .
  obtain ⟨B,R,x,i⟩:=I.list g
  have d:=R.length
  obtain ⟨o,v,m,n,t⟩:=x.isList
  exact call_list_seq p (.inl rfl) v m t (λ a c k e=>f B R i a c k e) (by simp only [aar]<;>lia)
 .
  obtain ⟨B,R,x,i⟩:=I.tuple g
  have d:=R.length
  obtain ⟨o,v,m,n,t⟩:=x
  exact call_list_seq p (.inr rfl) v m t (λ a c k e=>f B R i a c k e) (by simp only [aar]<;>lia)
def gr:ir X (.type "tuple") (λ xs H Q=>∃ p ys,xs=[.ref p]/\((bw X.K H p ys/\∀ l,H l=none->Q (.ref l) (upd H l (.tup ys)))\/(cH X.K H p ys/\Q (.ref p) H))):=by
 intro a s U H xs t Q I r h
 obtain ⟨p,ys,rfl,h⟩:=h
 obtain ⟨u,rfl,n⟩:=vals1 r
 cases n
 rcases h with ⟨d,q⟩|⟨d,q⟩
 .
  obtain ⟨B,R,f,j⟩:=I.list d
  have g:=R.length
  refine call_tuple_list f.isList (λ c m=>?_) (by simp only [aar]<;>lia)
  have i:Inv X a U H { s with heap:=c }:=I.kept (t':=s.toks) m
  have k:Inv X a U (upd H c.objs.size (.tup ys)) { s with heap:=c.push { cls:=.type "tuple",data:=.seq B.toArray }} :=
    i.laid (t':=s.toks) (λ b o e=>ZB _ e) (aac _) (show c5 X.prog X.w _ _ _ (.tup ys) from ⟨j,B,R,IsTup.new _ _⟩)
  exact ⟨.ref c.objs.size,_,k,rfl,q _ (i.ck.fresh (aac _))⟩
 . obtain ⟨B,R,f,j⟩:=I.tuple d
   exact call_tuple_same f ⟨.ref p,H,I,rfl,q⟩
def SL (K:aC) (T:String) (x:V) (H:Hp):Prop:=match x with
 | .str _=>T = "str"
 | .int _=>T = "int"
 | .ref p=>(T = "list"/\∃ X,bw K H p X)\/(T = "tuple"/\∃ o,K.lookup p=some o/\o.cls = .type "tuple"/\o.dict=none) \/
     (T = "dict"/\((∃ a,H p=some (.dK a))\/∃ a,H p=some (.dT a)))\/(T = "set"/\∃ S n,H p=some (.set S n))
 | _=>False
def GC {b:List (ag×Obj)} {s:Shared} {T:String} {x:V} {v:aq} (I:Inv X b U H s) (r:RelV x v) (ty:SL X.K T x H) :
   s.TypeIs v T/\∀ a,v = .ref a->∃ O,s.heap.get? a=some O/\O.dict=none:=by
 cases x with
 | str z =>
   obtain ⟨t,rfl⟩:=r
   cases (show T = "str" from ty)
   exact ⟨typeIs_str s z t,λ Z e=>nomatch e⟩
 | int i =>
   obtain ⟨t,rfl⟩:=r
   cases (show T = "int" from ty)
   exact ⟨typeIs_int s i t,λ Z e=>nomatch e⟩
 | ref p =>
   cases r
   rcases ty with ⟨rfl,k,j⟩|⟨rfl,o,h,g,d⟩|⟨rfl,h⟩|⟨rfl,S,n,h⟩
   . obtain ⟨B,Z,f,Z⟩:=I.list j
     refine ⟨f.isList.typeIs,λ a e=>?_⟩
     cases e
     obtain ⟨o,n,e,c,d,Z⟩:=f
     exact ⟨o,e,d⟩
   . refine ⟨⟨o,I.jy p o h,g⟩,λ a e=>?_⟩
     cases e
     exact ⟨o,I.jy _ o h,d⟩
   .
    have z:∃ o,s.heap.get? p=some o/\o.ExactDict:=by
      rcases h with ⟨A,h⟩|⟨A,h⟩
      . obtain ⟨Z,Z,Z,Z,o,Z,Z,e,ex,Z⟩:=I.ck p _ h
        exact ⟨o,e,ex⟩
      . obtain ⟨Z,Z,Z,Z,o,Z,Z,e,ex,Z⟩:=I.ck p _ h
        exact ⟨o,e,ex⟩
    obtain ⟨o,e,ex⟩:=z
    refine ⟨⟨o,e,ex.1⟩,λ a E=>?_⟩
    cases E
    exact ⟨o,e,ex.2.1⟩
   . obtain ⟨o,Z,Z,Z,e,ex,Z⟩:=I.ck p _ h
     refine ⟨⟨o,e,ex.1⟩,λ a E=>?_⟩
     cases E
     exact ⟨o,e,ex.2.1⟩
 | _=>exact False.elim ty
def VY (K:aC) (T:String) (r:V->aA->Hp->VK->Prop) (t:TE):TE:=λ U H Q=>t U H λ x h=>SL K T x h/\r x [] h Q
def tBM (K:aC) (T:String) (r:V->aA->Hp->VK->Prop) (b:TE) (t:TA):TE:=λ U H Q=>b U H λ x h=>SL K T x h/\t U h λ X a=>r x X a Q
variable {o e:Expr} {es:List Expr} {to:TE} {t:TA} {name:Str} {apos c6:Pos} {T id:String} {r:V->aA->Hp->VK->Prop}
def LK (f:PlainAttrs T) (S:Slot T name id) (W:typeOf (.builtin id)=pure (.type "method_descriptor")) (d:NQ X id r) (e:PE X o to) (l:autoParam (attributeBase o name X.env (eval o X.env)=eval o X.env) za_._auto_1) (F:autoParam ((apos.endLine == c6.line)=true) za_._auto_1):PE X (.Call (.Attribute o name apos) [] [] c6) (VY X.K T r to):=by
 intro p s U H Q I h
 refine wpAny_Call_method0_late l F (cO (e p s U H _ I h) λ v g ⟨x,a,i,R,ty,q⟩=>?_)
 obtain ⟨b,c⟩:=GC i R ty
 exact ⟨T,id,f,S,W,b,c,acT rfl (PySem.evalArgs_none (d p g U a x [] v [] Q i R .nil q))⟩
def iR (u:PlainAttrs T) (S:Slot T name id) (W:typeOf (.builtin id)=pure (.type "method_descriptor")) (m:NQ X id r) (n:PE X o to) (l:PA X (e::es) t) (L:autoParam (attributeBase o name X.env (eval o X.env)=eval o X.env) za_._auto_1) (f:autoParam (((backTo c6 (starEach (e::es) X.env)).all (λ x => !x.1) && (backToKw c6 (keywordEach [] X.env)).all (λ x=>x.1.isSome)
     && decide ((e::es).length+([]:List Keyword).length+(if ([]:List Keyword).isEmpty then 0 else 1)<30))=true) za_._auto_1) (F:autoParam ((apos.endLine == c6.line)=true) za_._auto_1) (q:autoParam (zu X e es) za_._auto_1) (g:autoParam ((backTo c6 (starEach es X.env)).any (·.1)=false) za_._auto_1) :
   PE X (.Call (.Attribute o name apos) (e::es) [] c6) (tBM X.K T r to t):=by
 intro p s U H Q I h
 refine wpAny_Call_method_late L f F rfl (cO (n p s U H _ I h) λ v A ⟨x,b,i,R,ty,w⟩=>?_)
 obtain ⟨j,k⟩:=GC i R ty
 refine ⟨T,id,u,S,W,j,k,?_⟩
 have a:=l c6 p A U b _ i w
 rw [q] at a |-
 refine acT (by show (false || (backTo c6 (starEach es X.env)).any (·.1))=false;rw [g]<;>rfl) (ab4 ?_)
 exact cO a λ C B ⟨V,c,d,z,y⟩=>m p B U c x V v C Q d R z y
end
def MtM (X:Cx) (id:String) (r:V->aA->Hp->VK->Prop):Prop :=
 ∀ (p:List (ag×Obj)) (s:Shared) (U:St) (H:Hp) (x:V) (a:aA) (v:aq) (u:aU) (Q:VK),Inv X p U H s->RelV x v->Vals a u->r x a H Q ->
   wpAny (model X.prog X.w) X.A (call (.builtin id) (v::u)) (EP X p U Q) X.xe s
def Vals.one:∀ {x:V} {us:aU},Vals [x] us->∃ u,us=[u]/\RelV x u
 | _,_,.cons r .nil=>⟨_,rfl,r⟩
def Vals.zero:∀ {us:aU},Vals [] us->us=[]
 | _,.nil=>rfl
section
variable {X:Cx} {pins:List (ag×Obj)} {U:St} {H:Hp} {s:Shared} {l b:ag} {xs ys:aA}
def Inv.VX {b its':aU} {n:Nat} {f:Array aq->Array aq} {t':Nat} (I:Inv X pins U H s) (h:H l=some (.lst xs)) (e:s.heap.get? l=some { cls:=.type "list",data:=.seq b.toArray n }) (c:f b.toArray=its'.toArray) (g:Vals ys its') (i:ys.length<=sizeLine) :
   Inv X pins U (upd H l (.lst ys)) { s with heap:=s.heap.update l (Obj.mapSeq f),toks:=t' }:=by
 have q:=PySem.IsL.update e f
 rw [c] at q
 refine I.write (x:=l) (e:=l) (by rw [h];exact trivial) (.inl rfl) (λ B u a d=>(abA s.heap (Obj.mapSeq f) (abt a)).trans d) ⟨_,q⟩ ?_
 exact ⟨i,its',_,g,q⟩
def Inv.VG {b:aU} {t':Nat} (I:Inv X pins U H s) (h:Vals ys b) (a:ys.length<=sizeLine) :
   Inv X pins U (upd H s.heap.objs.size (.lst ys)) { s with heap:=s.heap.push { cls:=.type "list",data:=.seq b.toArray },toks:=t' } :=
 I.laid (λ Z Z q=>ZB _ q) (aac _) ⟨a,b,0,h,aaE _ rfl⟩
theorem Inv.fresh (I:Inv X pins U H s):H s.heap.objs.size=none:=I.ck.fresh (aac _)
def Inv.Lq (I:Inv X pins U H s) (h:H l=some (.lst xs)):xs.length<=sizeLine/\∃ (b:aU) (n:Nat),Vals xs b/\xs.length=b.length/\s.heap.get? l=some { cls:=.type "list",data:=.seq b.toArray n }:=by
 obtain ⟨z,b,n,r,e⟩:=I.ck l _ h
 exact ⟨z,b,n,r,r.length,e⟩
end
section
variable {X:Cx}
inductive JQ (x:V) (vs:aA) (H:Hp) (Q:VK):Prop|mk (l xs y:_) (_:x = .ref l) (_:vs=[y]) (_:H l=some (.lst xs)) (_:xs.length<sizeLine) (_:Q .bL (upd H l (.lst (xs++[y]))))
def cV:MtM X "list.append" JQ:=by
 intro p s U H x V v i Q I d c h
 obtain ⟨l,j,y,rfl,rfl,a,g,q⟩:=h
 cases d
 obtain ⟨u,rfl,R⟩:=c.one
 obtain ⟨z,b,n,r,f,e⟩:=I.Lq a
 refine call_meets F.slot_list_append ⟨_,e,rfl⟩ F.entry_list_append (F.args_list_append_2 _ _) (PySem.list_append l b.toArray n u (by rw [aar];lia)) ⟨e,?_⟩
 refine ⟨.bL,_,I.VX (its':=b++[u]) a e (by simp) (r.append (.cons R .nil)) ?_,rfl,q⟩
 rw [aad,abx]
 lia
inductive UZ (x:V) (y:V) (H:Hp) (Q:VK):Prop|mk (l b xs zs:_) (_:x = .ref l) (_:y = .ref b) (_:H l=some (.lst xs)) (_:H b=some (.lst zs)) (_:xs.length+zs.length<=sizeLine) (_:∀ p,H p=none->Q (.ref p) (upd H p (.lst (xs++zs))))
def Ap:jw X (binaryOp .Add) UZ:=by
 intro p s U H x y v u Q I f g h
 obtain ⟨l,b,m,t,rfl,rfl,d,c,k,q⟩:=h
 cases f
 cases g
 obtain ⟨z,B,n,r,j,e⟩:=I.Lq d
 obtain ⟨o,D,N,R,i,E⟩:=I.Lq c
 refine PySem.P.add_list e E ?_ (by rw [aar,aar];lia)
 have a:B.toArray++D.toArray=(B++D).toArray:=by simp
 rw [a]
 exact ⟨.ref _,_,I.VG (t':=s.toks) (r.append R) (by rw [aad];lia),rfl,q _ I.fresh⟩
end
section
variable {κ:Type} [DecidableEq κ]
def fG (a:List (κ×V)) (k:κ):fH:=(a.find? λ K=>decide (K.1=k)).map (·.2)
def putK (a:List (κ×V)) (k:κ) (v:V):List (κ×V) :=
 if (a.any λ K=>decide (K.1=k))=true then a.map (λ K=>if K.1=k then (K.1,v) else K) else a++[(k,v)]
def eK {p:κ×V} {r:List (κ×V)} {k:κ} (e:p.1=k):fG (p::r) k=some p.2:=by simp [fG,ab9,e]
def eR {p:κ×V} {r:List (κ×V)} {k:κ} (e:¬ p.1=k):fG (p::r) k=fG r k:=by simp [fG,ab9,e]
theorem js (k:κ):∀ a:List (κ×V),(a.any λ K=>decide (K.1=k))=(fG a k).isSome
 | []=>rfl
 | p::r=>by
   rw [aci]
   by_cases e:p.1=k
   . simp only [eK e,aaC e,Bool.true_or,Option.isSome_some]
   . rw [eR e,aap e,Bool.false_or];exact js k r
theorem zr (k j:κ) (y:V):∀ a:List (κ×V),fG (a.map λ K=>if K.1=k then (K.1,y) else K) j=(fG a j).map λ x=>if j=k then y else x
 | []=>rfl
 | p::r=>by
   have i:=zr k j y r
   rw [aaN]
   by_cases h:p.1=k
   . rw [aaq h]
     by_cases e:p.1=j
     . rw [eK (p:=(p.1,y)) e,eK e,acJ,aaq (e.symm.trans h)]
     . rw [eR (p:=(p.1,y)) e,eR e,i]
   . rw [aal h]
     by_cases e:p.1=j
     . rw [eK (p:=p) e,eK e,acJ,aal (λ z=>h (e.trans z))]
     . rw [eR (p:=p) e,eR e,i]
theorem uH (k j:κ) (y:V):∀ a:List (κ×V),fG a k=none->fG (a++[(k,y)]) j=if j=k then some y else fG a j
 | [],_=>by
   by_cases e:k=j
   . rw [aaq e.symm];exact eK (p:=(k,y)) e
   . rw [aal (λ z=>e z.symm)];exact eR (p:=(k,y)) e
 | p::r,h=>by
   rw [acE]
   have H:¬ p.1=k:=λ z=>by rw [eK z] at h;cases h
   rw [eR H] at h
   have i:=uH k j y r h
   by_cases e:p.1=j
   . rw [eK e,eK e,aal (λ z=>H (e.trans z))]
   . rw [eR e,eR e,i]
def za (A:List (κ×V)) (k j:κ) (y:V):fG (putK A k y) j=if j=k then some y else fG A j:=by
 unfold putK
 by_cases a:(A.any λ K=>decide (K.1=k))=true
 .
  rw [aaq a,zr]
  rw [js] at a
  by_cases e:j=k
  . obtain ⟨x,h⟩:=abg.mp a
    rw [aaq e,e,h,acJ,aaq rfl]
  . rw [aal e]
    cases fG A j with
    | none=>rfl
    | some x=>rw [acJ,aal e]
 .
  rw [aal a]
  refine uH k j y A ?_
  rw [js] at a
  cases q:fG A k with
  | none=>rfl
  | some x=>rw [q] at a;exact (a rfl).elim
def kx (a:List (κ×V)) (k:κ) (v:V):(putK a k v).length<=a.length+1:=by
 unfold putK
 split
 . rw [Bl];lia
 . rw [aad,aav,abN];lia
def FQ {a:List (κ×V)} {k:κ} (v:V) (h:fG a k=none):putK a k v=a++[(k,v)]:=by
 unfold putK
 rw [js,h]
 exact aal (by decide)
def jj.Dx {o:fH} {u:iO} (r:jj o u):o.isSome=u.isSome:=by
 cases o with
 | none=>cases u with
   | none=>rfl
   | some _=>exact (show False from r).elim
 | some _=>cases u with
   | none=>exact (show False from r).elim
   | some _=>rfl
theorem jj.getD {o:fH} {u:iO} {d:V} {d':aq} (r:jj o u) (R:RelV d d'):RelV (o.getD d) (u.getD d'):=by
 cases o with
 | none=>cases u with
   | none=>exact R
   | some _=>exact (show False from r).elim
 | some _=>cases u with
   | none=>exact (show False from r).elim
   | some _=>exact r
def KV.val {a:List (κ×V)} {vs:List (κ×aq)} (r:KV a vs) (k:κ):jj (fG a k) (valueAt vs k):=by
 unfold KV at r
 induction r with
 | nil=>exact True.intro
 | @cons p q d Q h t i =>
   obtain ⟨H,c⟩:=h
   by_cases e:p.1=k
   . have E:q.1=k:=H.symm.trans e
     have b:valueAt (q::Q) k=some q.2:=by simp [valueAt,ab9,E]
     rw [eK e,b];exact c
   . have E:¬ q.1=k:=λ z=>e (H.trans z)
     have b:valueAt (q::Q) k=valueAt Q k:=by simp [valueAt,ab9,E]
     rw [eR e,b];exact i
theorem KV.any {a:List (κ×V)} {vs:List (κ×aq)} (r:KV a vs) (k:κ):(a.any λ K=>decide (K.1=k))=vs.any λ K=>decide (K.1=k):=by
 unfold KV at r
 induction r with
 | nil=>rfl
 | cons h t i=>rw [aci,aci,i,h.1]
def KV.LC {a:List (κ×V)} {vs:List (κ×aq)} (r:KV a vs) (k:κ) {y:V} {u:aq} (R:RelV y u) :
   KV (a.map λ K=>if K.1=k then (K.1,y) else K) (vs.map λ K=>if K.1=k then (K.1,u) else K):=by
 unfold KV at r |-
 induction r with
 | nil=>exact .nil
 | @cons p q c Q h t i =>
   rw [aaN,aaN]
   refine .cons ?_ i
   obtain ⟨H,b⟩:=h
   by_cases e:p.1=k
   . rw [aaq e,aaq (H.symm.trans e)];exact ⟨H,R⟩
   . rw [aal e,aal (λ z=>e (H.trans z))];exact ⟨H,b⟩
def KV.put {a:List (κ×V)} {vs:List (κ×aq)} (r:KV a vs) (k:κ) {y:V} {u:aq} (R:RelV y u):KV (putK a k y) (stored vs k u):=by
 unfold putK stored
 rw [r.any k]
 by_cases e:(vs.any λ K=>decide (K.1=k))=true
 . rw [aaq e,aaq e];exact r.LC k R
 . rw [aal e,aal e];exact Paired.snoc r ⟨rfl,R⟩
theorem KV.length {a:List (κ×V)} {vs:List (κ×aq)} (r:KV a vs):a.length=vs.length:=adk r
end
def yo {P:bh} {w:bf} {k:Key} {u:aq} (r:RelV (kV k) u):(cy P w).is k u=true:=by
 cases k with
 | inl i=>obtain ⟨t,e⟩:=(show ∃ t,u=Value.int i t from r);subst e;exact yt P w i t
 | inr x=>obtain ⟨t,e⟩:=(show ∃ t,u=Value.str x t from r);subst e;exact yD P w x t
theorem uD {P:bh} {w:bf}:∀ {K:List Key} {us:aU},Vals (K.map kV) us->ItemsAre (cy P w) K us
 | [],_,r=>by rw [ac6] at r;cases r;exact .nil
 | k::K,_,r=>by
   rw [aaN] at r
   cases r with
   | cons h t=>exact .cons (yo h) (uD t)
abbrev KT (H:Hp):List (List Key×V)->List (List Key×ag×aq)->Prop:=Paired λ p q=>p.1=q.1/\H q.2.1=some (.tup (p.1.map kV))/\RelV p.2 q.2.2
def KT.val {a:List (List Key×V)} {xs:List (List Key×ag×aq)} (r:KT H a xs) (k:List Key):jj (fG a k) ((atKey xs k).map (·.2)):=by
 induction r with
 | nil=>exact True.intro
 | @cons p q f Q h t i =>
   obtain ⟨c,Z,d⟩:=h
   by_cases e:p.1=k
   . have E:q.1=k:=c.symm.trans e
     have b:atKey (q::Q) k=some q.2:=by simp [atKey,ab9,E]
     rw [eK e,b];exact d
   . have E:¬ q.1=k:=λ z=>e (c.trans z)
     have b:atKey (q::Q) k=atKey Q k:=by simp [atKey,ab9,E]
     rw [eR e,b];exact i
def KT.LC {A:List (List Key×V)} {xs:List (List Key×ag×aq)} (r:KT H A xs) (k:List Key) {y:V} {u:aq} (R:RelV y u) :
   KT H (A.map λ K=>if K.1=k then (K.1,y) else K) (xs.map (putAt k u)):=by
 induction r with
 | nil=>exact .nil
 | @cons p q d Q h t i =>
   rw [aaN,aaN]
   refine .cons ?_ i
   obtain ⟨a,b,c⟩:=h
   unfold putAt
   by_cases e:p.1=k
   . rw [aaq e,aaq (a.symm.trans e)];exact ⟨a,b,R⟩
   . rw [aal e,aal (λ z=>e (a.trans z))];exact ⟨a,b,c⟩
def KT.put {a:List (List Key×V)} {xs:List (List Key×ag×aq)} (r:KT H a xs) (k:List Key) {b:ag} {y:V} {u:aq} (h:H b=some (.tup (k.map kV))) (R:RelV y u) :
   KT H (putK a k y) (storedH xs k b u):=by
 have e:(a.any λ K=>decide (K.1=k))=(atKey xs k).isSome:=by
   rw [js,(r.val k).Dx,Option.isSome_map]
 unfold putK storedH
 rw [e]
 by_cases q:(atKey xs k).isSome=true
 . rw [aaq q,aaq q];exact r.LC k R
 . rw [aal q,aal q];exact Paired.snoc r ⟨rfl,h,R⟩
def KT.keeps {a:List (List Key×V)} {xs:List (List Key×ag×aq)} (r:KT H a xs) (h:∀ b ys,H b=some (.tup ys)->H' b=some (.tup ys)):KT H' a xs :=
 Paired.Mw r λ Z Z z=>⟨z.1,h _ _ z.2.1,z.2.2⟩
section
variable {P:bh} {w:bf} {H:Hp} {h:aO} {a:ag}
def KI {u:HO} (ok:jz P w H h) (e:Rd H a u):c5 P w H h a u:=e.ok ok
def yQ {A:List (Key×V)} (ok:jz P w H h) (e:Rd H a (.dK A)):A.length<=sizeLine/\(a == sysModules)=false/\∃ vs,KV A vs/\h.DictOf (cy P w) a vs :=
 show c5 P w H h a (.dK A) from KI ok e
def KC {A:List (Key×V)} (ok:jz P w H h) (e:H a=some (.dK A)):A.length<=sizeLine/\(a == sysModules)=false/\∃ vs,KV A vs/\h.DictOf (cy P w) a vs:=yQ ok (.inl e)
def wN {k:List Key} (ok:jz P w H h) (e:H a=some (.tup (k.map kV))):(tupleKind (cy P w)).is h k a:=by
 obtain ⟨Z,b,r,o,c,d,n,f⟩:=(show c5 P w H h a (.tup (k.map kV)) from ok a _ e)
 exact ⟨o,b.toArray,n,c,d,f,by simpa using uD r⟩
def t9 {A:List (List Key×V)} (ok:jz P w H h) (e:Rd H a (.dT A)):A.length<=sizeLine/\(a == sysModules)=false /\
   ∃ xs,KT H A xs/\h.DictOfH (tupleKind (cy P w)) a xs:=by
 obtain ⟨z,y,xs,r,o,d,E,f,g,i,j,k⟩:=(show c5 P w H h a (.dT A) from KI ok e)
 refine ⟨z,y,xs,r,o,d,E,f,g,i,j,λ x b=>?_,k⟩
 have all:∀ {l:List (List Key×V)} {m:List (List Key×ag×aq)},KT H l m->∀ x∈m,(tupleKind (cy P w)).is h x.1 x.2.1:=by
   intro l m q
   induction q with
   | nil=>intro x b;exact nomatch b
   | @cons p q n Q c t I =>
     intro x b
     rcases aaa.mp b with e|b
     . subst e
       exact wN ok (by rw [<- c.1];exact c.2.1)
     . exact I x b
 exact all r x b
def Pz {A:List (List Key×V)} (ok:jz P w H h) (e:H a=some (.dT A)):A.length<=sizeLine/\(a == sysModules)=false /\
   ∃ xs,KT H A xs/\h.DictOfH (tupleKind (cy P w)) a xs:=t9 ok (.inl e)
end
def gk (H:Hp) (a:ag) (y:V) (r:fH):Prop :=
 (∃ A k,Rd H a (.dK A)/\y=kV k/\r=fG A k)\/∃ A k b,Rd H a (.dT A)/\y = .ref b/\H b=some (.tup (k.map kV))/\r=fG A k
def vU (H:Hp) (a:ag) (y v:V) (h:Hp):Prop :=
 (∃ A k,H a=some (.dK A)/\y=kV k/\A.length<sizeLine/\h=upd H a (.dK (putK A k v))) \/
 ∃ A k b,H a=some (.dT A)/\y = .ref b/\H b=some (.tup (k.map kV))/\A.length<sizeLine/\h=upd H a (.dT (putK A k v))
theorem gk.k {a:ag} {A:List (Key×V)} {k:Key} (e:H a=some (.dK A)):gk H a (kV k) (fG A k):=.inl ⟨A,k,.inl e,rfl,rfl⟩
def gk.t {a b:ag} {A:List (List Key×V)} {k:List Key} (e:H a=some (.dT A)) (E:H b=some (.tup (k.map kV))):gk H a (.ref b) (fG A k):=.inr ⟨A,k,b,.inl e,rfl,E,rfl⟩
theorem vU.k {a:ag} {A:List (Key×V)} {k:Key} (e:H a=some (.dK A)) (h:A.length<sizeLine):vU H a (kV k) v (upd H a (.dK (putK A k v))):=.inl ⟨A,k,e,rfl,h,rfl⟩
def vU.t {a b:ag} {A:List (List Key×V)} {k:List Key} (e:H a=some (.dT A)) (E:H b=some (.tup (k.map kV))) (h:A.length<sizeLine) :
   vU H a (.ref b) v (upd H a (.dT (putK A k v))):=.inr ⟨A,k,b,e,rfl,E,h,rfl⟩
section
variable {X:Cx} {pins:List (ag×Obj)} {U:St} {H:Hp} {s:Shared} {a:ag} {y v:V} {u r:aq} {o:fH} {A:Around} {E:aq->Shared->Prop}
def Inv.big (I:Inv X pins U H s):sysModules<s.heap.objs.size:=by
 have h:mainGlobals<s.heap.objs.size:=(I.mod.glob.keeps I.bk).lt
 exact acn (by decide) h
def C9 {Q:aq->Shared->Prop} (t:A.units+1<cLine) (I:Inv X pins U H s) (g:gk H a y (some v)) (R:RelV y u) (h:∀ W s',Inv X pins U H s'->RelV v W->Q W s') :
   wpAny (model X.prog X.w) A (getItem (.ref a) u) Q E s:=by
 rcases g with ⟨j,k,e,c,l⟩|⟨j,k,b,e,c,m,l⟩
 .
  subst c
  obtain ⟨z,n,V,r,d⟩:=yQ I.ck e
  obtain ⟨W,f,G⟩:=jj.some_of (v:=v) (o:=valueAt V k) (by rw [l];exact r.val k)
  exact wpAny_getItem_of (yo R) d.mapOf f (h W _ (I.tok _) G)
 .
  subst c
  cases (show u=Value.ref b from R)
  obtain ⟨z,n,x,r,d⟩:=t9 I.ck e
  obtain ⟨W,f,G⟩:=jj.some_of (v:=v) (o:=(atKey x k).map (·.2)) (by rw [l];exact r.val k)
  obtain ⟨p,q,i⟩:=adF.mp f
  refine wpAny_getItem_heap (adh t) (wN I.ck m) d q ?_
  rw [i]
  exact h W _ (I.tok _) G
def vx {h':aO} {t':Nat} {o:HO} (I:Inv X pins U H s) (m:P0 (H a)) (d:Heap.SameBut a s.heap h') (c:∃ q,h'.get? a=some q) (n:c5 X.prog X.w (upd H a o) h' a o) :
   Inv X pins U (upd H a o) { s with heap:=h',toks:=t' } :=
 I.write (x:=a) (e:=a) m (.inl rfl) (λ b q h z=>(d.2 b h).trans z) c n
def Hz {P:bh} {w:bf} {h':aO} {A:List (Key×V)} {vs:List (Key×aq)} (z:A.length<=sizeLine) (h:(a == sysModules)=false) (r:KV A vs) (dd:h'.DictOf (cy P w) a vs) :
   c5 P w H' h' a (.dK A):=⟨z,h,vs,r,dd⟩
def Da {Q:Unit->Shared->Prop} (T:A.units+1<cLine) (I:Inv X pins U H s) (g:vU H a y v H') (G:RelV y u) (F:RelV v r) (h:∀ s',Inv X pins U H' s'->Q () s') :
   wpAny (model X.prog X.w) A (setItem (.ref a) u r) Q E s:=by
 rcases g with ⟨d,k,e,m,l,j⟩|⟨d,k,b,e,m,x,l,j⟩
 .
  subst m j
  obtain ⟨z,n,V,R,D⟩:=KC I.ck e
  have t:V.length<=sizeLine:=by rw [<- R.length];exact z
  have o:(putK d k v).length<=sizeLine:=by have:=kx d k v;lia
  refine wpAny_setItem_pairs (hsz:=t) (yo G) D λ C i p=>h _ ?_
  have S:∃ q,C.get? a=some q:=let ⟨q,_,_,f,_⟩:=i;⟨q,f⟩
  exact vx I (by rw [e];exact True.intro) p S (Hz o n (R.put k F) i)
 .
  subst m j
  cases (show u=Value.ref b from G)
  obtain ⟨z,n,W,R,D⟩:=Pz I.ck e
  have t:W.length<=sizeLine:=by rw [<- adk R];exact z
  have o:(putK d k v).length<=sizeLine:=by have:=kx d k v;lia
  refine wpAny_setItem_heap (hsz:=t) (adh T) (wN I.ck x) D λ C i p=>h _ ?_
  obtain ⟨q,K,J,f,L,M,N,Z,O⟩:=i
  refine vx I (by rw [e];exact True.intro) p ⟨q,f⟩ ⟨o,n,_,(R.put k x F).keeps λ c Y B=>?_,q,K,J,f,L,M,N,O⟩
  rw [aG (QF B e (λ z=>nomatch z))]
  exact B
end
def NL (i:Expr):Prop:=∀ o I,subscripted i false o I=operate [o,I] (getItem o I)
def Iw {prog:bh} {w:bf} {A:Around} {E:aq->Shared->Prop} {s:Shared} {env:Env} {v S:Expr} {p:Pos} {T id:String} {Q:aq->Shared->Prop} (g:typeLookup (.type T) "__getitem__" = pure (some (.builtin id))) (j:NL S) (h:wpAny (model prog w) A (eval v env) (λ o a=>wpAny (model prog w) A (eval S env) (λ i s₂=>s₂.TypeIs o T/\wpAny (model prog w) A (getItem o i) Q E s₂) E a) E s) :
   wpAny (model prog w) A (eval (.Subscript v S p) env) Q E s:=by
 refine Subscript_ (aau h (λ o a c=>aau c (λ i s₂ H=>?_) λ Z Z x=>x) λ Z Z x=>x)
 obtain ⟨e,H⟩:=H
 unfold subscriptTail
 refine OW ?_
 rw [getitemInPython_of_ne e.not_modules]
 refine OW (adK e g ?_)
 have f:wpAny (model prog w) A (subscripted S false o i) (λ r b=>wpAny (model prog w) A (letTemporaryGo v o r >>= λ Z=>pure r) Q E b) E s₂:=by
   rw [j o i]
   exact wpAny_operating (aau H (λ r b d=>OW (wpAny_letTemporaryGo (aak d))) λ Z Z x=>x)
 first
   | exact aak (OW f)
   | exact OW (aak (OW f))
   | exact OW f
def zn {X:Cx} {p:List (ag×Obj)} {s:Shared} {a:ag} {y:V} {o:fH} (I:Inv X p U H s) (g:gk H a y o):s.TypeIs (.ref a) "dict":=by
 rcases g with ⟨A,k,e,Z,Z⟩|⟨A,k,b,e,Z,Z,Z⟩
 . obtain ⟨Z,Z,v,Z,d⟩:=yQ I.ck e
   exact d.typeIs
 . obtain ⟨Z,Z,x,Z,d⟩:=t9 I.ck e
   exact d.typeIs
inductive R1 (Q:VK) (x y:V) (H2:Hp):Prop|mk (a:ag) (v:V) (h1:x = .ref a) (h2:gk H2 a y (some v)) (q:Q v H2)
def Op (t ty:TE):TE:=λ U H Q=>t U H λ x h=>ty U h (R1 Q x)
def QA (t ty T:TE):TS:=λ D U H=>T U H λ v b=>t U b λ x c=>ty U c λ y d=>∃ a h,x = .ref a/\vU d a y v h/\D.nx U h
section
variable {X:Cx} {o i e value:Expr} {pos pos':Pos} {td ty tv:TE}
def bu (m:X.A.units+1<cLine) (k:PE X o td) (j:PE X i ty) (l:NL i):PE X (.Subscript o i pos) (Op td ty):=by
 intro p s U H Q I h
 refine Iw PySem.F.slot_dict_getitem.lookup l (cO (k p s U H _ I h) λ u S ⟨x,c,e,r,q⟩=>cO (j p S U c _ e q) λ t w ⟨y,d,b,R,a,v,ex,g,n⟩=>?_)
 subst ex
 obtain rfl:u=Value.ref a:=r
 exact ⟨zn b g,C9 m b g R λ W z f G=>⟨v,d,f,G,n⟩⟩
def wb (q:X.A.units+1<cLine) (m:PE X o td) (l:PE X i ty) (t:PE X value tv) (n:swapsWith value (some (.Subscript o i pos')) pos.line X.env=pure false) :
   PS X (.Assign [.Subscript o i pos'] value pos) (QA td ty tv):=by
 intro p s U H D I h
 refine wpAny_Assign_Subscript (cO (t p s U H _ I h) λ r S ⟨v,b,e,R,Q⟩=>cO (m p S U b _ e Q) λ u E ⟨x,c,f,B,w⟩=>cO (l p E U c _ f w) λ G J ⟨y,F,j,C,a,d,ex,g,z⟩=>?_) n
 subst ex
 obtain rfl:u=Value.ref a:=B
 exact Da q j g C R λ K k=>⟨U,d,k,z⟩
end
def GY {P:bh} {w:bf} (h:aO) (a:sysModules<h.objs.size):c5 P w H (h.push { cls:=.type "dict",data:=.dict #[]}) h.objs.size (.dK []) :=
 ⟨aaV _,abk.mpr (abt (aas a)),[],.nil,Heap.DictOf.new h⟩
def Hc {P:bh} {w:bf} (h:aO) (a:sysModules<h.objs.size):c5 P w H (h.push { cls:=.type "dict",data:=.dict #[]}) h.objs.size (.dT []) :=
 ⟨aaV _,abk.mpr (abt (aas a)),[],.nil,_,#[],0,aaE _ rfl,⟨rfl,rfl,rfl⟩,rfl,rfl,acP⟩
def KW:TE:=λ Z H Q=>∀ p,H p=none->Q (.ref p) (upd H p (.dT []))
section
variable {X:Cx} {pos:Pos}
def xh:PE X (.Dict [] [] pos) KW:=λ p s U H Q I h =>
 wpAny_Dict_empty ⟨.ref s.heap.objs.size,_,I.laid (a:=s.heap.objs.size) (o:=.dT []) (t':=s.toks) (λ Z Z q=>ZB _ q) (aac _) (Hc s.heap I.big),rfl,h _ (I.ck.fresh (aac _))⟩
end
def AF:List (TE×TE)->St->Hp->(List (V×V)->Hp->Prop)->Prop
 | [],_,H,Q=>Q [] H
 | (t,T)::r,U,H,Q=>t U H λ x h=>T U h λ y a=>AF r U a λ p b=>Q ((x,y)::p) b
abbrev VV:List (V×V)->List (aq×aq)->Prop:=Paired λ p q=>RelV p.1 q.1/\RelV p.2 q.2
def Ox (X:Cx) (a:Pos) (k:List (Option Expr)) (v:List Expr) (J:List (TE×TE)):Prop :=
 ∀ (p:List (ag×Obj)) (s:Shared) (U:St) (H:Hp) (Q:List (V×V)->Hp->Prop),Inv X p U H s->AF J U H Q ->
   wpAny (model X.prog X.w) X.A (evalPairs (pairTrees k v X.env a)) (λ c S=>∃ b H',Inv X p U H' S/\VV b c/\Q b H') X.xe s
def Ju {X:Cx} {p:Pos}:Ox X p [] [] []:=λ a s U H Q I h=>pairTrees_nil_walk ⟨[],H,I,.nil,h⟩
def kQ {X:Cx} {a:Pos} {k v:Expr} {K:List (Option Expr)} {vs:List Expr} {t T:TE} {J:List (TE×TE)} (g:PE X k t) (l:PE X v T) (j:Ox X a K vs J) :
   Ox X a (some k::K) (v::vs) ((t,T)::J):=λ p s U H Q I h =>
 pairTrees_cons_walk (cO (g p s U H _ I h) λ u S ⟨x,b,i,R,q⟩=>cO (l p S U b _ i q) λ W z ⟨y,c,e,w,n⟩ =>
   cO (j p z U c _ e n) λ B A ⟨m,d,f,r,o⟩=>⟨(x,y)::m,d,f,.cons ⟨R,w⟩ r,o⟩)
def jJ (A m:List (Key×V)):List (Key×V):=m.foldl (λ a k=>putK a k.1 k.2) A
def KV.merge:∀ {m:List (Key×V)} {R:List (Key×aq)} {a:List (Key×V)} {vs:List (Key×aq)},KV m R->KV a vs->KV (jJ a m) (merged vs R):=by
 intro m R a vs r
 unfold KV at r
 induction r generalizing a vs with
 | nil=>intro q;exact q
 | @cons p q c Q h t i =>
   intro b
   have e:KV (putK a p.1 p.2) (stored vs q.1 q.2):=by
     have:=b.put p.1 h.2
     rw [<- h.1];exact this
   exact i e
theorem i7:∀ (m a:List (Key×V)),(jJ a m).length<=a.length+m.length
 | [],a=>by show a.length<=a.length+0;lia
 | p::r,a=>by
   have h:=i7 r (putK a p.1 p.2)
   have H:=kx a p.1 p.2
   show (jJ (putK a p.1 p.2) r).length<=_
   rw [aav];lia
theorem rf {P:bh} {w:bf}:∀ {A:List (Key×V)} {W:List (aq×aq)},VV (A.map λ k=>(kV k.1,k.2)) W->∃ R,Carries (cy P w) W R/\KV A R
 | [],_,r=>by rw [ac6] at r;cases r;exact ⟨[],True.intro,.nil⟩
 | p::A,_,r=>by
   rw [aaN] at r
   cases r with
   | @cons a b as bs h t =>
     obtain ⟨R,c,q⟩:=rf (P:=P) (w:=w) t
     obtain ⟨d,B⟩:=b
     exact ⟨(p.1,B)::R,⟨yo h.1,rfl,c⟩,.cons ⟨rfl,h.2⟩ q⟩
def PP (J:List (TE×TE)):TE:=λ U H Q=>∀ p,H p=none->AF J U (upd H p (.dK [])) λ b h=>h p=some (.dK [])/\∃ a:List (Key×V),b=a.map (λ k=>(kV k.1,k.2))/\a.length<=15/\Q (.ref p) (upd h p (.dK (jJ [] a)))
def J3 {X:Cx} {b:Pos} {k:List (Option Expr)} {v:List Expr} {J:List (TE×TE)} (h:Ox X b k v J) (L:k.all (·.isSome)=true) (u:k.length=v.length) (l:k≠[]) (d:k.length<=15):PE X (.Dict k v b) (PP J):=by
 intro p s U H Q I q
 have x:=I.ck.fresh (aac s.heap.objs.size)
 have j:=I.laid (a:=s.heap.objs.size) (o:=.dK []) (h':=s.heap.push { cls:=.type "dict",data:=.dict #[]}) (t':=s.toks) (λ Z Z q=>ZB _ q) (aac _) (GY s.heap I.big)
 refine wpAny_Dict_walk (knd:=cy X.prog X.w) L u l d (cO (h p _ U _ _ j (q _ x)) λ W S ⟨O,M,i,r,e,A,E,N,F⟩=>?_)
 subst E
 obtain ⟨K,c,G⟩:=rf (P:=X.prog) (w:=X.w) r
 obtain ⟨z,n,V,R,D⟩:=KC i.ck e
 cases R
 refine ⟨K,c,D,λ g f B=>⟨.ref s.heap.objs.size,_,?_,rfl,F⟩⟩
 have C:(jJ [] A).length<=sizeLine:=by
   have m:=i7 A []
   rw [abN] at m
   rw [adb];lia
 have t:∃ q,g.get? s.heap.objs.size=some q:=let ⟨q,_,_,y,_⟩:=f;⟨q,y⟩
 exact vx i (by rw [e];exact True.intro) B t (Hz C n (G.merge .nil) f)
structure M1 (X:Cx) (o:Expr) (m:Str) (apos:Pos) (e:Expr) (c6:Pos):Prop where
 base:attributeBase o m X.env (eval o X.env)=eval o X.env
 YY:((backTo c6 (starEach [e] X.env)).all (λ x => !x.1) && (backToKw c6 (keywordEach [] X.env)).all (λ x=>x.1.isSome)
   && decide (([e]:List Expr).length+([]:List Keyword).length+(if ([]:List Keyword).isEmpty then 0 else 1)<30))=true
 line:(apos.endLine == c6.line)=true
 trees:backTo c6 (starEach [e] X.env)=[(false,eval e X.env)]
structure M2 (X:Cx) (o:Expr) (m:Str) (apos:Pos) (e f:Expr) (c6:Pos):Prop where
 base:attributeBase o m X.env (eval o X.env)=eval o X.env
 YY:((backTo c6 (starEach [e,f] X.env)).all (λ x => !x.1) && (backToKw c6 (keywordEach [] X.env)).all (λ x=>x.1.isSome)
   && decide (([e,f]:List Expr).length+([]:List Keyword).length+(if ([]:List Keyword).isEmpty then 0 else 1)<30))=true
 line:(apos.endLine == c6.line)=true
 trees:backTo c6 (starEach [e,f] X.env)=[(false,eval e X.env),(false,eval f X.env)]
def XX (H:Hp) (a:ag):Prop:=(∃ A,Rd H a (.dK A))\/∃ A,Rd H a (.dT A)
def LH {X:Cx} {p:List (ag×Obj)} {s:Shared} {a:ag} (I:Inv X p U H s) (d:XX H a) :
   s.TypeIs (.ref a) "dict"/\(∀ b,Value.ref a = .ref b->∃ o,s.heap.get? b=some o/\o.dict=none)/\(a == sysModules)=false:=by
 rcases d with ⟨A,e⟩|⟨A,e⟩
 .
  obtain ⟨Z,f,v,Z,D⟩:=yQ I.ck e
  refine ⟨D.typeIs,λ b q=>?_,f⟩
  cases q
  obtain ⟨o,Z,Z,h,c,Z⟩:=D
  exact ⟨o,h,c.2.1⟩
 .
  obtain ⟨Z,f,x,Z,D⟩:=t9 I.ck e
  refine ⟨D.typeIs,λ b q=>?_,f⟩
  cases q
  obtain ⟨o,Z,Z,h,c,Z⟩:=D
  exact ⟨o,h,c.2.1⟩
section
variable {X:Cx} {pins:List (ag×Obj)} {U:St} {H:Hp} {s:Shared} {a:ag} {y d:V} {u r:aq} {o:fH} {A:Around} {E:aq->Shared->Prop}
def Nb {Q:aq->Shared->Prop} (p:A.units+1<cLine) (I:Inv X pins U H s) (g:gk H a y o) (j:RelV y u) (i:RelV d r) (h:∀ W s',Inv X pins U H s'->RelV (o.getD d) W->Q W s') :
   wpAny (model X.prog X.w) A (call (.builtin "dict.get") [.ref a,u,r]) Q E s:=by
 rcases g with ⟨m,k,e,c,l⟩|⟨m,k,b,e,c,n,l⟩
 .
  subst c
  obtain ⟨z,f,v,R,D⟩:=yQ I.ck e
  refine call_meetsIn acI D.typeIs adE (adA _ _ _) (meets_dict_get_default (cy X.prog X.w) a (yo j) f r) ⟨_,D.mapOf,h _ _ (I.tok _) ?_⟩
  rw [l]
  exact (R.val k).getD i
 .
  subst c
  cases (show u=Value.ref b from j)
  obtain ⟨z,f,x,R,D⟩:=t9 I.ck e
  refine call_meetsIn acI D.typeIs adE (adA _ _ _) (meetsH_dict_get_default (tupleKind (cy X.prog X.w)) a b f r) ⟨adh p,k,x,wN I.ck n,D,h _ _ (I.tok _) ?_⟩
  rw [l]
  exact (R.val k).getD i
end
def LI (t ty T:TE):TE:=λ U H Q=>t U H λ x h=>∃ a,x = .ref a/\XX h a/\ty U h λ y c=>T U c λ z b=>∃ o,gk b a y o/\Q (o.getD z) b
section
variable {X:Cx} {o e f:Expr} {apos c6:Pos} {td ty tx:TE}
def xF (v:X.A.units+1<cLine) (t:PE X o td) (q:PE X e ty) (r:PE X f tx) (m:M2 X o "get" apos e f c6):PE X (.Call (.Attribute o "get" apos) [e,f] [] c6) (LI td ty tx):=by
 intro p s U H Q I h
 refine wpAny_Call_method m.base m.YY m.line PySem.F.plainAttrs_dict acI PySem.F.type_dict_get (cO (t p s U H _ I h) λ u S ⟨x,b,i,R,a,ex,d,w⟩=>?_)
 subst ex
 obtain rfl:u=Value.ref a:=R
 obtain ⟨T,K,Z⟩:=LH i d
 refine ⟨T,K,?_⟩
 rw [m.trees]
 refine acT rfl (ab4 (ado (cO (q p S U b _ i w) λ M J ⟨y,c,k,D,B⟩ =>
   ado (cO (r p J U c _ k B) λ L N ⟨z,j,l,E,O,g,C⟩=>Calls.spliced_nil ?_))))
 exact Nb v l g D E λ W V n G=>⟨_,j,n,G,C⟩
end
end L2
namespace Att
open PySem PySem.W PySem.Calls PyProof.Rows
def ql {P:Params} {h:aO}:∀ (ns:List Int) (vs:aU),WellAll P h vs (ns.map WData.int)->IntsAre vs ns:=by
 intro ns
 induction ns with
 | nil =>
   intro vs w
   rw [ac6] at w
   cases w
   exact .nil
 | cons n ns i =>
   intro vs w
   rw [aaN] at w
   cases w with
   | cons a b =>
     cases a
     exact .cons _ _ (i _ b)
def Df {l:OpenLaw} {n:Nat} (j:l.most=some n) {P:Params} {h:aO} {args:List WData} {v:aU}
   (I:l.row.toRowW.claim.pre args=true) (Q:WellAll P h v args) :
   ∃ a vs ns,v=[Value.ref a]/\args=[WData.list (ns.map WData.int)]/\h.get? a=some { cls:=.type "list",data:=.seq vs.toArray }/\IntsAre vs ns/\ns.length<=n:=by
 have V:WShape.hasAll [] args [.list .int]=true:=(pre_splitW I).1
 have e:l.pre.holds [] { args:=args }=true:=(pre_splitW I).2
 obtain ⟨d,r,rfl,f,g⟩:=hasAllW_cons V
 obtain rfl:=hasAllW_nil g
 obtain ⟨X,rfl,i⟩:=hasW_list f
 obtain ⟨ns,rfl⟩:=items_int i
 have H:ns.length<=n:=by
   unfold OpenLaw.pre at e
   have b:(WTm.not (.lt (.lit (.int (n:Int))) (.len (.arg 0)))).holds [] { args:=[.list (ns.map .int)]}=true:=by
     have b:=(holds_andW e).1
     rw [j] at b
     exact b
   have c:=condW_of b (w_not (w_lt w_lit (w_len_list (w_arg rfl))))
   rw [Bl] at c
   refine Nat.le_of_not_lt λ q=>?_
   have m:(n:Int)<((ns.length:Nat):Int):=by lia
   first
     | (rw [aaC m] at c;exact absurd c (by decide))
     | (simp at c;lia)
 cases Q with
 | cons w W =>
   cases W
   cases w with
   | list k x=>exact ⟨_,_,ns,rfl,rfl,k,ql ns _ x,H⟩
def Et (l:OpenLaw) (args:List WData):l.row.toRowW.claim.post args (.bool true) args=true :=
 postW_of (r:=l.row.toRowW) (X:=(true == true))
   (show WShape.has [] (.bool true) .bool=true by first|rfl|decide|simp [WShape.has,WShape.arms,WShape.armsAll])
   (show (WTm.eq .res (.lit (.bool true))).value [] { args:=args,res:=some (.bool true),after:=args }=some (.bool (true == true)) from w_eq_bool (w_res rfl) w_lit) rfl
section
def UT (h:aO):aO:={ h with objs:=#[]}
def ledger (h:aO) (L d:ag):List (ag×Obj):=(List.range h.objs.size).filterMap λ a=>if a=L\/a=d then none else (h.get? a).map λ o=>(a,o)
end
end Att
namespace L2
open PySem PySem.Spec PyProof.Rows
variable {H H':Hp} {qual:Str}
theorem uA:∀ {vs:aU} {ns:List Int},IntsAre vs ns->Vals (ns.map V.int) vs
 | _,_,.nil => .nil
 | _,_,.cons n t h => .cons ⟨t,rfl⟩ (uA h)
def Pm (H:Hp):Prop:=∀ b,H b=none\/∃ o x,H b=some (.yz o (.lst x))
def Fa {P:bh} {w:bf} {K:aC} {M t:bR} {CX:CH} {k:Nat} {j a:ag} {J:FuncData} {x:Str} {T:Sp} {s₁:Shared} {vs:aU} {ns:List Int} (D:K.In s₁.heap) (A:s₁.heap.Ns mainGlobals M) (c:s₁.heap.Ns builtinsNs t) (Ri:∀ x:Str,x ≠ "__name__"->t x=bootBuiltins x) (Ss:s₁.heap.NoLimit) (hg:s₁.gens=#[]) (g:s₁.heap.get? a=some { cls:=.type "list",data:=.seq vs.toArray }) (O:IntsAre vs ns) (Q:ns.length<=sizeLine) (hr:cA k callerA) (F:∀ base:aO,K.In base->base.Ns mainGlobals M->iN P w K M base CX k j J [x] T) (W:∀ (s:Shared) (u:aq),BindsTo s J ⟨[u],[]⟩ [(x,u)]) (zx:∀ H:Hp,Pm H->bw K H a (ns.map V.int)->T [.ref a] H (λ v _=>v = .bl true) λ _ _ _=>False) (l:∀ H e s',CX [] H s₁ (λ _ _ _=>False) e s'->False) :
   codeAny (model P w) callerA (.call (.ref j) ⟨[.ref a],[]⟩) (λ r s'=>r = .ok (.ret (.bool true))/\OldK s₁.heap s'.heap/\s'.os=s₁.os/\AllBare s'.gens) s₁:=by
 have S:=uA O
 have Wt:=O.length
 have C:∀ H:Hp,Pm H->bw K H a (ns.map V.int)->jz P w H s₁.heap->(∀ b,H b≠none->b=a)->(H a≠none->K.lookup a=none) ->
     codeAny (model P w) callerA (.call (.ref j) ⟨[.ref a],[]⟩) (λ r s'=>r = .ok (.ret (.bool true))/\OldK s₁.heap s'.heap/\s'.os=s₁.os/\AllBare s'.gens) s₁:=by
   intro H N hS G L hK
   have y:∀ {b:ag} {o:Obj},s₁.heap.get? b=some o->H b=none->(uT s₁.heap H).get? b=some o:=λ e n=>ES e n
   have X:∀ {b:ag} {o:Obj} {E:Array DictEntry} {ep:Nat},s₁.heap.get? b=some o->o.data = .dict E ep->H b=none:=λ {b o E ep} e d=>by
     cases q:H b with
     | none=>rfl
     | some u =>
       have i:b=a:=L b (by rw [q];simp)
       subst i
       rw [g] at e;cases e
       have d':Data.seq vs.toArray _=Data.dict E ep:=d
       cases d'
   have R:∀ {b:ag} {m:bR},s₁.heap.Ns b m->(uT s₁.heap H).Ns b m:=λ {b m} ⟨o,E,ep,e,d,r⟩=>⟨o,E,ep,y e (X e d),d,r⟩
   have Y:K.In (uT s₁.heap H):=λ b o e=>y (D b o e) (by
     cases q:H b with
     | none=>rfl
     | some u =>
       have i:b=a:=L b (by rw [q];simp)
       subst i
       rw [hK (by rw [q];simp)] at e;cases e)
   have hM:Mod K M (uT s₁.heap H):=⟨Y,R A,⟨t,R c,Ri⟩,let ⟨mc,h1,h2⟩:=Ss;⟨mc,R h1,h2⟩⟩
   have e0:qi P w K M (uT s₁.heap H) callerA [] s₁ H:=⟨rfl,hM,λ b o e=>IK e,Nat.le_of_eq (DQ _ _),trivial,λ b c=>absurd (show b∈([]:cM) from c) (by simp),G,.of_eq hg⟩
   refine abT ((F _ Y (R A)).run callerA [] s₁ H ⟨[.ref a],[]⟩ [.ref a] [.ref a] _ _ hr e0 (W s₁ (.ref a)) (.cons rfl .nil) (zx H N hS)) λ r s' h=>?_
   cases r with
   | error e=>exact (l H e s' h).elim
   | ok fl =>
     cases fl with
     | next=>exact False.elim h
     | brk=>exact False.elim h
     | cont=>exact False.elim h
     | ret u =>
       obtain ⟨v,H',os,B,U,UY,r',q⟩:=h
       have q':v = .bl true:=q
       subst q'
       obtain rfl:u=Value.bool true:=r'
       refine ⟨rfl,OldK.of_keep λ b o e=>?_,os,B⟩
       cases q:H b with
       | none=>exact U.keep b o e q (by intro z;exact absurd (show b∈([]:cM) from z) (by simp)) (by simp)
       | some u =>
         rcases N b with z|⟨ob,xs,z⟩
         . rw [q] at z;cases z
         . have z2:=U.mO b ob _ z
           obtain ⟨I,_⟩:=G b _ z
           obtain ⟨e2,_⟩:=UY b _ z2
           rw [e] at I;cases I
           exact e2
 cases p:K.lookup a with
 | some o =>
   have e:=D a o p
   rw [g] at e
   cases e
   refine C (λ _=>none) (λ _ => .inl rfl) (.inr ⟨_,vs.toArray,_,p,rfl,rfl,rfl,by rw [aar,Wt];exact Q,by simpa using S⟩) (λ b u z=>by have f:(none:Option HO)=some u:=z;cases f) (λ b z=>absurd rfl z) λ z=>absurd rfl z
 | none =>
   refine C (λ b=>if b=a then some (.yz { cls:=.type "list",data:=.seq vs.toArray } (.lst (ns.map V.int))) else none) (λ b=>?_) (.inl (.inr ⟨{ cls:=.type "list",data:=.seq vs.toArray },aaq rfl⟩)) (λ b u z=>?_) (λ b z=>?_) λ _=>p
   . by_cases c:b=a
     . exact .inr ⟨_,_,aaq c⟩
     . exact .inl (aal c)
   .
    by_cases c:b=a
    . have f:=(aaq c).symm.trans z
      cases f
      subst c
      exact ⟨g,by rw [Bl];exact Q,vs,_,S,g⟩
    . have f:=(aal c).symm.trans z
      cases f
   . by_cases c:b=a
     . exact c
     . exact absurd (aal c) z
def inClass (s:Stmt) (j:Nat):Stmt:=match s with
 | .ClassDef _ _ _ b _ _ _ _ _ _ _=>b.getD j (.Pass ⟨0,0,0,0⟩)
 | _ => .Pass ⟨0,0,0,0⟩
def cg (s:Stmt):Arguments:=match s with
 | .FunctionDef _ a _ _ _ _ _ _ _ _=>a
 | _=>{ posonlyargs:=[],args:=[],vararg:=none,kwonlyargs:=[],kw_defaults:=[],kwarg:=none,defaults:=[]}
def bg (s:Stmt):List Stmt:=match s with
 | .FunctionDef _ _ b _ _ _ _ _ _ _=>b
 | _=>[]
def ak (s:Stmt):Scope:=match s with
 | .FunctionDef _ _ _ _ _ _ S _ _ _=>S
 | _=>{ kind:=.function,names:=[],isGenerator:=false,isCoroutine:=false }
abbrev qj:CH:=λ _ _ _ _ _ _=>False
abbrev E0:XK:=λ _ _ _=>False
def yk {X:Cx}:Passes qj X E0:=λ Z Z Z Z Z Z Z h=>h.elim
structure IW (K:aC) (x qual:Str) (st:Stmt) (f:ag) (fd:FuncData):Prop where
 ex:∃ (oc:aq) (od:Option ag) (kV doc pm:aq) (an:Option ag) (aW ct:aq) (qz:Array (iO)),
   fd=W.fnOf x qual (cg st) (bg st) (ak st) .none kV doc pm an aW ct/\K.lookup f=some ⟨oc,od,.func fd,qz⟩/\W.codeIn K aW qual=true
 kp:W.keepIn K (.ref f)=true
section
variable {P:bh} {w:bf} {K:aC} {mg:bR} {base:aO}
def IW.ok {x:Str} {st:Stmt} {f:ag} {b:FuncData} {N p:bN} {k:Nat} {sp:Sp} (F:IW K x qual st f b) (S:az N p (ak st)) (len:∀ vs H Q E,sp vs H Q E->vs.length=p.length) (c:∀ (a:aq) (A:Around) (outer:List Env) (s:Shared) (H:Hp) (vs:aA) (Q:VK) (E:XK),cA k (A.deeper (envOfC qual (ak st) s.heap.objs.size f a))->sp vs H Q E ->
     ∃ t,l8 (dh qj P w K mg base N qual (ak st) f a A outer s H E).sS (bg st) t/\t { nx:=λ Z H'=>Q .bL H',rt:=Q } (start N vs) H):iN P w K mg base qj (k+1) f b p sp:=by
 obtain ⟨o,O,kV,d,i,g,a,ct,m,rfl,l,j⟩:=F.ex
 refine FJ l j S len λ A outer s H vs Q E e z=>?_
 obtain ⟨t,h,q⟩:=c a A outer s H vs Q E e z
 exact ⟨t,h.sS,q⟩
def IW.binds {x:Str} {st:Stmt} {f:ag} {c:FuncData} {b:bN} (F:IW K x qual st f c) (h:∀ (kV d p:aq) (A:Option ag) (a ct:aq) (us:aU),us.length=b.length->bindArgs (W.fnOf x qual (cg st) (bg st) (ak st) .none kV d p A a ct) ⟨us,[]⟩=pure (b.zip us)):Binds K c b []:=by
 obtain ⟨o,O,kV,d,p,A,a,ct,q,rfl,l,j⟩:=F.ex
 exact .all (h kV d p A a ct)
def K7 {x:Str} {st:Stmt} {f:ag} {o:aq} {O A:Option ag} {q:Array (iO)} {kV d p a ct:aq} (l:K.lookup f=some ⟨o,O,.func (W.fnOf x qual (cg st) (bg st) (ak st) .none kV d p A a ct),q⟩) (c:W.codeIn K a qual=true) (k:W.keepIn K (.ref f)=true):IW K x qual st f (W.fnOf x qual (cg st) (bg st) (ak st) .none kV d p A a ct):=⟨⟨o,O,kV,d,p,A,a,ct,q,rfl,l,c⟩,k⟩
end
def b5 {A:Around} {k:Nat} (h:cA k A):A.units+1<cLine:=aaY (Nat.add_le_add_left (by decide:1<=64) _) h.units
def aZ {n:Nat} (h:n<=1000):n<sizeLine:=aaY h (by decide)
section
variable {X:Cx}
def pv (i:Nat) {x:Str} {p:Pos} (h:autoParam (X.N[i]?=some x) za_._auto_1) (a:Q2 X.env.scope x:=by first|exact Or.inl rfl|exact Or.inr (Or.inl rfl)|exact Or.inr (Or.inr rfl)) (H:autoParam (wO x) zb_._auto_1) (j:autoParam ((x == ("__classdict__" : Str))=false) zb_._auto_1):PE X (.Name x p) (JB i):=K6 h a H j
end
def ff {A B:Prop} (h:B):if false=true then A else B:=by
 rw [aal aah]
 exact h
def fu {A B:Prop} (h:A):if true=true then A else B:=by
 rw [aaq rfl]
 exact h
def dJ {c A B:Prop} [Decidable c] (H:c) (h:B):if (!decide c)=true then A else B:=by
 rw [aaC H]
 exact ff h
def aF (H h:Hp):Prop:=∀ b o,H b=some o->h b=some o
def aF.refl (H:Hp):aF H H:=λ Z Z h=>h
def aF.trans {d H2:Hp} (a:aF H d) (b:aF d H2):aF H H2:=λ c o h=>b c o (a c o h)
def aF.free (e:aF H H') {l:ag} (h:H' l=Option.none):H l=Option.none:=by
 cases q:H l with
 | none=>rfl
 | some o =>
   rw [e l o q] at h
   cases h
def aF.seq {K:aC} {a:ag} {xs:aA} (e:aF H H') (h:bw K H a xs):bw K H' a xs:=by
 rcases h with (h|⟨o,h⟩)|h
 . exact .inl (.inl (e _ _ h))
 . exact .inl (.inr ⟨o,e _ _ h⟩)
 . exact .inr h
section
variable {κ:Type} [DecidableEq κ]
def Fq {a:List (κ×V)} {k:κ} (h:fG a k=none):¬ k∈a.map (·.1):=by
 intro m
 obtain ⟨p,H,e⟩:=aax.mp m
 have q:(a.any λ K=>decide (K.1=k))=true:=List.any_eq_true.mpr ⟨p,H,aaC e⟩
 rw [js,h] at q
 exact absurd q (by simp)
theorem BA:∀ {l:List κ} {k:κ},l.Nodup->¬ k∈l->(l++[k]).Nodup
 | [],k,_,_=>by simp
 | a::r,k,h,H=>by
   obtain ⟨b,c⟩:=abo.mp h
   show (a::(r++[k])).Nodup
   refine abo.mpr ⟨λ m=>?_,BA c λ m=>H (aaa.mpr (Or.inr m))⟩
   rcases aaD.mp m with q|q
   . exact b q
   . exact H (aaa.mpr (Or.inl (T1.mp q).symm))
def JG {a:List (κ×V)} {k:κ} (v:V) (H:(a.map (·.1)).Nodup) (h:fG a k=none):((putK a k v).map (·.1)).Nodup:=by
 rw [FQ v h,aab]
 exact BA H (Fq h)
end
end L2
namespace Mth
def KB {g l:Int} (h:0<=g) (H:0<l):Int.gcd l (g % l)=Int.gcd g l:=by
 obtain ⟨a,rfl⟩:=adC h
 obtain ⟨b,rfl⟩:=adC (abf H)
 show Nat.gcd b (((a:Int) % (b:Int))).natAbs=Nat.gcd a b
 have:(((a:Int) % (b:Int))).natAbs=a % b:=by rw [<- Int.natCast_emod];rfl
 rw [this,Nat.gcd_comm a b,Nat.gcd_comm b,<- Nat.gcd_rec]
def OV {g:Int} (h:0<=g):((Int.gcd g 0:Nat):Int)=g:=by
 rw [Int.gcd_zero_right];lia
def uB {a b:Int} (H:0<a) (h:0<a * b):0<b:=by
 rcases (by lia:0<b\/b<=0) with q|q
 . exact q
 . have:=acs (abf H) (by lia:0 <= -b)
   rw [ad2] at this
   lia
structure Fr (t b q r:Int):Prop where
 pos:0<r
 jv:q * b=t * r
 QY:Int.gcd q r=1
 Px:q.natAbs<=t.natAbs
 OQ:r.natAbs<=b.natAbs
def rO {c q:Int} (h:0<c):q.natAbs<=(c * q).natAbs:=by
 rw [acQ]
 exact Nat.le_mul_of_pos_left _ (by lia)
def Hs {t b c:Int} (e:b≠0) (f:c=((Int.gcd t b:Nat):Int)):0<c/\c<=b.natAbs/\(0<b->Fr t b (t.fdiv c) (b.fdiv c))/\(b<0->Fr t b (t.fdiv (-c)) (b.fdiv (-c))):=by
 have o:0<Int.gcd t b:=Int.gcd_pos_iff.mpr (.inr e)
 have C:0<c:=by lia
 have D:c ∣ t:=f ▸ Int.gcd_dvd_left t b
 have i:c ∣ b:=f ▸ Int.gcd_dvd_right t b
 obtain ⟨q,H⟩:=D
 obtain ⟨r,h⟩:=i
 have s:r≠0:=by rintro rfl;rw [Int.mul_zero] at h;exact e h
 have d:c<=b.natAbs:=by
   rw [h,acQ]
   have:c.natAbs * 1<=c.natAbs * r.natAbs:=Nat.mul_le_mul_left _ (by lia)
   lia
 have E:t.fdiv c=q:=by rw [H,ab0 _ (by lia)]
 have j:b.fdiv c=r:=by rw [h,ab0 _ (by lia)]
 have k:t.fdiv (-c) = -q:=by rw [show t = -c * -q by rw [H,Int.neg_mul_neg],ab0 _ (by lia)]
 have l:b.fdiv (-c) = -r:=by rw [show b = -c * -r by rw [h,Int.neg_mul_neg],ab0 _ (by lia)]
 have g:Int.gcd q r=1:=by
   have a:Int.gcd (c * q) (c * r)=c.natAbs * Int.gcd q r:=Int.gcd_mul_left c q r
   rw [<- H,<- h] at a
   have n:c.natAbs=Int.gcd t b:=by lia
   rw [n] at a
   have m:Int.gcd t b * Int.gcd q r=Int.gcd t b * 1:=by rw [<- a,adZ]
   exact Nat.eq_of_mul_eq_mul_left o m
 have L:q.natAbs<=t.natAbs:=H ▸ rO C
 have p:r.natAbs<=b.natAbs:=h ▸ rO C
 refine ⟨C,d,λ B=>?_,λ B=>?_⟩
 . rw [E,j]
   exact ⟨uB C (h ▸ B),by rw [H,h,aa4,Int.mul_left_comm],g,L,p⟩
 . rw [k,l]
   refine ⟨uB C (by rw [ad2,<- h];lia),?_,by rw [Int.gcd_neg,Int.neg_gcd];exact g,by lia,by lia⟩
   rw [H,h,Int.neg_mul,ad2,aa4,Int.mul_left_comm]
def Bd (n:Nat) (x:Int):Prop:=x.natAbs<2 ^ n
def Bd.mono {m n:Nat} {x:Int} (h:Bd m x) (l:m<=n):Bd n x:=aam h (aba (by decide) l)
def Bd.mul {m n:Nat} {x y:Int} (h:Bd m x) (k:Bd n y):Bd (m+n) (x * y):=by
 unfold Bd at *
 rw [acQ,Nat.pow_add]
 exact Nat.mul_lt_mul'' h k
def Bd.add {m:Nat} {x y:Int} (h:Bd m x) (k:Bd m y):Bd (m+1) (x+y):=by
 unfold Bd at *
 rw [adM]
 have:=Int.natAbs_add_le x y
 lia
def Bd.neg {m:Nat} {x:Int} (h:Bd m x):Bd m (-x):=by unfold Bd at *;rw [Int.natAbs_neg];exact h
def Bd.sub {m:Nat} {x y:Int} (h:Bd m x) (k:Bd m y):Bd (m+1) (x - y):=by rw [Int.sub_eq_add_neg];exact h.add k.neg
def Bd.le {m:Nat} {x y:Int} (h:Bd m y) (k:x.natAbs<=y.natAbs):Bd m x:=aaY k h
def Bd.log {n:Nat} {x:Int} (h:Bd n x) (a:0<n):x.natAbs.log2<n:=by
 by_cases H:x.natAbs=0
 . rw [H];simpa using a
 . exact (Nat.log2_lt H).mpr h
def Fr.QZ {t b q r:Int} {n:Nat} (h:Fr t b q r) (k:Bd n t):Bd n q:=k.le h.Px
def Fr.Rf {t b q r:Int} {n:Nat} (h:Fr t b q r) (k:Bd n b):Bd n r:=k.le h.OQ
end Mth
namespace Bit
def rooms (n:Nat):cx:=(List.range 61).filter n.testBit
def dH {n k:Nat}:k∈rooms n↔k<61/\n.testBit k=true:=by
 unfold rooms;rw [aaW,aaK]
def ke (n:Nat):(rooms n).Pairwise (· < ·):=(adH).filter _
def ji {n m k:Nat} (h:n<2 ^ m) (H:m<=k):n.testBit k=false:=Nat.testBit_lt_two_pow (aam h (aba (by decide) H))
def A8 {n m:Nat} (h:n<2 ^ m) (f:m<=61):(List.range m).filter n.testBit=rooms n:=by
 unfold rooms
 obtain ⟨d,c⟩:∃ d,61=m+d:=⟨61 - m,by lia⟩
 have e:List.range 61=List.range (m+d):=by rw [c]
 rw [e,List.range_add,aa9]
 have:(List.map (m + ·) (List.range d)).filter n.testBit=[]:=by
   rw [adI]
   intro a H
   obtain ⟨b,Z,rfl⟩:=aax.mp H
   rw [ji h (by lia)]
   exact aah
 rw [this,aaT]
def sumOf (l:cx):Nat:=l.foldl (λ n r=>n ||| 2 ^ r) 0
theorem xD:∀ (l:cx) (a k:Nat),(l.foldl (λ n r=>n ||| 2 ^ r) a).testBit k=(a.testBit k || decide (k∈l))
 | [],a,k=>by simp
 | r::l,a,k=>by
   rw [List.foldl_cons,xD l,adr,acR,Bool.or_assoc]
   congr 1
   by_cases h:r=k
   . subst h;simp
   . have:decide (k∈r::l)=decide (k∈l):=by simp [abt h]
     rw [this];simp [h]
def lK (l:cx) (k:Nat):(sumOf l).testBit k=decide (k∈l):=by
 unfold sumOf;rw [xD];simp
def FS {l:cx} {m:Nat} (h:∀ r∈l,r<m):sumOf l<2 ^ m:=by
 refine ads _ λ i H=>?_
 rw [lK]
 exact aap λ q=>absurd (h i q) (by lia)
def yB {l:cx} (h:∀ r∈l,r<61) (f:l.Pairwise (· < ·)):rooms (sumOf l)=l:=by
 have C:∀ k,k∈rooms (sumOf l)↔k∈l:=λ k=>by
   rw [dH,lK]
   constructor
   . rintro ⟨Z,q⟩;exact act q
   . intro q;exact ⟨h k q,aaC q⟩
 have u:∀ (a b:cx),a.Pairwise (· < ·)->b.Pairwise (· < ·)->(∀ k,k∈a↔k∈b)->a=b:=by
   intro a
   induction a with
   | nil =>
     intro b Z Z H
     cases b with
     | nil=>rfl
     | cons y b=>exact absurd ((H y).mpr aaz) (by simp)
   | cons x a i =>
     intro b d e H
     cases b with
     | nil=>exact absurd ((H x).mp aaz) (by simp)
     | cons y b =>
       obtain ⟨X,c⟩:=ad6.mp d
       obtain ⟨E,M⟩:=ad6.mp e
       have S:x=y:=by
         rcases aaa.mp ((H x).mp aaz) with q|q
         . exact q
         . rcases aaa.mp ((H y).mpr aaz) with Q|Q
           . exact Q.symm
           . have:=E x q;have:=X y Q;lia
       subst S
       rw [i b c M λ k=>?_]
       constructor
       . intro q
         rcases aaa.mp ((H k).mp (aao _ q)) with z|z
         . subst z;exact absurd (X k q) (aa8 _)
         . exact z
       . intro q
         rcases aaa.mp ((H k).mpr (aao _ q)) with z|z
         . subst z;exact absurd (E k q) (aa8 _)
         . exact z
 exact u _ _ (ke _) f C
def parts (l:cx):cx:=l.foldl (λ p r=>p++p.map (· ||| 2 ^ r)) [0]
def Bq {p r:Nat} (h:p<2 ^ r):p ||| 2 ^ r=p+2 ^ r:=by
 have:=adl h 1
 rw [adZ] at this
 rw [Nat.or_comm,<- this,aco]
structure Ok (ps l:cx):Prop where
 len:ps.length=2 ^ l.length
 first:ps[0]?=some 0
 last:ps[ps.length - 1]?=some (sumOf l)
 rise:ps.Pairwise (· < ·)
 sub:∀ p∈ps,∀ k,p.testBit k=true->k∈l
def Gf:Ok [0] []:=⟨rfl,rfl,rfl,by simp,λ p H k h=>by
 have:p=0:=by simpa using H
 subst this;simp at h⟩
def Jb {d l:cx} {r:Nat} (h:Ok d l) (o:∀ x∈l,x<r):Ok (d++d.map (· ||| 2 ^ r)) (l++[r]):=by
 have s:∀ p∈d,p<2 ^ r:=λ p m=>ads _ λ i t=>by
   cases e:p.testBit i with
   | false=>rfl
   | true=>have:=o i (h.sub p m i e);lia
 have n:0<d.length:=by rw [h.len];exact Nat.two_pow_pos _
 refine ⟨?_,?_,?_,?_,?_⟩
 . rw [aad,Bl,h.len,aad,abx,adM];lia
 . rw [aaM n];exact h.first
 .
  rw [aad,Bl,aaL (by lia),RI]
  have e:d.length+d.length - 1 - d.length=d.length - 1:=by lia
  rw [e,h.last]
  show some (sumOf l ||| 2 ^ r)=some (sumOf (l++[r]))
  unfold sumOf
  rw [abd];rfl
 .
  rw [adV]
  refine ⟨h.rise,?_,λ a H b f=>?_⟩
  . rw [ac1]
    refine List.Pairwise.imp_of_mem ?_ h.rise
    intro a b H f E
    rw [Bq (s a H),Bq (s b f)];lia
  . obtain ⟨c,g,rfl⟩:=aax.mp f
    have:=s a H
    rw [Bq (s c g)];lia
 .
  intro p m k j
  rcases aaD.mp m with q|q
  . exact aaU _ (h.sub p q k j)
  .
   obtain ⟨c,g,rfl⟩:=aax.mp q
   rw [adr,Bool.or_eq_true] at j
   rcases j with z|z
   . exact aaU _ (h.sub c g k z)
   . rw [acR] at z
     have:=act z
     subst this
     exact aaj _ (by simp)
theorem wl:∀ (b a p:cx),Ok p a->(a++b).Pairwise (· < ·)->Ok (b.foldl (λ p r=>p++p.map (· ||| 2 ^ r)) p) (a++b)
 | [],a,p,h,_=>by simpa using h
 | r::b,a,p,h,H=>by
   rw [List.foldl_cons]
   have e:a++r::b=(a++[r])++b:=by simp
   have c:∀ x∈a,x<r:=λ x d=>(adV.mp H).2.2 x d r aaz
   rw [e] at H |-
   exact wl b (a++[r]) _ (Jb h c) H
def GF {n:Nat}:Ok (parts (rooms n)) (rooms n):=by
 have:=wl (rooms n) [] [0] Gf (by simpa using ke n)
 rw [ab8] at this
 exact this
def Ie {p n:Nat} (h:∀ k,p.testBit k=true->n.testBit k=true):p &&& n=p:=by
 refine abi λ k=>?_
 rw [aa0]
 cases e:p.testBit k with
 | false=>rfl
 | true=>rw [h k e];rfl
def FN {n p:Nat} (H:p∈parts (rooms n)):p &&& n=p:=Ie λ k h=>(dH.mp (GF.sub p H k h)).2
def Hj {n r:Nat} (f:r<61) (h:n.testBit r=false):(rooms (n ||| 2 ^ r)).length=(rooms n).length+1:=by
 have c:∀ (l:cx),l.Nodup->(l.filter (n ||| 2 ^ r).testBit).length=(l.filter n.testBit).length+(if r∈l then 1 else 0):=by
   intro l
   induction l with
   | nil=>intro Z;rfl
   | cons x l i =>
     intro b
     obtain ⟨H,a⟩:=abo.mp b
     have e:=i a
     have g:(n ||| 2 ^ r).testBit x=(n.testBit x || decide (r=x)):=by rw [adr,acR]
     rw [ade,ade,g]
     by_cases q:r=x
     . subst q
       rw [h]
       simp only [decide_true,ac8,abR,aav,e,aal H,aaa,true_or]
       simp
     . have Q:(r∈x::l)↔r∈l:=by simp [q]
       have d:decide (r=x)=false:=aap q
       rw [d,Bool.or_false]
       cases n.testBit x with
       | true=>simp only [abR,aav,e];by_cases z:r∈l<;>simp [z,q]<;>lia
       | false=>simp only [aca,ach,e];by_cases z:r∈l<;>simp [z,q]
 have:=c (List.range 61) List.nodup_range
 rw [aaq (aaK.mpr f)] at this
 exact this
end Bit
namespace L2
open PySem PySem.Spec PyProof.Rows Mth
def zH:bootBuiltins "abs" = some (.builtin "abs"):=by decide +kernel
def dF:bootBuiltins "len" = some (.builtin "len"):=by decide +kernel
def bV:bootBuiltins "isinstance" = some (.builtin "isinstance"):=by decide +kernel
def AU:bootBuiltins "all" = some (.builtin "all"):=by decide +kernel
def nB:bootBuiltins "tuple" = some (.type "tuple"):=by decide +kernel
def m9:bootBuiltins "list" = some (.type "list"):=by decide +kernel
def Fi:bootBuiltins "int" = some (.type "int"):=by decide +kernel
def Co:bootBuiltins "bool" = some (.type "bool"):=by decide +kernel
def By {n:Nat} {x:Int} (h:Bd n x):Builtin.Int.intBits x<=n:=acf.mpr h
def IR {n:Nat} {x:Int} (h:Builtin.Int.intBits x<=n):Bd n x:=acf.mp h
section
variable {X:Cx}
def KO (i j:Int):Prop:=∃ m n,Bd m i/\Bd n j/\m+n<=100000000
def Kj (_ j:Int):Prop:=j≠0/\Bd 8999 j
def Kb:jw X (binaryOp .Mult) (rI KO λ i j => .int (i * j)):=Nt λ Z Z Z Z Z Z Z a q=>by
 obtain ⟨m,n,h,H,b⟩:=a
 exact mul_int q (IntMulOk.of_le (By h) (By H) (by lia))
def GB:jw X (binaryOp .FloorDiv) (rI Kj λ i j => .int (i.fdiv j)):=Nt λ Z Z Z Z Z Z Z h q=>by
 have H:Bd 8999 _:=h.2
 exact floordiv_int h.1 q (.inl (PyProof.noPylong_of_log2 (aam (H.log (by decide)) (by decide))))
inductive OE (K:aC) (x:V) (y:V) (H:Hp) (Q:VK):Prop|mk (p xs i v:_) (_:x = .ref p) (_:y = .int i) (_:(bw K H p xs\/cH K H p xs)) (_:tM xs i=some v) (_:Q v H)
def ax:ND X (OE X.K):=by
 intro V S a s U H x y v u Q I r R h d
 obtain ⟨p,f,i,w,e,E,b,c,q⟩:=h
 rcases b with b|b
 . exact IM V S a s U H x y v u Q I r R ⟨p,f,i,w,e,E,b,c,q⟩ d
 . exact K2 V S a s U H x y v u Q I r R ⟨p,f,i,w,e,E,b,c,q⟩ d
def kJ:ir X (.builtin "isinstance") (λ xs H Q=>∃ x c t C b,xs=[x,c]/\oH X.K H x t/\RelV c C/\W.kitOne X.K t C=some b/\Q (.bl b) H):=by
 intro p s U H xs g Q I r h
 obtain ⟨x,c,t,C,b,rfl,ty,R,e,q⟩:=h
 obtain ⟨u,w,rfl,f,d⟩:=vals2 r
 have:w=C:=by
   cases c with
   | bL=>cases d;cases R;rfl
   | bl b=>cases d;cases R;rfl
   | ref a=>cases d;cases R;rfl
   | ty n=>cases d;cases R;rfl
   | int i=>exact absurd e (by obtain ⟨k,rfl⟩:=R;intro z;unfold W.kitOne W.kitCls at z;cases ty<;>simp at z)
   | str i=>exact absurd e (by obtain ⟨k,rfl⟩:=R;intro z;unfold W.kitOne W.kitCls at z;cases ty<;>simp at z)
   | Ds i=>exact absurd e (by obtain ⟨k,rfl⟩:=R;intro z;unfold W.kitOne W.kitCls at z;cases ty<;>simp at z)
   | Kz i=>exact absurd e (by obtain ⟨k,rfl⟩:=R;intro z;unfold W.kitOne W.kitCls at z;cases ty<;>simp at z)
 subst this
 exact Db I f ty e λ T=>⟨.bl b,H,I.tok _,rfl,q⟩
end
def fZ (K:aC) (m:bR) (x:Str) (st:Stmt):Prop:=∃ f F,m x=some (.ref f)/\IW K x x st f F
def Def (P:bh) (w:bf) (K:aC) (m:bR) (base:aO) (x:Str) (k:Nat) (p:bN) (s:Sp):Prop :=
 ∃ f F,m x=some (.ref f)/\W.keepIn K (.ref f)=true/\Binds K F p []/\iN P w K m base qj k f F p s
section
variable {P:bh} {w:bf} {K:aC} {mg:bR} {base:aO}
def fZ.def {x:Str} {st:Stmt} {N p:bN} {k:Nat} {sp:Sp} (h:fZ K mg x st) (S:az N p (ak st)) (len:∀ vs H Q E,sp vs H Q E->vs.length=p.length)
   (g:∀ (kV d m:aq) (c:Option ag) (a ct:aq) (us:aU),us.length=p.length->bindArgs (W.fnOf x x (cg st) (bg st) (ak st) .none kV d m c a ct) ⟨us,[]⟩=pure (p.zip us))
   (C:∀ (f:ag) (a:aq) (A:Around) (outer:List Env) (s:Shared) (H:Hp) (vs:aA) (Q:VK) (E:XK),cA k (A.deeper (envOfC x (ak st) s.heap.objs.size f a))->sp vs H Q E ->
     ∃ t,l8 (dh qj P w K mg base N x (ak st) f a A outer s H E).sS (bg st) t/\t { nx:=λ Z b=>Q .bL b,rt:=Q } (start N vs) H):Def P w K mg base x (k+1) p sp:=by
 obtain ⟨f,e,i,F⟩:=h
 exact ⟨f,e,i,F.kp,F.binds g,F.ok S len λ a A outer s H vs Q E j l=>C f a A outer s H vs Q E j l⟩
def IW.L7 {x q:Str} {st:Stmt} {f:ag} {c:FuncData} {p:Str} (F:IW K x q st f c)
   (h:∀ (kV d b:aq) (A:Option ag) (a ct:aq) (u:aq),bindArgs (W.fnOf x q (cg st) (bg st) (ak st) .none kV d b A a ct) ⟨[u],[]⟩=pure [(p,u)]) (s:Shared) (u:aq):BindsTo s c ⟨[u],[]⟩ [(p,u)]:=by
 obtain ⟨o,O,kV,d,b,A,a,ct,Q,rfl,l,j⟩:=F.ex
 exact .of_eq (h kV d b A a ct u)
end
section
variable {X:Cx} {x:Str} {p pos:Pos} {e:Expr} {es:List Expr} {t:TA} {k:Nat} {ps:bN} {sp:Sp}
def ap (D:Def X.prog X.w X.K X.mg X.base x k ps sp) (i:cA k X.A) (h:PA X (e::es) t) (b:autoParam (Gl X x) za_._auto_1) (q:autoParam (wO x) zb_._auto_1)
   (a:autoParam (zu X e es) za_._auto_1) (g:autoParam (wP X es pos) za_._auto_1):PE X (.Call (.Name x p) (e::es) [] pos) (BF sp [] E0 t):=by
 obtain ⟨f,j,d,c,H,F⟩:=D
 exact BQ F i b d c H .nil yk h q a g
end
def zQ {n:Int} {m:Nat} (h:(W.WData.int n).weight<=m):Bd m n:=by
 refine IR ?_
 simpa only [W.WData.weight,Builtin.Int.intBits] using h
end L2
namespace Att
open PySem PySem.W PySem.Calls PyProof.Rows Mth
def vQ {l:OpenLaw} {n:Nat} {q:bh} {L:bN} {X:(bR)->aO->Prop} {y:bf->aO->Prop} {d:DefRec}
   (J:l.most=some n) (O:d.params.defaults=[])
   (c:∀ (w:bf) (s₀ s:Shared) (m M:bR) (F:ag) (o:Obj) (p C D:aq) (a:ag) (vs:aU) (ns:List Int),
     Ground q L [] X w s₀ m M s.heap->y w s.heap ->
     s.heap.get? F=some o->o.data = .func (docDef d.name d.params d.body d.scope p C D)->s.heap.CodeRec C d.name->m d.name=some (.ref F) ->
     s.heap.get? a=some { cls:=.type "list",data:=.seq vs.toArray }->IntsAre vs ns->ns.length<=n->(∀ z∈ns,Bd 1048576 z)->s.gens=#[] ->
     codeAny (model l.prog w) callerA (.call (.ref F) ⟨[.ref a],[]⟩) (λ r s'=>r = .ok (.ret (.bool true))/\OldK s.heap s'.heap/\s'.os=s.os/\AllBare s'.gens) s) :
   WalkO q L X y l.row.toRowW d [] (λ f vs=>PySem.call f vs):=by
 intro w s₀ s m M G Y F o p C D j kV K x T e N A args v as I V U Q B
 obtain rfl:j = .none:=Dflts.none e O
 obtain rfl:kV = .none:=Dflts.noKw e
 obtain ⟨a,vs,ns,rfl,rfl,i,h,H⟩:=Df J I Q
 have g:∀ z∈ns,Bd 1048576 z:=λ z S=>by
   have k:=layableW_arg V _ (T1.mpr rfl)
   have b:=layableW_item k (.int z) (aax.mpr ⟨z,S,rfl⟩)
   exact L2.zQ (aa3 (layableW_iff.mp b).2.2 (by decide))
 refine enter_call (abT (c w s₀ s m M F o p C D a vs ns G Y K (fd_plain x) T N i h H g A) λ r s' R=>?_)
 obtain ⟨rfl,b,t,u⟩:=R
 exact ⟨.inl ⟨.bool true,.bool true,[],rfl,λ Z=>rfl,.bool true,Et l _,λ Z=>⟨List.Pairwise.nil,λ Z E=>(nomatch E)⟩⟩,b,t,u⟩
end Att
namespace L2
open PySem PySem.Spec PyProof.Rows Mth
variable {E:XK} {H H':Hp} {c6 DS np qc:Pos} {elt e₀ iter tg:Expr} {elts ifs:List Expr} {g:TG} {i nt t' x1:Nat} {o u:HO} {oI oe:Obj} {te:TE} {v:V} {U:St}
inductive E9 (K:aC) (vs:aA) (H:Hp) (Q:VK) (_E:XK):Prop|mk (a:ag) (ns:List Int) (_:vs=[.ref a]) (_:bw K H a (ns.map V.int)) (_:ns.length<=63) (_:(∀ z∈ns,Bd 1048576 z)) (_:∀ H',Q (.bl true) H')
def Fv {l:W.OpenLaw} {k:Nat} {q:bh} {L:bN} {X:(bR)->aO->Prop} {y:bf->aO->Prop} {d:DefRec} {K:Params->aC} {x:Str} (E:l.most=some 63) (O:d.params.defaults=[]) (I:cA k callerA) (v:∀ (w:bf) (h:aO),y w h->(K w.params).In h) (F:∀ (w:bf) (m:bR) (j:ag) (h:aO),(K w.params).In h->h.Ns mainGlobals m->m d.name=some (.ref j) ->
     ∃ n:FuncData,(∀ (s:Shared) (u:aq),BindsTo s n ⟨[u],[]⟩ [(x,u)]) /\
       ∀ base:aO,(K w.params).In base->base.Ns mainGlobals m->iN l.prog w (K w.params) m base qj k j n [x] (E9 (K w.params))) :
   W.WalkO q L X y l.row.toRowW d [] (λ f vs=>PySem.call f vs):=by
 refine Att.vQ E O λ w s₀ S m mb j o pm Q D a vs J G Y V U je N M i c C B=>?_
 have p:=v w _ Y
 obtain ⟨n,A,r⟩:=F w m j _ p G.T.g N
 exact Fa p G.T.g G.T.b G.T.builtins G.T.nolimit B M i (aa3 c (by decide)) I r A (λ H R t=>⟨a,J,rfl,t,c,C,λ Z=>rfl⟩) λ H e s' z=>z
section
variable {X:Cx}
inductive NZ (x:V) (y:V) (H:Hp) (Q:VK):Prop|mk (i j:_) (_:x = .int i) (_:y = .int j) (_:∀ r:Int,r=i+j->Q (.int r) H)
inductive P7 (x:V) (y:V) (H:Hp) (Q:VK):Prop|mk (i j:_) (_:x = .int i) (_:y = .int j) (_:∀ r:Int,r=i - j->Q (.int r) H)
inductive N4 (x:V) (y:V) (H:Hp) (Q:VK):Prop|mk (i j:_) (_:x = .int i) (_:y = .int j) (_:KO i j) (_:∀ r:Int,r=i * j->Q (.int r) H)
inductive NK (x:V) (y:V) (H:Hp) (Q:VK):Prop|mk (i j:_) (_:x = .int i) (_:y = .int j) (_:Kj i j) (_:∀ r:Int,r=i.fdiv j->Q (.int r) H)
inductive Qj (x:V) (y:V) (H:Hp) (Q:VK):Prop|mk (i j:_) (_:x = .int i) (_:y = .int j) (_:HY i j) (_:∀ r:Int,r=i ^ j.toNat->Q (.int r) H)
inductive Pw (x:V) (y:V) (H:Hp) (Q:VK):Prop|mk (i j:_) (_:x = .int i) (_:y = .int j) (_:HY i j) (_:∀ r:Int,r=i * 2 ^ j.toNat->Q (.int r) H)
inductive O9 (x:V) (y:V) (H:Hp) (Q:VK):Prop|mk (i j:_) (_:x = .int i) (_:y = .int j) (_:0<=j) (_:∀ r:Int,r=i / 2 ^ j.toNat->Q (.int r) H)
inductive Ta (x:V) (y:V) (H:Hp) (Q:VK):Prop|mk (i j:_) (_:x = .int i) (_:y = .int j) (_:∀ r:Int,r=Builtin.bitOr i j->Q (.int r) H)
inductive OL (x:V) (y:V) (H:Hp) (Q:VK):Prop|mk (i j:_) (_:x = .int i) (_:y = .int j) (_:∀ r:Int,r=Builtin.bitAnd i j->Q (.int r) H)
inductive rLM (x:V) (y:V) (H:Hp) (Q:VK):Prop|mk (i j:_) (_:x = .int i) (_:y = .int j) (_:0<j) (_:∀ r:Int,0<=r->r<j->r=i % j->Q (.int r) H)
def aM:jw X (binaryOp .Add) NZ:=λ p s U H x y v u Q I r R ⟨i,j,e,E,q⟩=>L0 p s U H x y v u Q I r R ⟨i,j,e,E,q _ rfl⟩
def d6:jw X (binaryOp .Sub) P7:=λ p s U H x y v u Q I r R ⟨i,j,e,E,q⟩=>Lz p s U H x y v u Q I r R ⟨i,j,e,E,q _ rfl⟩
def bq:jw X (binaryOp .Mult) N4:=λ p s U H x y v u Q I r R ⟨i,j,e,E,c,q⟩=>Kb p s U H x y v u Q I r R ⟨i,j,e,E,c,q _ rfl⟩
def gA:jw X (binaryOp .FloorDiv) NK:=λ p s U H x y v u Q I r R ⟨i,j,e,E,c,q⟩=>GB p s U H x y v u Q I r R ⟨i,j,e,E,c,q _ rfl⟩
def qF:jw X (binaryOp .Pow) Qj:=λ p s U H x y v u Q I r R ⟨i,j,e,E,c,q⟩=>LV p s U H x y v u Q I r R ⟨i,j,e,E,c,q _ rfl⟩
def IA:jw X (binaryOp .LShift) Pw:=λ p s U H x y v u Q I r R ⟨i,j,e,E,c,q⟩=>LM p s U H x y v u Q I r R ⟨i,j,e,E,c,q _ rfl⟩
def vP:jw X (binaryOp .RShift) O9:=λ p s U H x y v u Q I r R ⟨i,j,e,E,c,q⟩=>Ld p s U H x y v u Q I r R ⟨i,j,e,E,c,q _ rfl⟩
def AQ:jw X (binaryOp .BitOr) Ta:=λ p s U H x y v u Q I r R ⟨i,j,e,E,q⟩=>Qx p s U H x y v u Q I r R ⟨i,j,e,E,q _ rfl⟩
def iW:jw X (binaryOp .BitAnd) OL:=λ p s U H x y v u Q I r R ⟨i,j,e,E,q⟩=>Li p s U H x y v u Q I r R ⟨i,j,e,E,q _ rfl⟩
def gu:jw X (binaryOp .Mod) rLM:=λ p s U H x y v u Q I r R ⟨i,j,e,E,c,q⟩ =>
 MA p s U H x y v u Q I r R ⟨i,j,e,E,c,q _ (adm _ (by lia)) (acZ _ c) rfl⟩
def oM:ir X (.builtin "abs") (λ xs H Q=>∃ i,xs=[.int i]/\∀ r:Int,r=i.natAbs->Q (.int r) H) :=
 λ p s U H xs u Q I r ⟨i,e,q⟩=>Hq p s U H xs u Q I r ⟨i,e,q _ (by split<;>lia)⟩
def bQ:ir X (.builtin "len") (λ xs H Q=>∃ p ys,xs=[.ref p]/\(bw X.K H p ys\/cH X.K H p ys)/\∀ r:Int,r=ys.length->Q (.int r) H) :=
 λ a s U H xs u Q I r ⟨p,ys,e,h,q⟩=>vW a s U H xs u Q I r ⟨p,ys,e,h,q _ rfl⟩
def Uu (t:TS):TS:=λ D U H=>∃ P:St->Hp->Prop,t { D with nx:=P } U H/\∀ a H',P a H'->D.nx a H'
def oT {st:Stmt} {t:TS} (h:PS X st t):PS X st (Uu t):=by
 intro p s U H D I d
 obtain ⟨P,b,c⟩:=d
 refine cO (h p s U H { D with nx:=P } I b) λ f S q=>?_
 cases f with
 | next =>
   obtain ⟨a,H',i,q⟩:=q
   exact ⟨a,H',i,c a H' q⟩
 | ret v=>exact q
 | brk=>exact q
 | cont=>exact q
end
def mU {c A B:Prop} [Decidable c] (H:c) (h:A):if decide c=true then A else B:=by
 rw [aaC H];exact fu h
def mr {c A B:Prop} [Decidable c] (H:¬ c) (h:B):if decide c=true then A else B:=by
 rw [aap H];exact ff h
def i5 {c A B:Prop} [Decidable c] (H:c->A) (a:¬ c->B):if decide c=true then A else B:=by
 by_cases h:c
 . exact mU h (H h)
 . exact mr h (a h)
def xo {c A B:Prop} [Decidable c] (H:¬ c->A) (a:c->B):if (!decide c)=true then A else B:=by
 by_cases h:c
 . exact dJ h (a h)
 . rw [aap h];exact fu (H h)
def FK {c A B:Prop} [Decidable c] (H:¬ c) (h:A):if (!decide c)=true then A else B:=by
 rw [aap H];exact fu h
def Vh {c:Prop} [Decidable c] (h:c) {Q:VK} (q:Q (.bl true) H):Q (.bl (decide c)) H:=by rw [aaC h];exact q
def eD {a b:Int}:V.int a=V.int b↔a=b:=⟨λ e=>by cases e;rfl,λ e=>by rw [e]⟩
def am {p:ag} (h:H p=none):aF H (upd H p o):=λ b u e=>by rw [aG (aD e h)];exact e
def aF.tup {K:aC} {a:ag} {xs:aA} (e:aF H H') (h:cH K H a xs):cH K H' a xs:=by
 rcases h with (h|⟨o,h⟩)|h
 . exact .inl (.inl (e _ _ h))
 . exact .inl (.inr ⟨o,e _ _ h⟩)
 . exact .inr h
def mZ {n:Nat} {x:Int} (h:autoParam (x.natAbs<2 ^ n) zb_._auto_1):Bd n x:=h
def TB {x:Int} (n:Nat) (lo : -(2 ^ 100)<x) (H:x<2 ^ 100) (h:autoParam (100<=n) zb_._auto_1):Bd n x:=by
 have:Bd 100 x:=by unfold Bd;lia
 exact this.mono h
def uV (K:aC):W.kitOne K (.type "int") (.type "bool")=some false:=by
 show (if W.kitMeta "bool" = true then ((PySem.fastBuiltinMro "int").map (·.contains (Value.type "bool"))) else none)=some false
 decide +kernel
def qv {x y:V}:[x,y].length<=sizeLine:=by show 2<=sizeLine;decide
def Ex {x y z:V}:[x,y,z].length<=sizeLine:=by show 3<=sizeLine;decide
inductive MV (vs:aA) (H:Hp) (Q:VK) (_E:XK):Prop|mk (a b:Int) (_:vs=[.int a,.int b]) (_:∀ r:Int,r=((Int.gcd a b:Nat):Int)->Q (.int r) H)
inductive yG (vs:aA) (H:Hp) (Q:VK) (_E:XK):Prop|mk (t b:Int) (_:vs=[.int t,.int b]) (_:b≠0) (_:Bd 4000 b) (_:∀ q r p H',Fr t b q r->aF H H'->H' p=some (.tup [.int q,.int r])->Q (.ref p) H')
inductive xY (f:Int->Int->Int->Int->Int) (K:aC) (vs:aA) (H:Hp) (Q:VK) (_E:XK):Prop|mk (p1 p2 a b c d:_) (_:vs=[.ref p1,.ref p2]) (_:cH K H p1 [.int a,.int b]) (_:cH K H p2 [.int c,.int d]) (_:0<b) (_:0<d) (_:Bd 1000 a) (_:Bd 1000 b) (_:Bd 1000 c) (_:Bd 1000 d) (_:∀ q r p H',Fr (f a b c d) (b * d) q r->aF H H'->H' p=some (.tup [.int q,.int r])->Q (.ref p) H')
inductive Hh (K:aC) (vs:aA) (H:Hp) (Q:VK) (_E:XK):Prop|mk (p1 p2 a b c d:_) (_:vs=[.ref p1,.ref p2]) (_:cH K H p1 [.int a,.int b]) (_:cH K H p2 [.int c,.int d]) (_:Bd 1000 a) (_:Bd 1000 b) (_:Bd 1000 c) (_:Bd 1000 d) (_:Q (.bl (decide (a * d<c * b))) H)
inductive Ab (K:aC) (vs:aA) (H:Hp) (Q:VK) (_E:XK):Prop|mk (a:ag) (ns:List Int) (k:Int) (_:vs=[.ref a,.int k]) (_:bw K H a (ns.map V.int)) (_:0<=k) (_:∀ z,(z∈ns\/z=0)->Q (.int z) H)
inductive GK (vs:aA) (H:Hp) (Q:VK) (_E:XK):Prop|mk (t b:Int) (_:vs=[.int t,.int b]) (_:0<b) (_:Bd 4000 b) (_:∀ q r p H',Fr t b q r->aF H H'->H' p=some (.tup [.int q,.int r])->Q (.ref p) H')
def cD (X:Cx) (N':bN) (S:Scope) (cl:List (Str×ag)) (C:ag) (s:Shared) (H:Hp) (ex:cM):Cx :=
 { X with N:=N',env:=compEnvC S cl C X.env,s₀:=s,H₀:=H,outer:=X.stack,ex:=ex,fn:=λ Z=>false,pn:=[],xe:=λ Z Z=>False }
def Un.qX {f ex:cM} {h h' Ye:aO} {C:ag} (u:Un f ex H H' h h') (s:Heap.SameBut C h' Ye) (d:h.get? C=none):Un f ex H H' h Ye:=by
 have N:∀ b o,h.get? b=some o->b≠C:=λ b o e z=>by rw [z,d] at e;cases e
 exact ⟨λ b o e n c a=>s.extBut b o (N b o e) (u.keep b o e n c a),λ b o e n c a=>by
     obtain ⟨sl,q⟩:=u.slot b o e n c a
     exact ⟨sl,s.extBut b _ (N b o e) q⟩,u.free,λ b o e a=>by
     obtain ⟨O,q⟩:=u.there b o e a
     exact ⟨O,s.extBut b O (N b o e) q⟩,u.mX,u.mO,u.nu⟩
def jz.qX {P:bh} {w:bf} {h h':aO} {C:ag} (x:jz P w H h) (s:Heap.SameBut C h h') (c:H C=none):jz P w H h':=λ a o e =>
 (x a o e).gE (λ b u d q=>s.extBut b u (λ z=>by
   subst z
   rcases d with z|z
   . rw [z,e] at c;cases c
   . rw [z] at c;cases c) q) (λ Z q=>q) λ Z Z q=>q
def KR (X:Cx) (i:List Expr) (t:TT):Prop :=
 ∀ (p:List (ag×Obj)) (s:Shared) (U:St) (H:Hp) (Q:Bool->Hp->Prop),Inv X p U H s->t U H Q ->
   wpAny (model X.prog X.w) X.A (forIn i true λ c r=>if r=true then do let ok <- isTrue c X.env (eval c X.env);pure (ForInStep.yield ok) else pure (ForInStep.yield r)) (TP X p U Q) X.xe s
def US:TT:=λ Z H Q=>Q true H
def fX {X:Cx}:KR X [] US:=λ Z Z Z H Z I h=>wpAny_tests_nil ⟨H,I,h⟩
def lI {X:Cx} {c:Expr} {tt:TT} (a:PT X c tt):KR X [c] tt:=λ p s U H Q I h=>wpAny_tests_one (a p s U H Q I h)
def fz (env:Env):List (Str×NameKind)->List (Str×ag)->List (Str×ag)
 | [],acc=>acc
 | y::r,acc=>fz env r (if (y.2 == NameKind.free)=true then (y.1,(env.cells.lookup y.1).getD 0)::acc else acc)
theorem vM (env:Env):∀ (names:List (Str×NameKind)) (acc:List (Str×ag)),(∀ y∈names,y.2 = .free->∃ c,env.cells.lookup y.1=some c) ->
   (forIn names acc λ x __s=>if (x.snd == NameKind.free)=true then do
       let __do_lift <- cellOf env x.fst
       pure (ForInStep.yield ((x.fst,__do_lift)::__s))
     else pure (ForInStep.yield __s))=(pure (fz env names acc):Sem _)
 | [],acc,_=>rfl
 | y::r,acc,h=>by
   rw [List.forIn_cons]
   by_cases H:(y.2 == NameKind.free)=true
   .
    obtain ⟨c,e⟩:=h y aaz (abC.mp H)
    rw [aaq H]
    have E:cellOf env y.1=pure c:=by unfold cellOf;rw [e]
    rw [E]
    simp only [pure_bind]
    rw [vM env r _ λ z a=>h z (aao _ a)]
    simp only [fz,H,abR,e,Option.getD_some]
   . rw [aal H]
     simp only [pure_bind]
     rw [vM env r _ λ z a=>h z (aao _ a)]
     simp only [fz,H,ach]
     rfl
def Iy {s:Scope} {env:Env} (h:∀ y∈s.names,y.2 = .free->∃ c,env.cells.lookup y.1=some c):closureFor s env=pure (fz env s.names []):=by
 simp only [closureFor]
 rw [vM env s.names [] h]
 simp only [pure_bind]
theorem uF {env:Env}:∀ {names:List (Str×NameKind)} {acc:List (Str×ag)},(∀ y∈names,y.2 = .free->∃ c,env.cells.lookup y.1=some c)->(∀ x c,acc.lookup x=some c->env.cells.lookup x=some c) ->
   ∀ x c,(fz env names acc).lookup x=some c->env.cells.lookup x=some c
 | [],_,_,H,x,c,e=>H x c e
 | y::r,acc,h,H,x,c,e=>by
   refine uF (names:=r) (λ z b=>h z (aao _ b)) ?_ x c e
   intro x c e
   by_cases a:(y.2 == NameKind.free)=true
   .
    rw [aaq a] at e
    obtain ⟨C,E⟩:=h y aaz (abC.mp a)
    rw [E,Option.getD_some,abh] at e
    cases q:x == y.1 with
    | true=>rw [q] at e;cases e;rw [abC.mp q];exact E
    | false=>rw [q] at e;exact H x c e
   . rw [aal a] at e;exact H x c e
theorem uu {env:Env}:∀ {names:List (Str×NameKind)} {acc:List (Str×ag)} {x:Str},(∃ c,acc.lookup x=some c)->∃ c,(fz env names acc).lookup x=some c
 | [],_,_,h=>h
 | y::r,acc,x,⟨c,h⟩=>by
   refine uu (names:=r) ?_
   by_cases H:(y.2 == NameKind.free)=true
   . rw [aaq H,abh]
     cases q:x == y.1 with
     | true=>exact ⟨_,rfl⟩
     | false=>exact ⟨c,h⟩
   . rw [aal H];exact ⟨c,h⟩
theorem pC {env:Env}:∀ {names:List (Str×NameKind)} {acc:List (Str×ag)} {y:Str×NameKind},y∈names->y.2 = .free->∃ c,(fz env names acc).lookup y.1=some c
 | z::r,acc,y,h,H=>by
   rcases aaa.mp h with rfl|h
   . refine uu (names:=r) ?_
     rw [aaq (abC.mpr H),abh]
     simp
   . exact pC (names:=r) h H
def rY {s:Scope} {env:Env} {x:Str} {k:NameKind} (h:(relabel s env).names.lookup x=some k) (c:k = .cell\/k = .free) (g:∀ y∈s.names,y.2 ≠ .cell):(x,NameKind.free)∈s.names:=by
 have d:=abn h
 obtain ⟨⟨n,K⟩,H,a⟩:=aax.mp d
 dsimp only at a
 split at a
 .
  rename_i b
  cases a
  have:(K == NameKind.free)=true:=by
    simp only [aaw] at b
    exact b.1.1
  rw [abC.mp this] at H
  exact H
 .
  cases a
  rcases c with rfl|rfl
  . exact absurd rfl (g _ H)
  . exact H
theorem gX {env:Env}:∀ {names:List (Str×NameKind)} {x:Str},names.lookup x=some .free ->
   (names.map λ (n,k)=>if (k == NameKind.free && env.scope.kind == .function && env.kindOf n == some .cell) then (n,NameKind.cell) else (n,k)).lookup x=some .cell \/
   (names.map λ (n,k)=>if (k == NameKind.free && env.scope.kind == .function && env.kindOf n == some .cell) then (n,NameKind.cell) else (n,k)).lookup x=some .free
 | [],_,h=>by simp at h
 | (n,k)::r,x,h=>by
   have i:=@gX env r x
   show List.lookup x ((if (k == NameKind.free && env.scope.kind == .function && env.kindOf n == some .cell)=true then (n,NameKind.cell) else (n,k))::_)=_\/List.lookup x ((if (k == NameKind.free && env.scope.kind == .function && env.kindOf n == some .cell)=true then (n,NameKind.cell) else (n,k))::_)=_
   cases H:x == n with
   | true =>
     simp only [abh,H] at h
     cases h
     by_cases a:(NameKind.free == NameKind.free && env.scope.kind == .function && env.kindOf n == some .cell)=true
     . rw [aaq a];simp [abh,H]
     . rw [aal a];simp [abh,H]
   | false =>
     simp only [abh,H] at h
     by_cases a:(k == NameKind.free && env.scope.kind == .function && env.kindOf n == some .cell)=true
     . rw [aaq a];simp only [abh,H];exact i h
     . rw [aal a];simp only [abh,H];exact i h
section
variable {prog:bh} {w:bf} {A:Around} {R:Result->Shared->Prop} {s:Shared}
def y9 {t:Expr} {a:Scope} {q:Pos} {u acc:aq} {env:Env} (I:Nat->Shared->Prop) (T:∀ n s,I n s->wpAny (model prog w) A (pyNext u) (λ r S=>match r with
     | none=>R (.ok .next) S
     | some v=>wpAny (model prog w) A (letOwnedTupleGo t u v) (λ Z S=>wpAny (model prog w) A (assign t env v) (λ Z g =>
         wpAny (model prog w) A (forIn ifs true λ c r=>if r=true then do let ok <- isTrue c env (eval c env);pure (ForInStep.yield ok) else pure (ForInStep.yield r)) (λ ok b =>
           if ok=true then wpAny (model prog w) A (eval elt env) (λ x i =>
             wpAny (model prog w) A (call (.builtin "list.append") [acc,x]) (λ Z j=>∃ m,m<n/\I m j) (notedBy (model prog w) A env λ e s'=>R (.error e) s') i) (notedBy (model prog w) A env λ e s'=>R (.error e) s') b
           else ∃ m,m<n/\I m b) (notedBy (model prog w) A env λ e s'=>R (.error e) s') g) (notedBy (model prog w) A env λ e s'=>R (.error e) s') S) (notedBy (model prog w) A env λ e s'=>R (.error e) s') S) (notedBy (model prog w) A env λ e s'=>R (.error e) s') s) (n:Nat) (h:I n s) :
   codeAny (model prog w) A (.compLoop (.ListComp elt [⟨t,iter,ifs,0⟩] a q) 0 u acc env) R s:=by
 refine codeAny_loop rfl I (λ n s z=>?_) n h
 show wpAny _ A ((compTurn (.ListComp elt [⟨t,iter,ifs,0⟩] a q) 0 u acc env).onRaise (λ x=>do noteFrame x env;theTreesLotGoes x)) _ _ s
 refine wpAny_noted ?_
 rw [compTurn_list]
 refine OW (abL (OW (aau (T n s z) (λ r S d=>?_) λ Z Z H=>H)))
 cases r with
 | none=>exact aak d
 | some v =>
   refine OW (aau d (λ Z y k=>?_) λ Z Z H=>H)
   refine OW (aau k (λ Z g l=>OW (aau l (λ ok b f=>?_) λ Z Z H=>H)) λ Z Z H=>H)
   cases ok with
   | false=>exact aak ⟨rfl,f⟩
   | true =>
     exact OW (OW (aau f (λ x i o=>OW (aau o (λ Z j p=>aak (aak ⟨rfl,p⟩)) λ Z Z H=>H)) λ Z Z H=>H))
end
section
variable {X:Cx}
def yP (w:TI) (g:TG) (T:TT) (t:TE) (n:Nat) (sl:cx):TE:=λ U H Q=>w U H λ J d=>∀ D,d D=none ->
 ∃ W:Nat->Nat->aA->St->Hp->Prop,(∃ m,W 0 m [] (List.replicate n none++sl.map λ j=>(U[j]?).join) (upd d D (.lst []))) /\
   ∀ i m A c H',W i m A c H' ->
     (J.stop i H'/\Q (.ref D) H') \/
     (J.go i H'/\∃ N:aA->St->Hp->Prop,(∀ I a h,N I a h->∃ M,M<m/\W (i+1) M I a h)/\∀ x e,J.Ey i H' x e->g x c e λ a k=>T a k λ b h =>
       if b=true then t a h λ y f=>f D=some (.lst A)/\A.length<sizeLine/\N (A++[y]) a (upd f D (.lst (A++[y])))
       else N A a h)
def uN {S:Scope} {ad:Pos} {wi:TI} {tt:TT} {N':bN} {sl:cx} (hc:X.calm=true) (hi:PI X tg iter wi) (hg:∀ cl C s H ex,PG (cD X N' S cl C s H ex) tg g) (ht:∀ cl C s H ex,KR (cD X N' S cl C s H ex) ifs tt) (he:∀ cl C s H ex,PE (cD X N' S cl C s H ex) elt te) (NH:N'.length=nt+sl.length) (Lk:∀ k j:Nat,sl[k]?=some j->∃ x,N'[nt+k]?=some x/\X.N[j]?=some x/\S.names.lookup x=some .free) (hk:S.kind = .function) (gT:∀ y∈S.names,y.2 ≠ .cell) (jZ:∀ y∈S.names,y.2 = .local->S.names.lookup y.1=some .local) (jx:∀ y∈S.names,y.2 = .free->X.env.kindOf y.1=some .cell\/X.env.kindOf y.1=some .free) (hs:∀ x,foldedSetIterable iter X.env x=pure x) {use:Option (aq->Sem Unit)} {Qp:aq->Shared->Prop} {D:List (ag×Obj)} {s:Shared} {Q:V->Hp->Prop} {ae:Pos} (I:Inv X D U H s) (h:yP wi g tt te nt sl U H Q) (aH:∀ (s6:Shared) (R:Hp) (d c:ag) m,Inv X D U R s6->tW X D R c->s6.heap.Ns c m->Q (.ref d) R->compPost (model X.prog X.w) X.A X.xe use Qp (.ref d) c (.ok .next) s6) :
   wpAny (model X.prog X.w) X.A (comprehension (.ListComp elt [⟨tg,iter,ifs,0⟩] S ad) S X.env ae (newList []) false (eval iter X.env) use) Qp X.xe s:=by
 have mR:∀ y∈S.names,y.2 = .free->∃ c,X.env.cells.lookup y.1=some c:=λ y hy hf=>I.ok.has y.1 (jx y hy hf)
 have xC:=uF (env:=X.env) (names:=S.names) (acc:=[]) mR (λ x c e=>by simp at e)
 refine wpAny_comprehension_free (use:=use) (cl:=fz X.env S.names []) rfl hs (Iy mR) hk jZ (cO (hi D s U H _ I h) λ v s1 h1=>cO h1 λ VE t h2=>?_)
 obtain ⟨it,F,tn,J,K,rfl,I2,T,RH,f2,q⟩:=h2
 have nD:K t.heap.objs.size=none:=I2.ck.fresh (aac _)
 obtain ⟨W,⟨m0,w0⟩,an⟩:=q t.heap.objs.size nD
 refine adq ?_ (by show 0<=sizeLine;exact aaV _)
 have B:Inv X D U (upd K t.heap.objs.size (.lst [])) { t with heap:=t.heap.push { cls:=.type "list",data:=.seq ([]:aU).toArray }} :=
   I2.laid (t':=t.toks) (λ b u e=>ZB _ e) (aac _) ⟨aaV _,[],0,.nil,aaE _ rfl⟩
 generalize Ys:({ t with heap:=t.heap.push { cls:=.type "list",data:=.seq ([]:aU).toArray }}:Shared)=f at B |-
 have a0:t.heap.objs.size<=f.heap.objs.size:=by rw [<- Ys];show _<=(Heap.push _ _).objs.size;rw [ac7];exact abY _
 have Ig:∀ b o,t.heap.get? b=some o->f.heap.get? b=some o:=λ b o e=>by rw [<- Ys];exact ZB _ e
 refine wpAny_newFunctionEnv gT (by intro y hy;simp at hy) (λ h₁ FV ZZ=>?_) hk
 have yO:∀ b o,f.heap.get? b=some o->h₁.get? b=some o:=λ b o e=>ZZ.extBut b o (aas (aag e)) (ZB _ e)
 have nC:(upd K t.heap.objs.size (.lst [])) f.heap.objs.size=none:=B.ck.fresh (aac _)
 have a5:f.heap.get? f.heap.objs.size=none:=ab3 (aac _)
 have NX:∀ b∈F,b<t.heap.objs.size:=λ b a=>by
   obtain ⟨o,e,Z⟩:=T.obj _ _ RH b a
   exact aag e
 have Xv:∀ b∈F,b≠f.heap.objs.size:=λ b a=>aas (aam (NX b a) a0)
 have aI:∀ b∈F,b≠t.heap.objs.size:=λ b a=>aas (NX b a)
 have XT:∀ b∈F,b∉f8 X.stack:=λ b a hm=>by
   rcases aaa.mp (I2.Bn b hm) with z|z
   . exact (f2 b a).2.1 z
   . exact (f2 b a).2.2.1 z
 have YV:∀ x c,(fz X.env S.names []).lookup x=some c->X.env.cells.lookup x=some c:=xC
 have Bf:∀ b∈F,(b∈X.ex\/X.s₀.heap.objs.size<=b)/\b≠X.env.locals/\(∀ x c,X.env.cells.lookup x=some c->c≠b)/\∀ p∈X.pn++D,p.1≠b:=λ b a =>
   ⟨(f2 b a).2.2.2.1,(f2 b a).2.1,(f2 b a).2.2.2.2.1,(f2 b a).2.2.2.2.2⟩
 have a1:(cD X N' S (fz X.env S.names []) f.heap.objs.size f (upd K t.heap.objs.size (.lst [])) F).Ok:=by
   refine ⟨B.ok.mod,hk,B.ok.glob,B.ok.blt,aac _,λ x y c h1 h2=>B.ok.inj x y c (xC x c h1) (xC y c h2),λ x hx=>?_,(λ x c hf=>nomatch hf),B.ok.hd,B.ok.frames,.inl rfl,λ b a=>⟨Xv b a,λ x c e=>(Bf b a).2.2.1 x c (xC x c e)⟩,
     B.bs,aa3 B.ok.CP B.sz,λ b o e a=>?_,XT,B.stack,B.nY⟩
   . have hm:(x,NameKind.free)∈S.names:=by
       rcases hx with hx|hx
       . exact rY hx (.inl rfl) gT
       . exact rY hx (.inr rfl) gT
     exact pC hm rfl
   . rcases (Bf b a).1 with z|z
     . exact B.ok.yf b o e z
     . exact absurd (aam (aag (B.ok.bs b o e).1) z) (aa8 _)
 have I4:Inv (cD X N' S (fz X.env S.names []) f.heap.objs.size f (upd K t.heap.objs.size (.lst [])) F) [] (List.replicate nt none++sl.map λ j=>(U[j]?).join) (upd K t.heap.objs.size (.lst []))
     { f with heap:=h₁,toks:=f.toks+([]:List (Str×aq)).length }:=by
   refine ⟨a1,rfl,B.bare,Un.kept yO,⟨_,FV,λ i x v e1 Y e3=>?_⟩,λ x c e=>?_,nC,λ x c e=>B.iu x c (xC x c e),λ p hp=>absurd hp (by simp [cD]),B.ck.kept yO,?_⟩
   .
    by_cases hi:i<nt
    . rw [aaM (by simpa using hi),acz] at Y
      split at Y<;>cases Y
    .
     rw [aaL (by simpa using hi),aby,RI] at Y
     cases ej:sl[i - nt]? with
     | none=>rw [ej] at Y;cases Y
     | some j =>
       rw [ej] at Y
       have Q0:(U[j]?).join=some v:=aai Y
       have ar:U[j]?=some (some v):=by
         cases q:U[j]? with
         | none=>rw [q] at Q0;cases Q0
         | some o=>rw [q] at Q0;cases Q0;rfl
       obtain ⟨y,n1,n2,n3⟩:=Lk _ j ej
       have:nt+(i - nt)=i:=by lia
       rw [this] at n1
       have Sh:y=x:=aai (n1.symm.trans e1)
       subst Sh
       have hm:(y,NameKind.free)∈S.names:=abn n3
       have Xt:=jx _ hm rfl
       obtain ⟨m,hn,hl⟩:=B.loc
       have a4:Q2 X.env.scope y:=by
         rcases Xt with z|z
         . exact .inr (.inl z)
         . exact .inr (.inr z)
       obtain ⟨u,r,l⟩:=hl j y v n2 ar a4
       refine ⟨u,r,.inr ⟨gX n3,?_⟩⟩
       obtain ⟨c,ec⟩:=pC (env:=X.env) (acc:=[]) hm rfl
       refine ⟨c,ec,?_⟩
       rcases l with ⟨k1,Z⟩|⟨Z,c',e',LA⟩
       . rcases Xt with z|z
         . rw [show X.env.kindOf y=some .local from k1] at z;cases z
         . rw [show X.env.kindOf y=some .local from k1] at z;cases z
       . have ZW:c=c':=aai ((xC y c ec).symm.trans e')
         subst ZW
         obtain ⟨o,ho,hd⟩:=LA
         exact ⟨o,yO c o ho,hd⟩
   . obtain ⟨v,o,ho,hd⟩:=B.cell x c (xC x c e)
     exact ⟨v,o,yO c o ho,hd⟩
   . show _=N'.length
     rw [NH,aad,aby,Bl]
 have YO:tn 0 h₁:=T.keep _ _ _ RH λ b a o e=>yO b o (Ig b o e)
 have K1:∀ {pl:List (ag×Obj)} {H':Hp},pl=[]->(∀ b∈F,H' b=none)->∀ b∈F,tW (cD X N' S (fz X.env S.names []) f.heap.objs.size f (upd K t.heap.objs.size (.lst [])) F) pl H' b:=λ {pl H'} gU hn b a=>by
   subst gU
   exact ⟨hn b a,Xv b a,XT b a,.inl a,λ x c e=>(Bf b a).2.2.1 x c (xC x c e),λ p hp=>absurd hp (by simp [cD])⟩
 have aK:∀ b∈F,(upd K t.heap.objs.size (.lst [])) b=none:=λ b a=>by rw [aG (aI b a)];exact (f2 b a).1
 have ab:codeAny (model X.prog X.w) X.A (.compLoop (.ListComp elt [⟨tg,iter,ifs,0⟩] S ad) 0 (.ref it) (.ref t.heap.objs.size) (compEnvC S (fz X.env S.names []) f.heap.objs.size X.env))
     (compPost (model X.prog X.w) X.A X.xe use Qp (.ref t.heap.objs.size) f.heap.objs.size) { f with heap:=h₁,toks:=f.toks+([]:List (Str×aq)).length }:=by
   refine y9 (λ n s'=>∃ i E M H',Inv (cD X N' S (fz X.env S.names []) f.heap.objs.size f (upd K t.heap.objs.size (.lst [])) F) [] M H' s'/\tn i s'.heap/\(∀ b∈F,H' b=none)/\W i n E M H') ?_ m0 ⟨0,[],_,_,I4,YO,aK,w0⟩
   rintro n s5 ⟨i,E,O,R,I5,Ng,Ru,w5⟩
   rcases an i n E O R w5 with ⟨al,qn⟩|⟨go,N,hN,aj⟩
   . refine cO (T.done (cD X N' S (fz X.env S.names []) f.heap.objs.size f (upd K t.heap.objs.size (.lst [])) F) rfl rfl rfl hc i [] s5 O R _ I5 (K1 rfl Ru) Ng al) λ r s6 ⟨hr,I6⟩=>?_
     subst hr
     obtain ⟨m,hn,Z⟩:=id I6.loc
     exact aH s6 R _ _ m (B.Km (s':=s6) I6.os I6.base I6.ck I6.bare Bf) (B.yF (aac _) I6.free) hn qn
   .
    refine cO (T.item (cD X N' S (fz X.env S.names []) f.heap.objs.size f (upd K t.heap.objs.size (.lst [])) F) rfl rfl rfl hc i [] s5 O R _ I5 (K1 rfl Ru) Ng go) λ r s6 ⟨u,hr,h6⟩=>?_
    subst hr
    refine cO h6 λ Z s7 ⟨x,H7,I7,r7,y7,Wr,aW⟩=>?_
    have ZP:=I7.pinned (K1 rfl aW) (T.obj _ _ Wr)
    have L:∀ {s8:Shared} {G:St} {H8:Hp} {iM:aA},Inv (cD X N' S (fz X.env S.names []) f.heap.objs.size f (upd K t.heap.objs.size (.lst [])) F) ([]++sJ F s7.heap) G H8 s8->(∃ m',m'<n/\W (i+1) m' iM G H8) ->
        ∃ m,m<n/\∃ i E M H',Inv (cD X N' S (fz X.env S.names []) f.heap.objs.size f (upd K t.heap.objs.size (.lst [])) F) [] M H' s8/\tn i s8.heap/\(∀ b∈F,H' b=none)/\W i m E M H':=λ {s8 G H8 iM} I8 ⟨m',hm,w8⟩=>by
      refine ⟨m',hm,i+1,iM,G,H8,I8.nM,T.keep _ _ _ Wr λ b a o e=>(I8.pin (b,o) (aaj _ (aaj _ (jV a e)))).1,λ b a=>?_,w8⟩
      obtain ⟨o,e,d⟩:=T.obj _ _ Wr b a
      exact (I8.pin (b,o) (aaj _ (aaj _ (jV a e)))).2.1
    refine aau (hg _ _ _ _ _ _ s7 O H7 x u _ ZP r7 (aj x H7 y7)) (λ Z s8 ⟨G,H8,I8,q8⟩=>?_) λ Z Z z=>False.elim z
    refine aau (ht _ _ _ _ _ _ s8 G H8 _ I8 q8) (λ ok s9 ⟨H9,I9,q9⟩=>?_) λ Z Z z=>False.elim z
    cases ok with
    | false =>
      rw [aal aah] at q9 |-
      exact L I9 (hN _ _ _ q9)
    | true =>
      rw [aaq rfl] at q9 |-
      refine aau (he _ _ _ _ _ _ s9 G H9 _ I9 q9) (λ y a3 ⟨yv,GI,Zj,Vf,hD,hz,ZN⟩=>?_) λ Z Z z=>False.elim z
      refine aau (cV (X:=(cD X N' S (fz X.env S.names []) f.heap.objs.size f (upd K t.heap.objs.size (.lst [])) F)) _ a3 G GI (.ref t.heap.objs.size) [yv] (.ref t.heap.objs.size) [y] (λ Z SN=>N (E++[yv]) G SN) Zj rfl (.cons Vf .nil) ⟨_,E,yv,rfl,rfl,hD,hz,ZN⟩) (λ Z a7 ⟨a8,SN,Z2,a6,a2⟩=>?_) λ Z Z z=>False.elim z
      exact L Z2 (hN _ _ _ a2)
 exact codeAny_compStart_list ab (T.self _ 0 _ _ _ YO ab)
def IH {S:Scope} {p:Pos} {w:TI} {t:TT} {N':bN} {sl:cx} (i:X.calm=true) (r:PI X tg iter w) (o:∀ cl C s H ex,PG (cD X N' S cl C s H ex) tg g) (A:∀ cl C s H ex,KR (cD X N' S cl C s H ex) ifs t) (l:∀ cl C s H ex,PE (cD X N' S cl C s H ex) elt te) (n:N'.length=nt+sl.length) (L:∀ k j:Nat,sl[k]?=some j->∃ x,N'[nt+k]?=some x/\X.N[j]?=some x/\S.names.lookup x=some .free) (u:S.kind = .function) (G:∀ y∈S.names,y.2 ≠ .cell) (B:∀ y∈S.names,y.2 = .local->S.names.lookup y.1=some .local) (D:∀ y∈S.names,y.2 = .free->X.env.kindOf y.1=some .cell\/X.env.kindOf y.1=some .free) (z:∀ x,foldedSetIterable iter X.env x=pure x:=by intro Z;rfl) :
   PE X (.ListComp elt [⟨tg,iter,ifs,0⟩] S p) (yP w g t te nt sl):=by
 intro a s U H Q I h
 rw [eval_ListComp]
 exact uN i r o A l n L u G B D z I h λ E e d c m J F v q=>⟨m,v,λ M K=>⟨.ref d,e,J.turned (t':=E.toks) (λ b Z f q=>(K.2 b f).trans q) F.1 F.2.1 F.2.2.2.1 F.2.2.2.2.1 F.2.2.2.2.2,rfl,q⟩⟩
def kr {S:Scope} {p:Pos} {w:TI} {c:TT} (T f:bN) (sl:cx) (a:Paired (λ (j:Nat) (x:Str)=>X.N[j]?=some x/\S.names.lookup x=some .free/\(X.env.kindOf x=some .cell\/X.env.kindOf x=some .free)) sl f) (l:X.calm=true) (q:PI X tg iter w) (o:∀ cl C s H ex,PG (cD X (T++f) S cl C s H ex) tg g) (A:∀ cl C s H ex,KR (cD X (T++f) S cl C s H ex) ifs c) (m:∀ cl C s H ex,PE (cD X (T++f) S cl C s H ex) elt te) (u:autoParam (S.kind = .function) za_._auto_1) (G:autoParam (∀ y∈S.names,y.2 ≠ .cell) zc_._auto_1) (J:autoParam (∀ y∈S.names,y.2 = .local->S.names.lookup y.1=some .local) zc_._auto_1) (D:autoParam (∀ y∈S.names,y.2 = .free->y.1∈f) zc_._auto_1) (v:∀ x,foldedSetIterable iter X.env x=pure x:=by intro Z;rfl) :
   PE X (.ListComp elt [⟨tg,iter,ifs,0⟩] S p) (yP w g c te T.length sl):=by
 have K:∀ {sl:cx} {f:bN},Paired (λ (j:Nat) (x:Str)=>X.N[j]?=some x/\S.names.lookup x=some .free/\(X.env.kindOf x=some .cell\/X.env.kindOf x=some .free)) sl f ->
     (∀ k j:Nat,sl[k]?=some j->∃ x,f[k]?=some x/\X.N[j]?=some x/\S.names.lookup x=some .free)/\∀ x∈f,X.env.kindOf x=some .cell\/X.env.kindOf x=some .free:=by
   intro sl f a
   induction a with
   | nil=>exact ⟨λ k j h=>by simp at h,λ x b=>by simp at b⟩
   | cons r t i =>
     refine ⟨λ k j h=>?_,λ x b=>?_⟩
     . cases k with
       | zero =>
         have e:_=j:=aai h
         subst e
         exact ⟨_,rfl,r.1,r.2.1⟩
       | succ k=>exact i.1 k j (by simpa using h)
     . rcases aaa.mp b with z|z
       . rw [z];exact r.2.2
       . exact i.2 x z
 refine IH (N':=T++f) l q o A m (by rw [aad,a.length]) (λ k j h=>?_) u G J (λ y B n=>(K a).2 _ (D y B n)) v
 obtain ⟨x,E,d⟩:=(K a).1 k j h
 exact ⟨x,by rw [aaL (abV _ _),adB];exact E,d⟩
end
def iH {lo:Int} {n:Nat} {t:TT} {D:ag} {Q:Hp->Prop} (c:Nat->aA->St->Hp->Prop) (o:c 0 [] U H) (r:∀ i acc U H,i<n->c i acc U H->g (.int (lo+i)) U H λ a j=>t a j λ b h =>
     if b=true then te a h λ y f=>f D=some (.lst acc)/\acc.length<sizeLine/\c (i+1) (acc++[y]) a (upd f D (.lst (acc++[y]))) else c (i+1) acc a h) (q:∀ acc U H,c n acc U H->Q H) :
   ∃ W:Nat->Nat->aA->St->Hp->Prop,(∃ m,W 0 m [] U H)/\∀ i m acc d H',W i m acc d H'->((EG lo n).stop i H'/\Q H') \/
     ((EG lo n).go i H'/\∃ N:aA->St->Hp->Prop,(∀ I a h,N I a h->∃ m',m'<m/\W (i+1) m' I a h)/\∀ x l,(EG lo n).Ey i H' x l->g x d l λ a j=>t a j λ b h =>
       if b=true then te a h λ y f=>f D=some (.lst acc)/\acc.length<sizeLine/\N (acc++[y]) a (upd f D (.lst (acc++[y]))) else N acc a h):=by
 refine ⟨λ i m acc U H=>m=n - i/\i<=n/\c i acc U H,⟨n,by simp,aaV _,o⟩,?_⟩
 rintro i m acc U H ⟨rfl,u,p⟩
 by_cases k:i<n
 .
  refine .inr ⟨k,c (i+1),λ I d H' s=>⟨n - (i+1),by lia,rfl,k,s⟩,λ x H' y=>?_⟩
  obtain ⟨e,y⟩:=y
  subst e y
  exact r i acc U _ k p
 . have e:i=n:=by lia
   subst e
   exact .inl ⟨aac _,q acc U H p⟩
def ij {K:aC} {a:ag} {xs:aA} {t:TT} {D:ag} {Q:Hp->Prop} (d:Nat->aA->St->Hp->Prop) (o:d 0 [] U H) (u:∀ i acc U H,i<=xs.length->d i acc U H->bw K H a xs) (v:∀ i x acc U H,xs[i]?=some x->d i acc U H->g x U H λ c k=>t c k λ b h =>
     if b=true then te c h λ y j=>j D=some (.lst acc)/\acc.length<sizeLine/\d (i+1) (acc++[y]) c (upd j D (.lst (acc++[y]))) else d (i+1) acc c h) (r:∀ acc U H,d xs.length acc U H->Q H) :
   ∃ W:Nat->Nat->aA->St->Hp->Prop,(∃ m,W 0 m [] U H)/\∀ i m acc f H',W i m acc f H'->((Ht K a).stop i H'/\Q H') \/
     ((Ht K a).go i H'/\∃ N:aA->St->Hp->Prop,(∀ I c h,N I c h->∃ m',m'<m/\W (i+1) m' I c h)/\∀ x l,(Ht K a).Ey i H' x l->g x f l λ c k=>t c k λ b h =>
       if b=true then te c h λ y j=>j D=some (.lst acc)/\acc.length<sizeLine/\N (acc++[y]) c (upd j D (.lst (acc++[y]))) else N acc c h):=by
 refine ⟨λ i m acc U H=>m=xs.length - i/\i<=xs.length/\d i acc U H,⟨xs.length,by simp,aaV _,o⟩,?_⟩
 rintro i m acc U H ⟨rfl,s,p⟩
 have q:=u i acc U H s p
 by_cases n:i<xs.length
 .
  refine .inr ⟨⟨xs,xs[i],q,by simp [n]⟩,d (i+1),λ I f H' w=>⟨xs.length - (i+1),by lia,rfl,n,w⟩,λ x H' y=>?_⟩
  obtain ⟨e,y⟩:=y
  subst e
  exact v i x acc U _ (y xs q) p
 . have e:i=xs.length:=by lia
   subst e
   exact .inl ⟨⟨xs,q,aac _⟩,r acc U H p⟩
section
variable {X:Cx}
inductive JO (x:V) (vs:aA) (H:Hp) (Q:VK):Prop|mk (i:Int) (_:x = .int i) (_:vs=[]) (_:∀ b:Int,b=((Builtin.Int.intBits i:Nat):Int)->Q (.int b) H)
def Du:NQ X "int.bit_length" JO:=by
 intro p s U H x V v u Q I R r h
 obtain ⟨i,rfl,rfl,q⟩:=h
 obtain ⟨t,rfl⟩:=R
 obtain rfl:=Vals.zero r
 exact call_int_bit_length ⟨.int _,H,I.tok _,⟨_,rfl⟩,q _ rfl⟩
def CF (a b:Nat):Builtin.bitOr (a:Int) (b:Int)=((a ||| b:Nat):Int):=by
 have d:decide (0<=Builtin.bitNot (a:Int))=false:=aap (by unfold Builtin.bitNot;lia)
 have D:decide (0<=Builtin.bitNot (b:Int))=false:=aap (by unfold Builtin.bitNot;lia)
 have n:(Builtin.bitNot (Builtin.bitNot (a:Int))).toNat=a:=by unfold Builtin.bitNot;lia
 have N:(Builtin.bitNot (Builtin.bitNot (b:Int))).toNat=b:=by unfold Builtin.bitNot;lia
 unfold Builtin.bitOr Builtin.bitAnd
 rw [d,D]
 dsimp only
 rw [n,N]
 unfold Builtin.bitNot
 lia
def iw (a b:Nat):Builtin.bitAnd (a:Int) (b:Int)=((a &&& b:Nat):Int):=by simp [Builtin.bitAnd]
end
def av (k:Nat):V:=.int (k:Int)
inductive yn (vs:aA) (H:Hp) (Q:VK) (_E:XK):Prop|mk (n r:Nat) (_:vs=[av n,av r]) (_:Q (.bl (n.testBit r)) H)
inductive wG (vs:aA) (H:Hp) (Q:VK) (_E:XK):Prop|mk (n r:Nat) (_:vs=[av n,av r]) (_:r<=1000) (_:Q (av (n ||| 2 ^ r)) H)
inductive Ay (vs:aA) (H:Hp) (Q:VK) (_E:XK):Prop|mk (n:Nat) (_:vs=[av n]) (_:n<2 ^ 61) (_:∀ p H',H p=none->aF H H'->H' p=some (.lst ((Bit.rooms n).map av))->Q (.ref p) H')
inductive Av (vs:aA) (H:Hp) (Q:VK) (_E:XK):Prop|mk (n:Nat) (_:vs=[av n]) (_:n<2 ^ 61) (_:(Bit.rooms n).length<=8) (_:∀ p H',H p=none->aF H H'->H' p=some (.lst ((Bit.parts (Bit.rooms n)).map av))->Q (.ref p) H')
def t7 (n:Nat):(Bit.rooms n).length<=61:=by
 have:=aa1 n.testBit (List.range 61)
 rw [aaG] at this
 exact this
def Bw (n r:Nat) {s m:Int} (c:s=(n:Int) / 2 ^ ((r:Int)).toNat) (b:m=s % 2):decide (V.int m=V.int 1)=n.testBit r:=by
 rw [Nat.testBit_eq_decide_div_mod_eq]
 have e:s=((n / 2 ^ r:Nat):Int):=by
   rw [c,abe]
   have:((2:Int) ^ r)=((2 ^ r:Nat):Int):=by rw [Int.natCast_pow];rfl
   rw [this,<- Int.natCast_ediv]
 have E:m=((n / 2 ^ r % 2:Nat):Int):=by rw [b,e];exact (Int.natCast_emod _ _).symm
 have a:(V.int m=V.int 1)↔(n / 2 ^ r % 2=1):=by rw [eD,E];lia
 exact abU.mpr a
def A9 (l:cx) (r:Nat):Bit.parts (l++[r])=Bit.parts l++(Bit.parts l).map (· ||| 2 ^ r):=by
 unfold Bit.parts;rw [abd];rfl
def Ij (n i:Nat):Bit.Ok (Bit.parts ((Bit.rooms n).take i)) ((Bit.rooms n).take i):=by
 have:=Bit.wl ((Bit.rooms n).take i) [] [0] Bit.Gf (by rw [ab8];exact (Bit.ke n).sublist (List.take_sublist _ _))
 rw [ab8] at this
 exact this
def ig {a:Type} {l:List a} {x:a} (h:l[i]?=some x):l.take (i+1)=l.take i++[x]:=by
 rw [List.take_add_one,h];rfl
def eS {l:cx} {x:V} (h:(l.map av)[i]?=some x):∃ k,l[i]?=some k/\x=av k:=by
 rw [RI] at h
 cases e:l[i]? with
 | none=>rw [e] at h;cases h
 | some k=>rw [e] at h;exact ⟨k,rfl,(aai h).symm⟩
def jd (o:Obj):Prop:=∃ v,o.data = .fields v/\v[2]?=some Value.none
def BM (f:Obj->Obj):Prop:=∀ o,(f o).dict=o.dict/\(o.isFreed=false->(f o).isFreed=false)/\(jd o->jd (f o))
def dG {b:Type}:Sem b->Prop
 | .pure _=>True
 | .raise _=>True
 | .unsupported _=>True
 | .finish _=>True
 | .rule _ k=>dG (k ())
 | .at _ k=>dG (k ())
 | .load _ _ k=>∀ o,dG (k o)
 | .update _ _ f k=>BM f/\dG (k ())
 | .alloc _ k=>∀ a,dG (k a)
 | .loadIfAlive _ k=>∀ o,dG (k o)
 | .point _ k=>dG (k ())
 | .register _ _=>True
 | .fresh k=>∀ t,dG (k t)
 | .ask k=>∀ t,dG (k t)
 | .choose _ _ k=>∀ n,dG (k n)
 | .os _ _ k=>∀ r,dG (k r)
 | .call ..=>False
 | .handled _ k=>∀ o,dG (k o)
 | .newGen _ k=>∀ n,dG (k n)
 | .genState _ k=>∀ x,dG (k x)
 | .resume ..=>False
 | .yield ..=>True
 | .stack k=>∀ x,dG (k x)
 | .fork ..=>True
 | .thread k=>∀ n,dG (k n)
 | .await ..=>True
def cu (h h':aO):Prop:=∀ b o,h.get? b=some o->∃ O,h'.get? b=some O/\O.dict=o.dict/\(jd o->jd O)
def cu.refl (h:aO):cu h h:=λ Z o e=>⟨o,e,rfl,id⟩
theorem cu.trans {h H h3:aO} (x:cu h H) (y:cu H h3):cu h h3:=λ b o e =>
 let ⟨O,E,d,c⟩:=x b o e;let ⟨f,a,D,C⟩:=y b O E;⟨f,a,D.trans d,λ z=>C (c z)⟩
theorem cu.update {h:aO} {a:ag} {f:Obj->Obj} (m:BM f):cu h (h.update a f):=λ b o e=>by
 by_cases z:a=b
 . subst z
   have nf:o.isFreed=false:=(Heap.get?_some_iff.mp e).2
   exact ⟨f o,abE f e ((m o).2.1 nf),(m o).1,(m o).2.2⟩
 . exact ⟨o,(abA h f z).trans e,rfl,id⟩
theorem cu.push {h:aO} {o:Obj}:cu h (h.push o):=λ b O e=>⟨O,ZB _ e,rfl,id⟩
def Ii {j:Type} (M:Model) (d:PySem.Ctx):∀ (t:Sem j) (Q:j->Pos->Shared->Prop) (E:aq->Pos->Shared->Prop) (p:Pos) (s:Shared),dG t->Sem.wp M d t Q E p s ->
   Sem.wp M d t (λ a p s'=>Q a p s'/\cu s.heap s'.heap) (λ e p s'=>E e p s'/\cu s.heap s'.heap) p s:=by
 intro t
 have u:∀ (t:Sem j) (Q:j->Pos->Shared->Prop) (E:aq->Pos->Shared->Prop) (p:Pos) (s s1:Shared),cu s.heap s1.heap ->
     Sem.wp M d t (λ a p s'=>Q a p s'/\cu s1.heap s'.heap) (λ e p s'=>E e p s'/\cu s1.heap s'.heap) p s1 ->
     Sem.wp M d t (λ a p s'=>Q a p s'/\cu s.heap s'.heap) (λ e p s'=>E e p s'/\cu s.heap s'.heap) p s1:=λ t Q E p s s1 k h =>
   Sem.wp_mono M d t (λ Z Z Z z=>⟨z.1,k.trans z.2⟩) (λ Z Z Z z=>⟨z.1,k.trans z.2⟩) p s1 h
 induction t with
 | pure a=>intro Q E p s Z h;rw [Sem.wp_pure] at h |-;exact ⟨h,.refl _⟩
 | raise e=>intro Q E p s Z h;rw [Sem.wp_raise] at h |-;exact ⟨h,.refl _⟩
 | unsupported w=>intro Q E p s Z h;rw [Sem.wp_unsupported] at h;exact h.elim
 | finish e=>intro Q E p s Z h;rw [Sem.wp_finish] at h;exact h.elim
 | rule t k i=>intro Q E p s m h;rw [Sem.wp_rule] at h |-;exact i () Q E p s m h
 | «at» q k i=>intro Q E p s m h;rw [Sem.wp_at] at h |-;exact i () Q E q s m h
 | load a b k i=>intro Q E p s m h;rw [Sem.wp_load] at h |-;obtain ⟨o,e,h⟩:=h;exact ⟨o,e,i o Q E p s (m o) h⟩
 | update a b f k i=>intro Q E p s m h;rw [Sem.wp_update] at h |-;exact ⟨h.1,u _ Q E p s _ (.update m.1) (i () Q E p _ m.2 h.2)⟩
 | alloc o k i=>intro Q E p s m h;rw [Sem.wp_alloc] at h |-;exact u _ Q E p s _ .push (i _ Q E p _ (m _) h)
 | loadIfAlive a k i=>intro Q E p s m h;rw [Sem.wp_loadIfAlive] at h |-;exact i _ Q E p s (m _) h
 | point l k i=>intro Q E p s m h;rw [Sem.wp_point] at h |-;exact i () Q E p s m h
 | register a k i=>intro Q E p s m h;rw [Sem.wp_register] at h;exact h.elim
 | fresh k i=>intro Q E p s m h;rw [Sem.wp_fresh] at h |-;exact i _ Q E p _ (m _) h
 | ask k i=>intro Q E p s m h;rw [Sem.wp_ask] at h |-;exact i _ Q E p s (m _) h
 | choose S n k i=>intro Q E p s m h;rw [Sem.wp_choose] at h |-;exact ⟨h.1,i _ Q E p _ (m _) h.2⟩
 | os q l k i=>intro Q E p s m h;rw [Sem.wp_os] at h |-;exact i _ Q E p _ (m _) h
 | call c h g l k i=>intro Q E p s m h;exact m.elim
 | handled own k i=>intro Q E p s m h;rw [Sem.wp_handled] at h |-;exact i _ Q E p s (m _) h
 | newGen c k i=>intro Q E p s m h;rw [Sem.wp_newGen] at h |-;exact i _ Q E p _ (m _) h
 | genState g k i=>intro Q E p s m h;rw [Sem.wp_genState] at h |-;obtain ⟨x,e,h⟩:=h;exact ⟨x,e,i _ Q E p s (m _) h⟩
 | resume g r l k i=>intro Q E p s m h;exact m.elim
 | yield v g l k i=>intro Q E p s m h;rw [Sem.wp_yield] at h;exact h.elim
 | stack k i=>intro Q E p s m h;rw [Sem.wp_stack] at h |-;exact i _ Q E p s (m _) h
 | fork c k i=>intro Q E p s m h;rw [Sem.wp_fork] at h;exact h.elim
 | thread k i=>intro Q E p s m h;rw [Sem.wp_thread] at h |-;exact i _ Q E p s (m _) h
 | await a y T l k i=>intro Q E p s m h;unfold Sem.wp at h;exact h.elim
def gb {c:Type} {M:Model} {A:Around} {t:Sem c} {Q:c->Shared->Prop} {E:aq->Shared->Prop} {s:Shared} (m:dG t) (h:wpAny M A t Q E s) :
   wpAny M A t (λ a s'=>Q a s'/\cu s.heap s'.heap) (λ e s'=>E e s'/\cu s.heap s'.heap) s:=λ b p H=>Ii M b t _ _ p s m (h b p H)
theorem dG.bind {b d:Type} {f:b->Sem d} (H:∀ a,dG (f a)):∀ {t:Sem b},dG t->dG (t.bind f):=by
 intro t
 induction t with
 | pure a=>intro Z;exact H a
 | raise e=>intro Z;trivial
 | unsupported w=>intro Z;trivial
 | finish e=>intro Z;trivial
 | rule t k i=>intro m;exact i () m
 | «at» q k i=>intro m;exact i () m
 | load a p k i=>intro m;exact λ o=>i o (m o)
 | update a p g k i=>intro m;exact ⟨m.1,i () m.2⟩
 | alloc o k i=>intro m;exact λ a=>i a (m a)
 | loadIfAlive a k i=>intro m;exact λ a=>i a (m a)
 | point l k i=>intro m;exact i () m
 | register a k i=>intro m;trivial
 | fresh k i=>intro m;exact λ a=>i a (m a)
 | ask k i=>intro m;exact λ a=>i a (m a)
 | choose s n k i=>intro m;exact λ a=>i a (m a)
 | os q l k i=>intro m;exact λ a=>i a (m a)
 | call c h g l k i=>intro m;exact m.elim
 | handled own k i=>intro m;exact λ a=>i a (m a)
 | newGen c k i=>intro m;exact λ a=>i a (m a)
 | genState g k i=>intro m;exact λ a=>i a (m a)
 | resume g r l k i=>intro m;exact m.elim
 | yield v g l k i=>intro m;trivial
 | stack k i=>intro m;exact λ a=>i a (m a)
 | fork c k i=>intro m;trivial
 | thread k i=>intro m;exact λ a=>i a (m a)
 | await a j T l k i=>intro m;trivial
def dG.bd {b c:Type} {t:Sem b} {f:b->Sem c} (h:dG t) (H:∀ a,dG (f a)):dG (t >>= f):=dG.bind H h
def vi {x:aq} (n:i≠2):BM (Obj.mapFields (·.setIfInBounds i x)):=λ o=>by
 obtain ⟨c,d,D,sl⟩:=o
 cases D<;>first|exact ⟨rfl,λ h=>h,λ ⟨v,e,q⟩=>by cases e;exact ⟨_,rfl,by rw [Array.getElem?_setIfInBounds_ne n];exact q⟩⟩|exact ⟨rfl,λ h=>h,λ ⟨v,e,q⟩=>nomatch e⟩
def yM (g:Obj->Array (iO)):BM (λ o=>{ o with slots:=g o }):=λ o=>by
 obtain ⟨c,d,D,sl⟩:=o
 refine ⟨rfl,λ h=>?_,λ ⟨v,e,q⟩=>⟨v,e,q⟩⟩
 cases D<;>first|rfl|exact h
def oS (a:ag):dG (load a):=λ Z=>trivial
def tL (v:aq):dG (fieldsOf v):=by
 unfold fieldsOf
 split
 . refine .bd (oS _) λ o=>?_
   split<;>trivial
 . trivial
def kd (v:aq) (i:Nat):dG (field v i):=by
 unfold field
 refine .bd (tL v) λ V=>?_
 split<;>trivial
def jc (v:aq) (i:Nat) (x:aq) (n:autoParam (i≠2) zb_._auto_1):dG (setField v i x):=by
 unfold setField
 split
 .
  unfold updateField
  refine .bd (oS _) λ o=>?_
  split
  . split
    . exact ⟨vi n,trivial⟩
    . trivial
  . trivial
 . trivial
def iq (e:aq) (f:Option ag):dG (setFlight e f):=by
 unfold setFlight
 refine .bd (kd _ _) λ t=>?_
 split
 . exact jc _ _ _
 . trivial
def mP:dG stack:=λ Z=>trivial
theorem rq:∀ l:List Env,dG (readyFrames l)
 | []=>trivial
 | env::outer=>by
   unfold readyFrames
   split
   .
    refine .bd (oS _) λ o=>?_
    split
    . trivial
    .
     refine .bd ?_ λ i => .bd ?_ λ bk=>⟨yM _,rq outer⟩
     . unfold behindIsImport
       split
       . trivial
       . split
         . trivial
         . exact .bd (kd _ _) λ Z=>trivial
     . unfold keptBack
       split
       . split
         . trivial
         . unfold underTheClaimsCaller
           exact .bd (.bd mP λ Z=>trivial) λ Z=>trivial
       . trivial
   . trivial
def u6 (env:Env):dG (PySem.frameOf env):=by
 unfold PySem.frameOf frameEnvs
 refine .bd (.bd mP λ Z=>trivial) λ l => .bd ?_ λ r=>?_
 .
  unfold frameObject
  split
  . trivial
  . exact .bd (rq _) λ Z=>trivial
 . split<;>trivial
def Ax (f:ag) (b:Bool):dG (entryPlaceOf f b):=by
 unfold entryPlaceOf
 refine .bd mP λ l=>?_
 split<;>trivial
def sW (a b c d e:aq) (pl:aU):dG (EntryCells.newEntry a b c d e pl):=by
 unfold EntryCells.newEntry newFields newObj
 dsimp only
 have o:∀ d,dG (newObjAsIs (.type "traceback") d):=λ d=>by
   unfold newObjAsIs
   exact .bd (λ Z=>trivial) λ Z=>trivial
 split
 . split
   . exact .bd trivial λ Z=>o _
   . exact o _
 . split
   . exact .bd trivial λ Z=>o _
   . exact o _
def uq (e:aq) (env:Env):dG (noteFrame e env):=by
 unfold noteFrame
 split
 .
  refine .bd (kd _ _) λ h=>?_
  have rest:dG (do setField e 1 (<- EntryCells.newEntry h (<- PySem.frameOf env) .none (rawInt ‹ag›) .none (<- entryPlaceOf ‹ag› (h != .none)))) :=
    .bd (u6 env) λ f => .bd (Ax _ _) λ p => .bd (sW _ _ _ _ _ _) λ v=>jc _ _ _
  split
  . refine .bd (kd _ _) λ x=>?_
    split
    . trivial
    . exact .bd (jc _ _ _) λ Z=>rest
  . exact rest
 . trivial
def jT (env:Env) (e:aq):dG (leaving env e):=by
 unfold leaving
 exact .bd (uq _ _) λ Z=>iq _ _
def mY {h:aO} {as:cM} {b:ag} {o:Obj} (e:h.get? b=some o) (n:b∉as):(W.hideAll h as).get? b=some o:=W.hideAll_get _ e n
structure Sy (P:bh) (w:bf) (outer:List Env) (H:Hp) (s:Shared) (cls:aq) (x:ag) (H':Hp) (s':Shared):Prop where
 os:s'.os=s.os
 bare:AllBare s'.gens
 un:Un (f8 outer) [] H H' s.heap s'.heap
 ck:jz P w H' s'.heap
 YC:∃ a0 B,Heap.FlyingW B outer x cls a0 s'.heap/\(∀ b o,s.heap.get? b=some o->b∉f8 outer->∀ o',s'.heap.get? b=some o'->B.get? b=some o')/\∀ b u,H' b=some u->∃ o,B.get? b=some o
def XD (c:Bool) (h:aO) (x:ag) (d:Option ag):Prop:=∃ o,h.get? x=some o/\o.dict=d/\(c=true->jd o)
def XD.kept {c:Bool} {h h':aO} {x:ag} {d:Option ag} (k:cu h h') (q:XD c h x d):XD c h' x d:=let ⟨o,e,z,y⟩:=q;let ⟨O,E,Z,Y⟩:=k x o e;⟨O,E,Z.trans z,λ q=>Y (y q)⟩
def Ca (c:Bool) (P:bh) (w:bf):CH:=λ outer H s E e S=>∃ x cls H',e = .ref x/\Sy P w outer H s cls x H' S/\∃ d,XD c S.heap x d/\E cls d H'
abbrev Dy (P:bh) (w:bf):CH:=Ca true P w
def vV {P:bh} {w:bf} {h h' B:aO} (x:jz P w H h) (c:∀ b o,B.get? b=some o->h'.get? b=some o) (d:∀ b o,B.get? b=some o->h.get? b=some o) (t:∀ b u,H b=some u->∃ o,B.get? b=some o):jz P w H h':=λ a o e =>
 (x a o e).gE (λ b u R q=>by
   have:∃ u',H b=some u':=by
     rcases R with z|z
     . exact ⟨o,by rw [z];exact e⟩
     . exact ⟨_,z⟩
   obtain ⟨u',M⟩:=this
   obtain ⟨O,E⟩:=t b u' M
   have:=d b O E
   rw [q] at this
   cases this
   exact c b u E) (λ Z q=>q) λ Z Z q=>q
def WU (X:Cx) (E:XK):Prop:=∀ (p:List (ag×Obj)) (U:St) (H:Hp) (s:Shared) (h:aO) (x:ag) (cls:aq) (args:aU),Inv X p U H s->Heap.MadeExcOf s.heap h x cls args->E cls none H->X.xe (.ref x) { s with heap:=h }
section
variable {P:bh} {w:bf} {K:aC} {mg:bR} {base:aO} {N:bN} {qual:Str} {scope:Scope} {f:ag} {cd:aq} {A:Around} {outer:List Env} {s₀:Shared} {H₀:Hp} {E E':XK}
def Kr {c l:Bool} {pn p:List (ag×Obj)} {s:Shared} {h':aO} {x:ag} {vs:Array aq} {a0:aq} (hE:∀ cls d H,E' cls d H->E cls d H) (I:Inv { dh (Ca c P w) P w K mg base N qual scope f cd A outer s₀ H₀ E with calm:=l,pn:=pn } p U H s) (k:∀ b o,s.heap.get? b=some o->h'.get? b=some o) (hn:s.heap.get? x=none) (D:h'.get? x=some oe) (j:oe.data = .fields vs) (h1:vs[1]?=some .none) (h0:vs[0]?=some a0) (Nv:c=true->jd oe) (v:E' oe.cls oe.dict H) :
   ({ dh (Ca c P w) P w K mg base N qual scope f cd A outer s₀ H₀ E with calm:=l,pn:=pn }:Cx).xe (.ref x) { s with heap:=h' }:=by
 have L1:(envOfC qual scope s₀.heap.objs.size f cd).frame=some s₀.heap.objs.size:=rfl
 have fr:=I.ok.frames
 have st:=I.stack
 have X:∀ env∈(envOfC qual scope s₀.heap.objs.size f cd::outer),∀ b,env.frame=some b->b∈f8 (envOfC qual scope s₀.heap.objs.size f cd::outer):=λ env v b h=>acp.mpr ⟨env,v,h⟩
 have Y:(W.hideAll s.heap (f8 (envOfC qual scope s₀.heap.objs.size f cd::outer))).get? x=none:=by
   cases q:(W.hideAll s.heap (f8 (envOfC qual scope s₀.heap.objs.size f cd::outer))).get? x with
   | none=>rfl
   | some o=>have:=acA _ q;rw [hn] at this;cases this
 show wpAny _ _ (leaving _ _) _ _ _
 refine aau (gb (jT _ _) (wpAny_leaving_firstW (E:=λ Z Z=>False) (s:={ s with heap:=h' }) (Q:=λ Z R=>∃ i,R={ s with heap:=i }/\Heap.FlyingW (W.hideAll s.heap (f8 (envOfC qual scope s₀.heap.objs.size f cd::outer))) outer x oe.cls a0 i/\h'.UpToSlots i)
   (base:=W.hideAll s.heap (f8 (envOfC qual scope s₀.heap.objs.size f cd::outer))) (a0:=a0) fr ((W.funFrames_hide st X).of_keeps λ b o h Z=>⟨o,k b o h,rfl⟩) L1 D (λ b o q=>k b o (acA _ q)) Y j h1 h0 λ i hL=>?_)) (λ Z R z=>?_) λ Z Z z=>z.1.elim
 . obtain ⟨k1,⟨Z,Z,k2⟩,k3,k4⟩:=hL
   exact ⟨i,rfl,⟨k1,Y,k2,k3⟩,k4⟩
 obtain ⟨⟨i,rfl,t,V⟩,dk⟩:=z
 have m:∀ b o,s₀.heap.get? b=some o->b∉f8 outer->b∉f8 (envOfC qual scope s₀.heap.objs.size f cd::outer):=λ b o e n hm=>by
   rcases aaa.mp (show b∈s₀.heap.objs.size::f8 outer from hm) with z|z
   . exact absurd (aag e) (by rw [z];exact aa8 _)
   . exact n z
 have G:∀ b o,s.heap.get? b=some o->b∉f8 (envOfC qual scope s₀.heap.objs.size f cd::outer)->i.get? b=some o:=λ b o e n=>t.1 b o (mY e n)
 have F:∀ b∈f8 outer,∃ o,s.heap.get? b=some o/\∀ vs,o.data ≠ .fields vs:=λ b h=>(I.ok.jq.mem h).2 |> λ ⟨o,e,j⟩=>by
   obtain ⟨sl,a⟩:=I.base.slot b o e (I.ok.BH b h) h (by intro z;exact absurd (show b∈([]:cM) from z) (by simp))
   exact ⟨_,a,j⟩
 have T:∀ b u,H b=some u->∃ o,(W.hideAll s.heap (f8 (envOfC qual scope s₀.heap.objs.size f cd::outer))).get? b=some o:=λ b u e=>by
   have nf:b∉f8 (envOfC qual scope s₀.heap.objs.size f cd::outer):=λ z=>by rw [I.nY b z] at e;cases e
   have lt:=I.ck.lt e
   cases q:s.heap.get? b with
   | none =>
     obtain ⟨o,M⟩:∃ o,s.heap.get? b=some o:=by
       have ok:=I.ck b u e
       cases u with
       | lst xs=>obtain ⟨Z,Z,Z,Z,e⟩:=ok;exact ⟨_,e⟩
       | tup xs=>obtain ⟨Z,Z,Z,o,e,Z⟩:=ok;exact ⟨_,e⟩
       | dK aK=>obtain ⟨Z,Z,Z,Z,o,Z,Z,e,Z⟩:=ok;exact ⟨_,e⟩
       | dT aK=>obtain ⟨Z,Z,Z,Z,o,Z,Z,e,Z⟩:=ok;exact ⟨_,e⟩
       | set S n=>obtain ⟨o,Z,Z,Z,e,Z⟩:=ok;exact ⟨_,e⟩
       | ins C dx fs=>obtain ⟨Z,Z,Z,e,Z⟩:=ok;exact ⟨_,e⟩
       | own y=>obtain ⟨Z,e⟩:=ok;exact ⟨_,e⟩
       | xd fs=>obtain ⟨Z,⟨Z,Z,Z,e,Z⟩,Z⟩:=ok;exact ⟨_,e⟩
       | QH lo hi=>obtain ⟨Z,Z,Z,e⟩:=ok;exact ⟨_,e⟩
       | yz ob u=>obtain ⟨e,Z⟩:=ok;exact ⟨_,e⟩
       | IC ps=>exact ⟨_,ok⟩
       | met f y=>exact ⟨_,ok⟩
       | ext φ=>obtain ⟨Z,⟨Z,e⟩,Z⟩:=ok;exact ⟨_,e⟩
     rw [q] at M;cases M
   | some o=>exact ⟨o,mY q nf⟩
 refine ⟨x,oe.cls,H,rfl,⟨I.os,I.bare,?_,vV I.ck t.1 (λ b o q=>acA _ q) T,_,_,t,?_,T⟩,oe.dict,XD.kept dk ⟨_,D,rfl,Nv⟩,hE _ _ _ v⟩
 .
  refine ⟨λ b o e n h Z=>G b o (I.base.keep b o e n h (by simp [dh])) (m b o e h),λ b o e n h Z=>?_,λ b o e n Z=>I.base.free b o e n (by simp [dh]),λ b o e Z=>?_,I.base.mX,I.base.mO,I.base.nu⟩
  .
   obtain ⟨sl,g⟩:=I.base.slot b o e n h (by simp [dh])
   obtain ⟨B,a,j⟩:=F b h
   rw [g] at a
   cases a
   obtain ⟨J,r⟩:=V b _ (k b _ g) j
   exact ⟨J,r⟩
  .
   obtain ⟨O,g⟩:=I.base.there b o e (by simp [dh])
   by_cases h:b∈f8 outer
   . obtain ⟨B,a,j⟩:=F b h
     obtain ⟨J,r⟩:=V b _ (k b _ a) j
     exact ⟨_,r⟩
   . exact ⟨O,G b O g (m b o e h)⟩
 .
  intro b o e h O L
  obtain ⟨B,g⟩:=I.base.there b o e (by simp [dh])
  have a:=G b B g (m b o e h)
  rw [a] at L
  cases L
  exact mY g (m b o e h)
def uS (a:∀ cls d H,E' cls d H->E cls d H):WU (dh (Dy P w) P w K mg base N qual scope f cd A outer s₀ H₀ E) E':=λ p U H s c x cls args I h b =>
 let ⟨_,e,_,_⟩:=h.there;Kr a I h.keeps h.new e rfl rfl rfl (λ Z=>⟨_,rfl,rfl⟩) b
def Fo {c l:Bool} {pn:List (ag×Obj)} (hE:∀ cls d H,E' cls d H->E cls d H):Passes (Ca c P w) { dh (Ca c P w) P w K mg base N qual scope f cd A outer s₀ H₀ E with calm:=l,pn:=pn } E':=by
 intro V U H s e S I hc
 obtain ⟨x,cls,H',rfl,F,dd,wS,he⟩:=hc
 obtain ⟨L,B,C,R,X⟩:=F.YC
 have L1:(envOfC qual scope s₀.heap.objs.size f cd).frame=some s₀.heap.objs.size:=rfl
 have fr:=I.ok.frames
 show wpAny _ _ (leaving _ _) _ _ _
 refine aau (gb (jT _ _) (wpAny_leaves_onW (E:=λ Z Z=>False) (Q:=λ Z W=>∃ k,W={ S with heap:=k }/\Heap.FlyingW B outer x cls L k/\S.heap.UpToSlots k) (outer:=outer) fr L1 C λ k m v=>⟨k,rfl,m,v⟩)) (λ Z W z=>?_) λ Z Z z=>z.1.elim
 obtain ⟨⟨k,rfl,m,v⟩,dk⟩:=z
 have M:∀ b o,s₀.heap.get? b=some o->b∉f8 outer->b∉f8 (envOfC qual scope s₀.heap.objs.size f cd::outer):=λ b o e n hm=>by
   rcases aaa.mp (show b∈s₀.heap.objs.size::f8 outer from hm) with z|z
   . exact absurd (aag e) (by rw [z];exact aa8 _)
   . exact n z
 have i:∀ b:ag,b∉(dh (Ca c P w) P w K mg base N qual scope f cd A outer s₀ H₀ E).ex:=λ b=>by simp [dh]
 have p:∀ b o,s₀.heap.get? b=some o->b∉f8 outer->∃ o',S.heap.get? b=some o'/\B.get? b=some o'/\k.get? b=some o':=λ b o e n=>by
   obtain ⟨O,a⟩:=I.base.there b o e (i b)
   obtain ⟨G,g⟩:=F.un.there b O a (by simp)
   have j:=R b O a (M b o e n) G g
   exact ⟨G,g,j,m.1 b G j⟩
 have r:∀ b∈f8 outer,∃ o,S.heap.get? b=some o/\∀ vs,o.data ≠ .fields vs:=λ b h=>(C.2.2.1.mem (aao (s₀.heap.objs.size) h:b∈f8 (envOfC qual scope s₀.heap.objs.size f cd::outer))).2
 refine ⟨x,cls,H',rfl,⟨F.os.trans I.os,F.bare,?_,vV F.ck m.1 C.1 X,L,B,m,?_,X⟩,dd,wS.kept dk,hE _ _ _ he⟩
 .
  refine ⟨λ b o e n h Z=>?_,λ b o e n h Z=>?_,λ b o e n Z=>?_,λ b o e Z=>?_,λ b Y q=>F.un.mX b Y (I.base.mX b Y q),λ b T u q=>F.un.mO b T u (I.base.mO b T u q),λ b ps q=>?_⟩
  . have a:=I.base.keep b o e n h (i b)
    have g:=F.un.keep b o a (I.base.free b o e n (i b)) (M b o e h) (by simp)
    exact m.1 b o (R b o a (M b o e h) o g)
  .
   obtain ⟨sl,a⟩:=I.base.slot b o e n h (i b)
   obtain ⟨Yb,g⟩:=F.un.slot b _ a (I.base.free b o e n (i b)) (aao (s₀.heap.objs.size) h:b∈f8 (envOfC qual scope s₀.heap.objs.size f cd::outer)) (by simp)
   obtain ⟨O,j,D⟩:=r b h
   rw [g] at j
   cases j
   obtain ⟨J,y⟩:=v b _ g D
   exact ⟨J,y⟩
  . obtain ⟨O,a⟩:=I.base.there b o e (i b)
    exact F.un.free b O a (I.base.free b o e n (i b)) (by simp)
  .
   by_cases h:b∈f8 outer
   . obtain ⟨O,j,D⟩:=r b h
     obtain ⟨J,y⟩:=v b _ j D
     exact ⟨_,y⟩
   . obtain ⟨o',Z,Z,t⟩:=p b o e h
     exact ⟨o',t⟩
  . obtain ⟨m1,a⟩:=I.base.nu b ps q
    obtain ⟨m2,g⟩:=F.un.nu b _ a
    exact ⟨m1++m2,by rw [g,ad8]⟩
 .
  intro b o e h o' t
  obtain ⟨O,Z,a,g⟩:=p b o e h
  rw [g] at t
  cases t
  exact a
def vo (h:∀ cls d H,E' cls d H->E cls d H):Passes (Dy P w) (dh (Dy P w) P w K mg base N qual scope f cd A outer s₀ H₀ E) E':=Fo h
end
def BR {K:aC} {h:aO} {C:ag} {m:aU} {newId:String} (X:K.In h) (q:W.excIn K C m newId=true) :
   ∃ bm N nm q bs hdct sn sub ab col dd k0 k1 k2 k3 k5 mN,h.get? C=some (excClassObj nm q C N bs bm hdct sn sub ab col dd k0 k1 k2 k3 k5 newId)/\h.Ns N mN/\mN "__init__" = none/\OwnTail h m bm:=by
 unfold W.excIn at q
 split at q
 .
  rename_i dd d sl f
  split at q
  .
   rename_i j bm k0 k1 k2 k3 n k5 a b
   simp only [aaw,abC,acw] at q
   obtain ⟨⟨⟨⟨⟨rfl,rfl⟩,O⟩,g⟩,c⟩,H⟩:=q
   obtain ⟨nm,bs,M,i,Q,e,sn,sub,ab,col,D⟩:=d
   dsimp only at a O c H
   subst a O
   have L:sl=#[k0,k1,k2,k3,some (.builtin n),k5]:=by
     obtain ⟨l⟩:=sl
     simp only at b
     rw [b]
   subst L
   exact ⟨bm,i,nm,Q,bs,e,sn,sub,ab,col,dd,k0,k1,k2,k3,k5,_,X _ _ f,.of_isNs (W.isNs_of_in X c),W.nsMap_none_of_in X c H,W.tail_of_in X g⟩
  . cases q
 . cases q
section
variable {X:Cx}
def E6 (C:ag) (E:XK) (t:TA):TS:=λ Z U H=>t U H λ v h=>v.length<=sizeLine/\E (.ref C) none h
def ng {c:Str} {C:ag} {B G:String} {r:aU} {newId:String} {rest:List Expr} {d:Pos} {t:TA} (V:X.calm=true) (F:ExcBaseFacts B newId G r) (hm:X.mg c=some (.ref C)) (q:W.excIn X.K C r newId=true) (th:WU X E) (R:PA X (e₀::rest) t) (hg:autoParam (Gl X c) za_._auto_1) (Y:autoParam ((c == ("__debug__" : Str))=false) zb_._auto_1) (j:autoParam (starEach (e₀::rest) X.env=(false,eval e₀ X.env)::starEach rest X.env) za_._auto_1) (J:autoParam ((backTo c6 (starEach rest X.env)).any (·.1)=false) za_._auto_1) :
   PS X (.Raise (some (.Call (.Name c np) (e₀::rest) [] c6)) none d) (E6 C E t):=by
 intro p s U H D I h
 obtain ⟨tl,N,u,qn,e,a,v,S,A,b,f,k,l,m,n,o,M,O,Q,z,T⟩:=BR I.ok.mod.Bu q
 refine wpAny_Raise_call_subT (C:=C) (nm:=u) (q:=qn) (N:=N) (bs:=e) (bm:=tl) (hdct:=a) (sn:=v) (sub:=S) (ab:=A) (col:=b) (dd:=f) (k0:=k) (k1:=l) (k2:=m) (k3:=n) (k5:=o)
   F (mN:=M) (T.hasType F.hasBase) (I.ok.hd V) (by rw [j];show (false || (backTo c6 (starEach rest X.env)).any (·.1))=false;rw [J];rfl) z (ia I hg hm ⟨rfl,?_⟩ Y)
 have g:=R c6 p s U H _ I h
 rw [j] at g |-
 refine ab4 (aau g (λ us s2 ⟨vs,w,i,r2,hz,q2⟩=>⟨rfl,by rw [<- r2.length];exact hz,i.bk _ _ O,Q.keeps i.bk,T.keeps i.bk,λ L x hx=>?_⟩) λ Z Z y=>y)
 exact th p U w s2 L x _ _ i hx q2
end
def PX (X:Cx) (e:Expr) (t:St->Hp->VK->XK->Prop) (c:Bool:=true):Prop :=
 ∀ (p:List (ag×Obj)) (s:Shared) (U:St) (H:Hp) (Q:VK) (E:XK),Inv X p U H s->t U H Q E ->
   wpAny (model X.prog X.w) X.A (eval e X.env) (EP X p U Q) (λ ex a=>∃ h S,Inv X p U h S/\Ca c X.prog X.w X.stack h S E ex a) s
structure sD (P:bh) (w:bf) (outer:List Env) (H:Hp) (s:Shared) (cls:aq) (x:ag) (H':Hp) (a0:aq) (B:aO) (s':Shared):Prop where
 os:s'.os=s.os
 bare:AllBare s'.gens
 un:Un (f8 outer) [] H H' s.heap s'.heap
 ck:jz P w H' s'.heap
 fl:Heap.FlyingW B outer x cls a0 s'.heap
 st:∀ b o,s.heap.get? b=some o->b∉f8 outer->∀ o',s'.heap.get? b=some o'->B.get? b=some o'
 tk:∀ b u,H' b=some u->∃ o,B.get? b=some o
def Sy.b {P:bh} {w:bf} {outer:List Env} {s s':Shared} {cls:aq} {x:ag} (F:Sy P w outer H s cls x H' s'):∃ a0 B,sD P w outer H s cls x H' a0 B s' :=
 let ⟨a0,B,f,h,t⟩:=F.YC;⟨a0,B,F.os,F.bare,F.un,F.ck,f,h,t⟩
section
variable {P:bh} {w:bf} {outer:List Env} {H H':Hp} {s s':Shared} {cls a0:aq} {x:ag} {B:aO}
def sD.fin (F:sD P w outer H s cls x H' a0 B s'):∀ b∈f8 outer,∃ o,s'.heap.get? b=some o/\∀ vs,o.data ≠ .fields vs:=λ b h=>(F.fl.2.2.1.mem h).2
def sD.moved {a:aO} {t2:Nat} (F:sD P w outer H s cls x H' a0 B s') (f:Heap.FlyingW B outer x cls a0 a) (u:s'.heap.UpToSlots a):sD P w outer H s cls x H' a0 B { s' with heap:=a,toks:=t2 }:=by
 have t:∀ b o,s.heap.get? b=some o->b∉f8 outer->∃ o',B.get? b=some o'/\a.get? b=some o':=λ b o e h=>by
   obtain ⟨O,c⟩:=F.un.there b o e (by simp)
   have q:=F.st b o e h O c
   exact ⟨O,q,f.1 b O q⟩
 refine ⟨F.os,F.bare,⟨λ b o e n h g=>?_,λ b o e n h g=>?_,F.un.free,λ b o e g=>?_,F.un.mX,F.un.mO,F.un.nu⟩,vV F.ck f.1 F.fl.1 F.tk,f,λ b o e h o' k=>?_,F.tk⟩
 . exact f.1 b o (F.st b o e h o (F.un.keep b o e n h g))
 .
  obtain ⟨sl,c⟩:=F.un.slot b o e n h g
  obtain ⟨O,d,i⟩:=F.fin b h
  rw [c] at d
  cases d
  obtain ⟨j,E⟩:=u b _ c i
  exact ⟨j,E⟩
 .
  by_cases h:b∈f8 outer
  . obtain ⟨O,d,i⟩:=F.fin b h
    obtain ⟨j,E⟩:=u b _ d i
    exact ⟨_,E⟩
  . obtain ⟨o',Z,E⟩:=t b o e h
    exact ⟨o',E⟩
 .
  obtain ⟨O,q,E⟩:=t b o e h
  have X:a.get? b=some o':=k
  rw [E] at X
  cases X
  exact q
theorem sD.none (F:sD P w outer H s cls x H' a0 B s'):H' x=none:=by
 cases q:H' x with
 | none=>rfl
 | some u =>
   obtain ⟨o,e⟩:=F.tk x u q
   rw [F.fl.2.1] at e
   cases e
def sD.obj (F:sD P w outer H s cls x H' a0 B s'):∃ oe vs,s'.heap.get? x=some oe/\oe.cls=cls/\oe.data = .fields vs :=
 let ⟨oe,vs,e,c,d,_⟩:=F.fl.first;⟨oe,vs,e,c,d⟩
end
def Cx.held (X:Cx) (e:ag) (o:Obj):Cx:={ X with A:=X.A.mark (some (.ref e)),calm:=false,pn:=X.pn++[(e,o)],xe:=λ Z Z=>False }
theorem Cx.Ok.held {X:Cx} (ok:X.Ok) (e:ag) (o:Obj):(X.held e o).Ok :=
 ⟨ok.mod,ok.kind,ok.glob,ok.blt,ok.above,ok.inj,ok.has,ok.Kl,(λ z=>nomatch z),ok.frames,ok.Kq,ok.QO,ok.bs,ok.CP,ok.yf,ok.AR,ok.jq,ok.BH⟩
section
variable {X:Cx} {pins:List (ag×Obj)} {U:St} {H H':Hp} {s s':Shared} {cls a0:aq} {e:ag} {oe:Obj} {B:aO}
def Inv.Gz (I:Inv X pins U H s) (F:sD X.prog X.w X.stack H s cls e H' a0 B s'):Inv X pins U H' s' :=
 I.Km (ch:=[]) F.os F.un F.ck F.bare (λ b z=>absurd z (by simp))
theorem Inv.held {vs:Array aq} (I:Inv X pins U H s) (b:s.heap.get? e=some oe) (a:oe.data = .fields vs) (g:H e=none):Inv (X.held e oe) pins U H s:=by
 refine ⟨I.ok.held e oe,I.os,I.bare,I.base,I.loc,I.cell,I.free,I.iu,λ p h=>?_,I.ck,I.len⟩
 rcases aaD.mp h with h|h
 .
  rcases aaD.mp h with h|h
  . exact I.pin p (aaU _ h)
  .
   have E:p=(e,oe):=by simpa using h
   subst E
   refine ⟨b,g,λ z=>?_,λ z=>?_,λ v z=>?_⟩
   .
    obtain ⟨m,⟨o,i,E,f,A,Z⟩,Z⟩:=I.loc
    have c:e=X.env.locals:=z
    rw [c,f] at b
    cases b
    rw [A] at a
    cases a
   . obtain ⟨Z,o,f,d⟩:=I.jq.mem z
     have V:s.heap.get? e=some o:=f
     rw [b] at V
     cases V
     exact d vs a
   . have c:oe.data = .cell v:=z
     rw [a] at c
     cases c
 . exact I.pin p (aaj _ h)
def Inv.vc (ok:X.Ok) (I:Inv (X.held e oe) pins U H s):Inv X pins U H s :=
 ⟨ok,I.os,I.bare,I.base,I.loc,I.cell,I.free,I.iu,λ p h=>I.pin p ((aaD.mp h).elim (λ z=>aaU _ (aaU _ z)) λ z=>aaj _ z),I.ck,I.len⟩
def lU {A:Around} {E:aq->Shared->Prop} {n:Str} {f:Pos} {Q:Unit->Shared->Prop} (I:Inv X pins U H s) (r:X.N.Nodup) (t:X.N[i]?=some n) (x:X.env.scope.names.lookup n=some .local) (h:∀ s',Inv X pins (U.set i none) H s'->Q () s'):wpAny (model X.prog X.w) A (do bindName X.env n .none;unbindBehindTheSuite X.env n f) Q E s:=by
 obtain ⟨m,C,B⟩:=id I.loc
 refine wpAny_nameGoes_keeps x C (by rw [I.ok.kind];rfl) λ K v V a=>h _ ?_
 have F:=I.Fy
 refine ⟨I.ok,I.os,I.bare,I.base.qX a (ab3 I.ok.above),⟨_,V,λ j y J g e o=>?_⟩,λ y c q=>?_,I.free,I.iu,λ p D=>?_,I.ck.qX a I.free,by rw [abM];exact I.len⟩
 .
  by_cases b:j=i
  . subst b
    rw [List.getElem?_set] at e
    simp only [abR] at e
    split at e<;>cases e
  .
   rw [abj (abt b)] at e
   obtain ⟨u,R,q⟩:=B j y J g e o
   refine ⟨u,R,?_⟩
   rcases q with ⟨k,q⟩|⟨k,c,q,z⟩
   . refine .inl ⟨k,?_⟩
     have:y≠n:=λ z=>b (rQ r g (z ▸ t))
     show (if y=n then v else m y)=some u
     rw [aal this]
     exact q
   . exact .inr ⟨k,c,q,z.sameBut a (F y c q)⟩
 . obtain ⟨W,z⟩:=I.cell y c q
   exact ⟨W,z.sameBut a (F y c q)⟩
 . obtain ⟨q,G,l,nf,d⟩:=I.pin p D
   exact ⟨(a.2 p.1 l).trans q,G,l,nf,d⟩
end
def Vw (X:Cx) (st:List Stmt) (t:(St->XK)->TS) (c:Bool:=true):Prop :=
 ∀ (p:List (ag×Obj)) (s:Shared) (U:St) (H:Hp) (D:Ends) (E:St->XK),Inv X p U H s->t E D U H ->
   wpAny (model X.prog X.w) X.A (execs st X.env) (SP X p D) (λ ex b=>∃ a h S,Inv X p a h S/\Ca c X.prog X.w X.stack h S (E a) ex b) s
section
variable {X:Cx} {pos:Pos} {cc:Bool}
def qP {e:Expr} {t:St->Hp->VK->XK->Prop} (b:PX X e t cc) (d:autoParam (swapsWith e none pos.line X.env=pure false) za_._auto_1):Vw X [.Expr e pos] (λ E D U H=>t U H (λ Z a=>D.nx U a) (E U)) cc:=by
 intro p s U H D E I h
 refine adw (wpAny_Expr_any (aau (b p s U H _ _ I h) (λ v S q=>?_) λ ex S q=>?_) I.quiet d)
 . obtain ⟨x,a,i,r,Q⟩:=q
   exact ace ⟨U,a,i,Q⟩
 . obtain ⟨a,S,i,c⟩:=q
   exact ⟨U,a,S,i,c⟩
def Ends.unset (D:Ends) (i:Nat):Ends:=⟨λ U H=>D.nx (U.set i none) H,D.rt,λ U H=>D.bk (U.set i none) H,λ U H=>D.ct (U.set i none) H⟩
def BO (K:aC) (c:aq) (i:Nat) (t:(St->XK)->TS) (T:aq->Option ag->ag->TS):TS:=λ D U H =>
 t (λ a cls d h=>W.exmOne K cls c=some true/\∀ e,h e=none->T cls d e (D.unset i) (a.set i (some (.ref e))) h) D U H
def D8 {M:Model} {A:Around} {E:aq->Shared->Prop} {s:Shared} {base:aO} {env:Env} {outer:List Env} {L e:ag} {cls a0:aq} {Q:Unit->Shared->Prop} (O:A.frames=some (env::outer)) (c:env.frame=some L) (B:Heap.FlyingW base (env::outer) e cls a0 s.heap) (H:∀ h',Heap.HeldW base (env::outer) e cls a0 L h'->s.heap.UpToSlots h'->cu s.heap h'->Q () { s with heap:=h' }):wpAny M A (noteFrame (.ref e) env) Q E s:=by
 refine aau (gb (uq _ _) (wpAny_looks_onW (E:=λ Z Z=>False) (Q:=λ Z S=>∃ h,S={ s with heap:=h }/\Heap.HeldW base (env::outer) e cls a0 L h/\s.heap.UpToSlots h) O c B λ h a b=>⟨h,rfl,a,b⟩)) (λ Z S z=>?_) λ Z Z z=>z.1.elim
 obtain ⟨⟨h,rfl,a,b⟩,d⟩:=z
 exact H h a b d
def DT {M:Model} {A:Around} {E:aq->Shared->Prop} {s:Shared} {base:aO} {l:List Env} {e L:ag} {cls a0:aq} {Q:Unit->Shared->Prop} (c:Heap.HeldW base l e cls a0 L s.heap) (H:∀ h',Heap.FlyingW base l e cls a0 h'->s.heap.UpToSlots h'->cu s.heap h'->Q () { s with heap:=h' }):wpAny M A (setFlight (.ref e) none) Q E s:=by
 refine aau (gb (iq _ _) (wpAny_landsW (E:=λ Z Z=>False) (Q:=λ Z S=>∃ h,S={ s with heap:=h }/\Heap.FlyingW base l e cls a0 h/\s.heap.UpToSlots h) c λ h a b=>⟨h,rfl,a,b⟩)) (λ Z S z=>?_) λ Z Z z=>z.1.elim
 obtain ⟨⟨h,rfl,a,b⟩,d⟩:=z
 exact H h a b d
def vJ {M:Model} {A:Around} {E:aq->Shared->Prop} {s:Shared} {base:aO} {l:List Env} {e:ag} {cls a0:aq} {Q:Unit->Shared->Prop} (c:Heap.FlyingW base l e cls a0 s.heap) (H:∀ h',Heap.FlyingW base l e cls a0 h'->s.heap.UpToSlots h'->cu s.heap h'->Q () { s with heap:=h' }):wpAny M A (setFlight (.ref e) none) Q E s:=by
 refine aau (gb (iq _ _) (lands_againW (E:=λ Z Z=>False) (Q:=λ Z S=>∃ h,S={ s with heap:=h }/\Heap.FlyingW base l e cls a0 h/\s.heap.UpToSlots h) c λ h a b=>⟨h,rfl,a,b⟩)) (λ Z S z=>?_) λ Z Z z=>z.1.elim
 obtain ⟨⟨h,rfl,a,b⟩,d⟩:=z
 exact H h a b d
def vR {a:List Stmt} {c n:Str} {C:ag} {g:Stmt} {xO:List Stmt} {t:(St->XK)->TS} {ts:aq->Option ag->ag->TS} (L:X.stack=X.env::X.outer) (Oi:X.env.frame=some X.env.locals) (o:X.N.Nodup) (u:X.N[i]?=some n) (m:X.env.scope.names.lookup n=some .local) (hm:X.mg c=some (.ref C)) (hb:Vw X a t cc) (hs:∀ cls d e oe,oe.cls=cls->oe.dict=d->W.notCls oe=true->(cc=true->jd oe)->l8 (X.held e oe) (g::xO) (ts cls d e)) (hg:autoParam (Gl X c) za_._auto_1) (qg:autoParam ((c == ("__debug__" : Str))=false) zb_._auto_1) :
   PS X (.Try a [.ExceptHandler (some (.Name c np)) (some n) (g::xO) DS] [] [] pos) (BO X.K (.ref C) i t ts):=by
 intro p s U H D I h
 refine wpAny_Try_except (aau (hb p s U H D _ I h) (λ f S q=>?_) λ ex S hx=>?_)
 .
  cases f with
  | next=>exact ace q
  | ret v=>exact q
  | brk=>exact q
  | cont=>exact q
 .
  obtain ⟨ae,H1,s0,I0,x,cls,H',rfl,F,dd,wS,Tq,hk⟩:=hx
  obtain ⟨a0,B,FB⟩:=F.b
  have fr:X.A.frames=some (X.env::X.outer):=L ▸ I.ok.frames
  have T:Heap.FlyingW B (X.env::X.outer) x cls a0 S.heap:=L ▸ FB.fl
  refine D8 fr Oi T λ h4 r ZC Z3=>?_
  refine DT r λ h5 W6 ab O=>?_
  have y:=FB.moved (t2:=S.toks) (L ▸ W6) (Heap.UpToSlots.trans ZC ab)
  have I5:=I0.Gz y
  obtain ⟨Zh,ad,YQ,Y,RE⟩:=y.obj
  have J5:=I5.held YQ RE y.none
  refine wpAny_handleBy_cons (codeAny_handlers_test (ia (X:=X.held x Zh) J5 hg hm ?_ qg)) (by intro q;cases q)
  have LT:W.Looks (model X.prog X.w) h5 (typeOf (.ref x)) cls:=Y ▸ (acH YQ).andThen .now
  refine (W.exm_one J5.jy LT Tq) _ _ _ _ (λ _ _ q=>q) ?_
  refine codeAny_handlers_suite_as ?_
  refine vJ W6 λ h6 V Zo R=>?_
  have E:=y.moved (t2:=S.toks) (L ▸ V) Zo
  have I6:=I0.Gz E
  obtain ⟨oe,vs,M,hc,hd⟩:=E.obj
  have J6:=I6.held M hd E.none
  have PF:oe.dict=dd/\(cc=true->jd oe):=by
    obtain ⟨o6,G,z6⟩:=((wS.kept Z3).kept O).kept R
    have G:h6.get? x=some o6:=G
    have M:h6.get? x=some oe:=M
    rw [M] at G
    cases G
    exact z6
  refine sd (X:=X.held x oe) (v:=.ref x) J6 o u (.inl m) rfl (λ s7 J7=>?_) (.inr m)
  refine aau (hs cls dd x oe hc PF.1 (by unfold W.notCls;rw [hd]) PF.2 p s7 _ H' (D.unset i) J7 (hk x E.none)) (λ f s8 q=>?_) λ _ _ z=>False.elim z
  have ok:=I.ok
  cases f with
  | next =>
    obtain ⟨l,j,J,Q⟩:=q
    exact lU (J.vc ok) o u m λ s9 k=>⟨_,j,k,Q⟩
  | brk =>
    obtain ⟨l,j,J,Q⟩:=q
    exact lU (J.vc ok) o u m λ s9 k=>⟨_,j,k,Q⟩
  | cont =>
    obtain ⟨l,j,J,Q⟩:=q
    exact lU (J.vc ok) o u m λ s9 k=>⟨_,j,k,Q⟩
  | ret v =>
    obtain ⟨v8,l,j,J,r8,Q⟩:=q
    exact lU (J.vc ok) o u m λ s9 k=>⟨v8,_,j,k,r8,Q⟩
def IZ {b:List Stmt} {c n:Str} {C:ag} {B:Stmt} {x:List Stmt} {t:(St->XK)->TS} {T:aq->Option ag->ag->TS} (g:X.stack=X.env::X.outer) (O:X.env.frame=some X.env.locals) (f:X.N.Nodup) (l:X.N[i]?=some n) (m:X.env.scope.names.lookup n=some .local) (o:X.mg c=some (.ref C)) (j:Vw X b t) (p:∀ cls d e oe,oe.cls=cls->oe.dict=d->W.notCls oe=true->l8 (X.held e oe) (B::x) (T cls d e)) (k:autoParam (Gl X c) za_._auto_1) (q:autoParam ((c == ("__debug__" : Str))=false) zb_._auto_1) :
   PS X (.Try b [.ExceptHandler (some (.Name c np)) (some n) (B::x) DS] [] [] pos) (BO X.K (.ref C) i t T) :=
 vR g O f l m o j (λ cls d e oe h H a Z=>p cls d e oe h H a) k q
end
structure lX (K:aC) (C:ag):Prop where
 ga:W.findIn K (.ref C) "__getattribute__" = some (some (.builtin "BaseException.__getattribute__"))
 gt:W.findIn K (.ref C) "__getattr__" = some none
 cl:W.findIn K (.ref C) "__class__" = some (some (.builtin "object.__class__"))
 gs:W.specialIn K (.builtin "object.__class__") "__get__" = some (some (.builtin "getset_descriptor.__get__"))
 tk:W.takesIn K (.builtin "object.__class__")=some true
 mo:W.mroIn K C (.type "object")=some true
 mb:W.mroIn K C (.type "BaseException")=some true
 is:(W.clsIn K C).isSome=true
section
open PySem.Builtin PySem.Builtin.ObjectAttr PySem.Builtin.Getset_descriptor
variable {K:aC} {C e:ag}
def CQ {M:Model} {h:aO} {name:Str} {a g:aq} (X:K.In h) (H:W.findIn K (.ref C) name=some (some a)) (b:W.specialIn K a "__get__" = some (some g)) (c:W.takesIn K a=some true) :
   W.Looks M h (find (.ref e) (.ref C) name) (.bind g a):=by
 have M1:=ab5 (M:=M) X H
 have M2:W.Looks M h (getOf (some a)) (some g):=W.looks_specialIn X b
 have m:W.Looks M h (dataDescriptor? (some a) (some g)) (some (g,a)):=(W.looks_takesIn (M:=M) X c).andThen .now
 exact M1.andThen (M2.andThen (m.andThen (W.Looks.tag .now)))
variable {prog:bh} {w:bf} {A:Around} {s:Shared} {oe:Obj}
def CN {R:Result->Shared->Prop} {t:aq} (X:K.In s.heap) (b:s.heap.get? e=some oe) (a:oe.cls = .ref C) (H:lX K C) (h:R (.ok (.ret (.ref C))) s) :
   codeAny (model prog w) A (.call (.builtin "getset_descriptor.__get__") ⟨[.builtin "object.__class__",.ref e,t],[]⟩) R s:=by
 obtain ⟨x,g,d,T,c⟩:=s
 have m:W.Looks (model prog w) x (typeOf (.ref e)) (.ref C):=a ▸ (acH b).andThen .now
 have M1:=adi (M:=model prog w) X H.mo
 refine acm W.KF.slot_gs.plain W.KF.entry_gs (W.KF.slot_gs.check _ _ _ _ _ _ _ _ W.KF.type_class (W.KF.args_gs _ _ _) ?_)
 unfold PySem.Builtin.«getset_descriptor.__get__» descrGet
 rw [W.dga_obj]
 refine OW (aak ?_)
 unfold descrGetter descrCheckInstance descrNameAndClass PySem.isInstance
 simp only [W.KF.owner_class]
 repeat lk
 refine ⟨adn _ (by decide +kernel),codeAny_builtin W.KF.entry_class ?_⟩
 unfold PySem.Builtin.«object.__class__» PySem.shownTypeOf
 repeat lk
 exact h
def Lh {R:Result->Shared->Prop} {t:Tok} (X:K.In s.heap) (d:s.heap.get? e=some oe) (c:oe.cls = .ref C) (H:lX K C) (h:R (.ok (.ret (.ref C))) s) :
   codeAny (model prog w) A (.call (.builtin "BaseException.__getattribute__") ⟨[.ref e,.str "__class__" t],[]⟩) R s:=by
 obtain ⟨x,G,D,T,j⟩:=s
 have m:W.Looks (model prog w) x (typeOf (.ref e)) (.ref C):=c ▸ (acH d).andThen .now
 have g:=adi (M:=model prog w) X H.mb
 have i:=CQ (M:=model prog w) (e:=e) X H.cl H.gs H.tk
 have b:=adU (.ref e) (.str "__class__" t)
 refine acm PySem.F.excAttr_ValueError.ga.plain adL ?_
 have k:builtinKind "BaseException.__getattribute__" = some .slot:=by decide +kernel
 have f:splitId "BaseException.__getattribute__" = some ("BaseException","__getattribute__"):=by decide +kernel
 simp only [checkBuiltinCall,k,f]
 refine OW ((m.andThen g).at ?_)
 simp only [adD,aca,ach]
 unfold argsOk at b
 refine acb (a:=()) b ?_
 unfold PySem.Builtin.«object.__getattribute__»
 refine OW (acb (a:=(Value.ref e,[Value.str "__class__" t])) rfl ?_)
 dsimp only
 refine OW (acb (a:=("__class__" : Str)) rfl ?_)
 refine OW (m.at (OW (i.at ?_)))
 show wpAny _ _ (holding [_] (call _ [_,_,_]) >>= ret) _ _ _
 refine OW (aa5 (abX (CN (s:=⟨x,G,D,T,j⟩) X d c H ?_)))
 exact aak h
def yc (H:lX K C):W.KitX K (.ref e) (.ref C) (λ h=>∃ oe,h.get? e=some oe/\oe.cls = .ref C) where
 ty:=λ _ _ _ ⟨_,c,b⟩=>b ▸ (acH c).andThen .now
 it:=λ _ _ X _=>by
   obtain ⟨l,j⟩:=abg.mp H.is
   unfold W.clsIn at j
   split at j
   . rename_i p r t u d
     intro B J I S a q
     unfold isType loadHead
     exact OW (ac4 (a _ _ (X _ _ d)) (aak q))
   . cases j
 ne:=λ h T N L n sl X i=>by
   obtain ⟨l,j⟩:=abg.mp H.is
   refine Bool.eq_false_iff.mpr λ q=>?_
   have z:C=T:=Value.ref.inj (abC.mp q)
   subst z
   unfold W.clsIn at j
   split at j
   . rename_i p r t u d
     have y:=(X _ _ d).symm.trans i
     cases y
   . cases j
 ca:=λ {prog w A E Q s} X o k=>by
   obtain ⟨oe,c,b⟩:=o
   obtain ⟨x,G,D,v,g⟩:=s
   have f:W.Looks (model prog w) x (typeOf (.ref e)) (.ref C):=b ▸ (acH c).andThen .now
   have M1:=ab5 (M:=model prog w) X H.ga
   have M2:=ab5 (M:=model prog w) X H.gt
   unfold getAttr? getAttrBy? getAttrBy
   refine OW (wpAny_mkText (OW (wpAny_attempt (aa5 (OW (f.at (OW (M1.at ?_))))))))
   show wpAny _ _ (getAttrByItsOwn _ _ _ _ _ _) _ _ _
   unfold getAttrByItsOwn
   refine OW (m:=hookBefore _) (M2.at ?_)
   refine OW (wpAny_attempt (aa5 ?_))
   show wpAny _ _ (boundAndCalled _ _ _) _ _ _
   unfold boundAndCalled
   refine OW (acb (PySem.F.excAttr_ValueError.ga.bind (.ref e)) ?_)
   refine abX (Lh (s:=⟨x,G,D,v+1,g⟩) X c b H ?_)
   exact W.handed_on rfl (aak k)
end
def Jk:V->Bool
 | .ref _=>true
 | .ty _=>true
 | _=>false
def Q3:V->aq
 | .ref a => .ref a
 | .ty n => .type n
 | _ => .none
def yr {c:V} {u:aq} (h:Jk c=true) (r:RelV c u):u=Q3 c:=by
 cases c<;>first|exact r|cases h
theorem yV:∀ {c:aA} {us:aU},Vals c us->(∀ x∈c,Jk x=true)->us=c.map Q3
 | _,_,.nil,_=>rfl
 | _,_,.cons r t,h=>by rw [aaN,yr (h _ aaz) r,yV t λ x H=>h x (aao _ H)]
inductive V0 (K:aC) (C:ag) (H:Hp):V->Bool->Prop where
 | one {c:V} {b:Bool} (hc:Jk c=true) (h:W.kitOne K (.ref C) (Q3 c)=some b):V0 K C H c b
 | many {p:ag} {cs:aA} {b:Bool} (hp:H p=some (.tup cs)) (hc:∀ x∈cs,Jk x=true) (h:W.kitAny K (.ref C) (cs.map Q3)=some b):V0 K C H (.ref p) b
section
variable {X:Cx}
def fR {e:ag} {cls:aq} (K:aC) (y:X.K=K) (B:(e,oe)∈X.pn) (k:oe.cls=cls) :
   ir X (.builtin "isinstance") (λ xs H Q=>∃ c b C,xs=[.ref e,c]/\cls = .ref C/\lX K C/\V0 K C H c b/\Q (.bl b) H):=by
 subst y
 intro a s U H xs T Q I r h
 obtain ⟨c,b,C,rfl,E,j,is,q⟩:=h
 obtain ⟨u,G,rfl,D,R⟩:=vals2 r
 obtain rfl:u=Value.ref e:=D
 have m:s.heap.get? e=some oe:=(I.pin (e,oe) (aaU _ B)).1
 have f:∀ t,EP X a U Q (.bool b) { s with toks:=t }:=λ t=>⟨.bl b,H,I.tok _,rfl,q⟩
 cases is with
 | one i d =>
   rw [yr i R]
   exact ab6 (yc j) I.jy ⟨oe,m,k.trans E⟩ d (λ z=>nomatch z) f
 | @many p v _ g i d =>
   obtain rfl:G=Value.ref p:=R
   obtain ⟨Z,J,F,o,A,M,n,l⟩:=(show c5 X.prog X.w H s.heap p (.tup v) from I.ck p _ g)
   have x:=yV F i
   subst x
   obtain ⟨O,L,N,S⟩:=o
   dsimp only at M l
   subst M l
   exact W.kia_tup (yc j) I.jy ⟨oe,m,k.trans E⟩ A d (λ z=>nomatch z) f
end
def tT:bootBuiltins "ValueError" = some (.type "ValueError"):=by decide +kernel
open PySem.Builtin PySem.Builtin.ObjectAttr
section
variable {K:aC} {prog:bh} {w:bf} {A:Around} {E:aq->Shared->Prop} {s:Shared} {x C:ag} {name:Str} {v:aq}
def lL:aU->Bool
 | []=>false
 | .ref _::r=>lL r
 | c::r=>decide (c::r=[.type "ValueError",.type "Exception",.type "BaseException",.type "object"])
def lT (K:aC) (C:ag):Bool:=(W.clsIn K C).any λ c=>lL c.mro
def lY {l:aU} (e:lL l=true):(∃ c r,l = .ref c::r/\lL r=true)\/l=[.type "ValueError",.type "Exception",.type "BaseException",.type "object"]:=by
 cases l with
 | nil=>cases e
 | cons c r =>
   cases c with
   | ref a=>exact .inl ⟨a,r,rfl,e⟩
   | _=>exact .inr (act e)
theorem rX (self:aq):∀ (n:Nat) {l:aU},l.length<=n->lL l=true->refuseLoop self "__setattr__" l=pure ()
 | 0,l,h,e=>by
   have:l=[]:=acy.mp (Nat.le_zero.mp h)
   subst this
   cases e
 | n+1,l,h,e=>by
   rcases lY e with ⟨c,r,rfl,E⟩|rfl
   . rw [refuseLoop_ref]
     exact rX self n (adG h) E
   . exact PySem.F.store_ValueError.passes self
theorem pS:∀ (n:Nat) {l:aU},l.length<=n->lL l=true->l.contains (.type "object")=true/\l.isEmpty=false
 | 0,l,h,e=>by
   have:l=[]:=acy.mp (Nat.le_zero.mp h)
   subst this
   cases e
 | n+1,l,h,e=>by
   rcases lY e with ⟨c,r,rfl,E⟩|rfl
   . refine ⟨?_,rfl⟩
     rw [acY,(pS n (adG h) E).1,ac8]
   . exact ⟨by simp,rfl⟩
def Bx {O:Obj} {o:Option Obj} {t:Tok} {R:Result->Shared->Prop} (X:K.In s.heap) (J:W.InstAt s.heap x O C o) (k:lT K C=true) (d:W.findIn K (.ref C) name=some none) (h:wpAny (model prog w) A.in1 (storeInOwnDict (.ref x) (.ref C) (.str name t) name v false)
     (λ a s'=>match a with | .done f=>R (.ok f) s' | .again c'=>c'.quiet=true/\codeAny (model prog w) A c' R s') (λ e s'=>R (.error e) s') s) :
   codeAny (model prog w) A (.call (.builtin "object.__setattr__") ⟨[.ref x,.str name t,v],[]⟩) R s:=by
 obtain ⟨c,j,H⟩:=ad5 k
 obtain ⟨E,I⟩:=pS _ (aac _) H
 have b:W.mroIn K C (.type "object")=some true:=by
   unfold W.mroIn
   rw [j]
   show (if c.mro.isEmpty=true then none else some (c.mro.contains (.type "object")))=some true
   rw [aal (by rw [I];exact aah),E]
 have top:W.Looks (model prog w) s.heap (isInstance (.ref x) (.type "object")) true:=J.type.andThen (adi X b)
 have S:=PySem.F.store_object
 refine acm S.slot.plain S.entry (W.check_slot (M:=model prog w) (s:=s) (i:="object.__setattr__") (owner:="object") (n:="__setattr__") (self:=.ref x) (rest:=[.str name t,v]) (kw:=[]) S.kind S.split top (S.args (.ref x) (.str name t) v) ?_)
 have g:W.Looks (model prog w) s.heap (mroOf (.ref C)) c.mro:=W.Looks.andThen (adj X j) .now
 have L:W.Looks (model prog w) s.heap (storeTaker? none) none:=.now
 rw [W.osa_eq,refuse_eq]
 refine OW (OW (J.type.here (OW (g.here ?_))))
 rw [rX _ _ (aac _) H]
 refine aak (OW (J.type.here (OW ((ab5 X d).here (OW (L.here ?_))))))
 exact h
def GZ (C t:ag) (d:Option ag):Obj:={ cls:=.ref C,dict:=d,data:=.fields #[.ref t,.none,.none,.none,.bool false,.none]}
def Il {t:ag} {Q:Unit->Shared->Prop} (X:K.In s.heap) (H:s.heap.get? x=some (GZ C t none)) (z:W.findIn K (.ref C) "__setattr__" = some (some (.builtin "object.__setattr__"))) (u:lT K C=true) (B:W.findIn K (.ref C) name=some none) (r:W.hasDictIn K C=true) (h:∀ h',h'.get? x=some (GZ C t (some s.heap.objs.size))->h'.Ns1 s.heap.objs.size (λ y=>if y=name then some v else none)->(∀ b o,b≠x->s.heap.get? b=some o->h'.get? b=some o)->Q () { s with heap:=h',toks:=s.toks+2 }) :
   wpAny (model prog w) A (setAttr (.ref x) name v) Q E s:=by
 have J:W.InstAt s.heap x (GZ C t none) C none:=⟨H,rfl,rfl,trivial⟩
 refine W.set_plain X J z (Bx (s:={ s with toks:=s.toks+1 }) X J u B ?_)
 obtain ⟨M,n,j⟩:=ad5 r
 refine OW (aak (OW (OW (ac4 H (OW (W.Looks.here (s:={ s with toks:=s.toks+1 }) (adj X n) ?_))))))
 rw [j]
 rw [aal (by decide)]
 show wpAny _ _ (alloc { cls:=.type "dict",data:=.dict #[]} >>= λ d=>update x (λ o=>{ o with dict:=some d }) >>= λ Z=>dictMade (.ref C) x d) _ _ _
 have k:=aag H
 have i:(s.heap.push { cls:=.type "dict",data:=.dict #[]}).get? x=some (GZ C t none):=ZB _ H
 have c:((s.heap.push { cls:=.type "dict",data:=.dict #[]}).update x (λ o=>{ o with dict:=some s.heap.objs.size })).get? x=some (GZ C t (some s.heap.objs.size)):=abE _ i rfl
 have G:((s.heap.push { cls:=.type "dict",data:=.dict #[]}).update x (λ o=>{ o with dict:=some s.heap.objs.size })).get? s.heap.objs.size=some { cls:=.type "dict",data:=.dict #[]}:=by
   rw [abA _ _ (aas k)]
   exact aaE _ rfl
 have F:((s.heap.push { cls:=.type "dict",data:=.dict #[]}).update x (λ o=>{ o with dict:=some s.heap.objs.size })).Ns1 s.heap.objs.size (λ Z=>none) :=
   ⟨_,#[],_,G,rfl,(λ e H=>absurd H (by simp)),(by simp [UniqKeys]),λ Z=>rfl⟩
 refine OW (wpAny_alloc ?_)
 refine OW (wpAny_update i ?_)
 refine aak (a:=some s.heap.objs.size) ?_
 refine OW (aak (OW ?_))
 refine wpAny_nsSet1 (s:={ s with heap:=(s.heap.push { cls:=.type "dict",data:=.dict #[]}).update x (λ o=>{ o with dict:=some s.heap.objs.size }),toks:=s.toks+1 }) F λ h' g f=>?_
 obtain ⟨N,I,L,p,O,l⟩:=g.count (acu name v (ns:=[]) (λ y D=>absurd rfl D))
 refine OW (adv p (by rw [O];exact adx (aa3 l (by rw [aav,abN,adb];lia))) ?_)
 refine aak (h h' ((f.2 _ (aas k)).trans c) g λ b o m q=>?_)
 rw [f.2 b (aas (aag q))]
 show ((s.heap.push _).update x _).get? b=some o
 rw [abA _ _ (abt m)]
 exact ZB _ q
end
open PySem.Builtin PySem.Builtin.ObjectAttr
section
variable {K:aC} {prog:bh} {w:bf} {A:Around} {E:aq->Shared->Prop} {s:Shared} {e C dx:ag} {name:Str} {v:aq} {oe:Obj} {mA:bR}
def Jz {R:Result->Shared->Prop} {t:Tok} (X:K.In s.heap) (c:s.heap.get? e=some oe) (H:oe.cls = .ref C) (q:W.notCls oe=true) (l:oe.dict=some dx) (ns:s.heap.Ns1 dx mA) (j:lX K C) (n:W.hasDictIn K C=true) (k:W.findIn K (.ref C) name=some none) (r:mA name=some v) (h:R (.ok (.ret v)) s):codeAny (model prog w) A (.call (.builtin "BaseException.__getattribute__") ⟨[.ref e,.str name t],[]⟩) R s:=by
 obtain ⟨O,f,p⟩:=pE ns
 have J:W.InstAt s.heap e oe C (some O):=⟨c,H,q,by rw [l];exact f⟩
 have i:=W.looks_find (M:=model prog w) X J (W.findObj_own (v:=v) n k rfl (by rw [p,r]))
 obtain ⟨x,G,D,T,u⟩:=s
 have m:W.Looks (model prog w) x (typeOf (.ref e)) (.ref C):=H ▸ (acH c).andThen .now
 have g:=adi (M:=model prog w) X j.mb
 have b:=adU (.ref e) (.str name t)
 refine acm PySem.F.excAttr_ValueError.ga.plain adL ?_
 have o:builtinKind "BaseException.__getattribute__" = some .slot:=by decide +kernel
 have d:splitId "BaseException.__getattribute__" = some ("BaseException","__getattribute__"):=by decide +kernel
 simp only [checkBuiltinCall,o,d]
 refine OW ((m.andThen g).at ?_)
 simp only [adD,aca,ach]
 unfold argsOk at b
 refine acb (a:=()) b ?_
 unfold PySem.Builtin.«object.__getattribute__»
 refine OW (acb (a:=(Value.ref e,[Value.str name t])) rfl ?_)
 dsimp only
 refine OW (acb (a:=name) rfl ?_)
 refine OW (m.at (OW (i.at ?_)))
 exact aak h
def JE {b:Bool} {Q:aq->Shared->Prop} (X:K.In s.heap) (f:s.heap.get? e=some oe) (d:oe.cls = .ref C) (n:W.notCls oe=true) (k:oe.dict=some dx) (ns:s.heap.Ns1 dx mA) (H:lX K C) (l:W.hasDictIn K C=true) (j:W.findIn K (.ref C) name=some none) (o:mA name=some v) (c:W.handedIn v=true) (h:Q v { s with toks:=s.toks+1 }):wpAny (model prog w) A (getAttr (.ref e) name b) Q E s:=by
 obtain ⟨x,G,D,t,i⟩:=s
 have g:W.Looks (model prog w) x (typeOf (.ref e)) (.ref C):=d ▸ (acH f).andThen .now
 have M1:=ab5 (M:=model prog w) X H.ga
 have M2:=ab5 (M:=model prog w) X H.gt
 unfold getAttr getAttrBy
 refine OW (wpAny_mkText (aa5 (OW (g.at (OW (M1.at ?_))))))
 show wpAny _ _ (getAttrByItsOwn _ _ _ _ _ _) _ _ _
 unfold getAttrByItsOwn
 refine OW (m:=hookBefore _) (M2.at ?_)
 refine OW (wpAny_attempt (aa5 ?_))
 have a:callGetattribute (.ref e) (.str name t) (.builtin "BaseException.__getattribute__") b=boundAndCalled (.builtin "BaseException.__getattribute__") (.ref e) (.str name t):=by
   unfold callGetattribute
   rw [aal (by cases b<;>decide)]
 rw [a]
 unfold boundAndCalled
 refine OW (acb (PySem.F.excAttr_ValueError.ga.bind (.ref e)) ?_)
 refine abX (Jz (s:=⟨x,G,D,t+1,i⟩) X f d n k ns H l j o ?_)
 exact W.handed_on c h
end
structure ExcAt (K:aC) (C:ag) (f:Str):Prop where
 ex:lX K C
 hd:W.hasDictIn K C=true
 no:W.findIn K (.ref C) f=some none
 sa:W.findIn K (.ref C) "__setattr__" = some (some (.builtin "object.__setattr__"))
 po:lT K C=true
section
variable {X:Cx}
def JA {b:Bool} {p:List (ag×Obj)} {s:Shared} {A:Around} {E:aq->Shared->Prop} {e C d:ag} {F:List (Str×V)} {f:Str} {Q:aq->Shared->Prop} (I:Inv X p U H s) (l:(e,oe)∈X.pn) (c:oe.cls = .ref C) (k:W.notCls oe=true) (g:oe.dict=some d) (n:H d=some (.xd F)) (a:ExcAt X.K C f) (j:F.lookup f=some v) (h:∀ u s',Inv X p U H s'->RelV v u->Q u s'):wpAny (model X.prog X.w) A (getAttr (.ref e) f b) Q E s:=by
 have i:=(I.pin (e,oe) (aaU _ l)).1
 obtain ⟨M,N,r⟩:=I.ck d _ n
 obtain ⟨u,m,R⟩:=jj.some_of (v:=v) (o:=M f) (by rw [<- j];exact r f)
 exact JE I.jy i c k g N a.ex a.hd a.no m (ux R) (h u _ (I.tok _) R)
end
def XO (x C t:ag) (d:Option ag):HO:=.ext λ h=>h.get? x=some (GZ C t d)
section
variable {prog:bh} {w:bf} {A:Around} {E:aq->Shared->Prop} {h:aO} {g:Array GenState} {d:Drawn} {t:Nat} {os:OsState}
variable {nm q:Str} {C N:ag} {bs bm mT:aU} {hdct:Bool} {sn:bN} {sub:aU} {ab:Bool} {col:Option Bool} {dd:Option ag} {k0 k1 k2 k3 k5:iO} {B newId gj:String}
def pZ (F:ExcBaseFacts B newId gj mT) (T:OwnTail h mT bm) {mN:bR} {rest:aU} {fI:ag} {Q:Fin->Shared->Prop} (c:h.get? C=some (excClassObj nm q C N bs bm hdct sn sub ab col dd k0 k1 k2 k3 k5 newId)) (j:h.Ns N mN) (i:mN "__init__" = some (.ref fI)) (M:h.get? fI=some oI) (n:oI.cls = .type "function") (l:∀ h' e,h.objs.size<=e->Heap.MadeExcOf h h' e (.ref C) rest->wpAny (model prog w) A (call (.ref fI) (.ref e::rest)) (λ r s'=>r = .none/\Q (.done (.ret (.ref e))) s') E ⟨h',g,d,t,os⟩) (hrest:rest.length<=sizeLine) :
   wpAny (model prog w) A (Builtin.«type.__call__» ⟨.ref C::rest,[]⟩) Q E ⟨h,g,d,t,os⟩:=by
 repeat (first|with_reducible refine abH c ?_|with_reducible refine wpAny_madeBy_exc c ?_|wp_step)
 refine codeAny_call_builtin_code (adn _ F.quiet) (wpAny_check_new_subT F T c ?_)
 refine codeAny_exc_new_subT F T c ?_ hrest
 show wpAny _ _ _ _ _ _
 have k:∀ b o,h.get? b=some o->((h.push { cls:=.type "tuple",data:=.seq rest.toArray }).push { cls:=.ref C,data:=.fields #[.ref h.objs.size,.none,.none,.none,.bool false,.none]}).get? b=some o :=
   λ b o e=>ZB _ (ZB _ e)
 have Y:=k _ _ c
 have S:=k _ _ M
 have H:=j.keeps k
 have a:=T.keeps k
 have D:((h.push { cls:=.type "tuple",data:=.seq rest.toArray }).push
     { cls:=.ref C,data:=.fields #[.ref h.objs.size,.none,.none,.none,.bool false,.none]}).get? (h.objs.size+1)=some
     { cls:=.ref C,data:=.fields #[.ref h.objs.size,.none,.none,.none,.bool false,.none]}:=by heap_get
 have z:(Value.ref C::bm).contains (.ref C)=true:=by simp
 unfold isInstance
 repeat (first|with_reducible refine abH D ?_|(with_reducible refine ac9 Y ?_;rw [z])|wp_step)
 show wpAny _ _ (typeLookup (.ref C) _) _ _ _
 refine wpAny_typeLookup_tail Y H a F.mroIs F.init.lookup ?_
 rw [i]
 refine aa5 (OW ?_)
 unfold bindSpecial
 refine OW (wpAny_typeOf (T:="function") ⟨_,S,n⟩ ?_)
 rw [aaq (by decide)]
 refine aak (OW (aau (l _ (h.objs.size+1) (abY _) ⟨k,ab3 (abY _),h.objs.size,D,ab3 (aac _),ZB _ (Heap.get?_push_at rfl rfl)⟩) (λ r s' m=>?_) λ Z Z x=>x))
 obtain ⟨rfl,f⟩:=m
 wp_walk
 exact f
def Ba (F:ExcBaseFacts B newId gj mT) (T:OwnTail h mT bm) {mN:bR} {rest:aU} {fI:ag} {Q:aq->Shared->Prop} (H:h.get? C=some (excClassObj nm q C N bs bm hdct sn sub ab col dd k0 k1 k2 k3 k5 newId)) (f:h.Ns N mN) (b:mN "__init__" = some (.ref fI)) (M:h.get? fI=some oI) (n:oI.cls = .type "function") (i:∀ h' e,h.objs.size<=e->Heap.MadeExcOf h h' e (.ref C) rest->wpAny (model prog w) (A.under (.builtin "type.__call__" ⟨.ref C::rest,[]⟩)) (call (.ref fI) (.ref e::rest)) (λ r s'=>r = .none/\Q (.ref e) s') E ⟨h',g,d,t,os⟩) (hrest:rest.length<=sizeLine) :
   wpAny (model prog w) A (call (.ref C) rest) Q E ⟨h,g,d,t,os⟩:=by
 have j:=tc_lookup
 have k:=tc_bind (.ref C)
 have l:(⟨h,g,d,t,os⟩:Shared).TypeIs (.ref C) "type":=⟨_,H,rfl⟩
 refine abX (codeAny_of_tree ?_)
 show wpAny _ _ (callAny (.ref C) _) _ _ _
 repeat (any_goals (first|assumption|with_reducible refine abH H ?_|wp_step))
 refine ⟨rfl,?_⟩
 refine codeAny_call_builtin_at (adn _ (by decide +kernel)) entry_typeCall (wpAny_check_type_call_sub H (pZ (hrest:=hrest) F T H f b M n λ h' e a c=>?_))
 exact i h' e a c
end
section
variable {M:Model} {A:Around} {E:aq->Shared->Prop} {env:Env}
variable {nm q:Str} {C N:ag} {bs bm:aU} {hdct:Bool} {sn:bN} {sub:aU} {ab:Bool} {col:Option Bool} {dd:Option ag} {k0 k1 k2 k3 k5:iO} {newId:String}
def yJ {s:Shared} {x:Sem aq} {Q:Flow->Shared->Prop} (l:bm.contains (.type "BaseException")=true) (f:A.handled=none) (h:wpAny M A x (λ v S=>∃ e t n,v = .ref e/\S.heap.get? C=some (excClassObj nm q C N bs bm hdct sn sub ab col dd k0 k1 k2 k3 k5 newId)/\S.heap.get? e=some { cls:=.ref C,dict:=n,data:=.fields #[.ref t,.none,.none,.none,.bool false,.none]}/\E (.ref e) S) E s) :
   wpAny M A (raiseStmt env (some x) none) Q E s:=by
 have U:(Value.ref C::bm).contains (.type "BaseException")=true:=by rw [acY,l,ac8]
 unfold raiseStmt
 refine OW (aau h (λ v S H=>?_) λ Z Z x=>x)
 obtain ⟨e,t,n,rfl,a,c,b⟩:=H
 obtain ⟨i,g,d,T,o⟩:=S
 repeat (first|with_reducible refine abH c ?_|with_reducible refine abH a ?_|(with_reducible refine ac9 a ?_;rw [U])|wp_step)
 exact wpAny_raiseNew_none f b
end
section
variable {prog:bh} {w:bf} {A:Around} {E:aq->Shared->Prop} {s:Shared} {env:Env}
variable {nm q:Str} {C N:ag} {bs bm mT:aU} {hdct:Bool} {sn:bN} {sub:aU} {ab:Bool} {col:Option Bool} {dd:Option ag} {k0 k1 k2 k3 k5:iO} {B newId gj:String}
def xc (F:ExcBaseFacts B newId gj mT) {mN:bR} {fI:ag} {x:Str} {p:Pos} {args:List Expr} {Q:Flow->Shared->Prop} (O:bm.contains (.type "BaseException")=true) (I:A.handled=none) (G:(backTo c6 (starEach args env)).any (·.1)=false) (J:mN "__init__" = some (.ref fI)) (h:wpAny (model prog w) A (eval (.Name x np) env) (λ f c=>f = .ref C/\wpAny (model prog w) A (evalArgs (.ref C) true (backTo c6 (starEach args env)) [])
     (λ a S=>a.kw=[]/\a.pos.length<=sizeLine/\S.heap.get? C=some (excClassObj nm q C N bs bm hdct sn sub ab col dd k0 k1 k2 k3 k5 newId)/\S.heap.Ns N mN/\OwnTail S.heap mT bm/\(∃ oI,S.heap.get? fI=some oI/\oI.cls = .type "function") /\
       ∀ h' e,S.heap.objs.size<=e->Heap.MadeExcOf S.heap h' e (.ref C) a.pos->wpAny (model prog w) (A.under (.builtin "type.__call__" ⟨.ref C::a.pos,[]⟩)) (call (.ref fI) (.ref e::a.pos))
         (λ r s'=>r = .none/\s'.heap.get? C=some (excClassObj nm q C N bs bm hdct sn sub ab col dd k0 k1 k2 k3 k5 newId)/\(∃ t n,s'.heap.get? e=some { cls:=.ref C,dict:=n,data:=.fields #[.ref t,.none,.none,.none,.bool false,.none]})/\E (.ref e) s') E { S with heap:=h' }) E c) E s) :
   wpAny (model prog w) A (exec (.Raise (some (.Call (.Name x np) args [] c6)) none p) env) Q E s:=by
 rw [arm_exec_Raise]
 refine OW (abL (yJ (C:=C) (nm:=nm) (q:=q) (N:=N) (bs:=bs) (bm:=bm) (hdct:=hdct) (sn:=sn) (sub:=sub) (ab:=ab) (col:=col) (dd:=dd) (k0:=k0) (k1:=k1) (k2:=k2) (k3:=k3) (k5:=k5) (newId:=newId) O I ?_))
 refine OW (aau (wpAny_Call_ofName (aau h (λ f c H=>?_) λ Z Z x=>x)) (λ v o j=>OW (abL (aak j))) λ Z Z x=>x)
 obtain ⟨rfl,H⟩:=H
 unfold callWith
 refine OW (aa5 (aau H (λ a S b=>OW (abL ?_)) λ Z Z x=>x))
 obtain ⟨l,D⟩:=a
 obtain ⟨y,i,m,L,T,⟨oI,M,u⟩,b⟩:=b
 obtain rfl:D=[]:=y
 obtain ⟨X,g,d,tk,Y⟩:=S
 simp only [G]
 refine OW (wpAny_keeperOf_exc m ?_)
 refine OW (Ba (hrest:=i) F T m L J M u λ h' e k K=>?_)
 refine aau (b h' e k K) (λ r s' z=>?_) λ Z Z z=>z
 obtain ⟨R,U,⟨t,n,W⟩,V⟩:=z
 exact ⟨R,OW (aa5 (wpAny_point (aak ⟨e,t,n,rfl,U,W,V⟩)))⟩
end
def CS {P:bh} {w:bf} {h:aO} (x:jz P w H h) {b:ag} (e:H b=some u):∃ o,h.get? b=some o:=by
 have ok:=x b u e
 cases u with
 | lst X=>obtain ⟨Z,Z,Z,Z,e⟩:=ok;exact ⟨_,e⟩
 | tup X=>obtain ⟨Z,Z,Z,o,e,Z⟩:=ok;exact ⟨_,e⟩
 | dK a=>obtain ⟨Z,Z,Z,Z,o,Z,Z,e,Z⟩:=ok;exact ⟨_,e⟩
 | dT a=>obtain ⟨Z,Z,Z,Z,o,Z,Z,e,Z⟩:=ok;exact ⟨_,e⟩
 | set S n=>obtain ⟨o,Z,Z,Z,e,Z⟩:=ok;exact ⟨_,e⟩
 | ins C d F=>obtain ⟨Z,Z,Z,e,Z⟩:=ok;exact ⟨_,e⟩
 | own y=>obtain ⟨Z,e⟩:=ok;exact ⟨_,e⟩
 | xd F=>obtain ⟨Z,⟨Z,Z,Z,e,Z⟩,Z⟩:=ok;exact ⟨_,e⟩
 | QH l c=>obtain ⟨Z,Z,Z,e⟩:=ok;exact ⟨_,e⟩
 | yz O u=>obtain ⟨e,Z⟩:=ok;exact ⟨_,e⟩
 | IC p=>exact ⟨_,ok⟩
 | met f y=>exact ⟨_,ok⟩
 | ext g=>obtain ⟨Z,⟨Z,e⟩,Z⟩:=ok;exact ⟨_,e⟩
def gQ (H:Hp) (e:ag):Hp:=λ b=>if b=e then none else H b
def ur {e b:ag} (h:gQ H e b=some u):b≠e/\H b=some u:=by
 unfold gQ at h
 split at h
 . cases h
 . rename_i n;exact ⟨n,h⟩
def fC {e b:ag} (n:b≠e):gQ H e b=H b:=by unfold gQ;rw [aal n]
def CT {P:bh} {w:bf} {h:aO} {e:ag} {d:aO->Prop} (x:jz P w H h) (a:H e=some (.ext d)):jz P w (gQ H e) h:=λ b u q=>by
 obtain ⟨n,q⟩:=ur q
 refine (x b u q).gE (λ Z Z Z z=>z) (λ c z=>?_) λ c X z=>?_
 . rw [fC (λ y=>by rw [y,a] at z;cases z)];exact z
 . rw [fC (λ y=>by rw [y,a] at z;cases z)];exact z
section
variable {P:bh} {w:bf} {K:aC} {mg:bR} {base:aO} {N:bN} {qual:Str} {scope:Scope} {f:ag} {cd:aq} {A:Around} {outer:List Env} {s₀:Shared} {H₀:Hp} {E E':XK}
def Pk {c l:Bool} {pn r:List (ag×Obj)} {s:Shared} {x:ag} {vs:Array aq} {a0:aq} {φ:aO->Prop} (hE:∀ cls d H,E' cls d H->E cls d H) (I:Inv { dh (Ca c P w) P w K mg base N qual scope f cd A outer s₀ H₀ E with calm:=l,pn:=pn } r U H s) (p:H x=some (.ext φ)) (J:s.heap.get? x=some oe) (i:oe.data = .fields vs) (h1:vs[1]?=some .none) (h0:vs[0]?=some a0) (Nv:c=true->jd oe) (vL:∀ o,s₀.heap.get? x≠some o) (B:E' oe.cls oe.dict (gQ H x)) :
   ({ dh (Ca c P w) P w K mg base N qual scope f cd A outer s₀ H₀ E with calm:=l,pn:=pn }:Cx).xe (.ref x) s:=by
 have L1:(envOfC qual scope s₀.heap.objs.size f cd).frame=some s₀.heap.objs.size:=rfl
 have fr:=I.ok.frames
 have st:=I.stack
 have ab:x∉f8 (envOfC qual scope s₀.heap.objs.size f cd::outer):=λ z=>by have:=I.nY x z;rw [p] at this;cases this
 have Y:∀ env∈(envOfC qual scope s₀.heap.objs.size f cd::outer),∀ b,env.frame=some b->b∈x::f8 (envOfC qual scope s₀.heap.objs.size f cd::outer):=λ env B b h=>aao _ (acp.mpr ⟨env,B,h⟩)
 have T:∀ b o,s.heap.get? b=some o->b≠x->b∉f8 (envOfC qual scope s₀.heap.objs.size f cd::outer)->(W.hideAll s.heap (x::f8 (envOfC qual scope s₀.heap.objs.size f cd::outer))).get? b=some o:=λ b o e C n2 =>
   mY e λ z=>(aaa.mp z).elim C n2
 show wpAny _ _ (leaving _ _) _ _ _
 refine aau (gb (jT _ _) (wpAny_leaving_firstW (E:=λ Z Z=>False) (Q:=λ Z S=>∃ k,S={ s with heap:=k }/\Heap.FlyingW (W.hideAll s.heap (x::f8 (envOfC qual scope s₀.heap.objs.size f cd::outer))) outer x oe.cls a0 k/\s.heap.UpToSlots k)
   (base:=W.hideAll s.heap (x::f8 (envOfC qual scope s₀.heap.objs.size f cd::outer))) (a0:=a0) fr (W.funFrames_hide st Y) L1 J (λ b o q=>acA _ q) (adY _ (.head _)) i h1 h0 λ h' hL=>?_)) (λ Z S z=>?_) λ Z Z z=>z.1.elim
 . obtain ⟨k1,⟨Z,Z,k2⟩,k3,k4⟩:=hL
   exact ⟨h',rfl,⟨k1,adY _ (.head _),k2,k3⟩,k4⟩
 obtain ⟨⟨k,rfl,v,X⟩,dk⟩:=z
 have M:∀ b o,s₀.heap.get? b=some o->b∉f8 outer->b∉f8 (envOfC qual scope s₀.heap.objs.size f cd::outer):=λ b o e n hm=>by
   rcases aaa.mp (show b∈s₀.heap.objs.size::f8 outer from hm) with z|z
   . exact absurd (aag e) (by rw [z];exact aa8 _)
   . exact n z
 have j:∀ b o,s₀.heap.get? b=some o->b≠x:=λ b o e z=>vL o (z ▸ e)
 have G:∀ b o,s.heap.get? b=some o->b≠x->b∉f8 (envOfC qual scope s₀.heap.objs.size f cd::outer)->k.get? b=some o:=λ b o e C n=>v.1 b o (T b o e C n)
 have F:∀ b∈f8 outer,∃ o,s.heap.get? b=some o/\∀ vs,o.data ≠ .fields vs:=λ b h=>(I.ok.jq.mem h).2 |> λ ⟨o,e,i⟩=>by
   obtain ⟨sl,a⟩:=I.base.slot b o e (I.ok.BH b h) h (by intro z;exact absurd (show b∈([]:cM) from z) (by simp))
   exact ⟨_,a,i⟩
 have V:∀ b u,gQ H x b=some u->∃ o,(W.hideAll s.heap (x::f8 (envOfC qual scope s₀.heap.objs.size f cd::outer))).get? b=some o:=λ b u e=>by
   obtain ⟨n,e⟩:=ur e
   have nf:b∉f8 (envOfC qual scope s₀.heap.objs.size f cd::outer):=λ z=>by rw [I.nY b z] at e;cases e
   obtain ⟨o,q⟩:=CS I.ck e
   exact ⟨o,T b o q n nf⟩
 refine ⟨x,oe.cls,gQ H x,rfl,⟨I.os,I.bare,?_,vV (CT I.ck p) v.1 (λ b o q=>acA _ q) V,_,_,v,?_,V⟩,oe.dict,XD.kept dk ⟨_,J,rfl,Nv⟩,hE _ _ _ B⟩
 .
  refine ⟨λ b o e n h Z=>G b o (I.base.keep b o e n h (by simp [dh])) (j b o e) (M b o e h),λ b o e n h Z=>?_,λ b o e n Z=>by rw [fC (j b o e)];exact I.base.free b o e n (by simp [dh]),λ b o e Z=>?_,λ b xs q=>?_,λ b ob u q=>?_,λ b ps q=>?_⟩
  .
   obtain ⟨sl,g⟩:=I.base.slot b o e n h (by simp [dh])
   obtain ⟨D,a,i⟩:=F b h
   rw [g] at a
   cases a
   obtain ⟨L,t⟩:=X b _ g i
   exact ⟨L,t⟩
  .
   obtain ⟨O,g⟩:=I.base.there b o e (by simp [dh])
   by_cases h:b∈f8 outer
   . obtain ⟨D,a,i⟩:=F b h
     obtain ⟨L,t⟩:=X b _ a i
     exact ⟨_,t⟩
   . exact ⟨O,G b O g (j b o e) (M b o e h)⟩
  . have z:=I.base.mX b xs q
    rw [fC (λ y=>by rw [y,p] at z;cases z)];exact z
  . have z:=I.base.mO b ob u q
    rw [fC (λ y=>by rw [y,p] at z;cases z)];exact z
  . obtain ⟨m,z⟩:=I.base.nu b ps q
    exact ⟨m,by rw [fC (λ y=>by rw [y,p] at z;cases z)];exact z⟩
 .
  intro b o e h O R
  obtain ⟨D,g⟩:=I.base.there b o e (by simp [dh])
  have a:=G b D g (j b o e) (M b o e h)
  rw [a] at R
  cases R
  exact T b _ g (j b o e) (M b o e h)
def QS {p:List (ag×Obj)} {s:Shared} {x C t:ag} {D:Option ag} (a:∀ cls d H,E' cls d H->E cls d H) (I:Inv (dh (Dy P w) P w K mg base N qual scope f cd A outer s₀ H₀ E) p U H s) (h:H x=some (XO x C t D)) (v:∀ o,s₀.heap.get? x≠some o) (b:E' (.ref C) D (gQ H x)):(dh (Dy P w) P w K mg base N qual scope f cd A outer s₀ H₀ E).xe (.ref x) s :=
 Pk a I h (I.ck x _ h).1 rfl rfl rfl (λ Z=>⟨_,rfl,rfl⟩) v b
end
structure Jv (K:aC) (C fI:ag) (mT:aU) (newId:String):Prop where
 ex:∀ h:aO,K.In h->∃ bm N nm q bs hdct sn sub ab col dd k0 k1 k2 k3 k5 mN,h.get? C=some (excClassObj nm q C N bs bm hdct sn sub ab col dd k0 k1 k2 k3 k5 newId)/\h.Ns N mN/\mN "__init__" = some (.ref fI)/\OwnTail h mT bm
 fn:∀ h:aO,K.In h->∃ oI,h.get? fI=some oI/\oI.cls = .type "function"
def LN (X:Cx) (E:XK):Prop:=∀ (p:List (ag×Obj)) (U:St) (H:Hp) (s:Shared) (x C t:ag) (d:Option ag),Inv X p U H s->H x=some (XO x C t d)->(∀ o,X.s₀.heap.get? x=some o->x∈X.ex)->E (.ref C) d (gQ H x)->X.xe (.ref x) s
section
variable {P:bh} {w:bf} {K:aC} {mg:bR} {base:aO} {N:bN} {qual:Str} {scope:Scope} {f:ag} {cd:aq} {A:Around} {outer:List Env} {s₀:Shared} {H₀:Hp} {E E':XK}
def IF (h:∀ cls d H,E' cls d H->E cls d H):LN (dh (Dy P w) P w K mg base N qual scope f cd A outer s₀ H₀ E) E':=λ p U H s x C t D I c b a =>
 QS h I c (λ o q=>absurd (show x∈([]:cM) from b o q) (by simp)) a
end
section
variable {X:Cx} {k:Nat} {fd:FuncData} {ps:bN} {sp:Sp}
def Cm (C:ag) (E:XK) (s:Sp) (t:TA):TS:=λ Z U H=>t U H λ V h=>V.length<=sizeLine/\∀ x t,h x=none->s (.ref x::V) (upd h x (XO x C t none)) (λ v a=>v = .bL/\∃ d,a x=some (XO x C t d)/\E (.ref C) d (gQ a x)) E0
def Dr {c:Str} {C fI:ag} {B gj:String} {mT:aU} {newId:String} {rest:List Expr} {M:Pos} {t:TA} (hc:X.calm=true) (Q:ExcBaseFacts B newId gj mT) (hm:X.mg c=some (.ref C)) (q:Jv X.K C fI mT newId) (F:iN X.prog X.w X.K X.mg X.base qj k fI fd ps sp) (hr:cA (k+1) X.A) (hb:Binds X.K fd ps []) (th:LN X E) (ha:PA X (e₀::rest) t) (hg:autoParam (Gl X c) za_._auto_1) (hd:autoParam ((c == ("__debug__" : Str))=false) zb_._auto_1) (he:autoParam (starEach (e₀::rest) X.env=(false,eval e₀ X.env)::starEach rest X.env) za_._auto_1) (gm:autoParam ((backTo c6 (starEach rest X.env)).any (·.1)=false) za_._auto_1) :
   PS X (.Raise (some (.Call (.Name c np) (e₀::rest) [] c6)) none M) (Cm C E sp t):=by
 intro f s U H D I h
 obtain ⟨tl,N,nm,qn,bs,b,sn,S,ab,j,dd,k0,k1,k2,k3,k5,mN,hC,hN,hi,T⟩:=q.ex _ I.ok.mod.Bu
 obtain ⟨oI,MG,Na⟩:=q.fn _ I.ok.mod.Bu
 refine xc (C:=C) (nm:=nm) (q:=qn) (N:=N) (bs:=bs) (bm:=tl) (hdct:=b) (sn:=sn) (sub:=S) (ab:=ab) (col:=j) (dd:=dd) (k0:=k0) (k1:=k1) (k2:=k2) (k3:=k3) (k5:=k5)
   Q (mN:=mN) (fI:=fI) (T.hasType Q.hasBase) (I.ok.hd hc) (by rw [he];show (false || (backTo c6 (starEach rest X.env)).any (·.1))=false;rw [gm];rfl) hi (ia I hg hm ⟨rfl,?_⟩ hd)
 have hA:=ha c6 f s U H _ I h
 rw [he] at hA |-
 refine ab4 (aau hA (λ g s2 ⟨vs,H2,i,r2,hz,q2⟩=>⟨rfl,by rw [<- r2.length];exact hz,i.bk _ _ hC,hN.keeps i.bk,T.keeps i.bk,⟨oI,i.bk _ _ MG,Na⟩,λ h' x l L=>?_⟩) λ _ _ y=>y)
 obtain ⟨m,R,_,_⟩:=L.there
 have n:=i.laid (a:=x) (o:=XO x C m none) (h':=h') (t':=s2.toks) L.keeps l ⟨R,⟨_,R⟩,λ h1 h2 p z=>z _ p⟩
 have hq:=q2 x m (i.ck.fresh l)
 have r3:Vals (V.ref x::vs) (Value.ref x::g):=.cons rfl r2
 have hl:(Value.ref x::g++[]).length=ps.length:=by
   have e:=r3.length
   rw [F.len _ _ _ _ hq] at e
   rw [aaT]
   exact e.symm
 have W:=hb _ (Value.ref x::g) n.jy hl
 rw [aaT] at W
 refine abX (abT (F.run _ X.stack _ _ ⟨Value.ref x::g,[]⟩ (Value.ref x::g) _ _ E0 (hr.make C g []) (n.Bb.make C g []) W r3 hq) λ r s' G=>?_)
 cases r with
 | error e=>exact False.elim G
 | ok fl =>
   cases fl with
   | ret u =>
     obtain ⟨v,H',J,rv,ev,d,O,hE⟩:=n.after G
     subst ev
     refine ⟨rv,J.bk _ _ hC,⟨m,d,(J.ck x _ O).1⟩,th f U H' s' x C m d J O (λ o z=>?_) hE⟩
     by_cases Y:x∈X.ex
     . exact Y
     . obtain ⟨o',e'⟩:=i.base.there x o z Y
       rw [L.new] at e'
       cases e'
   | next=>exact False.elim G
   | brk=>exact False.elim G
   | cont=>exact False.elim G
end
def Ia {K:aC} {h:aO} {N:ag} {m:bR} {n:Str} {v:aq} (X:K.In h) (G:h.Ns N m) (e:W.nsIn K N n=some (some v)):m n=some v:=by
 obtain ⟨o,a,k,i,H,_,g⟩:=G
 unfold W.nsIn at e
 split at e
 .
  rename_i c d R l sl q
  have E:=X _ _ q
  rw [i] at E
  cases E
  cases H
  rw [<- g]
  have f:nsFind a n=(a.toList.find? λ x=>x.key.isStr n).map (·.val):=by
    unfold nsFind findBy
    rw [<- ad7]
  rw [f]
  split at e
  . rename_i j b
    rw [b]
    cases e
    rfl
  . split at e<;>cases e
 . cases e
def vv (K:aC) (C f:ag) (m:aU) (newId:String):Bool:=(K.lookup C).any λ o=>decide (o.cls = .type "type") &&
 match o.data with
 | .cls c=>decide (c.mro = .ref C::c.mro.tail) && decide (o.slots.size=6) && decide (o.slots[4]?=some (some (.builtin newId))) && !c.hasDel && W.tailIn K m c.mro.tail && W.nsOkIn K c.ns && decide (W.nsIn K c.ns "__init__" = some (some (.ref f)))
 | _=>false
@[elab_as_elim] theorem c8 {α:Type} {motive:List α->Prop} {n:Nat} {us:List α} (h:us.length=n+1) (k:∀ a t,t.length=n->motive (a::t)):motive us:=by
 cases us with
 | nil=>cases h
 | cons a t=>exact k a t (Nat.succ.inj h)
def uO {b:Type} {n:Nat} {l:List b} (h:l.length=n+1):∃ a t,l=a::t/\t.length=n:=c8 h λ a t h=>⟨a,t,rfl,h⟩
def Jp {K:aC} {C f:ag} {M:aU} {newId:String} (q:vv K C f M newId=true) (w:W.typeIn K (.ref f)=some (.type "function")):Jv K C f M newId where
 ex:=λ h X=>by
   unfold vv at q
   cases H:K.lookup C with
   | none=>rw [H] at q;cases q
   | some o =>
     rw [H] at q
     obtain ⟨cls,D,data,sl⟩:=o
     simp only [Option.any_some,aaw,aaR] at q
     obtain ⟨rfl,q⟩:=q
     cases data with
     | cls p =>
       obtain ⟨O,B,m,Q,S,v,T,s,A,c,r⟩:=p
       simp only [aaw,aaR,acw] at q
       obtain ⟨⟨⟨⟨⟨⟨x,a⟩,t⟩,rfl⟩,y⟩,e⟩,g⟩:=q
       obtain ⟨l⟩:=sl
       obtain ⟨F,l,rfl,i⟩:=uO (n:=5) (l:=l) a
       obtain ⟨G,l,rfl,k⟩:=uO (n:=4) (l:=l) i
       obtain ⟨I,l,rfl,R⟩:=uO (n:=3) (l:=l) k
       obtain ⟨J,l,rfl,z⟩:=uO (n:=2) (l:=l) R
       obtain ⟨L,l,rfl,b⟩:=uO (n:=1) (l:=l) z
       obtain ⟨N,l,rfl,d⟩:=uO (n:=0) (l:=l) b
       obtain rfl:=acy.mp d
       have j:L=some (.builtin newId):=by simpa using t
       subst j
       have E:=X _ _ H
       rw [x] at E
       exact ⟨m.tail,Q,O,S,B,v,T,s,A,c,D,F,G,I,J,N,_,E,.of_isNs (W.isNs_of_in X e),Ia X (.of_isNs (W.isNs_of_in X e)) g,W.tail_of_in X y⟩
     | _=>cases q
 fn:=λ h X=>by
   obtain ⟨o,H,u⟩:=adF.mp (show (K.lookup f).map (·.cls)=some (.type "function") from w)
   exact ⟨o,X _ _ H,u⟩
section
variable {X:Cx} {x:Str} {pos:Pos}
def fe {i:Int} (a:Gl X x) (h:∃ t,X.mg x=some (.int i t)) (H:autoParam (wO x) zb_._auto_1):PE X (.Name x pos) (tC (.int i)):=by
 obtain ⟨t,h⟩:=h
 exact cK a h ⟨t,rfl⟩ H
end
def zT (K:aC) (a:ag) (xs:aA):Prop :=
 ∃ (o:Obj) (b:Array aq) (n:Nat),K.lookup a=some o/\o.cls = .type "tuple"/\o.data = .seq b n/\b.size<=sizeLine/\Vals xs b.toList
def zT.at {K:aC} {a:ag} {xs:aA} (h:zT K a xs) (H:Hp):cH K H a xs:=.inr h
def KU {K:aC} {a:ag} {dd:Option ag} {n:Nat} {sl:Array (iO)} {i j:Int} {t u:Tok} (h:K.lookup a=some ⟨.type "tuple",dd,.seq #[.int i t,.int j u] n,sl⟩):zT K a [.int i,.int j] :=
 ⟨_,_,_,h,rfl,rfl,by show 2<=sizeLine;decide,.cons ⟨t,rfl⟩ (.cons ⟨u,rfl⟩ .nil)⟩
def Bi (K:aC) (T:ag) (f:aA):Prop:=∃ o n i,K.lookup T=some o/\o.data = .seq i n/\Vals f i.toList
structure mG (K:aC) (x qual:Str) (st:Stmt) (dV:aq) (f:ag) (fd:FuncData):Prop where
 ex:∃ (oc:aq) (od:Option ag) (kV doc pm:aq) (an:Option ag) (aW ct:aq) (qz:Array (iO)),
   fd=W.fnOf x qual (cg st) (bg st) (ak st) dV kV doc pm an aW ct/\K.lookup f=some ⟨oc,od,.func fd,qz⟩/\W.codeIn K aW qual=true
 kp:W.keepIn K (.ref f)=true
def wA {K:aC} {x q:Str} {st:Stmt} {f:ag} {o:aq} {O A:Option ag} {Q:Array (iO)} {D kV d p a ct:aq} (l:K.lookup f=some ⟨o,O,.func (W.fnOf x q (cg st) (bg st) (ak st) D kV d p A a ct),Q⟩) (c:W.codeIn K a q=true) (k:W.keepIn K (.ref f)=true):mG K x q st D f (W.fnOf x q (cg st) (bg st) (ak st) D kV d p A a ct):=⟨⟨o,O,kV,d,p,A,a,ct,Q,rfl,l,c⟩,k⟩
section
variable {P:bh} {w:bf} {K:aC} {mg:bR} {base:aO} {x qual m:Str} {st:Stmt} {dV:aq} {f C:ag} {fd:FuncData} {N ps:bN} {k:Nat} {sp:Sp} {ds:aU}
def mG.ok (F:mG K x qual st dV f fd) (S:az N ps (ak st)) (len:∀ vs H Q E,sp vs H Q E->vs.length=ps.length) (c:∀ (a:aq) (A:Around) (outer:List Env) (s:Shared) (H:Hp) (vs:aA) (Q:VK) (E:XK),cA k (A.deeper (envOfC qual (ak st) s.heap.objs.size f a))->sp vs H Q E ->
     ∃ t,l8 (dh qj P w K mg base N qual (ak st) f a A outer s H E).sS (bg st) t/\t { nx:=λ Z H'=>Q .bL H',rt:=Q } (start N vs) H):iN P w K mg base qj (k+1) f fd ps sp:=by
 obtain ⟨o,O,kV,d,p,e,a,ct,g,rfl,l,j⟩:=F.ex
 refine FJ l j S len λ A outer s H vs Q E b z=>?_
 obtain ⟨t,h,q⟩:=c a A outer s H vs Q E b z
 exact ⟨t,h.sS,q⟩
def mG.binds {T:ag} {o:Obj} {n:Nat} {i:Array aq} (F:mG K x qual st (.ref T) f fd) (c:K.lookup T=some o) (g:o.data = .seq i n) (h:∀ (kV d p:aq) (A:Option ag) (a ct:aq) (us:aU),(us++ds).length=ps.length->∃ k,bindArgs (W.fnOf x qual (cg st) (bg st) (ak st) (.ref T) kV d p A a ct) ⟨us,[]⟩=seqItems? (.ref T) >>= k/\k (some i)=pure (ps.zip (us++ds))):Binds K fd ps ds:=by
 obtain ⟨O,m,kV,d,p,A,a,ct,q,rfl,l,j⟩:=F.ex
 intro s us X e
 obtain ⟨k,H,b⟩:=h kV d p A a ct us e
 exact W.binds_K X rfl c g H b
def mG.vd (F:mG K x qual st .none f fd) (h:∀ (kV d p:aq) (A:Option ag) (a ct:aq) (us:aU),us.length=ps.length->bindArgs (W.fnOf x qual (cg st) (bg st) (ak st) .none kV d p A a ct) ⟨us,[]⟩=pure (ps.zip us)):Binds K fd ps []:=by
 obtain ⟨o,O,kV,d,p,A,a,ct,q,rfl,l,j⟩:=F.ex
 exact .all (h kV d p A a ct)
def eP (K:aC) (C:ag) (m q:Str) (st:Stmt) (d:aq):Prop:=∃ f fd,Meth K C m f/\mG K m q st d f fd
def iK (P:bh) (w:bf) (K:aC) (M:bR) (base:aO) (C:ag) (m:Str) (k:Nat) (p:bN) (d:aU) (s:Sp):Prop :=
 ∃ f fd,Meth K C m f/\Binds K fd p d/\iN P w K M base qj k f fd p s
def eP.Ji (h:eP K C m qual st .none) (S:az N ps (ak st)) (len:∀ vs H Q E,sp vs H Q E->vs.length=ps.length) (e:∀ (kV d p:aq) (b:Option ag) (a ct:aq) (us:aU),us.length=ps.length->bindArgs (W.fnOf m qual (cg st) (bg st) (ak st) .none kV d p b a ct) ⟨us,[]⟩=pure (ps.zip us)) (c:∀ (f:ag) (a:aq) (A:Around) (outer:List Env) (s:Shared) (H:Hp) (vs:aA) (Q:VK) (E:XK),cA k (A.deeper (envOfC qual (ak st) s.heap.objs.size f a))->sp vs H Q E ->
     ∃ t,l8 (dh qj P w K mg base N qual (ak st) f a A outer s H E).sS (bg st) t/\t { nx:=λ Z H'=>Q .bL H',rt:=Q } (start N vs) H):iK P w K mg base C m (k+1) ps [] sp:=by
 obtain ⟨f,fd,M,F⟩:=h
 exact ⟨f,fd,M,F.vd e,F.ok S len λ a A outer s H vs Q E g i=>c f a A outer s H vs Q E g i⟩
structure Ja (K:aC) (C:ag):Prop where
 makes:W.makesIn K C=true
 kp:W.keepIn K (.ref C)=true
def Jo (K:aC) (m:bR) (x:Str) (st:Stmt) (d:aq):Prop:=∃ f fd,m x=some (.ref f)/\mG K x x st d f fd
def Ou (P:bh) (w:bf) (K:aC) (m:bR) (base:aO) (x:Str) (k:Nat) (p:bN) (d:aU) (s:Sp):Prop :=
 ∃ f fd,m x=some (.ref f)/\W.keepIn K (.ref f)=true/\Binds K fd p d/\iN P w K m base qj k f fd p s
end
section
variable {X:Cx} {C:ag} {m x:Str} {p pos apos:Pos} {e o:Expr} {es:List Expr} {ta:TE} {t:TA} {k:Nat} {ps:bN} {sp:Sp} {ds:aU} {fD:aA}
def bv {pl:Sem Bool} (b:PE X o ta) (c:tH X.K C) (D:iK X.prog X.w X.K X.mg X.base C m k ps ds sp) (a:Vals fD ds) (i:cA k X.A) (h:PA X (e::es) t) (G:autoParam (zu X e es) za_._auto_1) (g:autoParam (wP X es pos) za_._auto_1) (j:autoParam (eval (.Call (.Attribute o m apos) (e::es) [] pos) X.env=(do
     let O <- eval o X.env
     standAt apos.atName
     let (f,first) <- holding [O] (getMethod O m pl)
     callWith pos f first (backTo pos (starEach (e::es) X.env)) (backToKw pos (keywordEach [] X.env)))) za_._auto_1) :
   PE X (.Call (.Attribute o m apos) (e::es) [] pos) (pJ C m sp fD E0 ta t):=by
 obtain ⟨f,l,d,H,F⟩:=D
 exact BB (pl:=pl) b c d F i H a yk h G g j
def dS {pl:Sem Bool} (a:PE X o ta) (c:tH X.K C) (D:iK X.prog X.w X.K X.mg X.base C m k ps ds sp) (H:Vals fD ds) (d:cA k X.A) (e:autoParam (eval (.Call (.Attribute o m apos) [] [] pos) X.env=(do
     let O <- eval o X.env
     standAt apos.atName
     let (f,first) <- holding [O] (getMethod O m pl)
     callWith pos f first (backTo pos (starEach [] X.env)) (backToKw pos (keywordEach [] X.env)))) za_._auto_1) :
   PE X (.Call (.Attribute o m apos) [] [] pos) (pJ C m sp fD E0 ta Dt):=by
 obtain ⟨f,g,b,h,F⟩:=D
 exact G5 (pl:=pl) a c b F d h H yk e
def yd (M:Ja X.K C) (D:iK X.prog X.w X.K X.mg X.base C "__init__" k ps ds sp) (a:Vals fD ds) (i:cA (k+1) X.A) (d:X.mg x=some (.ref C)) (h:PA X (e::es) t) (c:autoParam (Gl X x) za_._auto_1) (q:autoParam (wO x) zb_._auto_1) (b:autoParam (zu X e es) za_._auto_1) (g:autoParam (wP X es pos) za_._auto_1):PE X (.Call (.Name x p) (e::es) [] pos) (Fn C sp fD E0 t):=by
 obtain ⟨f,j,m,H,F⟩:=D
 exact JM ⟨M.makes,m.at_,m.fn,M.kp⟩ F i c d H a yk h q b g
def DE (D:Ou X.prog X.w X.K X.mg X.base x k ps ds sp) (a:Vals fD ds) (j:cA k X.A) (h:PA X (e::es) t) (c:autoParam (Gl X x) za_._auto_1) (q:autoParam (wO x) zb_._auto_1) (b:autoParam (zu X e es) za_._auto_1) (g:autoParam (wP X es pos) za_._auto_1):PE X (.Call (.Name x p) (e::es) [] pos) (BF sp fD E0 t):=by
 obtain ⟨f,l,i,d,H,F⟩:=D
 exact BQ F j c i d H a yk h q b g
end
section
variable {X:Cx} {pins:List (ag×Obj)} {U:St} {H:Hp} {s:Shared} {h':aO} {ch:cM}
def Inv.vy {a:ag} {t':Nat} (I:Inv X pins U H s) (k:∀ b u,b∉ch->s.heap.get? b=some u->h'.get? b=some u) (e:∀ b∈ch,tW X pins H b) (g:s.heap.objs.size<=a) (N:c5 X.prog X.w (upd H a o) h' a o):Inv X pins U (upd H a o) { s with heap:=h',toks:=t' }:=by
 have f:H a=none:=I.ck.fresh g
 refine I.step (g':=s.gens) (d':=s.drawn) (ch:=ch) (λ b d=>⟨(e b d).2.2.2.1,(e b d).2.1,(e b d).2.2.2.2.1,(e b d).2.2.2.2.2⟩) (λ b u Z Z h q Z=>k b u h q) (λ b u Z Z h q Z=>⟨u.slots,k b u h q⟩)
   (λ b u Z q n=>by rw [aG (aas (aam (aag q) g))];exact n) (λ b u h q=>⟨u,k b u h q⟩) (λ b x q=>by rw [aG (aD q f)];exact q) (λ b u x q=>by rw [aG (aD q f)];exact q)
   (λ b p q=>⟨#[],by rw [aG (aD q f),q];simp⟩) (λ m j=>?_) (λ b u q=>?_) I.bare
 . obtain ⟨O,i,E,l,r⟩:=j
   exact ⟨O,i,E,k _ O (λ z=>(e _ z).2.1 rfl) l,r⟩
 .
  by_cases d:b=a
  . subst d
    rw [ai] at q
    cases q
    exact N
  .
   rw [aG d] at q
   refine (I.ck b u q).gE (λ c v h z=>k c v (λ y=>?_) z) (λ c z=>by rw [aG (aD z f)];exact z) λ c x z=>by rw [aG (aD z f)];exact z
   have n:=(e c y).1
   rcases h with rfl|h
   . rw [n] at q;cases q
   . rw [n] at h;cases h
def Inv.vI {t':Nat} (I:Inv X pins U H s) (k:∀ b u,b∉ch->s.heap.get? b=some u->h'.get? b=some u) (a:∀ b∈ch,tW X pins H b):Inv X pins U H { s with heap:=h',toks:=t' }:=by
 refine I.step (g':=s.gens) (d':=s.drawn) (ch:=ch) (λ b d=>⟨(a b d).2.2.2.1,(a b d).2.1,(a b d).2.2.2.2.1,(a b d).2.2.2.2.2⟩) (λ b u Z Z h q Z=>k b u h q) (λ b u Z Z h q Z=>⟨u.slots,k b u h q⟩)
   (λ Z Z Z Z n=>n) (λ b u h q=>⟨u,k b u h q⟩) (λ Z Z q=>q) (λ Z Z Z q=>q) (λ b p q=>⟨#[],by rw [q];simp⟩) (λ m f=>?_) (λ b u q=>?_) I.bare
 . obtain ⟨o,E,e,g,r⟩:=f
   exact ⟨o,E,e,k _ o (λ z=>(a _ z).2.1 rfl) g,r⟩
 .
  refine (I.ck b u q).gE (λ c v h z=>k c v (λ y=>?_) z) (λ Z z=>z) λ Z Z z=>z
  have n:=(a c y).1
  rcases h with rfl|h
  . rw [n] at q;cases q
  . rw [n] at h;cases h
end
def NY (K:aC) (a b:ag):It :=
 ⟨λ i H=>∃ X Y x y,bw K H a X/\bw K H b Y/\X[i]?=some x/\Y[i]?=some y,
  λ i H v H'=>∃ p x y,H p=none/\v = .ref p/\H'=upd H p (.tup [x,y])/\(∀ X,bw K H a X->X[i]?=some x)/\∀ Y,bw K H b Y->Y[i]?=some y,
  λ i H=>∃ X Y,bw K H a X/\bw K H b Y/\(X.length<=i\/Y.length<=i)⟩
def Fs (z TI TO I c a b:ag) (i:Nat) (h:aO):Prop:=IsZip h z TI TO .none/\IsPair h TI (.ref I) (.ref c)/\(∃ u v,IsPair h TO u v)/\h.IsListIter I a i/\h.IsListIter c b i
def Fs.obj {z TI TO I d a b:ag} {h:aO} (st:Fs z TI TO I d a b i h):∀ c∈[z,TI,TO,I,d],∃ o,h.get? c=some o/\∀ v,o.data ≠ .cell v:=λ c H=>by
 obtain ⟨g,K,⟨u,v,M⟩,⟨O,E,Z,D⟩,⟨j,f,Z,e⟩⟩:=st
 simp only [aaa,aae,aaX] at H
 rcases H with rfl|rfl|rfl|rfl|rfl
 . exact ⟨_,g,λ v q=>by cases q⟩
 . exact ⟨_,K,λ v q=>by cases q⟩
 . exact ⟨_,M,λ v q=>by cases q⟩
 . exact ⟨O,E,λ v q=>by rw [D] at q;cases q⟩
 . exact ⟨j,f,λ v q=>by rw [e] at q;cases q⟩
def EN {P:bh} {w:bf} {K:aC} {z TI TO f g a b:ag} (D:ZipApart z TI TO f g a b) :
   Turn P w K (.Tuple elts x1 qc) (NY K a b) [z,TI,TO,f,g] z (Fs z TI TO f g a b) where
 mem:=by simp
 obj:=λ i h S=>S.obj
 keep:=λ i h C S k=>by
   obtain ⟨p,j,⟨u,v,M⟩,m,n⟩:=S
   exact ⟨k z (by simp) _ p,k TI (by simp) _ j,⟨u,v,k TO (by simp) _ M⟩,m.at λ o e=>k f (by simp) o e,n.at λ o e=>k g (by simp) o e⟩
 item:=by
   intro X G N F hc i q s U H E I A S J
   subst G N F
   obtain ⟨xs,ys,x,y,t,r,hx,hy⟩:=J
   obtain ⟨LX,R,O,KE⟩:=I.list t
   obtain ⟨DR,Q,T,Rm⟩:=I.list r
   obtain ⟨u1,L,V⟩:=R.get hx
   obtain ⟨u2,SK,Y⟩:=Q.get hy
   have lt:∀ c∈[z,TI,TO,f,g],c<s.heap.objs.size:=λ c W=>by
     obtain ⟨o,e,Z⟩:=S.obj c W
     exact aag e
   obtain ⟨p,j,⟨u,v,M⟩,m,n⟩:=S
   refine wpAny_pyNext_zip_item D p j M m n O.isList T.isList (x:=u1) (y:=u2) (by simpa using L) (by simpa using SK) λ C z1 z2 z3 z4 z5 z6 B=>?_
   refine ⟨.ref s.heap.objs.size,rfl,wpAny_letOwnedTupleGo_zip (s:={ s with heap:=C }) z1 λ XA zz l=>?_⟩
   have Fe:∀ c o,c∉[z,TI,TO,f,g]->s.heap.get? c=some o->XA.get? c=some o:=λ c o d e=>by
     simp only [aaa,aae,aaX,acG] at d
     exact l.extBut _ _ d.1 (B c o d.1 d.2.2.1 d.2.2.2.1 d.2.2.2.2 e)
   have nz:s.heap.objs.size≠z:=acK (lt z (by simp))
   have n5:IsPair XA s.heap.objs.size u1 u2:=l.extBut _ _ nz z5
   refine ⟨.ref s.heap.objs.size,upd H s.heap.objs.size (.tup [x,y]),I.vy (t':=s.toks) Fe A (aac _) ⟨by show 2<=sizeLine;decide,[u1,u2],.cons V (.cons Y .nil),⟨_,n5,rfl,_,rfl⟩⟩,rfl,
     ⟨_,x,y,I.ck.fresh (aac _),rfl,rfl,λ Ym h=>by rw [I.nE h t];exact hx,λ ab h=>by rw [I.nE h r];exact hy⟩,?_,λ c W=>?_⟩
   . exact ⟨zz,l.extBut _ _ D.TIz (B _ _ D.TIz D.TITO D.TIi1 D.TIi2 j),⟨_,_,l.extBut _ _ D.TOz z2⟩,z3.extBut l.extBut D.i1z,z4.extBut l.extBut D.i2z⟩
   . rw [aG (aas (lt c W))]
     exact (A c W).1
 done:=by
   intro X G N F hc i q s U H E I A S J
   subst G N F
   obtain ⟨xs,ys,t,r,hl⟩:=J
   obtain ⟨LX,R,O,KE⟩:=I.list t
   obtain ⟨DR,Q,T,Rm⟩:=I.list r
   have l1:=R.length
   have l2:=Q.length
   obtain ⟨p,j,⟨u,v,M⟩,m,n⟩:=S
   have SH:LX.toArray[i]?=none\/DR.toArray[i]?=none:=by
     rcases hl with h|h
     . exact .inl (by simp;lia)
     . exact .inr (by simp;lia)
   refine wpAny_pyNext_zip_end (I.ok.hd hc) D p j M m n O.isList T.isList SH λ C B=>⟨rfl,I.vI (ch:=[z,TI,TO,f,g]) (t':=s.toks) (λ c o d e=>?_) A⟩
   simp only [aaa,aae,aaX,acG] at d
   exact B c o d.1 d.2.2.1 d.2.2.2.1 d.2.2.2.2 e
 self:=λ Z Z Z Z Z S h=>wpAny_pyIter_zip S.1 h
def Lx:bootBuiltins "zip" = some (.type "zip"):=by decide +kernel
section
variable {X:Cx}
def Ti (K:aC) (t:TA):TI:=λ U H R=>t U H λ v h=>∃ a b,v=[.ref a,.ref b]/\(∃ x,bw K h a x)/\(∃ y,bw K h b y)/\R (NY K a b) h
def Le {a b:Expr} {t:TA} {p g:Pos} (x:Gl X "zip") (y:X.mg "zip" = none) (w:PA X [a,b] t) (A:autoParam (starEach [a,b] X.env=[(false,eval a X.env),(false,eval b X.env)]) za_._auto_1) (E:autoParam (starEach [b] X.env=[(false,eval b X.env)]) za_._auto_1):PI X (.Tuple elts x1 qc) (.Call (.Name "zip" p) [a,b] [] g) (Ti X.K t):=by
 intro f s U H R I h
 refine Call_ (kF I x y Lx (aa7 (cO (w g f s U H _ I h) λ us S ⟨vs,m,i,F,Q⟩=>?_) (by rw [A,E]) (by rw [E];rfl)))
 obtain ⟨a,b,e,⟨xs,o⟩,⟨ys,n⟩,q⟩:=Q
 subst e
 obtain ⟨u,v,rfl,r,D⟩:=vals2 F
 obtain rfl:u=Value.ref a:=r
 obtain rfl:v=Value.ref b:=D
 obtain ⟨V,Y,k,T⟩:=i.list o
 obtain ⟨O,W,l,Rm⟩:=i.list n
 refine call_zip_2 k.isList l.isList λ h' z G J M N z6 B=>?_
 have L:a<S.heap.objs.size:=by obtain ⟨Z,e,Z⟩:=k.isList;exact aag e
 have C:b<S.heap.objs.size:=by obtain ⟨Z,e,Z⟩:=l.isList;exact aag e
 refine wpAny_pyIter_zip z ?_
 refine ⟨S.heap.objs.size+4,[S.heap.objs.size+4,S.heap.objs.size+2,S.heap.objs.size+3,S.heap.objs.size,S.heap.objs.size+1],_,_,m,rfl,i.kept (t':=S.toks) B,EN (zipApart_new L C),⟨z,G,⟨_,_,J⟩,M,N⟩,λ c j=>?_,q⟩
 have d:S.heap.objs.size<=c:=by
   simp only [aaa,aae,aaX] at j
   rcases j with rfl|rfl|rfl|rfl|rfl
   . exact abV _ _
   . exact abV _ _
   . exact abV _ _
   . exact aac _
   . exact abV _ _
 exact i.yF d (i.ck.fresh d)
end
def F2 {K:aC} {a b:ag} {xs ys:aA} {t:TT} {D:ag} {Q:Hp->Prop} (d:Nat->aA->St->Hp->Prop) (s:d 0 [] U H) (B:∀ i acc U H,i<=min xs.length ys.length->d i acc U H->bw K H a xs/\bw K H b ys) (F:∀ i x y p acc U H,xs[i]?=some x->ys[i]?=some y->H p=none->d i acc U H->g (.ref p) U (upd H p (.tup [x,y])) λ c l=>t c l λ k h =>
     if k=true then te c h λ v j=>j D=some (.lst acc)/\acc.length<sizeLine/\d (i+1) (acc++[v]) c (upd j D (.lst (acc++[v]))) else d (i+1) acc c h) (z:∀ acc U H,d (min xs.length ys.length) acc U H->Q H) :
   ∃ W:Nat->Nat->aA->St->Hp->Prop,(∃ m,W 0 m [] U H)/\∀ i m acc f H',W i m acc f H'->((NY K a b).stop i H'/\Q H') \/
     ((NY K a b).go i H'/\∃ N:aA->St->Hp->Prop,(∀ I c h,N I c h->∃ m',m'<m/\W (i+1) m' I c h)/\∀ x o,(NY K a b).Ey i H' x o->g x f o λ c l=>t c l λ k h =>
       if k=true then te c h λ y j=>j D=some (.lst acc)/\acc.length<sizeLine/\N (acc++[y]) c (upd j D (.lst (acc++[y]))) else N acc c h):=by
 refine ⟨λ i m acc U H=>m=min xs.length ys.length - i/\i<=min xs.length ys.length/\d i acc U H,⟨_,rfl,aaV _,s⟩,?_⟩
 rintro i m acc U H ⟨rfl,A,p⟩
 obtain ⟨q,n⟩:=B i acc U H A p
 by_cases G:i<min xs.length ys.length
 .
  have u:i<xs.length:=by lia
  have w:i<ys.length:=by lia
  refine .inr ⟨⟨xs,ys,xs[i],ys[i],q,n,by simp [u],by simp [w]⟩,d (i+1),λ I f H' J=>⟨min xs.length ys.length - (i+1),by lia,rfl,G,J⟩,λ v H' y=>?_⟩
  obtain ⟨L,x,y,C,rfl,rfl,E,r⟩:=y
  exact F i x y L acc U H (E xs q) (r ys n) C p
 . have e:i=min xs.length ys.length:=by lia
   subst e
   exact .inl ⟨⟨xs,ys,q,n,by lia⟩,z acc U H p⟩
mutual
def Dn (K:aC) (H:Hp):PyData->V->Prop
 | .none,v=>v = .bL
 | .bool b,v=>v = .bl b
 | .int i,v=>v = .int i
 | .str x,v=>v = .str x
 | .list d,v=>∃ a xs,v = .ref a/\bw K H a xs/\cn K H d xs
 | .tuple d,v=>∃ a xs,v = .ref a/\cH K H a xs/\cn K H d xs
 | .dict _,_=>False
def cn (K:aC) (H:Hp):List PyData->aA->Prop
 | [],xs=>xs=[]
 | d::D,xs=>∃ x r,xs=x::r/\Dn K H d x/\cn K H D r
end
mutual
def fO:PyData->Bool
 | .list _=>false
 | .dict _=>false
 | .tuple d=>oF d
 | _=>true
def oF:List PyData->Bool
 | []=>true
 | d::D=>fO d && oF D
end
@[simp] theorem L9:oF []=true:=rfl
@[simp] theorem zg {d:PyData} {ds:List PyData}:oF (d::ds)=(fO d && oF ds):=rfl
theorem sM:∀ {D:List PyData},oF D=true↔∀ d∈D,fO d=true
 | []=>⟨λ Z d h=>absurd h aae,λ Z=>rfl⟩
 | d::D=>by
   rw [zg,aaw,sM]
   constructor
   . rintro ⟨a,b⟩ e H
     rcases aaa.mp H with rfl|H
     . exact a
     . exact b e H
   . exact λ h=>⟨h d aaz,λ e H=>h e (aao _ H)⟩
def pK {D:List PyData}:fO (.tuple D)=true↔∀ d∈D,fO d=true:=sM
def cB (K:aC) (H h:Hp):Prop:=∀ a x,cH K H a x->cH K h a x
def cB.refl {K:aC} (H:Hp):cB K H H:=λ Z Z h=>h
def cB.trans {K:aC} {d H2:Hp} (a:cB K H d) (b:cB K d H2):cB K H H2:=λ c x h=>b c x (a c x h)
def aF.ts {K:aC} (s:aF H H'):cB K H H':=λ Z Z h=>s.tup h
def Ku:HO->Bool
 | .tup _=>false
 | .yz _ _=>false
 | _=>true
def fc {K:aC} {a:ag} {O:HO} (h:H a=some o) (n:Ku o=true):cB K H (upd H a O):=λ b x q=>by
 have N:∀ u,H b=some u->Ku u=false->b≠a:=λ u e z y=>by
   subst y
   rw [h] at e
   cases e
   rw [n] at z
   cases z
 rcases q with (q|⟨c,q⟩)|q
 . exact .inl (.inl (by rw [aG (N _ q rfl)];exact q))
 . exact .inl (.inr ⟨c,by rw [aG (N _ q rfl)];exact q⟩)
 . exact .inr q
section
variable {K:aC} {H H':Hp}
mutual
theorem Dn.same (s:aF H H'):∀ (d:PyData) {v:V},Dn K H d v->Dn K H' d v
 | .none,_,h=>by rw [Dn] at h |-;exact h
 | .bool _,_,h=>by rw [Dn] at h |-;exact h
 | .int _,_,h=>by rw [Dn] at h |-;exact h
 | .str _,_,h=>by rw [Dn] at h |-;exact h
 | .list D,_,h=>by
   rw [Dn] at h |-
   obtain ⟨a,xs,e,q,r⟩:=h
   exact ⟨a,xs,e,s.seq q,cn.same s D r⟩
 | .tuple D,_,h=>by
   rw [Dn] at h |-
   obtain ⟨a,xs,e,q,r⟩:=h
   exact ⟨a,xs,e,s.tup q,cn.same s D r⟩
 | .dict _,_,h=>by rw [Dn] at h;exact h.elim
theorem cn.same (s:aF H H'):∀ (D:List PyData) {xs:aA},cn K H D xs->cn K H' D xs
 | [],_,h=>by rw [cn] at h |-;exact h
 | d::D,_,h=>by
   rw [cn] at h |-
   obtain ⟨x,r,e,q,t⟩:=h
   exact ⟨x,r,e,Dn.same s d q,cn.same s D t⟩
end
mutual
theorem Dn.ts (s:cB K H H'):∀ (d:PyData) {v:V},fO d=true->Dn K H d v->Dn K H' d v
 | .none,_,_,h=>by rw [Dn] at h |-;exact h
 | .bool _,_,_,h=>by rw [Dn] at h |-;exact h
 | .int _,_,_,h=>by rw [Dn] at h |-;exact h
 | .str _,_,_,h=>by rw [Dn] at h |-;exact h
 | .list D,_,f,_=>by rw [fO] at f;cases f
 | .tuple D,_,f,h=>by
   rw [Dn] at h |-
   obtain ⟨a,xs,e,q,r⟩:=h
   exact ⟨a,xs,e,s _ _ q,cn.ts s D (pK.mp f) r⟩
 | .dict _,_,_,h=>by rw [Dn] at h;exact h.elim
theorem cn.ts (s:cB K H H'):∀ (D:List PyData) {xs:aA},(∀ d∈D,fO d=true)->cn K H D xs->cn K H' D xs
 | [],_,_,h=>by rw [cn] at h |-;exact h
 | d::D,_,f,h=>by
   rw [cn] at h |-
   obtain ⟨x,r,e,q,t⟩:=h
   exact ⟨x,r,e,Dn.ts s d (f d aaz) q,cn.ts s D (λ d a=>f d (aao _ a)) t⟩
end
theorem cn.length:∀ {D:List PyData} {xs:aA},cn K H D xs->xs.length=D.length
 | [],_,h=>by rw [cn] at h;rw [h];rfl
 | d::D,_,h=>by
   rw [cn] at h
   obtain ⟨x,r,rfl,Z,t⟩:=h
   rw [aav,aav,cn.length t]
theorem cn.get:∀ {D:List PyData} {xs:aA} {i:Nat} {d:PyData},cn K H D xs->D[i]?=some d->∃ x,xs[i]?=some x/\Dn K H d x
 | [],_,_,_,_,e=>by simp at e
 | _::_,_,0,_,h,e=>by
   rw [cn] at h
   obtain ⟨x,r,rfl,q,t⟩:=h
   simp at e
   subst e
   exact ⟨x,rfl,q⟩
 | _::D,_,i+1,d,h,e=>by
   rw [cn] at h
   obtain ⟨x,r,rfl,q,t⟩:=h
   obtain ⟨y,E,a⟩:=cn.get (i:=i) t (by simpa using e)
   exact ⟨y,by simpa using E,a⟩
theorem cn.snoc:∀ {D:List PyData} {xs:aA} {d:PyData} {x:V},cn K H D xs->Dn K H d x->cn K H (D++[d]) (xs++[x])
 | [],_,d,x,h,q=>by
   rw [cn] at h
   subst h
   exact ⟨x,[],rfl,q,rfl⟩
 | _::D,_,d,x,h,q=>by
   rw [cn] at h
   obtain ⟨y,r,rfl,Q,t⟩:=h
   exact ⟨y,r++[x],rfl,Q,cn.snoc t q⟩
theorem cn.set:∀ {D:List PyData} {xs:aA} {i:Nat} {d:PyData} {x:V},cn K H D xs->Dn K H d x->cn K H (D.set i d) (xs.set i x)
 | [],_,_,_,_,h,_=>by
   rw [cn] at h
   subst h
   exact rfl
 | _::_,_,0,d,x,h,q=>by
   rw [cn] at h
   obtain ⟨y,r,rfl,Q,t⟩:=h
   exact ⟨x,r,rfl,q,t⟩
 | _::D,_,i+1,d,x,h,q=>by
   rw [cn] at h
   obtain ⟨y,r,rfl,Q,t⟩:=h
   exact ⟨y,r.set i x,rfl,Q,cn.set t q⟩
def ip:cn K H [] []:=rfl
def bS {d:PyData} {D:List PyData} {x:V} {xs:aA} (a:Dn K H d x) (b:cn K H D xs):cn K H (d::D) (x::xs):=⟨x,xs,rfl,a,b⟩
def Fb {i:Int}:Dn K H (.int i) (.int i):=rfl
def gi {a:ag} {xs:aA} {d:List PyData} (h:cH K H a xs) (r:cn K H d xs):Dn K H (.tuple d) (.ref a):=⟨a,xs,rfl,h,r⟩
def Hg {a:ag} {xs:aA} {d:List PyData} (h:bw K H a xs) (r:cn K H d xs):Dn K H (.list d) (.ref a):=⟨a,xs,rfl,h,r⟩
abbrev dL (f:Int×Int):PyData:=.tuple [.int f.1,.int f.2]
def n9 {p:ag} {f:Int×Int} (h:cH K H p [.int f.1,.int f.2]):Dn K H (dL f) (.ref p):=gi h (bS Fb (bS Fb ip))
def Dn.fr {f:Int×Int} (h:Dn K H (dL f) v):∃ p,v = .ref p/\cH K H p [.int f.1,.int f.2]:=by
 obtain ⟨p,X,e,q,x,r,c,E,y,R,d,a,b⟩:=h
 have E:x=V.int f.1:=E
 have a:y=V.int f.2:=a
 have b:R=[]:=b
 subst c E d a b
 exact ⟨p,e,q⟩
def gw (f:Int×Int):fO (dL f)=true:=by simp [dL,fO]
end
section
variable {X:Cx} {pins:List (ag×Obj)} {U:St} {H:Hp} {s:Shared}
mutual
theorem Inv.reads (I:Inv X pins U H s):∀ (d:PyData) {v:V} {u:aq},Dn X.K H d v->RelV v u->∃ as,Reads s.heap u d as
 | .none,_,_,h,r=>by
   have h:_=V.bL:=h
   subst h
   obtain rfl:=(show _=Value.none from r)
   exact ⟨_,.none⟩
 | .bool b,_,_,h,r=>by
   have h:_=V.bl b:=h
   subst h
   obtain rfl:=(show _=Value.bool b from r)
   exact ⟨_,.bool b⟩
 | .int i,_,_,h,r=>by
   have h:_=V.int i:=h
   subst h
   obtain ⟨t,rfl⟩:=r
   exact ⟨_,.int i t⟩
 | .str x,_,_,h,r=>by
   have h:_=V.str x:=h
   subst h
   obtain ⟨t,rfl⟩:=r
   exact ⟨_,.str x t⟩
 | .list D,_,_,h,r=>by
   obtain ⟨a,j,rfl,q,t⟩:=h
   obtain rfl:=(show _=Value.ref a from r)
   obtain ⟨B,g,p,Z⟩:=I.list q
   obtain ⟨o,f,c,n,e⟩:=p.isList
   obtain ⟨as,R⟩:=Inv.readsAll I D t g
   exact ⟨_,.list f c e (by simpa using R)⟩
 | .tuple D,_,_,h,r=>by
   obtain ⟨a,j,rfl,q,t⟩:=h
   obtain rfl:=(show _=Value.ref a from r)
   obtain ⟨B,g,p,Z⟩:=I.tuple q
   obtain ⟨o,f,c,n,e⟩:=p
   obtain ⟨as,R⟩:=Inv.readsAll I D t g
   exact ⟨_,.tuple f c e (by simpa using R)⟩
 | .dict _,_,_,h,_=>(show False from h).elim
theorem Inv.readsAll (I:Inv X pins U H s):∀ (D:List PyData) {xs:aA} {us:aU},cn X.K H D xs->Vals xs us->∃ as,ReadsAll s.heap us D as
 | [],_,_,h,r=>by
   have h:_=[]:=h
   subst h
   obtain rfl:=Vals.zero r
   exact ⟨_,.nil⟩
 | d::D,_,_,h,r=>by
   obtain ⟨x,t,rfl,q,Q⟩:=h
   cases r with
   | cons R a =>
     obtain ⟨as,b⟩:=Inv.reads I d q R
     obtain ⟨B,c⟩:=Inv.readsAll I D Q a
     exact ⟨_,.cons b c⟩
end
inductive MS (K:aC) (x:V) (y:V) (H:Hp) (Q:VK):Prop|mk (d e:_) (_:Dn K H d x) (_:Dn K H e y) (_:SeqAt.shaped d=true) (_:SeqAt.shaped e=true) (_:Q (.bl (!PyData.eqv d e)) H)
def Hv (c:X.A.units+64<cLine):jw X (compareOp .NotEq) (MS X.K):=by
 intro pins s U H x y v u Q I f g h
 obtain ⟨d,e,a,b,S,i,q⟩:=h
 obtain ⟨as,r⟩:=I.reads d a f
 obtain ⟨B,R⟩:=I.reads e b g
 exact ne_dataH r R S i c ⟨.bl _,H,I,rfl,q⟩
def pF (n:X.calm=true):ir X (.builtin "all") (λ xs H Q=>∃ (p:ag) (bs:List Bool),xs=[.ref p]/\bw X.K H p (bs.map V.bl)/\Q (.bl (bs.all id)) H):=by
 intro pins s U H xs G Q I r h
 obtain ⟨p,bs,rfl,A,q⟩:=h
 obtain ⟨u,rfl,C⟩:∃ u,G=[u]/\RelV (.ref p) u:=by
   cases r with
   | cons a b=>cases b;exact ⟨_,rfl,a⟩
 obtain rfl:u=Value.ref p:=C
 obtain ⟨B,R,g,Z⟩:=I.list A
 have w:p<s.heap.objs.size:=by obtain ⟨Z,e,Z⟩:=g.isList;exact aag e
 have d:B.length=bs.length:=by rw [<- R.length,Bl]
 have k:∀ i v,B.toArray[i]?=some v->v=Value.bool (bs.getD i false):=λ i v e=>by
   have E:B[i]?=some v:=by simpa using e
   have c:i<bs.length:=by rw [<- d];exact (Yp.mp E).1
   obtain ⟨u,j,D⟩:=R.get (i:=i) (x:=V.bl (bs[i])) (by simp [c])
   rw [E] at j
   cases j
   have F:v=Value.bool bs[i]:=D
   rw [F]
   simp [c]
 refine call_all_walk (wpAny_pyIter_list g.isList ⟨s.heap.objs.size,_,_,_,_,_,λ i=>bs.getD i false,rfl,Walks.list (by simpa using I.ok.hd n) _ p (aas w) B.toArray,⟨⟨_,aaE _ rfl,rfl,rfl⟩,g.isList.push _⟩,λ i v S L J l f=>?_,λ M T t=>?_⟩)
 . rw [k i v l]
   exact aak f
 .
  have e:(List.range B.toArray.size).all (λ i=>bs.getD i false)=bs.all id:=by
    have:B.toArray.size=bs.length:=by simpa using d
    rw [this,abG,abv,abv]
    constructor
    . intro h b m
      obtain ⟨i,c,rfl⟩:=ad1 m
      have:=h i (aaK.mpr c)
      simpa [c] using this
    . intro h i c
      have c:=aaK.mp c
      have:=h _ (aaf c)
      simpa [c] using this
  rw [e]
  exact ⟨.bl _,H,I.kept (t':=T) λ b o z=>t b o (λ y=>by
    have y:b=s.heap.objs.size:=by simpa using y
    exact absurd (aag z) (by rw [y];exact aa8 _)) (ZB _ z),rfl,q⟩
end
section
variable {P:bh} {w:bf} {K:aC} {mg:bR} {base:aO} {x qual m:Str} {st:Stmt} {dV:aq} {f C:ag} {fd:FuncData} {N ps:bN} {k:Nat} {sp:Sp} {ds:aU} {fD:aA}
def O8 (P:bh) (w:bf) (K:aC) (M:bR) (base:aO) (C:ag) (m q:Str) (st:Stmt) (d:aq) (k:Nat) (p:bN) (s:Sp):Prop :=
 ∃ f fd,Meth K C m f/\mG K m q st d f fd/\iN P w K M base qj k f fd p s
def yx (P:bh) (w:bf) (K:aC) (M:bR) (base:aO) (C:ag) (m:Str) (k:Nat) (p:bN) (f:aA) (s:Sp):Prop :=
 ∃ ds,Vals f ds/\iK P w K M base C m k p ds s
def eP.YJ (h:eP K C m qual st dV) (S:az N ps (ak st)) (len:∀ vs H Q E,sp vs H Q E->vs.length=ps.length) (c:∀ (f:ag) (a:aq) (A:Around) (outer:List Env) (s:Shared) (H:Hp) (vs:aA) (Q:VK) (E:XK),cA k (A.deeper (envOfC qual (ak st) s.heap.objs.size f a))->sp vs H Q E ->
     ∃ t,l8 (dh qj P w K mg base N qual (ak st) f a A outer s H E).sS (bg st) t/\t { nx:=λ Z H'=>Q .bL H',rt:=Q } (start N vs) H):O8 P w K mg base C m qual st dV (k+1) ps sp:=by
 obtain ⟨f,fd,M,F⟩:=h
 exact ⟨f,fd,M,F,F.ok S len λ a A outer s H vs Q E b d=>c f a A outer s H vs Q E b d⟩
def O8.Ji {T:ag} {x:aA} (h:O8 P w K mg base C m qual st (.ref T) k ps sp) (H:Bi K T x) (a:∀ i:Array aq,Vals x i.toList->∃ ds,Vals fD ds/\∀ (kV d p:aq) (b:Option ag) (A ct:aq) (us:aU),(us++ds).length=ps.length->∃ k,bindArgs (W.fnOf m qual (cg st) (bg st) (ak st) (.ref T) kV d p b A ct) ⟨us,[]⟩=seqItems? (.ref T) >>= k/\k (some i)=pure (ps.zip (us++ds))) :
   yx P w K mg base C m k ps fD sp:=by
 obtain ⟨f,fd,M,F,O⟩:=h
 obtain ⟨o,n,i,H,e,g⟩:=H
 obtain ⟨ds,c,a⟩:=a i g
 exact ⟨ds,c,f,fd,M,F.binds H e a,O⟩
def Rh (P:bh) (w:bf) (K:aC) (m:bR) (base:aO) (x:Str) (st:Stmt) (d:aq) (k:Nat) (p:bN) (s:Sp):Prop :=
 ∃ f fd,m x=some (.ref f)/\mG K x x st d f fd/\iN P w K m base qj k f fd p s
def LS (P:bh) (w:bf) (K:aC) (m:bR) (base:aO) (x:Str) (k:Nat) (p:bN) (f:aA) (s:Sp):Prop :=
 ∃ ds,Vals f ds/\Ou P w K m base x k p ds s
def Jo.dok (h:Jo K mg x st dV) (S:az N ps (ak st)) (len:∀ vs H Q E,sp vs H Q E->vs.length=ps.length) (c:∀ (f:ag) (a:aq) (A:Around) (outer:List Env) (s:Shared) (H:Hp) (vs:aA) (Q:VK) (E:XK),cA k (A.deeper (envOfC x (ak st) s.heap.objs.size f a))->sp vs H Q E ->
     ∃ t,l8 (dh qj P w K mg base N x (ak st) f a A outer s H E).sS (bg st) t/\t { nx:=λ Z H'=>Q .bL H',rt:=Q } (start N vs) H):Rh P w K mg base x st dV (k+1) ps sp:=by
 obtain ⟨f,fd,M,F⟩:=h
 exact ⟨f,fd,M,F,F.ok S len λ a A outer s H vs Q E b d=>c f a A outer s H vs Q E b d⟩
def Rh.UP {T:ag} {X:aA} (h:Rh P w K mg base x st (.ref T) k ps sp) (H:Bi K T X) (a:∀ i:Array aq,Vals X i.toList->∃ ds,Vals fD ds/\∀ (kV d p:aq) (b:Option ag) (A ct:aq) (us:aU),(us++ds).length=ps.length->∃ k,bindArgs (W.fnOf x x (cg st) (bg st) (ak st) (.ref T) kV d p b A ct) ⟨us,[]⟩=seqItems? (.ref T) >>= k/\k (some i)=pure (ps.zip (us++ds))) :
   LS P w K mg base x k ps fD sp:=by
 obtain ⟨f,fd,M,F,O⟩:=h
 obtain ⟨o,n,i,H,e,g⟩:=H
 obtain ⟨ds,c,a⟩:=a i g
 exact ⟨ds,c,f,fd,M,F.kp,F.binds H e a,O⟩
def vals3 {a b c:V} {i:Array aq} (h:Vals [a,b,c] i.toList):∃ u v z,i=#[u,v,z]/\RelV a u/\RelV b v/\RelV c z:=by
 obtain ⟨l⟩:=i
 cases h with
 | cons H h=>cases h with
   | cons d h=>cases h with
     | cons e h=>cases h with
       | nil=>exact ⟨_,_,_,rfl,H,d,e⟩
end
section
variable {X:Cx} {C:ag} {m x:Str} {p pos apos:Pos} {e o:Expr} {es:List Expr} {ta:TE} {t:TA} {k:Nat} {ps:bN} {sp:Sp} {fD:aA}
def FR {pl:Sem Bool} (a:PE X o ta) (c:tH X.K C) (D:yx X.prog X.w X.K X.mg X.base C m k ps fD sp) (b:cA k X.A) (h:PA X (e::es) t) (G:autoParam (zu X e es) za_._auto_1) (g:autoParam (wP X es pos) za_._auto_1) (d:autoParam (eval (.Call (.Attribute o m apos) (e::es) [] pos) X.env=(do
     let O <- eval o X.env
     standAt apos.atName
     let (f,first) <- holding [O] (getMethod O m pl)
     callWith pos f first (backTo pos (starEach (e::es) X.env)) (backToKw pos (keywordEach [] X.env)))) za_._auto_1) :
   PE X (.Call (.Attribute o m apos) (e::es) [] pos) (pJ C m sp fD E0 ta t):=by
 obtain ⟨i,H,D⟩:=D
 exact bv (pl:=pl) a c D H b h G g d
def xS (M:Ja X.K C) (D:yx X.prog X.w X.K X.mg X.base C "__init__" k ps fD sp) (d:cA (k+1) X.A) (c:X.mg x=some (.ref C)) (h:PA X (e::es) t) (b:autoParam (Gl X x) za_._auto_1) (q:autoParam (wO x) zb_._auto_1) (a:autoParam (zu X e es) za_._auto_1) (g:autoParam (wP X es pos) za_._auto_1):PE X (.Call (.Name x p) (e::es) [] pos) (Fn C sp fD E0 t):=by
 obtain ⟨f,H,D⟩:=D
 exact yd M D H d c h b q a g
def GD (D:LS X.prog X.w X.K X.mg X.base x k ps fD sp) (c:cA k X.A) (h:PA X (e::es) t) (b:autoParam (Gl X x) za_._auto_1) (q:autoParam (wO x) zb_._auto_1) (a:autoParam (zu X e es) za_._auto_1) (g:autoParam (wP X es pos) za_._auto_1):PE X (.Call (.Name x p) (e::es) [] pos) (BF sp fD E0 t):=by
 obtain ⟨d,H,D⟩:=D
 exact DE D H c h b q a g
end
def eC {X:Cx} {K:aC} {e:List Expr} {k:Nat} {p:Pos} {t:K4} {n:Nat} (H:X.K=K) (a:X.calm=true) (h:Nf X e t) (b:autoParam ((assignEach e X.env).length=n) za_._auto_1) (g:autoParam ((assignEach e X.env).findIdx? (·.1)=none) za_._auto_1):PG X (.Tuple e k p) (O6 K n t):=by
 subst H
 exact Lo a h b g
end L2
namespace PySem
open Sem (wp)
theorem kN:∀ (l:List DictEntry) (c:Int),(l.map (·.hash)).Nodup->(l.filter (·.hash == c)).length<=1
 | [],_,_=>aaV _
 | e::l,c,h=>by
   rw [aaN,abo] at h
   rw [ade]
   split
   .
    rename_i q
    have q:e.hash=c:=by simpa using q
    have:l.filter (·.hash == c)=[]:=by
      rw [adI]
      intro x H z
      exact h.1 (aax.mpr ⟨x,H,by rw [q];simpa using z⟩)
    rw [this]
    exact aac _
   . exact kN l c h.2
section
variable {prog:bh} {w:bf} {K:Type} [DecidableEq K] {knd:KeyKind prog w K} {A:Around} {E:aq->Shared->Prop} {s:Shared}
def lV {k:List K} {a:ag} {Q:Bool->Shared->Prop} (b:IsTupleKey knd s.heap k a) (h:Q false s):wpAny (model prog w) A (Builtin.Dict.quietEq (.ref a)) Q E s:=by
 have H:=b.typeIs
 unfold Builtin.Dict.quietEq
 exact OW (adK H F.slot_tuple_eq.lookup (aak h))
def jA {id:String} {d:ag} {o:Obj} {a f} {xs:List (List K×ag×aq)} {Q:Array DictEntry->Shared->Prop} (n:s.heap.get? d=some o) (i:o.data = .dict a f) (H:a.toList=xs.map (entryOfKey (tupleKind knd)))
   (k:∀ x∈xs,IsTupleKey knd s.heap x.1 x.2.1) (j:(xs.map λ x=>tupleKeyHash knd x.1).Nodup) (h:Q a s) :
   wpAny (model prog w) A (Builtin.Dict.entriesForEmpty id d) Q E s:=by
 unfold Builtin.Dict.entriesForEmpty
 refine OW (acF n i ?_)
 have m:(a.toList.map (·.hash)).Nodup:=by
   rw [H,acq]
   exact j
 refine OW ?_
 refine wpAny_forIn_array' _ (λ rest Z S=>S=s/\∀ e∈rest,e∈a.toList) _ ?_ ?_ _ _ ⟨rfl,λ Z h=>h⟩
 .
  rintro e rest b S ⟨rfl,c⟩
  have Y:=c e aaz
  rw [H] at Y
  obtain ⟨x,p,rfl⟩:=aax.mp Y
  refine OW (lV (k x p) ?_)
  have g:¬ ((a.filter λ y=>y.hash == (entryOfKey (tupleKind knd) x).hash).size > 1):=by
    have:=kN a.toList (entryOfKey (tupleKind knd) x).hash m
    have q:(a.filter λ y=>y.hash == (entryOfKey (tupleKind knd) x).hash).size=(a.toList.filter λ y=>y.hash == (entryOfKey (tupleKind knd) x).hash).length:=by
      obtain ⟨l⟩:=a
      simp
    lia
  simp only [adt,abR,aal g]
  exact aak ⟨rfl,λ e H=>c e (aao _ H)⟩
 . rintro b S ⟨rfl,Z⟩
   exact aak h
def oN {nm:String} {d o:ag} {xs:List (List K×ag×aq)} {Q:Unit->Shared->Prop} (v:d≠o) (T:(o == sysModules)=false)
   (r:s.heap.DictOfH (tupleKind knd) d []) (y:s.heap.DictOfH (tupleKind knd) o xs) (t:(xs.map λ x=>tupleKeyHash knd x.1).Nodup)
   (g:∀ h',(∃ q c n,h'.get? d=some q/\q.ExactDict/\q.data = .dict c n/\c.toList=xs.map (entryOfKey (tupleKind knd))/\(xs.map (·.1)).Nodup)->Heap.SameBut d s.heap h'->Q () { s with heap:=h' }) (hsz:xs.length<=sizeLine) :
   wpAny (model prog w) A (Builtin.Dict.mergeDict nm d o) Q E s:=by
 obtain ⟨O,V,X,a,j,W,Y,k,u⟩:=id r
 obtain ⟨G,H,B,N,F,D,C,M,J⟩:=id y
 have i:V=#[]:=by
   obtain ⟨l⟩:=V
   have:l=[]:=by simpa using Y
   rw [this]
 have h:H.size=xs.length:=by
   obtain ⟨l⟩:=H
   have:l.length=_:=abK List.length C
   simpa using this
 unfold Builtin.Dict.mergeDict
 rw [aal (by simpa using v)]
 unfold Builtin.Dict.showsAll
 rw [aal (by rw [T];exact aah)]
 refine OW (aak ?_)
 refine OW (acF N D ?_)
 dsimp only
 cases xs with
 | nil =>
   have p:H=#[]:=by
     obtain ⟨l⟩:=H
     have:l=[]:=by simpa using C
     rw [this]
   subst p
   have f:Q () s:=by
     have:=g s.heap ⟨O,V,X,a,j,W,Y,J⟩ (Heap.SameBut.refl _ _)
     exact this
   split
   . rename_i b
     exact absurd b (by simp)
   . refine OW (wpAny_dictEpoch N D ?_)
     refine OW (acF N D ?_)
     refine OW ?_
     rw [Std.Legacy.Range.forIn_eq_forIn_range']
     exact aak (aak f)
 | cons x xs =>
   have b:(decide (H.size<=8) && H.all λ e=>(keyPart e.key).isSome)=false:=by
     obtain ⟨l⟩:=H
     have m:l=_:=C
     subst m
     have:keyPart (entryOfKey (tupleKind knd) x).key=none:=rfl
     simp [this]
   rw [b]
   simp only [adt,abR]
   refine OW (acF a W ?_)
   rw [i]
   simp only [Array.isEmpty_empty,abR]
   refine OW (jA N D C M t ?_)
   have I:H.isEmpty=false:=by
     rw [Array.isEmpty_eq_false_iff]
     intro z
     rw [z] at h
     simp at h
   rw [I]
   simp only [adt,abR]
   refine OW (wpAny_updateDictKeysTo a W (aak (g _ ⟨_,_,X+1,abE _ a (Obj.isFreed_of_dict (Obj.data_mapDictKeys W _)),j.mapDictKeys _,Obj.data_mapDictKeys W _,C,J⟩ (adf ..))) (by rw [h];lia))
def sT {o:ag} {xs:List (List K×ag×aq)} {Q:aq->Shared->Prop} (T:(o == sysModules)=false) (H:s.heap.DictOfH (tupleKind knd) o xs) (hsz:xs.length<=sizeLine) (k:(xs.map λ x=>tupleKeyHash knd x.1).Nodup)
   (h:∀ h',(∃ q a f,h'.get? s.heap.objs.size=some q/\q.ExactDict/\q.data = .dict a f/\a.toList=xs.map (entryOfKey (tupleKind knd))/\(xs.map (·.1)).Nodup)->Heap.SameBut s.heap.objs.size (s.heap.push { cls:=.type "dict",data:=.dict #[]}) h'->Q (.ref s.heap.objs.size) { s with heap:=h' }) :
   wpAny (model prog w) A (call (.type "dict") [.ref o]) Q E s:=by
 refine callType_codes (Q₁:=λ O S=>O = .ref s.heap.objs.size/\S={ s with heap:=s.heap.push { cls:=.type "dict",data:=.dict #[]}}) F.kt_called_dict (F.kt_typeCall_dict_1 _) F.entry_dict_init (kt_code_dict_new _ ⟨rfl,rfl⟩) ?_
 rintro O S ⟨rfl,rfl⟩
 have V:(s.heap.push { cls:=.type "dict",data:=.dict #[]}).DictOfH (tupleKind knd) s.heap.objs.size []:=Heap.DictOfH.new s.heap
 have v:(s.heap.push { cls:=.type "dict",data:=.dict #[]}).DictOfH (tupleKind knd) o xs:=by
   obtain ⟨m,c,Y,N,y,D,C,M,J⟩:=id H
   exact ⟨m,c,Y,ZB _ N,y,D,C,λ x l=>(let ⟨q,I,n,g,i⟩:=M x l;⟨q,I,n,ZB _ g,i⟩),J⟩
 have d:s.heap.objs.size≠o:=by
   obtain ⟨Z,Z,Z,j,Z⟩:=H
   exact λ e=>absurd (aag j) (by rw [e];exact aa8 _)
 refine ⟨V.typeIs,F.args_dict_init_2 _ _,?_⟩
 unfold Builtin.«dict.__init__»
 refine OW ?_
 unfold Builtin.Dict.selfAndRest
 refine OW (wpAny_notOrdered_dict V.typeIs ?_)
 show wpAny _ _ (pure (s.heap.objs.size,[Value.ref o])) _ _ _
 refine aak ?_
 show wpAny _ _ (Builtin.Dict.updateFrom "dict.__init__" s.heap.objs.size (.ref o) [] .none) _ _ _
 unfold Builtin.Dict.updateFrom
 refine OW (wpAny_typeOf v.typeIs ?_)
 rw [aal (by decide)]
 refine OW ?_
 unfold Builtin.Dict.merge
 refine OW ?_
 unfold Builtin.Dict.readDirectly
 refine OW (wpAny_isInstance v.typeIs isSubtype_dict_dict ?_)
 simp only [adD,aca,ach]
 refine OW (adK v.typeIs F.slot_dict_iter.lookup (aak ?_))
 simp only [adc,abR]
 refine OW (aak ?_)
 refine oN (hsz:=hsz) d T V v k λ h' b z=>?_
 show wpAny _ _ (Builtin.Dict.addKeywords s.heap.objs.size [] >>= _) _ _ _
 exact OW (aak (aak ⟨rfl,h h' b z⟩))
end
end PySem
namespace L2
open PySem PySem.Spec PyProof.Rows Mth
variable {elt iter tg:Expr} {g:TG} {ifs:List Expr} {py Jc:Pos} {te:TE} {yi:Nat}
section
variable {X:Cx} {pins:List (ag×Obj)} {U:St} {H:Hp} {s:Shared} {a:ag} {aK:List (List Key×V)} {A:Around} {E:aq->Shared->Prop}
def Dz {Q:aq->Shared->Prop} (I:Inv X pins U H s) (e:Rd H a (.dT aK)) (g:(aK.map λ k=>tupleKeyHash (cy X.prog X.w) k.1).Nodup) (h:∀ p s',H p=none->Inv X pins U (upd H p (.dT aK)) s'->Q (.ref p) s'):wpAny (model X.prog X.w) A (call (.type "dict") [.ref a]) Q E s:=by
 obtain ⟨z,n,l,R,d⟩:=t9 I.ck e
 have u:l.map (λ x=>tupleKeyHash (cy X.prog X.w) x.1)=aK.map λ k=>tupleKeyHash (cy X.prog X.w) k.1:=by
   clear d z g h e
   induction R with
   | nil=>rfl
   | cons r _ v=>rw [aaN,aaN,v,r.1]
 refine sT n d (by rw [<- adk R];exact z) (by rw [u];exact g) λ y m t=>?_
 have i:H s.heap.objs.size=none:=I.ck.fresh (aac _)
 refine h _ _ i (I.laid (a:=s.heap.objs.size) (o:=.dT aK) (t':=s.toks) (λ b q j=>?_) (aac _) ⟨z,abk.mpr (abt (aas I.big)),l,R.keeps λ c Y f=>?_,m⟩)
 . exact (t.2 b (aas (aag j))).trans (ZB _ j)
 . rw [aG (aD f i)];exact f
end
def tV {X:Cx}:ir X (.type "dict") (λ xs H Q=>∃ p a,xs=[.ref p]/\H p=some (.dT a)/\(a.map λ k=>tupleKeyHash (cy X.prog X.w) k.1).Nodup/\∀ l,H l=none->Q (.ref l) (upd H l (.dT a))):=by
 intro b s U H xs f Q I r h
 obtain ⟨p,a,rfl,e,c,q⟩:=h
 obtain ⟨u,rfl,R⟩:=vals1 r
 cases R
 exact Dz I (.inl e) c λ l S d i=>⟨.ref l,_,i,rfl,q l d⟩
def Jg:bootBuiltins "dict" = some (.type "dict"):=by decide +kernel
section
variable {X:Cx}
def Ib {y:Str} {S:Scope} {p:Pos} {w:TI} {t:TT} {N':bN} {n:Nat} {sl:cx} (V:X.calm=true) (hi:PI X tg iter w) (hg:∀ cl C s H ex,PG (cD X N' S cl C s H ex) tg g) (ht:∀ cl C s H ex,KR (cD X N' S cl C s H ex) ifs t) (Y:∀ cl C s H ex,PE (cD X N' S cl C s H ex) elt te) (B:N'.length=n+sl.length) (L:∀ k j:Nat,sl[k]?=some j->∃ x,N'[n+k]?=some x/\X.N[j]?=some x/\S.names.lookup x=some .free) (hk:S.kind = .function) (M:∀ y∈S.names,y.2 ≠ .cell) (jZ:∀ y∈S.names,y.2 = .local->S.names.lookup y.1=some .local) (jx:∀ y∈S.names,y.2 = .free->X.env.kindOf y.1=some .cell\/X.env.kindOf y.1=some .free) (Q:X.N.Nodup) (W:X.N[yi]?=some y) (hy:Loc X.env.scope y) (hf:X.fn y=true\/X.env.scope.names.lookup y=some .local) (O:swapsWith (.ListComp elt [⟨tg,iter,ifs,0⟩] S p) (some (.Name y py)) Jc.line X.env=pure true) (hs:∀ x,foldedSetIterable iter X.env x=pure x:=by intro Z;rfl) :
   PS X (.Assign [.Name y py] (.ListComp elt [⟨tg,iter,ifs,0⟩] S p) Jc) (CO (yP w g t te n sl) (lZ yi)):=by
 intro f s U H D I h
 rw [exec_Assign_Name_used _ _ _ _ O]
 refine OW (abL (OW ?_))
 show wpAny _ X.A (do let _ <- comprehension (.ListComp elt [⟨tg,iter,ifs,0⟩] S p) S X.env _ (newList []) false (eval iter X.env) (some (assign (.Name y py) X.env))) _ _ s
 refine OW (aau (uN (use:=some (assign (.Name y py) X.env)) (Qp:=λ Z i=>SP X f D .next i) V hi hg ht Y B L hk M jZ jx hs I h λ s6 l d c m J F hn q=>?_)
   (λ Z i hq=>aak (aak hq)) λ Z Z e=>e)
 refine wpAny_assign_Name (uc (v:=.ref d) J Q W hy rfl (λ s7 u ⟨a,E,R⟩=>?_) hf)
 have na:c≠a:=λ z=>by
   rcases R with q|q
   . exact F.2.1 (z.trans q)
   . exact F.2.2.2.2.1 _ a q z.symm
 refine ⟨m,?_,λ h' sb=>?_⟩
 . obtain ⟨o,K,G,ho,r⟩:=hn
   exact ⟨o,K,G,(E.2 _ na).trans ho,r⟩
 . exact ⟨_,l,u.turned (t':=s7.toks) (λ b Z T q=>(sb.2 b T).trans q) F.1 F.2.1 F.2.2.2.1 F.2.2.2.2.1 F.2.2.2.2.2,q⟩
def uy {y:Str} {S:Scope} {p:Pos} {w:TI} {l:TT} (T f:bN) (sl:cx) (a:Paired (λ (j:Nat) (x:Str)=>X.N[j]?=some x/\S.names.lookup x=some .free/\(X.env.kindOf x=some .cell\/X.env.kindOf x=some .free)) sl f) (o:X.calm=true) (v:PI X tg iter w) (u:∀ cl C s H ex,PG (cD X (T++f) S cl C s H ex) tg g) (D:∀ cl C s H ex,KR (cD X (T++f) S cl C s H ex) ifs l) (q:∀ cl C s H ex,PE (cD X (T++f) S cl C s H ex) elt te) (n:X.N.Nodup) (d:Loc X.env.scope y) (A:autoParam (S.kind = .function) za_._auto_1) (G:autoParam (∀ y∈S.names,y.2 ≠ .cell) zc_._auto_1) (J:autoParam (∀ y∈S.names,y.2 = .local->S.names.lookup y.1=some .local) zc_._auto_1) (F:autoParam (∀ y∈S.names,y.2 = .free->y.1∈f) zc_._auto_1) (W:autoParam (X.N[yi]?=some y) za_._auto_1) (O:autoParam (swapsWith (.ListComp elt [⟨tg,iter,ifs,0⟩] S p) (some (.Name y py)) Jc.line X.env=pure true) za_._auto_1) (b:autoParam (X.fn y=true\/X.env.scope.names.lookup y=some .local) zd_._auto_1) (B:∀ x,foldedSetIterable iter X.env x=pure x:=by intro Z;rfl) :
   PS X (.Assign [.Name y py] (.ListComp elt [⟨tg,iter,ifs,0⟩] S p) Jc) (CO (yP w g l te T.length sl) (lZ yi)):=by
 have K:∀ {sl:cx} {f:bN},Paired (λ (j:Nat) (x:Str)=>X.N[j]?=some x/\S.names.lookup x=some .free/\(X.env.kindOf x=some .cell\/X.env.kindOf x=some .free)) sl f ->
     (∀ k j:Nat,sl[k]?=some j->∃ x,f[k]?=some x/\X.N[j]?=some x/\S.names.lookup x=some .free)/\∀ x∈f,X.env.kindOf x=some .cell\/X.env.kindOf x=some .free:=by
   intro sl f a
   induction a with
   | nil=>exact ⟨λ k j h=>by simp at h,λ x c=>by simp at c⟩
   | cons r t i =>
     refine ⟨λ k j h=>?_,λ x c=>?_⟩
     . cases k with
       | zero =>
         have e:_=j:=aai h
         subst e
         exact ⟨_,rfl,r.1,r.2.1⟩
       | succ k=>exact i.1 k j (by simpa using h)
     . rcases aaa.mp c with z|z
       . rw [z];exact r.2.2
       . exact i.2 x z
 refine Ib (N':=T++f) o v u D q (by rw [aad,a.length]) (λ k j h=>?_) A G J (λ y d b=>(K a).2 _ (F y d b)) n W d b O B
 obtain ⟨x,E,m⟩:=(K a).1 k j h
 exact ⟨x,by rw [aaL (abV _ _),adB];exact E,m⟩
end
abbrev cG:=Int×Int
structure au where
 most:Int
 iU:Int
 load:Int
 rows:List (List cG)
 bF:Int->Int->Option cG
 bx:List (cG×cG×cG)
 aH:List (Option (cG×Int×Int×Int))
abbrev nJ (s:cG×cG×cG):PyData:=.tuple [dL s.1,dL s.2.1,dL s.2.2]
abbrev gH:Option (cG×Int×Int×Int)->PyData
 | none => .none
 | some s => .tuple [dL s.1,.int s.2.1,.int s.2.2.1,.int s.2.2.2]
abbrev tO (r:List cG):PyData:=.tuple (r.map dL)
def ky (m:au) (a p b c:ag):List (Str×V) :=
 [("most",.int m.most),("cap",.int m.iU),("load",.int m.load),("mark_rows",.ref a),("flows",.ref p),("skies",.ref b),("stoves",.ref c)]
section
variable (m:au) (pm pf ps pt:ag)
def sL:(ky m pm pf ps pt).lookup ("most" : Str)=some (.int m.most):=by rfl
def BJ:(ky m pm pf ps pt).lookup ("cap" : Str)=some (.int m.iU):=by rfl
def GA:(ky m pm pf ps pt).lookup ("load" : Str)=some (.int m.load):=by rfl
def nN:(ky m pm pf ps pt).lookup ("mark_rows" : Str)=some (.ref pm):=by rfl
def lO:(ky m pm pf ps pt).lookup ("flows" : Str)=some (.ref pf):=by rfl
def ic:(ky m pm pf ps pt).lookup ("skies" : Str)=some (.ref ps):=by rfl
def j7:(ky m pm pf ps pt).lookup ("stoves" : Str)=some (.ref pt):=by rfl
end
def mm (K:aC) (H:Hp):Option cG->fH->Prop
 | none,none=>True
 | some f,some v=>Dn K H (dL f) v
 | _,_=>False
abbrev fq (i j:Int):List Key:=[.inl i,.inl j]
def ni (a:List (List Key×V)):Prop:=(a.map (·.1)).Nodup/\∀ p∈a,∃ i j:Nat,i<4/\j<4/\p.1=fq i j
end L2
namespace Mth
def nf (t b:Int):Int×Int:=(t.fdiv (Int.gcd t b:Nat),b.fdiv (Int.gcd t b:Nat))
def qJ {r q s:Int} (h:r ∣ q * s) (c:Int.gcd q r=1):r ∣ s:=by
 have H:r.natAbs ∣ q.natAbs * s.natAbs:=by rw [<- acQ];exact adQ.mpr h
 have a:Nat.Coprime r.natAbs q.natAbs:=by rw [Nat.coprime_comm];exact c
 exact adQ.mp (Nat.Coprime.dvd_of_dvd_mul_left a H)
def Fr.uniq {t b q r Q r':Int} (H:b≠0) (h:Fr t b q r) (k:Fr t b Q r'):q=Q/\r=r':=by
 have e:q * r'=Q * r:=by
   have E:(q * r') * b=(Q * r) * b:=by
     have a:=h.jv
     have A:=k.jv
     calc (q * r') * b=(q * b) * r':=by rw [aaA]
       _=(t * r) * r':=by rw [a]
       _=(t * r') * r:=by rw [aaA]
       _=(Q * b) * r:=by rw [A]
       _=(Q * r) * b:=by rw [aaA]
   exact abc H E
 have d:r ∣ r':=by
   have:r ∣ q * r':=⟨Q,by rw [e,ab1]⟩
   exact qJ this h.QY
 have D:r' ∣ r:=by
   have:r' ∣ Q * r:=⟨q,by rw [<- e,ab1]⟩
   exact qJ this k.QY
 have c:r=r':=Int.dvd_antisymm (abf h.pos) (abf k.pos) d D
 subst c
 exact ⟨abc (abO h.pos) e,rfl⟩
def gZ {t b:Int} (h:0<b):Fr t b (nf t b).1 (nf t b).2:=(Hs (abO h) rfl).2.2.1 h
theorem Fr.nf {t b q r:Int} (H:0<b) (h:Fr t b q r):(q,r)=nf t b:=by
 obtain ⟨e,E⟩:=h.uniq (abO H) (gZ H)
 rw [e,E]
def kU (x y:Int×Int):Int×Int:=nf (x.1 * y.2+y.1 * x.2) (x.2 * y.2)
def mQ (x y:Int×Int):Int×Int:=nf (x.1 * y.2 - y.1 * x.2) (x.2 * y.2)
def bO (x y:Int×Int):Bool:=decide (x.1 * y.2<y.1 * x.2)
structure eJ (n:Nat) (f:Int×Int):Prop where
 t:Bd n f.1
 b:Bd n f.2
 p:0<f.2
theorem eJ.mono {m n:Nat} {f:Int×Int} (h:eJ m f) (l:m<=n):eJ n f:=⟨h.t.mono l,h.b.mono l,h.p⟩
def eJ.minus {m n:Nat} {x y:Int×Int} (h:eJ m x) (k:eJ n y):eJ (m+n+1) (mQ x y):=by
 have F:=gZ (t:=x.1 * y.2 - y.1 * x.2) (b:=x.2 * y.2) (aaP h.p k.p)
 have B:Bd (m+n) (x.1 * y.2):=h.t.mul k.b
 have a:Bd (m+n) (y.1 * x.2):=by rw [aco];exact k.t.mul h.b
 exact ⟨F.QZ (B.sub a),F.Rf ((h.b.mul k.b).mono (abY _)),F.pos⟩
def eJ.plus {m n:Nat} {x y:Int×Int} (h:eJ m x) (k:eJ n y):eJ (m+n+1) (kU x y):=by
 have F:=gZ (t:=x.1 * y.2+y.1 * x.2) (b:=x.2 * y.2) (aaP h.p k.p)
 have B:Bd (m+n) (x.1 * y.2):=h.t.mul k.b
 have a:Bd (m+n) (y.1 * x.2):=by rw [aco];exact k.t.mul h.b
 exact ⟨F.QZ (B.add a),F.Rf ((h.b.mul k.b).mono (abY _)),F.pos⟩
def Ff:eJ 100 (0,1):=⟨(by decide:(_:Int).natAbs<_),(by decide:(_:Int).natAbs<_),by decide⟩
def TZ:eJ 100 (1,1):=⟨(by decide:(_:Int).natAbs<_),(by decide:(_:Int).natAbs<_),by decide⟩
end Mth
namespace L2
open PySem PySem.Spec PyProof.Rows Mth
variable {H H':Hp} {Q:VK} {i:Nat} {l:List Int} {o u:HO} {v:V}
structure au.Wf (m:au):Prop where
 rows:∀ r∈m.rows,∀ f∈r,eJ 100 f
 len:∀ r∈m.rows,2<=r.length/\r.length<=7
 bF:∀ i j f,m.bF i j=some f->eJ 100 f
 bx:∀ s∈m.bx,eJ 100 s.1/\eJ 100 s.2.1/\eJ 100 s.2.2
 aH:∀ x,some x∈m.aH->eJ 100 x.1
structure bj (K:aC) (C:ag) (H:Hp) (a:ag) (fp:cM) (m:au):Prop where
 ex:∃ dx pm pf ps pt vm vs vt aK,fp=[a,dx,pm,pf,ps,pt]/\H a=some (.ins C dx (ky m pm pf ps pt))/\H dx=some (.own a)/\H pm=some (.lst vm)/\H pf=some (.dT aK)/\H ps=some (.lst vs)/\H pt=some (.lst vt) /\
   pm≠ps/\pm≠pt/\ps≠pt/\cn K H (m.rows.map tO) vm/\cn K H (m.bx.map nJ) vs/\cn K H (m.aH.map gH) vt/\(∀ i j,mm K H (m.bF i j) (fG aK (fq i j)))/\ni aK
 sk:m.bx.length=m.rows.length
 st:m.aH.length=m.rows.length
 mx:m.rows.length<=4
 wf:m.Wf
def uo (f:cM) (H h:Hp):Prop:=∀ b o,H b=some o->b∉f->h b=some o
def au.fb (m:au) (i j:Nat):cG:=(m.bF i j).getD (0,1)
def au.eM (m:au) (i:Nat):cG:=((m.bx[i]?).map (·.1)).getD (0,1)
def au.fJ (m:au) (i n:Nat):cG:=(List.range n).foldl (λ a j=>mQ a (m.fb i j)) (mQ (1,1) (m.eM i))
def au.own (m:au) (i:Nat):cG:=m.fJ i m.rows.length
def au.share (m:au) (i j:Nat):cG:=if i=j then m.own i else m.fb i j
theorem au.Wf.fb {m:au} (w:m.Wf) (i j:Nat):eJ 100 (m.fb i j):=by
 unfold au.fb
 cases e:m.bF i j with
 | none=>exact Ff
 | some f=>exact w.bF i j f e
theorem au.Wf.eM {m:au} (w:m.Wf) (i:Nat):eJ 100 (m.eM i):=by
 unfold au.eM
 cases e:m.bx[i]? with
 | none=>exact Ff
 | some f=>exact (w.bx f (aaO e)).1
def au.jH (m:au) (i n:Nat):m.fJ i (n+1)=mQ (m.fJ i n) (m.fb i n):=by
 unfold au.fJ
 rw [aaS,abd];rfl
theorem au.Wf.fJ {m:au} (w:m.Wf) (i:Nat):∀ n,eJ (201+101 * n) (m.fJ i n)
 | 0=>(TZ.minus (w.eM i)).mono (by decide)
 | n+1=>by
   rw [au.jH]
   exact ((w.fJ i n).minus (w.fb i n)).mono (by lia)
section
variable {K:aC} {H:Hp} {v:V}
def Dn.di {s:cG×cG×cG} (h:Dn K H (nJ s) v):∃ p V a v3,v = .ref p/\cH K H p [V,a,v3]/\Dn K H (dL s.1) V/\Dn K H (dL s.2.1) a/\Dn K H (dL s.2.2) v3:=by
 obtain ⟨p,k,e,q,x,R,c,d,X,j,f,D,i,r,g,b,E⟩:=h
 have E:r=[]:=E
 subst c f g E
 exact ⟨p,x,X,i,e,q,d,D,b⟩
def Gs {s:cG×cG×cG} {p:ag} {v a b:V} (q:cH K H p [v,a,b]) (d:Dn K H (dL s.1) v) (D:Dn K H (dL s.2.1) a) (c:Dn K H (dL s.2.2) b):Dn K H (nJ s) (.ref p) :=
 gi q (bS d (bS D (bS c ip)))
def rH (s:cG×cG×cG):fO (nJ s)=true:=by simp [nJ,dL,fO]
def qS (s:Option (cG×Int×Int×Int)):fO (gH s)=true:=by cases s<;>simp [gH,dL,fO]
def yZ (r:List cG):fO (tO r)=true:=pK.mpr λ d h=>by
 obtain ⟨f,Z,rfl⟩:=aax.mp h
 exact gw f
def zT.fr {a:ag} {f:cG} (h:zT K a [.int f.1,.int f.2]):Dn K H (dL f) (.ref a):=n9 (h.at H)
end
def aw {a:Type} {l:List a} (h:i<l.length):l[i]?=some l[i]:=abD h
def jl {a:Type} {xs:List a} {v:a} (h:xs[i]?=some v):tM xs (i:Int)=some v:=bB h
def BE {K:aC} {o:Option cG} {r:fH} {z:V} (h:mm K H o r) (a:Dn K H (dL (0,1)) z):Dn K H (dL (o.getD (0,1))) (r.getD z):=by
 cases o with
 | none=>cases r with
   | none=>exact a
   | some v=>exact (show False from h).elim
 | some f=>cases r with
   | none=>exact (show False from h).elim
   | some v=>exact h
inductive IG (vs:aA) (H:Hp) (Q:VK) (_E:XK):Prop|mk (n g:Int) (_:vs=[.int n,.int g]) (_:Q (.bl (decide (0<=n/\n<=g))) H)
section
variable (K:aC) (C:ag)
inductive Jj (vs:aA) (H:Hp) (Q:VK) (_E:XK):Prop|mk (a fp m:_) (_:vs=[.ref a]) (_:bj K C H a fp m) (_:Q (av m.rows.length) H)
inductive zi (vs:aA) (H:Hp) (Q:VK) (_E:XK):Prop|mk (a fp m:_) (i:Nat) (_:vs=[.ref a,av i]) (_:bj K C H a fp m) (_:i<m.rows.length) (_:Q .bL H)
inductive L5 (vs:aA) (H:Hp) (Q:VK) (_E:XK):Prop|mk (a fp m:_) (i:Nat) (s:_) (_:vs=[.ref a,av i]) (_:bj K C H a fp m) (_:m.bx[i]?=some s) (_:∀ v,Dn K H (nJ s) v->Q v H)
inductive FZ (vs:aA) (H:Hp) (Q:VK) (_E:XK):Prop|mk (a fp m:_) (i:Nat) (s:_) (_:vs=[.ref a,av i]) (_:bj K C H a fp m) (_:m.aH[i]?=some s) (_:∀ v,Dn K H (gH s) v->Q v H)
inductive Gm (vs:aA) (H:Hp) (Q:VK) (_E:XK):Prop|mk (a fp m:_) (i:Nat) (r:_) (_:vs=[.ref a,av i]) (_:bj K C H a fp m) (_:m.rows[i]?=some r) (_:∀ p xs,H p=none->cn K H (r.map dL) xs->Q (.ref p) (upd H p (.lst xs)))
inductive Lu (vs:aA) (H:Hp) (Q:VK) (_E:XK):Prop|mk (a fp m:_) (i:Nat) (_:vs=[.ref a,av i]) (_:bj K C H a fp m) (_:i<m.rows.length) (_:∀ v H',aF H H'->Dn K H' (dL (m.own i)) v->Q v H')
inductive Fk (vs:aA) (H:Hp) (Q:VK) (_E:XK):Prop|mk (a fp m:_) (i j:Nat) (_:vs=[.ref a,av i,av j]) (_:bj K C H a fp m) (_:i<m.rows.length) (_:j<m.rows.length) (_:∀ v H',aF H H'->Dn K H' (dL (m.share i j)) v->Q v H')
end
theorem bj.same {K:aC} {C:ag} {a:ag} {f:cM} {m:au} (s:aF H H') (h:bj K C H a f m):bj K C H' a f m:=by
 obtain ⟨⟨k,t,r,u,v,V,z,B,A,e,n,J,E,I,F,d,N,o,p,b,c,g,D,l⟩,Q,w,x,y⟩:=h
 refine ⟨⟨k,t,r,u,v,V,z,B,A,e,s _ _ n,s _ _ J,s _ _ E,s _ _ I,s _ _ F,s _ _ d,N,o,p,cn.same s _ b,cn.same s _ c,cn.same s _ g,λ i j=>?_,l⟩,Q,w,x,y⟩
 have:=D i j
 revert this
 cases m.bF i j<;>cases fG A (fq i j)<;>intro q
 . exact q
 . exact q
 . exact q
 . exact Dn.same s _ q
def Cb {n:Nat} (h:i<n):Ew n (i:Int)=some i:=by
 unfold Ew
 rw [aaq (by lia),aaq (by lia),abe]
def LR {x y z t:V}:[x,y,z,t].length<=sizeLine:=by show 4<=sizeLine;decide
def MY {x:V}:[x].length<=sizeLine:=by show 1<=sizeLine;decide
theorem uL {b:Type} [DecidableEq b]:∀ (l L:List b),l.Nodup->(∀ x∈l,x∈L)->l.length<=L.length
 | [],_,_,_=>aaV _
 | x::l,L,f,h=>by
   obtain ⟨c,d⟩:=abo.mp f
   have H:=h x aaz
   have:=uL l (L.erase x) d λ y a=>(List.mem_erase_of_ne (λ e=>c (by rw [<- e];exact a))).mpr (h y (aao _ a))
   rw [List.length_erase_of_mem H] at this
   have g:=List.length_pos_of_mem H
   rw [aav]
   lia
def Ik:List (List Key):=(List.range 4).flatMap λ (i:Nat)=>(List.range 4).map λ (j:Nat)=>fq (i:Int) (j:Int)
def ni.len {a:List (List Key×V)} (h:ni a):a.length<=16:=by
 have:=uL (a.map (·.1)) Ik h.1 λ x d=>by
   obtain ⟨p,c,rfl⟩:=aax.mp d
   obtain ⟨i,j,H,b,e⟩:=h.2 p c
   rw [e]
   exact List.mem_flatMap.mpr ⟨i,aaK.mpr H,aax.mpr ⟨j,aaK.mpr b,rfl⟩⟩
 rw [Bl] at this
 exact aa3 this (by decide)
def ni.put {A:List (List Key×V)} (h:ni A) {j:Nat} (g:i<4) (l:j<4) (v:V):ni (putK A (fq i j) v):=by
 refine ⟨?_,λ p H=>?_⟩
 .
  cases e:fG A (fq i j) with
  | none=>exact JG v h.1 e
  | some y =>
    have f:(A.any λ k=>decide (k.1=fq i j))=true:=by
      unfold fG at e
      cases q:A.find? λ k=>decide (k.1=fq i j) with
      | none=>rw [q] at e;cases e
      | some z=>have Q:=List.find?_some q;exact List.any_eq_true.mpr ⟨z,List.mem_of_find?_eq_some q,Q⟩
    unfold putK
    rw [aaq f,acq]
    have:((λ x:List Key×V=>x.1) ∘ λ k:List Key×V=>if k.1=fq i j then (k.1,v) else k)=λ x=>x.1:=by
      funext x
      show (if x.1=fq i j then (x.1,v) else x).1=x.1
      split<;>rfl
    rw [this]
    exact h.1
 .
  unfold putK at H
  split at H
  . obtain ⟨z,m,rfl⟩:=aax.mp H
    obtain ⟨a,b,c,d,e⟩:=h.2 z m
    refine ⟨a,b,c,d,?_⟩
    split<;>exact e
  .
   rcases aaD.mp H with H|H
   . exact h.2 p H
   . have:p=(fq i j,v):=by simpa using H
     subst this
     exact ⟨i,j,g,l,rfl⟩
def wZ {i j I J:Int} (h:fq i j=fq I J):i=I/\j=J:=by
 simp only [fq,List.cons.injEq,Sum.inl.injEq,and_true] at h
 exact h
def au.eE (m:au) (i j:Nat) (f:cG):au:={ m with bF:=λ a b=>if a=(i:Int)/\b=(j:Int) then some f else m.bF a b }
def au.ft (m:au) (i:Nat) (s:cG×cG×cG):au:={ m with bx:=m.bx.set i s }
def au.gy (m:au) (i:Nat) (s:cG×Int×Int×Int):au:={ m with aH:=m.aH.set i (some s)}
def au.ce (m:au) (r:List cG):au:={ m with rows:=m.rows++[r],bx:=m.bx++[((0,1),(0,1),(0,1))],aH:=m.aH++[none]}
def au.new (most iU load:Int):au:=⟨most,iU,load,[],λ Z Z=>none,[],[]⟩
structure qu (K:aC) (C:ag) (H:Hp) (a:ag) (fp:cM) (m':au) (H':Hp) (pI:cM):Prop where
 at_:bj K C H' a pI m'
 but:uo fp H H'
 ts:cB K H H'
 own:∀ b∈pI,b∈fp\/H b=none
theorem mm.ts {K:aC} (s:cB K H H'):∀ {o:Option cG} {v:fH},mm K H o v->mm K H' o v
 | none,none,_=>trivial
 | some f,some v,h=>Dn.ts s _ (gw f) h
 | none,some _,h=>h
 | some _,none,h=>h
def lP {K:aC} {R:List (List cG)} {xs:aA} (s:cB K H H') (h:cn K H (R.map tO) xs):cn K H' (R.map tO) xs:=cn.ts s _ (λ d a=>by obtain ⟨r,Z,rfl⟩:=aax.mp a;exact yZ r) h
def jf {K:aC} {R:List (cG×cG×cG)} {xs:aA} (s:cB K H H') (h:cn K H (R.map nJ) xs):cn K H' (R.map nJ) xs:=cn.ts s _ (λ d a=>by obtain ⟨r,Z,rfl⟩:=aax.mp a;exact rH r) h
def ib {K:aC} {R:List (Option (cG×Int×Int×Int))} {xs:aA} (s:cB K H H') (h:cn K H (R.map gH) xs):cn K H' (R.map gH) xs:=cn.ts s _ (λ d a=>by obtain ⟨r,Z,rfl⟩:=aax.mp a;exact qS r) h
def qB (r:List cG):Bool:=(List.zipWith bO r r.tail).all id
def jP (R:List (List cG)):Int:=R.foldl (λ p r=>p * ((r.length:Int) - 1)) 1
section
variable (K:aC) (C:ag)
inductive IX (vs:aA) (H:Hp) (Q:VK) (_E:XK):Prop|mk (a fp m:_) (i:Nat) (v1 v2 f g:_) (_:vs=[.ref a,av i,v1,v2]) (_:bj K C H a fp m) (_:i<m.rows.length) (_:Dn K H (dL f) v1) (_:Dn K H (dL g) v2) (_:eJ 100 f) (_:eJ 100 g) (_:0<=f.1) (_:bO (kU (m.own i) g) f=false) (_:∀ H',aF H H'->Q .bL H')
inductive wY (vs:aA) (H:Hp) (Q:VK) (_E:XK):Prop|mk (a fp m:_) (i j:Nat) (v f:_) (_:vs=[.ref a,av i,av j,v]) (_:bj K C H a fp m) (_:i<m.rows.length) (_:j<m.rows.length) (_:i≠j) (_:Dn K H (dL f) v) (_:eJ 100 f) (_:0<=f.1) (_:bO (kU (m.own i) (m.fb i j)) f=false) (_:∀ H' pI,qu K C H a fp (m.eE i j f) H' pI->Q .bL H')
inductive AI (vs:aA) (H:Hp) (Q:VK) (_E:XK):Prop|mk (a fp m:_) (i:Nat) (v1 v2 v3 f lo hi:_) (_:vs=[.ref a,av i,v1,v2,v3]) (_:bj K C H a fp m) (_:i<m.rows.length) (_:Dn K H (dL f) v1) (_:Dn K H (dL lo) v2) (_:Dn K H (dL hi) v3) (_:eJ 100 f) (_:eJ 100 lo) (_:eJ 100 hi) (_:bO hi lo=false) (_:0<=f.1) (_:bO (kU (m.own i) (m.eM i)) f=false) (_:∀ H' pI,qu K C H a fp (m.ft i (f,lo,hi)) H' pI->Q .bL H')
inductive nQ (vs:aA) (H:Hp) (Q:VK) (_E:XK):Prop|mk (a fp m:_) (i:Nat) (v f:_) (w st fl:Int) (_:vs=[.ref a,av i,v,.int w,.int st,.int fl]) (_:bj K C H a fp m) (_:i<m.rows.length) (_:Dn K H (dL f) v) (_:eJ 100 f) (_:0<=f.1) (_:(0<=w/\w<=9)) (_:(0<=st/\st<=3)) (_:(0<=fl/\fl<=3)) (_:∀ H' pI,qu K C H a fp (m.gy i (f,w,st,fl)) H' pI->Q .bL H')
inductive C7 (vs:aA) (H:Hp) (Q:VK) (_E:XK):Prop|mk (p xs r:_) (_:vs=[.ref p]) (_:bw K H p xs) (_:cn K H (r.map dL) xs) (_:(∀ f∈r,eJ 100 f)) (_:r.length<=7) (_:∀ H',aF H H'->Q (.bl (qB r)) H')
inductive He (vs:aA) (H:Hp) (Q:VK) (_E:XK):Prop|mk (p xs rs:_) (_:vs=[.ref p]) (_:bw K H p xs) (_:cn K H (rs.map tO) xs) (_:rs.length<=5) (_:(∀ r∈rs,1<=r.length/\r.length<=7)) (_:Q (.int (jP rs)) H)
inductive yI (vs:aA) (H:Hp) (Q:VK) (_E:XK):Prop|mk (a fp m p xs r:_) (_:vs=[.ref a,.ref p]) (_:bj K C H a fp m) (_:m.rows.length<4) (_:bw K H p xs) (_:cn K H (r.map dL) xs) (_:(∀ f∈r,eJ 100 f)) (_:2<=r.length) (_:r.length<=7) (_:qB r=true) (_:jP (m.rows++[r])<=400) (_:∀ H' pI,qu K C H a fp (m.ce r) H' pI->Q (av m.rows.length) H')
inductive BG (vs:aA) (H:Hp) (Q:VK) (_E:XK):Prop|mk (x dx:_) (most iU load:Int) (_:vs=[.ref x,.int most,.int iU,.int load]) (_:H x=some (.ins C dx [])) (_:H dx=some (.own x)) (_:(0<=most/\most<=4)) (_:(0<=iU/\iU<=30)) (_:(0<=load/\load<=30)) (_:∀ H' pI,qu K C H x [x,dx] (au.new most iU load) H' pI->Q .bL H')
end
def bG {a b:ag} (h:H a=some o) (k:H b=some u) (n:o≠u):a≠b:=λ e=>by
 subst e
 rw [h] at k
 exact n (aai k)
def oq {m:au} {C d u b a c e E z p q:ag} (h:some (HO.ins C d (ky m b a c e))=some (HO.ins C u (ky m E z p q))):d=u/\b=E/\a=z/\c=p/\e=q:=by
 simp only [ky,Option.some.injEq,HO.ins.injEq,List.cons.injEq,Prod.mk.injEq,ad3,and_true,V.ref.injEq] at h
 exact h
def uo.same {f:cM} (s:aF H H'):uo f H H':=λ b o h Z=>s b o h
theorem uo.upd {f:cM} {p:ag} (b:uo f H H') (a:p∈f):uo f H (upd H' p o):=λ c u h n=>by
 rw [aG (λ e=>n (by rw [e];exact a))]
 exact b c u h n
section
variable {K:aC} {C:ag} {H H1:Hp} {a:ag} {fp:cM} {m:au}
def Ek {F pm p ps pt:ag} {A:List (List Key×V)} {j:Nat} {f:cG} (S:bj K C H a fp m) (s:aF H H1) (Q:H a=some (.ins C F (ky m pm p ps pt))) (X:H p=some (.dT A)) (U:i<4) (W:j<4) (d:Dn K H1 (dL f) v) (o:eJ 100 f):qu K C H a fp (m.eE i j f) (upd H1 p (.dT (putK A (fq i j) v))) fp:=by
 obtain ⟨⟨uv,E,k,p9,qK,vm,vs,vt,N,O,u,Y,G,l,L,D,n1,n2,n3,x,y,B,r,M⟩,q1,q2,q3,q⟩:=S
 obtain ⟨rfl,rfl,rfl,rfl,rfl⟩:=oq (u.symm.trans Q)
 obtain rfl:N=A:=by
   have:=l.symm.trans X
   injection this with e
   injection e
 have T:cB K H1 (upd H1 k (.dT (putK N (fq i j) v))):=fc (s _ _ l) rfl
 have t:=(aF.ts (K:=K) s).trans T
 have w:∀ {b o},H b=some o->o ≠ .dT N->(upd H1 k (.dT (putK N (fq i j) v))) b=some o:=λ h n=>by
   rw [aG (bG h l n)]
   exact s _ _ h
 refine ⟨⟨⟨uv,E,k,p9,qK,vm,vs,vt,putK N (fq i j) v,O,w u nofun,w Y nofun,w G nofun,ai,w L nofun,w D nofun,n1,n2,n3,lP t x,jf t y,ib t B,λ I J=>?_,M.put U W v⟩,q1,q2,q3,⟨q.rows,q.len,λ I J g c=>?_,q.bx,q.aH⟩⟩,(uo.same s).upd (by rw [O];simp),t,λ b R => .inl R⟩
 .
  rw [za]
  by_cases e:I=(i:Int)/\J=(j:Int)
  . show mm K _ (if I=(i:Int)/\J=(j:Int) then some f else m.bF I J) _
    rw [aaq e,aaq (by rw [e.1,e.2])]
    exact Dn.ts T _ (gw f) d
  . show mm K _ (if I=(i:Int)/\J=(j:Int) then some f else m.bF I J) _
    rw [aal e,aal (λ z=>e (wZ z))]
    exact (r I J).ts t
 .
  have c:(if I=(i:Int)/\J=(j:Int) then some f else m.bF I J)=some g:=c
  split at c
  . cases c
    exact o
  . exact q.bF I J g c
def EY {F X W c pt:ag} {vs:aA} {z:cG×cG×cG} (M:bj K C H a fp m) (s:aF H H1) (J:H a=some (.ins C F (ky m X W c pt))) (f:H c=some (.lst vs)) (d:Dn K H1 (nJ z) v) (o:eJ 100 z.1/\eJ 100 z.2.1/\eJ 100 z.2.2):qu K C H a fp (m.ft i z) (upd H1 c (.lst (vs.set i v))) fp:=by
 obtain ⟨⟨uv,E,zp,p,qK,vm,A,vt,V,O,u,j,G,l,Y,D,N,U,g,r,x,B,k,I⟩,q1,q2,q3,q⟩:=M
 obtain ⟨rfl,rfl,rfl,rfl,rfl⟩:=oq (u.symm.trans J)
 obtain rfl:A=vs:=by
   have:=Y.symm.trans f
   injection this with e
   injection e
 have T:cB K H1 (upd H1 p (.lst (A.set i v))):=fc (s _ _ Y) rfl
 have t:=(aF.ts (K:=K) s).trans T
 have w:∀ {b o},H b=some o->b≠p->(upd H1 p (.lst (A.set i v))) b=some o:=λ h n=>by
   rw [aG n]
   exact s _ _ h
 refine ⟨⟨⟨uv,E,zp,p,qK,vm,A.set i v,vt,V,O,w u (bG u f nofun),w j (bG j f nofun),w G N,w l (bG l f nofun),ai,w D g.symm,N,U,g,lP t r,?_,ib t B,λ R S=>(k R S).ts t,I⟩,?_,q2,q3,⟨q.rows,q.len,q.bF,λ y Q=>?_,q.aH⟩⟩,(uo.same s).upd (by rw [O];simp),t,λ b L => .inl L⟩
 . show cn K _ ((m.bx.set i z).map nJ) _
   rw [adN]
   exact cn.set (i:=i) (jf t x) (Dn.ts T _ (rH z) d)
 . show (m.bx.set i z).length=_
   rw [abM];exact q1
 . rcases acr Q with h|h
   . exact q.bx y h
   . rw [h];exact o
def AC {F pm pf ps p:ag} {V:aA} {z:cG×Int×Int×Int} (M:bj K C H a fp m) (s:aF H H1) (J:H a=some (.ins C F (ky m pm pf ps p))) (c:H p=some (.lst V)) (d:Dn K H1 (gH (some z)) v) (o:eJ 100 z.1):qu K C H a fp (m.gy i z) (upd H1 p (.lst (V.set i v))) fp:=by
 obtain ⟨⟨uv,E,zp,Y,Q,vm,A,D,X,O,u,j,G,l,yH,f,W,N,g,r,x,B,k,I⟩,q1,q2,q3,q⟩:=M
 obtain ⟨rfl,rfl,rfl,rfl,rfl⟩:=oq (u.symm.trans J)
 obtain rfl:D=V:=by
   have:=f.symm.trans c
   injection this with e
   injection e
 have T:cB K H1 (upd H1 Q (.lst (D.set i v))):=fc (s _ _ f) rfl
 have t:=(aF.ts (K:=K) s).trans T
 have w:∀ {b o},H b=some o->b≠Q->(upd H1 Q (.lst (D.set i v))) b=some o:=λ h n=>by
   rw [aG n]
   exact s _ _ h
 refine ⟨⟨⟨uv,E,zp,Y,Q,vm,A,D.set i v,X,O,w u (bG u c nofun),w j (bG j c nofun),w G N,w l (bG l c nofun),w yH g,ai,W,N,g,lP t r,jf t x,?_,λ S U=>(k S U).ts t,I⟩,q1,?_,q3,⟨q.rows,q.len,q.bF,q.bx,λ y R=>?_⟩⟩,(uo.same s).upd (by rw [O];simp),t,λ b L => .inl L⟩
 . show cn K _ ((m.aH.set i (some z)).map gH) _
   rw [adN]
   exact cn.set (i:=i) (ib t B) (Dn.ts T _ (qS (some z)) d)
 . show (m.aH.set i (some z)).length=_
   rw [abM];exact q2
 . rcases acr R with h|h
   . exact q.aH y h
   . cases h;exact o
end
def Gj (xs:aA):pB xs (some 1) none=xs.tail:=by
 have e:HT.sY xs.length 0 (some 1)=min 1 xs.length:=HT.J2 _ _ 1
 unfold pB
 rw [e,HT.FW]
 cases xs with
 | nil=>rfl
 | cons x l =>
   have:min 1 (x::l).length=1:=by simp
   rw [this]
   simp
def aF.put {D:ag} (s:aF H H') (h:H D=none):aF H (upd H' D o):=λ b u e=>by
 rw [aG (aD e h)]
 exact s b u e
def zG {r:List cG} {x y:cG} (h:r[i]?=some x) (H:r[i+1]?=some y):(List.zipWith bO r r.tail)[i]?=some (bO x y):=by
 rw [adO,h]
 have:r.tail[i]?=some y:=by rw [acX];exact H
 rw [this]
section
variable {K:aC} {C:ag} {H H1:Hp} {a:ag} {fp:cM} {m:au}
def DZ {I B T l t p M Q N:ag} {Y vs vt:aA} {r:List cG} (hh:bj K C H a fp m) (s:aF H H1) (ha:H a=some (.ins C I (ky m B T l t))) (eB:H B=some (.lst Y)) (F:H l=some (.lst vs)) (D:H t=some (.lst vt)) (w:H p=none) (Kg:H1 p=some (.lst (Y++[.ref M]))) (dr:Dn K H1 (tO r) (.ref M)) (kj:m.rows.length<4) (hr:∀ f∈r,eJ 100 f) (hl:2<=r.length/\r.length<=7) (G:∀ H',Dn K H' (dL (0,1)) (.ref N)) (Eg:upd H1 a (.ins C I (bK "mark_rows" (.ref p) (ky m B T l t))) Q=none) :
   ∃ pI,qu K C H a fp (m.ce r) (upd (upd (upd (upd H1 a (.ins C I (bK "mark_rows" (.ref p) (ky m B T l t)))) Q (.tup [.ref N,.ref N,.ref N])) l (.lst (vs++[.ref Q]))) t (.lst (vt++[.bL]))) pI:=by
 obtain ⟨⟨U,El,E,c,q,P5,A,g,nO,oJ,u,J,M9,L,yH,DG,n1,n2,O,dm,ds,dt,df,fk⟩,q1,q2,q3,v⟩:=hh
 obtain ⟨rfl,rfl,rfl,rfl,rfl⟩:=oq (u.symm.trans ha)
 obtain rfl:P5=Y:=by
   have:=M9.symm.trans eB
   injection this with e
   injection e
 obtain rfl:A=vs:=by
   have:=yH.symm.trans F
   injection this with e
   injection e
 obtain rfl:g=vt:=by
   have:=DG.symm.trans D
   injection this with e
   injection e
 let H2:=upd H1 a (.ins C U (bK "mark_rows" (.ref p) (ky m El E c q)))
 let H3:=upd H2 Q (.tup [.ref N,.ref N,.ref N])
 let H4:=upd H3 c (.lst (A++[.ref Q]))
 let H5:=upd H4 q (.lst (g++[.bL]))
 have W:∀ {b o},H1 b=some o->b≠a->H2 b=some o:=λ h n=>by show upd _ _ _ _=_;rw [aG n];exact h
 have S:aF H2 H3:=am Eg
 have na:H2 a=some (.ins C U (bK "mark_rows" (.ref p) (ky m El E c q))):=ai
 have O0:=bG u F nofun
 have Rj:=bG u D nofun
 have P8:H2 c=some (.lst A):=W (s _ _ F) O0.symm
 have Su:H2 q=some (.lst g):=W (s _ _ D) Rj.symm
 have Ux:=S _ _ P8
 have UJ:=S _ _ Su
 have VU:H4 q=some (.lst g):=by show upd _ _ _ _=_;rw [aG O.symm];exact UJ
 have V:cB K H1 H2:=fc (s _ _ u) rfl
 have X:cB K H3 H4:=fc Ux rfl
 have Lg:cB K H4 H5:=fc VU rfl
 have Xm:=X.trans Lg
 have Xs:=V.trans ((aF.ts S).trans Xm)
 have k:=(aF.ts (K:=K) s).trans Xs
 have w5:∀ {b o},H2 b=some o->b≠c->b≠q->H5 b=some o:=λ h x y=>by
   show upd _ _ _ _=_
   rw [aG y]
   show upd _ _ _ _=_
   rw [aG x]
   exact S _ _ h
 have wo:∀ {b o},H b=some o->b≠a->b≠c->b≠q->H5 b=some o:=λ h x y z=>w5 (W (s _ _ h) x) y z
 have R:p≠a:=(aD u w).symm
 have W5:p≠c:=(aD F w).symm
 have X6:p≠q:=(aD D w).symm
 have ab:Q≠c:=(aD P8 Eg).symm
 have Ub:H5 c=some (.lst (A++[.ref Q])):=by
   show upd _ _ _ _=_
   rw [aG O]
   exact ai
 refine ⟨[a,U,p,E,c,q],⟨⟨U,p,E,c,q,P5++[.ref M],A++[.ref Q],g++[.bL],nO,rfl,?_,wo J (bG J u nofun) (bG J F nofun) (bG J D nofun),w5 (W Kg R) W5 X6,wo L (bG L u nofun) (bG L F nofun) (bG L D nofun),Ub,ai,W5,X6,O,?_,?_,?_,λ i j=>(df i j).ts k,fk⟩,?_,?_,?_,?_⟩,?_,k,?_⟩
 . exact w5 na O0 Rj
 . show cn K H5 ((m.rows++[r]).map tO) _
   rw [aab]
   exact (lP k dm).snoc (Dn.ts Xs _ (yZ r) dr)
 . show cn K H5 ((m.bx++[((0,1),(0,1),(0,1))]).map nJ) _
   rw [aab]
   exact (jf k ds).snoc (Dn.ts Xm _ (rH _) (Gs (s:=((0,1),(0,1),(0,1))) (cH.of ai) (G _) (G _) (G _)))
 . show cn K H5 ((m.aH++[none]).map gH) _
   rw [aab]
   exact (ib k dt).snoc rfl
 . show (m.bx++[_]).length=(m.rows++[r]).length
   rw [aad,aad,q1];rfl
 . show (m.aH++[_]).length=(m.rows++[r]).length
   rw [aad,aad,q2];rfl
 . show (m.rows++[r]).length<=4
   rw [aad];exact kj
 .
  refine ⟨λ x d=>?_,λ x d=>?_,v.bF,λ x d=>?_,λ x d=>?_⟩
  . rcases aaD.mp d with h|h
    . exact v.rows x h
    . rw [T1.mp h];exact hr
  . rcases aaD.mp d with h|h
    . exact v.len x h
    . rw [T1.mp h];exact hl
  . rcases aaD.mp d with h|h
    . exact v.bx x h
    . rw [T1.mp h];exact ⟨Ff,Ff,Ff⟩
  . rcases aaD.mp d with h|h
    . exact v.aH x h
    . cases T1.mp h
 .
  intro b o h n
  rw [oJ] at n
  simp only [aaa,aae,aaX,acG] at n
  exact wo h n.1 n.2.2.2.2.1 n.2.2.2.2.2
 .
  intro b hb
  rw [oJ]
  simp only [aaa,aae,aaX] at hb |-
  rcases hb with rfl|rfl|rfl|rfl|rfl|rfl
  . exact .inl (.inl rfl)
  . exact .inl (.inr (.inl rfl))
  . exact .inr w
  . exact .inl (.inr (.inr (.inr (.inl rfl))))
  . exact .inl (.inr (.inr (.inr (.inr (.inl rfl)))))
  . exact .inl (.inr (.inr (.inr (.inr (.inr rfl)))))
end
structure ju (K:aC) (C x dx:ag) (H H':Hp) (fs:List (Str×V)):Prop where
 st:∀ b o,H b=some o->b≠x->H' b=some o
 ts:cB K H H'
 at_:H' x=some (.ins C dx fs)
section
variable {K:aC} {C x dx:ag} {H H':Hp} {fs fs':List (Str×V)}
def ju.start (h:H x=some (.ins C dx fs)):ju K C x dx H H fs:=⟨λ Z Z h Z=>h,cB.refl _,h⟩
def ju.put (B:ju K C x dx H H' fs):ju K C x dx H (upd H' x (.ins C dx fs')) fs':=⟨λ b o h n=>by rw [aG n];exact B.st b o h n,B.ts.trans (fc B.at_ rfl),ai⟩
def ju.new {p:ag} (B:ju K C x dx H H' fs) (a:H' p=none):ju K C x dx H (upd H' p o) fs:=⟨λ b u h n=>by rw [aG (aD (B.st b u h n) a)];exact B.st b u h n,B.ts.trans (aF.ts (am a)),by rw [aG (aD B.at_ a)];exact B.at_⟩
def ju.keep {b:ag} (B:ju K C x dx H H' fs) (h:H' b=some o) (n:b≠x):(upd H' x u) b=some o:=by rw [aG n];exact h
theorem ju.none {p:ag} (B:ju K C x dx H H' fs) (h:H' p=none):H p=Option.none:=by
 cases e:H p with
 | none=>rfl
 | some o =>
   by_cases q:p=x
   . rw [q,B.at_] at h;cases h
   . rw [B.st p o e q] at h;cases h
def ju.ne {p:ag} (B:ju K C x dx H H' fs) (h:H' p=Option.none):p≠x:=λ q=>by rw [q,B.at_] at h;cases h
def BW {a:Type} {p:a->Prop} (x:a) (h:x∈([]:List a)):p x:=absurd h aae
def FO {p d a c:ag} {most iU load:Int} (B:ju K C x dx H H' (ky (au.new most iU load) p d a c)) (q:H x=some (.ins C dx fs')) (j:H dx=some (.own x)) (i:H' p=some (.lst [])) (k:H' d=some (.dT [])) (l:H' a=some (.lst [])) (m:H' c=some (.lst [])) (N:H p=none) (r:H d=none) (s:H a=none) (t:H c=none) (E:p≠a) (f:p≠c) (g:a≠c) :
   qu K C H x [x,dx] (au.new most iU load) H' [x,dx,p,d,a,c]:=by
 refine ⟨⟨⟨dx,p,d,a,c,[],[],[],[],rfl,B.at_,B.st _ _ j (bG j q nofun),i,k,l,m,E,f,g,rfl,rfl,rfl,λ Z Z=>trivial,acP,BW⟩,rfl,rfl,aaV _,⟨BW,BW,λ Z Z Z h=>(by cases h),BW,λ Z h=>absurd h aae⟩⟩,?_,B.ts,?_⟩
 . intro b o h n
   simp only [aaa,aae,aaX,acG] at n
   exact B.st b o h n.1
 .
  intro b e
  simp only [aaa,aae,aaX] at e |-
  rcases e with rfl|rfl|rfl|rfl|rfl|rfl
  . exact .inl (.inl rfl)
  . exact .inl (.inr rfl)
  . exact .inr N
  . exact .inr r
  . exact .inr s
  . exact .inr t
end
def lt1000 {n:Nat} (h:Nat.ble (n+1) 1000=true):n<1000:=acL h
def BD (i j:Int):Int:=reduceHash (Builtin.Tuple.tupleHashOf [hashInt i,hashInt j])
def DJ:∀ i j I J:Fin 4,BD (i.val:Int) (j.val:Int)=BD (I.val:Int) (J.val:Int)->i=I/\j=J:=by decide +kernel
def CG (i:Nat) (H:i<4) (j:Nat) (c:j<4) (I:Nat) (W:I<4) (J:Nat) (M:J<4) (h:BD (i:Int) (j:Int)=BD (I:Int) (J:Int)):i=I/\j=J:=by
 obtain ⟨a,b⟩:=DJ ⟨i,H⟩ ⟨j,c⟩ ⟨I,W⟩ ⟨J,M⟩ h
 exact ⟨abK Fin.val a,abK Fin.val b⟩
def ni.hash {P:bh} {w:bf} {A:List (List Key×V)} (h:ni A):(A.map λ K=>tupleKeyHash (cy P w) K.1).Nodup:=by
 have H:=ac1.mp h.1
 refine ac1.mpr (H.imp_of_mem λ {a b} d f n e=>?_)
 obtain ⟨i,j,g,k,E⟩:=h.2 a d
 obtain ⟨I,J,W,M,c⟩:=h.2 b f
 rw [E,c] at e
 obtain ⟨z,l⟩:=CG i g j k I W J M e
 exact n (by rw [E,c,z,l])
def Jq:Option Int->V
 | none => .bL
 | some n => .int n
def AZ {U:St} {t:TE} {k:Nat} {o:Option Int} {d:Int} (a:U[k]?=some (some (Jq o))) (b:∀ q:VK,q (.int d) H->t U H q) (h:Q (.int (o.getD d)) H) :
   YI (FH (PB (λ x y H Q=>y = .bL/\Q (.bl (decide (x = .bL))) H) (JB k) (tC .bL))) t (JB k) U H Q:=by
 refine ⟨_,by rw [a],rfl,_,rfl,?_⟩
 cases o with
 | none=>exact mU rfl (b Q h)
 | some n=>exact mr nofun ⟨_,a,h⟩
def au.with (m:au) (x y z:Option Int):au:={ m with most:=x.getD m.most,iU:=y.getD m.iU,load:=z.getD m.load }
def au.Rb (m:au):Prop:=(0<=m.most/\m.most<=4)/\(0<=m.iU/\m.iU<=30)/\(0<=m.load/\m.load<=30)
inductive Ce (K:aC) (C:ag) (vs:aA) (H:Hp) (Q:VK) (_E:XK):Prop|mk (a fp m x y z:_) (_:vs=[.ref a,Jq x,Jq y,Jq z]) (_:bj K C H a fp m) (_:(m.with x y z).Rb) (_:∀ b H' pI,aF H H'->bj K C H' b pI (m.with x y z)->(∀ c∈pI,H c=none)->Q (.ref b) H')
def Ih {K:aC} {C:ag} {k:Hp} {a x d:ag} {fp:cM} {m m':au} {l c L b:ag} {v vs g:aA} {A:List (List Key×V)} {E u o w y:ag} (hh:bj K C H a fp m) (ha:H a=some (.ins C E (ky m u o w y))) (W:H u=some (.lst v)) (iz:H o=some (.dT A)) (X:H w=some (.lst vs)) (I:H y=some (.lst g)) (s:aF H k) (e:m'.rows=m.rows/\m'.bF=m.bF/\m'.bx=m.bx/\m'.aH=m.aH) (B:ju K C x d k H' (ky m' l c L b)) (jm:H' d=some (.own x)) (h1:H' l=some (.lst v)) (h2:H' c=some (.dT A)) (h3:H' L=some (.lst vs)) (h4:H' b=some (.lst g)) (S:l≠L) (T:l≠b) (U:L≠b):bj K C H' x [x,d,l,c,L,b] m':=by
 obtain ⟨⟨uv,El,zp,p9,qK,p,h,D,n,oJ,uf,G,M,lW,yH,F,n1,n2,n3,N,O,Q,J,Y⟩,q1,q2,q3,q⟩:=hh
 obtain ⟨rfl,rfl,rfl,rfl,rfl⟩:=oq (uf.symm.trans ha)
 obtain rfl:p=v:=by
   have:=M.symm.trans W
   injection this with e
   injection e
 obtain rfl:h=vs:=by
   have:=yH.symm.trans X
   injection this with e
   injection e
 obtain rfl:D=g:=by
   have:=F.symm.trans I
   injection this with e
   injection e
 obtain rfl:n=A:=by
   have:=lW.symm.trans iz
   injection this with e
   injection e
 have t:=(aF.ts (K:=K) s).trans B.ts
 obtain ⟨r,z,R,f⟩:=e
 refine ⟨⟨d,l,c,L,b,p,h,D,n,rfl,B.at_,jm,h1,h2,h3,h4,S,T,U,?_,?_,?_,λ i j=>?_,Y⟩,?_,?_,?_,⟨?_,?_,?_,?_,?_⟩⟩
 . rw [r];exact lP t N
 . rw [R];exact jf t O
 . rw [f];exact ib t Q
 . rw [z];exact (J i j).ts t
 . rw [r,R];exact q1
 . rw [r,f];exact q2
 . rw [r];exact q3
 . rw [r];exact q.rows
 . rw [r];exact q.len
 . rw [z];exact q.bF
 . rw [R];exact q.bx
 . rw [f];exact q.aH
def xu {ns:List Int} {r:Int} (H:0<=r) (a:r<ns.length):∃ z∈ns,tM (ns.map V.int) r=some (.int z):=by
 have h:r.toNat<ns.length:=by lia
 have e:(ns.map V.int)[r.toNat]?=some (.int (ns[r.toNat]'h)):=by simp [h]
 have E:=bB e
 rw [acS H] at E
 exact ⟨_,aaf h,E⟩
inductive Ke (vs:aA) (H:Hp) (Q:VK) (_E:XK):Prop|mk (c k n:Int) (_:vs=[.int c,.int k,.int n]) (_:0<=k) (_:k<=1000) (_:0<n) (_:∀ r,0<=r->r<n->Q (.int r) H)
structure u9 where
 a:Int
 b:Int
 t:Int
 d:Int
structure u9.Ok (s:u9):Prop where
 a0:1<=s.a
 a1:s.a<=10 ^ 9
 b0:1<=s.b
 b1:s.b<=10 ^ 9
 t0 : -(10 ^ 9)<=s.t
 t1:s.t<=10 ^ 9
 d0:1<=s.d
 d1:s.d<=10 ^ 9
abbrev u9.vs (s:u9):aA:=[.int s.a,.int s.b,.int s.t,.int s.d]
inductive Fp (vs:aA) (H:Hp) (Q:VK) (_E:XK):Prop|mk (c:Int) (_:vs=[.int c]) (_:∀ p H' (s:u9),s.Ok->aF H H'->H' p=some (.tup s.vs)->Q (.ref p) H')
def cC (n parts:Int) (s:u9):Int:=n * s.a * s.d+parts * s.t * s.b
def cm (parts:Int) (s:u9):Int:=parts * s.b * s.d
def aY (n parts:Int) (s:u9):cG:=nf (cC n parts s) (cm parts s)
inductive J9 (K:aC) (vs:aA) (H:Hp) (Q:VK) (_E:XK):Prop|mk (num parts p:_) (s:u9) (_:vs=[.int num,.int parts,.ref p]) (_:cH K H p s.vs) (_:s.Ok) (_:Bd 30 num) (_:0<parts) (_:Bd 30 parts) (_:∀ q H',aF H H'->H' q=some (.tup [.int (aY num parts s).1,.int (aY num parts s).2])->Q (.ref q) H')
def dP {parts:Int} {s:u9} (h:s.Ok) (H:0<parts):0<cm parts s:=aaP (aaP H (by have:=h.b0;lia)) (by have:=h.d0;lia)
def IJ {x:Int} (h : -(10 ^ 9)<=x) (H:x<=10 ^ 9):Bd 30 x:=by show x.natAbs<2 ^ 30;lia
section
variable {s:u9}
def u9.Ok.ba (h:s.Ok):Bd 30 s.a:=IJ (by have:=h.a0;lia) h.a1
def u9.Ok.bb (h:s.Ok):Bd 30 s.b:=IJ (by have:=h.b0;lia) h.b1
def u9.Ok.bt (h:s.Ok):Bd 30 s.t:=IJ h.t0 h.t1
def u9.Ok.bd (h:s.Ok):Bd 30 s.d:=IJ (by have:=h.d0;lia) h.d1
end
def qM {N parts:Int} {s:u9} {n:Nat} (h:s.Ok) (H:0<parts) (g:Bd n N) (B:Bd n parts):eJ (n+61) (aY N parts s):=by
 have F:=gZ (t:=cC N parts s) (dP h H)
 have c:Bd (n+60) (N * s.a * s.d):=((g.mul h.ba).mul h.bd).mono (by lia)
 have e:Bd (n+60) (parts * s.t * s.b):=((B.mul h.bt).mul h.bb).mono (by lia)
 have f:Bd (n+60) (cm parts s):=((B.mul h.bb).mul h.bd).mono (by lia)
 exact ⟨(F.QZ (c.add e)).mono (by lia),(F.Rf f).mono (by lia),F.pos⟩
def j3 {x y parts:Int} {s:u9} (h:s.Ok) (b:0<parts):bO (aY x parts s) (aY y parts s)=decide (x<y):=by
 have F:=gZ (t:=cC x parts s) (dP h b)
 have G:=gZ (t:=cC y parts s) (dP h b)
 have H:=dP h b
 have e:(aY x parts s).1 * (aY y parts s).2<(aY y parts s).1 * (aY x parts s).2↔cC x parts s<cC y parts s:=by
   have c:(aY x parts s).1 * cm parts s=cC x parts s * (aY x parts s).2:=F.jv
   have C:(aY y parts s).1 * cm parts s=cC y parts s * (aY y parts s).2:=G.jv
   have p:0<(aY x parts s).2:=F.pos
   have f:0<(aY y parts s).2:=G.pos
   generalize (aY x parts s).1=q at c |-
   generalize (aY x parts s).2=r at c p |-
   generalize (aY y parts s).1=Q at C |-
   generalize (aY y parts s).2=r2 at C f |-
   generalize cC x parts s=T at c |-
   generalize cC y parts s=g at C |-
   generalize cm parts s=B at c C H
   have k:(q * r2) * B=T * (r * r2):=by rw [aaA,c,aa4]
   have K:(Q * r) * B=g * (r * r2):=by rw [aaA,C,aa4,ab1 r2 r]
   have R:0<r * r2:=aaP p f
   constructor
   . intro l
     have:=abq l H
     rw [k,K] at this
     exact abu this (abf R)
   . intro l
     have:=abq l R
     rw [<- k,<- K] at this
     exact abu this (abf H)
 unfold bO
 refine abU.mpr (e.trans ?_)
 have X:0<s.a * s.d:=aaP (by have:=h.a0;lia) (by have:=h.d0;lia)
 unfold cC
 rw [aa4 x,aa4 y]
 constructor
 . intro l
   exact abu (by lia:x * (s.a * s.d)<y * (s.a * s.d)) (abf X)
 . intro l
   have:=abq l X
   lia
abbrev FL (z:Int×Int×Int×Int):aA:=[.int z.1,.int z.2.1,.int z.2.2.1,.int z.2.2.2]
structure Ps (z:Int×Int×Int×Int):Prop where
 h:0<=z.1/\z.1<=25
 w:0<=z.2.1/\z.2.1<=9
 s:0<=z.2.2.1/\z.2.2.1<=3
 f:0<=z.2.2.2/\z.2.2.2<=3
inductive pT (vs:aA) (H:Hp) (Q:VK) (_E:XK):Prop|mk (a b c:Int) (i:Nat) (_:vs=[.int a,.int b,.int c,av i]) (_:i<4) (_:Q .bL H) (_:∀ p z,Ps z->H p=none->Q (.ref p) (upd H p (.tup (FL z))))
def gp (H:Hp) (L:cM):Hp:=λ b=>if b∈L then none else H b
section
variable {H H':Hp} {L:cM} {a:ag} {o:HO}
def cJ:aF (gp H L) H:=λ b u h=>by
 unfold gp at h
 split at h
 . cases h
 . exact h
def sG (h:H a=some o) (n:a∉L):gp H L a=some o:=by unfold gp;rw [aal n];exact h
def qG (h:a∈L):gp (upd H a o) L=gp H L:=by
 funext b
 unfold gp
 split
 . rfl
 . rename_i n
   rw [aG (λ e=>n (by rw [e];exact h))]
def kH (s:aF H H'):aF (gp H L) (gp H' L):=λ b u h=>by
 unfold gp at h |-
 split at h
 . cases h
 . rename_i n
   rw [aal n]
   exact s b u h
end
structure ay where
 marks:List (List Int)
 di:List (Int×Int×Int)
 aH:List (Option (Int×Int×Int×Int))
 bF:Nat->Nat->Option Int
 scale:u9
 bounds:Int×Int×Int
abbrev Gx (z:Int×Int×Int):PyData:=.tuple [.int z.1,.int z.2.1,.int z.2.2]
abbrev stI:Option (Int×Int×Int×Int)->PyData
 | none => .none
 | some z => .tuple [.int z.1,.int z.2.1,.int z.2.2.1,.int z.2.2.2]
abbrev xt (l:List Int):PyData:=.list (l.map PyData.int)
def mC (b c d a f p:ag):List (Key×V) :=
 [(.inr "marks",.ref b),(.inr "sky",.ref c),(.inr "stoves",.ref d),(.inr "flows",.ref a),(.inr "scale",.ref f),(.inr "bounds",.ref p)]
structure TC (K:aC) (H:Hp) (p pm ps pt pf fj pb:ag) (vm vs vt:aA) (aK:List (List Key×V)) (m:ay):Prop where
 hp:H p=some (.dK (mC pm ps pt pf fj pb))
 eB:H pm=some (.lst vm)
 fF:H ps=some (.lst vs)
 dU:H pt=some (.lst vt)
 iz:H pf=some (.dT aK)
 n1:pm≠ps
 n2:pm≠pt
 n3:ps≠pt
 dm:cn K (gp H [p,pm,ps,pt,pf]) (m.marks.map xt) vm
 ds:cn K (gp H [p,pm,ps,pt,pf]) (m.di.map Gx) vs
 dt:cn K (gp H [p,pm,ps,pt,pf]) (m.aH.map stI) vt
 df:∀ i j:Nat,i<4->j<4->fG aK (fq i j)=(m.bF i j).map V.int
 fk:ni aK
 sc:cH K (gp H [p,pm,ps,pt,pf]) fj m.scale.vs
 bo:cH K (gp H [p,pm,ps,pt,pf]) pb [.int m.bounds.1,.int m.bounds.2.1,.int m.bounds.2.2]
section
variable {K:aC} {H H':Hp} {p pm ps pt pf fj pb:ag} {vm vs vt:aA} {aK:List (List Key×V)} {m:ay}
theorem TC.same (c:TC K H p pm ps pt pf fj pb vm vs vt aK m) (s:aF H H'):TC K H' p pm ps pt pf fj pb vm vs vt aK m :=
 ⟨s _ _ c.hp,s _ _ c.eB,s _ _ c.fF,s _ _ c.dU,s _ _ c.iz,c.n1,c.n2,c.n3,cn.same (kH s) _ c.dm,cn.same (kH s) _ c.ds,cn.same (kH s) _ c.dt,c.df,c.fk,(kH s).tup c.sc,(kH s).tup c.bo⟩
def TC.Fu (c:TC K H p pm ps pt pf fj pb vm vs vt aK m) {x:V} (d:Dn K (gp H [p,pm,ps,pt,pf]) (xt l) x) :
   TC K (upd H pm (.lst (vm++[x]))) p pm ps pt pf fj pb (vm++[x]) vs vt aK { m with marks:=m.marks++[l]}:=by
 have e:gp (upd H pm (.lst (vm++[x]))) [p,pm,ps,pt,pf]=gp H [p,pm,ps,pt,pf]:=qG (by simp)
 refine ⟨by rw [aG (bG c.hp c.eB nofun)];exact c.hp,ai,by rw [aG c.n1.symm];exact c.fF,by rw [aG c.n2.symm];exact c.dU,by rw [aG (bG c.iz c.eB nofun)];exact c.iz,c.n1,c.n2,c.n3,?_,by rw [e];exact c.ds,by rw [e];exact c.dt,c.df,c.fk,by rw [e];exact c.sc,by rw [e];exact c.bo⟩
 rw [e]
 show cn K _ ((m.marks++[l]).map xt) _
 rw [aab]
 exact c.dm.snoc d
def TC.K8 (c:TC K H p pm ps pt pf fj pb vm vs vt aK m) {l:Int×Int×Int} {x:V} (d:Dn K (gp H [p,pm,ps,pt,pf]) (Gx l) x) :
   TC K (upd H ps (.lst (vs++[x]))) p pm ps pt pf fj pb vm (vs++[x]) vt aK { m with di:=m.di++[l]}:=by
 have e:gp (upd H ps (.lst (vs++[x]))) [p,pm,ps,pt,pf]=gp H [p,pm,ps,pt,pf]:=qG (by simp)
 refine ⟨by rw [aG (bG c.hp c.fF nofun)];exact c.hp,by rw [aG c.n1];exact c.eB,ai,by rw [aG c.n3.symm];exact c.dU,by rw [aG (bG c.iz c.fF nofun)];exact c.iz,c.n1,c.n2,c.n3,by rw [e];exact c.dm,?_,by rw [e];exact c.dt,c.df,c.fk,by rw [e];exact c.sc,by rw [e];exact c.bo⟩
 rw [e]
 show cn K _ ((m.di++[l]).map Gx) _
 rw [aab]
 exact c.ds.snoc d
def TC.Gp (c:TC K H p pm ps pt pf fj pb vm vs vt aK m) {l:Option (Int×Int×Int×Int)} {x:V} (d:Dn K (gp H [p,pm,ps,pt,pf]) (stI l) x) :
   TC K (upd H pt (.lst (vt++[x]))) p pm ps pt pf fj pb vm vs (vt++[x]) aK { m with aH:=m.aH++[l]}:=by
 have e:gp (upd H pt (.lst (vt++[x]))) [p,pm,ps,pt,pf]=gp H [p,pm,ps,pt,pf]:=qG (by simp)
 refine ⟨by rw [aG (bG c.hp c.dU nofun)];exact c.hp,by rw [aG c.n2];exact c.eB,by rw [aG c.n3];exact c.fF,ai,by rw [aG (bG c.iz c.dU nofun)];exact c.iz,c.n1,c.n2,c.n3,by rw [e];exact c.dm,by rw [e];exact c.ds,?_,c.df,c.fk,by rw [e];exact c.sc,by rw [e];exact c.bo⟩
 rw [e]
 show cn K _ ((m.aH++[l]).map stI) _
 rw [aab]
 exact c.dt.snoc d
def ay.eE (m:ay) (i j:Nat) (k:Int):ay:={ m with bF:=λ a b=>if a=i/\b=j then some k else m.bF a b }
theorem TC.eE (c:TC K H p pm ps pt pf fj pb vm vs vt aK m) {j:Nat} {k:Int} (f:i<4) (g:j<4) :
   TC K (upd H pf (.dT (putK aK (fq i j) (.int k)))) p pm ps pt pf fj pb vm vs vt (putK aK (fq i j) (.int k)) (m.eE i j k):=by
 have e:gp (upd H pf (.dT (putK aK (fq i j) (.int k)))) [p,pm,ps,pt,pf]=gp H [p,pm,ps,pt,pf]:=qG (by simp)
 refine ⟨by rw [aG (bG c.hp c.iz nofun)];exact c.hp,by rw [aG (bG c.eB c.iz nofun)];exact c.eB,by rw [aG (bG c.fF c.iz nofun)];exact c.fF,by rw [aG (bG c.dU c.iz nofun)];exact c.dU,ai,c.n1,c.n2,c.n3,by rw [e];exact c.dm,by rw [e];exact c.ds,by rw [e];exact c.dt,λ a b h d=>?_,c.fk.put f g _,by rw [e];exact c.sc,by rw [e];exact c.bo⟩
 rw [za]
 show _=(if a=i/\b=j then some k else m.bF a b).map V.int
 by_cases z:a=i/\b=j
 . rw [aaq z,aaq (by rw [z.1,z.2])];rfl
 . rw [aal z,aal (λ y=>z (by have:=wZ y;lia))]
   exact c.df a b h d
end
def on (l:List Int):Prop:=∀ i x y,l[i]?=some x->l[i+1]?=some y->x<y
structure Cs (n:Nat) (l:List Int):Prop where
 two:2<=l.length
 most:l.length<=if n<=2 then 7 else 5
 Ol:on l
 bd:∀ x∈l,-200<=x/\x<=200
structure ay.Ok (n i:Nat) (m:ay):Prop where
 lm:m.marks.length=i
 ls:m.di.length=i
 lt:m.aH.length=i
 rows:∀ l∈m.marks,Cs n l
 di:∀ z∈m.di,(0<=z.1/\z.1<=3)/\(-30<=z.2.1/\z.2.2<=60)/\z.2.1<=z.2.2/\z.2.2<=z.2.1+30
 aH:∀ z,some z∈m.aH->Ps z
 bF:∀ a b,a<i->b<n->a≠b->∃ k,m.bF a b=some k/\0<=k/\k<=3
 scale:m.scale.Ok
 bounds:(0<=m.bounds.1/\m.bounds.1<=4)/\(0<=m.bounds.2.1/\m.bounds.2.1<=30)/\(0<=m.bounds.2.2/\m.bounds.2.2<=30)
def iA (K:aC) (H:Hp) (p:ag) (m:ay):Prop:=∃ d e g c f b v V h a,TC K H p d e g c f b v V h a m
theorem iA.same {K:aC} {p:ag} {m:ay} (h:iA K H p m) (s:aF H H'):iA K H' p m:=by
 obtain ⟨e,g,i,d,f,b,v,V,j,a,c⟩:=h
 exact ⟨e,g,i,d,f,b,v,V,j,a,c.same s⟩
section
variable {H:Hp} {p pm ps pt pf fj pb:ag}
def bW (h:H p=some (.dK (mC pm ps pt pf fj pb))):gk H p (.str "marks") (some (.ref pm)):=gk.k (k:=.inr "marks") h
def sQ (h:H p=some (.dK (mC pm ps pt pf fj pb))):gk H p (.str "sky") (some (.ref ps)):=gk.k (k:=.inr "sky") h
def dI (h:H p=some (.dK (mC pm ps pt pf fj pb))):gk H p (.str "stoves") (some (.ref pt)):=gk.k (k:=.inr "stoves") h
def mK (h:H p=some (.dK (mC pm ps pt pf fj pb))):gk H p (.str "flows") (some (.ref pf)):=gk.k (k:=.inr "flows") h
def sy (h:H p=some (.dK (mC pm ps pt pf fj pb))):gk H p (.str "scale") (some (.ref fj)):=gk.k (k:=.inr "scale") h
def iY (h:H p=some (.dK (mC pm ps pt pf fj pb))):gk H p (.str "bounds") (some (.ref pb)):=gk.k (k:=.inr "bounds") h
end
def IL {j:Nat} (h:j<l.length):tM (l.map V.int) ((0:Int)+(j:Int))=some (.int l[j]):=by
 rw [aan]
 exact bB (by rw [RI,abD h];rfl)
def JI {n:Nat} (h:1<=n) (H:n<=4) {x:Int} (e:x=(n:Int) - 1):tM [V.int 6,.int 6,.int 4,.int 4] x=some (.int (if n<=2 then 6 else 4)):=by
 subst e
 match n,h,H with
 | 1,_,_=>rfl
 | 2,_,_=>rfl
 | 3,_,_=>rfl
 | 4,_,_=>rfl
def xv {j:Nat} {z:Int} (h:on l) (d:l.length=j+1) (f:l[j]'(by lia)<z):on (l++[z]):=by
 intro i x y a H
 by_cases c:i+1<l.length
 . rw [aaM (by lia)] at a
   rw [aaM c] at H
   exact h i x y a H
 .
  have b:i+1<(l++[z]).length:=(Yp.mp H).1
  rw [aad,abx] at b
  have e:i=j:=by lia
  subst e
  rw [aaM (by lia),abD (by lia)] at a
  rw [aaL (by lia),d,Nat.sub_self] at H
  have a:=aai a
  have H:z=y:=aai H
  rw [<- a,<- H]
  exact f
theorem ay.Ok.marks {n:Nat} {m:ay} {z:Int×Int×Int} {t:Option (Int×Int×Int×Int)} {fl:Nat->Nat->Option Int} (h:m.Ok n i) (d:Cs n l) (f:(0<=z.1/\z.1<=3)/\(-30<=z.2.1/\z.2.2<=60)/\z.2.1<=z.2.2/\z.2.2<=z.2.1+30) (e:∀ y,t=some y->Ps y) (c:∀ a b,a<i+1->b<n->a≠b->∃ k,fl a b=some k/\0<=k/\k<=3) :
   ay.Ok n (i+1) { m with marks:=m.marks++[l],di:=m.di++[z],aH:=m.aH++[t],bF:=fl }:=by
 refine ⟨?_,?_,?_,λ x H=>?_,λ x H=>?_,λ x H=>?_,c,h.scale,h.bounds⟩
 . show (m.marks++[l]).length=_
   rw [aad,h.lm];rfl
 . show (m.di++[z]).length=_
   rw [aad,h.ls];rfl
 . show (m.aH++[t]).length=_
   rw [aad,h.lt];rfl
 . rcases aaD.mp H with q|q
   . exact h.rows x q
   . rw [T1.mp q];exact d
 . rcases aaD.mp H with q|q
   . exact h.di x q
   . rw [T1.mp q];exact f
 . rcases aaD.mp H with q|q
   . exact h.aH x q
   . exact e x (T1.mp q).symm
theorem Cz {K:aC}:∀ l:List Int,cn K H (l.map PyData.int) (l.map V.int)
 | []=>rfl
 | x::l=>⟨.int x,l.map V.int,rfl,rfl,Cz l⟩
def TC.Ks {K:aC} {p d e f a F g b:ag} {v vs i:aA} {A:List (List Key×V)} {m:ay} (c:TC K H p d e f a F g v vs i A m) (h:H b=none):b∉[p,d,e,f,a]:=by
 simp only [aaa,aae,aaX,acG]
 exact ⟨(aD c.hp h).symm,(aD c.eB h).symm,(aD c.fF h).symm,(aD c.dU h).symm,(aD c.iz h).symm⟩
def Lf (H:Hp) (t:Option (Int×Int×Int×Int)) (x:V) (h:Hp):Prop:=(t=none/\x = .bL/\h=H)\/∃ p z,t=some z/\x = .ref p/\H p=none/\Ps z/\h=upd H p (.tup (FL z))
def yW {vs:aA} {E:XK} {a b c:Int} (f:vs=[.int a,.int b,.int c,av i]) (d:i<4) (h:∀ t x H',Lf H t x H'->Q x H'):pT vs H Q E :=
 ⟨a,b,c,i,f,d,h none _ _ (.inl ⟨rfl,rfl,rfl⟩),λ p z g e=>h (some z) _ _ (.inr ⟨p,z,rfl,rfl,e,g,rfl⟩)⟩
def Lf.same {t:Option (Int×Int×Int×Int)} {x:V} (h:Lf H t x H'):aF H H':=by
 rcases h with ⟨Z,Z,rfl⟩|⟨p,z,Z,Z,a,Z,rfl⟩
 . exact aF.refl _
 . exact am a
def Lf.ok {t:Option (Int×Int×Int×Int)} {x:V} (h:Lf H t x H'):∀ y,t=some y->Ps y:=by
 rcases h with ⟨rfl,Z,Z⟩|⟨p,z,rfl,Z,b,a,Z⟩
 . exact nofun
 . intro y e;cases e;exact a
def Lf.dn {K:aC} {t:Option (Int×Int×Int×Int)} {x:V} {L:cM} (h:Lf H t x H') (n:∀ b,H b=none->b∉L):Dn K (gp H' L) (stI t) x:=by
 rcases h with ⟨rfl,rfl,Z⟩|⟨p,z,rfl,rfl,a,c,rfl⟩
 . rfl
 . exact gi (cH.of (sG ai (n p a))) (bS rfl (bS rfl (bS rfl (bS rfl ip))))
end L2
namespace Mth
def Ov (W k:Int) (f:Int×Int):Prop:=f.1 * W=k * f.2/\0<f.2
theorem Ov.nf {W k:Int} (h:0<W):Ov W k (nf k W):=by
 have F:=gZ (t:=k) h
 exact ⟨F.jv,F.pos⟩
def EU {W:Int}:Ov W W (1,1):=⟨by show 1 * W=W * 1;lia,by decide⟩
def qH {W:Int}:Ov W 0 (0,1):=⟨by show 0 * W=0 * 1;lia,by decide⟩
def Ov.minus {W a b:Int} {x y:Int×Int} (h:Ov W a x) (k:Ov W b y):Ov W (a - b) (mQ x y):=by
 have F:=gZ (t:=x.1 * y.2 - y.1 * x.2) (b:=x.2 * y.2) (aaP h.2 k.2)
 refine ⟨?_,F.pos⟩
 have c:=F.jv
 have H:=h.1
 have d:=k.1
 have p:0<x.2 * y.2:=aaP h.2 k.2
 show (Mth.nf (x.1 * y.2 - y.1 * x.2) (x.2 * y.2)).1 * W=(a - b) * (Mth.nf (x.1 * y.2 - y.1 * x.2) (x.2 * y.2)).2
 generalize (Mth.nf (x.1 * y.2 - y.1 * x.2) (x.2 * y.2)).1=q at c |-
 generalize (Mth.nf (x.1 * y.2 - y.1 * x.2) (x.2 * y.2)).2=r at c |-
 refine abc (abO p) ?_
 have e:x.1 * y.2 * W=a * (x.2 * y.2):=by rw [aaA,H,aa4]
 have E:y.1 * x.2 * W=b * (x.2 * y.2):=by rw [aaA,d,aa4,ab1 y.2]
 calc q * W * (x.2 * y.2)=(q * (x.2 * y.2)) * W:=by rw [aaA]
   _=(x.1 * y.2 - y.1 * x.2) * r * W:=by rw [c]
   _=((x.1 * y.2 - y.1 * x.2) * W) * r:=by rw [aaA]
   _=(a * (x.2 * y.2) - b * (x.2 * y.2)) * r:=by rw [Int.sub_mul,e,E]
   _=(a - b) * r * (x.2 * y.2):=by rw [<- Int.sub_mul,aaA]
def Ov.plus {W a b:Int} {x y:Int×Int} (h:Ov W a x) (k:Ov W b y):Ov W (a+b) (kU x y):=by
 have F:=gZ (t:=x.1 * y.2+y.1 * x.2) (b:=x.2 * y.2) (aaP h.2 k.2)
 refine ⟨?_,F.pos⟩
 have c:=F.jv
 have H:=h.1
 have d:=k.1
 have p:0<x.2 * y.2:=aaP h.2 k.2
 show (Mth.nf (x.1 * y.2+y.1 * x.2) (x.2 * y.2)).1 * W=(a+b) * (Mth.nf (x.1 * y.2+y.1 * x.2) (x.2 * y.2)).2
 generalize (Mth.nf (x.1 * y.2+y.1 * x.2) (x.2 * y.2)).1=q at c |-
 generalize (Mth.nf (x.1 * y.2+y.1 * x.2) (x.2 * y.2)).2=r at c |-
 refine abc (abO p) ?_
 have e:x.1 * y.2 * W=a * (x.2 * y.2):=by rw [aaA,H,aa4]
 have E:y.1 * x.2 * W=b * (x.2 * y.2):=by rw [aaA,d,aa4,ab1 y.2]
 calc q * W * (x.2 * y.2)=(q * (x.2 * y.2)) * W:=by rw [aaA]
   _=(x.1 * y.2+y.1 * x.2) * r * W:=by rw [c]
   _=((x.1 * y.2+y.1 * x.2) * W) * r:=by rw [aaA]
   _=(a * (x.2 * y.2)+b * (x.2 * y.2)) * r:=by rw [Int.add_mul,e,E]
   _=(a+b) * r * (x.2 * y.2):=by rw [<- Int.add_mul,aaA]
def Ov.under {W a b:Int} {x y:Int×Int} (H:0<W) (h:Ov W a x) (k:Ov W b y):bO x y=decide (a<b):=by
 unfold bO
 refine abU.mpr ?_
 have p:0<x.2 * y.2:=aaP h.2 k.2
 have e:x.1 * y.2 * W=a * (x.2 * y.2):=by rw [aaA,h.1,aa4]
 have E:y.1 * x.2 * W=b * (x.2 * y.2):=by rw [aaA,k.1,aa4,ab1 y.2]
 constructor
 .
  intro l
  have:=abq l H
  rw [e,E] at this
  exact abu this (abf p)
 .
  intro l
  have:=abq l p
  rw [<- e,<- E] at this
  exact abu this (abf H)
end Mth
namespace L2
open PySem PySem.Spec PyProof.Rows Mth
variable {H:Hp} {elts:List Expr} {i x1:Nat} {l:List Int} {ta:TA} {tm:ay} {qc:Pos}
def sumF (fl:Nat->Nat->Int) (i:Nat):Nat->Int
 | 0=>0
 | t+1=>sumF fl i t+fl i t
structure gc (W:Int) (sk:Nat->Int) (fl:Nat->Nat->Int) (m:au):Prop where
 di:∀ i,Ov W (sk i) (m.eM i)
 fb:∀ i j,Ov W (fl i j) (m.fb i j)
theorem gc.fJ {W:Int} {s:Nat->Int} {fl:Nat->Nat->Int} {m:au} (h:gc W s fl m) (i:Nat):∀ t,Ov W (W - s i - sumF fl i t) (m.fJ i t)
 | 0=>by
   have:=(EU (W:=W)).minus (h.di i)
   have e:W - s i - sumF fl i 0=W - s i:=by show W - s i - 0=_;lia
   rw [e]
   exact this
 | t+1=>by
   rw [au.jH]
   have:=(h.fJ i t).minus (h.fb i t)
   have e:W - s i - sumF fl i (t+1)=W - s i - sumF fl i t - fl i t:=by show W - s i - (sumF fl i t+fl i t)=_;lia
   rw [e]
   exact this
theorem gc.own {W:Int} {s:Nat->Int} {fl:Nat->Nat->Int} {m:au} (h:gc W s fl m) (i:Nat):Ov W (W - s i - sumF fl i m.rows.length) (m.own i):=h.fJ i _
def gc.u8 {W k:Int} {s:Nat->Int} {fl:Nat->Nat->Int} {m:au} {f:cG} (H:0<W) (h:gc W s fl m) (a:Ov W k f) (l:k<=W - sumF fl i m.rows.length):bO (kU (m.own i) (m.eM i)) f=false:=by
 rw [((h.own i).plus (h.di i)).under H a]
 exact aap (by lia)
def gc.sK {W k:Int} {s:Nat->Int} {fl:Nat->Nat->Int} {m:au} {f:cG} {j:Nat} (H:0<W) (h:gc W s fl m) (a:Ov W k f) (l:k<=W - s i - sumF fl i m.rows.length+fl i j):bO (kU (m.own i) (m.fb i j)) f=false:=by
 rw [((h.own i).plus (h.fb i j)).under H a]
 exact aap (by lia)
def wL {m:au} {j a b:Nat} {f:cG}:(m.eE i j f).fb a b=if a=i/\b=j then f else m.fb a b:=by
 unfold au.fb au.eE
 by_cases e:a=i/\b=j
 . rw [aaq e]
   show ((if (a:Int)=(i:Int)/\(b:Int)=(j:Int) then some f else m.bF a b)).getD (0,1)=f
   rw [aaq (by lia)];rfl
 . rw [aal e]
   show ((if (a:Int)=(i:Int)/\(b:Int)=(j:Int) then some f else m.bF a b)).getD (0,1)=_
   rw [aal (by lia)]
theorem gc.eE {W k:Int} {s:Nat->Int} {fl:Nat->Nat->Int} {m:au} {f:cG} {j:Nat} (h:gc W s fl m) (H:Ov W k f):gc W s (λ a b=>if a=i/\b=j then k else fl a b) (m.eE i j f):=by
 refine ⟨λ a=>h.di a,λ a b=>?_⟩
 rw [wL]
 by_cases e:a=i/\b=j
 . simp only [aaq e];exact H
 . simp only [aal e];exact h.fb a b
def yT {m:au} {a:Nat} {z:cG×cG×cG} (h:i<m.bx.length):(m.ft i z).eM a=if a=i then z.1 else m.eM a:=by
 unfold au.eM au.ft
 by_cases e:a=i
 .
  subst e
  rw [aaq rfl]
  show (((m.bx.set a z)[a]?).map (·.1)).getD (0,1)=_
  rw [abJ h];rfl
 . rw [aal e]
   show (((m.bx.set i z)[a]?).map (·.1)).getD (0,1)=_
   rw [abj (λ x=>e x.symm)]
theorem gc.ft {W k:Int} {s:Nat->Int} {fl:Nat->Nat->Int} {m:au} {z:cG×cG×cG} (h:gc W s fl m) (c:i<m.bx.length) (H:Ov W k z.1):gc W (λ a=>if a=i then k else s a) fl (m.ft i z):=by
 refine ⟨λ a=>?_,λ a b=>h.fb a b⟩
 rw [yT c]
 by_cases e:a=i
 . simp only [aaq e];exact H
 . simp only [aal e];exact h.di a
theorem gc.new {W:Int} {most iU load:Int}:gc W (λ Z=>0) (λ Z Z=>0) (au.new most iU load):=⟨λ Z=>qH,λ Z Z=>qH⟩
theorem gc.ce {W:Int} {s:Nat->Int} {fl:Nat->Nat->Int} {m:au} {r:List cG} (h:gc W s fl m) (H:∀ i,m.bx.length<=i->s i=0):gc W s fl (m.ce r):=by
 refine ⟨λ a=>?_,λ a b=>h.fb a b⟩
 by_cases e:a<m.bx.length
 .
  have:(m.ce r).eM a=m.eM a:=by
    show (((m.bx++[((0,1),(0,1),(0,1))])[a]?).map (·.1)).getD (0,1)=((m.bx[a]?).map (·.1)).getD (0,1)
    rw [aaM e]
  rw [this]
  exact h.di a
 .
  have:(m.ce r).eM a=(0,1):=by
    show (((m.bx++[((0,1),(0,1),(0,1))])[a]?).map (·.1)).getD (0,1)=(0,1)
    rw [aaL (by lia)]
    cases q:a - m.bx.length with
    | zero=>rfl
    | succ n=>rfl
  rw [this,H a (by lia)]
  exact qH
theorem gc.gy {W:Int} {s:Nat->Int} {fl:Nat->Nat->Int} {m:au} {z:cG×Int×Int×Int} (h:gc W s fl m):gc W s fl (m.gy i z):=⟨λ a=>h.di a,λ a b=>h.fb a b⟩
def Jw {fl:Nat->Nat->Int} {t:Int} {n:Nat} (H:n<=4) (f:0<=t) (h:∀ j,0<=fl i j/\fl i j<=t) (d:fl i i=0) (e:i<n):0<=sumF fl i n/\sumF fl i n<=3 * t:=by
 have a:=h 0
 have A:=h 1
 have b:=h 2
 have c:=h 3
 match n,H with
 | 0,_=>lia
 | 1,_=>simp only [sumF];lia
 | 2,_=>simp only [sumF];lia
 | 3,_=>simp only [sumF];lia
 | 4,_ =>
   have:i=0\/i=1\/i=2\/i=3:=by lia
   rcases this with rfl|rfl|rfl|rfl<;>simp only [sumF]<;>lia
def ay.row (tm:ay) (l:List Int):List cG:=l.map λ x=>aY x 1 tm.scale
def ay.m1 (tm:ay) (k:Nat):au:=((tm.marks.take k).map tm.row).foldl au.ce (au.new tm.bounds.1 tm.bounds.2.1 tm.bounds.2.2)
def ay.nP (tm:ay) (z:Int×Int×Int):cG×cG×cG:=(nf z.1 12,aY z.2.1 1 tm.scale,aY z.2.2 1 tm.scale)
def ay.iQ (tm:ay) (z:Int×Int×Int×Int):cG×Int×Int×Int:=(nf (z.1 * tm.scale.a) tm.scale.b,z.2.1,z.2.2.1,z.2.2.2)
def ay.fW (tm:ay) (m:au) (i:Nat):au:=match tm.di[i]? with|some z=>m.ft i (tm.nP z)|none=>m
def ay.bY (tm:ay) (m:au) (i:Nat):au:=match tm.aH[i]? with|some (some z)=>m.gy i (tm.iQ z)|_=>m
def ay.fS (tm:ay) (i:Nat) (m:au) (j:Nat):au:=if j=i then m else match tm.bF i j with|some k=>m.eE i j (nf k 12)|none=>m
def ay.eG (tm:ay) (i:Nat) (m:au) (j:Nat):au:=(List.range j).foldl (tm.fS i) m
def ay.nT (tm:ay) (n:Nat) (m:au) (i:Nat):au:=tm.eG i (tm.bY (tm.fW m i) i) n
def ay.m2 (tm:ay) (n k:Nat):au:=(List.range k).foldl (tm.nT n) (tm.m1 n)
def ay.Iu {k:Nat} (h:tm.marks[k]?=some l):tm.m1 (k+1)=(tm.m1 k).ce (tm.row l):=by
 unfold ay.m1
 rw [abB,h,aab,abd];rfl
def ay.Ct (tm:ay) (n k:Nat):tm.m2 n (k+1)=tm.nT n (tm.m2 n k) k:=by
 unfold ay.m2
 rw [aaS,abd];rfl
def ay.ol (tm:ay) (i:Nat) (m:au) (j:Nat):tm.eG i m (j+1)=tm.fS i (tm.eG i m j) j:=by
 unfold ay.eG
 rw [aaS,abd];rfl
def FU {n:Nat} {b:Nat} (f:b=if n<=2 then 6 else 4) (l:n<=4):∀ {R:List (List cG)},(∀ r∈R,1<=r.length/\r.length<=b+1)->R.length<=n->0<=jP R/\jP R<=400:=by
 intro R h s
 have K:∀ (R:List (List cG)) (p:Int),(∀ r∈R,1<=r.length/\r.length<=b+1)->0<=p->0<=R.foldl (λ p r=>p * ((r.length:Int) - 1)) p/\R.foldl (λ p r=>p * ((r.length:Int) - 1)) p<=p * (b:Int) ^ R.length:=by
   intro R
   induction R with
   | nil=>intro p Z H;exact ⟨H,by simp⟩
   | cons r R i =>
     intro p h H
     have t:=h r aaz
     have q:0<=p * ((r.length:Int) - 1):=acs H (by lia)
     obtain ⟨a,c⟩:=i (p * ((r.length:Int) - 1)) (λ x o=>h x (aao _ o)) q
     refine ⟨a,adR c ?_⟩
     have B:0<=(b:Int) ^ R.length:=Int.pow_nonneg (by lia)
     have e:p * ((r.length:Int) - 1)<=p * (b:Int):=abI (by lia) H
     have:=Int.mul_le_mul_of_nonneg_right e B
     have g:p * (b:Int) ^ (r::R).length=p * (b:Int) * (b:Int) ^ R.length:=by rw [aav,Int.pow_succ,<- aa4,aaA]
     rw [g]
     exact this
 obtain ⟨a,c⟩:=K R 1 h (by decide)
 refine ⟨a,adR c ?_⟩
 rw [Int.one_mul]
 have j:(b:Int) ^ n<=400:=by
   subst f
   match n,l with
   | 0,_=>decide
   | 1,_=>decide
   | 2,_=>decide
   | 3,_=>decide
   | 4,_=>decide
 have E:(1:Int)<=(b:Int):=by subst f;split<;>lia
 have m:∀ d k:Nat,(b:Int) ^ k<=(b:Int) ^ (k+d):=by
   intro d k
   induction d with
   | zero=>exact acd _
   | succ d i =>
     refine adR i ?_
     rw [<- Nat.add_assoc,Int.pow_succ]
     have B:0<=(b:Int) ^ (k+d):=Int.pow_nonneg (by lia)
     have:=abI E B
     lia
 have:=m (n - R.length) R.length
 rw [show R.length+(n - R.length)=n by lia] at this
 lia
def Bh (ok:tm.scale.Ok) (h:on l):qB (tm.row l)=true:=by
 unfold qB
 rw [abv]
 intro b a
 obtain ⟨i,H⟩:=List.mem_iff_getElem?.mp a
 rw [adO] at H
 unfold ay.row at H
 rw [acX,RI,RI] at H
 cases e:l[i]? with
 | none=>rw [e] at H;simp at H
 | some x =>
   cases E:l[i+1]? with
   | none=>rw [e,E] at H;simp at H
   | some y =>
     rw [e,E] at H
     have H:bO (aY x 1 tm.scale) (aY y 1 tm.scale)=b:=by simpa using H
     rw [<- H,j3 ok (by decide)]
     exact aaC (h i x y e E)
def Mx {n:Nat} (ok:tm.scale.Ok) (h:Cs n l):∀ f∈tm.row l,eJ 100 f:=by
 intro f H
 obtain ⟨x,a,rfl⟩:=aax.mp H
 have:=h.bd x a
 exact (qM (n:=8) ok (by decide) (show x.natAbs<2 ^ 8 by lia) mZ).mono (by decide)
def qu.keep {K:aC} {C:ag} {c d:Hp} {a:ag} {f p:cM} {m':au} (S:aF c H) (n:∀ b∈f,c b=none) (D:qu K C H a f m' d p):aF c d/\∀ b∈p,c b=none:=by
 refine ⟨λ b o h=>D.but b o (S b o h) λ q=>?_,λ b e=>?_⟩
 . rw [n b q] at h;cases h
 . rcases D.own b e with q|q
   . exact n b q
   . exact S.free q
structure Kp (m m':au):Prop where
 rows:m'.rows=m.rows
 most:m'.most=m.most
 iU:m'.iU=m.iU
 load:m'.load=m.load
def Kp.refl (m:au):Kp m m:=⟨rfl,rfl,rfl,rfl⟩
theorem Kp.trans {m M m2:au} (a:Kp m M) (b:Kp M m2):Kp m m2:=⟨b.rows.trans a.rows,b.most.trans a.most,b.iU.trans a.iU,b.load.trans a.load⟩
theorem vk {a:Type} {f:au->a->au} (h:∀ m x,Kp m (f m x)):∀ (l:List a) (m:au),Kp m (l.foldl f m)
 | [],m => .refl m
 | x::l,m=>(h m x).trans (vk h l (f m x))
def LG (tm:ay) (m:au) (i:Nat):Kp m (tm.fW m i):=by
 unfold ay.fW
 split
 . exact ⟨rfl,rfl,rfl,rfl⟩
 . exact .refl m
def GJ (tm:ay) (m:au) (i:Nat):Kp m (tm.bY m i):=by
 unfold ay.bY
 split
 . exact ⟨rfl,rfl,rfl,rfl⟩
 . exact .refl m
def JV (tm:ay) (i:Nat) (m:au) (j:Nat):Kp m (tm.fS i m j):=by
 unfold ay.fS
 split
 . exact .refl m
 . split
   . exact ⟨rfl,rfl,rfl,rfl⟩
   . exact .refl m
def Kf (tm:ay) (n:Nat) (m:au) (i:Nat):Kp m (tm.nT n m i) :=
 ((LG tm m i).trans (GJ tm _ i)).trans (vk (JV tm i) _ _)
def PH (tm:ay) (n k:Nat):Kp (tm.m1 n) (tm.m2 n k):=vk (Kf tm n) _ _
theorem yN:∀ (R:List (List cG)) (m:au),(R.foldl au.ce m).rows=m.rows++R/\(R.foldl au.ce m).most=m.most/\(R.foldl au.ce m).iU=m.iU/\(R.foldl au.ce m).load=m.load
 | [],m=>⟨by simp,rfl,rfl,rfl⟩
 | r::R,m=>by
   obtain ⟨a,b,c,d⟩:=yN R (m.ce r)
   refine ⟨?_,b,c,d⟩
   show (R.foldl au.ce (m.ce r)).rows=_
   rw [a]
   show (m.rows++[r])++R=_
   simp
def c7 (tm:ay) (n k:Nat):(tm.m2 n k).rows=(tm.marks.take n).map tm.row/\(tm.m2 n k).most=tm.bounds.1/\(tm.m2 n k).iU=tm.bounds.2.1/\(tm.m2 n k).load=tm.bounds.2.2:=by
 have q:=PH tm n k
 obtain ⟨a,b,c,d⟩:=yN ((tm.marks.take n).map tm.row) (au.new tm.bounds.1 tm.bounds.2.1 tm.bounds.2.2)
 exact ⟨q.rows.trans a,q.most.trans b,q.iU.trans c,q.load.trans d⟩
theorem fw {K:aC}:∀ {l:List Int} {w:aA},cn K H (l.map PyData.int) w->w=l.map V.int
 | [],_,h=>h
 | x::l,_,h=>by
   obtain ⟨y,r,rfl,e,t⟩:=h
   have e:y = .int x:=e
   rw [e,fw t];rfl
def lM {a:Type} (l:List a) (g:a->cG):∀ d∈l.map (λ x=>dL (g x)),fO d=true:=λ d h=>by
 obtain ⟨x,Z,rfl⟩:=aax.mp h
 exact gw _
def HZ {n:Nat} (ok:tm.Ok n n):∀ r∈tm.marks.map tm.row,1<=r.length/\r.length<=(if n<=2 then 6 else 4)+1:=by
 intro r b
 obtain ⟨l,a,rfl⟩:=aax.mp b
 have:=ok.rows l a
 have c:=this.two
 have h:=this.most
 unfold ay.row
 rw [Bl]
 split at h<;>rename_i H<;>simp only [H,abR,ach]<;>lia
def Ov.nonneg {W k:Int} {f:cG} (H:0<W) (h:Ov W k f) (a:0<=k):0<=f.1:=by
 have e:=h.1
 have:0<=f.1 * W:=by rw [e];exact acs a (abf h.2)
 exact Int.nonneg_of_mul_nonneg_left this H
def Hi {t b:Int} (a:0<b) (h:Bd 100 t) (H:Bd 100 b):eJ 100 (nf t b):=by
 have F:=gZ (t:=t) a
 exact ⟨F.QZ h,F.Rf H,F.pos⟩
def ER {u:ag} {t b q r:Int} {K:aC} (c:0<b) (F:Fr t b q r) (h:H u=some (.tup [.int q,.int r])):Dn K H (dL (nf t b)) (.ref u):=by
 have e:=F.nf c
 have E:q=(nf t b).1:=abK Prod.fst e
 have a:r=(nf t b).2:=abK Prod.snd e
 rw [E,a] at h
 exact n9 (cH.of h)
theorem KS {W:Int} {tm:ay}:∀ (l:List (List cG)) (m:au),gc W (λ Z=>0) (λ Z Z=>0) m->gc W (λ Z=>0) (λ Z Z=>0) (l.foldl au.ce m)
 | [],_,h=>h
 | _::l,_,h=>KS (tm:=tm) l _ (h.ce λ Z Z=>rfl)
def ay.QI {W:Int} (tm:ay) (k:Nat):gc W (λ Z=>0) (λ Z Z=>0) (tm.m1 k):=KS (tm:=tm) _ _ gc.new
structure SF (sk:Nat->Int) (fl:Nat->Nat->Int):Prop where
 HE:∀ a,0<=sk a/\sk a<=3
 BZ:∀ a b,0<=fl a b/\fl a b<=3
 JK:∀ a,fl a a=0
def Tw (m:au):Prop:=∃ s f,gc 12 s f m/\SF s f
def Tw.di {m:au} {z:cG×cG×cG} {k:Int} (h:Tw m) (b:i<m.bx.length) (H:Ov 12 k z.1) (k0:0<=k) (k3:k<=3):Tw (m.ft i z):=by
 obtain ⟨s,f,S,F⟩:=h
 refine ⟨_,_,S.ft b H,⟨λ a=>?_,F.BZ,F.JK⟩⟩
 show 0<=(if a=i then k else s a)/\(if a=i then k else s a)<=3
 split
 . exact ⟨k0,k3⟩
 . exact F.HE a
def Tw.fb {m:au} {j:Nat} {f:cG} {k:Int} (h:Tw m) (u:i≠j) (H:Ov 12 k f) (k0:0<=k) (k3:k<=3):Tw (m.eE i j f):=by
 obtain ⟨s,c,S,F⟩:=h
 refine ⟨_,_,S.eE H,⟨F.HE,λ a b=>?_,λ a=>?_⟩⟩
 .
  show 0<=(if a=i/\b=j then k else c a b)/\(if a=i/\b=j then k else c a b)<=3
  split
  . exact ⟨k0,k3⟩
  . exact F.BZ a b
 . show (if a=i/\a=j then k else c a a)=0
   rw [aal (by lia)]
   exact F.JK a
def Tw.lg {m:au} {z:cG×Int×Int×Int} (h:Tw m):Tw (m.gy i z):=by
 obtain ⟨s,f,S,F⟩:=h
 exact ⟨s,f,S.gy,F⟩
theorem Tw.u8 {m:au} {f:cG} {k:Int} (h:Tw m) (b:i<m.rows.length) (H:m.rows.length<=4) (a:Ov 12 k f) (k3:k<=3):bO (kU (m.own i) (m.eM i)) f=false:=by
 obtain ⟨s,c,S,F⟩:=h
 have:=Jw H (t:=3) (by decide) (F.BZ i) (F.JK i) b
 exact S.u8 (by decide) a (by lia)
def Fl {fl:Nat->Nat->Int} {j n:Nat} (H:n<=4) (h:∀ b,0<=fl i b/\fl i b<=3) (f:fl i i=0) (g:i<n) (k:j<n) (u:i≠j):sumF fl i n - fl i j<=6:=by
 have a:=h 0
 have A:=h 1
 have d:=h 2
 have e:=h 3
 have c:i=0\/i=1\/i=2\/i=3:=by lia
 have C:j=0\/j=1\/j=2\/j=3:=by lia
 match n,H with
 | 0,_=>lia
 | 1,_=>lia
 | 2,_=>rcases c with rfl|rfl|rfl|rfl<;>rcases C with rfl|rfl|rfl|rfl<;>simp only [sumF]<;>lia
 | 3,_=>rcases c with rfl|rfl|rfl|rfl<;>rcases C with rfl|rfl|rfl|rfl<;>simp only [sumF]<;>lia
 | 4,_=>rcases c with rfl|rfl|rfl|rfl<;>rcases C with rfl|rfl|rfl|rfl<;>simp only [sumF]<;>lia
theorem Tw.sK {m:au} {j:Nat} {f:cG} {k:Int} (h:Tw m) (b:i<m.rows.length) (c:j<m.rows.length) (u:i≠j) (H:m.rows.length<=4) (a:Ov 12 k f) (k3:k<=3):bO (kU (m.own i) (m.fb i j)) f=false:=by
 obtain ⟨s,d,S,F⟩:=h
 have:=Fl H (F.BZ i) (F.JK i) b c u
 have:=F.HE i
 exact S.sK (by decide) a (by lia)
inductive FT (K:aC) (C:ag) (vs:aA) (H:Hp) (Q:VK) (_E:XK):Prop|mk (p:_) (tm:ay) (n:Nat) (_:vs=[.ref p]) (_:iA K H p tm) (_:tm.Ok n n) (_:1<=n) (_:n<=4) (_:∀ a H' fp,aF H H'->bj K C H' a fp (tm.m2 n n)->(∀ b∈fp,H b=none)->(tm.m2 n n).rows.length=n->Tw (tm.m2 n n)->Q (.ref a) H')
def EE:Nat->PyData->Prop
 | _,.none=>True
 | _,.bool _=>True
 | _,.int _=>True
 | n+1,.list D=>∀ d∈D,EE n d
 | n+1,.tuple D=>∀ d∈D,EE n d
 | _,_=>False
theorem vb {n:Nat} (h:∀ d,EE n d->PyData.eqv d d=true/\d.canLay0=true/\d.depth<=n):∀ D:List PyData,(∀ d∈D,EE n d)->PyData.eqvAll D D=true/\PyData.canLayAll0 D=true/\PyData.depthAll D<=n
 | [],_=>by simp [PyData.eqvAll,PyData.canLayAll0,PyData.depthAll]
 | d::D,k=>by
   obtain ⟨a,b,c⟩:=h d (k d aaz)
   obtain ⟨A,B,C⟩:=vb h D (λ e H=>k e (aao _ H))
   simp only [PyData.eqvAll,PyData.canLayAll0,PyData.depthAll,a,b,A,B,Bool.and_self,ad3]
   lia
theorem og:∀ (n:Nat) (d:PyData),EE n d->PyData.eqv d d=true/\d.canLay0=true/\d.depth<=n
 | n,.none,_=>by simp [PyData.eqv,PyData.canLay0,PyData.depth]
 | n,.bool b,_=>by simp [PyData.eqv,PyData.canLay0,PyData.depth]
 | n,.int i,_=>by simp [PyData.eqv,PyData.canLay0,PyData.depth]
 | n+1,.list D,h=>by
   obtain ⟨a,b,c⟩:=vb (og n) D h
   simp only [PyData.eqv,PyData.canLay0,PyData.depth,a,b,ad3]
   lia
 | n+1,.tuple D,h=>by
   obtain ⟨a,b,c⟩:=vb (og n) D h
   simp only [PyData.eqv,PyData.canLay0,PyData.depth,a,b,ad3]
   lia
 | 0,.list _,h=>h.elim
 | 0,.tuple _,h=>h.elim
 | 0,.str _,h=>h.elim
 | _+1,.str _,h=>h.elim
 | 0,.dict _,h=>h.elim
 | _+1,.dict _,h=>h.elim
def jL {n:Nat} {d:PyData} (h:EE n d) (H:n<=64):SeqAt.shaped d=true:=by
 obtain ⟨Z,b,c⟩:=og n d h
 unfold SeqAt.shaped
 rw [b,aaC (aa3 c H)];rfl
def Gn {n:Nat} {d:PyData} (h:EE n d):PyData.eqv d d=true:=(og n d h).1
def GO {K:aC} {x y:V} {d:PyData} {n:Nat} {Q:VK} (a:Dn K H d x) (b:Dn K H d y) (p:EE n d) (h:n<=64) (q:Q (.bl false) H):MS K x y H Q :=
 ⟨d,d,a,b,jL p h,jL p h,by rw [Gn p];exact q⟩
def iZ {X:Cx} {K:aC} (h:X.K=K):ND X (OE K):=by
 subst h
 exact ax
theorem sO:∀ {ns:List Int} {B:aU},Vals (ns.map V.int) B->∃ ys:List (Int×Tok),B=ys.map (λ p=>Value.int p.1 p.2)/\ys.map (·.1)=ns
 | [],B,r=>by cases r;exact ⟨[],rfl,rfl⟩
 | n::ns,B,r=>by
   cases r with
   | cons a b =>
     obtain ⟨t,rfl⟩:=a
     obtain ⟨ys,rfl,e⟩:=sO b
     exact ⟨(n,t)::ys,rfl,by rw [aaN,e]⟩
section
variable {X:Cx}
def Dv (b:X.calm=true):ir X (.builtin "sum") (λ xs H Q=>∃ (p:ag) (ns:List Int),xs=[.ref p]/\bw X.K H p (ns.map V.int)/\∀ r:Int,r=ns.sum->Q (.int r) H):=by
 intro a s U H xs k Q I r h
 obtain ⟨p,ns,rfl,f,q⟩:=h
 obtain ⟨u,rfl,R⟩:=vals1 r
 obtain rfl:u=Value.ref p:=R
 obtain ⟨B,i,g,Z⟩:=I.list f
 obtain ⟨y,rfl,e⟩:=sO i
 have d:s.heap.IsList p (intItems y.toArray):=by have:=g.isList;simpa [intItems] using this
 refine sum_intListG (I.ok.hd b) d λ j T t c=>?_
 refine ⟨.int _,H,I.kept c,⟨t,rfl⟩,q _ ?_⟩
 rw [preSum_eq,List.take_of_length_le (by simp),<- e]
end
def LJ:bootBuiltins "max" = some (.builtin "max"):=by decide +kernel
def Ly:bootBuiltins "sum" = some (.builtin "sum"):=by decide +kernel
def jU:bootBuiltins "enumerate" = some (.type "enumerate"):=by decide +kernel
def iX (r:List cG) (f g:cG):Bool:=(!bO f (r.getD 0 (0,1))) && !bO (r.getD (r.length - 1) (0,1)) g
inductive Eb (K:aC) (C:ag) (vs:aA) (H:Hp) (Q:VK) (_E:XK):Prop|mk (a fp m:_) (i:Nat) (r v1 v2 f g:_) (_:vs=[.ref a,av i,v1,v2]) (_:bj K C H a fp m) (_:m.rows[i]?=some r) (_:Dn K H (dL f) v1) (_:Dn K H (dL g) v2) (_:eJ 1000 f) (_:eJ 1000 g) (_:∀ H',aF H H'->Q (.bl (iX r f g)) H')
def BC {a:Type} {xs:List a} {x:a} (H:0<xs.length) (h:xs[xs.length - 1]?=some x):tM xs (-1)=some x:=by
 unfold tM Ew
 rw [aal (by lia),aaq (by lia)]
 have e:((-1:Int)+(xs.length:Int)).toNat=xs.length - 1:=by lia
 simp only [Option.bind_some]
 first
   | (rw [e];exact h)
   | (have E:((xs.length:Int) + -1).toNat=xs.length - 1:=by lia
      rw [E];exact h)
def pP {x y p q:Int} {s:u9} (h:s.Ok) (H:0<p) (f:0<q):bO (aY x p s) (aY y q s)=decide (x * q<y * p):=by
 have F:=gZ (t:=cC x p s) (dP h H)
 have G:=gZ (t:=cC y q s) (dP h f)
 have m:=dP h H
 have n:=dP h f
 have C:(aY x p s).1 * cm p s=cC x p s * (aY x p s).2:=F.jv
 have e:(aY y q s).1 * cm q s=cC y q s * (aY y q s).2:=G.jv
 have g:0<(aY x p s).2:=F.pos
 have i:0<(aY y q s).2:=G.pos
 unfold bO
 rw [abU]
 generalize (aY x p s).1=Q at C |-
 generalize (aY x p s).2=r at C g |-
 generalize (aY y q s).1=c at e |-
 generalize (aY y q s).2=r2 at e i |-
 have o:0<cm p s * cm q s:=aaP m n
 have u:0<r * r2:=aaP g i
 have E:(Q * r2) * (cm p s * cm q s)=(cC x p s * cm q s) * (r * r2):=by
   have:(Q * r2) * (cm p s * cm q s)=(Q * cm p s) * (r2 * cm q s):=by grind
   rw [this,C];grind
 have j:(c * r) * (cm p s * cm q s)=(cC y q s * cm p s) * (r * r2):=by
   have:(c * r) * (cm p s * cm q s)=(c * cm q s) * (r * cm p s):=by grind
   rw [this,e];grind
 have S:Q * r2<c * r↔cC x p s * cm q s<cC y q s * cm p s:=by
   rw [<- acN o,E,j,acN u]
 rw [S]
 have A:=h.a0
 have B:=h.b0
 have D:=h.d0
 have v:0<s.a * s.d * s.b * s.d:=aaP (aaP (aaP (by lia) (by lia)) (by lia)) (by lia)
 have k:cC x p s * cm q s=(x * q) * (s.a * s.d * s.b * s.d)+p * q * s.t * s.b * s.b * s.d:=by unfold cC cm;grind
 have l:cC y q s * cm p s=(y * p) * (s.a * s.d * s.b * s.d)+p * q * s.t * s.b * s.b * s.d:=by unfold cC cm;grind
 rw [k,l,Int.add_lt_add_iff_right,acN v]
def sj (n:Nat):PyData:=.int (n:Int)
theorem lG {K:aC}:∀ l:cx,cn K H (l.map sj) (l.map av)
 | []=>ip
 | n::l=>bS rfl (lG l)
def J4 {K:aC} {p:ag} {l:cx} (h:bw K H p (l.map av)):Dn K H (.list (l.map sj)) (.ref p):=Hg h (lG l)
def IU {n:Nat} {l:cx}:EE (n+1) (.list (l.map sj)):=by
 intro d h
 obtain ⟨i,Z,rfl⟩:=aax.mp h
 cases n<;>exact trivial
def N1:([]:aA).length<=sizeLine:=aaV _
def JX (ns:List Int) (lo h:Option Int):List Int:=(ns.drop (HT.sY ns.length 0 lo)).take (HT.sY ns.length ns.length h - HT.sY ns.length 0 lo)
def Dk (ns:List Int) (lo h:Option Int):pB (ns.map V.int) lo h=(JX ns lo h).map V.int:=by
 unfold pB JX
 rw [Bl,<- List.map_drop,<- List.map_take]
theorem ub:∀ (R:List (List cG)) (m:au),(R.foldl au.ce m).bx=m.bx++List.replicate R.length ((0,1),(0,1),(0,1))/\(R.foldl au.ce m).aH=m.aH++List.replicate R.length none/\(R.foldl au.ce m).bF=m.bF
 | [],m=>⟨by simp,by simp,rfl⟩
 | r::R,m=>by
   obtain ⟨a,b,c⟩:=ub R (m.ce r)
   refine ⟨?_,?_,c⟩
   . show (R.foldl au.ce (m.ce r)).bx=_
     rw [a]
     show (m.bx++[((0,1),(0,1),(0,1))])++_=_
     rw [ac2,aav,ad0];rfl
   . show (R.foldl au.ce (m.ce r)).aH=_
     rw [b]
     show (m.aH++[none])++_=_
     rw [ac2,aav,ad0];rfl
theorem nH (tm:ay) (i:Nat) (m:au):∀ j,(tm.eG i m j).bx=m.bx/\(tm.eG i m j).aH=m.aH/\∀ a b:Int,(tm.eG i m j).bF a b=if a=(i:Int)/\0<=b/\b<j/\b≠i then (match tm.bF i b.toNat with|some k=>some (nf k 12)|none=>m.bF a b) else m.bF a b
 | 0=>by
   refine ⟨rfl,rfl,λ a b=>?_⟩
   rw [aal (by lia)];rfl
 | j+1=>by
   obtain ⟨h,H,f⟩:=nH tm i m j
   rw [ay.ol]
   unfold ay.fS
   by_cases e:j=i
   .
    rw [aaq e]
    refine ⟨h,H,λ a b=>?_⟩
    rw [f]
    by_cases c:a=(i:Int)/\0<=b/\b<(j:Int)/\b≠i
    . rw [aaq c,aaq (by lia)]
    . rw [aal c,aal (by lia)]
   .
    rw [aal e]
    cases g:tm.bF i j with
    | none =>
      refine ⟨h,H,λ a b=>?_⟩
      show (tm.eG i m j).bF a b=_
      rw [f]
      by_cases c:a=(i:Int)/\0<=b/\b<(j:Int)/\b≠i
      . rw [aaq c,aaq (by lia)]
      . rw [aal c]
        by_cases d:a=(i:Int)/\0<=b/\b<((j+1:Nat):Int)/\b≠i
        . rw [aaq d]
          have:b.toNat=j:=by lia
          rw [this,g]
        . rw [aal d]
    | some k =>
      refine ⟨h,H,λ a b=>?_⟩
      show (if a=(i:Int)/\b=(j:Int) then some (nf k 12) else (tm.eG i m j).bF a b)=_
      by_cases c:a=(i:Int)/\b=(j:Int)
      . rw [aaq c,aaq (by lia)]
        have:b.toNat=j:=by lia
        rw [this,g]
      . rw [aal c,f]
        by_cases d:a=(i:Int)/\0<=b/\b<(j:Int)/\b≠i
        . rw [aaq d,aaq (by lia)]
        . rw [aal d,aal (by lia)]
def jh {n:Nat} (ok:tm.Ok n n):∀ k,k<=n ->
   (∀ i,i<k->(tm.m2 n k).bx[i]?=(tm.di[i]?).map tm.nP)/\(tm.m2 n k).bx.length=n /\
   (∀ i,i<k->(tm.m2 n k).aH[i]?=(tm.aH[i]?).map λ z=>z.map tm.iQ)/\(∀ i,k<=i->i<n->(tm.m2 n k).aH[i]?=some none)/\(tm.m2 n k).aH.length=n /\
   (∀ a b:Nat,a<k->b<n->a≠b->(tm.m2 n k).bF a b=(tm.bF a b).map λ x=>nf x 12) /\
   (∀ a:Nat,(tm.m2 n k).bF a a=none):=by
 intro k
 induction k with
 | zero =>
   intro Z
   obtain ⟨a,b,c⟩:=ub ((tm.marks.take n).map tm.row) (au.new tm.bounds.1 tm.bounds.2.1 tm.bounds.2.2)
   have j:((tm.marks.take n).map tm.row).length=n:=by rw [Bl,aat,ok.lm];lia
   rw [j] at a b
   have A:(tm.m2 n 0).bx=List.replicate n ((0,1),(0,1),(0,1)):=a
   have d:(tm.m2 n 0).aH=List.replicate n none:=b
   have C:(tm.m2 n 0).bF=λ Z Z=>none:=c
   refine ⟨nofun,by rw [A,aby],nofun,λ i Z h=>?_,by rw [d,aby],nofun,λ Z=>by rw [C]⟩
   rw [d,acz,aaq h]
 | succ k I =>
   intro J
   obtain ⟨s,S,T,t,l,f,F⟩:=I (by lia)
   have X:k<tm.di.length:=by rw [ok.ls];lia
   have R:k<tm.aH.length:=by rw [ok.lt];lia
   rw [ay.Ct]
   generalize tm.m2 n k=m at s S T t l f F
   have p:tm.fW m k=m.ft k (tm.nP tm.di[k]):=by unfold ay.fW;rw [aw X]
   unfold ay.nT
   rw [p]
   obtain ⟨G,q,g⟩:=nH tm k (tm.bY (m.ft k (tm.nP tm.di[k])) k) n
   have o:(tm.bY (m.ft k (tm.nP tm.di[k])) k).bx=m.bx.set k (tm.nP tm.di[k]):=by
     unfold ay.bY
     split<;>rfl
   have B:(tm.bY (m.ft k (tm.nP tm.di[k])) k).bF=m.bF:=by
     unfold ay.bY
     split<;>rfl
   have r:(tm.bY (m.ft k (tm.nP tm.di[k])) k).aH=m.aH.set k (tm.aH[k].map tm.iQ):=by
     unfold ay.bY
     rw [aw R]
     cases tm.aH[k] with
     | some z=>rfl
     | none =>
       show m.aH=m.aH.set k none
       have u:=t k (aac _) (by lia)
       obtain ⟨j,v⟩:=Yp.mp u
       rw [<- v,List.set_getElem_self]
   rw [G,q,o,r]
   refine ⟨λ i h=>?_,by rw [abM];exact S,λ i h=>?_,λ i h w=>?_,by rw [abM];exact l,λ a b D H E=>?_,λ a=>?_⟩
   . by_cases e:i=k
     . subst e
       rw [abJ (by lia),aw X];rfl
     . rw [abj (by lia)];exact s i (by lia)
   . by_cases e:i=k
     . subst e
       rw [abJ (by lia),aw R];rfl
     . rw [abj (by lia)];exact T i (by lia)
   . rw [abj (by lia)];exact t i (by lia) w
   .
    rw [g,B]
    by_cases e:a=k
    . subst e
      rw [aaq (by lia)]
      obtain ⟨x,y,Z⟩:=ok.bF a b (by lia) H E
      have:((b:Int)).toNat=b:=by lia
      rw [this,y];rfl
    . rw [aal (by lia)]
      exact f a b (by lia) H E
   . rw [g,B]
     rw [aal (by lia)]
     exact F a
section
variable {P:bh} {w:bf} {A:Around} {E:aq->Shared->Prop} {s:Shared}
def Bc {j a:ag} {b:Array aq} {x:aq} {Q:aq->Shared->Prop} (h:s.heap.IsTupleIter j a i) (H:s.heap.IsTuple a b) (g:b[i]?=some x) (k:∀ h',h'.IsTupleIter j a (i+1)->Heap.SameBut j s.heap h'->Q x { s with heap:=h' }):wpAny (model P w) A (Builtin.SmallTypes.nextOf (.ref j)) Q E s:=by
 obtain ⟨O,e,c,d⟩:=id h
 obtain ⟨o,f,Z,N,D⟩:=H
 unfold Builtin.SmallTypes.nextOf
 refine OW (wpAny_callSpecial?_slot (name:=Str.ofString "__next__") h.typeIs ab2 (wpAny_call_entry ab2 h.typeIs adS ?_ (adJ _)))
 refine OW (m:=field (.ref j) 0) (ada e d (x:=.ref a) rfl ?_)
 have n:¬ ((Value.ref a == Value.none)=true):=aah
 show wpAny _ _ (if (Value.ref a == Value.none)=true then _ else _) _ _ s
 rw [aal n]
 refine OW (m:=field (.ref j) 1) (ada e d (x:=.int i 0) rfl ?_)
 refine OW (m:=seqItems? (.ref a)) (wpAny_seqItems f D ?_)
 simp only [abe,g]
 refine OW (adX e d (by simp) (aak ⟨x,rfl,aak (k _ ⟨_,abE _ e (Obj.isFreed_of_fields (Obj.data_mapFields d _)),(Obj.cls_mapFields ..).trans c,?_⟩ (adf ..))⟩))
 rw [Obj.data_mapFields d]
 simp [rawInt]
def DU {j a:ag} {B:Array aq} {Q:aq->Shared->Prop} (H:A.handled=none) (h:s.heap.IsTupleIter j a i) (g:s.heap.IsTuple a B) (l:B[i]?=none) (k:∀ h' e,Heap.ExtBut j s.heap h'->(∃ o,h'.get? e=some o/\o.cls = .type "StopIteration")->E (.ref e) { s with heap:=h' }):wpAny (model P w) A (Builtin.SmallTypes.nextOf (.ref j)) Q E s:=by
 obtain ⟨p,b,C,d⟩:=id h
 obtain ⟨O,c,Z,N,D⟩:=g
 unfold Builtin.SmallTypes.nextOf
 refine OW (wpAny_callSpecial?_slot (name:=Str.ofString "__next__") h.typeIs ab2 (wpAny_call_entry ab2 h.typeIs adS ?_ (adJ _)))
 refine OW (m:=field (.ref j) 0) (ada b d (x:=.ref a) rfl ?_)
 have n:¬ ((Value.ref a == Value.none)=true):=aah
 show wpAny _ _ (if (Value.ref a == Value.none)=true then _ else _) _ _ s
 rw [aal n]
 refine OW (m:=field (.ref j) 1) (ada b d (x:=.int i 0) rfl ?_)
 refine OW (m:=seqItems? (.ref a)) (wpAny_seqItems c D ?_)
 simp only [abe,l]
 refine OW (wpAny_rule (OW (adX b d (by simp) (OW (m:=newExc (.type "StopIteration") []) ?_))))
 simp only [newExc,newTuple]
 refine OW (adq (OW (m:=firstArgMember _ _) (acb (a:=Value.none) (by first|rfl|(simp only [firstArgMember];rfl)) (adq ?_ (by size_fits)))) (by size_fits))
 simp only [raiseNew]
 refine OW (wpAny_handled ?_)
 have f:A.in1.handled=none:=H
 first|rw [f]|rw [H]
 exact OW (aak (wpAny_throw (k _ _ (((adf ..).extBut.push _).push _) ⟨_,aaE _ rfl,rfl⟩)))
end
def FF {P:bh} {w:bf} {A:Around} (l:A.handled=none) (j a:ag) (n:a≠j) (b:Array aq):Draws P w A j [j,a] b.size (λ i v=>b[i]?=some v) (λ i h=>h.IsTupleIter j a i/\h.IsTuple a b) where
 live:=λ Z Z S=>by
   obtain ⟨⟨o,e,Z⟩,Z⟩:=S
   exact ⟨o,e⟩
 frame:=λ Z Z Z S k=>by
   obtain ⟨H,O,f,r⟩:=S
   exact ⟨H.at λ o e=>k j (by simp) o e,O,k a (by simp) O f,r⟩
 item:=λ i s Q E c S q=>Bc S.1 S.2 (x:=b[i]) (by simp [c]) λ g H d=>q _ g s.toks (by simp [c]) ⟨H,S.2.extBut d.extBut n⟩ d
 done:=λ s Q E S q=>DU l S.1 S.2 (by simp) q
set_option maxHeartbeats 1000000 in
def CZ (a:ag) (o:Obj) (bD:Array aq) (n:Nat) (b:o.cls = .type "tuple") (e:o.data = .seq bD n) :
   Meets (Builtin.«enumerate.__new__» ⟨[.type "enumerate",.ref a],[]⟩) (λ _ R s=>s.heap.get? a=some o/\R (.ok (.ret (.ref (s.heap.push { cls:=.type "tuple_iterator",data:=.fields #[.ref a,.int 0 0]}).objs.size)))
     { s with heap:=(s.heap.push { cls:=.type "tuple_iterator",data:=.fields #[.ref a,.int 0 0]}).push { cls:=.type "enumerate",data:=.fields #[.none,.bool false,.ref s.heap.objs.size,rawInt 0,.none,.none]}}):=by
 obtain ⟨C,j,D,sl⟩:=o
 obtain rfl:C = .type "tuple":=b
 obtain rfl:D = .seq bD n:=e
 refine .of_wp λ P w A R s q=>?_
 obtain ⟨f,g,d,t,O⟩:=s
 obtain ⟨h,q⟩:=q
 have i:=sub_enumerate
 have H:Heap.IsTuple (Shared.heap ⟨f,g,d,t,O⟩) a bD:=⟨_,h,rfl,n,rfl⟩
 wp_walk using acM h
 refine wpAny_stack_any λ S=>aak ?_
 split
 . rename_i c _ _ _ _ _
   cases (c == Value.type "enumerate")<;>(wp_walk using acM h,wpAny_pyIter_tuple H;exact ⟨_,rfl,q⟩)
 . wp_walk using acM h,wpAny_pyIter_tuple H
   exact ⟨_,rfl,q⟩
section
variable {P:bh} {w:bf} {A:Around} {E:aq->Shared->Prop} {s:Shared}
def rF {a:ag} {B:Array aq} {Q:aq->Shared->Prop} (c:s.heap.IsTuple a B) (k:∀ h',IsEnum h' (s.heap.objs.size+1) s.heap.objs.size 0 .none->h'.IsTupleIter s.heap.objs.size a 0->(∀ b o,s.heap.get? b=some o->h'.get? b=some o)->Q (.ref (s.heap.objs.size+1)) { s with heap:=h' }) :
   wpAny (model P w) A (call (.type "enumerate") [.ref a]) Q E s:=by
 obtain ⟨g,e,d,n,f⟩:=c
 refine callType_new F.called_enumerate (by decide) (F.typeCall_enumerate_1 _) (F.newCall_enumerate_1 _) (λ O=>F.args_object_init_2 O _) F.entry_enumerate_new (CZ a g B n d f) ⟨e,?_⟩
 have H:(s.heap.push { cls:=.type "tuple_iterator",data:=.fields #[.ref a,.int 0 0]}).objs.size=s.heap.objs.size+1:=ac7 ..
 have h:=aaE (s.heap.push { cls:=.type "tuple_iterator",data:=.fields #[.ref a,.int 0 0]}) (o:={ cls:=.type "enumerate",data:=.fields #[.none,.bool false,.ref s.heap.objs.size,rawInt 0,.none,.none]}) rfl
 rw [H] at h
 show _/\_
 rw [H]
 exact ⟨⟨_,h,rfl⟩,k _ h ⟨_,ZB _ (aaE _ rfl),rfl,rfl⟩ λ b o x=>ZB _ (ZB _ x)⟩
end
def EL (sq:Hp->ag->aA->Prop) (a:ag):It :=
 ⟨λ i H=>∃ X x,sq H a X/\X[i]?=some x,
  λ i H v h=>∃ p x,H p=none/\v = .ref p/\h=upd H p (.tup [av i,x])/\∀ X,sq H a X->X[i]?=some x,
  λ i H=>∃ X,sq H a X/\X.length=i⟩
def EnL (e j a:ag) (i:Nat) (h:aO):Prop:=(∃ o,IsEnum h e j i o)/\h.IsListIter j a i
def EnT (e j a:ag) (i:Nat) (h:aO):Prop:=(∃ o,IsEnum h e j i o)/\h.IsTupleIter j a i
def xf {P:bh} {w:bf} {K:aC} {e j a:ag} (y:e≠j) (ae:a≠e) (L:a≠j):Turn P w K (.Tuple elts x1 qc) (EL (bw K) a) [e,j] e (EnL e j a) where
 mem:=by simp
 obj:=λ i h S c l=>by
   obtain ⟨⟨O,b⟩,oj,e2,Z,d2⟩:=S
   simp only [aaa,aae,aaX] at l
   rcases l with rfl|rfl
   . exact ⟨_,b,λ v q=>by cases q⟩
   . exact ⟨oj,e2,λ v q=>by rw [d2] at q;cases q⟩
 keep:=λ i h z S k=>by
   obtain ⟨⟨O,b⟩,f⟩:=S
   exact ⟨⟨O,k e (by simp) _ b⟩,f.at λ o q=>k j (by simp) o q⟩
 item:=by
   intro X D G C l i m s U H E I n S F
   subst D G C
   obtain ⟨xs,x,r,N⟩:=F
   obtain ⟨B,R,p,hz⟩:=I.list r
   obtain ⟨u,M,ru⟩:=R.get N
   obtain ⟨⟨O,b⟩,f⟩:=S
   have Q:e<s.heap.objs.size:=aag b
   have lj:j<s.heap.objs.size:=by obtain ⟨o,q,Z⟩:=f;exact aag q
   have hi:i<B.toArray.size:=by
     have:=(Yp.mp M).1
     simpa using this
   refine wpAny_pyNext_enum_itemD (Draws.list (A:=X.A.in1) (I.ok.hd l) j a L B.toArray) b ⟨f,p.isList⟩ hi y (by simp [y,ae.symm]) λ v z T t eo Y ht ab kk=>?_
   obtain rfl:v=u:=by
     have t:B.toArray[i]?=some v:=t
     rw [adP,M] at t
     exact (aai t).symm
   refine ⟨.ref s.heap.objs.size,rfl,adT (s:={ s with heap:=z,toks:=T+1 }) eo λ g he J=>?_⟩
   have V:∀ c o,c∉[e,j]->s.heap.get? c=some o->g.get? c=some o:=λ c o d q=>by
     simp only [aaa,aae,aaX,acG] at d
     exact J.extBut _ _ d.1 (kk c o d.1 d.2 q)
   have n5:=J.extBut _ _ (acK Q) ht
   refine ⟨.ref s.heap.objs.size,upd H s.heap.objs.size (.tup [av i,x]),I.vy (t':=T+1) V n (aac _) ⟨by show 2<=sizeLine;decide,[.int i T,v],.cons ⟨T,rfl⟩ (.cons ru .nil),⟨_,n5,rfl,_,rfl⟩⟩,rfl,
     ⟨_,x,I.ck.fresh (aac _),rfl,rfl,λ Ym h=>by rw [I.nE h r];exact N⟩,⟨⟨_,by simpa using he⟩,Y.1.extBut J.extBut y.symm⟩,λ c W=>?_⟩
   have lc:c<s.heap.objs.size:=by
     simp only [aaa,aae,aaX] at W
     rcases W with rfl|rfl
     . exact Q
     . exact lj
   rw [aG (aas lc)]
   exact (n c W).1
 done:=by
   intro X D G C l i m s U H E I n S F
   subst D G C
   obtain ⟨xs,r,hl⟩:=F
   obtain ⟨B,R,p,hz⟩:=I.list r
   obtain ⟨⟨O,b⟩,f⟩:=S
   have d:i=B.toArray.size:=by rw [aar,<- R.length];exact hl.symm
   subst d
   refine wpAny_pyNext_enum_endD (Draws.list (A:=X.A.in1) (I.ok.hd l) j a L B.toArray) b ⟨f,p.isList⟩ λ z eb=>⟨rfl,I.vI (ch:=[e,j]) (t':=s.toks) (λ c o d q=>?_) n⟩
   simp only [aaa,aae,aaX,acG] at d
   exact eb c o d.2 q
 self:=λ Z Z Z Z Z S h=>by
   obtain ⟨⟨O,b⟩,Z⟩:=S
   exact abW b h
def yL {P:bh} {w:bf} {K:aC} {e j a:ag} (y:e≠j) (ae:a≠e) (L:a≠j):Turn P w K (.Tuple elts x1 qc) (EL (cH K) a) [e,j] e (EnT e j a) where
 mem:=by simp
 obj:=λ i h S c l=>by
   obtain ⟨⟨O,b⟩,oj,e2,Z,d2⟩:=S
   simp only [aaa,aae,aaX] at l
   rcases l with rfl|rfl
   . exact ⟨_,b,λ v q=>by cases q⟩
   . exact ⟨oj,e2,λ v q=>by rw [d2] at q;cases q⟩
 keep:=λ i h z S k=>by
   obtain ⟨⟨O,b⟩,f⟩:=S
   exact ⟨⟨O,k e (by simp) _ b⟩,f.at λ o q=>k j (by simp) o q⟩
 item:=by
   intro X D G C l i m s U H E I n S F
   subst D G C
   obtain ⟨xs,x,r,N⟩:=F
   obtain ⟨B,R,p,hz⟩:=I.tuple r
   obtain ⟨u,M,ru⟩:=R.get N
   obtain ⟨⟨O,b⟩,f⟩:=S
   have Q:e<s.heap.objs.size:=aag b
   have lj:j<s.heap.objs.size:=by obtain ⟨o,q,Z⟩:=f;exact aag q
   have hi:i<B.toArray.size:=by
     have:=(Yp.mp M).1
     simpa using this
   refine wpAny_pyNext_enum_itemD (FF (A:=X.A.in1) (I.ok.hd l) j a L B.toArray) b ⟨f,p⟩ hi y (by simp [y,ae.symm]) λ v z T t eo Y ht ab kk=>?_
   obtain rfl:v=u:=by
     have t:B.toArray[i]?=some v:=t
     rw [adP,M] at t
     exact (aai t).symm
   refine ⟨.ref s.heap.objs.size,rfl,adT (s:={ s with heap:=z,toks:=T+1 }) eo λ g he J=>?_⟩
   have V:∀ c o,c∉[e,j]->s.heap.get? c=some o->g.get? c=some o:=λ c o d q=>by
     simp only [aaa,aae,aaX,acG] at d
     exact J.extBut _ _ d.1 (kk c o d.1 d.2 q)
   have n5:=J.extBut _ _ (acK Q) ht
   refine ⟨.ref s.heap.objs.size,upd H s.heap.objs.size (.tup [av i,x]),I.vy (t':=T+1) V n (aac _) ⟨by show 2<=sizeLine;decide,[.int i T,v],.cons ⟨T,rfl⟩ (.cons ru .nil),⟨_,n5,rfl,_,rfl⟩⟩,rfl,
     ⟨_,x,I.ck.fresh (aac _),rfl,rfl,λ Ym h=>by rw [I.CY h r];exact N⟩,⟨⟨_,by simpa using he⟩,Y.1.extBut J.extBut y.symm⟩,λ c W=>?_⟩
   have lc:c<s.heap.objs.size:=by
     simp only [aaa,aae,aaX] at W
     rcases W with rfl|rfl
     . exact Q
     . exact lj
   rw [aG (aas lc)]
   exact (n c W).1
 done:=by
   intro X D G C l i m s U H E I n S F
   subst D G C
   obtain ⟨xs,r,hl⟩:=F
   obtain ⟨B,R,p,hz⟩:=I.tuple r
   obtain ⟨⟨O,b⟩,f⟩:=S
   have d:i=B.toArray.size:=by rw [aar,<- R.length];exact hl.symm
   subst d
   refine wpAny_pyNext_enum_endD (FF (A:=X.A.in1) (I.ok.hd l) j a L B.toArray) b ⟨f,p⟩ λ z eb=>⟨rfl,I.vI (ch:=[e,j]) (t':=s.toks) (λ c o d q=>?_) n⟩
   simp only [aaa,aae,aaX,acG] at d
   exact eb c o d.2 q
 self:=λ Z Z Z Z Z S h=>by
   obtain ⟨⟨O,b⟩,Z⟩:=S
   exact abW b h
section
variable {X:Cx}
def Vb (K:aC) (t:TA):TI:=λ U H R=>t U H λ v h=>∃ a,v=[.ref a]/\(∃ x,bw K h a x)/\R (EL (bw K) a) h
def UN (K:aC) (t:TA):TI:=λ U H R=>t U H λ v h=>∃ a,v=[.ref a]/\(∃ x,cH K h a x)/\R (EL (cH K) a) h
def M8:("enumerate" : Str) ≠ "__name__":=by decide +kernel
def MU:(("enumerate" : Str) == ("__debug__" : Str))=false:=by decide +kernel
def Bj {a:Expr} {p f:Pos} (n:Gl X "enumerate") (o:X.mg "enumerate" = none) (m:PA X [a] ta) (u:autoParam (starEach [a] X.env=[(false,eval a X.env)]) za_._auto_1) :
   PI X (.Tuple elts x1 qc) (.Call (.Name "enumerate" p) [a] [] f) (Vb X.K ta):=by
 intro d s U H R I h
 refine Call_ ?_
 refine kF I n o jU ?_ M8 MU
 refine aa7 ?_ u rfl
 refine cO (m f d s U H _ I h) λ E S ⟨V,k,i,w,Q⟩=>?_
 obtain ⟨a,e,⟨F,t⟩,q⟩:=Q
 subst e
 cases w with
 | cons r x =>
   cases x
   obtain rfl:_=Value.ref a:=r
   obtain ⟨B,D,j,A⟩:=i.list t
   have l:a<S.heap.objs.size:=by obtain ⟨Z,e,Z⟩:=j.isList;exact aag e
   refine call_enumerate_list j.isList λ C z y G v=>abW z ?_
   refine ⟨S.heap.objs.size+1,[S.heap.objs.size+1,S.heap.objs.size],_,_,k,rfl,i.kept (t':=S.toks) v,xf (acB _) (aas (acv l)) (aas l),⟨⟨_,z⟩,y⟩,λ c g=>?_,q⟩
   have b:S.heap.objs.size<=c:=by
     simp only [aaa,aae,aaX] at g
     rcases g with rfl|rfl
     . exact abY _
     . exact aac _
   exact i.yF b (i.ck.fresh b)
def Lb {a:Expr} {p f:Pos} (n:Gl X "enumerate") (o:X.mg "enumerate" = none) (m:PA X [a] ta) (u:autoParam (starEach [a] X.env=[(false,eval a X.env)]) za_._auto_1) :
   PI X (.Tuple elts x1 qc) (.Call (.Name "enumerate" p) [a] [] f) (UN X.K ta):=by
 intro d s U H R I h
 refine Call_ ?_
 refine kF I n o jU ?_ M8 MU
 refine aa7 ?_ u rfl
 refine cO (m f d s U H _ I h) λ E S ⟨V,k,i,w,Q⟩=>?_
 obtain ⟨a,e,⟨F,t⟩,q⟩:=Q
 subst e
 cases w with
 | cons r x =>
   cases x
   obtain rfl:_=Value.ref a:=r
   obtain ⟨B,D,j,A⟩:=i.tuple t
   have l:a<S.heap.objs.size:=j.lt
   refine rF j λ C z y v=>abW z ?_
   refine ⟨S.heap.objs.size+1,[S.heap.objs.size+1,S.heap.objs.size],_,_,k,rfl,i.kept (t':=S.toks) v,yL (acB _) (aas (acv l)) (aas l),⟨⟨_,z⟩,y⟩,λ c g=>?_,q⟩
   have b:S.heap.objs.size<=c:=by
     simp only [aaa,aae,aaX] at g
     rcases g with rfl|rfl
     . exact abY _
     . exact aac _
   exact i.yF b (i.ck.fresh b)
end
def jG {sq:Hp->ag->aA->Prop} {a:ag} {xs:aA} {g:TG} {T:TT} {t:TE} {D:ag} {Q:Hp->Prop} {U:St} (c:Nat->aA->St->Hp->Prop) (o:c 0 [] U H) (u:∀ i acc U H,i<=xs.length->c i acc U H->sq H a xs) (z:∀ i x p acc U H,xs[i]?=some x->H p=none->c i acc U H->g (.ref p) U (upd H p (.tup [av i,x])) λ b l=>T b l λ k h =>
     if k=true then t b h λ v j=>j D=some (.lst acc)/\acc.length<sizeLine/\c (i+1) (acc++[v]) b (upd j D (.lst (acc++[v]))) else c (i+1) acc b h) (r:∀ acc U H,c xs.length acc U H->Q H) :
   ∃ W:Nat->Nat->aA->St->Hp->Prop,(∃ m,W 0 m [] U H)/\∀ i m acc f d,W i m acc f d->((EL sq a).stop i d/\Q d) \/
     ((EL sq a).go i d/\∃ N:aA->St->Hp->Prop,(∀ I b h,N I b h->∃ m',m'<m/\W (i+1) m' I b h)/\∀ x n,(EL sq a).Ey i d x n->g x f n λ b l=>T b l λ k h =>
       if k=true then t b h λ y j=>j D=some (.lst acc)/\acc.length<sizeLine/\N (acc++[y]) b (upd j D (.lst (acc++[y]))) else N acc b h):=by
 refine ⟨λ i m acc U H=>m=xs.length - i/\i<=xs.length/\c i acc U H,⟨_,rfl,aaV _,o⟩,?_⟩
 rintro i m acc U H ⟨rfl,s,p⟩
 have q:=u i acc U H s p
 by_cases K:i<xs.length
 . refine .inr ⟨⟨xs,xs[i],q,by simp [K]⟩,c (i+1),λ I f d A=>⟨xs.length - (i+1),by lia,rfl,K,A⟩,λ v d y=>?_⟩
   obtain ⟨B,x,w,rfl,rfl,E⟩:=y
   exact z i x B acc U H (E xs q) w p
 . have e:i=xs.length:=by lia
   subst e
   exact .inl ⟨⟨xs,q,rfl⟩,r acc U H p⟩
end L2
namespace Tx
open PySem PySem.Builtin PySem.Builtin.Str
def len (a:Str):a.cps.toList.length=a.length:=acU
def sl:Str:=⟨#[47]⟩
def cases (x:Str):47∉x.cps.toList\/∃ a b:Str,47∉a.cps.toList/\x.cps.toList=a.cps.toList++47::b.cps.toList:=by
 by_cases h:47∈x.cps.toList
 . obtain ⟨as,B,e,n⟩:=List.eq_append_cons_of_mem h
   exact .inr ⟨⟨as.toArray⟩,⟨B.toArray⟩,by simpa using n,by simpa using e⟩
 . exact .inl h
def strN (n:Nat):Str:=Str.ofString (toString ((n:Nat):Int))
def Good (z:Str):Prop:=1<=z.length/\z.length<=30/\NumText.AllDigits z.cps.toList/\¬ (z.cps.toList.head?=some 48/\1<z.length)
def valOf (z:Str):Int:=((NumText.digitsVal z.cps.toList:Nat):Int)
def mi:Str:=⟨#[45]⟩
def GW (z:Str):Bool:=decide (z.cps.toList.head?=some 45)
def bodyOf (z:Str):Str:=if GW z=true then Txt.slice z (some 1) none else z
def WB (z:Str):Int:=if GW z=true then -1 else 1
def Rd (z:Str) (f:Int×Int):Prop :=
 Good (Txt.partition (bodyOf z) sl).1/\(GW z=true->valOf (Txt.partition (bodyOf z) sl).1≠0)/\f.1=WB z * valOf (Txt.partition (bodyOf z) sl).1 /\
 (((Txt.partition (bodyOf z) sl).2.1=sl/\Good (Txt.partition (bodyOf z) sl).2.2/\2<=valOf (Txt.partition (bodyOf z) sl).2.2 /\
     Int.gcd (valOf (Txt.partition (bodyOf z) sl).1) (valOf (Txt.partition (bodyOf z) sl).2.2)=1/\f.2=valOf (Txt.partition (bodyOf z) sl).2.2) \/
   ((Txt.partition (bodyOf z) sl).2.1≠sl/\f.2=1))
def Pb (t:Int):Str:=if t<0 then mi++strN t.natAbs else strN t.natAbs
def aaF (t b:Int):Str:=if b=1 then Pb t else Pb t++sl++strN b.natAbs
end Tx
namespace L2
open PySem PySem.Spec PyProof.Rows Mth
variable {E:XK} {H H1:Hp} {pos':Pos} {tv:TE} {value:Expr}
section
def isStr (k:Str):aq->Bool
 | .str x _=>x == k
 | _=>false
end
section
variable {P:bh} {w:bf} {K:aC} {mg:bR} {base:aO} {x qual m:Str} {st:Stmt} {dV:aq} {f C:ag} {fd:FuncData} {N ps:bN} {k:Nat} {sp:Sp}
def mG.XF (F:mG K x qual st dV f fd) (S:az N ps (ak st)) (len:∀ vs H Q E,sp vs H Q E->vs.length=ps.length) (c:∀ (a:aq) (A:Around) (outer:List Env) (s:Shared) (H:Hp) (vs:aA) (Q:VK) (E:XK),cA k (A.deeper (envOfC qual (ak st) s.heap.objs.size f a))->sp vs H Q E ->
     ∃ t,l8 (dh (Dy P w) P w K mg base N qual (ak st) f a A outer s H E) (bg st) t/\t { nx:=λ Z h=>Q .bL h,rt:=Q } (start N vs) H):iN P w K mg base (Dy P w) (k+1) f fd ps sp:=by
 obtain ⟨o,O,kV,d,p,e,a,ct,q,rfl,l,j⟩:=F.ex
 exact FJ l j S len λ A outer s H vs Q E b z=>c a A outer s H vs Q E b z
def ss (P:bh) (w:bf) (K:aC) (M:bR) (base:aO) (C:ag) (m:Str) (k:Nat) (p:bN) (d:aU) (s:Sp):Prop :=
 ∃ f fd,Meth K C m f/\Binds K fd p d/\iN P w K M base (Dy P w) k f fd p s
def eP.Gi (h:eP K C m qual st .none) (S:az N ps (ak st)) (len:∀ vs H Q E,sp vs H Q E->vs.length=ps.length) (g:∀ (kV d p:aq) (c:Option ag) (a ct:aq) (us:aU),us.length=ps.length->bindArgs (W.fnOf m qual (cg st) (bg st) (ak st) .none kV d p c a ct) ⟨us,[]⟩=pure (ps.zip us)) (e:∀ (f:ag) (a:aq) (A:Around) (outer:List Env) (s:Shared) (H:Hp) (vs:aA) (Q:VK) (E:XK),cA k (A.deeper (envOfC qual (ak st) s.heap.objs.size f a))->sp vs H Q E ->
     ∃ t,l8 (dh (Dy P w) P w K mg base N qual (ak st) f a A outer s H E) (bg st) t/\t { nx:=λ Z b=>Q .bL b,rt:=Q } (start N vs) H):ss P w K mg base C m (k+1) ps [] sp:=by
 obtain ⟨f,fd,M,F⟩:=h
 exact ⟨f,fd,M,F.vd g,F.XF S len λ a A outer s H vs Q E i j=>e f a A outer s H vs Q E i j⟩
end
section
variable {X:Cx}
theorem rJ:∀ {ys:List Bool} {us:aU},Vals (ys.map V.bl) us->us=ys.map Value.bool
 | [],_,r=>by cases r;rfl
 | y::ys,_,r=>by
   rw [aaN] at r
   cases r with
   | cons R a =>
     rw [aaN,rJ a]
     cases R
     rfl
def ou:aq->Bool
 | .bool b=>b == true
 | _=>false
inductive Ka (K:aC) (x:V) (vs:aA) (H:Hp) (Q:VK):Prop|mk (p:ag) (ys:List Bool) (_:x = .ref p) (_:vs=[.bl true]) (_:bw K H p (ys.map V.bl)) (_:true∈ys) (_:ys.length<=1000) (_:Q (.int (ys.idxOf true:Nat)) H)
theorem rV:∀ {ns:List Bool} {j:Nat},j<ns.idxOf true->∀ (b:j<ns.length),(ns[j] == true)=false
 | [],_,h,_=>by simp at h
 | a::ns,j,h,b=>by
   rw [List.idxOf_cons] at h
   cases H:(a == true)
   . rw [H,cond_false] at h
     cases j with
     | zero=>exact H
     | succ j=>exact rV (ns:=ns) (by lia) (by simpa using b)
   . rw [H,cond_true] at h
     lia
def Ec:NQ X "list.index" (Ka X.K):=by
 intro f s U H x G v C Q I z w h
 obtain ⟨p,Y,rfl,rfl,j,k,A,q⟩:=h
 cases z
 obtain ⟨u,rfl,R⟩:=w.one
 obtain rfl:u=Value.bool true:=R
 obtain ⟨B,r,t,Z⟩:=I.list j
 obtain ⟨⟨cls,D,data,sl⟩,e,a,n,c⟩:=t.isList
 simp only at a c
 subst a c
 have d:B.length=Y.length:=by rw [<- r.length,Bl]
 have g:Y.idxOf true<Y.length:=List.idxOf_lt_length_iff.mpr k
 have E:=rJ r
 subst E
 refine call_meets ady ⟨_,e,rfl⟩ PySem.F.entry_list_index (PySem.F.args_list_index_2 _ _)
   (SeqAt.list_indexAt p _ n D sl (.bool true) ou (Y.idxOf true) (by rw [aar];lia) (by lia) ?_ ?_) ⟨e,λ y l=>?_,⟨.int _,H,I.tok _,⟨_,rfl⟩,q⟩⟩
 .
  show ou (Y.map Value.bool)[Y.idxOf true]=true
  rw [List.getElem_map]
  show (Y[Y.idxOf true] == true)=true
  rw [List.getElem_idxOf g];rfl
 .
  intro m i o
  have T:m<Y.length:=by simpa using i
  show ou (Y.map Value.bool)[m]=false
  rw [List.getElem_map]
  exact rV o T
 . have V:y∈Y.map Value.bool:=by simpa using l
   obtain ⟨b,Z,rfl⟩:=aax.mp V
   exact ac0 _ _
inductive Io (K:aC) (x:V) (vs:aA) (H:Hp) (Q:VK):Prop|mk (p:ag) (ys:List Bool) (_:x = .ref p) (_:vs=[.bl true]) (_:bw K H p (ys.map V.bl)) (_:Q (.int (ys.count true:Nat)) H)
theorem l6:∀ ys:List Bool,(ys.map Value.bool).countP ou=ys.count true
 | []=>rfl
 | y::ys=>by
   rw [aaN,List.countP_cons,List.count_cons,l6 ys]
   rfl
def DC:NQ X "list.count" (Io X.K):=by
 intro e s U H x m v l Q I k j h
 obtain ⟨p,Y,rfl,rfl,f,q⟩:=h
 cases k
 obtain ⟨u,rfl,R⟩:=j.one
 obtain rfl:u=Value.bool true:=R
 obtain ⟨B,r,i,Z⟩:=I.list f
 obtain ⟨⟨cls,D,data,sl⟩,d,a,n,c⟩:=i.isList
 simp only at a c
 subst a c
 have E:=rJ r
 subst E
 refine call_meets adz ⟨_,d,rfl⟩ PySem.F.entry_list_count (PySem.F.args_list_count_2 _ _)
   (SeqAt.list_countAt p _ n D sl (.bool true) ou) ⟨d,λ y g=>?_,?_⟩
 . have V:y∈Y.map Value.bool:=by simpa using g
   obtain ⟨b,Z,rfl⟩:=aax.mp V
   exact ac0 _ _
 . rw [show (Y.map Value.bool).toArray.toList=Y.map Value.bool from rfl,l6]
   exact ⟨.int _,H,I.tok _,⟨_,rfl⟩,q⟩
end
section
variable {P:bh} {w:bf} {K:aC} {mg:bR} {base:aO} {x qual m:Str} {st:Stmt} {dV:aq} {f C:ag} {fd:FuncData} {N ps:bN} {k:Nat} {sp:Sp} {ds:aU} {fD:aA}
def JN (P:bh) (w:bf) (K:aC) (M:bR) (base:aO) (C:ag) (m q:Str) (st:Stmt) (d:aq) (k:Nat) (p:bN) (s:Sp):Prop :=
 ∃ f fd,Meth K C m f/\mG K m q st d f fd/\iN P w K M base (Dy P w) k f fd p s
def xm (P:bh) (w:bf) (K:aC) (M:bR) (base:aO) (C:ag) (m:Str) (k:Nat) (p:bN) (f:aA) (s:Sp):Prop :=
 ∃ ds,Vals f ds/\ss P w K M base C m k p ds s
def eP.VD (h:eP K C m qual st dV) (S:az N ps (ak st)) (len:∀ vs H Q E,sp vs H Q E->vs.length=ps.length) (c:∀ (f:ag) (a:aq) (A:Around) (outer:List Env) (s:Shared) (H:Hp) (vs:aA) (Q:VK) (E:XK),cA k (A.deeper (envOfC qual (ak st) s.heap.objs.size f a))->sp vs H Q E ->
     ∃ t,l8 (dh (Dy P w) P w K mg base N qual (ak st) f a A outer s H E) (bg st) t/\t { nx:=λ Z b=>Q .bL b,rt:=Q } (start N vs) H):JN P w K mg base C m qual st dV (k+1) ps sp:=by
 obtain ⟨f,fd,M,F⟩:=h
 exact ⟨f,fd,M,F,F.XF S len λ a A outer s H vs Q E d e=>c f a A outer s H vs Q E d e⟩
def JN.O5 {T:ag} {x:aA} (h:JN P w K mg base C m qual st (.ref T) k ps sp) (H:Bi K T x) (a:∀ i:Array aq,Vals x i.toList->∃ ds,Vals fD ds/\∀ (kV d p:aq) (b:Option ag) (A ct:aq) (us:aU),(us++ds).length=ps.length->∃ k,bindArgs (W.fnOf m qual (cg st) (bg st) (ak st) (.ref T) kV d p b A ct) ⟨us,[]⟩=seqItems? (.ref T) >>= k/\k (some i)=pure (ps.zip (us++ds))) :
   xm P w K mg base C m k ps fD sp:=by
 obtain ⟨f,fd,M,F,O⟩:=h
 obtain ⟨o,n,i,H,e,g⟩:=H
 obtain ⟨ds,c,a⟩:=a i g
 exact ⟨ds,c,f,fd,M,F.binds H e a,O⟩
def ss.y (D:ss P w K mg base C m k ps [] sp):xm P w K mg base C m k ps [] sp:=⟨[],.nil,D⟩
abbrev L6:aU:=[.type "ValueError",.type "Exception",.type "BaseException",.type "object"]
def Mj (K:aC) (C:ag) (q:Str) (st:Stmt):Prop:=∃ f fd,Jv K C f L6 "ValueError.__new__"/\mG K "__init__" q st .none f fd
def Ln (P:bh) (w:bf) (K:aC) (m:bR) (base:aO) (C:ag) (k:Nat) (p:bN) (s:Sp):Prop :=
 ∃ f fd,Jv K C f L6 "ValueError.__new__"/\Binds K fd p []/\iN P w K m base qj k f fd p s
def Mj.Um (h:Mj K C qual st) (S:az N ps (ak st)) (len:∀ vs H Q E,sp vs H Q E->vs.length=ps.length) (g:∀ (kV d p:aq) (c:Option ag) (a ct:aq) (us:aU),us.length=ps.length->bindArgs (W.fnOf "__init__" qual (cg st) (bg st) (ak st) .none kV d p c a ct) ⟨us,[]⟩=pure (ps.zip us)) (e:∀ (f:ag) (a:aq) (A:Around) (outer:List Env) (s:Shared) (H:Hp) (vs:aA) (Q:VK) (E:XK),cA k (A.deeper (envOfC qual (ak st) s.heap.objs.size f a))->sp vs H Q E ->
     ∃ t,l8 (dh qj P w K mg base N qual (ak st) f a A outer s H E).sS (bg st) t/\t { nx:=λ Z b=>Q .bL b,rt:=Q } (start N vs) H):Ln P w K mg base C (k+1) ps sp:=by
 obtain ⟨f,fd,M,F⟩:=h
 exact ⟨f,fd,M,F.vd g,F.ok S len λ a A outer s H vs Q E i j=>e f a A outer s H vs Q E i j⟩
end
section
variable {X:Cx} {C:ag} {m x c:Str} {p pos apos np c6:Pos} {e o e₀:Expr} {es rest:List Expr} {ta:TE} {t:TA} {k:Nat} {ps:bN} {sp:Sp} {ds:aU} {fD:aA} {E:XK}
def DI (a:X.calm=true) (i:X.mg c=some (.ref C)) (D:Ln X.prog X.w X.K X.mg X.base C k ps sp) (j:cA (k+1) X.A) (T:LN X E) (h:PA X (e₀::rest) t) (e:autoParam (Gl X c) za_._auto_1) (b:autoParam ((c == ("__debug__" : Str))=false) zb_._auto_1) (d:autoParam (starEach (e₀::rest) X.env=(false,eval e₀ X.env)::starEach rest X.env) za_._auto_1) (g:autoParam ((backTo c6 (starEach rest X.env)).any (·.1)=false) za_._auto_1) :
   PS X (.Raise (some (.Call (.Name c np) (e₀::rest) [] c6)) none pos) (Cm C E sp t):=by
 obtain ⟨f,l,q,H,F⟩:=D
 exact Dr a abb i q F j H T h e b d g
def sF {pl:Sem Bool} (b:PE X o ta) (c:tH X.K C) (D:xm X.prog X.w X.K X.mg X.base C m k ps fD sp) (i:cA k X.A) (l:Passes (Dy X.prog X.w) X E) (h:PA X (e::es) t) (G:autoParam (zu X e es) za_._auto_1) (g:autoParam (wP X es pos) za_._auto_1) (j:autoParam (eval (.Call (.Attribute o m apos) (e::es) [] pos) X.env=(do
     let O <- eval o X.env
     standAt apos.atName
     let (f,first) <- holding [O] (getMethod O m pl)
     callWith pos f first (backTo pos (starEach (e::es) X.env)) (backToKw pos (keywordEach [] X.env)))) za_._auto_1) :
   PE X (.Call (.Attribute o m apos) (e::es) [] pos) (pJ C m sp fD E ta t):=by
 obtain ⟨ds,a,f,n,d,H,F⟩:=D
 exact BB (pl:=pl) b c d F i H a l h G g j
def Cq {pl:Sem Bool} (T:PE X.sS o ta) (c:tH X.K C) (D:xm X.prog X.w X.K X.mg X.base C m k ps fD sp) (Y:cA k X.A) (M:PA X.sS (e::es) t) (L:autoParam (zu X e es) za_._auto_1) (J:autoParam (wP X es pos) za_._auto_1) (ht:autoParam (eval (.Call (.Attribute o m apos) (e::es) [] pos) X.env=(do
     let O <- eval o X.env
     standAt apos.atName
     let (f,first) <- holding [O] (getMethod O m pl)
     callWith pos f first (backTo pos (starEach (e::es) X.env)) (backToKw pos (keywordEach [] X.env)))) za_._auto_1) :
   PX X (.Call (.Attribute o m apos) (e::es) [] pos) (λ U H Q E=>pJ C m sp fD E ta t U H Q):=by
 obtain ⟨ds,S,f,fd,v,N,F⟩:=D
 intro p s U H Q E I h
 refine acW (pl:=pl) (aau (T p s U H _ (I.ki _) h) (λ u s1 ⟨x,H1,j,rx,a,dx,fs,ex,B,l,q⟩=>?_) λ _ _ z=>False.elim z) ht
 subst ex
 obtain rfl:u=Value.ref a:=rx
 refine j0 j.gL B c v l ?_
 refine acj (first:=[.ref a]) (h₀:=X.base) I.ok.mod.Bu v.kp (aau (M pos p s1 U H1 _ j q) (λ d s2 ⟨vs,i,n,r,y⟩=>⟨n.jy,?_⟩) λ _ _ z=>False.elim z) L J
 have g:Inv X p U i s2:=n.gL
 have R:Vals (V.ref a::(vs++fD)) (Value.ref a::d++ds):=.cons rfl (r.append S)
 have W:(Value.ref a::d++ds).length=ps.length:=by rw [<- R.length];exact F.len _ _ _ _ y
 refine abX (abT (F.run X.A X.stack s2 i ⟨Value.ref a::d,[]⟩ (Value.ref a::d++ds) _ Q E Y g.Bb (N s2 (Value.ref a::d) g.jy W) R y) λ r s' b=>?_)
 cases r with
 | error e=>exact ⟨i,s2,g,b⟩
 | ok G =>
   cases G with
   | ret u=>exact g.after b
   | next=>exact False.elim b
   | brk=>exact False.elim b
   | cont=>exact False.elim b
def Sq (K:aC) (cls:aq) (d:Option ag) (e:ag) (t:TE) (f:Str):TE:=λ U H Q=>t U H λ x H1=>∃ C D F v,x = .ref e/\cls = .ref C/\d=some D/\H1 D=some (.xd F)/\ExcAt K C f/\F.lookup f=some v/\Q v H1
def vY {e:Expr} {f:Str} {ea:ag} {o:Obj} {cls:aq} {d:Option ag} (K:aC) (g:X.K=K) (t:(ea,o)∈X.pn) (k:o.cls=cls) (m:o.dict=d) (r:W.notCls o=true) (n:PE X e ta) (j:autoParam (attributeBase e f X.env (eval e X.env)=eval e X.env) za_._auto_1) :
   PE X (.Attribute e f pos) (Sq K cls d ea ta f):=by
 subst g
 intro p s U H Q I h
 refine CC j (cO (n p s U H _ I h) λ u S ⟨x,H1,i,y,C,D,F,v,ex,E,b,w,c,l,q⟩=>?_)
 subst ex
 obtain rfl:u=Value.ref ea:=y
 exact JA i t (k.trans E) r (m.trans b) w c l λ A z a R=>⟨v,H1,a,R,q⟩
end
def iD (C:ag) (r:fH) (H:Hp) (E:XK):Prop:=match r with
 | none=>∀ h,aF H h->E (.ref C) none h
 | some v=>∀ d h,aF H h->h d=some (.xd [("room",v)])->E (.ref C) (some d) h
def iD.plain {C:ag} (h:iD C none H E) (s:aF H H1):E (.ref C) none H1:=h H1 s
open PySem.Builtin PySem.Builtin.ObjectAttr
section
variable {K:aC} {prog:bh} {w:bf} {A:Around} {E:aq->Shared->Prop} {s:Shared} {x C dx:ag} {name:Str} {v:aq} {mA:bR}
def EX {t:ag} {ns:bN} {Q:Unit->Shared->Prop} (X:K.In s.heap) (H:s.heap.get? x=some (GZ C t (some dx))) (d:s.heap.Ns1 dx mA) (nx:dx≠x) (n:W.findIn K (.ref C) "__setattr__" = some (some (.builtin "object.__setattr__"))) (m:lT K C=true) (r:W.findIn K (.ref C) name=some none) (l:W.hasDictIn K C=true) (hw:PySem.Within mA ns) (hsz:ns.length<=1000) (h:∀ h',h'.get? x=some (GZ C t (some dx))->h'.Ns1 dx (λ y=>if y=name then some v else mA y)->(∀ b o,b≠dx->s.heap.get? b=some o->h'.get? b=some o)->Q () { s with heap:=h',toks:=s.toks+2 }) :
   wpAny (model prog w) A (setAttr (.ref x) name v) Q E s:=by
 obtain ⟨u,f,F⟩:=pE d
 have J:W.InstAt s.heap x (GZ C t (some dx)) C (some u):=⟨H,rfl,rfl,f⟩
 refine W.set_plain X J n (Bx (s:={ s with toks:=s.toks+1 }) X J m r ?_)
 obtain ⟨D,k,g⟩:=ad5 l
 refine OW (aak (OW (OW (ac4 H (OW (W.Looks.here (s:={ s with toks:=s.toks+1 }) (adj X k) ?_))))))
 rw [g]
 refine aak (a:=some dx) (OW (aak (OW ?_)))
 refine wpAny_nsSet1 (s:={ s with toks:=s.toks+1 }) d λ h' c e=>?_
 obtain ⟨G,z,B,p,O,i⟩:=c.count (acu name v hw)
 refine OW (adv p (by rw [O];exact adx (aa3 i (by rw [aav,adb];lia))) ?_)
 exact aak (h h' ((e.2 _ (abt nx)).trans H) c λ b o j q=>(e.2 b j).trans q)
end
def DX (d:ag) (f:Str) (y:V):HO:=.ext λ h=>∃ u,RelV y u/\h.Ns1 d (λ z=>if z=f then some u else none)
section
variable {X:Cx} {pins:List (ag×Obj)} {U:St} {H:Hp} {s:Shared} {A:Around} {E:aq->Shared->Prop}
def GN {a C t:ag} {f:Str} {y:V} {u:aq} {Q:Unit->Shared->Prop} (I:Inv X pins U H s) (e:H a=some (XO a C t none)) (c:ExcAt X.K C f) (ry:RelV y u) (h:∀ s' d,H d=none->d≠a->Inv X pins U (upd (upd H d (DX d f y)) a (XO a C t (some d))) s'->Q () s'):wpAny (model X.prog X.w) A (setAttr (.ref a) f u) Q E s:=by
 have n:s.heap.get? a=some (GZ C t none):=(I.ck a _ e).1
 have S:=aag n
 refine Il I.jy n c.sa c.po c.no c.hd λ j l F g=>?_
 obtain ⟨od,J,G,m,wS,sk,uk,R⟩:=F
 have nf:od.isFreed=false:=(Heap.get?_some_iff.mp m).2
 have i:(s.heap.push od).get? s.heap.objs.size=some od:=aaE _ nf
 have N:s.heap.objs.size≠a:=acK S
 have v:=I.laid (a:=s.heap.objs.size) (o:=DX s.heap.objs.size f y) (h':=s.heap.push od) (t':=s.toks+2) (λ b q z=>ZB _ z) (aac _)
   ⟨⟨u,ry,od,J,G,i,wS,sk,uk,R⟩,⟨_,i⟩,λ L M p k=>by
     obtain ⟨u,r,o,T,W,Y,q4⟩:=p
     exact ⟨u,r,o,T,W,k _ Y,q4⟩⟩
 have D:upd H s.heap.objs.size (DX s.heap.objs.size f y) a=some (XO a C t none):=by rw [aG (abt N)];exact e
 have B:=v.write (x:=a) (e:=a) (o:=XO a C t (some s.heap.objs.size)) (h':=j) (t':=s.toks+2) (by rw [D];exact True.intro) (.inl rfl) (λ b q O z=>by
   by_cases w:b=s.heap.objs.size
   . subst w
     have z:(s.heap.push od).get? s.heap.objs.size=some q:=z
     rw [i] at z
     cases z
     exact m
   . refine g b q O ?_
     have z:(s.heap.push od).get? b=some q:=z
     rw [Heap.get?_push_ne _ _ _ w] at z
     exact z) ⟨_,l⟩ ⟨l,⟨_,l⟩,λ L M p k=>k _ p⟩
 exact h _ _ (I.ck.fresh (aac _)) N B
def Gg {a C t d:ag} {f g:Str} {y z:V} {u:aq} {Q:Unit->Shared->Prop} (I:Inv X pins U H s) (e:H a=some (XO a C t (some d))) (l:H d=some (DX d g z)) (n:d≠a) (c:ExcAt X.K C f) (R:RelV y u) (h:∀ s',Inv X pins U (upd H d (.xd [(f,y),(g,z)])) s'->Q () s'):wpAny (model X.prog X.w) A (setAttr (.ref a) f u) Q E s:=by
 have D:s.heap.get? a=some (GZ C t (some d)):=(I.ck a _ e).1
 obtain ⟨m,J,v⟩:=(I.ck d _ l).1
 refine EX (ns:=[g]) I.jy D v n c.sa c.po c.no c.hd (acu g m (ns:=[]) (λ y G=>absurd rfl G)) (by show 1<=1000;decide) λ b N F k=>?_
 have T:∃ o,b.get? d=some o:=by obtain ⟨O,M,L,p,Z⟩:=F;exact ⟨O,p⟩
 refine h _ (I.write (x:=d) (e:=d) (o:=.xd [(f,y),(g,z)]) (h':=b) (t':=s.toks+2) (by rw [l];exact True.intro) (.inl rfl) k T ⟨_,F,λ q=>?_⟩)
 show jj (([(f,y),(g,z)]:List (Str×V)).lookup q) (if q=f then some u else if q=g then some m else none)
 by_cases i:q=f
 .
  subst i
  rw [aaq rfl]
  simp only [List.lookup,adc]
  exact R
 .
  rw [aal i]
  have B:(q == f)=false:=by simpa using i
  by_cases j:q=g
  . subst j
    rw [aaq rfl]
    simp only [List.lookup,B,adc]
    exact J
  . rw [aal j]
    have r:(q == g)=false:=by simpa using j
    simp only [List.lookup,B,r]
    exact trivial
def Mo (K:aC) (T b:TE) (f:Str):TS:=λ D U H=>b U H λ y H1=>T U H1 λ x h=>∃ a C t,x = .ref a/\h a=some (XO a C t none)/\ExcAt K C f/\∀ d,h d=none->d≠a->D.nx U (upd (upd h d (DX d f y)) a (XO a C t (some d)))
def Ho {o:Expr} {f:Str} {p:Pos} {T:TE} (g:PE X o T) (k:PE X value tv) (j:swapsWith value (some (.Attribute o f pos')) p.line X.env=pure false):PS X (.Assign [.Attribute o f pos'] value p) (Mo X.K T tv f):=by
 intro pins s U H D I h
 refine acg (cO (k pins s U H _ I h) λ u S ⟨y,H1,i,R,q⟩=>cO (g pins S U H1 _ i q) λ O m ⟨x,l,b,r,a,C,t,ex,E,c,Q⟩=>?_) j
 subst ex
 obtain rfl:O=Value.ref a:=r
 exact GN b E c R λ v e n N d=>⟨U,_,d,Q e n N⟩
def Mt (K:aC) (T b:TE) (f:Str):TS:=λ D U H=>b U H λ y H1=>T U H1 λ x h=>∃ a C t d g z,x = .ref a/\h a=some (XO a C t (some d))/\h d=some (DX d g z)/\d≠a/\ExcAt K C f/\D.nx U (upd h d (.xd [(f,y),(g,z)]))
def G8 {o:Expr} {f:Str} {p:Pos} {T:TE} (j:PE X o T) (l:PE X value tv) (k:swapsWith value (some (.Attribute o f pos')) p.line X.env=pure false):PS X (.Assign [.Attribute o f pos'] value p) (Mt X.K T tv f):=by
 intro pins s U H D I h
 refine acg (cO (l pins s U H _ I h) λ u S ⟨y,H1,i,R,q⟩=>cO (j pins S U H1 _ i q) λ O w ⟨x,m,b,r,a,C,t,v,g,z,ex,e,E,n,c,Q⟩=>?_) k
 subst ex
 obtain rfl:O=Value.ref a:=r
 exact Gg b e E n c R λ A d=>⟨U,_,d,Q⟩
end
inductive uI (C:ag) (f g:Str) (vs:aA) (H:Hp) (Q:VK) (_E:XK):Prop|mk (x t v u:_) (_:vs=[.ref x,v,u]) (_:H x=some (XO x C t none)) (_:∀ dx,H dx=none->dx≠x->Q .bL (upd (upd (upd H dx (DX dx f v)) x (XO x C t (some dx))) dx (.xd [(g,u),(f,v)])))
def hZ (C:ag) (r u:V) (H:Hp) (E:XK):Prop:=∀ d h,aF H h->h d=some (.xd [("turn",u),("room",r)])->E (.ref C) (some d) h
def hZ.same {C:ag} {r u:V} (h:hZ C r u H E) (s:aF H H1):hZ C r u H1 E:=λ d a S=>h d a (s.trans S)
def hZ.raised {C:ag} {r u:V} (h:hZ C r u H E) (s:aF H H1):[r,u].length<=sizeLine/\∀ x t,H1 x=none->uI C "room" "turn" (.ref x::[r,u]) (upd H1 x (XO x C t none)) (λ v a=>v = .bL/\∃ d,a x=some (XO x C t d)/\E (.ref C) d (gQ a x)) E0:=by
 refine ⟨by show 2<=sizeLine;decide,λ x t i=>⟨x,t,r,u,rfl,ai,λ D f g=>⟨rfl,some D,by rw [aG (abt g)];exact ai,h D _ ?_ ?_⟩⟩⟩
 .
  intro b o c
  have n:b≠x:=λ z=>by have:=s b o c;rw [z,i] at this;cases this
  have e:(upd H1 x (XO x C t none)) b=some o:=by rw [aG n];exact s b o c
  have N:b≠D:=λ z=>by rw [z] at e;rw [e] at f;cases f
  rw [fC n,aG N,aG n,aG N]
  exact e
 . rw [fC g]
   exact ai
end L2
namespace Ord
open Bit
def wr:∀ W,W<16->parts (rooms W)=(List.range 16).filter (λ o=>decide (o &&& W=o)):=by decide +kernel
structure BX (n:Nat) (has:Nat->Bool) (wd:Nat->Int) (wt:Nat->Bool) (b:Nat) (most heap:Int) (o:Nat):Prop where
 has:∀ r∈rooms o,r<n/\has r=true
 gE:∀ r,r<n->wt r=true->o.testBit r=b.testBit r
 most:((rooms o).length:Int)<=most
 vT:((rooms o).map wd).sum<=heap
def setOf (n:Nat) (p:Nat->Bool):Nat:=sumOf ((List.range n).filter p)
def iP (n:Nat) (p:Nat->Bool) (k:Nat):(setOf n p).testBit k=(decide (k<n) && p k):=by
 unfold setOf
 rw [lK]
 by_cases h:k<n<;>cases e:p k<;>simp [h,e]
def u0 (n:Nat) (p:Nat->Bool):setOf n p<2 ^ n:=FS λ r h=>aaK.mp (aaW.mp h).1
def Dp {n:Nat} (p:Nat->Bool) (H:n<=61):rooms (setOf n p)=(List.range n).filter p :=
 yB (λ r h=>by have:=aaK.mp (aaW.mp h).1;lia) ((adH).filter _)
def Iz {o k:Nat} (h:o<16) (H:4<=k):o.testBit k=false:=ji (m:=4) h H
structure FP (n:Nat) (has:Nat->Bool) (wd:Nat->Int) (wt:Nat->Bool) (b:Nat) (most heap:Int) (o:Nat):Prop where
 gE:o &&& setOf n wt=b &&& setOf n wt
 most:((rooms o).length:Int)<=most
 vT:((rooms (o &&& setOf n has)).map wd).sum<=heap
section
variable {n:Nat} {has:Nat->Bool} {wd:Nat->Int} {wt:Nat->Bool} {b:Nat} {most heap:Int} {o:Nat}
def Cr (c:o<2 ^ 61):o &&& setOf n has=o↔∀ r∈rooms o,r<n/\has r=true:=by
 constructor
 .
  intro e r d
  have H:=(dH.mp d).2
  rw [<- e,aa0,iP] at H
  simp only [aaw,aaR] at H
  exact H.2
 .
  intro h
  refine abi λ k=>?_
  rw [aa0,iP]
  by_cases b:k<61
  .
   cases e:o.testBit k with
   | false=>rfl
   | true =>
     obtain ⟨a,H⟩:=h k (dH.mpr ⟨b,e⟩)
     rw [aaC a,H];rfl
  . rw [ji c (by lia)];rfl
def yU:o &&& setOf n wt=b &&& setOf n wt↔∀ r,r<n->wt r=true->o.testBit r=b.testBit r:=by
 constructor
 .
  intro e r a c
  have h:=abK (λ x=>Nat.testBit x r) e
  simp only [aa0,iP,aaC a,c,Bool.and_true] at h
  exact h
 .
  intro h
  refine abi λ k=>?_
  rw [aa0,aa0,iP]
  by_cases H:k<n
  . cases e:wt k with
    | false=>simp
    | true=>rw [h k H e]
  . rw [aap H];simp
def Fc (c:o<2 ^ 61):BX n has wd wt b most heap o↔(o &&& setOf n has=o/\FP n has wd wt b most heap o):=by
 constructor
 . rintro ⟨d,H,a,h⟩
   have e:=(Cr c).mpr d
   exact ⟨e,⟨yU.mpr H,a,by rw [e];exact h⟩⟩
 . rintro ⟨e,H,a,h⟩
   rw [e] at h
   exact ⟨(Cr c).mp e,yU.mp H,a,h⟩
end
open Classical in
def Dj {n:Nat} (f:n<=4) (h:Nat->Bool) (w:Nat->Int) (W:Nat->Bool) (b:Nat) (most heap:Int) (P L:Nat->Bool)
   (d:∀ o,o<16->(P o=true↔FP n h w W b most heap o)) (c:∀ o,o<16->(L o=true↔BX n h w W b most heap o)) :
   (parts (rooms (setOf n h))).filter P=(List.range 16).filter L:=by
 have e:setOf n h<16:=aam (u0 n h) (aba (by decide) f:2 ^ n<=2 ^ 4)
 rw [wr _ e,List.filter_filter]
 refine List.filter_congr λ o H=>?_
 have H:o<16:=aaK.mp H
 have a:o<2 ^ 61:=acn H (by decide)
 have:=(c o H).trans ((Fc a).trans (and_congr_right λ Z=>(d o H).symm))
 rw [abG,aaw,aaR,this]
 exact And.comm
def sg (o k:Nat):(List.range (k+1)).filter o.testBit=(List.range k).filter o.testBit++if o.testBit k then [k] else []:=by
 rw [aaS,aa9]
 cases h:o.testBit k<;>simp [h]
end Ord
namespace L2
open PySem PySem.Spec PyProof.Rows Mth
variable {H:Hp} {i:Nat} {tm:ay}
section
variable {X:Cx}
inductive Sf (K:aC) (x:V) (lo:Option Int) (hi:Option Int) (H:Hp) (Q:VK):Prop|mk (a xs:_) (i:Nat) (_:x = .ref a) (_:cH K H a xs) (_:lo=some (i:Int)) (_:hi=none) (_:1<=i) (_:i<=xs.length) (_:∀ p,H p=none->Q (.ref p) (upd H p (.tup (xs.drop i))))
def Cw:Uw X (Sf X.K):=by
 intro p s U H x v V u L m sl Q I R e j k h
 obtain ⟨a,l,i,rfl,f,rfl,rfl,g,t,q⟩:=h
 cases R
 cases k
 cases j
 obtain ⟨B,r,d,n⟩:=I.tuple f
 have c:=r.length
 refine ⟨"tuple",_,slot_tuple_getitem.lookup,d.typeIs,getItem_tuple_from d e g (by rw [aar];lia) ?_ (by rw [aar];lia)⟩
 refine ⟨.ref s.heap.objs.size,_,I.laid (t':=s.toks) (o:=.tup (l.drop i)) (λ b O q=>ZB _ q) (aac _) ?_,rfl,q _ (I.ck.fresh (aac _))⟩
 refine ⟨by rw [List.length_drop];lia,B.drop i,r.drop i,⟨_,aaE _ rfl,rfl,_,rfl⟩⟩
end
structure gW where
 cN:cx
 dO:Nat
 iT:cx
 failed:cx
 heap:Nat
def io (K:aC) (H:Hp) (p:ag) (s:gW):Prop :=
 ∃ a c b,cH K H p [.ref a,av s.dO,.ref c,.ref b,av s.heap]/\cH K H a (s.cN.map av)/\cH K H c (s.iT.map av)/\cH K H b (s.failed.map av)
def io.same {K:aC} {e:Hp} {p:ag} {s:gW} (h:io K H p s) (q:aF H e):io K e p s:=by
 obtain ⟨f,i,g,a,b,c,d⟩:=h
 exact ⟨f,i,g,q.tup a,q.tup b,q.tup c,q.tup d⟩
abbrev Uq:=cG×Int×Int×Int
def au.yE (m:au) (i:Nat):Option Uq:=(m.aH[i]?).getD none
def au.has (m:au) (i:Nat):Bool:=(m.yE i).isSome
def au.wd (m:au) (i:Nat):Int:=((m.yE i).map λ z=>z.2.1).getD 0
def au.gE (m:au) (i:Nat):Int:=((m.yE i).map λ z=>z.2.2.1).getD 0
def au.fails (m:au) (i:Nat):Int:=((m.yE i).map λ z=>z.2.2.2).getD 0
def nv {m:au} (h:i<m.aH.length):m.aH[i]?=some (m.yE i):=by
 unfold au.yE
 rw [aw h];rfl
def yj:Option Uq->Bool->Nat->Nat->Prop
 | none,f,w,b=>f=false/\w=0/\b=0
 | some z,f,w,b=>(w:Int)<=z.2.2.1/\(b:Int)<=z.2.2.2/\(b=0\/(f=false/\w=0))
def gN (l:cx) (i:Nat):Nat:=(l[i]?).getD 0
def MN {l:cx} (h:i<l.length):l[i]?=some (gN l i):=by
 unfold gN
 rw [aw h];rfl
def xH {l:cx} (h:i<l.length):tM (l.map av) (i:Int)=some (av (gN l i)):=bB (by rw [RI,MN h];rfl)
structure jb (m:au) (s:gW):Prop where
 lb:s.cN.length=m.rows.length
 lw:s.iT.length=m.rows.length
 lf:s.failed.length=m.rows.length
 dO:s.dO<2 ^ m.rows.length
 most:((Bit.rooms s.dO).length:Int)<=m.most
 heap:(s.heap:Int)<=m.iU
 band:∀ i,i<m.rows.length->gN s.cN i+1<(m.rows.getD i []).length
 lg:∀ i,i<m.rows.length->yj (m.yE i) (s.dO.testBit i) (gN s.iT i) (gN s.failed i)
def au.ws (m:au):Nat:=Ord.setOf m.rows.length m.has
def gW.wt (s:gW) (i:Nat):Bool:=decide (0<gN s.iT i)
def gW.held (s:gW):Nat:=Ord.setOf s.iT.length s.wt
def au.vT (m:au) (b:Nat):Int:=((Bit.rooms (b &&& m.ws)).map m.wd).sum
def au.Ge (m:au) (o:Nat) (heap:Int):Bool:=decide (((Bit.rooms o).length:Int)<=m.most) && decide (m.vT o<=heap)
def gW.EF (m:au) (s:gW) (o:Nat):Bool:=decide (o &&& s.held=s.dO &&& s.held) && m.Ge o s.heap
def gW.orders (m:au) (s:gW):cx:=(Bit.parts (Bit.rooms m.ws)).filter (s.EF m)
def Cy {m:au} (h:m.rows.length<=4):m.ws<16:=aam (Ord.u0 _ _) (aba (by decide) h:2 ^ m.rows.length<=2 ^ 4)
section
variable (K:aC) (C:ag)
inductive xx (vs:aA) (H:Hp) (Q:VK) (_E:XK):Prop|mk (n:Nat) (_:vs=[av n]) (_:n<2 ^ 61) (_:∀ H',aF H H'->Q (av (Bit.rooms n).length) H')
inductive Ej (vs:aA) (H:Hp) (Q:VK) (_E:XK):Prop|mk (p l:_) (_:vs=[.ref p]) (_:bw K H p (l.map av)) (_:(∀ r∈l,r<=1000)) (_:Q (av (Bit.sumOf l)) H)
inductive t6 (vs:aA) (H:Hp) (Q:VK) (_E:XK):Prop|mk (v z f w b:_) (_:vs=[v,.bl f,av w,av b]) (_:Dn K H (gH z) v) (_:yj z f w b) (_:∀ H',aF H H'->Q (.bl true) H')
inductive wD (vs:aA) (H:Hp) (Q:VK) (_E:XK):Prop|mk (a fp m p s:_) (i:Nat) (_:vs=[.ref a,.ref p,av i]) (_:bj K C H a fp m) (_:io K H p s) (_:jb m s) (_:i<m.rows.length) (_:∀ H',aF H H'->Q (.bl true) H')
inductive yg (vs:aA) (H:Hp) (Q:VK) (_E:XK):Prop|mk (a fp m p s:_) (_:vs=[.ref a,.ref p]) (_:bj K C H a fp m) (_:io K H p s) (_:jb m s) (_:∀ H',aF H H'->Q (.bl true) H')
inductive tS (vs:aA) (H:Hp) (Q:VK) (_E:XK):Prop|mk (a fp m p s:_) (_:vs=[.ref a,.ref p]) (_:bj K C H a fp m) (_:io K H p s) (_:jb m s) (_:∀ H',aF H H'->Q .bL H')
inductive tj (vs:aA) (H:Hp) (Q:VK) (_E:XK):Prop|mk (a fp m:_) (_:vs=[.ref a]) (_:bj K C H a fp m) (_:∀ H',aF H H'->Q (av m.ws) H')
inductive zI (vs:aA) (H:Hp) (Q:VK) (_E:XK):Prop|mk (a fp m:_) (b:Nat) (_:vs=[.ref a,av b]) (_:bj K C H a fp m) (_:∀ H',aF H H'->Q (.int (m.vT b)) H')
inductive vO (vs:aA) (H:Hp) (Q:VK) (_E:XK):Prop|mk (p s:_) (_:vs=[.ref p]) (_:io K H p s) (_:s.iT.length<=4) (_:∀ H',aF H H'->Q (av s.held) H')
inductive xb (vs:aA) (H:Hp) (Q:VK) (_E:XK):Prop|mk (a fp m:_) (o:Nat) (hp:Int) (_:vs=[.ref a,av o,.int hp]) (_:bj K C H a fp m) (_:o<2 ^ 61) (_:∀ H',aF H H'->Q (.bl (m.Ge o hp)) H')
inductive vK (vs:aA) (H:Hp) (Q:VK) (_E:XK):Prop|mk (a fp m p s:_) (_:vs=[.ref a,.ref p]) (_:bj K C H a fp m) (_:io K H p s) (_:jb m s) (_:∀ q H',H q=none->aF H H'->H' q=some (.lst ((s.orders m).map av))->Q (.ref q) H')
end
def Dn.lg {K:aC} {v:V} {z:Uq} (h:Dn K H (gH (some z)) v):∃ p v1,v = .ref p/\cH K H p [v1,.int z.2.1,.int z.2.2.1,.int z.2.2.2]/\Dn K H (dL z.1) v1:=by
 obtain ⟨p,x,rfl,d,t,R,rfl,c,T,i,rfl,e,f,j,rfl,E,g,r,rfl,a,b⟩:=h
 have b:r=[]:=b
 have e:T = .int z.2.1:=e
 have E:f = .int z.2.2.1:=E
 have a:g = .int z.2.2.2:=a
 subst e E a b
 exact ⟨p,t,rfl,d,c⟩
def sB {n:Nat} (ok:tm.Ok n n) (h:i<n):(tm.m2 n n).yE i=((tm.aH[i]?).getD none).map tm.iQ:=by
 unfold au.yE
 rw [(jh ok n (aac n)).2.2.1 i h]
 cases tm.aH[i]? <;> rfl
structure Part (tm:ay) (n i:Nat) (bs ws fs:cx) (b:Nat):Prop where
 lb:bs.length=i
 lw:ws.length=i
 lf:fs.length=i
 dO:b<2 ^ i
 most:((Bit.rooms b).length:Int)<=tm.bounds.1
 band:∀ j,j<i->gN bs j+1<(tm.marks.getD j []).length
 lg:∀ j,j<i->yj ((tm.m2 n n).yE j) (b.testBit j) (gN ws j) (gN fs j)
def Part.zero {n:Nat} (ok:tm.Ok n n):Part tm n 0 [] [] [] 0:=by
 refine ⟨rfl,rfl,rfl,by decide,?_,nofun,nofun⟩
 have e:(Bit.rooms 0).length=0:=by decide
 rw [e]
 exact ok.bounds.1.1
def Bs {l:cx} {x j:Nat} (h:j<l.length):gN (l++[x]) j=gN l j:=by
 unfold gN
 rw [aaM h]
def zP {l:cx} {x:Nat}:gN (l++[x]) l.length=x:=by
 unfold gN
 rw [aaL (aac _),Nat.sub_self];rfl
def Part.next {n:Nat} {bs W F:cx} {b x w f:Nat} {l:Bool} (h:Part tm n i bs W F b) (m:i<61) (p:x+1<(tm.marks.getD i []).length) (k:yj ((tm.m2 n n).yE i) l w f) (o:l=true->((Bit.rooms b).length:Int)<tm.bounds.1):Part tm n (i+1) (bs++[x]) (W++[w]) (F++[f]) (if l then b+2 ^ i else b)/\(Bit.rooms (if l then b+2 ^ i else b)).length=(Bit.rooms b).length+(if l then 1 else 0):=by
 have V:b.testBit i=false:=Bit.ji h.dO (aac _)
 have d:b+2 ^ i=b ||| 2 ^ i:=by
   have:=adl h.dO 1
   rw [adZ] at this
   rw [aco,this,Nat.or_comm]
 have K:(if l then b+2 ^ i else b)<2 ^ (i+1):=by
   have:=h.dO
   rw [adM]
   split<;>lia
 have H:(Bit.rooms (if l then b+2 ^ i else b)).length=(Bit.rooms b).length+(if l then 1 else 0):=by
   cases l with
   | false=>rfl
   | true =>
     show (Bit.rooms (b+2 ^ i)).length=_+1
     rw [d,Bit.Hj m V]
 have a:∀ j,j<i->(if l then b+2 ^ i else b).testBit j=b.testBit j:=λ j c=>by
   cases l with
   | false=>rfl
   | true =>
     show (b+2 ^ i).testBit j=_
     rw [aco]
     exact Nat.testBit_two_pow_add_gt c b
 have v:(if l then b+2 ^ i else b).testBit i=l:=by
   cases l with
   | false=>exact V
   | true =>
     show (b+2 ^ i).testBit i=_
     rw [aco,Nat.testBit_two_pow_add_eq,V];rfl
 refine ⟨⟨by rw [aad,h.lb];rfl,by rw [aad,h.lw];rfl,by rw [aad,h.lf];rfl,K,?_,λ j c=>?_,λ j c=>?_⟩,H⟩
 .
  rw [H]
  have:=h.most
  cases l with
  | false=>exact this
  | true =>
    have:=o rfl
    show (((Bit.rooms b).length+1:Nat):Int)<=_
    lia
 .
  by_cases e:j<i
  . rw [Bs (by rw [h.lb];exact e)];exact h.band j e
  . obtain rfl:j=i:=by lia
    have:gN (bs++[x]) j=x:=by rw [<- h.lb];exact zP
    rw [this];exact p
 .
  by_cases e:j<i
  . rw [Bs (by rw [h.lw];exact e),Bs (by rw [h.lf];exact e),a j e];exact h.lg j e
  . obtain rfl:j=i:=by lia
    have E:gN (W++[w]) j=w:=by rw [<- h.lw];exact zP
    have g:gN (F++[f]) j=f:=by rw [<- h.lf];exact zP
    rw [E,g,v];exact k
theorem Part.ok {n:Nat} {bs w F:cx} {b:Nat} {d:Nat} (ok:tm.Ok n n) (h:Part tm n n bs w F b) (j:(d:Int)<=tm.bounds.2.1):jb (tm.m2 n n) ⟨bs,b,w,F,d⟩:=by
 obtain ⟨f,e,g,k⟩:=c7 tm n n
 have a:(tm.m2 n n).rows.length=n:=by rw [f,Bl,aat,ok.lm];lia
 refine ⟨by rw [a];exact h.lb,by rw [a];exact h.lw,by rw [a];exact h.lf,by rw [a];exact h.dO,by rw [e];exact h.most,by rw [g];exact j,λ i H=>?_,λ i H=>?_⟩
 .
  rw [a] at H
  have c:=h.band i H
  have s:i<tm.marks.length:=by rw [ok.lm];exact H
  rw [f,Nr,RI,abZ H,aw s]
  rw [Nr,aw s] at c
  show _<(tm.row tm.marks[i]).length
  unfold ay.row
  rw [Bl]
  exact c
 . rw [a] at H
   exact h.lg i H
def tZ (tm:ay) (n:Nat) (s:gW) (o:Nat):Prop:=Ord.BX n (tm.m2 n n).has (tm.m2 n n).wd s.wt s.dO tm.bounds.1 s.heap o
inductive zm (K:aC) (vs:aA) (H:Hp) (Q:VK) (_E:XK):Prop|mk (p tm:_) (n:Nat) (c:Int) (k:Nat) (_:vs=[.ref p,.int c,av k]) (_:iA K H p tm) (_:tm.Ok n n) (_:n<=4) (_:k<=900) (_:∀ q s H',aF H H'->io K H' q s->jb (tm.m2 n n) s->Q (.ref q) H')
inductive Do (K:aC) (vs:aA) (H:Hp) (Q:VK) (_E:XK):Prop|mk (p tm:_) (n:Nat) (q s:_) (o:Nat) (_:vs=[.ref p,.ref q,av o]) (_:iA K H p tm) (_:tm.Ok n n) (_:n<=4) (_:io K H q s) (_:s.iT.length=n) (_:(tZ tm n s o->Q (.bl true) H)) (_:(¬ tZ tm n s o->Q (.bl false) H))
end L2
namespace Ord
open Bit
def PK:∀ x,x<16->∀ y,y<16->x - (x &&& y)=x ^^^ (x &&& y):=by decide +kernel
def off (x y:Nat):Nat:=x - (x &&& y)
def nS {x y:Nat} (h:x<16) (H:y<16) (k:Nat):(off x y).testBit k=(x.testBit k && !y.testBit k):=by
 unfold off
 rw [PK x h y H,Nat.testBit_xor,aa0]
 cases x.testBit k<;>cases y.testBit k<;>rfl
def LD {x y n:Nat} (h:x<2 ^ n):off x y<2 ^ n:=aaY (Nat.sub_le _ _) h
def KG {n x:Nat} (H:n<=4) (h:x<2 ^ n):x<16:=aam h (aba (by decide) H:2 ^ n<=2 ^ 4)
structure Hd where
 n:Nat
 has:Nat->Bool
 wd:Nat->Int
 wt:Nat->Bool
 b:Nat
 most:Int
 heap:Int
def Hd.ws (h:Hd):Nat:=setOf h.n h.has
def Hd.held (h:Hd):Nat:=setOf h.n h.wt
def Hd.vT (h:Hd) (o:Nat):Int:=((rooms (o &&& h.ws)).map h.wd).sum
def Hd.Ge (h:Hd) (o:Nat):Bool:=decide (((rooms o).length:Int)<=h.most) && decide (h.vT o<=h.heap)
def Hd.step (h:Hd) (o r:Nat):Nat:=if h.Ge (o ||| 2 ^ r) then o ||| 2 ^ r else o
def Hd.first (h:Hd):Nat:=h.b &&& h.held
def Hd.go (h:Hd) (k:Nat):Nat:=(rooms (off (k &&& h.ws) h.held)).foldl h.step h.first
def Hd.may (h:Hd) (k r:Nat):Bool:=k.testBit r && h.has r && !h.wt r
structure Hd.Ok (h:Hd):Prop where
 n4:h.n<=4
 dO:h.b<2 ^ h.n
 sub:∀ r,h.b.testBit r=true->h.has r=true
 most:((rooms h.b).length:Int)<=h.most
 wd0:∀ r,0<=h.wd r
section
variable {h:Hd} {i r o:Nat}
structure Hd.In (h:Hd) (i o:Nat):Prop where
 sub:∀ r,o.testBit r=true->r<h.n/\h.has r=true
 held:∀ r,r<h.n->h.wt r=true->o.testBit r=h.b.testBit r
 Zu:∀ r,i<=r->h.wt r=false->o.testBit r=false
def Hd.UX (h:Hd) (o:Nat):Prop:=BX h.n h.has h.wd h.wt h.b h.most h.heap o
end
end Ord
namespace L2
open PySem PySem.Spec PyProof.Rows Mth
variable {D:L2.Ends} {H:Hp} {R xw:Int} {Ry a2 a3 a4 a5 a6 a7 a8 a9:TS} {c6 np:Pos} {g:TG} {i:Nat} {l:List Int} {name qual:Str} {oe:Obj} {tm:ay} {U:St}
def my (x y:Nat):Builtin.bitAnd (x:Int) (Builtin.bitNot (y:Int))=((Ord.off x y:Nat):Int):=by
 have e:Builtin.bitNot (Builtin.bitNot (y:Int))=(y:Int):=by unfold Builtin.bitNot;lia
 have n:¬ (0:Int)<=Builtin.bitNot (y:Int):=by unfold Builtin.bitNot;lia
 have p:(0:Int)<=(x:Int):=abz _
 unfold Builtin.bitAnd
 rw [aaC p,aap n]
 show (x:Int) - _=_
 rw [e,abe,abe]
 have:=Nat.and_le_left (n:=x) (m:=y)
 unfold Ord.off
 lia
def Ls (m:au) (s:gW):Ord.Hd:=⟨m.rows.length,m.has,m.wd,s.wt,s.dO,m.most,s.heap⟩
def Jm {n o:Nat} {s:gW} (ok:tm.Ok n n) (S:jb (tm.m2 n n) s):tZ tm n s o↔(Ls (tm.m2 n n) s).UX o:=by
 obtain ⟨f,F,a,b⟩:=c7 tm n n
 have h:(tm.m2 n n).rows.length=n:=by rw [f,Bl,aat,ok.lm];lia
 unfold tZ Ord.Hd.UX Ls
 rw [h,F]
def gW.may (m:au) (s:gW) (o:Nat):Nat:=Ord.setOf m.rows.length λ r=>o.testBit r && !s.dO.testBit r && decide ((gN s.failed r:Int)<m.fails r)
section
variable (K:aC) (C:ag)
inductive rn (vs:aA) (H:Hp) (Q:VK) (_E:XK):Prop|mk (a fp m p s:_) (o:Nat) (_:vs=[.ref a,.ref p,av o]) (_:bj K C H a fp m) (_:io K H p s) (_:jb m s) (_:o &&& m.ws=o) (_:∀ H',aF H H'->Q (av (s.may m o)) H')
end
def KY {m:au} {s:gW} {o:Nat} (b:m.rows.length<=4) (ok:jb m s) (c:o &&& m.ws=o) :
   Bit.sumOf ((Bit.rooms (Ord.off o s.dO)).filter λ r=>decide ((gN s.failed r:Int)<m.fails r))=s.may m o:=by
 have Q:o<16:=by rw [<- c];exact aaY acD (Cy b)
 have T:s.dO<16:=Ord.KG b ok.dO
 have K:o<2 ^ m.rows.length:=by rw [<- c];exact aaY acD (Ord.u0 _ _)
 refine abi λ k=>?_
 rw [Bit.lK,gW.may,Ord.iP]
 rw [abG,aaR,aaW,Bit.dH,Ord.nS Q T]
 simp only [aaw,aaR]
 constructor
 .
  rintro ⟨⟨Z,h,H⟩,a⟩
  refine ⟨?_,⟨h,H⟩,a⟩
  by_cases q:k<m.rows.length
  . exact q
  . rw [Bit.ji K (by lia)] at h;cases h
 . rintro ⟨d,⟨h,H⟩,a⟩
   exact ⟨⟨by lia,h,H⟩,a⟩
def CK {m:au} {o r:Nat} (H:o &&& m.ws=o) (h:o.testBit r=true):r<m.rows.length/\m.has r=true:=by
 rw [<- H,aa0,au.ws,Ord.iP] at h
 simp only [aaw,aaR] at h
 exact h.2
def xq {m:au} {r:Nat} (h:m.has r=true):∃ z,m.yE r=some z:=abg.mp h
structure mL (m:au) (s:gW) (o out:Nat):Prop where
 h4:m.rows.length<=4
 ok:jb m s
 ZJ:(Ls m s).UX o
 qR:o<16
 iV:out<16
 sub:∀ r,out.testBit r=true->o.testBit r=true/\s.dO.testBit r=false/\(gN s.failed r:Int)<m.fails r
 wd0:∀ r,0<=m.wd r
 WZ:∀ r,0<=m.gE r
 abF:0<=m.iU
 XE:0<=m.load
section
variable {m:au} {s:gW} {o out r:Nat}
def mL.bit (t:mL m s o out) (r:Nat):(Ord.off o out).testBit r=(o.testBit r && !out.testBit r):=Ord.nS t.qR t.iV r
def mL.YH (t:mL m s o out) (h:o.testBit r=true):r<m.rows.length/\m.has r=true:=by
 have H:r<61:=by
   by_cases q:r<61
   . exact q
   . rw [Ord.Iz t.qR (by lia)] at h;cases h
 exact t.ZJ.has r (Bit.dH.mpr ⟨H,h⟩)
def mL.YN (t:mL m s o out) (h:(Ord.off o out).testBit r=true):o.testBit r=true/\out.testBit r=false:=by
 rw [t.bit] at h
 simp only [aaw,acw] at h
 exact h
end
def KM {n:Nat} (ok:tm.Ok n n) (r:Nat):0<=(tm.m2 n n).gE r/\0<=(tm.m2 n n).wd r/\(0<=(tm.m2 n n).fails r):=by
 unfold au.gE au.wd au.fails
 by_cases h:r<n
 .
  rw [sB ok h]
  have m:r<tm.aH.length:=by rw [ok.lt];exact h
  rw [aw m]
  cases e:tm.aH[r] with
  | none=>exact ⟨acd _,acd _,acd _⟩
  | some z =>
    have q:=ok.aH z (by rw [<- e];exact aaf m)
    exact ⟨q.s.1,q.w.1,q.f.1⟩
 .
  have:(tm.m2 n n).yE r=none:=by
    unfold au.yE
    rw [List.getElem?_eq_none (by rw [(jh ok n (aac n)).2.2.2.2.1];lia)];rfl
  rw [this]
  exact ⟨acd _,acd _,acd _⟩
abbrev Pr:=cG×cG
def eW (D:List Pr):Int×Int:=D.foldl (λ s d=>(s.1 * (d.1.2 * d.2.2)+d.1.1 * d.2.1 * s.2,s.2 * (d.1.2 * d.2.2))) (0,1)
def nL (D:List Pr) (d:Pr):eW (D++[d])=((eW D).1 * (d.1.2 * d.2.2)+d.1.1 * d.2.1 * (eW D).2,(eW D).2 * (d.1.2 * d.2.2)):=by
 unfold eW
 rw [abd];rfl
structure zB (n k:Nat) (d:Pr):Prop where
 a:eJ n d.1
 b:eJ k d.2
theorem AX (D:List Pr) (h:∀ d∈D,zB 900 900 d):∀ j,j<=D.length->Bd (1802 * j+2) (eW (D.take j)).1/\Bd (1800 * j+1) (eW (D.take j)).2/\0<(eW (D.take j)).2
 | 0,_=>⟨by show Int.natAbs 0<_;decide,by show Int.natAbs 1<_;decide,by show (0:Int)<1;decide⟩
 | j+1,f=>by
   obtain ⟨a,b,c⟩:=AX D h j (by lia)
   have H:=h D[j] (aaf (by lia))
   have E:D.take (j+1)=D.take j++[D[j]]:=by rw [abB,aw (by lia)];rfl
   rw [E,nL]
   generalize D[j]=d at H
   generalize eW (D.take j)=s at a b c
   have B:Bd 1800 (d.1.2 * d.2.2):=(H.a.b.mul H.b.b).mono (by decide)
   have e:Bd 1800 (d.1.1 * d.2.1):=(H.a.t.mul H.b.t).mono (by decide)
   refine ⟨?_,(b.mul B).mono (by lia),aaP c (aaP H.a.p H.b.p)⟩
   have x:Bd (1802 * j+2+1800) (s.1 * (d.1.2 * d.2.2)):=a.mul B
   have X:Bd (1802 * j+2+1800) (d.1.1 * d.2.1 * s.2):=(e.mul b).mono (by lia)
   exact (x.add X).mono (by lia)
def Cc {D:List Pr} (h:∀ d∈D,zB 900 900 d):0<(eW D).2:=by
 have:=(AX D h D.length (aac _)).2.2
 rw [aa2] at this
 exact this
theorem qO {n:Nat}:∀ (E D:List Pr) {k:Nat},(∀ d∈E,Bd n (d.1.2 * d.2.2))->Bd k (eW D).2->Bd (k+n * E.length) (eW (D++E)).2
 | [],D,k,_,h=>by rw [aaT];exact h.mono (by lia)
 | e::E,D,k,H,h=>by
   have a:D++e::E=(D++[e])++E:=by rw [ac2];rfl
   rw [a]
   have b:Bd (k+n) (eW (D++[e])).2:=by
     rw [nL]
     exact h.mul (H e aaz)
   have:=qO E (D++[e]) (λ d c=>H d (aao _ c)) b
   refine this.mono ?_
   rw [aav,Nat.mul_succ]
   lia
def QV {t b t' b':Int} (H:0<b) (R:0<b') (h:t * b'=t' * b):nf t b=nf t' b':=by
 have F:=gZ (t:=t) H
 have G:=gZ (t:=t') R
 have c:(nf t b).1 * b=t * (nf t b).2:=F.jv
 have C:(nf t' b').1 * b'=t' * (nf t' b').2:=G.jv
 have p:=F.pos
 have a:=G.pos
 have k:=F.QY
 have K:=G.QY
 generalize nf t b=u at c p k |-
 generalize nf t' b'=v at C a K |-
 have e:u.1 * v.2=v.1 * u.2:=by
   have f:b * b'≠0:=abO (aaP H R)
   refine abc f ?_
   grind
 have d:u.2 ∣ v.2:=qJ (q:=u.1) ⟨v.1,by rw [e,ab1]⟩ k
 have D:v.2 ∣ u.2:=qJ (q:=v.1) ⟨u.1,by rw [<- e,ab1]⟩ K
 have E:u.2=v.2:=Int.dvd_antisymm (abf p) (abf a) d D
 rw [<- E] at e
 exact Prod.ext (abc (abO p) e) E
abbrev GM (d:Pr):PyData:=.tuple [dL d.1,dL d.2]
def qN (d:Pr):fO (GM d)=true:=by simp [GM,dL,fO]
def rl (D:List Pr):∀ e∈D.map GM,fO e=true:=λ e h=>by
 obtain ⟨d,Z,rfl⟩:=aax.mp h
 exact qN d
inductive ME (K:aC) (vs:aA) (H:Hp) (Q:VK) (_E:XK):Prop|mk (p xs ds:_) (_:vs=[.ref p]) (_:bw K H p xs) (_:cn K H (ds.map GM) xs) (_:(∀ d∈ds,zB 900 900 d)) (_:ds.length<=10) (_:Bd 4000 (eW ds).2) (_:∀ q H',aF H H'->H' q=some (.tup [.int (nf (eW ds).1 (eW ds).2).1,.int (nf (eW ds).1 (eW ds).2).2])->Q (.ref q) H')
def dA (m:au) (i:Nat) (airs:List cG):List Pr:=(List.range airs.length).map λ j=>(m.share i j,airs.getD j (0,1))
def fT (m:au) (i:Nat) (airs:List cG) (w:cG) (fired:Bool):List Pr:=dA m i airs++[(m.eM i,w)]++(if fired then [((1,1),((m.aH[i]?).getD none).map (·.1) |>.getD (0,1))] else [])
def jI (m:au) (i:Nat) (airs:List cG) (w:cG) (fired:Bool):cG:=nf (eW (fT m i airs w fired)).1 (eW (fT m i airs w fired)).2
inductive De (K:aC) (C:ag) (vs:aA) (H:Hp) (Q:VK) (_E:XK):Prop|mk (a fp m:_) (i:Nat) (pa Oj airs wv w fired:_) (_:vs=[.ref a,av i,.ref pa,wv,.bl fired]) (_:bj K C H a fp m) (_:i<m.rows.length) (_:bw K H pa Oj) (_:cn K H (airs.map dL) Oj) (_:airs.length=m.rows.length) (_:(∀ f∈airs,eJ 120 f)) (_:Dn K H (dL w) wv) (_:eJ 120 w) (_:(fired=true->∃ z,m.aH[i]?=some (some z))) (_:∀ q H',aF H H'->H' q=some (.tup [.int (jI m i airs w fired).1,.int (jI m i airs w fired).2])->Q (.ref q) H')
def GV {m:au} (w:m.Wf) (h:m.rows.length<=4) (i j:Nat):eJ 605 (m.share i j):=by
 unfold au.share
 split
 . exact (w.fJ i _).mono (by lia)
 . exact (w.fb i j).mono (by decide)
def pO {m:au} {airs:List cG} {w:cG} {fired:Bool} (W:m.Wf) (o:m.rows.length<=4) (L:airs.length=m.rows.length) (p:∀ f∈airs,eJ 120 f) (hw:eJ 120 w) (q:fired=true->∃ z,m.aH[i]?=some (some z)) :
   (∀ d∈fT m i airs w fired,zB 900 900 d)/\(fT m i airs w fired).length<=10/\Bd 4000 (eW (fT m i airs w fired)).2:=by
 have r:∀ d∈dA m i airs,zB 605 120 d:=λ d H=>by
   obtain ⟨j,c,rfl⟩:=aax.mp H
   have c:=aaK.mp c
   refine ⟨GV W o i j,?_⟩
   show eJ 120 (airs.getD j (0,1))
   rw [Nr,aw c]
   exact p _ (aaf c)
 have t:(dA m i airs).length<=4:=by unfold dA;rw [Bl,aaG];lia
 have s:zB 100 120 (m.eM i,w):=⟨W.eM i,hw⟩
 have l:Bd 1 (eW []).2:=by show Int.natAbs 1<2 ^ 1;decide
 have g:Bd (1+725 * (dA m i airs).length) (eW (dA m i airs)).2:=qO (n:=725) (dA m i airs) [] (λ d H=>(r d H).a.b.mul (r d H).b.b) l
 have B:Bd (2901+220 * 1) (eW (dA m i airs++[(m.eM i,w)])).2:=qO (n:=220) [(m.eM i,w)] (dA m i airs) (λ d H=>by rw [T1.mp H];exact s.a.b.mul s.b.b) (g.mono (by lia))
 unfold fT
 cases fired with
 | false =>
   rw [aal aah,aaT]
   refine ⟨λ d H=>?_,by rw [aad];simp only [aav,abN];lia,B.mono (by decide)⟩
   rcases aaD.mp H with h|h
   . exact ⟨(r d h).a.mono (by decide),(r d h).b.mono (by decide)⟩
   . rw [T1.mp h];exact ⟨s.a.mono (by decide),s.b.mono (by decide)⟩
 | true =>
   obtain ⟨z,e⟩:=q rfl
   rw [aaq rfl,e]
   have O:eJ 100 z.1:=W.aH z (aaO e)
   have S:zB 2 100 (((1,1),z.1):Pr):=⟨⟨by show Int.natAbs 1<2 ^ 2;decide,by show Int.natAbs 1<2 ^ 2;decide,by show (0:Int)<1;decide⟩,O⟩
   have k:Bd (3121+102 * 1) (eW ((dA m i airs++[(m.eM i,w)])++[((1,1),z.1)])).2:=qO (n:=102) [((1,1),z.1)] _ (λ d H=>by rw [T1.mp H];exact S.a.b.mul S.b.b) B
   refine ⟨λ d H=>?_,by rw [aad,aad];simp only [aav,abN];lia,k.mono (by decide)⟩
   rcases aaD.mp H with h|h
   . rcases aaD.mp h with h|h
     . exact ⟨(r d h).a.mono (by decide),(r d h).b.mono (by decide)⟩
     . rw [T1.mp h];exact ⟨s.a.mono (by decide),s.b.mono (by decide)⟩
   . rw [T1.mp h];exact ⟨S.a.mono (by decide),S.b.mono (by decide)⟩
def Mn (W C:Int) (s:Int×Int):Prop:=s.1 * W=C * s.2
def Mn.next {W C c:Int} {D:List Pr} {d:Pr} (h:Mn W C (eW D)) (H:d.1.1 * d.2.1 * W=c * (d.1.2 * d.2.2)):Mn W (C+c) (eW (D++[d])):=by
 unfold Mn at *
 rw [nL]
 generalize eW D=s at h
 generalize d.1.2 * d.2.2=B at H
 generalize d.1.1 * d.2.1=A at H
 show (s.1 * B+A * s.2) * W=(C+c) * (s.2 * B)
 grind
def bJ (f:Nat->Int):Nat->Int
 | 0=>0
 | t+1=>bJ f t+f t
theorem sI {f g:Nat->Int}:∀ n,(∀ j,j<n->f j=g j)->bJ f n=bJ g n
 | 0,_=>rfl
 | n+1,h=>by
   show bJ f n+f n=bJ g n+g n
   rw [sI n λ j H=>h j (by lia),h n (by lia)]
theorem zo {f:Nat->Int} {a b:Int} {k:Nat->Int}:∀ n,bJ (λ j=>k j * (f j * a+b)) n=bJ (λ j=>k j * f j) n * a+bJ k n * b
 | 0=>by show (0:Int)=0 * a+0 * b;lia
 | n+1=>by
   show bJ (λ j=>k j * (f j * a+b)) n+k n * (f n * a+b)=(bJ (λ j=>k j * f j) n+k n * f n) * a+(bJ k n+k n) * b
   rw [zo n]
   grind
theorem xA {fl x:Nat->Int}:∀ n,bJ (λ j=>(if j=i then R else fl j) * x j) n=bJ (λ j=>if j=i then 0 else fl j * x j) n+(if i<n then R * x i else 0)
 | 0=>by rw [aal (by lia)];rfl
 | n+1=>by
   show bJ (λ j=>(if j=i then R else fl j) * x j) n+(if n=i then R else fl n) * x n=bJ (λ j=>if j=i then 0 else fl j * x j) n+(if n=i then 0 else fl n * x n)+(if i<n+1 then R * x i else 0)
   rw [xA n]
   by_cases e:n=i
   . subst e
     rw [aaq rfl,aaq rfl,aal (by lia),aaq (by lia)]
     skip
   . rw [aal e,aal e]
     by_cases l:i<n
     . rw [aaq l,aaq (by lia)];lia
     . rw [aal l,aal (by lia)];lia
theorem Am {fl:Nat->Int} (h:fl i=0):∀ n,bJ (λ j=>if j=i then R else fl j) n=bJ fl n+(if i<n then R else 0)
 | 0=>by rw [aal (by lia)];rfl
 | n+1=>by
   show bJ (λ j=>if j=i then R else fl j) n+(if n=i then R else fl n)=bJ fl n+fl n+_
   rw [Am h n]
   by_cases e:n=i
   . subst e
     rw [aaq rfl,aal (by lia),aaq (by lia),h]
   . rw [aal e]
     by_cases l:i<n
     . rw [aaq l,aaq (by lia)];lia
     . rw [aal l,aal (by lia)];lia
def ay.hR (tm:ay) (i:Nat):Int:=((tm.di[i]?).map (·.1)).getD 0
def ay.eA (tm:ay) (i j:Nat):Int:=if i=j then 0 else (tm.bF i j).getD 0
def Ip {n:Nat} (ok:tm.Ok n n) (i:Nat) (h:i<n):Ov 12 (tm.hR i) ((tm.m2 n n).eM i)/\(∀ j,j<n->j≠i->Ov 12 (tm.eA i j) ((tm.m2 n n).fb i j))/\Ov 12 (12 - tm.hR i - bJ (tm.eA i) n) ((tm.m2 n n).own i):=by
 obtain ⟨g,o,p,q,r,G,f⟩:=jh ok n (aac n)
 have x:i<tm.di.length:=by rw [ok.ls];exact h
 have E:(tm.m2 n n).eM i=nf tm.di[i].1 12:=by unfold au.eM;rw [g i h,aw x];rfl
 have d:tm.hR i=tm.di[i].1:=by unfold ay.hR;rw [aw x];rfl
 have c:Ov 12 (tm.hR i) ((tm.m2 n n).eM i):=by rw [E,d];exact Ov.nf (by decide)
 have a:∀ j,j<n->j≠i->Ov 12 (tm.eA i j) ((tm.m2 n n).fb i j):=λ j b R=>by
   obtain ⟨K,l,Z⟩:=ok.bF i j h b (abt R)
   unfold au.fb ay.eA
   rw [G i j h b (abt R),l,aal (abt R)]
   exact Ov.nf (by decide)
 have z:Ov 12 (tm.eA i i) ((tm.m2 n n).fb i i):=by
   unfold au.fb ay.eA
   rw [f i,aaq rfl]
   exact qH
 have m:(tm.m2 n n).rows.length=n:=by rw [(c7 tm n n).1,Bl,aat,ok.lm];lia
 have k:∀ t,t<=n->Ov 12 (12 - tm.hR i - bJ (tm.eA i) t) ((tm.m2 n n).fJ i t):=by
   intro t
   induction t with
   | zero =>
     intro Z
     have:=(EU (W:=12)).minus c
     have e:12 - tm.hR i - bJ (tm.eA i) 0=12 - tm.hR i:=by show 12 - tm.hR i - 0=_;lia
     rw [e]
     exact this
   | succ t I =>
     intro s
     rw [au.jH]
     have H:Ov 12 (tm.eA i t) ((tm.m2 n n).fb i t):=by
       by_cases e:t=i
       . subst e;exact z
       . exact a t (by lia) e
     have:=(I (by lia)).minus H
     have e:12 - tm.hR i - bJ (tm.eA i) (t+1)=12 - tm.hR i - bJ (tm.eA i) t - tm.eA i t:=by show 12 - tm.hR i - (bJ (tm.eA i) t+tm.eA i t)=_;lia
     rw [e]
     exact this
 refine ⟨c,a,?_⟩
 unfold au.own
 rw [m]
 exact k n (aac _)
def Kn {k W T B:Int} {f g:cG} (h:Ov 12 k f) (H:g.1 * B=T * g.2) (e:W=12 * B):f.1 * g.1 * W=(k * T) * (f.2 * g.2):=by
 have:=h.1
 subst e
 grind
def DN {n:Nat} {parts:Int} {x:Nat->Int} {h:Int} {airs:List cG} {fired:Bool} (wf:(tm.m2 n n).Wf) (ok:tm.Ok n n) (n4:n<=4) (H:i<n) (S:0<parts) (W:airs.length=n) (K:∀ j,j<n->airs.getD j (0,1)=aY (x j) parts tm.scale) (X:∀ f∈airs,eJ 120 f) (Y:eJ 120 (aY xw parts tm.scale)) (s:fired=true->∃ z,tm.aH[i]?=some (some z)/\z.1=h) :
   jI (tm.m2 n n) i airs (aY xw parts tm.scale) fired=aY (bJ (λ j=>(if j=i then 12 - tm.hR i - bJ (tm.eA i) n else tm.eA i j) * x j) n+tm.hR i * xw+(if fired then 12 * parts * h else 0)) (12 * parts) tm.scale:=by
 obtain ⟨T,N,L⟩:=Ip ok i H
 have hl:(tm.m2 n n).rows.length=n:=by rw [(c7 tm n n).1,Bl,aat,ok.lm];lia
 obtain ⟨g1,g2,G,g4,g5,g6,g7⟩:=jh ok n (aac n)
 have J:=dP ok.scale S
 have l:cm (12 * parts) tm.scale=12 * cm parts tm.scale:=by unfold cm;grind
 have V:∀ j,j<n->Ov 12 (if j=i then 12 - tm.hR i - bJ (tm.eA i) n else tm.eA i j) ((tm.m2 n n).share i j):=λ j Q=>by
   unfold au.share
   by_cases e:i=j
   . subst e;rw [aaq rfl,aaq rfl];exact L
   . rw [aal e,aal (abt e)];exact N j Q (abt e)
 have C:∀ z,(aY z parts tm.scale).1 * cm parts tm.scale=cC z parts tm.scale * (aY z parts tm.scale).2:=λ z=>(gZ (t:=cC z parts tm.scale) J).jv
 have rooms:∀ t,t<=n->Mn (cm (12 * parts) tm.scale) (bJ (λ j=>(if j=i then 12 - tm.hR i - bJ (tm.eA i) n else tm.eA i j) * cC (x j) parts tm.scale) t) (eW ((List.range t).map λ j=>(((tm.m2 n n).share i j,airs.getD j (0,1)):Pr))):=by
   intro t
   induction t with
   | zero=>intro Z;show (0:Int) * _=0 * 1;lia
   | succ t U =>
     intro ht
     rw [aaS,aab]
     refine (U (by lia)).next ?_
     show ((tm.m2 n n).share i t).1 * (airs.getD t (0,1)).1 * _=_ * (((tm.m2 n n).share i t).2 * (airs.getD t (0,1)).2)
     rw [K t (by lia)]
     exact Kn (V t (by lia)) (C _) l
 have R:=rooms n (aac _)
 have I:dA (tm.m2 n n) i airs=(List.range n).map λ j=>(((tm.m2 n n).share i j,airs.getD j (0,1)):Pr):=by unfold dA;rw [W]
 rw [<- I] at R
 have r:Mn (cm (12 * parts) tm.scale) _ (eW (dA (tm.m2 n n) i airs++[((tm.m2 n n).eM i,aY xw parts tm.scale)])):=R.next (Kn T (C xw) l)
 have O:bJ (λ j=>(if j=i then 12 - tm.hR i - bJ (tm.eA i) n else tm.eA i j) * cC (x j) parts tm.scale) n+tm.hR i * cC xw parts tm.scale
     = (bJ (λ j=>(if j=i then 12 - tm.hR i - bJ (tm.eA i) n else tm.eA i j) * x j) n+tm.hR i * xw) * (tm.scale.a * tm.scale.d)+12 * (parts * tm.scale.t * tm.scale.b):=by
   have A:bJ (λ j=>(if j=i then 12 - tm.hR i - bJ (tm.eA i) n else tm.eA i j) * cC (x j) parts tm.scale) n=bJ (λ j=>(if j=i then 12 - tm.hR i - bJ (tm.eA i) n else tm.eA i j) * (x j * (tm.scale.a * tm.scale.d)+parts * tm.scale.t * tm.scale.b)) n:=sI n λ j Z=>by unfold cC;rw [aa4 (x j)]
   have z0:tm.eA i i=0:=by unfold ay.eA;rw [aaq rfl]
   rw [A,zo,Am z0,aaq H]
   unfold cC
   grind
 have p:fired=true->∃ z,(tm.m2 n n).aH[i]?=some (some z):=λ q=>by
   obtain ⟨z,k,Z⟩:=s q
   exact ⟨tm.iQ z,by rw [G i H,k];rfl⟩
 have v:=(pO (i:=i) (fired:=fired) (w:=aY xw parts tm.scale) (airs:=airs) (m:=tm.m2 n n) wf (by lia) (by lia) X Y p).1
 have D:=Cc v
 have o:0<cm (12 * parts) tm.scale:=by rw [l];lia
 have F:Mn (cm (12 * parts) tm.scale) (cC (bJ (λ j=>(if j=i then 12 - tm.hR i - bJ (tm.eA i) n else tm.eA i j) * x j) n+tm.hR i * xw+(if fired then 12 * parts * h else 0)) (12 * parts) tm.scale) (eW (fT (tm.m2 n n) i airs (aY xw parts tm.scale) fired)):=by
   unfold fT
   cases fired with
   | false =>
     simp only [aca,ach,aaT,abP]
     rw [O] at r
     have E:cC (bJ (λ j=>(if j=i then 12 - tm.hR i - bJ (tm.eA i) n else tm.eA i j) * x j) n+tm.hR i * xw) (12 * parts) tm.scale=(bJ (λ j=>(if j=i then 12 - tm.hR i - bJ (tm.eA i) n else tm.eA i j) * x j) n+tm.hR i * xw) * (tm.scale.a * tm.scale.d)+12 * (parts * tm.scale.t * tm.scale.b):=by
       unfold cC;grind
     rw [E]
     exact r
   | true =>
     obtain ⟨z,k,B⟩:=s rfl
     have xT:(tm.m2 n n).aH[i]?=some (some (tm.iQ z)):=by rw [G i H,k];rfl
     simp only [abR]
     rw [xT]
     have M:0<tm.scale.b:=by have:=ok.scale.b0;lia
     have y:(nf (z.1 * tm.scale.a) tm.scale.b).1 * tm.scale.b=z.1 * tm.scale.a * (nf (z.1 * tm.scale.a) tm.scale.b).2:=(gZ (t:=z.1 * tm.scale.a) M).jv
     have u:=r.next (d:=((1,1),nf (z.1 * tm.scale.a) tm.scale.b)) (c:=12 * parts * h * (tm.scale.a * tm.scale.d)) (by
       show 1 * (nf (z.1 * tm.scale.a) tm.scale.b).1 * cm (12 * parts) tm.scale=_ * (1 * (nf (z.1 * tm.scale.a) tm.scale.b).2)
       generalize nf (z.1 * tm.scale.a) tm.scale.b=g at y
       unfold cm
       rw [<- B]
       grind)
     rw [O] at u
     have E:cC (bJ (λ j=>(if j=i then 12 - tm.hR i - bJ (tm.eA i) n else tm.eA i j) * x j) n+tm.hR i * xw+12 * parts * h) (12 * parts) tm.scale=(bJ (λ j=>(if j=i then 12 - tm.hR i - bJ (tm.eA i) n else tm.eA i j) * x j) n+tm.hR i * xw) * (tm.scale.a * tm.scale.d)+12 * (parts * tm.scale.t * tm.scale.b)+12 * parts * h * (tm.scale.a * tm.scale.d):=by
       unfold cC;grind
     rw [E]
     exact u
 unfold jI
 rw [aY]
 exact QV D o F
section
variable {X:Cx}
def Tg (K:aC) (t:TA):TI:=λ U H R=>t U H λ v h=>∃ a,v=[.ref a]/\(((∃ x,bw K h a x)/\R (EL (bw K) a) h)\/((∃ x,cH K h a x)/\R (EL (cH K) a) h))
def G7 {a:Expr} {t:TA} {p g A:Pos} {E:List Expr} {J:Nat} (w:Gl X "enumerate") (x:X.mg "enumerate" = none) (v:PA X [a] t) (y:autoParam (starEach [a] X.env=[(false,eval a X.env)]) za_._auto_1) :
   PI X (.Tuple E J A) (.Call (.Name "enumerate" p) [a] [] g) (Tg X.K t):=by
 intro f s U H R I h
 refine Call_ ?_
 refine kF I w x jU ?_ M8 MU
 refine aa7 ?_ y rfl
 refine cO (v g f s U H _ I h) λ M S ⟨V,n,i,C,Q⟩=>?_
 obtain ⟨a,e,q⟩:=Q
 subst e
 cases C with
 | cons r D =>
   cases D
   obtain rfl:_=Value.ref a:=r
   have F:∀ c∈[S.heap.objs.size+1,S.heap.objs.size],S.heap.objs.size<=c:=λ c b=>by
     simp only [aaa,aae,aaX] at b
     rcases b with rfl|rfl
     . exact abY _
     . exact aac _
   rcases q with ⟨⟨L,j⟩,q⟩|⟨⟨L,j⟩,q⟩
   . obtain ⟨B,G,d,o⟩:=i.list j
     have l:a<S.heap.objs.size:=by obtain ⟨Z,e,Z⟩:=d.isList;exact aag e
     refine call_enumerate_list d.isList λ u z m N k=>abW z ?_
     exact ⟨S.heap.objs.size+1,[S.heap.objs.size+1,S.heap.objs.size],_,_,n,rfl,i.kept (t':=S.toks) k,xf (acB _) (aas (acv l)) (aas l),⟨⟨_,z⟩,m⟩,λ c b=>i.yF (F c b) (i.ck.fresh (F c b)),q⟩
   . obtain ⟨B,G,d,o⟩:=i.tuple j
     have l:a<S.heap.objs.size:=d.lt
     refine rF d λ u z m k=>abW z ?_
     exact ⟨S.heap.objs.size+1,[S.heap.objs.size+1,S.heap.objs.size],_,_,n,rfl,i.kept (t':=S.toks) k,yL (acB _) (aas (acv l)) (aas l),⟨⟨_,z⟩,m⟩,λ c b=>i.yF (F c b) (i.ck.fresh (F c b)),q⟩
end
def fQ (m:au) (bs:cx) (d:Nat):List cG:=(List.range bs.length).map λ j=>(m.rows.getD j []).getD (bs.getD j 0+d) (0,1)
def lD (m:au) (i:Nat):cG×cG×cG:=(m.bx[i]?).getD ((0,1),(0,1),(0,1))
def ny (m:au) (i:Nat) (bs:cx) (fired:Bool):cG:=jI m i (fQ m bs 0) (lD m i).2.1 fired
def om (m:au) (i:Nat) (bs:cx) (fired:Bool):cG:=jI m i (fQ m bs 1) (lD m i).2.2 fired
inductive JL (K:aC) (C:ag) (vs:aA) (H:Hp) (Q:VK) (_E:XK):Prop|mk (a fp m:_) (i:Nat) (pb bs fired:_) (_:vs=[.ref a,av i,.ref pb,.bl fired]) (_:bj K C H a fp m) (_:i<m.rows.length) (_:(bw K H pb (bs.map av)\/cH K H pb (bs.map av))) (_:bs.length=m.rows.length) (_:(∀ j,j<m.rows.length->bs.getD j 0+1<(m.rows.getD j []).length)) (_:(fired=true->∃ z,m.aH[i]?=some (some z))) (_:∀ q q1 q2 H',aF H H'->H' q=some (.tup [.ref q1,.ref q2])->H' q1=some (.tup [.int (ny m i bs fired).1,.int (ny m i bs fired).2])->H' q2=some (.tup [.int (om m i bs fired).1,.int (om m i bs fired).2])->Q (.ref q) H')
def nk {m:au} {bs:cx} (w:m.Wf) (L:bs.length=m.rows.length) (a:∀ j,j<m.rows.length->bs.getD j 0+1<(m.rows.getD j []).length) {d:Nat} (c:d<=1):∀ f∈fQ m bs d,eJ 120 f:=λ f b=>by
 obtain ⟨j,h,rfl⟩:=aax.mp b
 have h:=aaK.mp h
 have q:=a j (by lia)
 have H:j<m.rows.length:=by lia
 rw [Nr (l:=m.rows),aw H] at q |-
 have q:bs.getD j 0+1<m.rows[j].length:=q
 show eJ 120 (m.rows[j].getD (bs.getD j 0+d) (0,1))
 rw [Nr,aw (by lia)]
 exact (w.rows m.rows[j] (aaf H) _ (aaf _)).mono (by decide)
def ay.kT (tm:ay) (n i j:Nat):Int:=if j=i then 12 - tm.hR i - bJ (tm.eA i) n else tm.eA i j
def zJ {n:Nat} (ok:tm.Ok n n) (h:i<n):0<=tm.hR i/\tm.hR i<=3:=by
 have x:i<tm.di.length:=by rw [ok.ls];exact h
 unfold ay.hR
 rw [aw x]
 exact (ok.di tm.di[i] (aaf x)).1
def AM {n j:Nat} (ok:tm.Ok n n) (a:i<n) (b:j<n):0<=tm.eA i j/\tm.eA i j<=3:=by
 unfold ay.eA
 by_cases e:i=j
 . rw [aaq e];lia
 . obtain ⟨k,c,h,H⟩:=ok.bF i j a b e
   rw [aal e,c]
   exact ⟨h,H⟩
theorem EQ {n:Nat} (ok:tm.Ok n n) (h:i<n):∀ t,t<=n->0<=bJ (tm.eA i) t/\bJ (tm.eA i) t<=3 * t
 | 0,_=>by show (0:Int)<=0/\(0:Int)<=_;lia
 | t+1,H=>by
   have a:=EQ ok h t (by lia)
   have b:=AM (j:=t) ok h (by lia)
   show 0<=bJ (tm.eA i) t+tm.eA i t/\bJ (tm.eA i) t+tm.eA i t<=_
   lia
def G3 {n:Nat} (ok:tm.Ok n n) (N:n<=4) (H:i<n):bJ (tm.eA i) n<=9:=by
 have h:∀ j,j<n->0<=tm.eA i j/\tm.eA i j<=3:=λ j d=>AM ok H d
 have c:tm.eA i i=0:=by unfold ay.eA;rw [aaq rfl]
 have s:∀ t,t<=n->bJ (tm.eA i) t+(if i<t then 3 else 0)<=3 * t:=by
   intro t
   induction t with
   | zero=>intro Z;show (0:Int)+(if i<0 then 3 else 0)<=_;rw [aal (by lia)];lia
   | succ t I =>
     intro f
     have a:=I (by lia)
     have b:=h t (by lia)
     show bJ (tm.eA i) t+tm.eA i t+(if i<t+1 then 3 else 0)<=_
     by_cases e:t=i
     . subst e
       rw [aal (by lia)] at a
       rw [aaq (by lia),c]
       lia
     . by_cases l:i<t
       . rw [aaq l] at a;rw [aaq (by lia)];lia
       . rw [aal l] at a;rw [aal (by lia)];lia
 have:=s n (aac _)
 rw [aaq H] at this
 lia
def DW {n j:Nat} (ok:tm.Ok n n) (N:n<=4) (h:i<n) (H:j<n):0<=tm.kT n i j:=by
 unfold ay.kT
 have a:=zJ ok h
 have b:=G3 ok N h
 have c:=AM (j:=j) ok h H
 split<;>lia
def ay.X (tm:ay) (n i:Nat) (x:Nat->Int) (xw:Int):Int:=bJ (λ j=>tm.kT n i j * x j) n+tm.hR i * xw
theorem uQ {k x y:Nat->Int}:∀ n,(∀ j,j<n->0<=k j/\x j<=y j)->bJ (λ j=>k j * x j) n<=bJ (λ j=>k j * y j) n
 | 0,_=>acd _
 | n+1,h=>by
   have a:=uQ n λ j H=>h j (by lia)
   have b:=h n (by lia)
   have c:=abI b.2 b.1
   show bJ (λ j=>k j * x j) n+k n * x n<=bJ (λ j=>k j * y j) n+k n * y n
   lia
def Af {n:Nat} {x y:Nat->Int} {yw:Int} (ok:tm.Ok n n) (N:n<=4) (H:i<n) (h:∀ j,j<n->x j<=y j) (hw:xw<=yw):tm.X n i x xw<=tm.X n i y yw:=by
 have a:=uQ (k:=tm.kT n i) (x:=x) (y:=y) n λ j c=>⟨DW ok N H c,h j c⟩
 have b:=abI hw (zJ ok H).1
 unfold ay.X
 lia
def ay.wQ (tm:ay) (j b:Nat):Int:=(tm.marks.getD j []).getD b 0
def ay.xl (tm:ay) (bs:cx) (d j:Nat):Int:=tm.wQ j (bs.getD j 0+d)
def ay.jY (tm:ay) (i:Nat):Int×Int×Int:=(tm.di[i]?).getD (0,0,0)
def ay.xX (tm:ay) (i:Nat):Int:=(((tm.aH[i]?).getD none).map (·.1)).getD 0
def ay.sX (tm:ay) (n i:Nat) (bs:cx) (d:Nat) (xw:Int) (fired:Bool):Int:=tm.X n i (tm.xl bs d) xw+(if fired then 12 * tm.xX i else 0)
structure uZ (tm:ay) (n:Nat) (bs:cx):Prop where
 len:bs.length=n
 lt:∀ j,j<n->bs.getD j 0+1<(tm.marks.getD j []).length
def hV {n j b:Nat} (ok:tm.Ok n n) (a:j<n) (H:b<(tm.marks.getD j []).length):∃ h:j<tm.marks.length,∃ c:b<tm.marks[j].length,tm.wQ j b=tm.marks[j][b]/\-200<=tm.wQ j b/\tm.wQ j b<=200:=by
 have h:j<tm.marks.length:=by rw [ok.lm];exact a
 have e:tm.marks.getD j []=tm.marks[j]:=by rw [Nr,aw h];rfl
 rw [e] at H
 have E:tm.wQ j b=tm.marks[j][b]:=by unfold ay.wQ;rw [e,Nr,aw H];rfl
 refine ⟨h,H,E,?_⟩
 rw [E]
 exact (ok.rows tm.marks[j] (aaf h)).bd _ (aaf H)
def ui {n d:Nat} {bs:cx} {fired:Bool} (w:(tm.m2 n n).Wf) (ok:tm.Ok n n) (N:n<=4) (f:i<n) (a:uZ tm n bs) (k:d<=1) (t : -200<=xw/\xw<=200) (p:fired=true->∃ z,tm.aH[i]?=some (some z)) :
   jI (tm.m2 n n) i (fQ (tm.m2 n n) bs d) (aY xw 1 tm.scale) fired=aY (tm.sX n i bs d xw fired) 12 tm.scale:=by
 have o:(tm.m2 n n).rows.length=n:=by rw [(c7 tm n n).1,Bl,aat,ok.lm];lia
 have r:∀ j,j<n->(tm.m2 n n).rows.getD j []=tm.row (tm.marks.getD j []):=λ j H=>by
   have S:j<tm.marks.length:=by rw [ok.lm];exact H
   rw [(c7 tm n n).1,Nr,RI,abZ H,Nr,aw S];rfl
 have W:∀ j,j<n->bs.getD j 0+1<((tm.m2 n n).rows.getD j []).length:=λ j H=>by
   rw [r j H];unfold ay.row;rw [Bl];exact a.lt j H
 have g:∀ j,j<n->(fQ (tm.m2 n n) bs d).getD j (0,1)=aY (tm.xl bs d j) 1 tm.scale:=λ j H=>by
   have K:=a.lt j H
   unfold fQ
   rw [Nr,RI,List.getElem?_range (by rw [a.len];exact H)]
   show ((tm.m2 n n).rows.getD j []).getD (bs.getD j 0+d) (0,1)=_
   rw [r j H]
   unfold ay.row ay.xl ay.wQ
   generalize tm.marks.getD j []=l at K
   have c:bs.getD j 0+d<l.length:=by lia
   generalize bs.getD j 0+d=b at c
   rw [Nr,Nr,RI,aw c];rfl
 have O:=nk (m:=tm.m2 n n) (bs:=bs) w (by rw [a.len,o]) (λ j H=>W j (by lia)) k
 have s:eJ 120 (aY xw 1 tm.scale):=(qM (n:=8) ok.scale (by decide) (show xw.natAbs<2 ^ 8 by lia) mZ).mono (by decide)
 have M:i<tm.aH.length:=by rw [ok.lt];exact f
 have:=DN (h:=tm.xX i) (x:=tm.xl bs d) w ok N f (by decide:(0:Int)<1) (by unfold fQ;rw [Bl,aaG,a.len]) g O s (λ q=>by
   obtain ⟨z,E⟩:=p q
   refine ⟨z,E,?_⟩
   unfold ay.xX
   rw [E];rfl)
 rw [this]
 have e:(12:Int) * 1=12:=rfl
 rw [e]
 rfl
theorem EW {k:Nat->Int} {c:Int}:∀ n,bJ (λ j=>k j * c) n=bJ k n * c
 | 0=>by show (0:Int)=0 * c;lia
 | n+1=>by
   show bJ (λ j=>k j * c) n+k n * c=(bJ k n+k n) * c
   rw [EW n];grind
def ID {n:Nat} {c:Int} (h:i<n):tm.X n i (λ Z=>c) c=12 * c:=by
 unfold ay.X
 have z:tm.eA i i=0:=by unfold ay.eA;rw [aaq rfl]
 have e:bJ (λ j=>tm.kT n i j * c) n=bJ (tm.kT n i) n * c:=EW n
 have E:bJ (tm.kT n i) n=bJ (tm.eA i) n+(12 - tm.hR i - bJ (tm.eA i) n):=by
   have:=Am (fl:=tm.eA i) (R:=12 - tm.hR i - bJ (tm.eA i) n) (i:=i) z n
   rw [aaq h] at this
   exact this
 rw [e,E]
 grind
def VJ {n:Nat} {x:Nat->Int} {c:Int} (ok:tm.Ok n n) (N:n<=4) (H:i<n) (h:∀ j,j<n->-c<=x j/\x j<=c) (hw : -c<=xw/\xw<=c) : -(12 * c)<=tm.X n i x xw/\tm.X n i x xw<=12 * c:=by
 have a:=Af (x:=λ Z => -c) (y:=x) (xw:=-c) ok N H (λ j d=>(h j d).1) hw.1
 have b:=Af (x:=x) (y:=λ Z=>c) (yw:=c) ok N H (λ j d=>(h j d).2) hw.2
 rw [ID H] at a b
 lia
def JF {n:Nat} (ok:tm.Ok n n) (H:i<n):0<=tm.xX i/\tm.xX i<=25:=by
 have m:i<tm.aH.length:=by rw [ok.lt];exact H
 unfold ay.xX
 rw [aw m]
 cases e:tm.aH[i] with
 | none=>show (0:Int)<=0/\(0:Int)<=25;lia
 | some z=>exact (ok.aH z (by rw [<- e];exact aaf m)).h
def Om {n d j:Nat} {bs:cx} (ok:tm.Ok n n) (H:uZ tm n bs) (c:d<=1) (h:j<n) : -200<=tm.xl bs d j/\tm.xl bs d j<=200:=by
 obtain ⟨Z,Z,Z,a,b⟩:=hV (b:=bs.getD j 0+d) ok h (by have:=H.lt j h;lia)
 exact ⟨a,b⟩
def Kx {n d:Nat} {bs:cx} {fired:Bool} (ok:tm.Ok n n) (N:n<=4) (h:i<n) (H:uZ tm n bs) (e:d<=1) (hw : -200<=xw/\xw<=200) : -3000<=tm.sX n i bs d xw fired/\tm.sX n i bs d xw fired<=3000:=by
 have a:=VJ (x:=tm.xl bs d) (c:=200) ok N h (λ j f=>Om ok H e f) hw
 have b:=JF ok h
 unfold ay.sX
 split<;>lia
def fg {a:TS} {U:L2.St} (h:let d:L2.Ends:=D;let z:L2.St:=U;let R:TS:=a3;let r:TS:=aS a2 R;aS a r d z H):(aS a (aS a2 (a3))) D U H:=h
def db {a:TS} {U:L2.St} (h:let d:L2.Ends:=D;let z:L2.St:=U;let b:TS:=a4;let R:TS:=aS a3 b;let r:TS:=aS a2 R;aS a r d z H):(aS a (aS a2 (aS a3 (a4)))) D U H:=h
def lz {a:TS} {U:L2.St} (h:let d:L2.Ends:=D;let z:L2.St:=U;let c:TS:=a5;let b:TS:=aS a4 c;let R:TS:=aS a3 b;let r:TS:=aS a2 R;aS a r d z H):(aS a (aS a2 (aS a3 (aS a4 (a5))))) D U H:=h
def li {a:TS} {U:L2.St} (h:let d:L2.Ends:=D;let z:L2.St:=U;let e:TS:=a6;let c:TS:=aS a5 e;let b:TS:=aS a4 c;let R:TS:=aS a3 b;let r:TS:=aS a2 R;aS a r d z H):(aS a (aS a2 (aS a3 (aS a4 (aS a5 (a6)))))) D U H:=h
def FM {a:TS} {U:L2.St} (h:let d:L2.Ends:=D;let z:L2.St:=U;let f:TS:=a7;let e:TS:=aS a6 f;let c:TS:=aS a5 e;let b:TS:=aS a4 c;let R:TS:=aS a3 b;let r:TS:=aS a2 R;aS a r d z H):(aS a (aS a2 (aS a3 (aS a4 (aS a5 (aS a6 (a7))))))) D U H:=h
def xV {a:TS} {U:L2.St} (h:let d:L2.Ends:=D;let z:L2.St:=U;let g:TS:=a8;let f:TS:=aS a7 g;let e:TS:=aS a6 f;let c:TS:=aS a5 e;let b:TS:=aS a4 c;let R:TS:=aS a3 b;let r:TS:=aS a2 R;aS a r d z H):(aS a (aS a2 (aS a3 (aS a4 (aS a5 (aS a6 (aS a7 (a8)))))))) D U H:=h
def y0 {a:TS} {U:L2.St} (h:let d:L2.Ends:=D;let z:L2.St:=U;let i:TS:=a9;let g:TS:=aS a8 i;let f:TS:=aS a7 g;let e:TS:=aS a6 f;let c:TS:=aS a5 e;let b:TS:=aS a4 c;let R:TS:=aS a3 b;let r:TS:=aS a2 R;aS a r d z H):(aS a (aS a2 (aS a3 (aS a4 (aS a5 (aS a6 (aS a7 (aS a8 (a9))))))))) D U H:=h
def Ee {a:TS} {U:L2.St} (h:let d:L2.Ends:=D;let z:L2.St:=U;let j:TS:=Ry;let i:TS:=aS a9 j;let g:TS:=aS a8 i;let f:TS:=aS a7 g;let e:TS:=aS a6 f;let c:TS:=aS a5 e;let b:TS:=aS a4 c;let R:TS:=aS a3 b;let r:TS:=aS a2 R;aS a r d z H):(aS a (aS a2 (aS a3 (aS a4 (aS a5 (aS a6 (aS a7 (aS a8 (aS a9 (Ry)))))))))) D U H:=h
def Dm {a X:TS} {U:L2.St} (h:let d:L2.Ends:=D;let z:L2.St:=U;let V:TS:=X;let j:TS:=aS Ry V;let i:TS:=aS a9 j;let g:TS:=aS a8 i;let f:TS:=aS a7 g;let e:TS:=aS a6 f;let c:TS:=aS a5 e;let b:TS:=aS a4 c;let R:TS:=aS a3 b;let r:TS:=aS a2 R;aS a r d z H):(aS a (aS a2 (aS a3 (aS a4 (aS a5 (aS a6 (aS a7 (aS a8 (aS a9 (aS Ry (X))))))))))) D U H:=h
def Go {A:TS} {x:V} {U:L2.St} (h:let d:L2.Ends:=D;let z:L2.St:=U;let b:TS:=a4;let R:TS:=aS a3 b;let r:TS:=aS a2 R;g x z H λ a H2=>aS A r d a H2):g x U H λ a H2=>(aS A (aS a2 (aS a3 (a4)))) D a H2:=h
def GL {A:TS} {x:V} {U:L2.St} (h:let d:L2.Ends:=D;let z:L2.St:=U;let c:TS:=a5;let b:TS:=aS a4 c;let R:TS:=aS a3 b;let r:TS:=aS a2 R;g x z H λ a H2=>aS A r d a H2):g x U H λ a H2=>(aS A (aS a2 (aS a3 (aS a4 (a5))))) D a H2:=h
def Hb {A:TS} {x:V} {U:L2.St} (h:let d:L2.Ends:=D;let z:L2.St:=U;let r:TS:=A;g x z H λ a H2=>r d a H2):g x U H λ a H2=>A D a H2:=h
def dY {CX:CH} {P:bh} {w:bf} {K:aC} {m:bR} {base:aO} {N:bN} {S:Scope} {f:ag} {c:aq} {A:Around} {outer:List Env} {s:Shared} {E:XK}:(dh CX P w K m base N qual S f c A outer s H E).K=K:=rfl
def aV {X:Cx} {f:aq->Shared->Prop}:(X.ki f).K=X.K:=rfl
@[elab_as_elim] theorem BU {α:Type} {motive:List α->Prop} {us:List α} (h:us.length=1) (k:∀ a,motive [a]):motive us :=
 c8 h λ a _ h=>aaZ h ▸ k a
@[elab_as_elim] theorem Kk {α:Type} {motive:List α->Prop} {us:List α} (h:us.length=2) (k:∀ a b,motive [a,b]):motive us :=
 c8 h λ a _ h=>c8 h λ b _ h=>aaZ h ▸ k a b
@[elab_as_elim] theorem yq {α:Type} {motive:List α->Prop} {us:List α} (h:us.length=3) (k:∀ a b c,motive [a,b,c]):motive us :=
 c8 h λ a _ h=>c8 h λ b _ h=>c8 h λ c _ h=>aaZ h ▸ k a b c
@[elab_as_elim] theorem rC {α:Type} {motive:List α->Prop} {us:List α} (h:us.length=4) (k:∀ a b c d,motive [a,b,c,d]):motive us :=
 c8 h λ a _ h=>c8 h λ b _ h=>c8 h λ c _ h=>c8 h λ d _ h=>aaZ h ▸ k a b c d
@[elab_as_elim] theorem FA {α:Type} {motive:List α->Prop} {us:List α} (h:us.length=5) (k:∀ a b c d e,motive [a,b,c,d,e]):motive us :=
 c8 h λ a _ h=>c8 h λ b _ h=>c8 h λ c _ h=>c8 h λ d _ h=>c8 h λ e _ h=>aaZ h ▸ k a b c d e
@[elab_as_elim] theorem Hf {α:Type} {motive:List α->Prop} {us:List α} (h:us.length=6) (k:∀ a b c d e f,motive [a,b,c,d,e,f]):motive us :=
 c8 h λ a _ h=>c8 h λ b _ h=>c8 h λ c _ h=>c8 h λ d _ h=>c8 h λ e _ h=>c8 h λ f _ h=>aaZ h ▸ k a b c d e f
@[elab_as_elim] theorem Kv {α:Type} {motive:List α->Prop} {us:List α} (h:us.length=7) (k:∀ a b c d e f g,motive [a,b,c,d,e,f,g]):motive us :=
 c8 h λ a _ h=>c8 h λ b _ h=>c8 h λ c _ h=>c8 h λ d _ h=>c8 h λ e _ h=>c8 h λ f _ h=>c8 h λ g _ h=>aaZ h ▸ k a b c d e f g
def lc {s:Scope} {x:Str} (h:(match s.names.lookup x with|some .local=>true|some .cell=>true|_=>false)=true):Loc s x:=by
 unfold Loc
 split at h
 . rename_i e;exact .inl e
 . rename_i e;exact .inr e
 . cases h
def cA.m {j k:Nat} {A:Around} (r:cA k A) (h:j<=k:=by first|decide|lia):cA j A:=r.mono h
section
variable {P:bh} {w:bf} {K:aC} {mg:bR} {base:aO} {x qual:Str} {st:Stmt} {N ps:bN} {k:Nat} {sp:Sp} {C:ag}
def fZ.cX (h:fZ K mg x st) (S:az N ps (ak st)) (C:∀ (f:ag) (b:aq) (A:Around) (outer:List Env) (s:Shared) (H:Hp) (vs:aA) (Q:VK) (E:XK),cA k (A.deeper (envOfC x (ak st) s.heap.objs.size f b))->sp vs H Q E ->
     ∃ t,l8 (dh qj P w K mg base N x (ak st) f b A outer s H E).sS (bg st) t/\t { nx:=λ Z c=>Q .bL c,rt:=Q } (start N vs) H) (len:∀ vs H Q E,sp vs H Q E->vs.length=ps.length:=by intro Z Z Z Z h;first|(cases h;subst_vars;rfl)|(obtain ⟨Z,rfl,Z⟩:=h;rfl)|(obtain ⟨Z,Z,rfl,Z⟩:=h;rfl)|(obtain ⟨Z,Z,Z,rfl,Z⟩:=h;rfl)|(obtain ⟨Z,Z,Z,Z,rfl,Z⟩:=h;rfl)|(obtain ⟨Z,Z,Z,Z,Z,rfl,Z⟩:=h;rfl)) (g:∀ (kV d p:aq) (e:Option ag) (b ct:aq) (us:aU),us.length=ps.length->bindArgs (W.fnOf x x (cg st) (bg st) (ak st) .none kV d p e b ct) ⟨us,[]⟩=pure (ps.zip us):=by intro Z Z Z Z Z Z us a;first|exact BU a λ Z=>rfl|exact Kk a λ Z Z=>rfl|exact yq a λ Z Z Z=>rfl|exact rC a λ Z Z Z Z=>rfl|exact FA a λ Z Z Z Z Z=>rfl|exact Hf a λ Z Z Z Z Z Z=>rfl|exact Kv a λ Z Z Z Z Z Z Z=>rfl):Def P w K mg base x (k+1) ps sp:=h.def S len g C
def eP.hG {m:Str} (h:eP K C m qual st .none) (S:az N ps (ak st)) (g:∀ (f:ag) (b:aq) (A:Around) (outer:List Env) (s:Shared) (H:Hp) (vs:aA) (Q:VK) (E:XK),cA k (A.deeper (envOfC qual (ak st) s.heap.objs.size f b))->sp vs H Q E ->
     ∃ t,l8 (dh qj P w K mg base N qual (ak st) f b A outer s H E).sS (bg st) t/\t { nx:=λ Z c=>Q .bL c,rt:=Q } (start N vs) H) (len:∀ vs H Q E,sp vs H Q E->vs.length=ps.length:=by intro Z Z Z Z h;first|(cases h;subst_vars;rfl)|(obtain ⟨Z,rfl,Z⟩:=h;rfl)|(obtain ⟨Z,Z,rfl,Z⟩:=h;rfl)|(obtain ⟨Z,Z,Z,rfl,Z⟩:=h;rfl)|(obtain ⟨Z,Z,Z,Z,rfl,Z⟩:=h;rfl)|(obtain ⟨Z,Z,Z,Z,Z,rfl,Z⟩:=h;rfl)) (i:∀ (kV d p:aq) (e:Option ag) (b ct:aq) (us:aU),us.length=ps.length->bindArgs (W.fnOf m qual (cg st) (bg st) (ak st) .none kV d p e b ct) ⟨us,[]⟩=pure (ps.zip us):=by intro Z Z Z Z Z Z us a;first|exact BU a λ Z=>rfl|exact Kk a λ Z Z=>rfl|exact yq a λ Z Z Z=>rfl|exact rC a λ Z Z Z Z=>rfl|exact FA a λ Z Z Z Z Z=>rfl|exact Hf a λ Z Z Z Z Z Z=>rfl|exact Kv a λ Z Z Z Z Z Z Z=>rfl):iK P w K mg base C m (k+1) ps [] sp:=h.Ji S len i g
end
inductive A3 (a b c:Prop):Prop|mk (_:a) (_:b) (_:c)
inductive A4 (a b c d:Prop):Prop|mk (_:a) (_:b) (_:c) (_:d)
inductive A5 (a b c d e:Prop):Prop|mk (_:a) (_:b) (_:c) (_:d) (_:e)
inductive E2 {a b:Type} (p:a->b->Prop):Prop|mk (x:a) (y:b) (_:p x y)
inductive E3 {a b c:Type} (p:a->b->c->Prop):Prop|mk (x:a) (y:b) (z:c) (_:p x y z)
inductive E4 {a b c d:Type} (p:a->b->c->d->Prop):Prop|mk (x:a) (y:b) (z:c) (u:d) (_:p x y z u)
inductive E5 {a b c d e:Type} (p:a->b->c->d->e->Prop):Prop|mk (x:a) (y:b) (z:c) (u:d) (v:e) (_:p x y z u v)
abbrev Rz (h q:ag) (g:Int):List (Str×V):=[("hold",.ref h),("place",.ref q),("gone",.int g),("ended",.bl false)]
def p7 (K:aC) (C c:ag) (H:Hp) (x:ag) (f:cM) (m:au) (s:gW) (g:Int):Prop :=
 ∃ d h q,H x=some (.ins c d (Rz h q g))/\bj K C H h f m/\io K H q s/\x∉f
section
variable {K:aC} {C CW:ag} {H H':Hp} {x:ag} {fp:cM} {m:au} {s:gW} {g:Int}
theorem p7.same (h:p7 K C CW H x fp m s g) (S:aF H H'):p7 K C CW H' x fp m s g:=by
 obtain ⟨D,e,q,a,b,c,d⟩:=h
 exact ⟨D,e,q,S _ _ a,b.same S,c.same S,d⟩
def io.ts {p:ag} (h:io K H p s) (t:cB K H H'):io K H' p s:=by
 obtain ⟨e,g,f,a,b,c,d⟩:=h
 exact ⟨e,g,f,t _ _ a,t _ _ b,t _ _ c,t _ _ d⟩
end
section
variable (K:aC) (C CW NO NF NT NB:ag)
inductive FC (vs:aA) (H:Hp) (Q:VK) (_E:XK):Prop|mk (x dx a fp m p s:_) (_:vs=[.ref x,.ref a,.ref p]) (_:H x=some (.ins CW dx [])) (_:bj K C H a fp m) (_:io K H p s) (_:jb m s) (_:m.Rb) (_:∀ pI H',uo [x] H H'->cB K H H'->p7 K C CW H' x pI m s 0->(∀ c∈pI,H c=none)->Q .bL H')
inductive Ft (vs:aA) (H:Hp) (Q:VK) (E:XK):Prop|mk (x fp m s g:_) (o out:Nat) (_:vs=[.ref x,av o,av out]) (_:p7 K C CW H x fp m s g) (_:jb m s) (_:out<16) (_:(o∉s.orders m->iD NO none H E)) (_:(o∈s.orders m->out &&& s.may m o≠out->iD NF none H E)) (_:(o∈s.orders m->out &&& s.may m o=out->∀ H',aF H H'->Q .bL H'))
inductive Hy (vs:aA) (H:Hp) (Q:VK) (_E:XK):Prop|mk (x fp m s g:_) (i b:Nat) (_:vs=[.ref x,av i,av b]) (_:p7 K C CW H x fp m s g) (_:jb m s) (_:i<m.rows.length) (_:(b.testBit i=true->m.has i=true)) (_:∀ q q1 q2 H',aF H H'->H' q=some (.tup [.ref q1,.ref q2])->H' q1=some (.tup [.int (ny m i s.cN (b.testBit i)).1,.int (ny m i s.cN (b.testBit i)).2])->H' q2=some (.tup [.int (om m i s.cN (b.testBit i)).1,.int (om m i s.cN (b.testBit i)).2])->Q (.ref q) H')
inductive LL (vs:aA) (H:Hp) (Q:VK) (E:XK):Prop|mk (x fp m s g:_) (i:Nat) (v1 v2 v3 f1 f2 f3:_) (_:vs=[.ref x,av i,v1,v2,v3]) (_:p7 K C CW H x fp m s g) (_:Dn K H (dL f1) v1) (_:Dn K H (dL f2) v2) (_:Dn K H (dL f3) v3) (_:eJ 1000 f1) (_:eJ 1000 f2) (_:eJ 1000 f3) (_:((bO f3 f1 || bO f2 f3)=true->hZ NT (av i) (.int g) H E)) (_:((bO f3 f1 || bO f2 f3)=false->∀ H',aF H H'->Q .bL H'))
end
def Gc {a b:Nat} (H:a<16) (c:b<16):Ord.off a b=0↔a &&& b=a:=by
 constructor
 .
  intro h
  refine abi λ k=>?_
  have e:=Ord.nS H c k
  rw [h,Nat.zero_testBit] at e
  rw [aa0]
  cases x:a.testBit k<;>cases y:b.testBit k<;>rw [x,y] at e<;>first|rfl|cases e
 .
  intro h
  refine abi λ k=>?_
  rw [Ord.nS H c,Nat.zero_testBit]
  have e:(a &&& b).testBit k=a.testBit k:=by rw [h]
  rw [aa0] at e
  cases x:a.testBit k<;>cases y:b.testBit k<;>rw [x,y] at e<;>first|rfl|cases e
def G0 {m:au} {s:gW} {o:Nat} (h:m.rows.length<=4):s.may m o<16:=aam (Ord.u0 _ _) (aba (by decide) h:2 ^ m.rows.length<=2 ^ 4)
def AB {m:au} {s:gW} {o:Nat} (h:o∈s.orders m):o &&& m.ws=o:=by
 have h:=(aaW.mp h).1
 exact Bit.FN h
def Dd (l:cx):(l.map av).all oi=true:=by
 rw [abv]
 intro x h
 obtain ⟨n,Z,rfl⟩:=aax.mp h
 rfl
def Js (o:Nat) (l:cx):No (av o) (l.map av)=decide (o∈l):=by
 unfold No
 induction l with
 | nil=>simp
 | cons x l i =>
   rw [aaN,aci,i]
   show (((x:Int) == (o:Int)) || decide (o∈l))=_
   rw [abG]
   simp only [Bool.or_eq_true,abC,aaR,aaa]
   have:((x:Int)=(o:Int))↔o=x:=by lia
   rw [this]
def qA (h H:Hp) (L:cM) (v:aA) (m:List (List Int)):Prop :=
 ∃ G:cM,v=G.map V.ref/\G.length=m.length/\G.Nodup/\∀ (j:Nat) p l,G[j]?=some p->m[j]?=some l->H p=some (.lst (List.map V.int l))/\p∉L/\h p=none/\∀ x∈l,-30<=x/\x<=150
section
variable {K:aC} {H0 H H1 H':Hp} {L:cM} {vm:aA} {ms:List (List Int)}
def qA.nil:qA H0 H L [] []:=⟨[],rfl,rfl,acP,λ j p l h=>by simp at h⟩
def qA.step (h:qA H0 H L vm ms) (s:uo L H H'):qA H0 H' L vm ms:=by
 obtain ⟨G,e,l,n,f⟩:=h
 exact ⟨G,e,l,n,λ j p l a b=>⟨s _ _ (f j p l a b).1 (f j p l a b).2.1,(f j p l a b).2⟩⟩
def ku (s:aF H H'):uo L H H':=λ b o h Z=>s b o h
def qI {a:ag} {o:HO} (h:a∈L):uo L H (upd H a o):=λ b u e n=>by
 have N:b≠a:=λ z=>n (by rw [z];exact h)
 rw [aG N];exact e
def ie {H2:Hp} (a:uo L H H1) (b:uo L H1 H2):uo L H H2:=λ c o h n=>b c o (a c o h n) n
def qA.snoc {p:ag} (h:qA H0 H1 L vm ms) (u:H1 p=none) (s:uo L H1 H) (t:H p=some (.lst (l.map V.int))) (K:p∉L) (k0:H0 p=none) (v:∀ x∈l,-30<=x/\x<=150):qA H0 H L (vm++[.ref p]) (ms++[l]):=by
 obtain ⟨G,e,w,N,f⟩:=h
 have y:p∉G:=λ z=>by
   obtain ⟨j,o,e⟩:=ad1 z
   have i:j<ms.length:=by lia
   have:=(f j p ms[j] (by rw [abD o,e]) (abD i)).1
   rw [u] at this
   cases this
 refine ⟨G++[p],by rw [e,aab];rfl,by rw [aad,aad,w];rfl,?_,λ j q r d g=>?_⟩
 . rw [List.nodup_append]
   exact ⟨N,by simp,λ a m b n z=>y (by rw [T1.mp n] at z;rw [<- z];exact m)⟩
 .
  by_cases c:j<G.length
  . rw [aaM c] at d
    rw [aaM (by lia)] at g
    have:=f j q r d g
    exact ⟨s _ _ this.1 this.2.1,this.2⟩
  .
   rw [aaL (by lia)] at d
   rw [aaL (by lia)] at g
   have C:j - G.length=0:=by
     have:=(Yp.mp d).1
     simp at this
     lia
   have k:j - ms.length=0:=by lia
   rw [C] at d
   rw [k] at g
   obtain rfl:p=q:=aai d
   obtain rfl:l=r:=aai g
   exact ⟨t,K,k0,v⟩
end
def N8 (K:aC) (h H:Hp) (p:ag) (m:ay):Prop:=∃ b c d a f e v V g A,TC K H p b c d a f e v V g A m/\qA h H [p,b,c,d,a] v m.marks
inductive zS (K:aC) (vs:aA) (H:Hp) (Q:VK) (_E:XK):Prop|mk (a:_) (ns:List Int) (_:vs=[.ref a]) (_:bw K H a (ns.map V.int)) (_:∀ p H' m n,1<=n->n<=4->ay.Ok n n m->aF H H'->N8 K H H' p m->Q (.ref p) H')
def MH {n:Nat} (h:0<n):Ew n (-1)=some (n - 1):=by
 unfold Ew
 rw [aal (by lia),aaq (by lia)]
 congr 1
 lia
def ay.W4 (tm:ay) (i:Nat) (z lo h:Int):Prop:=0<=z/\z<((tm.marks.getD i []).length:Int) - 1/\12 * tm.wQ i z.toNat<=h/\lo<=12 * tm.wQ i (z.toNat+1)
instance {tm:ay} {i:Nat} {z lo h:Int}:Decidable (tm.W4 i z lo h):=by unfold ay.W4;infer_instance
def ay.s0 (tm:ay) (n i:Nat) (bs:cx) (f:Bool):Int:=tm.sX n i bs 0 (tm.jY i).2.1 f
def ay.s1 (tm:ay) (n i:Nat) (bs:cx) (f:Bool):Int:=tm.sX n i bs 1 (tm.jY i).2.2 f
section
variable {tm:ay} {n i:Nat}
def yX (ok:tm.Ok n n) (h:i<n):(tm.m2 n n).rows.getD i []=tm.row (tm.marks.getD i []):=by
 have s:i<tm.marks.length:=by rw [ok.lm];exact h
 rw [(c7 tm n n).1,Nr,RI,abZ h,Nr,aw s];rfl
def zl {b:Nat} (h:b<l.length):(tm.row l).getD b (0,1)=aY (l.getD b 0) 1 tm.scale:=by
 unfold ay.row
 rw [Nr,RI,aw h,Nr,aw h];rfl
def xW (ok:tm.Ok n n) (h:i<n):(lD (tm.m2 n n) i).2.1=aY (tm.jY i).2.1 1 tm.scale/\(lD (tm.m2 n n) i).2.2=aY (tm.jY i).2.2 1 tm.scale/\(-200<=(tm.jY i).2.1/\(tm.jY i).2.1<=200)/\(-200<=(tm.jY i).2.2/\(tm.jY i).2.2<=200)/\(tm.jY i).2.1<=(tm.jY i).2.2:=by
 have x:i<tm.di.length:=by rw [ok.ls];exact h
 have K:=ok.di tm.di[i] (aaf x)
 unfold lD ay.jY
 rw [(jh ok n (aac n)).1 i h,aw x]
 refine ⟨rfl,rfl,?_⟩
 show (-200<=tm.di[i].2.1/\tm.di[i].2.1<=200)/\(-200<=tm.di[i].2.2/\tm.di[i].2.2<=200)/\tm.di[i].2.1<=tm.di[i].2.2
 lia
def nq (ok:tm.Ok n n) (H:i<n) (h:(tm.m2 n n).has i=true):∃ z,tm.aH[i]?=some (some z):=by
 unfold au.has at h
 rw [sB ok H] at h
 cases e:tm.aH[i]? with
 | none=>rw [e] at h;cases h
 | some o =>
   cases o with
   | none=>rw [e] at h;cases h
   | some z=>exact ⟨z,rfl⟩
section
variable {bs:cx} {f:Bool}
def rm (w:(tm.m2 n n).Wf) (ok:tm.Ok n n) (N:n<=4) (h:i<n) (H:uZ tm n bs) (a:f=true->(tm.m2 n n).has i=true):ny (tm.m2 n n) i bs f=aY (tm.s0 n i bs f) 12 tm.scale/\om (tm.m2 n n) i bs f=aY (tm.s1 n i bs f) 12 tm.scale:=by
 obtain ⟨e,E,b,B,Z⟩:=xW ok h
 unfold ny om ay.s0 ay.s1
 rw [e,E]
 exact ⟨ui w ok N h H (by decide) b λ q=>nq ok h (a q),ui w ok N h H (by decide) B λ q=>nq ok h (a q)⟩
def Po (ok:tm.Ok n n) (N:n<=4) (H:i<n) (h:uZ tm n bs):(-3000<=tm.s0 n i bs f/\tm.s0 n i bs f<=3000)/\(-3000<=tm.s1 n i bs f/\tm.s1 n i bs f<=3000)/\tm.s0 n i bs f<=tm.s1 n i bs f:=by
 obtain ⟨Z,Z,B,c,l⟩:=xW ok H
 refine ⟨Kx ok N H h (by decide) B,Kx ok N H h (by decide) c,?_⟩
 have:=Af (x:=tm.xl bs 0) (y:=tm.xl bs 1) ok N H (λ j a=>?_) l
 . unfold ay.s0 ay.s1 ay.sX
   lia
 .
  obtain ⟨d,g,e,Z⟩:=hV (b:=bs.getD j 0) ok a (by have:=h.lt j a;lia)
  obtain ⟨Z,k,E,Z⟩:=hV (b:=bs.getD j 0+1) ok a (h.lt j a)
  have O:=(ok.rows tm.marks[j] (aaf d)).Ol _ _ _ (aw g) (aw k)
  rw [<- e,<- E] at O
  exact abf O
def rZ {x:Int} (ok:tm.Ok n n) (h : -5000<=x) (H:x<=5000):eJ 1000 (aY x 12 tm.scale):=(qM (n:=16) ok.scale (by decide) (show x.natAbs<2 ^ 16 by lia) (show Int.natAbs 12<2 ^ 16 by decide)).mono (by decide)
def EM (w:(tm.m2 n n).Wf) (ok:tm.Ok n n) (N:n<=4) (H:i<n) (h:uZ tm n bs) (a:f=true->(tm.m2 n n).has i=true):eJ 1000 (ny (tm.m2 n n) i bs f)/\eJ 1000 (om (tm.m2 n n) i bs f):=by
 obtain ⟨e,E⟩:=rm w ok N H h a
 obtain ⟨b,B,Z⟩:=Po (f:=f) ok N H h
 rw [e,E]
 exact ⟨rZ ok (by lia) (by lia),rZ ok (by lia) (by lia)⟩
end
end
def iC (F:Nat->Option Bool):Nat->Option (Nat×Bool)
 | 0=>none
 | n+1=>match iC F n with|some r=>some r|none=>(F n).map λ b=>(n,b)
section
variable {F:Nat->Option Bool}
theorem kS:∀ {n:Nat},(∀ i,i<n->F i=none)->iC F n=none
 | 0,_=>rfl
 | n+1,h=>by
   unfold iC
   rw [kS λ i H=>h i (by lia),h n (by lia)];rfl
theorem uG:∀ {n i:Nat} {b:Bool},i<n->F i=some b->(∀ j,j<i->F j=none)->iC F n=some (i,b)
 | n+1,i,b,H,e,h=>by
   unfold iC
   by_cases c:i<n
   . rw [uG c e h]
   . obtain rfl:i=n:=by lia
     rw [kS h,e];rfl
theorem uK:∀ {n:Nat},(iC F n=none/\∀ i,i<n->F i=none)\/∃ i b,iC F n=some (i,b)/\i<n/\F i=some b/\∀ j,j<i->F j=none
 | 0 => .inl ⟨rfl,λ i h=>absurd h (ab7 _)⟩
 | n+1=>by
   rcases uK (n:=n) with ⟨e,h⟩|⟨i,b,e,d,H,a⟩
   .
    cases c:F n with
    | none =>
      refine .inl ⟨by unfold iC;rw [e,c];rfl,λ i d=>?_⟩
      by_cases z:i<n
      . exact h i z
      . obtain rfl:i=n:=by lia
        exact c
    | some b=>exact .inr ⟨n,b,by unfold iC;rw [e,c];rfl,by lia,c,h⟩
   . exact .inr ⟨i,b,by unfold iC;rw [e],by lia,H,a⟩
end
section
variable (K:aC) (C CW:ag)
inductive Aq (vs:aA) (H:Hp) (Q:VK) (_E:XK):Prop|mk (p tm:_) (n i:Nat) (pb bs fired:_) (_:vs=[.ref p,av i,.ref pb,.bl fired]) (_:iA K H p tm) (_:tm.Ok n n) (_:n<=4) (_:i<n) (_:(bw K H pb (bs.map av)\/cH K H pb (bs.map av))) (_:uZ tm n bs) (_:(fired=true->∃ z,tm.aH[i]?=some (some z))) (_:∀ q H',aF H H'->H' q=some (.tup [.int (tm.s0 n i bs fired),.int (tm.s1 n i bs fired)])->Q (.ref q) H')
end
def Xq (s:gW):PyData:=.tuple [.tuple (s.cN.map sj),sj s.dO,.tuple (s.iT.map sj),.tuple (s.failed.map sj),sj s.heap]
def io.dn {K:aC} {p:ag} {s:gW} (h:io K H p s):Dn K H (Xq s) (.ref p):=by
 obtain ⟨e,g,f,a,b,c,d⟩:=h
 exact gi a (bS (gi b (lG _)) (bS rfl (bS (gi c (lG _)) (bS (gi d (lG _)) (bS rfl ip)))))
def Pl (s:gW):EE 2 (Xq s):=by
 have k:∀ l:cx,EE 1 (.tuple (l.map sj)):=λ l d h=>by
   obtain ⟨x,Z,rfl⟩:=aax.mp h
   exact trivial
 intro d h
 simp only [aaa,aae,aaX] at h
 rcases h with rfl|rfl|rfl|rfl|rfl
 . exact k _
 . exact trivial
 . exact k _
 . exact k _
 . exact trivial
structure dB (k:Nat) (A:Around):Prop where
 dp:A.depth+3 * k+5<recursionLimit
 un:A.units+16 * k+200<cLine
def cA.h {k:Nat} {A:Around} (r:cA k A):dB k A:=⟨r.dp,r.un⟩
def dB.mono {j k:Nat} {A:Around} (r:dB k A) (h:j<=k):dB j A:=⟨by have:=r.dp;lia,by have:=r.un;lia⟩
theorem dB.deeper {k:Nat} {A:Around} (r:dB (k+1) A) (env:Env):dB k (A.deeper env) :=
 ⟨by have:=r.dp;show A.depth+1+3 * k+5<_;lia,by have:=r.un;show A.units+3+16 * k+200<_;lia⟩
theorem dB.depth {k:Nat} {A:Around} (r:dB k A):A.depth<recursionLimit:=by have:=r.dp;lia
theorem dB.mark {k:Nat} {A:Around} (r:dB k A) (v:iO):dB k (A.mark v):=⟨r.dp,r.un⟩
def BI (outer:List Env) (H:Hp) (s:Shared) (e:ag) (o:Obj):Prop:=s.heap.get? e=some o/\H e=none/\e∉f8 outer/\∀ v,o.data ≠ .cell v
abbrev Lm:=aq->ag->aA->Hp->VK->Prop
structure KL (P:bh) (w:bf) (K:aC) (mg:bR) (base:aO) (k:Nat) (f:ag) (fd:FuncData) (ps:bN) (sp:Lm):Prop where
 len:∀ c e vs H Q,sp c e vs H Q->vs.length=ps.length
 run:∀ (A:Around) (outer:List Env) (s:Shared) (H:Hp) (args:Args) (us:aU) (vs:aA) (Q:VK) (e:ag) (oe:Obj),dB k A->qi P w K mg base A outer s H->BI outer H s e oe->BindsTo s fd args (ps.zip us)->Vals vs us->sp oe.cls e vs H Q ->
   codeAny (model P w) A (.call (.ref f) args) (CR qj outer P w H s Q E0) s
def um (P:bh) (w:bf) (K:aC) (m:bR) (base:aO) (N:bN) (q:Str) (S:Scope) (f:ag) (c:aq) (A:Around) (outer:List Env) (s:Shared) (H:Hp) (e:ag) (o:Obj):Cx :=
 { dh qj P w K m base N q S f c A outer s H E0 with calm:=false,pn:=[(e,o)],xe:=λ Z Z=>False }
def Bo {P:bh} {w:bf} {K:aC} {m:bR} {base:aO} {N d:bN} {a:Scope} {f:ag} {C:aq} {A:Around} {outer:List Env} {s s1:Shared} {us:aU} {vs:aA} {e:ag} (S:az N d a) (b:qi P w K m base A outer s H) (c:BI outer H s e oe) (i:vs.length=d.length) (r:Vals vs us) (x:InCallC s s.heap.objs.size (bindL (envOfC qual a s.heap.objs.size f C).kindOf (d.zip us) λ Z=>none) (cellsFrom (s.heap.objs.size+1) a.names []) (bindC (envOfC qual a s.heap.objs.size f C).kindOf (d.zip us) λ Z=>none) s1) :
   Inv (um P w K m base N qual a f C A outer s H e oe) [] (start N vs) H s1:=by
 have T:qi P w K m base { A with handled:=none } outer s H:=⟨b.frames,b.mod,b.bs,b.CP,b.jq,b.BH,b.ck,b.bare⟩
 have I:=oO (CX:=qj) (E:=E0) (A:={ A with handled:=none }) S rfl T i r x
 have ok:=I.ok
 refine ⟨⟨ok.mod,ok.kind,ok.glob,ok.blt,ok.above,ok.inj,ok.has,ok.Kl,(λ z=>nomatch z),ac3 b.frames,ok.Kq,ok.QO,ok.bs,ok.CP,ok.yf,ok.AR,ok.jq,ok.BH⟩,I.os,I.bare,I.base,I.loc,I.cell,I.free,I.iu,λ p j=>?_,I.ck,I.len⟩
 have g:p=(e,oe):=by simpa [um] using j
 subst g
 have l:e<s.heap.objs.size:=aag c.1
 obtain ⟨k,t,rfl,h⟩:=x.done
 exact ⟨h _ _ c.1,c.2.1,aas l,c.2.2.1,c.2.2.2⟩
def K0 {P:bh} {w:bf} {K:aC} {m:bR} {base:aO} {k:Nat} {f:ag} {p:Arguments} {B:List Stmt} {a:Scope} {G kV D M g ct oc:aq} {C od:Option ag} {qz:Array (iO)} {N j:bN} {sp:Lm} (lk:K.lookup f=some ⟨oc,od,.func (W.fnOf name qual p B a G kV D M C g ct),qz⟩) (je:W.codeIn K g qual=true) (S:az N j a) (len:∀ c e vs H Q,sp c e vs H Q->vs.length=j.length) (T:∀ (A:Around) (outer:List Env) (s:Shared) (H:Hp) (vs:aA) (Q:VK) (e:ag) (oe:Obj),dB k (A.deeper (envOfC qual a s.heap.objs.size f g))->sp oe.cls e vs H Q ->
     ∃ t,l8 (um P w K m base N qual a f g A outer s H e oe) B t/\t { nx:=λ _ h=>Q .bL h,rt:=Q } (start N vs) H) :
   KL P w K m base (k+1) f (W.fnOf name qual p B a G kV D M C g ct) j sp:=by
 refine ⟨len,λ A outer s H args us vs Q e oe L E pk X r O=>?_⟩
 have hl:=len _ _ _ _ _ O
 have z:K.In s.heap:=E.mod.Bu.keeps λ b o e=>(E.bs b o e).1
 have l:s.heap.NoLimit:=E.mod.nolimit.keeps λ b o e=>(E.bs b o e).1
 have zj:∀ y∈j.zip us,a.names.lookup y.1=some .local\/(a.names.lookup y.1=some .cell/\((cellsFrom (s.heap.objs.size+1) a.names []).lookup y.1).isSome=true):=λ ⟨n,v⟩ hy=>by
   rcases S.par n (ack hy).1 with q|q
   . exact .inl q
   . exact .inr ⟨q,acO _ _ _ (.inl q)⟩
 refine acV L.depth (z _ _ lk) rfl S.co S.gen rfl (W.codeRec_of z je) (X _ _ _ _ ?_)
 refine acx S.kind zj λ env Y s1 x=>?_
 subst Y
 refine ⟨l.keeps x.toInCall.keep,codeAny_func ?_⟩
 obtain ⟨t,ht,hq⟩:=T A outer s H vs Q e oe (L.deeper _) O
 have I:Inv (um P w K m base N qual a f g A outer s H e oe) [] (start N vs) H s1:=Bo S E pk hl r x
 refine aau (ht [] s1 (start N vs) H _ I hq) (λ U s' i=>?_) λ e s' i=>False.elim i
 have F:∀ {d:St} {h:Hp} {v:V} {u:aq},Inv (um P w K m base N qual a f g A outer s H e oe) [] d h s'->RelV v u->Q v h->CE outer P w H s Q u s' :=
   λ {d h v u} J R q=>⟨v,h,J.os,J.bare,J.base,J.ck,R,q⟩
 cases U with
 | ret u =>
   obtain ⟨v,d,h,J,R,q⟩:=i
   exact F J R q
 | next =>
   obtain ⟨d,h,J,q⟩:=i
   exact F (v:=V.bL) (u:=Value.none) J rfl q
 | brk =>
   obtain ⟨_,_,_,q⟩:=i
   exact False.elim q
 | cont =>
   obtain ⟨_,_,_,q⟩:=i
   exact False.elim q
def M7 (P:bh) (w:bf) (K:aC) (m:bR) (base:aO) (x:Str) (k:Nat) (p:bN) (s:Lm):Prop :=
 ∃ f F,m x=some (.ref f)/\W.keepIn K (.ref f)=true/\Binds K F p []/\KL P w K m base k f F p s
def fZ.UD {P:bh} {w:bf} {K:aC} {m:bR} {base:aO} {x:Str} {st:Stmt} {N p:bN} {k:Nat} {sp:Lm} (h:fZ K m x st) (S:az N p (ak st)) (len:∀ c e vs H Q,sp c e vs H Q->vs.length=p.length) (l:∀ (kV d g:aq) (b:Option ag) (a ct:aq) (us:aU),us.length=p.length->bindArgs (W.fnOf x x (cg st) (bg st) (ak st) .none kV d g b a ct) ⟨us,[]⟩=pure (p.zip us)) (C:∀ (f:ag) (a:aq) (A:Around) (outer:List Env) (s:Shared) (H:Hp) (vs:aA) (Q:VK) (e:ag) (oe:Obj),dB k (A.deeper (envOfC x (ak st) s.heap.objs.size f a))->sp oe.cls e vs H Q ->
     ∃ t,l8 (um P w K m base N x (ak st) f a A outer s H e oe) (bg st) t/\t { nx:=λ Z i=>Q .bL i,rt:=Q } (start N vs) H):M7 P w K m base x (k+1) p sp:=by
 obtain ⟨f,j,n,F⟩:=h
 refine ⟨f,j,n,F.kp,F.binds l,?_⟩
 obtain ⟨O,r,kV,d,g,b,a,ct,u,rfl,L,J⟩:=F.ex
 exact K0 L J S len λ A outer s H vs Q e oe o q=>C f a A outer s H vs Q e oe o q
def Mz (s:Lm) (c:aq) (e:ag) (t:TA):TE:=λ U H Q=>t U H λ v h=>s c e v h Q
section
variable {X:Cx} {k:Nat} {x:Str} {ps:bN} {sp:Lm} {p pos:Pos} {ex:Expr} {es:List Expr} {t:TA} {e:ag} {oe:Obj} {c:aq}
def Inv.Fz {p:List (ag×Obj)} {s:Shared} (I:Inv X p U H s) (h:(e,oe)∈X.pn):BI X.stack H s e oe:=by
 obtain ⟨a,b,c,d,f⟩:=I.pin (e,oe) (aaU _ h)
 refine ⟨a,b,λ z=>?_,f⟩
 rcases I.ok.Kq with q|⟨q,Q⟩
 . rw [q] at z
   exact d z
 .
  rw [q] at z
  unfold f8 at z
  rw [acl,Q] at z
  rcases aaa.mp z with z|z
  . exact c z
  . exact d z
def rK (D:M7 X.prog X.w X.K X.mg X.base x k ps sp) (E:dB k X.A) (C:(e,oe)∈X.pn) (M:oe.cls=c) (m:PA X (ex::es) t) (v:autoParam (Gl X x) za_._auto_1) (J:autoParam (wO x) zb_._auto_1) (o:autoParam (starEach (ex::es) X.env=(false,eval ex X.env)::starEach es X.env) za_._auto_1) (G:autoParam (wP X es pos) za_._auto_1):PE X (.Call (.Name x p) (ex::es) [] pos) (Mz sp c e t):=by
 subst M
 obtain ⟨f,L,B,y,n,F⟩:=D
 intro d s U H Q I h
 refine abQ (ia I v B ?_ J)
 refine acj (h₀:=X.base) I.ok.mod.Bu y (cO (m pos d s U H _ I h) λ g S ⟨V,j,i,r,q⟩=>⟨i.jy,?_⟩) o G
 have z:(g++[]).length=ps.length:=by rw [aaT,<- r.length];exact F.len _ _ _ _ _ q
 have b:=n S g i.jy z
 rw [aaT] at b
 refine abX (abT (F.run X.A X.stack S j ⟨g,[]⟩ g V Q e oe E i.Bb (i.Fz C) b r q) λ r N a=>?_)
 cases r with
 | error e=>exact False.elim a
 | ok l =>
   cases l with
   | ret u=>exact i.after a
   | next=>exact False.elim a
   | brk=>exact False.elim a
   | cont=>exact False.elim a
end
def BL (K:aC) (C:cM) (n:aU) (s:ag):Bool :=
 C.zipIdx.all λ c=>(C.zipIdx.all λ d=>decide (W.kitOne K (.ref c.1) (.ref d.1)=some (c.2 == d.2))) && decide (W.kitAny K (.ref c.1) n=some false) && decide (W.kitOne K (.ref c.1) (.type "ValueError")=some true) &&
   decide (W.exmOne K (.ref c.1) (.ref s)=some true)
structure KA (K:aC) (cs:cM) (na:aU) (se:ag) (c:ag) (i:Nat):Prop where
 one:∀ j d,cs[j]?=some d->W.kitOne K (.ref c) (.ref d)=some (i == j)
 no:W.kitAny K (.ref c) na=some false
 ve:W.kitOne K (.ref c) (.type "ValueError")=some true
 ex:W.exmOne K (.ref c) (.ref se)=some true
def qQ {K:aC} {C:cM} {n:aU} {s c:ag} (h:BL K C n s=true) (g:C[i]?=some c):KA K C n s c i:=by
 unfold BL at h
 have H:=abv.mp h (c,i) (adg.mpr g)
 simp only [aaw,aaR] at H
 obtain ⟨⟨⟨H,a⟩,b⟩,e⟩:=H
 refine ⟨λ j d f=>?_,a,b,e⟩
 exact act (abv.mp H (d,j) (adg.mpr f))
def tG:entryFor table "proto.unchain" = some Builtin.«proto.unchain»:=entryFor_of_tree (by kernel_rfl)
abbrev AJ (h:aO) (e e1:ag):aO:=h.update e (Obj.mapFields (·.setIfInBounds 2 (.ref e1)))
section
variable {prog:bh} {w:bf} {A:Around} {E:aq->Shared->Prop} {s:Shared} {env:Env} {e1:ag}
variable {nm q:Str} {C N:ag} {bs bm mT:aU} {hdct:Bool} {sn:bN} {sub:aU} {ab:Bool} {col:Option Bool} {dd:Option ag} {k0 k1 k2 k3 k5:iO} {B newId gj:String}
def tY {a:Type} {e:ag} {o:Obj} {vs:Array aq} {Q:a->Shared->Prop} (g:A.handled=some (.ref e1)) (n:e1≠e) (f:s.heap.get? e=some oe) (d:oe.data = .fields vs) (j:2<vs.size) (H:s.heap.get? e1=some o) (c:jd o) (h:E (.ref e) { s with heap:=AJ s.heap e e1 }):wpAny (model prog w) A (raiseNew (.ref e):Sem a) Q E s:=by
 obtain ⟨W,i,b⟩:=c
 unfold raiseNew
 refine OW (wpAny_handled ?_)
 rw [g]
 dsimp only
 rw [aaq (by simpa using n)]
 refine OW (aa5 (wpAny_runValue (codeAny_builtin tG ?_)))
 unfold Builtin.«proto.unchain»
 dsimp only
 refine OW (ada H i b ?_)
 rw [aaq (by rfl)]
 refine OW (aak (aak ?_))
 exact OW (adX f d j (wpAny_throw h))
def rW {x:Sem aq} {Q:Flow->Shared->Prop} (l:bm.contains (.type "BaseException")=true) (j:A.handled=some (.ref e1)) (h:wpAny (model prog w) A x (λ v S=>∃ e t o,v = .ref e/\e1≠e/\S.heap.get? e1=some o/\jd o/\S.heap.get? C=some (excClassObj nm q C N bs bm hdct sn sub ab col dd k0 k1 k2 k3 k5 newId) /\
     S.heap.get? e=some { cls:=.ref C,data:=.fields #[.ref t,.none,.none,.none,.bool false,.none]}/\E (.ref e) { S with heap:=AJ S.heap e e1 }) E s) :
   wpAny (model prog w) A (raiseStmt env (some x) none) Q E s:=by
 have U:(Value.ref C::bm).contains (.type "BaseException")=true:=by rw [acY,l,ac8]
 unfold raiseStmt
 refine OW (aau h (λ v S H=>?_) λ Z Z x=>x)
 obtain ⟨e,t,o,rfl,n,c,i,a,b,f⟩:=H
 obtain ⟨k,g,d,T,O⟩:=S
 repeat (first|with_reducible refine abH b ?_|with_reducible refine abH a ?_|(with_reducible refine ac9 a ?_;rw [U])|wp_step)
 exact tY j n b rfl (show 2<6 by decide) c i f
def AO (F:ExcBaseFacts B newId gj mT) {mN:bR} {x:Str} {p:Pos} {args:List Expr} {Q:Flow->Shared->Prop} (O:bm.contains (.type "BaseException")=true) (K:A.handled=some (.ref e1)) (I:(backTo c6 (starEach args env)).any (·.1)=false) (y:mN "__init__" = none) (h:wpAny (model prog w) A (eval (.Name x np) env) (λ f c=>f = .ref C/\wpAny (model prog w) A (evalArgs (.ref C) true (backTo c6 (starEach args env)) [])
     (λ a S=>a.kw=[]/\a.pos.length<=sizeLine/\S.heap.get? C=some (excClassObj nm q C N bs bm hdct sn sub ab col dd k0 k1 k2 k3 k5 newId)/\S.heap.Ns N mN/\OwnTail S.heap mT bm/\(∃ o,S.heap.get? e1=some o/\jd o) /\
       ∀ h' e,e1≠e->Heap.MadeExcOf S.heap h' e (.ref C) a.pos->E (.ref e) { S with heap:=AJ h' e e1 }) E c) E s) :
   wpAny (model prog w) A (exec (.Raise (some (.Call (.Name x np) args [] c6)) none p) env) Q E s:=by
 rw [arm_exec_Raise]
 refine OW (abL (rW (C:=C) (nm:=nm) (q:=q) (N:=N) (bs:=bs) (bm:=bm) (hdct:=hdct) (sn:=sn) (sub:=sub) (ab:=ab) (col:=col) (dd:=dd) (k0:=k0) (k1:=k1) (k2:=k2) (k3:=k3) (k5:=k5) (newId:=newId) O K ?_))
 refine OW (aau (wpAny_Call_ofName (aau h (λ f c H=>?_) λ Z Z x=>x)) (λ v u k=>OW (abL (aak k))) λ Z Z x=>x)
 obtain ⟨rfl,H⟩:=H
 unfold callWith
 refine OW (aa5 (aau H (λ a S b=>OW (abL ?_)) λ Z Z x=>x))
 obtain ⟨m,G⟩:=a
 obtain ⟨D,i,l,L,T,⟨o,n,J⟩,b⟩:=b
 obtain rfl:G=[]:=D
 obtain ⟨R,g,d,V,U⟩:=S
 simp only [I]
 refine OW (wpAny_keeperOf_exc l ?_)
 refine OW (wpAny_call_exc_subT (hrest:=i) F T l L y λ h' e j=>OW (aa5 (wpAny_point (aak ?_))))
 obtain ⟨t,M,Z,Z⟩:=j.there
 have r:e1≠e:=λ z=>by have:=j.new;rw [<- z] at this;exact absurd (n.symm.trans this) nofun
 exact ⟨e,t,o,rfl,r,j.keeps _ _ n,J,j.keeps _ _ l,M,b h' e r j⟩
end
abbrev GX:=aq->ag->Sp
abbrev MM (P:bh) (w:bf) (K:aC) (mg:bR) (base:aO) (N:bN) (qual:Str) (scope:Scope) (f:ag) (cd:aq) (A:Around) (outer:List Env) (s:Shared) (H:Hp) (E:XK) (e:ag) (oe:Obj):Cx :=
 { dh (Ca false P w) P w K mg base N qual scope f cd A outer s H E with calm:=false,pn:=[(e,oe)]}
structure FD (P:bh) (w:bf) (K:aC) (mg:bR) (base:aO) (g:Bool) (k:Nat) (f:ag) (fd:FuncData) (ps:bN) (sp:GX):Prop where
 len:∀ c e vs H Q E,sp c e vs H Q E->vs.length=ps.length
 run:∀ (A:Around) (outer:List Env) (s:Shared) (H:Hp) (args:Args) (us:aU) (vs:aA) (Q:VK) (E:XK) (e:ag) (oe:Obj),dB k A->(g=true->A.handled=some (.ref e)/\jd oe)->qi P w K mg base A outer s H->BI outer H s e oe->BindsTo s fd args (ps.zip us)->Vals vs us->sp oe.cls e vs H Q E ->
   codeAny (model P w) A (.call (.ref f) args) (CR (Ca false P w) outer P w H s Q E) s
def GH {P:bh} {w:bf} {K:aC} {M:bR} {base:aO} {g:Bool} {k:Nat} {f:ag} {d:Arguments} {B:List Stmt} {a:Scope} {U kV D Y l ct oc:aq} {T od:Option ag} {qz:Array (iO)} {N G:bN} {sp:GX} (lk:K.lookup f=some ⟨oc,od,.func (W.fnOf name qual d B a U kV D Y T l ct),qz⟩) (je:W.codeIn K l qual=true) (S:az N G a) (len:∀ c e vs H Q E,sp c e vs H Q E->vs.length=G.length) (cI:∀ (A:Around) (outer:List Env) (s:Shared) (H:Hp) (vs:aA) (Q:VK) (E:XK) (e:ag) (oe:Obj),dB k (A.deeper (envOfC qual a s.heap.objs.size f l))->(g=true->A.handled=some (.ref e)/\jd oe)->sp oe.cls e vs H Q E ->
     ∃ t,l8 (MM P w K M base N qual a f l A outer s H E e oe) B t/\t { nx:=λ _ j=>Q .bL j,rt:=Q } (start N vs) H) :
   FD P w K M base g (k+1) f (W.fnOf name qual d B a U kV D Y T l ct) G sp:=by
 refine ⟨len,λ A outer s H args us vs Q E e oe X hg h C hb r zx=>?_⟩
 have hl:=len _ _ _ _ _ _ zx
 have O:K.In s.heap:=h.mod.Bu.keeps λ b o e=>(h.bs b o e).1
 have L:s.heap.NoLimit:=h.mod.nolimit.keeps λ b o e=>(h.bs b o e).1
 have zj:∀ y∈G.zip us,a.names.lookup y.1=some .local\/(a.names.lookup y.1=some .cell/\((cellsFrom (s.heap.objs.size+1) a.names []).lookup y.1).isSome=true):=λ ⟨n,v⟩ hy=>by
   rcases S.par n (ack hy).1 with q|q
   . exact .inl q
   . exact .inr ⟨q,acO _ _ _ (.inl q)⟩
 refine acV X.depth (O _ _ lk) rfl S.co S.gen rfl (W.codeRec_of O je) (hb _ _ _ _ ?_)
 refine acx S.kind zj λ env he s1 x=>?_
 subst he
 refine ⟨L.keeps x.toInCall.keep,codeAny_func ?_⟩
 obtain ⟨t,ht,hq⟩:=cI A outer s H vs Q E e oe (X.deeper _) hg zx
 have I:Inv (MM P w K M base N qual a f l A outer s H E e oe) [] (start N vs) H s1:=by
   have TH:qi P w K M base { A with handled:=none } outer s H:=⟨h.frames,h.mod,h.bs,h.CP,h.jq,h.BH,h.ck,h.bare⟩
   have I:=oO (CX:=qj) (E:=E0) (A:={ A with handled:=none }) S rfl TH hl r x
   have ok:=I.ok
   refine ⟨⟨ok.mod,ok.kind,ok.glob,ok.blt,ok.above,ok.inj,ok.has,ok.Kl,(λ z=>nomatch z),ac3 h.frames,ok.Kq,ok.QO,ok.bs,ok.CP,ok.yf,ok.AR,ok.jq,ok.BH⟩,I.os,I.bare,I.base,I.loc,I.cell,I.free,I.iu,λ p hp=>?_,I.ck,I.len⟩
   have ep:p=(e,oe):=by simpa [MM] using hp
   subst ep
   have lt:e<s.heap.objs.size:=aag C.1
   obtain ⟨h1,tk,rfl,hk⟩:=x.done
   exact ⟨hk _ _ C.1,C.2.1,aas lt,C.2.2.1,C.2.2.2⟩
 refine aau (ht [] s1 (start N vs) H _ I hq) (λ fl s' m=>?_) λ e s' m=>m
 have F:∀ {i:St} {j:Hp} {v:V} {u:aq},Inv (MM P w K M base N qual a f l A outer s H E e oe) [] i j s'->RelV v u->Q v j->CE outer P w H s Q u s' :=
   λ {i j v u} J R q=>⟨v,j,J.os,J.bare,J.base,J.ck,R,q⟩
 cases fl with
 | ret u =>
   obtain ⟨v,i,j,J,R,q⟩:=m
   exact F J R q
 | next =>
   obtain ⟨i,j,J,q⟩:=m
   exact F (v:=V.bL) (u:=Value.none) J rfl q
 | brk =>
   obtain ⟨_,_,_,q⟩:=m
   exact False.elim q
 | cont =>
   obtain ⟨_,_,_,q⟩:=m
   exact False.elim q
section
variable {P:bh} {w:bf} {K:aC} {mg:bR} {base:aO} {x qual m:Str} {st:Stmt} {C:ag} {N ps:bN} {g:Bool} {k:Nat} {sp:GX}
def Me (P:bh) (w:bf) (K:aC) (m:bR) (base:aO) (g:Bool) (x:Str) (k:Nat) (p:bN) (s:GX):Prop :=
 ∃ f F,m x=some (.ref f)/\W.keepIn K (.ref f)=true/\Binds K F p []/\FD P w K m base g k f F p s
def ua (P:bh) (w:bf) (K:aC) (M:bR) (base:aO) (g:Bool) (C:ag) (m:Str) (k:Nat) (p:bN) (s:GX):Prop :=
 ∃ f F,Meth K C m f/\Binds K F p []/\FD P w K M base g k f F p s
def fZ.Tb (h:fZ K mg x st) (S:az N ps (ak st)) (len:∀ c e vs H Q E,sp c e vs H Q E->vs.length=ps.length) (l:∀ (kV d p:aq) (b:Option ag) (a ct:aq) (us:aU),us.length=ps.length->bindArgs (W.fnOf x x (cg st) (bg st) (ak st) .none kV d p b a ct) ⟨us,[]⟩=pure (ps.zip us)) (C:∀ (f:ag) (a:aq) (A:Around) (outer:List Env) (s:Shared) (H:Hp) (vs:aA) (Q:VK) (E:XK) (e:ag) (oe:Obj),dB k (A.deeper (envOfC x (ak st) s.heap.objs.size f a))->(g=true->A.handled=some (.ref e)/\jd oe)->sp oe.cls e vs H Q E ->
     ∃ t,l8 (MM P w K mg base N x (ak st) f a A outer s H E e oe) (bg st) t/\t { nx:=λ Z i=>Q .bL i,rt:=Q } (start N vs) H):Me P w K mg base g x (k+1) ps sp:=by
 obtain ⟨f,j,n,F⟩:=h
 refine ⟨f,j,n,F.kp,F.binds l,?_⟩
 obtain ⟨O,r,kV,d,p,b,a,ct,u,rfl,L,J⟩:=F.ex
 exact GH L J S len λ A outer s H vs Q E e oe o m q=>C f a A outer s H vs Q E e oe o m q
def eP.Ki (h:eP K C m qual st .none) (S:az N ps (ak st)) (len:∀ c e vs H Q E,sp c e vs H Q E->vs.length=ps.length) (n:∀ (kV d p:aq) (b:Option ag) (a ct:aq) (us:aU),us.length=ps.length->bindArgs (W.fnOf m qual (cg st) (bg st) (ak st) .none kV d p b a ct) ⟨us,[]⟩=pure (ps.zip us)) (j:∀ (f:ag) (a:aq) (A:Around) (outer:List Env) (s:Shared) (H:Hp) (vs:aA) (Q:VK) (E:XK) (e:ag) (oe:Obj),dB k (A.deeper (envOfC qual (ak st) s.heap.objs.size f a))->(g=true->A.handled=some (.ref e)/\jd oe)->sp oe.cls e vs H Q E ->
     ∃ t,l8 (MM P w K mg base N qual (ak st) f a A outer s H E e oe) (bg st) t/\t { nx:=λ Z i=>Q .bL i,rt:=Q } (start N vs) H):ua P w K mg base g C m (k+1) ps sp:=by
 obtain ⟨f,l,M,F⟩:=h
 refine ⟨f,l,M,F.vd n,?_⟩
 obtain ⟨O,u,kV,d,p,b,a,ct,v,rfl,L,J⟩:=F.ex
 exact GH L J S len λ A outer s H vs Q E e oe q o r=>j f a A outer s H vs Q E e oe q o r
end
section
variable {X:Cx} {g:Bool} {k:Nat} {x m:Str} {ps:bN} {sp:GX} {p pos apos:Pos} {ex o:Expr} {es:List Expr} {t:TA} {ta:TE} {e:ag} {oe:Obj} {c:aq} {C:ag} {E:XK}
def K3 (s:GX) (c:aq) (e:ag) (t:TA):TE:=λ U H Q=>t U H λ v h=>s c e v h Q E0
def GP (D:Me X.prog X.w X.K X.mg X.base g x k ps sp) (L:dB k X.A) (J:(e,oe)∈X.pn) (N:oe.cls=c) (M:g=true->X.A.handled=some (.ref e)/\jd oe) (n:PA X (ex::es) t) (y:autoParam (Gl X x) za_._auto_1) (O:autoParam (wO x) zb_._auto_1) (v:autoParam (starEach (ex::es) X.env=(false,eval ex X.env)::starEach es X.env) za_._auto_1) (G:autoParam (wP X es pos) za_._auto_1):PE X (.Call (.Name x p) (ex::es) [] pos) (K3 sp c e t):=by
 subst N
 obtain ⟨f,R,E,B,o,F⟩:=D
 intro d s U H Q I h
 refine abQ (ia I y E ?_ O)
 refine acj (h₀:=X.base) I.ok.mod.Bu B (cO (n pos d s U H _ I h) λ j S ⟨V,l,i,r,q⟩=>⟨i.jy,?_⟩) v G
 have C:(j++[]).length=ps.length:=by rw [aaT,<- r.length];exact F.len _ _ _ _ _ _ q
 have b:=o S j i.jy C
 rw [aaT] at b
 refine abX (abT (F.run X.A X.stack S l ⟨j,[]⟩ j V Q E0 e oe L M i.Bb (i.Fz J) b r q) λ r T a=>?_)
 cases r with
 | error e=>obtain ⟨_,_,_,_,_,_,_,z⟩:=a;exact False.elim z
 | ok m =>
   cases m with
   | ret u=>exact i.after a
   | next=>exact False.elim a
   | brk=>exact False.elim a
   | cont=>exact False.elim a
def Bt (C:ag) (m:Str) (s:GX) (c:aq) (e:ag) (E:XK) (T:TE) (t:TA):TE:=pJ C m (s c e) [] E T t
def uR {p:List (ag×Obj)} {s:Shared} {Q:VK} {pl:Sem Bool} (D:ua X.prog X.w X.K X.mg X.base g C m k ps sp) (cl:tH X.K C) (hr:dB k X.A) (hp:(e,oe)∈X.pn) (M:g=true->X.A.handled=some (.ref e)/\jd oe) (he:PE X.sS o ta) (Y:PA X.sS (ex::es) t) (W:starEach (ex::es) X.env=(false,eval ex X.env)::starEach es X.env) (T:(backTo pos (starEach es X.env)).any (·.1)=false) (ht:eval (.Call (.Attribute o m apos) (ex::es) [] pos) X.env=(do
     let O <- eval o X.env
     standAt apos.atName
     let (f,first) <- holding [O] (getMethod O m pl)
     callWith pos f first (backTo pos (starEach (ex::es) X.env)) (backToKw pos (keywordEach [] X.env)))) (I:Inv X p U H s) (h:Bt C m sp oe.cls e E ta t U H Q) :
   wpAny (model X.prog X.w) X.A (eval (.Call (.Attribute o m apos) (ex::es) [] pos) X.env) (EP X p U Q) (λ ex s'=>∃ n S,Inv X p U n S/\Ca false X.prog X.w X.stack n S E ex s') s:=by
 obtain ⟨f,fd,G,hb,F⟩:=D
 refine acW (pl:=pl) (aau (he p s U H _ (I.ki _) h) (λ u S ⟨x,n,y,rx,a,dx,fs,ex,L,l,q⟩=>?_) λ _ _ z=>False.elim z) ht
 subst ex
 obtain rfl:u=Value.ref a:=rx
 refine j0 y.gL L cl G l ?_
 refine acj (first:=[.ref a]) (h₀:=X.base) I.ok.mod.Bu G.kp (aau (Y pos p S U n _ y q) (λ j s2 ⟨J,v,B,r,i⟩=>⟨B.jy,?_⟩) λ _ _ z=>False.elim z) W T
 have c:Inv X p U v s2:=B.gL
 have i:sp oe.cls e (V.ref a::(J++[])) v Q E:=i
 rw [aaT] at i
 have R:Vals (V.ref a::J) (Value.ref a::j):=.cons rfl r
 have hl:(Value.ref a::j++[]).length=ps.length:=by rw [aaT,<- R.length];exact F.len _ _ _ _ _ _ i
 have b:=hb s2 (Value.ref a::j) c.jy hl
 rw [aaT] at b
 refine abX (abT (F.run X.A X.stack s2 v ⟨Value.ref a::j,[]⟩ (Value.ref a::j) _ Q E e oe hr M c.Bb (c.Fz hp) b R i) λ r s' d=>?_)
 cases r with
 | error e=>exact ⟨v,s2,c,d⟩
 | ok N =>
   cases N with
   | ret u=>exact c.after d
   | next=>exact False.elim d
   | brk=>exact False.elim d
   | cont=>exact False.elim d
def G1 {pl:Sem Bool} (c:PE X.sS o ta) (cl:tH X.K C) (D:ua X.prog X.w X.K X.mg X.base g C m k ps sp) (i:dB k X.A) (d:(e,oe)∈X.pn) (M:g=true->X.A.handled=some (.ref e)/\jd oe) (b:PA X.sS (ex::es) t) (a:autoParam (starEach (ex::es) X.env=(false,eval ex X.env)::starEach es X.env) za_._auto_1) (G:autoParam (wP X es pos) za_._auto_1) (j:autoParam (eval (.Call (.Attribute o m apos) (ex::es) [] pos) X.env=(do
     let O <- eval o X.env
     standAt apos.atName
     let (f,first) <- holding [O] (getMethod O m pl)
     callWith pos f first (backTo pos (starEach (ex::es) X.env)) (backToKw pos (keywordEach [] X.env)))) za_._auto_1) :
   PX X (.Call (.Attribute o m apos) (ex::es) [] pos) (λ U H Q E=>Bt C m sp oe.cls e E ta t U H Q) false:=λ Z Z Z Z Z Z I h=>uR D cl i d M c b a G j I h
def Ga {pl:Sem Bool} (c:PE X.sS o ta) (cl:tH X.K C) (D:ua X.prog X.w X.K X.mg X.base g C m k ps sp) (i:dB k X.A) (d:(e,oe)∈X.pn) (M:g=true->X.A.handled=some (.ref e)/\jd oe) (l:Passes (Ca false X.prog X.w) X E) (b:PA X.sS (ex::es) t) (a:autoParam (starEach (ex::es) X.env=(false,eval ex X.env)::starEach es X.env) za_._auto_1) (G:autoParam (wP X es pos) za_._auto_1) (j:autoParam (eval (.Call (.Attribute o m apos) (ex::es) [] pos) X.env=(do
     let O <- eval o X.env
     standAt apos.atName
     let (f,first) <- holding [O] (getMethod O m pl)
     callWith pos f first (backTo pos (starEach (ex::es) X.env)) (backToKw pos (keywordEach [] X.env)))) za_._auto_1) :
   PE X (.Call (.Attribute o m apos) (ex::es) [] pos) (Bt C m sp oe.cls e E ta t):=λ p s U H Q I h =>
 aau (uR D cl i d M c b a G j I h) (λ Z Z z=>z) λ Z Z ⟨_,_,J,q⟩=>l p U _ _ _ _ J q
def QM (X:Cx) (E:XK):Prop:=∀ (p:List (ag×Obj)) (U:St) (H:Hp) (s:Shared) (h:aO) (x:ag) (oe:Obj) (v:Array aq) (a:aq),Inv X p U H s->(∀ b o,s.heap.get? b=some o->h.get? b=some o)->s.heap.get? x=none->h.get? x=some oe->oe.data = .fields v->v[1]?=some .none->v[0]?=some a ->
 E oe.cls oe.dict H->X.xe (.ref x) { s with heap:=h }
def D9 {c:Str} {C:ag} {B gj:String} {O:aU} {newId:String} {a:Expr} {rest:List Expr} {k:Pos} {t:TA} (hh:X.A.handled=some (.ref e)) (hp:(e,oe)∈X.pn) (hc:jd oe) (F:ExcBaseFacts B newId gj O) (hm:X.mg c=some (.ref C)) (q:W.excIn X.K C O newId=true) (th:QM X E) (ha:PA X (a::rest) t) (hg:autoParam (Gl X c) za_._auto_1) (hd:autoParam ((c == ("__debug__" : Str))=false) zb_._auto_1) (u:autoParam (starEach (a::rest) X.env=(false,eval a X.env)::starEach rest X.env) za_._auto_1) (gm:autoParam ((backTo c6 (starEach rest X.env)).any (·.1)=false) za_._auto_1) :
   PS X (.Raise (some (.Call (.Name c np) (a::rest) [] c6)) none k) (E6 C E t):=by
 intro p s U H D I h
 obtain ⟨tl,N,Q,qn,m,d,R,S,l,f,n,v,w,G,J,L,M,hC,hN,Y,T⟩:=BR I.ok.mod.Bu q
 refine AO (C:=C) (nm:=Q) (q:=qn) (N:=N) (bs:=m) (bm:=tl) (hdct:=d) (sn:=R) (sub:=S) (ab:=l) (col:=f) (dd:=n) (k0:=v) (k1:=w) (k2:=G) (k3:=J) (k5:=L)
   F (mN:=M) (T.hasType F.hasBase) hh (by rw [u];show (false || (backTo c6 (starEach rest X.env)).any (·.1))=false;rw [gm];rfl) Y (ia I hg hm ⟨rfl,?_⟩ hd)
 have r:=ha c6 p s U H _ I h
 rw [u] at r |-
 refine ab4 (aau r (λ us s2 ⟨vs,V,i,r2,hz,q2⟩=>⟨rfl,by rw [<- r2.length];exact hz,i.bk _ _ hC,hN.keeps i.bk,T.keeps i.bk,⟨oe,(i.pin (e,oe) (aaU _ hp)).1,hc⟩,λ h' x ne g=>?_⟩) λ Z Z y=>y)
 obtain ⟨t0,RD,Z,Z⟩:=g.there
 refine th p U V s2 _ x _ _ (.ref t0) i (λ b o j=>?_) g.new (abE _ RD rfl) rfl rfl rfl q2
 have nb:x≠b:=λ z=>by rw [<- z,g.new] at j;cases j
 rw [abA _ _ nb]
 exact g.keeps b o j
end
section
variable {P:bh} {w:bf} {K:aC} {mg:bR} {base:aO} {N:bN} {qual:Str} {scope:Scope} {f:ag} {cd:aq} {A:Around} {outer:List Env} {s₀:Shared} {H₀:Hp} {E E':XK} {e:ag} {oe:Obj}
def IV (c:∀ cls d H,E' cls d H->E cls d H):QM (MM P w K mg base N qual scope f cd A outer s₀ H₀ E e oe) E':=λ p U H s m x o v l I j k a g b h i =>
 Kr c I j k a g b h (λ z=>nomatch z) i
end
def Mf {sq:Hp->ag->aA->Prop} {a:ag} {xs:aA} {tb:TS} {D:Ends} (b:Nat->St->Hp->Prop) (j:b 0 U H) (o:∀ i U H,i<=xs.length->b i U H->sq H a xs) (s:∀ i x p U H,xs[i]?=some x->H p=none->b i U H->g (.ref p) U (upd H p (.tup [av i,x])) λ d f=>tb ⟨b (i+1),D.rt,D.nx,b (i+1)⟩ d f) (l:∀ U H,b xs.length U H->D.nx U H) :
   ∃ W:Nat->Nat->St->Hp->Prop,(∃ m,W 0 m U H)/\∀ i m U H,W i m U H ->
     ((EL sq a).stop i H/\D.nx U H)\/((EL sq a).go i H/\∃ N:St->Hp->Prop,(∀ c h,N c h->∃ m',m'<m/\W (i+1) m' c h)/\∀ x h,(EL sq a).Ey i H x h->g x U h λ d f=>tb { D with nx:=N,ct:=N,bk:=D.nx } d f):=by
 refine ⟨λ i m U H=>m=xs.length - i/\i<=xs.length/\b i U H,⟨_,rfl,aaV _,j⟩,?_⟩
 rintro i m U H ⟨rfl,n,p⟩
 have q:=o i U H n p
 by_cases k:i<xs.length
 . refine .inr ⟨⟨xs,xs[i],q,by simp [k]⟩,b (i+1),λ c h t=>⟨xs.length - (i+1),by lia,rfl,k,t⟩,λ v h y=>?_⟩
   obtain ⟨u,x,r,rfl,rfl,E⟩:=y
   exact s i x u U H (E xs q) r p
 . have e:i=xs.length:=by lia
   subst e
   exact .inl ⟨⟨xs,q,rfl⟩,l U H p⟩
def J1 {X:Cx} {K:aC} {e:Expr} {f:Str} {p:Pos} {t:TE} (h:X.K=K) (a:PE X e t) (H:attributeBase e f X.env (eval e X.env)=eval e X.env):PE X (.Attribute e f p) (P1 K t f):=h ▸ bM a H
abbrev XV (h q:ag) (g:Int) (b:Bool):List (Str×V):=[("hold",.ref h),("place",.ref q),("gone",.int g),("ended",.bl b)]
abbrev XY (h q:ag) (g:Int):List (Str×V):=XV h q g true
def WS (K:aC) (C:ag) (H:Hp) (x:ag) (s:gW) (g:Int):Prop:=∃ d h q,H x=some (.ins C d (XY h q g))/\io K H q s
def sZ (C:ag) (H:Hp) (x:ag):Prop:=∃ d h q g,H x=some (.ins C d (XY h q g))
def sZ.same {C x:ag} {a:Hp} (h:sZ C H x) (s:aF H a):sZ C a x:=let ⟨d,b,q,g,e⟩:=h;⟨d,b,q,g,s _ _ e⟩
def outF (m:au) (s:gW) (b:Nat) (l:List cG) (i:Nat):Bool:=bO (l.getD i (0,1)) (ny m i s.cN (b.testBit i)) || bO (om m i s.cN (b.testBit i)) (l.getD i (0,1))
def Jr (m:au) (l:List cG) (i:Nat):Bool:=iX (m.rows.getD i []) (l.getD i (0,1)) (l.getD i (0,1))
section
variable (K:aC) (C CW NO NF NT NU ED:ag)
def G9:Sp:=λ v H Q E=>Ft K C CW NO NF v H Q E\/∃ x V a,v=[.ref x,V,a]/\sZ CW H x/\iD ED none H E
inductive GG (vs:aA) (H:Hp) (_E:VK) (E:XK):Prop|mk (x v1 v2 v3 v4:_) (_:vs=[.ref x,v1,v2,v3,v4]) (_:sZ CW H x) (_:iD ED none H E)
def Hk:GX:=λ Z Z a H Z E=>∃ x v V,a=[.ref x,v,V]/\sZ CW H x/\iD ED none H E
def DA:GX:=λ Z Z b H Z E=>∃ x v V a,b=[.ref x,v,V,a]/\sZ CW H x/\iD ED none H E
inductive rS (vs:aA) (H:Hp) (Q:VK) (E:XK):Prop|mk (x fp m s g:_) (o out:Nat) (pw ys:_) (l:List cG) (_:vs=[.ref x,av o,av out,.ref pw]) (_:p7 K C CW H x fp m s g) (_:jb m s) (_:out<16) (_:bw K H pw ys) (_:cn K H (l.map dL) ys) (_:l.length=m.rows.length) (_:(∀ f∈l,eJ 1000 f)) (_:(∀ i b,i<m.rows.length->(b=true->m.has i=true)->eJ 1000 (ny m i s.cN b)/\eJ 1000 (om m i s.cN b))) (_:(o∈s.orders m->out &&& s.may m o=out->∀ i,(Ord.off o out).testBit i=true->m.has i=true)) (_:(o∉s.orders m->iD NO none H E)) (_:(o∈s.orders m->out &&& s.may m o≠out->iD NF none H E)) (_:(o∈s.orders m->out &&& s.may m o=out->(∀ i,i<m.rows.length->outF m s (Ord.off o out) l i=true->(∀ j,j<i->outF m s (Ord.off o out) l j=false)->hZ NT (av i) (.int g) H E)/\((∀ i,i<m.rows.length->outF m s (Ord.off o out) l i=false)->((∀ i,i<m.rows.length->Jr m l i=true)->iD NU none H E)/\((∃ i,i<m.rows.length/\Jr m l i=false)->∀ H',uo [x] H H'->cB K H H'->WS K CW H' x s (g+1)->Q .bL H'))))
end
def ay.oh (tm:ay) (n:Nat) (bs:cx) (b:Nat) (l:List Int) (i:Nat):Option Bool:=if l.getD i 0<tm.s0 n i bs (b.testBit i)\/tm.s1 n i bs (b.testBit i)<l.getD i 0 then some true else none
def ay.JJ (tm:ay) (l:List Int) (i:Nat):Bool:=decide (12 * tm.wQ i 0<=l.getD i 0) && decide (l.getD i 0<=12 * tm.wQ i ((tm.marks.getD i []).length - 1))
def ay.kg (tm:ay) (l:List Int):Nat->Bool
 | 0=>true
 | k+1=>tm.kg l k && tm.JJ l k
theorem pA:∀ {n:Nat},tm.kg l n=true↔∀ i,i<n->tm.JJ l i=true
 | 0=>⟨λ Z i h=>absurd h (ab7 _),λ Z=>rfl⟩
 | n+1=>by
   unfold ay.kg
   rw [aaw,pA (n:=n)]
   refine ⟨λ ⟨a,b⟩ i H=>?_,λ h=>⟨λ i H=>h i (by lia),h n (by lia)⟩⟩
   by_cases e:i<n
   . exact a i e
   . obtain rfl:i=n:=by lia
     exact b
def gI (tm:ay) (n:Nat) (s:gW) (o out:Nat) (l:List Int):Str×V :=
 if decide (o∈s.orders (tm.m2 n n)) then (if decide (out &&& s.may (tm.m2 n n) o=out) then (match iC (tm.oh n s.cN (Ord.off o out) l) n with|some (i,_)=>("turn",av i)|none=>if tm.kg l n then ("inside",.bL) else ("",.bL)) else ("failing",.bL)) else ("order",.bL)
section
variable {tm:ay} {n o out:Nat} {s:gW} {l:List Int}
def ka (h:o∉s.orders (tm.m2 n n)):gI tm n s o out l=(("order" : Str),V.bL):=by unfold gI;rw [aap h];rfl
def hX (h:o∈s.orders (tm.m2 n n)) (f:out &&& s.may (tm.m2 n n) o≠out):gI tm n s o out l=(("failing" : Str),V.bL):=by unfold gI;rw [aaC h,aap f];rfl
def pG (h:o∈s.orders (tm.m2 n n)) (f:out &&& s.may (tm.m2 n n) o=out) (H:i<n) (e:tm.oh n s.cN (Ord.off o out) l i=some true) (a:∀ j,j<i->tm.oh n s.cN (Ord.off o out) l j=none):gI tm n s o out l=(("turn" : Str),av i):=by
 unfold gI;rw [aaC h,aaC f,uG H e a];rfl
def qC (h:o∈s.orders (tm.m2 n n)) (f:out &&& s.may (tm.m2 n n) o=out) (H:∀ j,j<n->tm.oh n s.cN (Ord.off o out) l j=none):gI tm n s o out l=if tm.kg l n then (("inside" : Str),V.bL) else (("" : Str),V.bL):=by
 unfold gI;rw [aaC h,aaC f,kS H];rfl
def Bk:(gI tm n s o out l=(("" : Str),V.bL))\/((gI tm n s o out l).1 ≠ ""/\((gI tm n s o out l).2 = .bL\/∃ i:Nat,(gI tm n s o out l).2=av i)):=by
 by_cases H:o∈s.orders (tm.m2 n n)
 case neg=>rw [ka H];exact .inr ⟨by decide,.inl rfl⟩
 by_cases a:out &&& s.may (tm.m2 n n) o=out
 case neg=>rw [hX H a];exact .inr ⟨by decide,.inl rfl⟩
 have t:∀ {i b},tm.oh n s.cN (Ord.off o out) l i=some b->b=true:=λ {i b} e=>by
   unfold ay.oh at e
   split at e
   . exact (aai e).symm
   . cases e
 rcases uK (F:=tm.oh n s.cN (Ord.off o out) l) (n:=n) with ⟨_,h⟩|⟨i,b,_,f,c,d⟩
 .
  rw [qC H a h]
  cases tm.kg l n
  . exact .inl rfl
  . exact .inr ⟨by decide,.inl rfl⟩
 . obtain rfl:=t c
   rw [pG H a f c d]
   exact .inr ⟨(by decide:("turn" : Str) ≠ ""),.inr ⟨i,rfl⟩⟩
end
section
variable {tm:ay} {n i b:Nat} {s:gW} {l:List Int}
def lH (w:(tm.m2 n n).Wf) (ok:tm.Ok n n) (N:n<=4) (H:i<n) (h:uZ tm n s.cN) (d:b.testBit i=true->(tm.m2 n n).has i=true) (f:l.length=n) :
   tm.oh n s.cN b l i=if outF (tm.m2 n n) s b (l.map λ x=>aY x 12 tm.scale) i=true then some true else none:=by
 obtain ⟨e,E⟩:=rm w ok N H h d
 have a:(l.map λ x=>aY x 12 tm.scale).getD i (0,1)=aY (l.getD i 0) 12 tm.scale:=by
   rw [Nr,RI,aw (by lia),Nr,aw (by lia)];rfl
 unfold outF ay.oh
 rw [e,E,a,j3 ok.scale (by decide),j3 ok.scale (by decide)]
 by_cases c:l.getD i 0<tm.s0 n i s.cN (b.testBit i)\/tm.s1 n i s.cN (b.testBit i)<l.getD i 0
 . rw [aaq c,aaq (by simpa using c)]
 . rw [aal c,aal (by simpa using c)]
def uP (ok:tm.Ok n n) (h:i<n) (H:l.length=n):Jr (tm.m2 n n) (l.map λ x=>aY x 12 tm.scale) i=tm.JJ l i:=by
 have e:(l.map λ x=>aY x 12 tm.scale).getD i (0,1)=aY (l.getD i 0) 12 tm.scale:=by
   rw [Nr,RI,aw (by lia),Nr,aw (by lia)];rfl
 have s:i<tm.marks.length:=by rw [ok.lm];exact h
 have L:2<=(tm.marks.getD i []).length:=by
   rw [Nr,aw s]
   exact (ok.rows tm.marks[i] (aaf s)).two
 unfold Jr ay.JJ ay.wQ
 rw [e,yX ok h]
 generalize tm.marks.getD i []=r at L
 have E:(tm.row r).length=r.length:=by unfold ay.row;rw [Bl]
 unfold iX
 rw [E,zl (by lia),zl (by lia),pP ok.scale (by decide) (by decide),pP ok.scale (by decide) (by decide),<- decide_not,<- decide_not]
 congr 1<;>exact abU.mpr (by lia)
end
section
variable (K:aC) (C CW:ag)
inductive AV (vs:aA) (H:Hp) (Q:VK) (_E:XK):Prop|mk (a fp p tm:_) (n:Nat) (q s:_) (o out:Nat) (pl:_) (l:List Int) (_:vs=[.ref a,.ref p,.ref q,av o,av out,.ref pl]) (_:bj K C H a fp (tm.m2 n n)) (_:iA K H p tm) (_:tm.Ok n n) (_:n<=4) (_:io K H q s) (_:jb (tm.m2 n n) s) (_:bw K H pl (l.map V.int)) (_:l.length=n) (_:o<16) (_:out<16) (_:∀ r H',aF H H'->H' r=some (.tup [.str (gI tm n s o out l).1,(gI tm n s o out l).2])->Q (.ref r) H')
def G2:GX:=λ Z Z b H Q Z=>∃ x v V a,b=[.ref x,v,V,a]/\sZ CW H x/\∀ r h,aF H h->h r=some (.tup [.str "ended",.bL,.bL])->Q (.ref r) h
inductive Gq (vs:aA) (H:Hp) (Q:VK) (_E:XK):Prop|mk (x v1 v2 v3 v4:_) (_:vs=[.ref x,v1,v2,v3,v4]) (_:sZ CW H x) (_:∀ H',aF H H'->Q (.bl true) H')
inductive D0 (vs:aA) (H:Hp) (Q:VK) (_E:XK):Prop|mk (x:_) (o out:Nat) (v3 v4:_) (_:vs=[.ref x,av o,av out,v3,v4]) (_:sZ CW H x) (_:∀ H',aF H H'->Q (.bl true) H')
inductive xa (vs:aA) (H:Hp) (Q:VK) (_E:XK):Prop|mk (a fp p tm:_) (n:Nat) (q s pt cs:_) (k:Nat) (_:vs=[.ref a,.ref p,.ref q,.ref pt,av k]) (_:bj K C H a fp (tm.m2 n n)) (_:iA K H p tm) (_:tm.Ok n n) (_:n<=4) (_:io K H q s) (_:jb (tm.m2 n n) s) (_:bw K H pt ((cs:List Int).map V.int)) (_:k<=800) (_:∀ H',aF H H'->∀ (t o out pl:Nat) (l:List Int),o<16->out<16->H' t=some (.tup [av o,av out,.ref pl])->bw K H' pl (l.map V.int)->l.length=n->(∀ x∈l,-5000<=x/\x<=5000)->Q (.ref t) H')
inductive Be (vs:aA) (H:Hp) (Q:VK) (_E:XK):Prop|mk (a fp p tm:_) (n:Nat) (pt cs:_) (k:Nat) (_:vs=[.ref a,.ref p,.ref pt,av k]) (_:bj K C H a fp (tm.m2 n n)) (_:iA K H p tm) (_:tm.Ok n n) (_:n<=4) (_:bw K H pt ((cs:List Int).map V.int)) (_:k<=800) (_:∀ H',aF H H'->Q (.bl true) H')
end
def dB.m {j k:Nat} {A:Around} (r:dB k A) (h:j<=k:=by first|decide|lia):dB j A:=r.mono h
def zW:Nat->Str|0 => "order" | 1 => "failing" | 2 => "turn" | 3 => "inside" | _ => "ended"
def Xd (K:aC) (C:ag) (H:Hp) (x:ag) (s:gW) (g:Int) (b:Bool):Prop:=∃ d h q,H x=some (.ins C d (XV h q g b))/\io K H q s
def p7.b {K:aC} {C c x:ag} {f:cM} {m:au} {s:gW} {g:Int} (h:p7 K C c H x f m s g):Xd K c H x s g false:=by
 obtain ⟨d,a,q,e,Z,z,Z⟩:=h
 exact ⟨d,a,q,e,z⟩
section
variable (K:aC) (C CW:ag)
inductive FX (vs:aA) (H:Hp) (Q:VK) (_E:XK):Prop|mk (x fp tm:_) (n:Nat) (s g:_) (o out:Nat) (pw ys:_) (l:List Int) (_:vs=[.ref x,av o,av out,.ref pw]) (_:tm.Ok n n) (_:n<=4) (_:p7 K C CW H x fp (tm.m2 n n) s g) (_:jb (tm.m2 n n) s) (_:o<16) (_:out<16) (_:bw K H pw ys) (_:cn K H ((l.map λ x=>aY x 12 tm.scale).map dL) ys) (_:l.length=n) (_:(∀ x∈l,-5000<=x/\x<=5000)) (_:∀ r H' b,(gI tm n s o out l=(("" : Str),V.bL)/\b=true\/(gI tm n s o out l).1 ≠ ""/\b=false)->uo [x] H H'->cB K H H'->Xd K CW H' x s (if b=true then g+1 else g) b->H' r=some (.tup [.str (gI tm n s o out l).1,(gI tm n s o out l).2,if (gI tm n s o out l).2 = .bL then .bL else .int g])->Q (.ref r) H')
end
end L2
namespace L2
open PySem PySem.Spec PyProof.Rows Mth
def eI {N Q:bN} {sc:Scope} (a:autoParam (sc.kind = .function) za_._auto_1) (b:autoParam (sc.isCoroutine=false) za_._auto_1) (c:autoParam (sc.isGenerator=false) za_._auto_1) (d:autoParam (N.Nodup) zc_._auto_1) (e:autoParam (N.take Q.length=Q) za_._auto_1) (f:autoParam (∀ x∈Q,sc.names.lookup x=some .local\/sc.names.lookup x=some .cell) zc_._auto_1) (g:autoParam (∀ y∈sc.names,y.2 ≠ .free) zc_._auto_1):az N Q sc:=⟨a,b,c,d,e,f,g⟩
section
variable {X:Cx} {i:Nat} {x:Str} {pos pos':Pos} {e:Expr} {te:TE}
def jo (h:X.N.Nodup) (a:autoParam (X.N[i]?=some x) za_._auto_1) (b:Loc X.env.scope x:=by exact lc rfl) (H:autoParam (X.fn x=true\/X.env.scope.names.lookup x=some .local) zd_._auto_1):PG X (.Name x pos) (lZ i):=Ch h a b H
def rD (h:X.N.Nodup:=by dsimp only [cD];decide +kernel) (a:autoParam (X.N[i]?=some x) za_._auto_1) (b:Loc X.env.scope x:=by exact lc rfl) (H:autoParam (X.fn x=true\/X.env.scope.names.lookup x=some .local) zd_._auto_1):PG X (.Name x pos) (lZ i):=Ch h a b H
def cL (h:X.N.Nodup) (H:PE X e te) (b:autoParam (X.N[i]?=some x) za_._auto_1) (d:Loc X.env.scope x:=by exact lc rfl) (c:autoParam (swapsWith e (some (.Name x pos')) pos.line X.env=pure false) za_._auto_1) (a:autoParam (X.fn x=true\/X.env.scope.names.lookup x=some .local) zd_._auto_1):PS X (.Assign [.Name x pos'] e pos) (CO te (lZ i)):=Mg h b d H c a
end
end L2
namespace K20
open PySem PySem.Spec PyProof.Rows L2 Mth
seal PE PS l8 Ox PA PG Nf PT KR PI
def top (i:Nat):Stmt:=PySem.Challenge.pw_stoke_k20_walks_left.main.body.getD i (.Pass ⟨0,0,0,0⟩)
abbrev mh:Stmt:=top 1
def xr:az ["bits","room"] ["bits","room"] (ak mh):=eI
abbrev kP:Stmt:=top 2
def vA:az ["bits","room"] ["bits","room"] (ak kP):=eI
abbrev l9:Stmt:=top 3
def xi:az ["bits"] ["bits"] (ak l9):=eI
abbrev o8:Stmt:=top 4
def Br:az ["bits"] ["bits"] (ak o8):=eI
abbrev oC:Stmt:=top 5
def jN:az ["bits","parts","room"] ["bits"] (ak oC):=eI
abbrev oR:Stmt:=top 6
def j5:az ["rooms","bits","room"] ["rooms"] (ak oR):=eI
abbrev Cu:Stmt:=inClass (top 21) 0
abbrev AW:Stmt:=inClass (top 22) 0
abbrev d8:Stmt:=inClass (top 23) 0
def md:az ["self","room","turn"] ["self","room","turn"] (ak d8):=eI
abbrev Cp:Stmt:=inClass (top 24) 0
abbrev ph:Stmt:=top 28
def gl:az ["one","other","greater","lesser","rest"] ["one","other"] (ak ph):=eI
abbrev mE:Stmt:=top 29
def kq:az ["top","bottom","common"] ["top","bottom"] (ak mE):=eI
abbrev Ar:Stmt:=top 30
def JS:az ["one","other"] ["one","other"] (ak Ar):=eI
abbrev wK:Stmt:=top 31
def E8:az ["one","other"] ["one","other"] (ak wK):=eI
abbrev wM:Stmt:=top 32
def Fg:az ["one","other"] ["one","other"] (ak wM):=eI
abbrev gK:Stmt:=top 44
def oZ:az ["thing","greatest"] ["thing","greatest"] (ak gK):=eI
abbrev kG:Stmt:=top 45
def uW:az ["marks"] ["marks"] (ak kG):=eI
abbrev gf:Stmt:=top 46
def d7:az ["rows","product","marks"] ["rows"] (ak gf):=eI
abbrev fm:Stmt:=inClass (top 47) 0
def pr:az ["self","most","cap","load"] ["self","most","cap","load"] (ak fm):=eI
abbrev gP:Stmt:=inClass (top 47) 1
def jg:az ["self","marks","rows"] ["self","marks"] (ak gP):=eI
abbrev gS:Stmt:=inClass (top 47) 2
def oW:az ["self","into","of","share"] ["self","into","of","share"] (ak gS):=eI
abbrev iJ:Stmt:=inClass (top 47) 3
def qh:az ["self","room","share","low","high"] ["self","room","share","low","high"] (ak iJ):=eI
abbrev eZ:Stmt:=inClass (top 47) 4
def nR:az ["self","room","heat","wood","stay","fails"] ["self","room","heat","wood","stay","fails"] (ak eZ):=eI
abbrev kC:Stmt:=inClass (top 47) 5
def vD:az ["self"] ["self"] (ak kC):=eI
abbrev j1:Stmt:=inClass (top 47) 6
def tN:az ["self","room"] ["self","room"] (ak j1):=eI
abbrev jC:Stmt:=inClass (top 47) 7
def tE:az ["self","into","of"] ["self","into","of"] (ak jC):=eI
abbrev mq:Stmt:=inClass (top 47) 8
def yY:az ["self","room"] ["self","room"] (ak mq):=eI
abbrev jX:Stmt:=inClass (top 47) 9
def tu:az ["self","room"] ["self","room"] (ak jX):=eI
abbrev gd:Stmt:=inClass (top 47) 10
def ek:az ["self","room","rest","other"] ["self","room"] (ak gd):=eI
abbrev gJ:Stmt:=inClass (top 47) 11
def oG:az ["self","room"] ["self","room"] (ak gJ):=eI
abbrev eT:Stmt:=inClass (top 47) 12
def f6:az ["self","room","share","former","free"] ["self","room","share","former"] (ak eT):=eI
abbrev i0:Stmt:=top 48
def nh:az ["hold","most","cap","load","like"] ["hold","most","cap","load"] (ak i0):=eI
abbrev fK:Stmt:=top 50
def bU:az ["pairs","top","bottom","one","other","below"] ["pairs"] (ak fK):=eI
abbrev kY:Stmt:=top 51
def n8:az ["hold","room","airs","weather","fired","pairs"] ["hold","room","airs","weather","fired"] (ak kY):=eI
abbrev pH:Stmt:=top 52
def iB:az ["hold","room","bands","fired","low","high","lows","highs"] ["hold","room","bands","fired"] (ak pH):=eI
abbrev Ni:Stmt:=top 53
abbrev rT:Stmt:=top 54
def ul:az ["hold","room","least","greatest","marks"] ["hold","room","least","greatest"] (ak rT):=eI
abbrev mJ:Stmt:=top 56
def eL:az ["hold","state","bands","burning","waits","failed","heap","many"] ["hold","state"] (ak mJ):=eI
abbrev kW:Stmt:=top 57
def e9:az ["hold","state","room","bands","burning","waits","failed","heap"] ["hold","state","room"] (ak kW):=eI
abbrev jR:Stmt:=top 58
def ja:az ["stove","fired","wait","failed","stay","fails"] ["stove","fired","wait","failed"] (ak jR):=eI
abbrev gO:Stmt:=top 59
def o5:az ["hold","state"] ["hold","state"] (ak gO):=eI
abbrev j6:Stmt:=top 60
def tP:az ["hold"] ["hold"] (ak j6):=eI
abbrev oE:Stmt:=top 61
def Bg:az ["hold","bits"] ["hold","bits"] (ak oE):=eI
abbrev kn:Stmt:=top 62
def wC:az ["state"] ["state"] (ak kn):=eI
abbrev mB:Stmt:=top 63
def w6:az ["hold","order","heap"] ["hold","order","heap"] (ak mB):=eI
abbrev lu:Stmt:=top 64
def jS:az ["hold","state","held","going_on"] ["hold","state"] (ak lu):=eI
abbrev mf:Stmt:=top 65
def ym:az ["hold","state","order"] ["hold","state","order"] (ak mf):=eI
abbrev oV:Stmt:=top 66
def sE:az ["hold","state","order","lit"] ["hold","state","order"] (ak oV):=eI
abbrev HD:Stmt:=top 67
abbrev EA:Stmt:=top 68
abbrev HR:Stmt:=top 69
abbrev EB:Stmt:=top 70
abbrev gG:Stmt:=inClass (top 72) 0
def px:az ["self","hold","state"] ["self","hold","state"] (ak gG):=eI
abbrev lR:Stmt:=inClass (top 72) 1
def Aw:az ["self","order","out","bands","warmths","room","least","greatest"] ["self","order","out","bands","warmths"] (ak lR):=eI
abbrev jM:Stmt:=inClass (top 72) 2
def dW:az ["self","order","out","warmths","room","warmth","least","greatest"] ["self","order","out","warmths"] (ak jM):=eI
abbrev j9:Stmt:=inClass (top 72) 3
def tQ:az ["self"] ["self"] (ak j9):=eI
abbrev jO:Stmt:=inClass (top 72) 4
def tI:az ["self"] ["self"] (ak jO):=eI
abbrev ik:Stmt:=inClass (top 72) 5
def qa:az ["self"] ["self"] (ak ik):=eI
abbrev kB:Stmt:=inClass (top 72) 6
def wg:az ["self","room","burning"] ["self","room","burning"] (ak kB):=eI
abbrev eO:Stmt:=inClass (top 72) 7
def f7:az ["self","order","out"] ["self","order","out"] (ak eO):=eI
abbrev d5:Stmt:=inClass (top 72) 8
def j4:az ["self","room","least","greatest","warmth"] ["self","room","least","greatest","warmth"] (ak d5):=eI
abbrev i6:Stmt:=top 74
def rP:az ["_law_script","_law_k"] ["_law_script","_law_k"] (ak i6):=eI
abbrev mn:Stmt:=top 75
def xQ:az ["_law_cell","_law_k","_law_many"] ["_law_cell","_law_k","_law_many"] (ak mn):=eI
abbrev lq:Stmt:=top 76
def eY:az ["_law_top","_law_bottom","_law_one","_law_other","_law_rest"] ["_law_top","_law_bottom"] (ak lq):=eI
abbrev kE:Stmt:=top 77
def jD:az ["_law_cell","_law_far","_law_some"] ["_law_cell"] (ak kE):=eI
abbrev mM:Stmt:=top 78
def lF:az ["_law_num","_law_parts","_law_scale_here","_law_whole"] ["_law_num","_law_parts","_law_scale_here"] (ak mM):=eI
abbrev ix:Stmt:=top 79
def gR:az ["_law_a","_law_b","_law_c","_law_room","_law_wood","_law_stay"] ["_law_a","_law_b","_law_c","_law_room"] (ak ix):=eI
abbrev kA:Stmt:=top 80
def cp:az ["_law_script","_law_a","_law_b","_law_c","_law_many","_law_told","_law_room","_law_marks","_law_j","_law_low","_law_of"] ["_law_script"] (ak kA):=eI
abbrev kD:Stmt:=top 81
def cP:az ["_law_told","_law_bounds","_law_scale_here","_law_hold","_law_marks","_law_room","_law_sky","_law_stove","_law_of"] ["_law_told"] (ak kD):=eI
abbrev il:Stmt:=top 82
def br:az ["_law_told","_law_cell","_law_k","_law_bands","_law_waits","_law_failed","_law_burning","_law_lit","_law_room","_law_stove","_law_wait","_law_fails"] ["_law_told","_law_cell","_law_k"] (ak il):=eI
abbrev mI:Stmt:=top 83
def cw:az ["_law_told","_law_room","_law_bands","_law_fired","_law_sky","_law_rest","_law_low","_law_high","_law_of","_law_part"] ["_law_told","_law_room","_law_bands","_law_fired"] (ak mI):=eI
abbrev rR:Stmt:=top 84
def Em:az ["_law_bits","_law_room"] ["_law_bits","_law_room"] (ak rR):=eI
abbrev kc:Stmt:=top 85
def dg:az ["_law_told","_law_state","_law_order","_law_many","_law_wood","_law_room"] ["_law_told","_law_state","_law_order"] (ak kc):=eI
abbrev kX:Stmt:=top 86
def eV:az ["_law_hold","_law_told","_law_state","_law_order","_law_out","_law_warmths","_law_inside","_law_room","_law_marks","_law_ends"] ["_law_hold","_law_told","_law_state","_law_order","_law_out","_law_warmths"] (ak kX):=eI
abbrev mj:Stmt:=top 87
def kR:az ["_law_e","_law_some"] ["_law_e"] (ak mj):=eI
abbrev ml:Stmt:=top 88
def cT:az ["_law_walk","_law_order","_law_out","_law_warmths","_law_sort_here","_law_e"] ["_law_walk","_law_order","_law_out","_law_warmths"] (ak ml):=eI
abbrev lh:Stmt:=top 89
def nA:az ["_law_walk","_law_order","_law_out","_law_bands","_law_warmths","_law_e"] ["_law_walk","_law_order","_law_out","_law_bands","_law_warmths"] (ak lh):=eI
abbrev gF:Stmt:=top 90
def jk:az ["_law_walk","_law_order","_law_out","_law_bands","_law_warmths","_law_more"] ["_law_walk","_law_order","_law_out","_law_bands","_law_warmths"] (ak gF):=eI
abbrev jQ:Stmt:=top 91
def b7:az ["_law_hold","_law_told","_law_state","_law_three","_law_k","_law_some","_law_order","_law_out","_law_warmths","_law_room","_law_fired","_law_ends","_law_way"] ["_law_hold","_law_told","_law_state","_law_three","_law_k"] (ak jQ):=eI
abbrev kO:Stmt:=top 92
def cF:az ["_law_hold","_law_told","_law_three","_law_k","_law_state","_law_walk","_law_order","_law_out","_law_warmths","_law_due","_law_exact","_law_found","_law_left_here"] ["_law_hold","_law_told","_law_three","_law_k"] (ak kO):=eI
abbrev Cf:Stmt:=top 93
def wE:az ["_law_script","_law_told","_law_hold","_law_k"] ["_law_script"] (ak Cf):=eI
structure Nw where
 bi:ag
 Walk:ag
 ma:ag
 lQ:ag
 e8:ag
 cW:ag
 o9:ag
 cE:ag
 oB:ag
 gz:ag
 gM:ag
 j8:ag
 ug:ag
 gD:ag
 gh:ag
 oQ:ag
 lv:ag
structure Txt (K:aC) (mg:bR) (A:Nw):Prop where
 FI:mg "Hold" = some (.ref A.bi)
 M4:mg "Walk" = some (.ref A.Walk)
 jK:mg "StokeError" = some (.ref A.ma)
 Dh:mg "NoState" = some (.ref A.lQ)
 uM:mg "NoOrder" = some (.ref A.e8)
 pL:mg "NoFailing" = some (.ref A.cW)
 F8:mg "NoRoom" = some (.ref A.o9)
 nZ:mg "NoTurn" = some (.ref A.cE)
 Ha:mg "NoBand" = some (.ref A.oB)
 uX:mg "Ended" = some (.ref A.gz)
 xL:mg "NotOut" = some (.ref A.gM)
 iF:mg "NOUGHT" = some (.ref A.j8)
 CB:mg "WHOLE" = some (.ref A.ug)
 DY:W.excIn K A.e8 [.type "ValueError",.type "Exception",.type "BaseException",.type "object"] "ValueError.__new__" = true
 xp:W.findIn K (.ref A.e8) "__getattribute__" = some (some (.builtin "BaseException.__getattribute__"))
 xG:W.findIn K (.ref A.e8) "__getattr__" = some none
 yS:W.findIn K (.ref A.e8) "__class__" = some (some (.builtin "object.__class__"))
 xy:W.mroIn K A.e8 (.type "object")=some true
 yu:W.mroIn K A.e8 (.type "BaseException")=some true
 yl:W.isClsIn K A.e8=true
 xJ:W.excIn K A.cW [.type "ValueError",.type "Exception",.type "BaseException",.type "object"] "ValueError.__new__" = true
 tK:W.findIn K (.ref A.cW) "__getattribute__" = some (some (.builtin "BaseException.__getattribute__"))
 tq:W.findIn K (.ref A.cW) "__getattr__" = some none
 tf:W.findIn K (.ref A.cW) "__class__" = some (some (.builtin "object.__class__"))
 tz:W.mroIn K A.cW (.type "object")=some true
 tR:W.mroIn K A.cW (.type "BaseException")=some true
 sU:W.isClsIn K A.cW=true
 Cn:W.excIn K A.gz [.type "ValueError",.type "Exception",.type "BaseException",.type "object"] "ValueError.__new__" = true
 Ea:W.findIn K (.ref A.gz) "__getattribute__" = some (some (.builtin "BaseException.__getattribute__"))
 DP:W.findIn K (.ref A.gz) "__getattr__" = some none
 CV:W.findIn K (.ref A.gz) "__class__" = some (some (.builtin "object.__class__"))
 Ep:W.mroIn K A.gz (.type "object")=some true
 Ef:W.mroIn K A.gz (.type "BaseException")=some true
 Eo:W.isClsIn K A.gz=true
 Gu:W.excIn K A.gM [.type "ValueError",.type "Exception",.type "BaseException",.type "object"] "ValueError.__new__" = true
 AA:W.findIn K (.ref A.gM) "__getattribute__" = some (some (.builtin "BaseException.__getattribute__"))
 zX:W.findIn K (.ref A.gM) "__getattr__" = some none
 Bp:W.findIn K (.ref A.gM) "__class__" = some (some (.builtin "object.__class__"))
 zA:W.mroIn K A.gM (.type "object")=some true
 Ae:W.mroIn K A.gM (.type "BaseException")=some true
 A6:W.isClsIn K A.gM=true
 xU:W.findIn K (.ref A.cE) "turn" = some none
 rj:W.hasDictIn K A.cE=true
 An:W.findIn K (.ref A.cE) "room" = some none
 qU:W.findIn K (.ref A.cE) "__setattr__" = some (some (.builtin "object.__setattr__"))
 nF:lT K A.cE=true
 zR:W.findIn K (.ref A.cE) "__getattribute__" = some (some (.builtin "BaseException.__getattribute__"))
 At:W.findIn K (.ref A.cE) "__getattr__" = some none
 A2:W.findIn K (.ref A.cE) "__class__" = some (some (.builtin "object.__class__"))
 Ac:W.mroIn K A.cE (.type "object")=some true
 zZ:W.mroIn K A.cE (.type "BaseException")=some true
 zL:W.isClsIn K A.cE=true
 gs:W.specialIn K (.builtin "object.__class__") "__get__" = some (some (.builtin "getset_descriptor.__get__"))
 tk:W.takesIn K (.builtin "object.__class__")=some true
 LW:BL K [A.e8,A.cW,A.cE,A.gM,A.gz] [.ref A.lQ,.ref A.oB,.ref A.o9] A.ma=true
 tF:∃ t,mg "LEAST_MARKS" = some (.int 2 t)
 u7:∃ t,mg "MOST_BANDS" = some (.int 400 t)
 sH:∃ t,mg "MOST_BURNING" = some (.int 4 t)
 zU:∃ t,mg "MOST_CAP" = some (.int 30 t)
 wm:∃ t,mg "MOST_FAILS" = some (.int 3 t)
 zc:∃ t,mg "MOST_LOAD" = some (.int 30 t)
 wj:∃ t,mg "MOST_MARKS" = some (.int 7 t)
 uU:∃ t,mg "MOST_ROOMS" = some (.int 4 t)
 xR:∃ t,mg "MOST_STAY" = some (.int 3 t)
 zb:∃ t,mg "MOST_WOOD" = some (.int 9 t)
 kz:zT K A.j8 [.int 0,.int 1]
 Cj:zT K A.ug [.int 1,.int 1]
 aI:tH K A.bi
 BP:Ja K A.bi
 h9:dZ K A.bi "most"
 lE:dZ K A.bi "cap"
 nW:dZ K A.bi "load"
 cq:dZ K A.bi "mark_rows"
 dX:dZ K A.bi "flows"
 cS:dZ K A.bi "skies"
 dD:dZ K A.bi "stoves"
 qm:eP K A.bi "__init__" "Hold.__init__" fm (.ref A.gD)
 qy:Bi K A.gD [.int 4,.int 0,.int 0]
 qd:eP K A.bi "put_room" "Hold.put_room" gP .none
 p8:eP K A.bi "put_flow" "Hold.put_flow" gS .none
 rN:eP K A.bi "put_sky" "Hold.put_sky" iJ .none
 oY:eP K A.bi "put_stove" "Hold.put_stove" eZ (.ref A.gh)
 oU:Bi K A.gh [.int 0,.int 0,.int 0]
 xK:eP K A.bi "many" "Hold.many" kC .none
 wH:eP K A.bi "marks" "Hold.marks" j1 .none
 vZ:eP K A.bi "share" "Hold.share" jC .none
 Ai:eP K A.bi "sky" "Hold.sky" mq .none
 vS:eP K A.bi "stove" "Hold.stove" jX .none
 pd:eP K A.bi "own_share" "Hold.own_share" gd .none
 qo:eP K A.bi "look_for" "Hold.look_for" gJ .none
 kZ:eP K A.bi "look_at_share" "Hold.look_at_share" eT .none
 bE:tH K A.Walk
 Je:Ja K A.Walk
 fN:dZ K A.Walk "hold"
 fi:dZ K A.Walk "place"
 fL:dZ K A.Walk "gone"
 dR:dZ K A.Walk "ended"
 qk:eP K A.Walk "__init__" "Walk.__init__" gG .none
 Ev:eP K A.Walk "go" "Walk.go" lR (.ref A.oQ)
 Er:Bi K A.oQ [.bL]
 n6:eP K A.Walk "leave" "Walk.leave" jM .none
 vF:eP K A.Walk "state" "Walk.state" j9 .none
 v6:eP K A.Walk "turns" "Walk.turns" jO .none
 sv:eP K A.Walk "is_left" "Walk.is_left" ik .none
 ye:eP K A.Walk "span" "Walk.span" kB .none
 gB:eP K A.Walk "look_at_order" "Walk.look_at_order" eO .none
 kh:eP K A.Walk "look_at_warmth" "Walk.look_at_warmth" d5 .none
 FY:Mj K A.cE "NoTurn.__init__" d8
 Az:fZ K mg "has_room" mh
 xN:fZ K mg "with_room" kP
 AN:fZ K mg "how_many" l9
 CL:fZ K mg "members" o8
 Di:fZ K mg "subsets" oC
 DV:fZ K mg "bits_of" oR
 Dq:fZ K mg "divisor" ph
 AD:fZ K mg "fraction" mE
 LZ:fZ K mg "plus" Ar
 Ix:fZ K mg "minus" wK
 JC:fZ K mg "under" wM
 qx:fZ K mg "is_whole_upto" gK
 xj:fZ K mg "is_rising" kG
 oX:fZ K mg "bands_together" gf
 yC:Jo K mg "hold_like" i0 (.ref A.lv)
 xg:Bi K A.lv [.bL,.bL,.bL]
 oA:fZ K mg "sum_of_products" fK
 yK:fZ K mg "warmth_of" kY
 Dw:fZ K mg "span_of" pH
 ET:fZ K mg "within" rT
 Ak:fZ K mg "is_state" mJ
 ya:fZ K mg "fits_room" kW
 wa:fZ K mg "fits_stove" jR
 qp:fZ K mg "look_at_state" gO
 wB:fZ K mg "with_stove" j6
 D3:fZ K mg "wood_of" oE
 zd:fZ K mg "must_stay" kn
 Bm:fZ K mg "can_burn" mB
 zh:fZ K mg "orders_of" lu
 AE:fZ K mg "may_fail" mf
 Es:fZ K mg "failing" oV
 t5:fZ K mg "_law_cell_at" i6
 AY:fZ K mg "_law_pick" mn
 yA:fZ K mg "_law_ratio" lq
 xM:fZ K mg "_law_scale" kE
 Au:fZ K mg "_law_warm" mM
 su:fZ K mg "_law_stove_by" ix
 xz:fZ K mg "_law_drawn" kA
 yR:fZ K mg "_law_built" kD
 rA:fZ K mg "_law_state_by" il
 zD:fZ K mg "_law_span" mI
 Hn:fZ K mg "_law_in" rR
 vh:fZ K mg "_law_allows" kc
 yh:fZ K mg "_law_fault" kX
 Ao:fZ K mg "_law_sort" mj
 qY:fZ K mg "_law_left" ml
 wU:fZ K mg "_law_ended" lh
 p6:fZ K mg "_law_ended_all" gF
 vf:fZ K mg "_law_choice" jQ
 wW:fZ K mg "_law_right" kO
 QG:fZ K mg "law" Cf
 vH:mg "ValueError" = none
 Gh:mg "abs" = none
 GU:mg "all" = none
 Gw:mg "bool" = none
 Mv:mg "dict" = none
 fB:mg "enumerate" = none
 Kh:mg "int" = none
 cf:mg "isinstance" = none
 fA:mg "len" = none
 rM:mg "list" = none
 PD:mg "max" = none
 cZ:mg "range" = none
 Of:mg "sum" = none
 qE:mg "tuple" = none
 NW:mg "zip" = none
abbrev rh (K:aC) (C:ag) (x y:Str) (s:Stmt) (v:aq):Prop:=∃ f b c d e g h i j n,W.findIn K (.ref C) x=some (some (.ref f))/\W.isFn K (.ref f)=true/\K.lookup f=some ⟨b,c,.func (W.fnOf x y (cg s) (bg s) (ak s) v d e g h i j),n⟩/\W.codeIn K i y=true/\W.keepIn K (.ref f)=true
abbrev gC (K:aC) (x:Str) (s:Stmt) (v:aq):Prop:=∃ f b c d e g h i j n,W.nsIn K mainGlobals x=some (some (.ref f))/\K.lookup f=some ⟨b,c,.func (W.fnOf x x (cg s) (bg s) (ak s) v d e g h i j),n⟩/\W.codeIn K i x=true/\W.keepIn K (.ref f)=true
def iL {K:aC} {C:ag} {x y:Str} {s:Stmt} {v:aq} (q:rh K C x y s v):eP K C x y s v:=by
 obtain ⟨f,Z,Z,Z,Z,Z,Z,Z,Z,Z,a,b,c,d,e⟩:=q
 exact ⟨f,_,⟨a,b,e⟩,wA (st:=s) c d e⟩
def Vu {K:aC} {h:aO} {m:Str->iO} (X:K.In h) (G:h.Ns mainGlobals m) {x:Str} {s:Stmt} {v:aq} (q:gC K x s v):Jo K m x s v:=by
 obtain ⟨f,Z,Z,Z,Z,Z,Z,Z,Z,Z,a,c,d,e⟩:=q
 exact ⟨f,_,abw X G a,wA (st:=s) c d e⟩
def cR {K:aC} {h:aO} {m:Str->iO} (X:K.In h) (G:h.Ns mainGlobals m) {x:Str} {s:Stmt} (q:gC K x s .none):fZ K m x s:=by
 obtain ⟨f,Z,Z,Z,Z,Z,Z,Z,Z,Z,a,c,d,e⟩:=q
 exact ⟨f,_,abw X G a,K7 (st:=s) c d e⟩
abbrev kq_ (K:W.Frag) (a:Addr):Prop:=W.keepIn K (.ref a)=true
abbrev kc_ (K:W.Frag) (a:Value) (x:Str):Prop:=W.codeIn K a x=true
abbrev kf_ (K:W.Frag) (a:Addr) (b:Value) (c:Option Addr) (x y:Str) (s:Stmt) (d e f:Value) (g:Option Addr) (h i:Value) (n:Array (Option Value)):Prop:=K.lookup a=some ⟨b,c,.func (W.fnOf x y (cg s) (bg s) (ak s) .none d e f g h i),n⟩
abbrev kn_ (K:W.Frag) (x:Str) (a:Addr):Prop:=W.nsIn K mainGlobals x=some (some (.ref a))
abbrev kg_ (K:W.Frag) (a:Addr) (x:Str) (b:Addr):Prop:=W.findIn K (.ref a) x=some (some (.ref b))
def txt_mk {K:aC} {h:aO} {mg:bR} (X:K.In h) (G:h.Ns mainGlobals mg)
 {a b j k d e l c m f g n o p q r i s:ag}
 {u v w x y z A B C D E F H I J L M N O P:Tok}
 {Q R S T U V Y Z:Option ag}
 {aa ab ac ad ae af:Nat}
 {ah ai aj ak al am an:Array (iO)}
 {ao ap ar au av aw ax t ay az:aq}
 (aA:kn_ K "Hold" a)
 (aB:kn_ K "Walk" b)
 (aD:kn_ K "StokeError" j)
 (aE:kn_ K "NoState" k)
 (aF:kn_ K "NoOrder" d)
 (aG:kn_ K "NoFailing" e)
 (aH:kn_ K "NoRoom" l)
 (aI:kn_ K "NoTurn" c)
 (aJ:kn_ K "NoBand" m)
 (aK:kn_ K "Ended" f)
 (aL:kn_ K "NotOut" g)
 (aM:kn_ K "NOUGHT" n)
 (aN:kn_ K "WHOLE" o)
 (aP:W.excIn K d [.type "ValueError",.type "Exception",.type "BaseException",.type "object"] "ValueError.__new__" = true)
 (aQ:W.findIn K (.ref d) "__getattribute__" = some (some (.builtin "BaseException.__getattribute__")))
 (aR:W.findIn K (.ref d) "__getattr__" = some none)
 (aS:W.findIn K (.ref d) "__class__" = some (some (.builtin "object.__class__")))
 (aT:W.mroIn K d (.type "object")=some true)
 (aU:W.mroIn K d (.type "BaseException")=some true)
 (aV:W.isClsIn K d=true)
 (aW:W.excIn K e [.type "ValueError",.type "Exception",.type "BaseException",.type "object"] "ValueError.__new__" = true)
 (aX:W.findIn K (.ref e) "__getattribute__" = some (some (.builtin "BaseException.__getattribute__")))
 (aY:W.findIn K (.ref e) "__getattr__" = some none)
 (aZ:W.findIn K (.ref e) "__class__" = some (some (.builtin "object.__class__")))
 (a0:W.mroIn K e (.type "object")=some true)
 (a1:W.mroIn K e (.type "BaseException")=some true)
 (a2:W.isClsIn K e=true)
 (a3:W.excIn K f [.type "ValueError",.type "Exception",.type "BaseException",.type "object"] "ValueError.__new__" = true)
 (a4:W.findIn K (.ref f) "__getattribute__" = some (some (.builtin "BaseException.__getattribute__")))
 (a5:W.findIn K (.ref f) "__getattr__" = some none)
 (a6:W.findIn K (.ref f) "__class__" = some (some (.builtin "object.__class__")))
 (a7:W.mroIn K f (.type "object")=some true)
 (a8:W.mroIn K f (.type "BaseException")=some true)
 (a9:W.isClsIn K f=true)
 (ba:W.excIn K g [.type "ValueError",.type "Exception",.type "BaseException",.type "object"] "ValueError.__new__" = true)
 (bb:W.findIn K (.ref g) "__getattribute__" = some (some (.builtin "BaseException.__getattribute__")))
 (bc:W.findIn K (.ref g) "__getattr__" = some none)
 (bd:W.findIn K (.ref g) "__class__" = some (some (.builtin "object.__class__")))
 (be:W.mroIn K g (.type "object")=some true)
 (bf:W.mroIn K g (.type "BaseException")=some true)
 (bg:W.isClsIn K g=true)
 (bh:W.findIn K (.ref c) "turn" = some none)
 (bi:W.hasDictIn K c=true)
 (bj:W.findIn K (.ref c) "room" = some none)
 (bk:W.findIn K (.ref c) "__setattr__" = some (some (.builtin "object.__setattr__")))
 (bl:lT K c=true)
 (bm:W.findIn K (.ref c) "__getattribute__" = some (some (.builtin "BaseException.__getattribute__")))
 (bn:W.findIn K (.ref c) "__getattr__" = some none)
 (bo:W.findIn K (.ref c) "__class__" = some (some (.builtin "object.__class__")))
 (bp:W.mroIn K c (.type "object")=some true)
 (bq:W.mroIn K c (.type "BaseException")=some true)
 (br:W.isClsIn K c=true)
 (bs:W.specialIn K (.builtin "object.__class__") "__get__" = some (some (.builtin "getset_descriptor.__get__")))
 (bt:W.takesIn K (.builtin "object.__class__")=some true)
 (bu:BL K [d,e,c,g,f] [.ref k,.ref m,.ref l] j=true)
 (bv:W.nsIn K mainGlobals "LEAST_MARKS" = some (some (.int 2 u)))
 (bw:W.nsIn K mainGlobals "MOST_BANDS" = some (some (.int 400 v)))
 (bx:W.nsIn K mainGlobals "MOST_BURNING" = some (some (.int 4 w)))
 (bz:W.nsIn K mainGlobals "MOST_CAP" = some (some (.int 30 x)))
 (bA:W.nsIn K mainGlobals "MOST_FAILS" = some (some (.int 3 y)))
 (bB:W.nsIn K mainGlobals "MOST_LOAD" = some (some (.int 30 z)))
 (bC:W.nsIn K mainGlobals "MOST_MARKS" = some (some (.int 7 A)))
 (bD:W.nsIn K mainGlobals "MOST_ROOMS" = some (some (.int 4 B)))
 (bE:W.nsIn K mainGlobals "MOST_STAY" = some (some (.int 3 C)))
 (bF:W.nsIn K mainGlobals "MOST_WOOD" = some (some (.int 9 D)))
 (bG:K.lookup n=some ⟨.type "tuple",Q,.seq #[.int 0 E,.int 1 F] aa,ah⟩)
 (bH:K.lookup o=some ⟨.type "tuple",R,.seq #[.int 1 H,.int 1 I] ab,ai⟩)
 (bI:W.plainGet K a Str.empty=true)
 (bJ:W.hasDictIn K a=true)
 (bK:W.plainOver K a=true)
 (bL:W.findIn K (.ref a) "__setattr__" = some (some (.builtin "object.__setattr__")))
 (bM:W.makesIn K a=true)
 (bN:kq_ K a)
 (bO:W.findIn K (.ref a) "most" = some none)
 (bP:W.findIn K (.ref a) "cap" = some none)
 (bQ:W.findIn K (.ref a) "load" = some none)
 (bS:W.findIn K (.ref a) "mark_rows" = some none)
 (bT:W.findIn K (.ref a) "flows" = some none)
 (bU:W.findIn K (.ref a) "skies" = some none)
 (bV:W.findIn K (.ref a) "stoves" = some none)
 (bW:rh K a "__init__" "Hold.__init__" fm (.ref p))
 (bX:K.lookup p=some ⟨ao,S,.seq #[.int 4 J,.int 0 L,.int 0 M] ac,aj⟩)
 (bY:rh K a "put_room" "Hold.put_room" gP .none)
 (bZ:rh K a "put_flow" "Hold.put_flow" gS .none)
 (b0:rh K a "put_sky" "Hold.put_sky" iJ .none)
 (b1:rh K a "put_stove" "Hold.put_stove" eZ (.ref q))
 (b2:K.lookup q=some ⟨ap,T,.seq #[.int 0 N,.int 0 O,.int 0 P] ad,ak⟩)
 (b3:rh K a "many" "Hold.many" kC .none)
 (b4:rh K a "marks" "Hold.marks" j1 .none)
 (b5:rh K a "share" "Hold.share" jC .none)
 (b6:rh K a "sky" "Hold.sky" mq .none)
 (b7:rh K a "stove" "Hold.stove" jX .none)
 (b8:rh K a "own_share" "Hold.own_share" gd .none)
 (b9:rh K a "look_for" "Hold.look_for" gJ .none)
 (ca:rh K a "look_at_share" "Hold.look_at_share" eT .none)
 (cb:W.plainGet K b Str.empty=true)
 (cc:W.hasDictIn K b=true)
 (cd:W.plainOver K b=true)
 (ce:W.findIn K (.ref b) "__setattr__" = some (some (.builtin "object.__setattr__")))
 (cf:W.makesIn K b=true)
 (cg:kq_ K b)
 (ch:W.findIn K (.ref b) "hold" = some none)
 (ci:W.findIn K (.ref b) "place" = some none)
 (cj:W.findIn K (.ref b) "gone" = some none)
 (ck:W.findIn K (.ref b) "ended" = some none)
 (cl:rh K b "__init__" "Walk.__init__" gG .none)
 (cm:rh K b "go" "Walk.go" lR (.ref r))
 (cn:K.lookup r=some ⟨ar,U,.seq #[.none] ae,al⟩)
 (co:rh K b "leave" "Walk.leave" jM .none)
 (cp:rh K b "state" "Walk.state" j9 .none)
 (cq:rh K b "turns" "Walk.turns" jO .none)
 (cr:rh K b "is_left" "Walk.is_left" ik .none)
 (cs:rh K b "span" "Walk.span" kB .none)
 (ct:rh K b "look_at_order" "Walk.look_at_order" eO .none)
 (cu:rh K b "look_at_warmth" "Walk.look_at_warmth" d5 .none)
 (dG:kg_ K c "__init__" i)
 (cv:kf_ K i au V "__init__" "NoTurn.__init__" d8 av aw ax Y t ay am)
 (cw:kc_ K t "NoTurn.__init__")
 (cx:kq_ K i)
 (cy:W.typeIn K (.ref i)=some (.type "function"))
 (cz:vv K c i L6 "ValueError.__new__" = true)
 (cA:gC K "has_room" mh .none)
 (cB:gC K "with_room" kP .none)
 (cC:gC K "how_many" l9 .none)
 (cD:gC K "members" o8 .none)
 (cE:gC K "subsets" oC .none)
 (cF:gC K "bits_of" oR .none)
 (cG:gC K "divisor" ph .none)
 (cH:gC K "fraction" mE .none)
 (cI:gC K "plus" Ar .none)
 (cJ:gC K "minus" wK .none)
 (cK:gC K "under" wM .none)
 (cL:gC K "is_whole_upto" gK .none)
 (cM:gC K "is_rising" kG .none)
 (cN:gC K "bands_together" gf .none)
 (cO:gC K "hold_like" i0 (.ref s))
 (cP:K.lookup s=some ⟨az,Z,.seq #[.none,.none,.none] af,an⟩)
 (cQ:gC K "sum_of_products" fK .none)
 (cS:gC K "warmth_of" kY .none)
 (cT:gC K "span_of" pH .none)
 (cU:gC K "within" rT .none)
 (cV:gC K "is_state" mJ .none)
 (cW:gC K "fits_room" kW .none)
 (cX:gC K "fits_stove" jR .none)
 (cY:gC K "look_at_state" gO .none)
 (cZ:gC K "with_stove" j6 .none)
 (c0:gC K "wood_of" oE .none)
 (c1:gC K "must_stay" kn .none)
 (c2:gC K "can_burn" mB .none)
 (c3:gC K "orders_of" lu .none)
 (c4:gC K "may_fail" mf .none)
 (c5:gC K "failing" oV .none)
 (c6:gC K "_law_cell_at" i6 .none)
 (c7:gC K "_law_pick" mn .none)
 (c8:gC K "_law_ratio" lq .none)
 (c9:gC K "_law_scale" kE .none)
 (da:gC K "_law_warm" mM .none)
 (db:gC K "_law_stove_by" ix .none)
 (dc:gC K "_law_drawn" kA .none)
 (dd:gC K "_law_built" kD .none)
 (de:gC K "_law_state_by" il .none)
 (df:gC K "_law_span" mI .none)
 (dg:gC K "_law_in" rR .none)
 (dh:gC K "_law_allows" kc .none)
 (di:gC K "_law_fault" kX .none)
 (dj:gC K "_law_sort" mj .none)
 (dk:gC K "_law_left" ml .none)
 (dl:gC K "_law_ended" lh .none)
 (dm:gC K "_law_ended_all" gF .none)
 (dn:gC K "_law_choice" jQ .none)
 (dp:gC K "_law_right" kO .none)
 (dq:gC K "law" Cf .none)
 (dr:W.nsIn K mainGlobals "ValueError" = some none)
 (ds:W.nsIn K mainGlobals "abs" = some none)
 (dt:W.nsIn K mainGlobals "all" = some none)
 (du:W.nsIn K mainGlobals "bool" = some none)
 (dv:W.nsIn K mainGlobals "dict" = some none)
 (dw:W.nsIn K mainGlobals "enumerate" = some none)
 (dx:W.nsIn K mainGlobals "int" = some none)
 (dy:W.nsIn K mainGlobals "isinstance" = some none)
 (dz:W.nsIn K mainGlobals "len" = some none)
 (dA:W.nsIn K mainGlobals "list" = some none)
 (dB:W.nsIn K mainGlobals "max" = some none)
 (dC:W.nsIn K mainGlobals "range" = some none)
 (dD:W.nsIn K mainGlobals "sum" = some none)
 (dE:W.nsIn K mainGlobals "tuple" = some none)
 (dF:W.nsIn K mainGlobals "zip" = some none)
 : Txt K mg ⟨a,b,j,k,d,e,l,c,m,f,g,n,o,p,q,r,s⟩ :=
⟨abw X G aA,
abw X G aB,
abw X G aD,
abw X G aE,
abw X G aF,
abw X G aG,
abw X G aH,
abw X G aI,
abw X G aJ,
abw X G aK,
abw X G aL,
abw X G aM,
abw X G aN,
aP,
aQ,
aR,
aS,
aT,
aU,
aV,
aW,
aX,
aY,
aZ,
a0,
a1,
a2,
a3,
a4,
a5,
a6,
a7,
a8,
a9,
ba,
bb,
bc,
bd,
be,
bf,
bg,
bh,
bi,
bj,
bk,
bl,
bm,
bn,
bo,
bp,
bq,
br,
bs,
bt,
bu,
⟨_,abw X G bv⟩,
⟨_,abw X G bw⟩,
⟨_,abw X G bx⟩,
⟨_,abw X G bz⟩,
⟨_,abw X G bA⟩,
⟨_,abw X G bB⟩,
⟨_,abw X G bC⟩,
⟨_,abw X G bD⟩,
⟨_,abw X G bE⟩,
⟨_,abw X G bF⟩,
KU bG,
KU bH,
⟨bI,bJ,bK,bL⟩,
⟨bM,bN⟩,
bO,
bP,
bQ,
bS,
bT,
bU,
bV,
iL bW,
⟨_,_,_,bX,rfl,(.cons ⟨_,rfl⟩ (.cons ⟨_,rfl⟩ (.cons ⟨_,rfl⟩ .nil)))⟩,
iL bY,
iL bZ,
iL b0,
iL b1,
⟨_,_,_,b2,rfl,(.cons ⟨_,rfl⟩ (.cons ⟨_,rfl⟩ (.cons ⟨_,rfl⟩ .nil)))⟩,
iL b3,
iL b4,
iL b5,
iL b6,
iL b7,
iL b8,
iL b9,
iL ca,
⟨cb,cc,cd,ce⟩,
⟨cf,cg⟩,
ch,
ci,
cj,
ck,
iL cl,
iL cm,
⟨_,_,_,cn,rfl,(.cons rfl .nil)⟩,
iL co,
iL cp,
iL cq,
iL cr,
iL cs,
iL ct,
iL cu,
⟨i,_,Jp cz cy,wA (st:=d8) cv cw cx⟩,
cR X G cA,
cR X G cB,
cR X G cC,
cR X G cD,
cR X G cE,
cR X G cF,
cR X G cG,
cR X G cH,
cR X G cI,
cR X G cJ,
cR X G cK,
cR X G cL,
cR X G cM,
cR X G cN,
Vu X G cO,
⟨_,_,_,cP,rfl,(.cons rfl (.cons rfl (.cons rfl .nil)))⟩,
cR X G cQ,
cR X G cS,
cR X G cT,
cR X G cU,
cR X G cV,
cR X G cW,
cR X G cX,
cR X G cY,
cR X G cZ,
cR X G c0,
cR X G c1,
cR X G c2,
cR X G c3,
cR X G c4,
cR X G c5,
cR X G c6,
cR X G c7,
cR X G c8,
cR X G c9,
cR X G da,
cR X G db,
cR X G dc,
cR X G dd,
cR X G de,
cR X G df,
cR X G dg,
cR X G dh,
cR X G di,
cR X G dj,
cR X G dk,
cR X G dl,
cR X G dm,
cR X G dn,
cR X G dp,
cR X G dq,
aa6 X G dr,
aa6 X G ds,
aa6 X G dt,
aa6 X G du,
aa6 X G dv,
aa6 X G dw,
aa6 X G dx,
aa6 X G dy,
aa6 X G dz,
aa6 X G dA,
aa6 X G dB,
aa6 X G dC,
aa6 X G dD,
aa6 X G dE,
aa6 X G dF⟩
section
variable {P:bh} {w:bf} {K:aC} {mg:bR} {base:aO} {Ad:Nw}
def Aa {lo:Int} {n:Nat} {g:TG} {tb:TS} {D:Ends} {U:L2.St} {H:Hp} (b:Nat->L2.St->Hp->Prop) (e:b 0 U H)
   (k:∀ (bk:L2.St->Hp->Prop) (rt:VK) (i:Nat) (U:L2.St) (H:Hp),i<n->b i U H->g (.int (lo+i)) U H λ a d=>tb ⟨b (i+1),rt,bk,b (i+1)⟩ a d) (f:∀ U H,b n U H->D.nx U H) :
   ∃ W:Nat->Nat->L2.St->Hp->Prop,(∃ m,W 0 m U H)/\∀ i m U H,W i m U H ->
     ((EG lo n).stop i H/\D.nx U H)\/((EG lo n).go i H/\∃ N:L2.St->Hp->Prop,(∀ c h,N c h->∃ m',m'<m/\W (i+1) m' c h)/\∀ x h,(EG lo n).Ey i H x h->g x U h λ a d=>tb { D with nx:=N,ct:=N,bk:=D.nx } a d) :=
 lJ b e (λ i U H j p=>k D.nx D.rt i U H j p) f
def uj {K:aC} {a:ag} {xs:aA} {g:TG} {tb:TS} {D:Ends} {U:L2.St} {H:Hp} (b:Nat->L2.St->Hp->Prop) (f:b 0 U H) (k:∀ i U H,i<=xs.length->b i U H->bw K H a xs)
   (l:∀ (bk:L2.St->Hp->Prop) (rt:VK) (i:Nat) (x:V) (U:L2.St) (H:Hp),xs[i]?=some x->b i U H->g x U H λ c e=>tb ⟨b (i+1),rt,bk,b (i+1)⟩ c e) (j:∀ U H,b xs.length U H->D.nx U H) :
   ∃ W:Nat->Nat->L2.St->Hp->Prop,(∃ m,W 0 m U H)/\∀ i m U H,W i m U H ->
     ((Ht K a).stop i H/\D.nx U H)\/((Ht K a).go i H/\∃ N:L2.St->Hp->Prop,(∀ d h,N d h->∃ m',m'<m/\W (i+1) m' d h)/\∀ x h,(Ht K a).Ey i H x h->g x U h λ c e=>tb { D with nx:=N,ct:=N,bk:=D.nx } c e) :=
 lB b f k (λ i x U H n p=>l D.nx D.rt i x U H n p) j
def iG {lo:Int} {n:Nat} {g:TG} {tb:TS} {D:Ends} {U:L2.St} {H:Hp} (p:Nat->L2.St->Hp->Prop) (b:p 0 U H) (d:let G:Nat->L2.St->Hp->Prop:=λ i U H=>g (.int (lo+i)) U H λ a h=>tb { D with nx:=p (i+1),ct:=p (i+1),bk:=D.nx } a h
   ∀ (i:Nat) (U:L2.St) (H:Hp),i<n->p i U H->G i U H) (c:∀ U H,p n U H->D.nx U H):=lJ (lo:=lo) (n:=n) (g:=g) (tb:=tb) (D:=D) (U:=U) (H:=H) p b d c
def uJ {K:aC} {a:ag} {xs:aA} {g:TG} {tb:TS} {D:Ends} {U:L2.St} {H:Hp} (p:Nat->L2.St->Hp->Prop) (c:p 0 U H) (e:∀ i U H,i<=xs.length->p i U H->bw K H a xs) (f:let G:Nat->V->L2.St->Hp->Prop:=λ i x U H=>g x U H λ b h=>tb { D with nx:=p (i+1),ct:=p (i+1),bk:=D.nx } b h
   ∀ (i:Nat) (x:V) (U:L2.St) (H:Hp),xs[i]?=some x->p i U H->G i x U H) (d:∀ U H,p xs.length U H->D.nx U H):=lB (K:=K) (a:=a) (xs:=xs) (g:=g) (tb:=tb) (D:=D) (U:=U) (H:=H) p c e f d
def fE {lo:Int} {n:Nat} {g:TG} {tb:TS} {D:Ends} {U:L2.St} {H:Hp} (p:Nat->L2.St->Hp->Prop) (b:p 0 U H) (d:let G:(L2.St->Hp->Prop)->VK->Nat->L2.St->Hp->Prop:=λ bk rt i U H=>g (.int (lo+i)) U H λ a h=>tb ⟨p (i+1),rt,bk,p (i+1)⟩ a h
   ∀ (bk:L2.St->Hp->Prop) (rt:VK) (i:Nat) (U:L2.St) (H:Hp),i<n->p i U H->G bk rt i U H) (c:∀ U H,p n U H->D.nx U H):=Aa (lo:=lo) (n:=n) (g:=g) (tb:=tb) (D:=D) (U:=U) (H:=H) p b d c
def My {K:aC} {a:ag} {xs:aA} {g:TG} {tb:TS} {D:Ends} {U:L2.St} {H:Hp} (p:Nat->L2.St->Hp->Prop) (c:p 0 U H) (e:∀ i U H,i<=xs.length->p i U H->bw K H a xs) (f:let G:(L2.St->Hp->Prop)->VK->Nat->V->L2.St->Hp->Prop:=λ bk rt i x U H=>g x U H λ b h=>tb ⟨p (i+1),rt,bk,p (i+1)⟩ b h
   ∀ (bk:L2.St->Hp->Prop) (rt:VK) (i:Nat) (x:V) (U:L2.St) (H:Hp),xs[i]?=some x->p i U H->G bk rt i x U H) (d:∀ U H,p xs.length U H->D.nx U H):=uj (K:=K) (a:=a) (xs:=xs) (g:=g) (tb:=tb) (D:=D) (U:=U) (H:=H) p c e f d
def zV (T:Txt K mg Ad):Def P w K mg base "divisor" 1 ["one","other"] MV:=by
 refine T.Dq.cX gl λ Z Z Z Z Z H V Q E v h=>?_
 obtain ⟨a,b,rfl,k⟩:=h
 refine ⟨_,(af (cL (i:=2) gl.nd (aT oM (by rfl) T.Gh zH (aa (pv 0) ac)))
     (af (cL (i:=3) gl.nd (aT oM (by rfl) T.Gh zH (aa (pv 1) ac)))
     (af (xB aaH (aQ gx (pv 3) ah (aN _)) (af (cL (i:=4) gl.nd (aB gu (pv 2) (pv 3)))
     (af (cL (i:=2) gl.nd (pv 3))
     (ao (cL (i:=3) gl.nd (pv 4))))))
     (ao (aJ (pv 2)))))),?_⟩
 try dsimp only [dY,aV]
 try (refine db ?_;intro Z Z Z Z Z)
 refine ⟨_,rfl,_,rfl,λ G o=>⟨_,rfl,_,rfl,λ u p=>?_⟩⟩
 refine ⟨λ m U d=>d=H/\E3 λ (g l:Int) (r:fH)=>A5 (U=[some (.int a),some (.int b),some (.int g),some (.int l),r]) (0<=g) (0<=l) (m=l.toNat) (Int.gcd g l=Int.gcd a b),
   ⟨_,rfl,G,u,none,rfl,by lia,by lia,rfl,by rw [o,p];rfl⟩,?_⟩
 rintro m U d ⟨rfl,g,l,r,rfl,f,t,rfl,e⟩
 refine ⟨_,rfl,rfl,_,rfl,?_⟩
 refine xo (λ h=>?_) (λ h=>?_)
 .
  have L:0<l:=by rw [eD] at h;lia
  refine ⟨λ c q=>q=d/\c=[some (.int a),some (.int b),some (.int l),some (.int (g % l)),some (.int (g % l))],λ c q ⟨j,n⟩=>?_,?_⟩
  . have M:=adm g (by lia:l≠0)
    have x:=acZ g L
    exact ⟨(g % l).toNat,by lia,j,l,g % l,_,n,t,M,rfl,(KB f L).trans e⟩
  . refine ⟨_,rfl,_,rfl,_,_,rfl,rfl,L,λ r Z Z s=>?_⟩
    subst s
    exact ⟨_,rfl,_,rfl,rfl,rfl⟩
 .
  have L:l=0:=eD.mp h
  subst L
  refine ⟨_,rfl,k g ?_⟩
  rw [<- e,OV f]
def ln (T:Txt K mg Ad):Def P w K mg base "fraction" 2 ["top","bottom"] yG:=by
 refine T.AD.cX kq λ Z Z Z Z Z H V Q E x h=>?_
 obtain ⟨t,b,rfl,j,l,k⟩:=h
 refine ⟨_,(af (bA (aQ gY (pv 1) ah (aN _)) (ao bH) aL)
     (af (cL (i:=2) kq.nd (ap (zV T) x.m (aa (pv 0) (aa (pv 1) ac))))
     (af (oT (bA (aQ nj (pv 1) ah (aN _)) (ao (cL (i:=2) kq.nd (rg wu (pv 2)))) aL))
     (ao (aJ (bI (aa (aB gA (pv 0) (pv 2)) (aa (aB gA (pv 1) (pv 2)) ac)))))))),?_⟩
 try dsimp only [dY,aV]
 try (refine db ?_;intro Z Z Z Z Z)
 refine ⟨_,rfl,rfl,_,rfl,?_⟩
 refine mr (λ e=>j (eD.mp e)) ?_
 refine ⟨_,rfl,_,rfl,t,b,rfl,λ c n=>?_⟩
 obtain ⟨y,z,F,fn⟩:=Hs j n
 have B:Bd 8999 c:=(l.le (by lia)).mono (by decide)
 refine ⟨λ a d=>d=H/\∃ C,A4 (C≠0) (Bd 8999 C) (Fr t b (t.fdiv C) (b.fdiv C)) (a=[some (.int t),some (.int b),some (.int C)]),?_,?_⟩
 .
  refine ⟨_,rfl,_,_,rfl,rfl,_,rfl,?_⟩
  refine i5 (λ h=>?_) (λ h=>?_)
  . exact ⟨_,rfl,_,rfl,rfl,-c,by lia,B.neg,fn h,rfl⟩
  . exact ⟨rfl,c,by lia,B,F (by lia),rfl⟩
 .
  rintro a d ⟨rfl,C,f,g,u,rfl⟩
  refine ⟨_,rfl,_,rfl,_,_,rfl,rfl,⟨f,g⟩,λ q o=>⟨_,rfl,_,rfl,_,_,rfl,rfl,⟨f,g⟩,λ r s=>⟨qv,λ p v=>?_⟩⟩⟩
  subst o s
  exact k _ _ p _ u (am v) ai
def Kc (T:Txt K mg Ad):Def P w K mg base "plus" 3 ["one","other"] (xY (λ a b c d=>a * d+c * b) K):=by
 refine T.LZ.cX JS λ Z Z Z Z Z H V Q E r h=>?_
 obtain ⟨s,v,a,b,c,d,rfl,f,g,i,D,j,B,l,e,k⟩:=h
 refine ⟨_,(ao (aJ (ap (ln T) r.m (aa (aB aM (aB bq (aE ax (pv 0) ah) (aE ax (pv 1) ah)) (aB bq (aE ax (pv 1) ah) (aE ax (pv 0) ah))) (aa (aB bq (aE ax (pv 0) ah) (aE ax (pv 1) ah)) ac))))),?_⟩
 try dsimp only [dY,aV]
 refine ⟨_,rfl,_,_,_,_,rfl,rfl,.inr f,rfl,_,rfl,_,_,_,_,rfl,rfl,.inr g,rfl,_,_,rfl,rfl,⟨_,_,j,e,by decide⟩,λ x n=>?_⟩
 refine ⟨_,rfl,_,_,_,_,rfl,rfl,.inr g,rfl,_,rfl,_,_,_,_,rfl,rfl,.inr f,rfl,_,_,rfl,rfl,⟨_,_,l,B,by decide⟩,λ X o=>⟨_,_,rfl,rfl,λ t p=>?_⟩⟩
 refine ⟨_,rfl,_,_,_,_,rfl,rfl,.inr f,rfl,_,rfl,_,_,_,_,rfl,rfl,.inr g,rfl,_,_,rfl,rfl,⟨_,_,B,e,by decide⟩,λ u q=>?_⟩
 subst n o p q
 exact ⟨_,_,rfl,abO (aaP i D),(B.mul e).mono (by decide),k⟩
def zf (T:Txt K mg Ad):Def P w K mg base "minus" 3 ["one","other"] (xY (λ a b c d=>a * d - c * b) K):=by
 refine T.Ix.cX E8 λ Z Z Z Z Z H V Q E r h=>?_
 obtain ⟨s,v,a,b,c,d,rfl,f,g,i,D,j,B,l,e,k⟩:=h
 refine ⟨_,(ao (aJ (ap (ln T) r.m (aa (aB d6 (aB bq (aE ax (pv 0) ah) (aE ax (pv 1) ah)) (aB bq (aE ax (pv 1) ah) (aE ax (pv 0) ah))) (aa (aB bq (aE ax (pv 0) ah) (aE ax (pv 1) ah)) ac))))),?_⟩
 try dsimp only [dY,aV]
 refine ⟨_,rfl,_,_,_,_,rfl,rfl,.inr f,rfl,_,rfl,_,_,_,_,rfl,rfl,.inr g,rfl,_,_,rfl,rfl,⟨_,_,j,e,by decide⟩,λ x n=>?_⟩
 refine ⟨_,rfl,_,_,_,_,rfl,rfl,.inr g,rfl,_,rfl,_,_,_,_,rfl,rfl,.inr f,rfl,_,_,rfl,rfl,⟨_,_,l,B,by decide⟩,λ X o=>⟨_,_,rfl,rfl,λ t p=>?_⟩⟩
 refine ⟨_,rfl,_,_,_,_,rfl,rfl,.inr f,rfl,_,rfl,_,_,_,_,rfl,rfl,.inr g,rfl,_,_,rfl,rfl,⟨_,_,B,e,by decide⟩,λ u q=>?_⟩
 subst n o p q
 exact ⟨_,_,rfl,abO (aaP i D),(B.mul e).mono (by decide),k⟩
def fP (T:Txt K mg Ad):Def P w K mg base "under" 1 ["one","other"] (Hh K):=by
 refine T.JC.cX Fg λ Z Z Z Z Z H v Q E n h=>?_
 obtain ⟨p,o,a,b,c,d,rfl,e,f,B,g,i,j,k⟩:=h
 refine ⟨_,(ao (aJ (de nj (aB bq (aE ax (pv 0) ah) (aE ax (pv 1) ah)) (aB bq (aE ax (pv 1) ah) (aE ax (pv 0) ah)) (aN _)))),?_⟩
 try dsimp only [dY,aV]
 refine ⟨_,rfl,_,_,_,_,rfl,rfl,.inr e,rfl,_,rfl,_,_,_,_,rfl,rfl,.inr f,rfl,_,_,rfl,rfl,⟨_,_,B,j,by decide⟩,λ x l=>?_⟩
 refine ⟨_,rfl,_,_,_,_,rfl,rfl,.inr f,rfl,_,rfl,_,_,_,_,rfl,rfl,.inr e,rfl,_,_,rfl,rfl,⟨_,_,i,g,by decide⟩,λ X m=>⟨_,_,rfl,rfl,?_⟩⟩
 subst l m
 exact k
def cU (T:Txt K mg Ad):Def P w K mg base "is_whole_upto" 1 ["thing","greatest"] IG:=by
 refine T.qx.cX oZ λ Z Z Z Z Z H c Q E b h=>?_
 obtain ⟨n,g,rfl,k⟩:=h
 refine ⟨_,(af (bA (PW.pt (jn (bX (aT kJ (by rfl) T.cf bV (aa (pv 0) (aa (qD (v:=V.ty "bool") rfl T.Gw Co rfl) ac)))) (iy (dM (bX (aT kJ (by rfl) T.cf bV (aa (pv 0) (aa (qD (v:=V.ty "int") rfl T.Kh Fi rfl) ac)))))))) (ao (aJ fh)) aL)
     (ao (aJ (FE f9 f9 ah (pv 0) (pv 1))))),?_⟩
 try dsimp only [dY,aV]
 refine ⟨_,rfl,_,_,_,_,_,rfl,.int n,rfl,uV K,_,rfl,ff ⟨_,rfl,_,_,_,_,_,rfl,.int n,rfl,rfl,_,rfl,ff ?_⟩⟩
 refine ⟨_,rfl,_,_,rfl,rfl,_,rfl,?_⟩
 by_cases a:(0:Int)<=n
 .
  refine mU a ⟨_,rfl,_,_,rfl,rfl,?_⟩
  have:decide (n<=g)=decide (0<=n/\n<=g):=abU.mpr ⟨λ h=>⟨a,h⟩,λ h=>h.2⟩
  show Q (V.bl (decide (n<=g))) H
  rw [this]
  exact k
 .
  refine mr a ?_
  have:decide (0<=n/\n<=g)=false:=aap λ h=>a h.1
  rw [this] at k
  exact k
def dQ (T:Txt K mg Ad):iK P w K mg base Ad.bi "many" 1 ["self"] [] (Jj K Ad.bi):=by
 refine T.xK.hG vD λ Z Z Z Z Z H v Q E r h=>?_
 obtain ⟨a,q,m,rfl,g,k⟩:=h
 refine ⟨_,(ao (aJ (aT bQ (by rfl) T.fA dF (aa (bM (pv 0) rfl) ac)))),?_⟩
 try dsimp only [dY,aV]
 obtain ⟨⟨D,x,u,y,z,V,v,M,A,rfl,f,J,b,I,F,i,N,s,t,d,l,o,j,p⟩,B,C,G,L⟩:=g
 refine ⟨_,rfl,a,_,D,_,_,rfl,f,T.aI,T.cq,nN ..,_,_,rfl,.inl (bw.of b),λ n c=>?_⟩
 have e:n=(m.rows.length:Int):=by rw [c,d.length,Bl]
 rw [e]
 exact k
def bP (T:Txt K mg Ad):iK P w K mg base Ad.bi "look_for" 3 ["self","room"] [] (zi K Ad.bi):=by
 refine T.qo.hG oG λ Z Z Z Z Z H v Q E e h=>?_
 obtain ⟨a,f,m,i,rfl,b,g,k⟩:=h
 refine ⟨_,(ao (bA (dM (jt f9 nj ah (pv 1) (dS (pv 0) T.aI (dQ T) .nil e.m))) (ao bH) aL)),?_⟩
 try dsimp only [dY,aV]
 obtain ⟨⟨d,j,p,l,n,V,v,q,A,o,c,Z⟩,Z⟩:=id b
 refine ⟨_,rfl,_,_,rfl,rfl,_,rfl,mU (by lia) ⟨_,rfl,a,d,_,rfl,c,rfl,a,f,m,rfl,b,_,_,rfl,rfl,_,rfl,?_⟩⟩
 exact dJ (by lia) k
def nK (T:Txt K mg Ad):iK P w K mg base Ad.bi "sky" 4 ["self","room"] [] (L5 K Ad.bi):=by
 refine T.Ai.hG yY λ Z Z Z Z Z H V Q E o h=>?_
 obtain ⟨a,l,m,i,z,rfl,c,e,k⟩:=h
 refine ⟨_,(af (bC (bv (pv 0) T.aI (bP T) .nil o.m (aa (pv 1) ac)))
     (ao (aJ (aE ax (bM (pv 0) rfl) (pv 1))))),?_⟩
 try dsimp only [dY,aV]
 obtain ⟨⟨D,G,C,L,M,W,V,X,A,O,b,J,u,I,F,p,N,y,B,s,f,t,r,x⟩,q,R,S,U⟩:=id c
 have n:i<m.rows.length:=by rw [<- q];exact (Yp.mp e).1
 obtain ⟨v,j,g⟩:=f.get (i:=i) (d:=nJ z) (by rw [RI,e];rfl)
 refine ⟨_,rfl,a,D,_,rfl,b,rfl,_,rfl,a,l,m,i,rfl,c,n,?_⟩
 exact ⟨_,rfl,a,_,D,_,_,rfl,b,T.aI,T.cS,ic ..,_,rfl,_,_,_,_,rfl,rfl,.inl (bw.of F),jl j,k v g⟩
def eQ (T:Txt K mg Ad):iK P w K mg base Ad.bi "stove" 4 ["self","room"] [] (FZ K Ad.bi):=by
 refine T.vS.hG tu λ Z Z Z Z Z H V Q E o h=>?_
 obtain ⟨a,F,m,i,z,rfl,c,e,k⟩:=h
 refine ⟨_,(af (bC (bv (pv 0) T.aI (bP T) .nil o.m (aa (pv 1) ac)))
     (ao (aJ (aE ax (bM (pv 0) rfl) (pv 1))))),?_⟩
 try dsimp only [dY,aV]
 obtain ⟨⟨D,G,C,L,M,W,V,X,A,O,b,J,t,I,u,f,N,y,B,r,s,g,p,x⟩,R,q,S,U⟩:=id c
 have n:i<m.rows.length:=by rw [<- q];exact (Yp.mp e).1
 obtain ⟨v,l,j⟩:=g.get (i:=i) (d:=gH z) (by rw [RI,e];rfl)
 refine ⟨_,rfl,a,D,_,rfl,b,rfl,_,rfl,a,F,m,i,rfl,c,n,?_⟩
 exact ⟨_,rfl,a,_,D,_,_,rfl,b,T.aI,T.dD,j7 ..,_,rfl,_,_,_,_,rfl,rfl,.inl (bw.of f),jl l,k v j⟩
def fY (T:Txt K mg Ad):iK P w K mg base Ad.bi "marks" 4 ["self","room"] [] (Gm K Ad.bi):=by
 refine T.wH.hG tN λ Z Z Z Z Z H V Q E t h=>?_
 obtain ⟨a,F,m,i,r,rfl,e,f,k⟩:=h
 refine ⟨_,(af (bC (bv (pv 0) T.aI (bP T) .nil t.m (aa (pv 1) ac)))
     (ao (aJ (dC fV (by rfl) T.rM m9 (aa (aE ax (bM (pv 0) rfl) (pv 1)) ac))))),?_⟩
 try dsimp only [dY,aV]
 obtain ⟨⟨D,S,R,U,W,vm,V,vt,A,O,c,J,l,I,C,u,N,L,M,g,z,B,y,G⟩,X,Y,q3,q4⟩:=id e
 have o:i<m.rows.length:=(Yp.mp f).1
 obtain ⟨v,n,b,x,rfl,s,j⟩:=g.get (i:=i) (d:=tO r) (by rw [RI,f];rfl)
 refine ⟨_,rfl,a,D,_,rfl,c,rfl,_,rfl,a,F,m,i,rfl,e,o,?_⟩
 exact ⟨_,rfl,a,_,D,_,_,rfl,c,T.aI,T.cq,nN ..,_,rfl,_,_,_,_,rfl,rfl,.inl (bw.of l),jl n,b,x,rfl,.inr s,λ p q=>k p x q j⟩
def iI (T:Txt K mg Ad):iK P w K mg base Ad.bi "own_share" 4 ["self","room"] [] (Lu K Ad.bi):=by
 refine T.pd.hG ek λ Z Z Z Z Z H vs Q E l h=>?_
 obtain ⟨a,fp,m,i,rfl,C,hi,k⟩:=h
 refine ⟨_,(af (cL (i:=2) ek.nd (ap (zf T) l.m (aa (cK (v:=V.ref _) rfl T.CB rfl) (aa (aE ax (aE ax (bM (pv 0) rfl) (pv 1)) ah) ac))))
     (af (dE aaH rfl (bZ rfl T.cZ (aa (dS (pv 0) T.aI (dQ T) .nil l.m) ac)) (jo (i:=3) ek.nd) (ao (cL (i:=2) ek.nd (ap (zf T) l.m (aa (pv 2) (aa (xF (b5 l) (bM (pv 0) rfl) (bI (aa (pv 1) (aa (pv 3) ac))) (cK (v:=V.ref _) rfl T.iF rfl) ⟨rfl,rfl,rfl,rfl⟩) ac))))))
     (ao (aJ (pv 2))))),?_⟩
 try dsimp only [dY,aV]
 try (refine fg ?_;intro Z Z Z Z)
 obtain ⟨⟨D,pm,pf,ps,pt,vm,vs,vt,aK,oJ,A,jm,eB,W,fF,dU,n1,n2,n3,dm,ds,dt,df,fk⟩,q1,q2,q3,J⟩:=id C
 have Vm:i<m.bx.length:=by rw [q1];exact hi
 have R:=aw Vm
 obtain ⟨v,ev,dv⟩:=ds.get (i:=i) (d:=nJ m.bx[i]) (by rw [RI,R];rfl)
 obtain ⟨p0,v1,v2,v3,rfl,X,d1,d2,d3⟩:=dv.di
 obtain ⟨p1,rfl,Y⟩:=d1.fr
 have N:m.bx[i].1=m.eM i:=by unfold au.eM;rw [R];rfl
 have O:eJ 100 m.bx[i].1:=N ▸ J.eM i
 refine ⟨_,rfl,a,_,D,_,_,rfl,A,T.aI,T.cS,ic ..,_,rfl,_,_,_,_,rfl,rfl,.inl (bw.of fF),jl ev,_,_,_,_,rfl,rfl,.inr X,rfl,?_⟩
 refine ⟨Ad.ug,p1,1,1,_,_,rfl,T.Cj.at H,Y,by decide,O.p,mZ,mZ,O.t.mono (by decide),O.b.mono (by decide),λ q r u H1 F L c=>?_⟩
 have e0:(q,r)=m.fJ i 0:=by
   have:=F.nf (aaP (by decide) O.p)
   rw [this]
   unfold au.fJ mQ
   rw [<- N];rfl
 refine ⟨_,rfl,a,D,_,rfl,L _ _ A,rfl,a,fp,m,rfl,bj.same L C,_,rfl,by lia,by lia,?_⟩
 refine iG (lo:=0) (n:=m.rows.length) (λ j U M=>aF H M/\E2 λ (u:ag) (x:fH)=>M u=some (.tup [.int (m.fJ i j).1,.int (m.fJ i j).2])/\U=[some (.ref a),some (av i),some (.ref u),x])
   ⟨L,u,none,by rw [<- e0];exact c,rfl⟩ ?_ ?_
 .
  rintro Z j U e hj ⟨s,u,x,c,rfl⟩
  have y:=(J.fJ i j).mono (show 201+101 * j<=1000 by lia)
  obtain ⟨of,ot⟩:True/\True:=⟨trivial,trivial⟩
  refine ⟨_,rfl,_,rfl,a,_,D,_,_,rfl,s _ _ A,T.aI,T.dX,lO ..,_,rfl,.inr ⟨_,.inl (s _ _ W)⟩,_,rfl,_,rfl,qv,λ G yb=>?_⟩
  have S:=am (o:=.tup [av i,.int (0+(j:Int))]) yb
  have pj:(upd e G (.tup [av i,.int (0+(j:Int))])) G=some (.tup ((fq i j).map kV)):=by rw [ai,aan];rfl
  refine ⟨_,gk.t (S _ _ (s _ _ W)) pj,?_⟩
  have Zx:Dn K (upd e G (.tup [av i,.int (0+(j:Int))])) (dL (m.fb i j)) ((fG aK (fq i j)).getD (.ref Ad.j8)):=by
    have:=(bj.same (s.trans S) C).ex
    have q:=df i j
    refine Dn.same (s.trans S) _ (BE q (T.kz.fr (f:=(0,1))))
  obtain ⟨I,z,B⟩:=Zx.fr
  have g:=J.fb i j
  rw [z]
  refine ⟨u,I,_,_,_,_,rfl,cH.of (S _ _ c),B,y.p,g.p,y.t,y.b,g.t.mono (by decide),g.b.mono (by decide),λ q r u' H4 F s4 Ma=>?_⟩
  refine ⟨s.trans (S.trans s4),u',_,?_,rfl⟩
  have:=F.nf (aaP y.p g.p)
  rw [Ma,au.jH]
  unfold mQ
  rw [<- this]
 . rintro U e ⟨s,u,x,c,rfl⟩
   exact ⟨_,rfl,k _ e s (n9 (cH.of c))⟩
def kK (T:Txt K mg Ad):iK P w K mg base Ad.bi "share" 5 ["self","into","of"] [] (Fk K Ad.bi):=by
 refine T.vZ.hG tE λ Z Z Z Z Z H y Q E g h=>?_
 obtain ⟨a,F,m,i,j,rfl,c,l,r,k⟩:=h
 refine ⟨_,(af (bC (bv (pv 0) T.aI (bP T) .nil g.m (aa (pv 1) ac)))
     (af (bC (bv (pv 0) T.aI (bP T) .nil g.m (aa (pv 2) ac)))
     (af (bA (aQ gY (pv 1) (pv 2) (aN _)) (ao (aJ (bv (pv 0) T.aI (iI T) .nil g.m (aa (pv 1) ac)))) aL)
     (ao (aJ (xF (b5 g) (bM (pv 0) rfl) (bI (aa (pv 1) (aa (pv 2) ac))) (cK (v:=V.ref _) rfl T.iF rfl) ⟨rfl,rfl,rfl,rfl⟩)))))),?_⟩
 try dsimp only [dY,aV]
 try (refine db ?_;intro Z Z Z Z Z)
 obtain ⟨⟨d,pm,X,ps,pt,vm,y,vt,A,W,b,N,J,I,L,z,O,R,U,B,C,G,D,M⟩,q1,q2,q3,q4⟩:=id c
 refine ⟨_,rfl,a,d,_,rfl,b,rfl,_,rfl,a,F,m,i,rfl,c,l,⟨_,rfl,a,d,_,rfl,b,rfl,_,rfl,a,F,m,j,rfl,c,r,?_⟩⟩
 refine ⟨_,rfl,_,rfl,rfl,_,rfl,?_⟩
 by_cases u:i=j
 . subst u
   refine mU rfl ⟨_,rfl,a,d,_,rfl,b,rfl,_,rfl,a,F,m,i,rfl,c,l,λ v p S q=>k v p S ?_⟩
   rw [au.share,aaq rfl];exact q
 .
  refine mr (λ e=>u (by have:=eD.mp e;lia)) ?_
  refine ⟨_,rfl,a,_,d,_,_,rfl,b,T.aI,T.dX,lO ..,_,rfl,.inr ⟨_,.inl I⟩,_,rfl,_,rfl,qv,λ n Y=>?_⟩
  have s:=am (o:=.tup [av i,av j]) Y
  have x:(upd H n (.tup [av i,av j])) n=some (.tup ((fq i j).map kV)):=by rw [ai];rfl
  refine ⟨_,gk.t (s _ _ I) x,k _ _ s ?_⟩
  rw [au.share,aal u]
  exact Dn.same s _ (BE (D i j) (T.kz.fr (f:=(0,1))))
def fU (T:Txt K mg Ad):iK P w K mg base Ad.bi "look_at_share" 5 ["self","room","share","former"] [] (IX K Ad.bi):=by
 refine T.kZ.hG f6 λ Z Z Z Z Z H U Q E c h=>?_
 obtain ⟨a,G,m,i,v1,v2,f,g,rfl,j,L,D,z,d,o,hf,l,k⟩:=h
 refine ⟨_,(af (cL (i:=4) f6.nd (ap (Kc T) c.m (aa (bv (pv 0) T.aI (iI T) .nil c.m (aa (pv 1) ac)) (aa (pv 3) ac))))
     (ao (bA (PW.pt (jn (bX (ap (fP T) c.m (aa (pv 2) (aa (cK (v:=V.ref _) rfl T.iF rfl) ac)))) (iy (bX (ap (fP T) c.m (aa (pv 4) (aa (pv 2) ac))))))) (ao bH) aL))),?_⟩
 try dsimp only [dY,aV]
 obtain ⟨⟨B,pm,pf,ps,pt,vm,U,vt,aK,oJ,J,jm,eB,iz,fF,dU,n1,n2,n3,dm,ds,dt,df,fk⟩,q1,q2,q3,R⟩:=id j
 obtain ⟨n,rfl,X⟩:=D.fr
 obtain ⟨M,rfl,I⟩:=z.fr
 refine ⟨_,rfl,a,B,_,rfl,J,rfl,_,rfl,a,G,m,i,rfl,j,L,λ v W s A=>⟨_,rfl,?_⟩⟩
 obtain ⟨N,rfl,x⟩:=A.fr
 have O:eJ 800 (m.own i):=(R.fJ i _).mono (by lia)
 refine ⟨N,M,_,_,_,_,rfl,x,s.tup I,O.p,o.p,O.t.mono (by decide),O.b.mono (by decide),o.t.mono (by decide),o.b.mono (by decide),λ q r u Y F S y=>?_⟩
 have C:(q,r)=kU (m.own i) g:=F.nf (aaP O.p o.p)
 have e:eJ 950 (kU (m.own i) g):=(O.plus o).mono (by decide)
 rw [<- C] at e l
 refine ⟨_,rfl,n,Ad.j8,_,_,_,_,rfl,S.tup (s.tup X),T.kz.at _,d.t.mono (by decide),d.b.mono (by decide),mZ,mZ,_,rfl,mr (by lia) ?_⟩
 refine ⟨_,rfl,_,rfl,u,n,_,_,_,_,rfl,cH.of y,S.tup (s.tup X),e.t.mono (by decide),e.b.mono (by decide),d.t.mono (by decide),d.b.mono (by decide),_,rfl,mr (ad4 l) (k _ (s.trans S))⟩
def mV (T:Txt K mg Ad):iK P w K mg base Ad.bi "put_flow" 6 ["self","into","of","share"] [] (wY K Ad.bi):=by
 refine T.p8.hG oW λ Z Z Z Z Z H V Q E g h=>?_
 obtain ⟨a,F,m,i,j,v,f,rfl,c,l,p,u,D,O,y,A,k⟩:=h
 refine ⟨_,(af (bC (bv (pv 0) T.aI (bP T) .nil g.m (aa (pv 1) ac)))
     (af (bC (bv (pv 0) T.aI (bP T) .nil g.m (aa (pv 2) ac)))
     (af (bA (aQ gY (pv 1) (pv 2) (aN _)) (ao bH) aL)
     (af (bC (bv (pv 0) T.aI (fU T) .nil g.m (aa (pv 1) (aa (pv 3) (aa (bv (pv 0) T.aI (kK T) .nil g.m (aa (pv 1) (aa (pv 2) ac))) ac)))))
     (ao (wb (b5 g) (bM (pv 0) rfl) (bI (aa (pv 1) (aa (pv 2) ac))) (pv 3) rfl)))))),?_⟩
 try dsimp only [dY,aV]
 try (refine lz ?_;intro Z Z Z Z Z Z)
 obtain ⟨⟨d,pm,pf,ps,pt,vm,V,vt,M,oJ,b,jm,eB,I,fF,N,n1,n2,n3,W,X,dt,U,x⟩,q1,q2,q3,C⟩:=id c
 refine ⟨_,rfl,a,d,_,rfl,b,rfl,_,rfl,a,F,m,i,rfl,c,l,⟨_,rfl,a,d,_,rfl,b,rfl,_,rfl,a,F,m,j,rfl,c,p,?_⟩⟩
 refine ⟨_,rfl,_,rfl,rfl,_,rfl,mr (λ e=>u (by have:=eD.mp e;lia)) ?_⟩
 refine ⟨_,rfl,a,d,_,rfl,b,rfl,_,rfl,_,rfl,_,rfl,a,d,_,rfl,b,rfl,_,rfl,_,rfl,a,F,m,i,j,rfl,c,l,p,λ z L s n=>?_⟩
 rw [au.share,aal u] at n
 refine ⟨a,F,m,i,v,z,f,_,rfl,c.same s,l,Dn.same s _ D,n,O,C.fb i j,y,A,λ r G=>?_⟩
 have R:=s.trans G
 refine ⟨_,rfl,_,rfl,a,_,d,_,_,rfl,R _ _ b,T.aI,T.dX,lO ..,_,rfl,_,rfl,qv,λ q Y=>?_⟩
 have J:=am (o:=.tup [av i,av j]) Y
 have B:(upd r q (.tup [av i,av j])) q=some (.tup ((fq i j).map kV)):=by rw [ai];rfl
 have S:=R.trans J
 refine ⟨_,_,rfl,vU.t (S _ _ I) B (aaY x.len (by decide)),k _ F (Ek c S b I (by lia) (by lia) (Dn.same S _ D) O)⟩
def pD (T:Txt K mg Ad):iK P w K mg base Ad.bi "put_sky" 6 ["self","room","share","low","high"] [] (AI K Ad.bi):=by
 refine T.rN.hG qh λ Z Z Z Z Z H V Q E l h=>?_
 obtain ⟨a,g,m,i,C,v2,v3,f,lo,hi,rfl,e,G,p,q,r,z,O,n,j,U,W,k⟩:=h
 refine ⟨_,(af (bC (bv (pv 0) T.aI (bP T) .nil l.m (aa (pv 1) ac)))
     (af (bA (bX (ap (fP T) l.m (aa (pv 4) (aa (pv 3) ac)))) (ao bH) aL)
     (af (bC (bv (pv 0) T.aI (fU T) .nil l.m (aa (pv 1) (aa (pv 2) (aa (aE ax (aE ax (bM (pv 0) rfl) (pv 1)) ah) ac)))))
     (ao (jB (bI (aa (pv 2) (aa (pv 3) (aa (pv 4) ac)))) (zN (bM (pv 0) rfl) (pv 1) set_list)))))),?_⟩
 try dsimp only [dY,aV]
 try (refine db ?_;intro Z Z Z Z Z)
 obtain ⟨⟨D,pm,pf,X,pt,vm,V,vt,aK,oJ,c,jm,eB,iz,F,dU,n1,n2,n3,dm,u,dt,df,fk⟩,Y,q2,q3,q4⟩:=id e
 obtain ⟨A,rfl,J⟩:=q.fr
 obtain ⟨B,rfl,L⟩:=r.fr
 have M:i<m.bx.length:=by rw [Y];exact G
 have y:=aw M
 obtain ⟨v,S,N⟩:=u.get (i:=i) (d:=nJ m.bx[i]) (by rw [RI,y];rfl)
 obtain ⟨p0,w1,w2,w3,rfl,I,x,e2,e3⟩:=N.di
 have R:m.bx[i].1=m.eM i:=by unfold au.eM;rw [y];rfl
 rw [R] at x
 refine ⟨_,rfl,a,D,_,rfl,c,rfl,_,rfl,a,g,m,i,rfl,e,G,?_⟩
 refine ⟨_,rfl,_,rfl,B,A,_,_,_,_,rfl,L,J,n.t.mono (by decide),n.b.mono (by decide),O.t.mono (by decide),O.b.mono (by decide),_,rfl,mr (ad4 j) ?_⟩
 refine ⟨_,rfl,a,D,_,rfl,c,rfl,_,rfl,_,rfl,_,rfl,a,_,D,_,_,rfl,c,T.aI,T.cS,ic ..,_,rfl,_,_,_,_,rfl,rfl,.inl (bw.of F),jl S,_,_,_,_,rfl,rfl,.inr I,rfl,?_⟩
 refine ⟨a,g,m,i,C,w1,f,_,rfl,e,G,p,x,z,q4.eM i,U,W,λ H2 s2=>?_⟩
 refine ⟨_,rfl,_,rfl,_,rfl,Ex,λ kp yb=>?_⟩
 have s3:=am (o:=.tup [C,.ref A,.ref B]) yb
 have s:=s2.trans s3
 have hl:V.length=m.bx.length:=by rw [u.length,Bl]
 refine ⟨_,rfl,a,_,D,_,_,rfl,s _ _ c,T.aI,T.cS,ic ..,_,rfl,X,V,_,i,rfl,rfl,s _ _ F,Cb (by lia),k _ g (EY e s c F (Gs (cH.of ai) (Dn.same s _ p) (Dn.same s _ q) (Dn.same s _ r)) ⟨z,O,n⟩)⟩
def nV (T:Txt K mg Ad):O8 P w K mg base Ad.bi "put_stove" "Hold.put_stove" eZ (.ref Ad.gh) 4 ["self","room","heat","wood","stay","fails"] (nQ K Ad.bi):=by
 refine T.oY.YJ nR (λ q H Q E h=>?_) (λ f Z Z Z s H q Q E c h=>?_)
 . obtain ⟨a,e,m,i,v,f,W,d,F,rfl,Z⟩:=h
   rfl
 .
  obtain ⟨a,e,m,i,v,f,W,d,F,rfl,j,x,l,O,X,A,G,B,k⟩:=h
  refine ⟨_,(af (bC (bv (pv 0) T.aI (bP T) .nil c.m (aa (pv 1) ac)))
    (af (bA (bX (ap (fP T) c.m (aa (pv 2) (aa (cK (v:=V.ref _) rfl T.iF rfl) ac)))) (ao bH) aL)
    (af (bA (dM (bX (ap (cU T) c.m (aa (pv 3) (aa (fe rfl T.zb) ac))))) (ao bH) aL)
    (af (bA (dM (bX (ap (cU T) c.m (aa (pv 4) (aa (fe rfl T.xR) ac))))) (ao bH) aL)
    (af (bA (dM (bX (ap (cU T) c.m (aa (pv 5) (aa (fe rfl T.wm) ac))))) (ao bH) aL)
    (ao (jB (bI (aa (pv 2) (aa (pv 3) (aa (pv 4) (aa (pv 5) ac))))) (zN (bM (pv 0) rfl) (pv 1) set_list)))))))),?_⟩
  try dsimp only [dY,aV]
  try (refine li ?_;intro Z Z Z Z Z Z Z)
  obtain ⟨⟨n,pm,pf,ps,C,vm,q,r,I,oJ,g,jm,N,iz,R,D,n1,n2,n3,L,M,u,J,U⟩,q1,q2,q3,q4⟩:=id j
  obtain ⟨p,rfl,y⟩:=l.fr
  refine ⟨_,rfl,a,n,_,rfl,g,rfl,_,rfl,a,e,m,i,rfl,j,x,?_⟩
  refine ⟨_,rfl,p,Ad.j8,_,_,_,_,rfl,y,T.kz.at _,O.t.mono (by decide),O.b.mono (by decide),mZ,mZ,_,rfl,mr (by lia) ?_⟩
  refine ⟨_,rfl,W,9,rfl,_,rfl,dJ A ⟨_,rfl,d,3,rfl,_,rfl,dJ G ⟨_,rfl,F,3,rfl,_,rfl,dJ B ?_⟩⟩⟩
  refine ⟨_,rfl,_,rfl,_,rfl,_,rfl,LR,λ kp Y=>?_⟩
  have S:=am (o:=.tup [.ref p,.int W,.int d,.int F]) Y
  have hl:r.length=m.aH.length:=by rw [u.length,Bl]
  exact ⟨_,rfl,a,_,n,_,_,rfl,S _ _ g,T.aI,T.dD,j7 ..,_,rfl,C,r,_,i,rfl,rfl,S _ _ D,Cb (by lia),k _ e (AC (z:=(f,W,d,F)) j S g D (gi (cH.of ai) (bS (Dn.same S _ l) (bS rfl (bS rfl (bS rfl ip))))) O)⟩
def kI (T:Txt K mg Ad):yx P w K mg base Ad.bi "put_stove" 4 ["self","room","heat","wood","stay","fails"] [] (nQ K Ad.bi) :=
 (nV T).Ji T.oU λ i H=>by
   obtain ⟨U,j,k,rfl,r,R,g⟩:=vals3 H
   exact ⟨[],.nil,λ Z Z Z Z Z Z u h=>by obtain ⟨a,b,c,d,e,f,rfl⟩:∃ a b c d e f,u=[a,b,c,d,e,f]:=Hf (by simpa using h:u.length=6) λ a b c d e f=>⟨a,b,c,d,e,f,rfl⟩;exact ⟨_,rfl,rfl⟩⟩
def nX (T:Txt K mg Ad):Def P w K mg base "bands_together" 1 ["rows"] (He K):=by
 refine T.oX.cX d7 λ Z Z Z Z Z H V Q E I h=>?_
 obtain ⟨p,X,r,rfl,o,l,G,s,k⟩:=h
 refine ⟨_,(af (cL (i:=1) d7.nd ah)
     (af (dE aaH rfl (fo (pv 0)) (jo (i:=2) d7.nd) (ao (cL (i:=1) d7.nd (aB bq (pv 1) (aB d6 (aT bQ (by rfl) T.fA dF (aa (pv 2) ac)) ah)))))
     (ao (aJ (pv 1))))),?_⟩
 try dsimp only [dY,aV]
 try (refine fg ?_;intro Z Z Z Z)
 have N:X.length=r.length:=by rw [l.length,Bl]
 refine ⟨_,rfl,p,rfl,⟨X,o⟩,?_⟩
 refine uJ (xs:=X) (λ i U a=>a=H/\∃ (x:fH),Bd (1+3 * i) (jP (r.take i))/\U=[some (.ref p),some (.int (jP (r.take i))),x]) ⟨rfl,none,(by show Bd 1 (jP []);exact mZ),rfl⟩ (λ i U a Z e=>by rw [e.1];exact o) ?_ ?_
 .
  rintro Z i x U a q ⟨rfl,y,c,rfl⟩
  have f:i<r.length:=by rw [<- N];exact (Yp.mp q).1
  obtain ⟨v,F,b,Y,rfl,t,D⟩:=l.get (i:=i) (d:=tO r[i]) (by rw [RI,aw f];rfl)
  obtain rfl:x = .ref b:=aai (q.symm.trans F)
  have m:=s r[i] (aaf f)
  have A:Y.length=r[i].length:=by rw [D.length,Bl]
  refine ⟨_,rfl,_,rfl,_,_,rfl,.inr t,λ n B=>⟨_,_,rfl,rfl,λ u C=>⟨_,_,rfl,rfl,?_,λ z j=>?_⟩⟩⟩
  . exact ⟨_,3,c,(show u.natAbs<2 ^ 3 by lia),(show 1+3 * i+3<=_ by lia)⟩
  .
   have g:z=jP (r.take (i+1)):=by
     rw [j,C,B,A]
     unfold jP
     rw [abB,aw f,abd];rfl
   refine ⟨rfl,_,?_,by rw [<- g];rfl⟩
   rw [<- g,j]
   exact (c.mul (show u.natAbs<2 ^ 3 by lia)).mono (by lia)
 .
  rintro U a ⟨rfl,y,c,rfl⟩
  refine ⟨_,rfl,?_⟩
  rw [N,aa2]
  exact k
def vn (T:Txt K mg Ad):Def P w K mg base "is_rising" 2 ["marks"] (C7 K):=by
 refine T.xj.cX uW λ Z Z Z Z Z H vs Q E hr h=>?_
 obtain ⟨p,X,r,rfl,g,f,L,hl,k⟩:=h
 refine ⟨_,(ao (aJ (aT (pF rfl) (by rfl) T.GU AU (aa (kr ["low","high"] [] [] .nil rfl (Le rfl T.NW (aa (pv 0) (aa (ko vE (pv 0) (jF ah) vC) ac))) (λ Z Z Z Z Z=>(eC (K:=K) (n:=2) rfl rfl (aX (rD (i:=0)) (aX (rD (i:=1)) eF)))) (λ Z Z Z Z Z=>fX) (λ Z Z Z Z Z=>(ap (fP T) hr.m (aa (pv 0) (aa (pv 1) ac))))) ac)))),?_⟩
 try dsimp only [dY,aV]
 refine ⟨_,rfl,_,rfl,1,rfl,p,X,rfl,g,λ l Iq=>?_⟩
 have s:=am (o:=.lst (pB X (some 1) none)) Iq
 rw [Gj] at s |-
 have N:X.length=r.length:=by rw [f.length,Bl]
 refine ⟨p,l,rfl,⟨X,s.seq g⟩,⟨X.tail,bw.of ai⟩,λ D J=>?_⟩
 have Y:min X.length X.tail.length=(List.zipWith bO r r.tail).length:=by rw [List.length_zipWith,List.length_tail,List.length_tail,N]
 refine F2 (K:=K) (a:=p) (b:=l) (xs:=X) (ys:=X.tail) (λ i A U c=>A4 (aF (upd H l (.lst X.tail)) c) (c D=some (.lst A)) (A=((List.zipWith bO r r.tail).take i).map V.bl) (E2 λ z B=>U=[z,B]))
   ⟨am J,ai,rfl,none,none,rfl⟩ (λ i A U c Z e=>⟨e.1.seq (s.seq g),e.1.seq (bw.of ai)⟩) ?_ ?_
 .
  rintro i x y q A U c hx j wF ⟨S,I,rfl,z,B,rfl⟩
  rw [acX] at j
  have G:i+1<r.length:=by rw [<- N];exact (Yp.mp j).1
  obtain ⟨u,eu,du⟩:=f.get (i:=i) (d:=dL r[i]) (by rw [RI,aw (by lia)];rfl)
  obtain rfl:x=u:=aai (hx.symm.trans eu)
  obtain ⟨v,ev,dv⟩:=f.get (i:=i+1) (d:=dL r[i+1]) (by rw [RI,aw G];rfl)
  obtain rfl:y=v:=aai (j.symm.trans ev)
  obtain ⟨C,rfl,g1⟩:=du.fr
  obtain ⟨F,rfl,g2⟩:=dv.fr
  have O:=L r[i] (aaf _)
  have M:=L r[i+1] (aaf _)
  have R:aF c (upd c q (.tup [.ref C,.ref F])):=am wF
  have W:=s.trans (S.trans R)
  have nD:D≠q:=aD I wF
  refine ⟨q,_,rfl,cH.of ai,rfl,_,_,rfl,_,_,rfl,rfl,?_⟩
  refine ⟨_,rfl,_,rfl,C,F,_,_,_,_,rfl,W.tup g1,W.tup g2,O.t.mono (by decide),O.b.mono (by decide),M.t.mono (by decide),M.b.mono (by decide),?_⟩
  have hb:=zG (aw (show i<r.length by lia)) (aw G)
  refine ⟨by rw [aG nD];exact I,?_,aF.put (S.trans R) J,ai,?_,_,_,rfl⟩
  . rw [Bl,aat]
    have:(7:Nat)<sizeLine:=by decide
    rw [<- Y]
    lia
  . rw [abB,hb,aab]
    rfl
 . rintro A U c ⟨S,I,rfl,z,B,rfl⟩
   rw [Y,aa2] at I
   exact ⟨D,_,rfl,bw.of I,k _ (s.trans S)⟩
def nl (T:Txt K mg Ad):iK P w K mg base Ad.bi "put_room" 3 ["self","marks"] [] (yI K Ad.bi):=by
 refine T.qd.hG jg λ Z Z Z Z Z H l Q E t h=>?_
 obtain ⟨a,fp,m,p,X,r,rfl,G,h4,I,C,ho,Xp,RK,Qb,hb,k⟩:=h
 refine ⟨_,(af (bA (aQ Ko (dS (pv 0) T.aI (dQ T) .nil t.m) (fe rfl T.uU) (aN _)) (ao bH) aL)
     (af (bA (dM (jt f9 f9 (fe rfl T.tF) (aT bQ (by rfl) T.fA dF (aa (pv 1) ac)) (fe rfl T.wj))) (ao bH) aL)
     (af (bA (dM (bX (ap (vn T) t.m (aa (pv 1) ac)))) (ao bH) aL)
     (af (cL (i:=2) jg.nd (aB Ap (bM (pv 0) rfl) (cY (aa (dC gr (by rfl) T.qE nB (aa (pv 1) ac)) ac))))
     (af (bA (aQ pV (ap (nX T) t.m (aa (pv 2) ac)) (fe rfl T.u7) (aN _)) (ao bH) aL)
     (af (eU (pv 0) (pv 2) rfl)
     (af (bC (iR aay aaJ aaI cV (bM (pv 0) rfl) (aa (bI (aa (cK (v:=V.ref _) rfl T.iF rfl) (aa (cK (v:=V.ref _) rfl T.iF rfl) (aa (cK (v:=V.ref _) rfl T.iF rfl) ac)))) ac)))
     (af (bC (iR aay aaJ aaI cV (bM (pv 0) rfl) (aa cQ ac)))
     (ao (aJ (aB d6 (dS (pv 0) T.aI (dQ T) .nil t.m) ah))))))))))),?_⟩
 try dsimp only [dY,aV]
 try (refine y0 ?_;intro Z Z Z Z Z Z Z Z Z Z)
 obtain ⟨⟨d,J,pf,L,M,j,l,W,aK,oJ,g,jm,eB,iz,F,A,n1,n2,n3,dm,ds,dt,df,fk⟩,q1,q2,q3,q4⟩:=id G
 have Nl:X.length=r.length:=by rw [C.length,Bl]
 have lm:j.length=m.rows.length:=by rw [dm.length,Bl]
 have ls:l.length=m.bx.length:=by rw [ds.length,Bl]
 have lt:W.length=m.aH.length:=by rw [dt.length,Bl]
 have ab:(7:Nat)<sizeLine:=by decide
 refine ⟨_,rfl,a,d,_,rfl,g,rfl,a,fp,m,rfl,G,_,_,rfl,rfl,_,rfl,mr (by lia) ?_⟩
 refine ⟨_,rfl,_,_,rfl,.inl I,λ n en=>⟨_,_,rfl,rfl,_,rfl,mU (by lia) ⟨_,_,rfl,rfl,_,rfl,dJ (by lia) ?_⟩⟩⟩
 refine ⟨_,rfl,p,X,r,rfl,I,C,ho,RK,λ q S=>⟨_,rfl,?_⟩⟩
 rw [Qb]
 refine ff ?_
 refine ⟨_,rfl,a,_,d,_,_,rfl,S _ _ g,T.aI,T.cq,nN ..,_,rfl,p,X,rfl,.inl ⟨S.seq I,λ b Rk=>⟨MY,λ u W8=>?_⟩⟩⟩
 have s2:=S.trans (am (o:=.tup X) Rk)
 have O:=s2.trans (am (o:=.lst [.ref b]) W8)
 refine ⟨J,u,j,[.ref b],rfl,rfl,O _ _ eB,ai,by rw [abx];lia,λ c y=>?_⟩
 have R:aF (upd q b (.tup X)) _:=(am (o:=.lst [.ref b]) W8).trans (am (o:=.lst (j++[.ref b])) y)
 have s:=O.trans (am (o:=.lst (j++[.ref b])) y)
 have dr:Dn K (upd (upd (upd q b (.tup X)) u (.lst [.ref b])) c (.lst (j++[.ref b]))) (tO r) (.ref b):=gi (cH.of (R _ _ ai)) (cn.same s _ C)
 refine ⟨_,rfl,c,_,m.rows++[r],rfl,bw.of ai,?_,by rw [aad,abx];lia,?_,_,_,rfl,rfl,_,rfl,mr (by lia) ?_⟩
 . rw [aab]
   exact (cn.same s _ dm).snoc dr
 .
  intro x hx
  rcases aaD.mp hx with h|h
  . have:=q4.len x h;lia
  . rw [T1.mp h];lia
 refine ⟨_,rfl,_,rfl,a,_,d,_,rfl,s _ _ g,T.aI,T.cq,lt1000 rfl,?_⟩
 have Nk:H c=none:=O.free y
 have ad:c≠a:=(aD g Nk).symm
 refine ⟨_,rfl,a,_,d,_,_,rfl,ai,T.aI,T.cS,ic ..,?_⟩
 have O0:=bG F g nofun
 have Rj:=bG A g nofun
 have g1:=(aG (H:=upd (upd (upd q b (.tup X)) u (.lst [.ref b])) c (.lst (j++[.ref b]))) (o:=.ins Ad.bi d (bK "mark_rows" (.ref c) (ky m J pf L M))) O0).trans (s _ _ F)
 have g2:=(aG (H:=upd (upd (upd q b (.tup X)) u (.lst [.ref b])) c (.lst (j++[.ref b]))) (o:=.ins Ad.bi d (bK "mark_rows" (.ref c) (ky m J pf L M))) Rj).trans (s _ _ A)
 refine ⟨.inl ⟨rfl,l,bw.of g1⟩,Ex,λ q0 Y=>?_⟩
 have U:=am (o:=.tup [.ref Ad.j8,.ref Ad.j8,.ref Ad.j8]) Y
 refine ⟨L,l,_,rfl,rfl,U _ _ g1,by lia,?_⟩
 have g3:=(aG (o:=.lst (l++[.ref q0])) n3.symm).trans (U _ _ g2)
 have g4:=(aG (o:=.lst (l++[.ref q0])) O0.symm).trans (U _ _ ai)
 refine ⟨_,rfl,a,_,d,_,_,rfl,g4,T.aI,T.dD,j7 ..,.inl ⟨rfl,W,bw.of g3⟩,M,W,_,rfl,rfl,g3,by lia,?_⟩
 obtain ⟨pI,D⟩:=DZ (N:=Ad.j8) (r:=r) G s g eB F A Nk ai dr h4 ho ⟨Xp,RK⟩ (λ H'=>T.kz.fr (f:=(0,1))) Y
 obtain ⟨⟨uv,El,zp,p9,qK,Z,Z,Z,Z,Z,B,Z⟩,Z⟩:=id D.at_
 refine ⟨_,rfl,a,uv,_,rfl,B,rfl,a,pI,_,rfl,D.at_,_,_,rfl,rfl,λ z ez=>?_⟩
 have e:z=(m.rows.length:Int):=by
   rw [ez]
   show (((m.rows++[r]).length:Nat):Int) - 1=_
   rw [aad,abx];lia
 rw [e]
 exact k _ pI D
def oK (T:Txt K mg Ad):O8 P w K mg base Ad.bi "__init__" "Hold.__init__" fm (.ref Ad.gD) 2 ["self","most","cap","load"] (BG K Ad.bi):=by
 refine T.qm.YJ pr (λ vs H Q E h=>?_) (λ f Z Z Z s H vs Q E G h=>?_)
 . obtain ⟨x,d,most,iU,load,rfl,Z⟩:=h
   rfl
 .
  obtain ⟨x,d,most,iU,load,rfl,S,jm,hm,hc,hl,k⟩:=h
  refine ⟨_,(af (bA (dM (bX (ap (cU T) G.m (aa (pv 1) (aa (fe rfl T.sH) ac))))) (ao bH) aL)
    (af (bA (dM (bX (ap (cU T) G.m (aa (pv 2) (aa (fe rfl T.zU) ac))))) (ao bH) aL)
    (af (bA (dM (bX (ap (cU T) G.m (aa (pv 3) (aa (fe rfl T.zc) ac))))) (ao bH) aL)
    (af (eU (pv 0) (pv 1) rfl)
    (af (eU (pv 0) (pv 2) rfl)
    (af (eU (pv 0) (pv 3) rfl)
    (af (eU (pv 0) (cY ac) rfl)
    (af (eU (pv 0) xh rfl)
    (af (eU (pv 0) (cY ac) rfl)
    (ao (eU (pv 0) (cY ac) rfl))))))))))),?_⟩
  try dsimp only [dY,aV]
  try (refine Ee ?_;intro Z Z Z Z Z Z Z Z Z Z Z)
  refine ⟨_,rfl,most,4,rfl,_,rfl,dJ hm ⟨_,rfl,iU,30,rfl,_,rfl,dJ hc ⟨_,rfl,load,30,rfl,_,rfl,dJ hl ?_⟩⟩⟩
  have J:ju K Ad.bi x d H H []:=.start S
  refine ⟨_,rfl,_,rfl,x,_,d,_,rfl,J.at_,T.aI,T.h9,lt1000 rfl,?_⟩
  have L:=J.put (fs':=bK "most" (.int most) [])
  refine ⟨_,rfl,_,rfl,x,_,d,_,rfl,L.at_,T.aI,T.lE,lt1000 rfl,?_⟩
  have M:=L.put (fs':=bK "cap" (.int iU) (bK "most" (.int most) []))
  refine ⟨_,rfl,_,rfl,x,_,d,_,rfl,M.at_,T.aI,T.nW,lt1000 rfl,?_⟩
  have B:=M.put (fs':=bK "load" (.int load) (bK "cap" (.int iU) (bK "most" (.int most) [])))
  refine ⟨aaV _,λ p e=>?_⟩
  have t:=B.new (o:=.lst []) e
  refine ⟨_,rfl,x,_,d,_,rfl,t.at_,T.aI,T.cq,lt1000 rfl,λ c g=>?_⟩
  have i:=t.put (fs':=bK "mark_rows" (.ref p) (bK "load" (.int load) (bK "cap" (.int iU) (bK "most" (.int most) []))))
  have j:=i.new (o:=.dT []) g
  refine ⟨_,rfl,x,_,d,_,rfl,j.at_,T.aI,T.dX,lt1000 rfl,aaV _,λ r a=>?_⟩
  have l:=j.put (fs':=bK "flows" (.ref c) (bK "mark_rows" (.ref p) (bK "load" (.int load) (bK "cap" (.int iU) (bK "most" (.int most) [])))))
  have v:=l.new (o:=.lst []) a
  refine ⟨_,rfl,x,_,d,_,rfl,v.at_,T.aI,T.cS,lt1000 rfl,aaV _,λ U F=>?_⟩
  have y:=v.put (fs':=bK "skies" (.ref r) (bK "flows" (.ref c) (bK "mark_rows" (.ref p) (bK "load" (.int load) (bK "cap" (.int iU) (bK "most" (.int most) []))))))
  have R:=y.new (o:=.lst []) F
  refine ⟨_,rfl,x,_,d,_,rfl,R.at_,T.aI,T.dD,lt1000 rfl,?_⟩
  have W:=R.put (fs':=ky (au.new most iU load) p c r U)
  have h1:=t.keep (u:=.ins Ad.bi d (bK "mark_rows" (.ref p) (bK "load" (.int load) (bK "cap" (.int iU) (bK "most" (.int most) []))))) ai (B.ne e)
  have O:=j.keep (u:=.ins Ad.bi d (bK "flows" (.ref c) (bK "mark_rows" (.ref p) (bK "load" (.int load) (bK "cap" (.int iU) (bK "most" (.int most) [])))))) (am (o:=.dT []) g _ _ h1) (B.ne e)
  have z:=j.keep (u:=.ins Ad.bi d (bK "flows" (.ref c) (bK "mark_rows" (.ref p) (bK "load" (.int load) (bK "cap" (.int iU) (bK "most" (.int most) [])))))) ai (i.ne g)
  have I:=λ b o (h:_=some o) (n:b≠x)=>v.keep (b:=b) (u:=.ins Ad.bi d (bK "skies" (.ref r) (bK "flows" (.ref c) (bK "mark_rows" (.ref p) (bK "load" (.int load) (bK "cap" (.int iU) (bK "most" (.int most) []))))))) h n
  have N:=I _ _ (am (o:=.lst []) a _ _ O) (B.ne e)
  have V:=I _ _ (am (o:=.lst []) a _ _ z) (i.ne g)
  have Y:=I _ _ ai (l.ne a)
  have q:=λ b o (h:_=some o) (n:b≠x)=>R.keep (b:=b) (u:=.ins Ad.bi d (ky (au.new most iU load) p c r U)) h n
  have X:=q _ _ (am (o:=.lst []) F _ _ N) (B.ne e)
  have A:=q _ _ (am (o:=.lst []) F _ _ V) (i.ne g)
  have C:=q _ _ (am (o:=.lst []) F _ _ Y) (l.ne a)
  have D:=q _ _ ai (y.ne F)
  exact k _ _ (FO W S jm X A C D (B.none e) (i.none g) (l.none a) (y.none F) (aD O a) (aD N F) (aD Y F))
def hJ (T:Txt K mg Ad):yx P w K mg base Ad.bi "__init__" 2 ["self","most","cap","load"] [] (BG K Ad.bi) :=
 (oK T).Ji T.qy λ i H=>by
   obtain ⟨U,f,g,rfl,r,R,e⟩:=vals3 H
   exact ⟨[],.nil,λ Z Z Z Z Z Z u h=>by obtain ⟨a,b,c,d,rfl⟩:∃ a b c d,u=[a,b,c,d]:=rC (by simpa using h:u.length=4) λ a b c d=>⟨a,b,c,d,rfl⟩;exact ⟨_,rfl,rfl⟩⟩
def vj (T:Txt K mg Ad):Rh P w K mg base "hold_like" i0 (.ref Ad.lv) 4 ["hold","most","cap","load"] (Ce K Ad.bi):=by
 refine T.yC.dok nh (λ V H Q E h=>?_) (λ f Z Z Z s H V Q E hr h=>?_)
 . obtain ⟨a,fp,m,x,y,z,rfl,Z⟩:=h
   rfl
 .
  obtain ⟨a,fp,m,O,g,j,rfl,hh,U,k⟩:=h
  refine ⟨_,(af (cL (i:=4) nh.nd (xS T.BP (hJ T) hr.m T.FI (aa (sN (aQ qW (pv 1) cQ (aN _)) (bM (pv 0) rfl) (pv 1)) (aa (sN (aQ qW (pv 2) cQ (aN _)) (bM (pv 0) rfl) (pv 2)) (aa (sN (aQ qW (pv 3) cQ (aN _)) (bM (pv 0) rfl) (pv 3)) ac)))))
    (af (eU (pv 4) (dC fV (by rfl) T.rM m9 (aa (bM (pv 0) rfl) ac)) rfl)
    (af (eU (pv 4) (dC tV (by rfl) T.Mv Jg (aa (bM (pv 0) rfl) ac)) rfl)
    (af (eU (pv 4) (dC fV (by rfl) T.rM m9 (aa (bM (pv 0) rfl) ac)) rfl)
    (af (eU (pv 4) (dC fV (by rfl) T.rM m9 (aa (bM (pv 0) rfl) ac)) rfl)
    (ao (aJ (pv 4)))))))),?_⟩
  try dsimp only [dY,aV]
  try (refine li ?_;intro Z Z Z Z Z Z Z)
  obtain ⟨⟨C,pm,pf,ps,pt,vm,V,W,aK,oJ,p,jm,eB,iz,fF,dU,n1,n2,n3,dm,ds,dt,df,fk⟩,q1,q2,q3,q4⟩:=id hh
  refine AZ (o:=O) (d:=m.most) rfl (λ Q' h=>⟨_,rfl,a,_,C,_,_,rfl,p,T.aI,T.h9,sL ..,h⟩) ?_
  refine AZ (o:=g) (d:=m.iU) rfl (λ Q' h=>⟨_,rfl,a,_,C,_,_,rfl,p,T.aI,T.lE,BJ ..,h⟩) ?_
  refine AZ (o:=j) (d:=m.load) rfl (λ Q' h=>⟨_,rfl,a,_,C,_,_,rfl,p,T.aI,T.nW,GA ..,h⟩) ?_
  intro x dx l Nx Qr
  have aj:upd H dx (.own x) x=none:=by rw [aG Qr.symm];exact l
  have s0:aF H (upd (upd H dx (.own x)) x (.ins Ad.bi dx [])):=(am Nx).trans (am aj)
  refine ⟨x,dx,_,_,_,rfl,ai,by rw [aG Qr];exact ai,U.1,U.2.1,U.2.2,λ H1 Wz D=>⟨rfl,?_⟩⟩
  have S:aF H H1:=λ b o e=>D.but b o (s0 b o e) λ q=>by
    simp only [aaa,aae,aaX] at q
    rcases q with rfl|rfl
    . rw [l] at e;cases e
    . rw [Nx] at e;cases e
  have LU:∀ b∈Wz,H b=none:=λ b U=>by
    rcases D.own b U with q|q
    . simp only [aaa,aae,aaX] at q
      rcases q with rfl|rfl
      . exact l
      . exact Nx
    . exact s0.free q
  obtain ⟨⟨B,g1,g2,R,G,Z,Z,Z,Z,Wg,QK,ON,Z⟩,Z⟩:=D.at_
  have Te:H B=none:=LU B (by rw [Wg];simp)
  have T4:B≠x:=bG ON QK nofun
  have M:ju K Ad.bi x B H1 H1 (ky (m.with O g j) g1 g2 R G):=.start QK
  refine ⟨_,rfl,a,_,C,_,_,rfl,S _ _ p,T.aI,T.cq,nN ..,pm,vm,rfl,.inl (bw.of (S _ _ eB)),λ r A=>?_⟩
  have B1:=M.new (o:=.lst vm) A
  refine ⟨_,rfl,x,_,B,_,rfl,B1.at_,T.aI,T.cq,lt1000 rfl,?_⟩
  have v:=B1.put (fs':=ky (m.with O g j) r g2 R G)
  have k2:∀ b o,H b=some o->_=some o:=λ b o h=>v.st b o (S b o h) (aD h l)
  have e1:=B1.keep (u:=.ins Ad.bi B (ky (m.with O g j) r g2 R G)) ai (M.ne A)
  refine ⟨_,rfl,a,_,C,_,_,rfl,k2 _ _ p,T.aI,T.dX,lO ..,pf,aK,rfl,k2 _ _ iz,fk.hash,λ J I=>?_⟩
  have B3:=v.new (o:=.dT aK) I
  refine ⟨_,rfl,x,_,B,_,rfl,B3.at_,T.aI,T.dX,lt1000 rfl,?_⟩
  have N:=B3.put (fs':=ky (m.with O g j) r J R G)
  have k4:∀ b o,H b=some o->_=some o:=λ b o h=>N.st b o (S b o h) (aD h l)
  have WX:=λ b o (h:_=some o) (n:b≠x)=>B3.keep (b:=b) (u:=.ins Ad.bi B (ky (m.with O g j) r J R G)) h n
  have WW:=WX _ _ (am (o:=.dT aK) I _ _ e1) (M.ne A)
  have ZH:=WX _ _ ai (v.ne I)
  refine ⟨_,rfl,a,_,C,_,_,rfl,k4 _ _ p,T.aI,T.cS,ic ..,ps,V,rfl,.inl (bw.of (k4 _ _ fF)),λ l3 t=>?_⟩
  have B5:=N.new (o:=.lst V) t
  refine ⟨_,rfl,x,_,B,_,rfl,B5.at_,T.aI,T.cS,lt1000 rfl,?_⟩
  have X:=B5.put (fs':=ky (m.with O g j) r J l3 G)
  have k6:∀ b o,H b=some o->_=some o:=λ b o h=>X.st b o (S b o h) (aD h l)
  have T3:=λ b o (h:_=some o) (n:b≠x)=>B5.keep (b:=b) (u:=.ins Ad.bi B (ky (m.with O g j) r J l3 G)) h n
  have Y6:=T3 _ _ (am (o:=.lst V) t _ _ WW) (M.ne A)
  have ad:=T3 _ _ (am (o:=.lst V) t _ _ ZH) (v.ne I)
  have Xf:=T3 _ _ ai (N.ne t)
  refine ⟨_,rfl,a,_,C,_,_,rfl,k6 _ _ p,T.aI,T.dD,j7 ..,pt,W,rfl,.inl (bw.of (k6 _ _ dU)),λ l4 F=>?_⟩
  have B7:=X.new (o:=.lst W) F
  refine ⟨_,rfl,x,_,B,_,rfl,B7.at_,T.aI,T.dD,lt1000 rfl,?_⟩
  have B8:=B7.put (fs':=ky (m.with O g j) r J l3 l4)
  have k8:∀ b o,H b=some o->_=some o:=λ b o h=>B8.st b o (S b o h) (aD h l)
  have Y:=λ b o (h:_=some o) (n:b≠x)=>B7.keep (b:=b) (u:=.ins Ad.bi B (ky (m.with O g j) r J l3 l4)) h n
  have ab:=Y _ _ (am (o:=.lst W) F _ _ Y6) (M.ne A)
  have Z4:=Y _ _ (am (o:=.lst W) F _ _ ad) (v.ne I)
  have ae:=Y _ _ (am (o:=.lst W) F _ _ Xf) (N.ne t)
  have Zd:=Y _ _ ai (X.ne F)
  have L:=Ih (m':=m.with O g j) hh p eB iz fF dU S ⟨rfl,rfl,rfl,rfl⟩ B8 (B8.st _ _ ON T4) ab Z4 ae Zd (aD WW t) (aD Y6 F) (aD Xf F)
  refine ⟨_,rfl,k x _ _ k8 L λ c hc=>?_⟩
  simp only [aaa,aae,aaX] at hc
  rcases hc with rfl|rfl|rfl|rfl|rfl|rfl
  . exact l
  . exact Te
  . exact S.free A
  . exact S.free (v.none I)
  . exact S.free (N.none t)
  . exact S.free (X.none F)
def rB (T:Txt K mg Ad):LS P w K mg base "hold_like" 4 ["hold","most","cap","load"] [.bL,.bL,.bL] (Ce K Ad.bi) :=
 (vj T).UP T.xg λ i H=>by
   obtain ⟨U,c,d,rfl,r,R,b⟩:=vals3 H
   exact ⟨[U,c,d],.cons r (.cons R (.cons b .nil)),λ Z Z Z Z Z Z u h=>by obtain ⟨a,rfl⟩:∃ a,u=[a]:=BU (by simpa using h:u.length=1) λ a=>⟨a,rfl⟩;exact ⟨_,rfl,rfl⟩⟩
def bT (T:Txt K mg Ad):Def P w K mg base "_law_cell_at" 1 ["_law_script","_law_k"] (Ab K):=by
 refine T.t5.cX rP λ Z Z Z Z Z H v Q E i h=>?_
 obtain ⟨a,N,z,rfl,d,g,k⟩:=h
 refine ⟨_,(af (bA (aQ nj (pv 1) (aT bQ (by rfl) T.fA dF (aa (pv 0) ac)) (aN _)) (ao (aJ (aE ax (pv 0) (pv 1)))) aL)
     (ao (aJ ah))),?_⟩
 try dsimp only [dY,aV]
 refine ⟨_,rfl,_,rfl,_,_,rfl,.inl d,λ n f=>⟨_,_,rfl,rfl,_,rfl,?_⟩⟩
 rw [Bl] at f
 refine i5 (λ h=>?_) (λ h=>?_)
 .
  have b:z.toNat<N.length:=by lia
  have e:(N.map V.int)[z.toNat]?=some (.int (N[z.toNat]'b)):=by simp [b]
  have c:=bB e
  rw [acS g] at c
  refine ⟨_,rfl,_,rfl,_,_,_,_,rfl,rfl,.inl d,c,k _ (.inl (aaf b))⟩
 . exact k 0 (.inr rfl)
def aR (T:Txt K mg Ad):Def P w K mg base "_law_pick" 1 ["_law_cell","_law_k","_law_many"] Ke:=by
 refine T.AY.cX xQ λ Z Z Z Z Z H v Q E u h=>?_
 obtain ⟨c,k,n,rfl,d,e,N,f⟩:=h
 refine ⟨_,(ao (aJ (aB gu (aB gu (aB bq (aB aM (aB gu (pv 0) ah) ah) (aB aM (aB bq (pv 1) (pv 1)) ah)) ah) (pv 2)))),?_⟩
 try dsimp only [dY,aV]
 refine ⟨_,rfl,_,_,rfl,rfl,by decide,λ y A B m=>⟨_,_,rfl,rfl,λ x o=>?_⟩⟩
 refine ⟨_,rfl,_,rfl,_,_,rfl,rfl,⟨10,10,(show k.natAbs<2 ^ 10 by lia),(show k.natAbs<2 ^ 10 by lia),by decide⟩,λ z p=>⟨_,_,rfl,rfl,λ X q=>?_⟩⟩
 have i:k * k<=1000 * 1000:=Int.mul_le_mul e e d (by decide)
 have g:0<=k * k:=acs d d
 refine ⟨_,_,rfl,rfl,⟨22,22,(show x.natAbs<2 ^ 22 by lia),(show X.natAbs<2 ^ 22 by lia),by decide⟩,λ C s=>⟨_,_,rfl,rfl,by decide,λ D j l t=>?_⟩⟩
 exact ⟨_,rfl,_,_,rfl,rfl,N,λ r a b Z=>f r a b⟩
def hU (T:Txt K mg Ad):Def P w K mg base "_law_ratio" 1 ["_law_top","_law_bottom"] GK:=by
 refine T.yA.cX eY λ Z Z Z Z Z H V Q E I h=>?_
 obtain ⟨t,b,rfl,y,n,k⟩:=h
 refine ⟨_,(af (cL (i:=2) eY.nd (aT oM (by rfl) T.Gh zH (aa (pv 0) ac)))
     (af (cL (i:=3) eY.nd (pv 1))
     (af (xB aaH (aQ pV (pv 3) ah (aN _)) (af (cL (i:=4) eY.nd (aB gu (pv 2) (pv 3)))
     (af (cL (i:=2) eY.nd (pv 3))
     (ao (cL (i:=3) eY.nd (pv 4))))))
     (ao (aJ (bI (aa (aB gA (pv 0) (pv 2)) (aa (aB gA (pv 1) (pv 2)) ac)))))))),?_⟩
 try dsimp only [dY,aV]
 try (refine db ?_;intro Z Z Z Z Z)
 refine ⟨_,rfl,_,rfl,λ G v=>⟨_,rfl,?_⟩⟩
 refine ⟨λ m U c=>c=H/\E3 λ (g l:Int) (r:fH)=>A5 (U=[some (.int t),some (.int b),some (.int g),some (.int l),r]) (0<=g) (0<=l) (m=l.toNat) (Int.gcd g l=Int.gcd t b),
   ⟨_,rfl,G,b,none,rfl,by lia,by lia,rfl,by rw [v];rfl⟩,?_⟩
 rintro m U c ⟨rfl,g,l,r,rfl,j,z,rfl,e⟩
 refine ⟨_,rfl,_,_,rfl,rfl,_,rfl,?_⟩
 refine i5 (λ h=>?_) (λ h=>?_)
 .
  have L:0<l:=h
  refine ⟨λ a f=>f=c/\a=[some (.int t),some (.int b),some (.int l),some (.int (g % l)),some (.int (g % l))],λ a f ⟨o,s⟩=>?_,?_⟩
  . have M:=adm g (by lia:l≠0)
    have J:=acZ g L
    exact ⟨(g % l).toNat,by lia,o,l,g % l,_,s,z,M,rfl,(KB j L).trans e⟩
  . refine ⟨_,rfl,_,rfl,_,_,rfl,rfl,L,λ r Z Z d=>?_⟩
    subst d
    exact ⟨_,rfl,_,rfl,rfl,rfl⟩
 .
  have L:l=0:=by lia
  subst L
  have u:g=((Int.gcd t b:Nat):Int):=by rw [<- e,OV j]
  obtain ⟨C,D,F,fn⟩:=Hs (by lia:b≠0) u
  have B:Bd 8999 g:=(n.le (by lia)).mono (by decide)
  refine ⟨_,rfl,_,rfl,_,_,rfl,rfl,⟨by lia,B⟩,λ q x=>⟨_,rfl,_,rfl,_,_,rfl,rfl,⟨by lia,B⟩,λ r d=>⟨qv,λ p A=>?_⟩⟩⟩
  subst x d
  exact k _ _ p _ (F y) (am A) ai
def iS (T:Txt K mg Ad):Def P w K mg base "_law_warm" 2 ["_law_num","_law_parts","_law_scale_here"] (J9 K):=by
 refine T.Au.cX lF λ Z Z Z Z Z H V Q E x h=>?_
 obtain ⟨n,parts,p,z,rfl,a,ok,B,A,b,k⟩:=h
 refine ⟨_,(af (cL (i:=3) lF.nd (aB bq (aB bq (pv 0) (aE ax (pv 2) ah)) (aE ax (pv 2) ah)))
     (af (cL (i:=3) lF.nd (aB aM (pv 3) (aB bq (aB bq (pv 1) (aE ax (pv 2) ah)) (aE ax (pv 2) ah))))
     (ao (aJ (ap (hU T) x.m (aa (pv 3) (aa (aB bq (aB bq (pv 1) (aE ax (pv 2) ah)) (aE ax (pv 2) ah)) ac))))))),?_⟩
 try dsimp only [dY,aV]
 try (refine fg ?_;intro Z Z Z Z)
 refine ⟨_,rfl,_,rfl,_,_,_,_,rfl,rfl,.inr a,rfl,_,_,rfl,rfl,⟨_,_,B,ok.ba,by decide⟩,λ D e=>⟨_,rfl,_,_,_,_,rfl,rfl,.inr a,rfl,_,_,rfl,rfl,⟨60,_,by rw [e];exact B.mul ok.ba,ok.bd,by decide⟩,λ G j=>?_⟩⟩
 refine ⟨_,rfl,_,rfl,_,rfl,_,_,_,_,rfl,rfl,.inr a,rfl,_,_,rfl,rfl,⟨_,_,b,ok.bt,by decide⟩,λ I c=>⟨_,rfl,_,_,_,_,rfl,rfl,.inr a,rfl,_,_,rfl,rfl,⟨60,_,by rw [c];exact b.mul ok.bt,ok.bb,by decide⟩,λ J l=>⟨_,_,rfl,rfl,λ X o=>?_⟩⟩⟩
 refine ⟨_,rfl,_,rfl,_,rfl,_,_,_,_,rfl,rfl,.inr a,rfl,_,_,rfl,rfl,⟨_,_,b,ok.bb,by decide⟩,λ L d=>⟨_,rfl,_,_,_,_,rfl,rfl,.inr a,rfl,_,_,rfl,rfl,⟨60,_,by rw [d];exact b.mul ok.bb,ok.bd,by decide⟩,λ C s=>?_⟩⟩
 have t:X=cC n parts z:=by rw [o,j,e,l,c];rfl
 have v:C=cm parts z:=by rw [s,d];rfl
 subst t v
 have f:=dP ok A
 refine ⟨_,_,rfl,f,?_,λ q r u g F S y=>k u g S ?_⟩
 . exact ((b.mul ok.bb).mul ok.bd).mono (by decide)
 .
  have:=F.nf f
  rw [y]
  unfold aY
  rw [<- this]
def qr (T:Txt K mg Ad):Def P w K mg base "_law_stove_by" 2 ["_law_a","_law_b","_law_c","_law_room"] pT:=by
 refine T.su.cX gR λ Z Z Z Z Z H V Q E d h=>?_
 obtain ⟨a,b,c,i,rfl,F,l,k⟩:=h
 refine ⟨_,(af (bA (aQ gY (ap (aR T) d.m (aa (pv 1) (aa (aB aM ah (pv 3)) (aa ah ac)))) ah (aN _)) (ao (aJ cQ)) aL)
     (af (cL (i:=4) gR.nd (ap (aR T) d.m (aa (pv 0) (aa (aB aM ah (pv 3)) (aa ah ac)))))
     (af (cL (i:=5) gR.nd (ap (aR T) d.m (aa (pv 0) (aa (aB aM ah (pv 3)) (aa ah ac)))))
     (ao (aJ (bI (aa (ap (aR T) d.m (aa (pv 2) (aa (aB aM ah (pv 3)) (aa ah ac)))) (aa (pv 4) (aa (pv 5) (aa (ap (aR T) d.m (aa (pv 1) (aa (aB aM ah (pv 3)) (aa ah ac)))) ac)))))))))),?_⟩
 try dsimp only [dY,aV]
 try (refine db ?_;intro Z Z Z Z Z)
 refine ⟨_,rfl,_,rfl,_,_,rfl,rfl,λ X t=>⟨_,_,_,rfl,by lia,by lia,by decide,λ r A n=>⟨rfl,_,rfl,?_⟩⟩⟩
 refine i5 (λ h=>l) (λ h=>?_)
 refine ⟨_,rfl,_,rfl,_,_,rfl,rfl,λ I u=>⟨_,_,_,rfl,by lia,by lia,by decide,λ W B o=>?_⟩⟩
 refine ⟨_,rfl,_,rfl,_,_,rfl,rfl,λ J v=>⟨_,_,_,rfl,by lia,by lia,by decide,λ e C q=>?_⟩⟩
 refine ⟨_,rfl,_,rfl,_,_,rfl,rfl,λ L x=>⟨_,_,_,rfl,by lia,by lia,by decide,λ f D s=>?_⟩⟩
 refine ⟨_,rfl,_,rfl,_,rfl,_,rfl,_,_,rfl,rfl,λ M y=>⟨_,_,_,rfl,by lia,by lia,by decide,λ g G z=>⟨LR,λ p j=>?_⟩⟩⟩
 exact k p (f,W,e,g) ⟨⟨D,by show f<=25;lia⟩,⟨B,by show W<=9;lia⟩,⟨C,by show e<=3;lia⟩,⟨G,by show g<=3;lia⟩⟩ j
def vp (T:Txt K mg Ad):Def P w K mg base "_law_scale" 2 ["_law_cell"] Fp:=by
 refine T.xM.cX jD λ Z Z Z Z Z H vs Q E hr h=>?_
 obtain ⟨c,rfl,k⟩:=h
 refine ⟨_,(af (cL (i:=1) jD.nd (aE ax (cY (aa ah (aa ah (aa (aB qF ah ah) (aa (aB qF ah ah) (aa (aB qF ah ah) (aa (aB qF ah ah) ac))))))) (ap (aR T) hr.m (aa (pv 0) (aa ah (aa ah ac))))))
     (af (uy (yi:=2) ["_law_k"] ["_law_far","_law_cell"] [1,0] (.cons ⟨rfl,rfl,.inl rfl⟩ (.cons ⟨rfl,rfl,.inl rfl⟩ .nil)) rfl (bZ rfl T.cZ (aa ah ac)) (λ Z Z Z Z Z=>(rD (i:=0))) (λ Z Z Z Z Z=>fX) (λ Z Z Z Z Z=>(aB aM ah (aB gu (aB gA (aB aM (pv 2) (pv 0)) (aB aM (pv 0) ah)) (pv 1)))) jD.nd (lc rfl))
     (ao (aJ (bI (aa (aE ax (pv 2) ah) (aa (aE ax (pv 2) ah) (aa (aB d6 (aB gu (aB gA (pv 0) ah) (aB aM (aB bq ah (pv 1)) ah)) (pv 1)) (aa (aE ax (pv 2) ah) ac))))))))),?_⟩
 try dsimp only [dY,aV]
 try (refine fg ?_;intro Z Z Z Z)
 refine ⟨_,_,rfl,rfl,⟨by decide,by decide,by decide⟩,λ R B=>⟨_,_,rfl,rfl,⟨by decide,by decide,by decide⟩,λ j C=>⟨_,_,rfl,rfl,⟨by decide,by decide,by decide⟩,λ l F=>⟨_,_,rfl,rfl,⟨by decide,by decide,by decide⟩,λ o G=>⟨(by show 6<=sizeLine;decide),λ y xk=>?_⟩⟩⟩⟩⟩
 refine ⟨_,rfl,_,_,_,rfl,by decide,by decide,by decide,λ r J L=>?_⟩
 obtain ⟨f,x,W⟩:=xu (ns:=[1,12,R,j,l,o]) J L
 have N:1<=f/\f<=10 ^ 9:=by
   have s:R=10000:=B
   have t:j=10000:=C
   have z3:l=10000:=F
   have z4:o=1000000000:=G
   simp only [aaa,aae,aaX] at x
   lia
 refine ⟨y,_,_,_,rfl,rfl,.inl (bw.of ai),W,?_⟩
 refine ⟨_,rfl,by decide,by decide,λ D I=>?_⟩
 have s0:aF H (upd H y (.lst [.int 1,.int 12,.int R,.int j,.int l,.int o])):=am xk
 refine iH (lo:=0) (n:=3) (λ i a U g=>A4 (aF (upd H y (.lst [.int 1,.int 12,.int R,.int j,.int l,.int o])) g) (g D=some (.lst a)) (∃ (e:List Int),A3 (a=e.map V.int) (e.length=i) (∀ z∈e,1<=z/\z<=f)) (∃ v,U=[v,some (.int f),some (.int c)]))
   ⟨am I,ai,⟨[],rfl,rfl,nofun⟩,none,rfl⟩ ?_ ?_
 .
  rintro i a U g hi ⟨S,d,⟨e,rfl,u,b⟩,v,rfl⟩
  refine ⟨_,rfl,_,rfl,_,_,rfl,rfl,λ x1 B=>⟨_,rfl,_,_,rfl,rfl,λ x2 C=>⟨_,_,rfl,rfl,⟨by lia,(TB 8999 (by lia) (by lia))⟩,λ x3 F=>⟨_,rfl,_,_,rfl,rfl,by lia,λ x4 M O G=>⟨_,_,rfl,rfl,λ x5 e5=>?_⟩⟩⟩⟩⟩
  refine ⟨d,aZ (by rw [Bl];lia),S.put I,ai,⟨e++[x5],by rw [aab];rfl,by rw [aad,u];rfl,λ z x=>?_⟩,_,rfl⟩
  rcases aaD.mp x with q|q
  . exact b z q
  . rw [T1.mp q];lia
 .
  rintro a U g ⟨S,d,⟨e,rfl,u,b⟩,v,rfl⟩
  match e,u,b,d with
  | [A,s,t],_,b,d =>
    have X:=b A (by simp)
    have g1:=b s (by simp)
    have g2:=b t (by simp)
    refine ⟨_,rfl,_,_,_,_,rfl,rfl,.inl (bw.of d),rfl,_,rfl,_,_,_,_,rfl,rfl,.inl (bw.of d),rfl,?_⟩
    refine ⟨_,rfl,_,_,rfl,rfl,⟨by decide,TB 8999 (by decide) (by decide)⟩,λ y1 f1=>⟨_,rfl,_,_,rfl,rfl,⟨2,31,mZ,(show f.natAbs<2 ^ 31 by lia),by decide⟩,λ y2 f2=>⟨_,_,rfl,rfl,λ y3 f3=>⟨_,_,rfl,rfl,by lia,λ y4 M O f4=>⟨_,rfl,_,_,rfl,rfl,λ Y f5=>?_⟩⟩⟩⟩⟩
    refine ⟨_,rfl,_,_,_,_,rfl,rfl,.inl (bw.of d),rfl,LR,λ p hp=>?_⟩
    exact k p _ ⟨A,s,Y,t⟩ ⟨X.1,by show A<=_;lia,g1.1,by show s<=_;lia,by show _<=Y;lia,by show Y<=_;lia,g2.1,by show t<=_;lia⟩ (s0.trans (S.trans (am hp))) ai
def vG (T:Txt K mg Ad):Def P w K mg base "_law_drawn" 3 ["_law_script"] (zS K):=by
 refine T.xz.cX cp λ _ _ _ _ _ H B Q E d h=>?_
 obtain ⟨sa,ns,rfl,hS,k⟩:=h
 refine ⟨_,(af (cL (i:=1) cp.nd (ap (bT T) d.m (aa (pv 0) (aa ah ac))))
     (af (cL (i:=2) cp.nd (ap (bT T) d.m (aa (pv 0) (aa ah ac))))
     (af (cL (i:=3) cp.nd (ap (bT T) d.m (aa (pv 0) (aa ah ac))))
     (af (cL (i:=4) cp.nd (aE ax (cY (aa ah (aa ah (aa ah (aa ah (aa ah (aa ah ac))))))) (ap (aR T) d.m (aa (pv 1) (aa ah (aa ah ac))))))
     (af (cL (i:=5) cp.nd (@J3 _ _ _ _ _ (@kQ _ _ _ _ _ _ _ _ _ aP (cY ac) (@kQ _ _ _ _ _ _ _ _ _ aP (cY ac) (@kQ _ _ _ _ _ _ _ _ _ aP (cY ac) (@kQ _ _ _ _ _ _ _ _ _ aP xh (@kQ _ _ _ _ _ _ _ _ _ aP (ap (vp T) d.m (aa (ap (bT T) d.m (aa (pv 0) (aa ah ac))) ac)) Ju))))) rfl rfl (List.cons_ne_nil _ _) (acL rfl)))
     (af (wb (b5 d) (pv 5) aP (bI (aa (ap (aR T) d.m (aa (pv 1) (aa ah (aa ah ac)))) (aa (ap (aR T) d.m (aa (pv 1) (aa ah (aa ah ac)))) (aa (ap (aR T) d.m (aa (pv 1) (aa ah (aa ah ac)))) ac)))) rfl)
     (af (dE aaH rfl (bZ rfl T.cZ (aa (pv 4) ac)) (jo (i:=6) cp.nd) (af (cL (i:=7) cp.nd (cY (aa (aB d6 (ap (aR T) d.m (aa (pv 2) (aa (pv 6) (aa ah ac)))) ah) ac)))
     (af (dE aaH rfl (bZ rfl T.cZ (aa (aB aM ah (ap (aR T) d.m (aa (pv 1) (aa (aB aM ah (pv 6)) (aa (aE ax (cY (aa ah (aa ah (aa ah (aa ah ac))))) (aB d6 (pv 4) ah)) ac))))) ac)) (jo (i:=8) cp.nd) (ao (bC (iR aay aaJ aaI cV (pv 7) (aa (aB aM (aB aM (aE ax (pv 7) (pv 8)) ah) (ap (aR T) d.m (aa (pv 2) (aa (aB aM (aB aM ah (aB bq ah (pv 6))) (pv 8)) (aa ah ac))))) ac)))))
     (af (bC (iR aay aaJ aaI cV (bu (b5 d) (pv 5) aP (λ _ _=>rfl)) (aa (pv 7) ac)))
     (af (cL (i:=9) cp.nd (aB d6 (ap (aR T) d.m (aa (pv 3) (aa (pv 6) (aa ah ac)))) ah))
     (af (bC (iR aay aaJ aaI cV (bu (b5 d) (pv 5) aP (λ _ _=>rfl)) (aa (bI (aa (ap (aR T) d.m (aa (pv 3) (aa (aB aM ah (pv 6)) (aa ah ac)))) (aa (pv 9) (aa (aB aM (pv 9) (ap (aR T) d.m (aa (pv 3) (aa (aB aM ah (pv 6)) (aa ah ac))))) ac)))) ac)))
     (af (bC (iR aay aaJ aaI cV (bu (b5 d) (pv 5) aP (λ _ _=>rfl)) (aa (ap (qr T) d.m (aa (pv 1) (aa (pv 2) (aa (pv 3) (aa (pv 6) ac))))) ac)))
     (ao (dE aaH rfl (bZ rfl T.cZ (aa (pv 4) ac)) (jo (i:=10) cp.nd) (ao (bA (aQ gx (pv 10) (pv 6) (aN _)) (ao (wb (b5 d) (bu (b5 d) (pv 5) aP (λ _ _=>rfl)) (bI (aa (pv 6) (aa (pv 10) ac))) (ap (aR T) d.m (aa (pv 2) (aa (aB aM (aB aM ah (aB bq ah (pv 6))) (pv 10)) (aa ah ac)))) rfl)) aL)))))))))))
     (ao (aJ (pv 5)))))))))),?_⟩
 try dsimp only [dY,aV]
 try (refine xV ?_;intro _ _ _ _ _ _ _ _ _)
 refine ⟨_,rfl,sa,ns,0,rfl,hS,by decide,λ I _=>⟨_,rfl,sa,ns,1,rfl,hS,by decide,λ cb _=>⟨_,rfl,sa,ns,2,rfl,hS,by decide,λ cc _=>?_⟩⟩⟩
 refine ⟨(by show 6<=sizeLine;decide),λ l0 ZT=>⟨_,rfl,I,1,6,rfl,by decide,by decide,by decide,λ r a0 a1=>?_⟩⟩
 obtain ⟨nI,ad,ea⟩:=xu (ns:=[1,1,2,2,3,4]) a0 a1
 refine ⟨l0,_,_,_,rfl,rfl,.inl (bw.of ai),ea,?_⟩
 have hn:1<=nI/\nI<=4:=by
   simp only [aaa,aae,aaX] at ad
   lia
 obtain ⟨n,rfl⟩:∃ n:Nat,nI=(n:Int):=⟨nI.toNat,by lia⟩
 have W:aF H (upd H l0 (.lst [.int 1,.int 1,.int 2,.int 2,.int 3,.int 4])):=am ZT
 intro p hp
 refine ⟨aaV _,λ s eB=>⟨aaV _,λ g fF=>⟨aaV _,λ f dU=>λ u iz=>?_⟩⟩⟩
 have P9:=am (o:=.dK []) hp
 have QC:=am (o:=.lst []) eB
 have Nc:=am (o:=.lst []) fF
 have NJ:=am (o:=.lst []) dU
 have OF:=am (o:=.dT []) iz
 have O2:=P9.trans (QC.trans (Nc.trans (NJ.trans OF)))
 refine ⟨_,rfl,sa,ns,3,rfl,(W.trans O2).seq hS,by decide,λ cd _=>⟨cd,rfl,λ F H2 sc Ky s2 En=>?_⟩⟩
 have Nd:H2 p=some (.dK []):=s2 _ _ (OF _ _ (NJ _ _ (Nc _ _ (QC _ _ ai))))
 have IE:H2 s=some (.lst []):=s2 _ _ (OF _ _ (NJ _ _ (Nc _ _ ai)))
 have IB:H2 g=some (.lst []):=s2 _ _ (OF _ _ (NJ _ _ ai))
 have Jd:H2 f=some (.lst []):=s2 _ _ (OF _ _ ai)
 have Jx:H2 u=some (.dT []):=s2 _ _ ai
 have aj:s≠g:=aD ai fF
 have al:s≠f:=aD (Nc _ _ ai) dU
 have Z7:g≠f:=aD ai dU
 refine ⟨Nd,[(.inr "marks",.ref s),(.inr "sky",.ref g),(.inr "stoves",.ref f),(.inr "flows",.ref u),(.inr "scale",.ref F)],rfl,acL rfl,?_⟩
 have ae:aF H H2:=(W.trans O2).trans s2
 have pn:H p=none:=W.free hp
 refine ⟨_,rfl,I,2,5,rfl,by decide,by decide,by decide,λ w0 XC a8=>⟨_,rfl,I,3,31,rfl,by decide,by decide,by decide,λ w1 a2 a9=>⟨_,rfl,I,4,10,rfl,by decide,by decide,by decide,λ w2 Zv ba=>⟨Ex,λ A Jy=>?_⟩⟩⟩⟩
 refine ⟨_,rfl,_,_,rfl,vU.k (k:=.inr "bounds") (am Jy _ _ ai) (aaY (i7 _ _) (by show 0+5<sizeLine;decide)),?_⟩
 have Yo:s≠p:=bG IE Nd nofun
 have Xo:g≠p:=bG IB Nd nofun
 have WR:f≠p:=bG Jd Nd nofun
 have X5:u≠p:=bG Jx Nd (λ z=>nomatch z)
 have Qv:F≠p:=bG En Nd nofun
 have Yz:∀ {b o o'},H2 b=some o->b≠p->(upd H2 p o') b=some o:=λ h n=>by rw [aG n];exact h
 have bn:∀ {b o},H2 b=some o->b≠p->b≠A:=λ h n=>aD (Yz h n) Jy
 have XM:p≠A:=aD ai Jy
 have b3:∀ {b o o1 o2 o3},H2 b=some o->b≠p->(upd (upd (upd H2 p o1) A o2) p o3) b=some o:=λ h n=>by rw [aG n,aG (bn h n)];exact Yz h n
 have C0:TC K (upd (upd (upd H2 p (.dK (jJ [] [(.inr "marks",.ref s),(.inr "sky",.ref g),(.inr "stoves",.ref f),(.inr "flows",.ref u),(.inr "scale",.ref F)]))) A (.tup [.int w0,.int w1,.int w2])) p
     (.dK (putK (jJ [] [(.inr "marks",.ref s),(.inr "sky",.ref g),(.inr "stoves",.ref f),(.inr "flows",.ref u),(.inr "scale",.ref F)]) (.inr "bounds") (.ref A)))) p s g f u F A [] [] [] [] ⟨[],[],[],λ _ _=>none,sc,(w0,w1,w2)⟩:=by
   refine ⟨ai,b3 IE Yo,b3 IB Xo,b3 Jd WR,b3 Jx X5,aj,al,Z7,rfl,rfl,rfl,λ _ _ _ _=>rfl,⟨acP,nofun⟩,cH.of (sG (b3 En Qv) ?_),cH.of (sG (by rw [aG XM.symm];exact ai) ?_)⟩
   . simp only [aaa,aae,aaX,acG]
     exact ⟨Qv,bG En IE nofun,bG En IB nofun,bG En Jd nofun,bG En Jx nofun⟩
   . simp only [aaa,aae,aaX,acG]
     exact ⟨XM.symm,(bn IE Yo).symm,(bn IB Xo).symm,(bn Jd WR).symm,(bn Jx X5).symm⟩
 have S0:aF H (upd (upd (upd H2 p (.dK (jJ [] [(.inr "marks",.ref s),(.inr "sky",.ref g),(.inr "stoves",.ref f),(.inr "flows",.ref u),(.inr "scale",.ref F)]))) A (.tup [.int w0,.int w1,.int w2])) p
     (.dK (putK (jJ [] [(.inr "marks",.ref s),(.inr "sky",.ref g),(.inr "stoves",.ref f),(.inr "flows",.ref u),(.inr "scale",.ref F)]) (.inr "bounds") (.ref A)))):=((ae.put pn).trans (am Jy)).put pn
 refine ⟨_,rfl,_,rfl,by lia,by lia,?_⟩
 refine fE (lo:=0) (n:=n) (λ i U G=>A3 (aF H G) (E5 λ N B D aK m=>A3 (TC K G p s g f u F A N B D aK m) (qA H G [p,s,g,f,u] N m.marks) (ay.Ok n i m)) (E5 λ x6 x7 X x9 J=>U=[some (.ref sa),some (.int I),some (.int cb),some (.int cc),some (av n),some (.ref p),x6,x7,X,x9,J]))
   ⟨S0,⟨_,_,_,_,_,C0,qA.nil,⟨rfl,rfl,rfl,nofun,nofun,nofun,λ a b h=>absurd h (ab7 a),Ky,⟨XC,by show w0<=4;lia⟩,⟨a2,by show w1<=30;lia⟩,⟨Zv,by show w2<=30;lia⟩⟩⟩,none,none,none,none,none,rfl⟩ ?_ ?_
 .
  rintro _ _ _ i U G hi ⟨S1,⟨N,B,D,aK,m,C,M1,Y⟩,x6,x7,X,x9,J,rfl⟩
  refine ⟨_,rfl,_,rfl,cb,_,61,rfl,by lia,by lia,by decide,λ r0 c0 c1=>⟨_,_,rfl,rfl,λ x0 e0=>⟨MY,λ v M=>?_⟩⟩⟩
  refine ⟨_,rfl,_,rfl,_,_,rfl,rfl,λ y1 f1=>⟨LR,λ l1 Xl=>⟨_,rfl,_,_,rfl,rfl,λ y2 f2=>⟨l1,_,_,_,rfl,rfl,.inl (bw.of ai),JI (by lia) (by lia) f2,?_⟩⟩⟩⟩
  refine ⟨I,y1,_,rfl,by lia,by lia,(by split<;>decide),λ r1 b0 b1=>⟨_,_,rfl,rfl,λ y3 f3=>?_⟩⟩
  obtain ⟨q,rfl⟩:∃ q:Nat,y3=(q:Int):=⟨y3.toNat,by lia⟩
  have hq:1<=q/\q<=if n<=2 then 6 else 4:=by
    split at b1<;>rename_i hc<;>simp only [hc,abR,ach]<;>lia
  have a5:q<=6:=by have:=hq.2;split at this<;>lia
  refine ⟨_,rfl,by lia,by lia,?_⟩
  have sk:aF G (upd G v (.lst [.int x0])):=am M
  have ZV:v≠l1:=aD ai Xl
  refine fE (lo:=0) (n:=q) (λ j U Q5=>A3 (aF G Q5) (∃ (l:List Int),A4 (Q5 v=some (.lst (l.map V.int))) (l.length=j+1) (on l) (∀ x∈l,-30<=x/\x<=30+20 * (j:Int))) (∃ X,U=[some (.ref sa),some (.int I),some (.int cb),some (.int cc),some (av n),some (.ref p),some (.int (0+(i:Int))),some (.ref v),X,x9,J]))
    ⟨sk.trans (am Xl),⟨[x0],by rw [aG ZV];exact ai,rfl,λ a x y h1 h2=>by simp at h2,λ x hx=>by rw [T1.mp hx];lia⟩,X,rfl⟩ ?_ ?_
  .
   rintro _ _ _ j U Q5 hj ⟨S2,⟨l,hk,hl,LY,wR⟩,X,rfl⟩
   have HV:j<l.length:=by lia
   refine ⟨_,rfl,.inl ⟨rfl,_,bw.of hk⟩,_,rfl,_,rfl,v,_,_,_,rfl,rfl,.inl (bw.of hk),IL HV,_,_,rfl,rfl,λ u1 g1=>⟨_,rfl,_,rfl,_,_,rfl,rfl,⟨10,10,mZ,(show (0+(i:Int)).natAbs<2 ^ 10 by lia),by decide⟩,λ u2 g2=>⟨_,_,rfl,rfl,λ u3 g3=>⟨_,rfl,_,_,rfl,rfl,λ u4 g4=>?_⟩⟩⟩⟩
   refine ⟨cb,u4,20,rfl,by lia,by lia,by decide,λ r2 d0 d1=>⟨_,_,rfl,rfl,λ u5 g5=>⟨v,_,_,rfl,rfl,hk,aZ (by rw [Bl];lia),?_⟩⟩⟩
   have a4:=wR l[j] (aaf HV)
   refine ⟨S2.put M,⟨l++[u5],by rw [ai,aab];rfl,by rw [aad,hl];rfl,xv LY hl (by lia),λ x hx=>?_⟩,_,rfl⟩
   rcases aaD.mp hx with z|z
   . have:=wR x z;lia
   . rw [T1.mp z];lia
  .
   rintro U Q5 ⟨S2,⟨l,hk,hl,LY,wR⟩,X,rfl⟩
   have C2:=C.same S2
   have zw:Cs n l:=⟨by lia,by have:=hq.2;split at this<;>rename_i hc<;>simp only [hc,abR,ach]<;>lia,LY,λ x hx=>by have:=wR x hx;lia⟩
   have kL:v∉[p,s,g,f,u]:=by
     simp only [aaa,aae,aaX,acG]
     exact ⟨(aD C.hp M).symm,(aD C.eB M).symm,(aD C.fF M).symm,(aD C.dU M).symm,(aD C.iz M).symm⟩
   have AS:N.length=i:=by rw [C.dm.length,Bl,Y.lm]
   have a6:B.length=i:=by rw [C.ds.length,Bl,Y.ls]
   have ZG:D.length=i:=by rw [C.dt.length,Bl,Y.lt]
   refine ⟨_,rfl,p,_,rfl,bW C2.hp,.inl ⟨rfl,_,bw.of C2.eB⟩,_,rfl,s,N,_,rfl,rfl,C2.eB,aZ (by lia),?_⟩
   have C3:=C2.Fu (l:=l) (x:=.ref v) ⟨v,_,rfl,bw.of (sG hk kL),Cz l⟩
   refine ⟨_,rfl,_,rfl,cc,_,61,rfl,by lia,by lia,by decide,λ r3 m0 m1=>⟨_,_,rfl,rfl,λ L RG=>?_⟩⟩
   refine ⟨_,rfl,p,_,rfl,sQ C3.hp,.inl ⟨rfl,_,bw.of C3.fF⟩,_,rfl,_,rfl,_,_,rfl,rfl,λ v1 h1=>⟨cc,v1,4,rfl,by lia,by lia,by decide,λ sh Zg a7=>⟨_,rfl,_,rfl,_,rfl,_,rfl,_,_,rfl,rfl,λ v2 h2=>⟨cc,v2,31,rfl,by lia,by lia,by decide,λ r4 n0 n1=>⟨_,_,rfl,rfl,λ R a3=>⟨Ex,λ pz zF=>?_⟩⟩⟩⟩⟩⟩
   have Xe:=C3.same (am (o:=.tup [.int sh,.int L,.int R]) zF)
   refine ⟨g,B,_,rfl,rfl,Xe.fF,aZ (by lia),?_⟩
   have C4:=Xe.K8 (l:=(sh,L,R)) (x:=.ref pz) (gi (cH.of (sG ai (C3.Ks zF))) (bS rfl (bS rfl (bS rfl ip))))
   refine ⟨_,rfl,p,_,rfl,dI C4.hp,.inl ⟨rfl,_,bw.of C4.dU⟩,_,rfl,_,rfl,_,rfl,_,rfl,?_⟩
   dsimp only [Dt,acE,ab8,aaT]
   refine yW (a:=I) (b:=cb) (c:=cc) (i:=i) (by simp only [aan];rfl) (by lia) λ zt vq H5 gq=>?_
   have Xk:=C4.same gq.same
   have ab:(upd H5 f (.lst (D++[vq]))) v=some (.lst (l.map V.int)):=by
     simp only [aaa,aae,aaX,acG] at kL
     rw [aG kL.2.2.2.1]
     refine gq.same _ _ ?_
     rw [aG kL.2.2.1]
     refine am zF _ _ ?_
     rw [aG kL.2.1]
     exact hk
   refine ⟨f,D,_,rfl,rfl,Xk.dU,aZ (by lia),?_⟩
   have C5:=Xk.Gp (l:=zt) (x:=vq) (gq.dn λ b S=>C4.Ks S)
   have ar:H s=none:=(W.trans P9).free eB
   have aI:H g=none:=((W.trans P9).trans QC).free fF
   have aW:H f=none:=(((W.trans P9).trans QC).trans Nc).free dU
   have an:H u=none:=((((W.trans P9).trans QC).trans Nc).trans NJ).free iz
   have S5:aF H _:=(((((S1.trans S2).put ar).trans (am (o:=.tup [.int sh,.int L,.int R]) zF)).put (o:=.lst (B++[.ref pz])) aI).trans gq.same).put (o:=.lst (D++[vq])) aW
   have M5:=M1.snoc M (ie (ie (ie (ie (ie (ku S2) (qI (by simp))) (ku (am (o:=.tup [.int sh,.int L,.int R]) zF))) (qI (a:=g) (o:=.lst (B++[.ref pz])) (by simp))) (ku gq.same)) (qI (a:=f) (o:=.lst (D++[vq])) (by simp))) ab kL (S1.free M) (λ x hx=>by have:=wR x hx;lia)
   refine ⟨_,rfl,_,rfl,by lia,by lia,?_⟩
   refine fE (lo:=0) (n:=n) (λ j U H6=>A4 (aF H H6) (E2 λ aK fl=>A3 (TC K H6 p s g f u F A (N++[.ref v]) (B++[.ref pz]) (D++[vq]) aK { m with marks:=m.marks++[l],di:=m.di++[(sh,L,R)],aH:=m.aH++[zt],bF:=fl }) (∀ a b,a<i->b<n->a≠b->∃ k,fl a b=some k/\0<=k/\k<=3) (∀ b,b<j->i≠b->∃ k,fl i b=some k/\0<=k/\k<=3)) (qA H H6 [p,s,g,f,u] (N++[.ref v]) (m.marks++[l])) (∃ J,U=[some (.ref sa),some (.int I),some (.int cb),some (.int cc),some (av n),some (.ref p),some (.int (0+(i:Int))),some (.ref v),X,some (.int L),J]))
     ⟨S5,⟨aK,m.bF,C5,Y.bF,λ b h=>absurd h (ab7 b)⟩,M5,J,rfl⟩ ?_ ?_
   .
    rintro _ _ _ j U H6 hj ⟨S6,⟨Mb,fl,C6,JZ,JP⟩,M6,J,rfl⟩
    refine ⟨_,rfl,_,rfl,rfl,_,rfl,?_⟩
    refine xo (λ h=>?_) (λ h=>?_)
    .
     have ud:i≠j:=λ e=>h (by rw [e])
     refine ⟨_,rfl,_,rfl,_,_,rfl,rfl,⟨10,10,mZ,(show (0+(i:Int)).natAbs<2 ^ 10 by lia),by decide⟩,λ u1 g1=>⟨_,_,rfl,rfl,λ u2 g2=>⟨_,rfl,_,_,rfl,rfl,λ u3 g3=>⟨cb,u3,4,rfl,by lia,by lia,by decide,λ kk k0 k1=>?_⟩⟩⟩⟩
     refine ⟨_,rfl,p,_,rfl,mK C6.hp,_,rfl,_,rfl,qv,λ kp yb=>?_⟩
     have YW:=C6.same (am (o:=.tup [.int (0+(i:Int)),.int (0+(j:Int))]) yb)
     have pj:(upd H6 kp (.tup [.int (0+(i:Int)),.int (0+(j:Int))])) kp=some (.tup ((fq i j).map kV)):=by rw [ai,aan,aan];rfl
     refine ⟨u,_,rfl,vU.t YW.iz pj (aaY C6.fk.len (by decide)),(S6.trans (am yb)).put an,⟨_,_,YW.eE (k:=kk) (by lia) (by lia),λ a b ha S O=>?_,λ b S O=>?_⟩,M6.step (ie (ku (am yb)) (qI (by simp))),_,rfl⟩
     . by_cases e:a=i/\b=j
       . exact ⟨kk,aaq e,k0,by lia⟩
       . obtain ⟨z,h1,h2⟩:=JZ a b ha S O
         exact ⟨z,(aal e).trans h1,h2⟩
     . by_cases e:b=j
       . exact ⟨kk,aaq ⟨rfl,e⟩,k0,by lia⟩
       . obtain ⟨z,h1,h2⟩:=JP b (by lia) O
         exact ⟨z,(aal (λ y=>e y.2)).trans h1,h2⟩
    . have ud:i=j:=by have:=eD.mp h;lia
      exact ⟨S6,⟨Mb,fl,C6,JZ,λ b S O=>JP b (by lia) O⟩,M6,_,rfl⟩
   . rintro U H6 ⟨S6,⟨Mb,fl,C6,JZ,JP⟩,M6,J,rfl⟩
     refine ⟨S6,⟨_,_,_,Mb,_,C6,M6,Y.marks zw ⟨⟨Zg,by show sh<=3;lia⟩,⟨by show -30<=L;lia,by show R<=60;lia⟩,by show L<=R;lia,by show R<=L+30;lia⟩ gq.ok λ a b ha S O=>?_⟩,_,_,_,_,_,rfl⟩
     by_cases e:a=i
     . subst e;exact JP b S O
     . exact JZ a b (by lia) S O
 . rintro U G ⟨S1,⟨N,B,D,aK,m,C,M1,Y⟩,x6,x7,X,x9,J,rfl⟩
   exact ⟨_,rfl,k p G m n (by lia) (by lia) Y S1 ⟨s,g,f,u,F,A,N,B,D,aK,C,M1⟩⟩
def wc (T:Txt K mg Ad):Def P w K mg base "_law_built" 7 ["_law_told"] (FT K Ad.bi):=by
 refine T.yR.cX cP λ Z Z Z Z Z H vs Q E g h=>?_
 obtain ⟨p,c,n,rfl,hT,ok,n1,n4,k⟩:=h
 refine ⟨_,(af (cL (i:=1) cP.nd (bu (b5 g) (pv 0) aP (λ Z Z=>rfl)))
     (af (cL (i:=2) cP.nd (bu (b5 g) (pv 0) aP (λ Z Z=>rfl)))
     (af (cL (i:=3) cP.nd (xS T.BP (hJ T) g.m T.FI (aa (aE ax (pv 1) ah) (aa (aE ax (pv 1) ah) (aa (aE ax (pv 1) ah) ac)))))
     (af (dE aaH rfl (fo (bu (b5 g) (pv 0) aP (λ Z Z=>rfl))) (jo (i:=4) cP.nd) (ao (bC (bv (pv 3) T.aI (nl T) .nil g.m (aa (kr ["_law_num"] ["_law_scale_here"] [2] (.cons ⟨rfl,rfl,.inl rfl⟩ .nil) rfl (fo (pv 4)) (λ Z Z Z Z Z=>(rD (i:=0))) (λ Z Z Z Z Z=>fX) (λ Z Z Z Z Z=>(ap (iS T) g.m (aa (pv 0) (aa ah (aa (pv 1) ac)))))) ac)))))
     (af (dE aaH rfl (bZ rfl T.cZ (aa (aT bQ (by rfl) T.fA dF (aa (bu (b5 g) (pv 0) aP (λ Z Z=>rfl)) ac)) ac)) (jo (i:=5) cP.nd) (af (cL (i:=6) cP.nd (aE ax (bu (b5 g) (pv 0) aP (λ Z Z=>rfl)) (pv 5)))
     (af (bC (bv (pv 3) T.aI (pD T) .nil g.m (aa (pv 5) (aa (ap (hU T) g.m (aa (aE ax (pv 6) ah) (aa ah ac))) (aa (ap (iS T) g.m (aa (aE ax (pv 6) ah) (aa ah (aa (pv 2) ac)))) (aa (ap (iS T) g.m (aa (aE ax (pv 6) ah) (aa ah (aa (pv 2) ac)))) ac))))))
     (af (cL (i:=7) cP.nd (aE ax (bu (b5 g) (pv 0) aP (λ Z Z=>rfl)) (pv 5)))
     (af (oT (bA (aQ m8 (pv 7) cQ (aN _)) (ao (bC (FR (pv 3) T.aI (kI T) g.m (aa (pv 5) (aa (ap (hU T) g.m (aa (aB bq (aE ax (pv 7) ah) (aE ax (pv 2) ah)) (aa (aE ax (pv 2) ah) ac))) (aa (aE ax (pv 7) ah) (aa (aE ax (pv 7) ah) (aa (aE ax (pv 7) ah) ac)))))))) aL))
     (ao (dE aaH rfl (bZ rfl T.cZ (aa (aT bQ (by rfl) T.fA dF (aa (bu (b5 g) (pv 0) aP (λ Z Z=>rfl)) ac)) ac)) (jo (i:=8) cP.nd) (ao (bA (aQ gx (pv 8) (pv 5) (aN _)) (ao (bC (bv (pv 3) T.aI (mV T) .nil g.m (aa (pv 5) (aa (pv 8) (aa (ap (hU T) g.m (aa (bu (b5 g) (bu (b5 g) (pv 0) aP (λ Z Z=>rfl)) (bI (aa (pv 5) (aa (pv 8) ac))) (λ Z Z=>rfl)) (aa ah ac))) ac)))))) aL)))))))))
     (ao (aJ (pv 3)))))))),?_⟩
 try dsimp only [dY,aV]
 try (refine li ?_;intro Z Z Z Z Z Z Z)
 obtain ⟨pm,ps,pt,pf,G,pb,vm,vs,vt,aK,C⟩:=id hT
 have hb:cH K H pb [.int c.bounds.1,.int c.bounds.2.1,.int c.bounds.2.2]:=cJ.tup C.bo
 have Ky:cH K H G c.scale.vs:=cJ.tup C.sc
 refine ⟨_,rfl,p,_,rfl,iY C.hp,⟨_,rfl,p,_,rfl,sy C.hp,?_⟩⟩
 refine ⟨_,rfl,_,_,_,_,rfl,rfl,.inr hb,rfl,_,rfl,_,_,_,_,rfl,rfl,.inr hb,rfl,_,rfl,_,_,_,_,rfl,rfl,.inr hb,rfl,?_⟩
 intro a CD fa Nx Qr
 have aW:upd H CD (.own a) a=none:=by rw [aG Qr.symm];exact fa
 have s0:aF H (upd (upd H CD (.own a)) a (.ins Ad.bi CD [])):=(am Nx).trans (am aW)
 refine ⟨a,CD,_,_,_,rfl,ai,by rw [aG Qr];exact ai,ok.bounds.1,ok.bounds.2.1,ok.bounds.2.2,λ H1 Wz D=>⟨rfl,?_⟩⟩
 obtain ⟨S1,F1⟩:=D.keep s0 (λ b hb=>by
   simp only [aaa,aae,aaX] at hb
   rcases hb with rfl|rfl
   . exact fa
   . exact Nx)
 have C1:=C.same S1
 refine ⟨_,rfl,p,_,rfl,bW C1.hp,pm,rfl,⟨vm,bw.of C1.eB⟩,?_⟩
 have AS:vm.length=n:=by rw [C.dm.length,Bl,ok.lm]
 refine uj (xs:=vm) (λ i U I=>A4 (aF H I) (∃ y,bj K Ad.bi I a y (c.m1 i)/\∀ b∈y,H b=none) ((c.m1 i).rows=(c.marks.take i).map c.row) (E5 λ x4 x5 x6 x7 X=>U=[some (.ref p),some (.ref pb),some (.ref G),some (.ref a),x4,x5,x6,x7,X]))
   ⟨S1,⟨Wz,D.at_,F1⟩,rfl,none,none,none,none,none,rfl⟩ (λ i U I Z e=>bw.of (e.1 _ _ C.eB)) ?_ ?_
 .
  rintro Z Z i x U I hx ⟨S2,⟨y,hh,hF⟩,ut,x4,x5,x6,x7,X,rfl⟩
  refine Hb ?_;intro Z Z Z
  have M:i<c.marks.length:=by rw [ok.lm,<- AS];exact (Yp.mp hx).1
  have C2:=C.same S2
  obtain ⟨v,ev,pk,ws,rfl,uY,EO⟩:=C2.dm.get (i:=i) (d:=xt c.marks[i]) (by rw [RI,aw M];rfl)
  obtain rfl:x = .ref pk:=aai (hx.symm.trans ev)
  obtain rfl:=fw EO
  have zw:=ok.rows c.marks[i] (aaf M)
  have EJ:bw K I pk (c.marks[i].map V.int):=cJ.seq uY
  obtain ⟨⟨dx,Z,Z,Z,Z,Z,Z,Z,Z,Z,ha,Z⟩,Z⟩:=id hh
  have La:(c.m1 i).rows.length=i:=by rw [ut,Bl,aat];lia
  refine ⟨_,rfl,a,dx,_,rfl,ha,rfl,_,rfl,pk,rfl,⟨_,EJ⟩,λ Dl hD=>?_⟩
  refine ij (K:=K) (a:=pk) (xs:=c.marks[i].map V.int) (λ j A U J=>A4 (aF I J) (J Dl=some (.lst A)) (cn K J ((c.marks[i].take j).map λ x=>dL (aY x 1 c.scale)) A) (∃ v,U=[v,some (.ref G)]))
    ⟨am hD,ai,rfl,none,rfl⟩ (λ j A U J Z e=>e.1.seq EJ) ?_ ?_
  .
   rintro j x A U J Ml ⟨s3,i9,d3,v,rfl⟩
   have HV:j<c.marks[i].length:=by have:=(Yp.mp Ml).1;rw [Bl] at this;exact this
   have ex:x = .int c.marks[i][j]:=by
     rw [RI,aw HV] at Ml
     exact (aai Ml).symm
   subst ex
   have a5:=zw.bd c.marks[i][j] (aaf HV)
   refine ⟨_,rfl,_,rfl,_,1,G,c.scale,rfl,(S2.trans s3).tup Ky,ok.scale,(show (c.marks[i][j]).natAbs<2 ^ 30 by lia),by decide,mZ,λ q R s4 hq=>?_⟩
   have la:A.length=j:=by rw [d3.length,Bl,aat];lia
   have Lg:cB K R (upd R Dl (.lst (A++[.ref q]))):=fc (s4 _ _ i9) rfl
   refine ⟨s4 _ _ i9,aZ (by have:=zw.most;split at this<;>lia),(s3.trans s4).put hD,ai,?_,_,rfl⟩
   rw [abB,aw HV,aab]
   exact (cn.ts ((aF.ts s4).trans Lg) _ (lM _ _) d3).snoc (Dn.ts Lg _ (gw _) (n9 (cH.of hq)))
  .
   rintro A U J ⟨s3,i9,d3,v,rfl⟩
   rw [Bl,aa2] at d3
   have RK:c.marks[i].length<=7:=by have:=zw.most;split at this<;>lia
   refine ⟨a,y,c.m1 i,Dl,A,c.row c.marks[i],rfl,hh.same s3,by have:=ok.lm;lia,bw.of i9,by unfold ay.row;rw [acq];exact d3,Mx ok.scale zw,by unfold ay.row;rw [Bl];exact zw.two,by unfold ay.row;rw [Bl];exact RK,Bh ok.scale zw.Ol,?_,λ R Py D4=>?_⟩
   .
    have e:(c.m1 i).rows++[c.row c.marks[i]]=(c.marks.take (i+1)).map c.row:=by rw [ut,abB,aw M,aab];rfl
    rw [e]
    refine (FU (n:=n) rfl n4 (λ r g=>?_) ?_).2
    . refine HZ ok r ?_
      obtain ⟨l,hl,rfl⟩:=aax.mp g
      exact aax.mpr ⟨l,List.mem_of_mem_take hl,rfl⟩
    . rw [Bl,aat,ok.lm];lia
   .
    obtain ⟨S4,F4⟩:=D4.keep (S2.trans s3) hF
    have em:=ay.Iu (aw M)
    refine ⟨S4,⟨Py,by rw [em];exact D4.at_,F4⟩,?_,_,_,_,_,_,rfl⟩
    rw [em]
    show (c.m1 i).rows++[c.row c.marks[i]]=_
    rw [ut,abB,aw M,aab];rfl
 .
  rintro U I ⟨S2,⟨y,hh,hF⟩,ut,x4,x5,x6,x7,X,rfl⟩
  rw [AS] at hh ut
  have C2:=C.same S2
  have La:(c.m1 n).rows.length=n:=by rw [ut,Bl,aat,ok.lm];lia
  refine ⟨_,rfl,p,_,rfl,bW C2.hp,pm,vm,rfl,.inl (bw.of C2.eB),λ r er=>?_⟩
  obtain rfl:r=(n:Int):=by rw [er,AS]
  refine ⟨_,rfl,by lia,by lia,?_⟩
  refine fE (lo:=0) (n:=n) (λ i U I=>A5 (aF H I) (∃ y,bj K Ad.bi I a y (c.m2 n i)/\∀ b∈y,H b=none) ((c.m2 n i).rows.length=n) (Tw (c.m2 n i)) (E5 λ x4 x5 x6 x7 X=>U=[some (.ref p),some (.ref pb),some (.ref G),some (.ref a),x4,x5,x6,x7,X]))
    ⟨S2,⟨y,hh,hF⟩,La,⟨_,_,c.QI n,⟨λ Z=>by decide,λ Z Z=>by decide,λ Z=>rfl⟩⟩,x4,x5,x6,x7,X,rfl⟩ ?_ ?_
  .
   rintro Z Z Z i U J M ⟨S3,⟨Wb,Ro,Wq⟩,Nk,tw,y4,y5,y6,y7,y8,rfl⟩
   have C3:=C.same S3
   have xP:i<c.di.length:=by rw [ok.ls];exact M
   have mS:i<c.aH.length:=by rw [ok.lt];exact M
   obtain ⟨vz,Sm,pz,wz,rfl,zF,dz⟩:=C3.ds.get (i:=i) (d:=Gx c.di[i]) (by rw [RI,aw xP];rfl)
   obtain ⟨z1,r1,rfl,W,z2,r2,rfl,L,z3,r3,rfl,Y,e4⟩:=dz
   have e4:r3=[]:=e4
   have W:z1 = .int c.di[i].1:=W
   have L:z2 = .int c.di[i].2.1:=L
   have Y:z3 = .int c.di[i].2.2:=Y
   subst W L Y e4
   have hz:cH K J pz [.int c.di[i].1,.int c.di[i].2.1,.int c.di[i].2.2]:=cJ.tup zF
   have Kd:=ok.di c.di[i] (aaf xP)
   obtain ⟨⟨dx,Z,Z,Z,Z,Z,Z,Z,Z,Z,ha,Z⟩,a6,lst,Z⟩:=id Ro
   refine ⟨_,rfl,p,_,rfl,sQ C3.hp,_,rfl,ps,vs,_,_,rfl,rfl,.inl (bw.of C3.fF),by rw [aan];exact bB Sm,?_⟩
   refine ⟨_,rfl,a,dx,_,rfl,ha,rfl,_,rfl,_,rfl,pz,_,_,_,rfl,rfl,.inr hz,rfl,_,12,rfl,by decide,mZ,λ q r u Hr F sr hu=>?_⟩
   refine ⟨_,rfl,pz,_,_,_,rfl,rfl,.inr (sr.tup hz),rfl,_,rfl,_,1,G,c.scale,rfl,(S3.trans sr).tup Ky,ok.scale,(show (c.di[i].2.1).natAbs<2 ^ 30 by lia),by decide,mZ,λ q1 Hw sw HN=>?_⟩
   refine ⟨_,rfl,pz,_,_,_,rfl,rfl,.inr (sw.tup (sr.tup hz)),rfl,_,rfl,_,1,G,c.scale,rfl,((S3.trans sr).trans sw).tup Ky,ok.scale,(show (c.di[i].2.2).natAbs<2 ^ 30 by lia),by decide,mZ,λ q2 Hx sx HJ=>?_⟩
   have Yi:=(sr.trans sw).trans sx
   have SD:Ov 12 c.di[i].1 (nf c.di[i].1 12):=Ov.nf (by decide)
   have W0:∀ x:Int,-200<=x->x<=200->eJ 100 (aY x 1 c.scale):=λ x h1 h2=>(qM (n:=8) ok.scale (by decide) (show x.natAbs<2 ^ 8 by lia) mZ).mono (by decide)
   refine ⟨a,Wb,_,i,.ref u,.ref q1,.ref q2,nf c.di[i].1 12,aY c.di[i].2.1 1 c.scale,aY c.di[i].2.2 1 c.scale,by rw [aan];rfl,Ro.same Yi,by lia,Dn.same (sw.trans sx) _ (ER (by decide) F hu),Dn.same sx _ (n9 (cH.of HN)),n9 (cH.of HJ),
     Hi (by decide) (show (c.di[i].1).natAbs<2 ^ 100 by lia) mZ,W0 _ (by lia) (by lia),W0 _ (by lia) (by lia),?_,L2.Ov.nonneg (by decide) SD Kd.1.1,tw.u8 (by lia) (by lia) SD Kd.1.2,λ R Py D4=>?_⟩
   . rw [j3 ok.scale (by decide)]
     exact aap (by lia)
   .
    obtain ⟨S4,F4⟩:=D4.keep (S3.trans Yi) Wq
    have C4:=C.same S4
    have L8:c.fW (c.m2 n i) i=(c.m2 n i).ft i (c.nP c.di[i]):=by unfold ay.fW;rw [aw xP]
    have ab:Tw (c.fW (c.m2 n i) i):=by rw [L8];exact tw.di (by lia) SD Kd.1.1 Kd.1.2
    have WD:(c.fW (c.m2 n i) i).rows.length=n:=by rw [L8];exact Nk
    have Q4:bj K Ad.bi R a Py (c.fW (c.m2 n i) i):=by rw [L8];exact D4.at_
    generalize a3:c.fW (c.m2 n i) i=N at ab WD Q4
    obtain ⟨vq,HP,dq⟩:=C4.dt.get (i:=i) (d:=stI c.aH[i]) (by rw [RI,aw mS];rfl)
    refine ⟨_,rfl,p,_,rfl,dI C4.hp,_,rfl,pt,vt,_,_,rfl,rfl,.inl (bw.of C4.dU),by rw [aan];exact bB HP,?_⟩
    refine ⟨λ ae H5=>A5 (aF H H5) (∃ y,bj K Ad.bi H5 a y (c.bY N i)/\∀ b∈y,H b=none) ((c.bY N i).rows.length=n) (Tw (c.bY N i)) (E2 λ y6 y7=>ae=[some (.ref p),some (.ref pb),some (.ref G),some (.ref a),y4,some (.int (0+(i:Int))),y6,y7,y8]),?_,?_⟩
    .
     refine ⟨_,rfl,rfl,_,rfl,?_⟩
     cases xT:c.aH[i] with
     | none =>
       rw [xT] at dq
       have dq:vq = .bL:=dq
       subst dq
       have es:c.bY N i=N:=by unfold ay.bY;rw [aw mS,xT]
       rw [es]
       refine dJ rfl ⟨S4,⟨Py,Q4,F4⟩,WD,ab,_,_,rfl⟩
     | some z =>
       rw [xT] at dq
       obtain ⟨pq,wq,rfl,HB,t1,r1,rfl,W,t2,r2,rfl,L,t3,r3,rfl,Y,t4,r4,rfl,e4,e5⟩:=dq
       have e5:r4=[]:=e5
       have W:t1 = .int z.1:=W
       have L:t2 = .int z.2.1:=L
       have Y:t3 = .int z.2.2.1:=Y
       have e4:t4 = .int z.2.2.2:=e4
       subst W L Y e4 e5
       have HS:cH K R pq [.int z.1,.int z.2.1,.int z.2.2.1,.int z.2.2.2]:=cJ.tup HB
       have HM:=ok.aH z (by rw [<- xT];exact aaf mS)
       have NP:cH K R G c.scale.vs:=S4.tup Ky
       obtain ⟨⟨al,Z,Z,Z,Z,Z,Z,Z,Z,Z,a2,Z⟩,Z⟩:=id Q4
       refine FK nofun ⟨_,rfl,a,al,_,rfl,a2,rfl,_,rfl,_,rfl,pq,_,_,_,rfl,rfl,.inr HS,rfl,_,rfl,G,_,_,_,rfl,rfl,.inr NP,rfl,_,_,rfl,rfl,⟨10,30,(show (z.1).natAbs<2 ^ 10 by have:=HM.h;lia),ok.scale.ba,by decide⟩,λ yy ey=>?_⟩
       have hB:0<c.scale.b:=by have:=ok.scale.b0;lia
       refine ⟨_,rfl,G,_,_,_,rfl,rfl,.inr NP,rfl,yy,c.scale.b,rfl,hB,ok.scale.bb.mono (by decide),λ q' r' u' aj F' S Ma=>?_⟩
       refine ⟨_,rfl,pq,_,_,_,rfl,rfl,.inr (S.tup HS),rfl,_,rfl,pq,_,_,_,rfl,rfl,.inr (S.tup HS),rfl,_,rfl,pq,_,_,_,rfl,rfl,.inr (S.tup HS),rfl,?_⟩
       subst ey
       have bz:Bd 40 (z.1 * c.scale.a):=Bd.mul (m:=10) (n:=30) (show (z.1).natAbs<2 ^ 10 by have:=HM.h;lia) ok.scale.ba
       have ob:Ov c.scale.b (z.1 * c.scale.a) (nf (z.1 * c.scale.a) c.scale.b):=Ov.nf hB
       have es:c.bY N i=N.gy i (c.iQ z):=by unfold ay.bY;rw [aw mS,xT]
       refine ⟨a,Py,N,i,.ref u',nf (z.1 * c.scale.a) c.scale.b,z.2.1,z.2.2.1,z.2.2.2,by rw [aan];rfl,Q4.same S,by lia,ER hB F' Ma,Hi hB (bz.mono (by decide)) (ok.scale.bb.mono (by decide)),L2.Ov.nonneg hB ob (acs HM.h.1 (by have:=ok.scale.a0;lia)),HM.w,HM.s,HM.f,λ H5 U4 D5=>?_⟩
       obtain ⟨S5,F5⟩:=D5.keep (S4.trans S) F4
       rw [es]
       exact ⟨S5,⟨U4,D5.at_,F5⟩,WD,ab.lg,_,_,rfl⟩
    .
     rintro ae H5 ⟨S5,⟨U4,WT,F5⟩,Yv,ad,y6,y7,rfl⟩
     have C5:=C.same S5
     refine ⟨_,rfl,p,_,rfl,bW C5.hp,pm,vm,rfl,.inl (bw.of C5.eB),λ r' ar=>?_⟩
     obtain rfl:r'=(n:Int):=by rw [ar,AS]
     refine ⟨_,rfl,by lia,by lia,?_⟩
     generalize a4:c.bY N i=m5 at WT Yv ad
     refine fE (lo:=0) (n:=n) (λ j U H6=>A5 (aF H H6) (∃ y,bj K Ad.bi H6 a y (c.eG i m5 j)/\∀ b∈y,H b=none) ((c.eG i m5 j).rows.length=n) (Tw (c.eG i m5 j)) (∃ X,U=[some (.ref p),some (.ref pb),some (.ref G),some (.ref a),y4,some (.int (0+(i:Int))),y6,y7,X]))
       ⟨S5,⟨U4,WT,F5⟩,Yv,ad,_,rfl⟩ ?_ ?_
     .
      rintro Z Z Z j U H6 hj ⟨S6,⟨RF,Nn,F6⟩,OZ,B,X,rfl⟩
      refine ⟨_,rfl,_,rfl,rfl,_,rfl,?_⟩
      rw [ay.ol]
      generalize c.eG i m5 j=m6 at Nn OZ B
      refine xo (λ h=>?_) (λ h=>?_)
      .
       have ud:i≠j:=λ e=>h (by rw [e])
       obtain ⟨O,hk,k0,k3⟩:=ok.bF i j M hj ud
       have C6:=C.same S6
       obtain ⟨⟨an,Z,Z,Z,Z,Z,Z,Z,Z,Z,Zb,Z⟩,Z⟩:=id Nn
       refine ⟨_,rfl,a,an,_,rfl,Zb,rfl,_,rfl,_,rfl,_,rfl,p,_,rfl,mK C6.hp,_,rfl,_,rfl,qv,λ kp yb=>?_⟩
       have sk:=am (o:=.tup [.int (0+(i:Int)),.int (0+(j:Int))]) yb
       have pj:(upd H6 kp (.tup [.int (0+(i:Int)),.int (0+(j:Int))])) kp=some (.tup ((fq i j).map kV)):=by rw [ai,aan,aan];rfl
       have Dc:gk (upd H6 kp (.tup [.int (0+(i:Int)),.int (0+(j:Int))])) pf (.ref kp) (some (.int O)):=by
         have:=gk.t (k:=fq i j) (sk _ _ C6.iz) pj
         rw [C6.df i j (by lia) (by lia),hk] at this
         exact this
       refine ⟨pf,.int O,rfl,Dc,O,12,rfl,by decide,mZ,λ q' r' u' aj F' S Ma=>?_⟩
       have Lr:Ov 12 O (nf O 12):=Ov.nf (by decide)
       have sA:=sk.trans S
       refine ⟨a,RF,m6,i,j,.ref u',nf O 12,by rw [aan,aan];rfl,Nn.same sA,by lia,by lia,ud,ER (by decide) F' Ma,Hi (by decide) (show O.natAbs<2 ^ 100 by lia) mZ,L2.Ov.nonneg (by decide) Lr k0,B.sK (by lia) (by lia) ud (by lia) Lr k3,λ H7 a1 D7=>?_⟩
       obtain ⟨S7,F7⟩:=D7.keep (S6.trans sA) F6
       have ef:c.fS i m6 j=m6.eE i j (nf O 12):=by unfold ay.fS;rw [aal ud.symm,hk]
       rw [ef]
       exact ⟨S7,⟨a1,D7.at_,F7⟩,OZ,B.fb ud Lr k0 k3,_,rfl⟩
      . have ud:i=j:=by have:=eD.mp h;lia
        have ef:c.fS i m6 j=m6:=by unfold ay.fS;rw [aaq ud.symm]
        rw [ef]
        exact ⟨S6,⟨RF,Nn,F6⟩,OZ,B,_,rfl⟩
     . rintro U H6 ⟨S6,⟨RF,Nn,F6⟩,OZ,B,X,rfl⟩
       have L:c.m2 n (i+1)=c.eG i m5 n:=by rw [ay.Ct,<- a4,<- a3];rfl
       rw [L]
       exact ⟨S6,⟨RF,Nn,F6⟩,OZ,B,_,_,_,_,_,rfl⟩
  . rintro U J ⟨S3,⟨Wb,Ro,Wq⟩,Nk,tw,y4,y5,y6,y7,y8,rfl⟩
    exact ⟨_,rfl,k a J Wb S3 Ro Wq Nk tw⟩
def lA (T:Txt K mg Ad):Def P w K mg base "has_room" 1 ["bits","room"] yn:=by
 refine T.Az.cX xr λ Z Z Z Z Z H v Q E b h=>?_
 obtain ⟨n,r,rfl,k⟩:=h
 refine ⟨_,(ao (aJ (de gY (aB gu (aB vP (pv 0) (pv 1)) ah) ah (aN _)))),?_⟩
 try dsimp only [dY,aV]
 refine ⟨_,rfl,_,rfl,_,_,rfl,rfl,abz _,λ s a=>⟨_,_,rfl,rfl,by decide,λ m Z Z e=>⟨rfl,?_⟩⟩⟩
 rw [Bw n r a e]
 exact k
def nU (T:Txt K mg Ad):Def P w K mg base "with_room" 1 ["bits","room"] wG:=by
 refine T.xN.cX vA λ Z Z Z Z Z H v Q E c h=>?_
 obtain ⟨n,r,rfl,G,k⟩:=h
 refine ⟨_,(ao (aJ (aB AQ (pv 0) (aB IA ah (pv 1))))),?_⟩
 try dsimp only [dY,aV]
 refine ⟨_,rfl,_,rfl,_,_,rfl,rfl,⟨abz _,by lia,by decide⟩,λ s b=>⟨_,_,rfl,rfl,λ m a=>?_⟩⟩
 have e:s=((2 ^ r:Nat):Int):=by rw [b,abe,Int.one_mul,Int.natCast_pow];rfl
 rw [a,e,CF]
 exact k
def j2 (T:Txt K mg Ad):Def P w K mg base "members" 2 ["bits"] Ay:=by
 refine T.CL.cX Br λ Z Z Z Z Z H V Q E l h=>?_
 obtain ⟨n,rfl,j,k⟩:=h
 refine ⟨_,(ao (aJ (kr ["room"] ["bits"] [0] (.cons ⟨rfl,rfl,.inl rfl⟩ .nil) rfl (bZ rfl T.cZ (aa (LK PySem.F.plainAttrs_int PySem.F.slot_int_bit_length PySem.F.type_int_bit_length Du (pv 0)) ac)) (λ Z Z Z Z Z=>(rD (i:=0))) (λ Z Z Z Z Z=>(lI (bX (ap (lA T) l.m (aa (pv 1) (aa (pv 0) ac)))))) (λ Z Z Z Z Z=>(pv 0))))),?_⟩
 try dsimp only [dY,aV]
 refine ⟨_,rfl,rfl,_,rfl,rfl,λ b o=>?_⟩
 have g:Builtin.Int.intBits (n:Int)<=61:=acf.mpr (by simpa using j)
 have M:n<2 ^ Builtin.Int.intBits (n:Int):=by
   have:=acf.mp (aac (Builtin.Int.intBits (n:Int)))
   simpa using this
 have f:b.toNat=Builtin.Int.intBits (n:Int):=by lia
 refine ⟨b,rfl,by lia,by lia,λ D d=>?_⟩
 refine iH (λ i a U c=>A3 (c=upd H D (.lst a)) (a=((List.range i).filter n.testBit).map av) (∃ v,U=[v,some (av n)])) ⟨rfl,rfl,none,rfl⟩ ?_ ?_
 .
  rintro i a U c p ⟨rfl,rfl,v,rfl⟩
  refine ⟨_,rfl,_,rfl,n,i,(by show [_,_]=[_,_];rw [aan];rfl),_,rfl,?_⟩
  have e:((List.range (i+1)).filter n.testBit).map av=((List.range i).filter n.testBit).map av++(if n.testBit i=true then [av i] else []):=by
    rw [aaS,aa9,aab]
    by_cases q:n.testBit i=true<;>simp [q]
  by_cases q:n.testBit i=true
  .
   rw [q]
   refine fu ⟨_,rfl,ai,?_,?_,?_,_,rfl⟩
   . have:=aa1 n.testBit (List.range i)
     rw [aaG] at this
     rw [Bl]
     exact aZ (by lia)
   . rw [Cv]
   . rw [e,aaq q,aan];rfl
  . rw [Bool.not_eq_true] at q
    rw [q]
    refine ff ⟨rfl,?_,_,rfl⟩
    rw [e,q];simp
 . rintro a U c ⟨rfl,rfl,v,rfl⟩
   refine k D _ d (am d) ?_
   rw [ai,f,Bit.A8 M g]
def zO (T:Txt K mg Ad):Def P w K mg base "subsets" 3 ["bits"] Av:=by
 refine T.Di.cX jN λ _ _ _ _ _ H vs Q E B h=>?_
 obtain ⟨n,rfl,M,h8,k⟩:=h
 refine ⟨_,(af (cL (i:=1) jN.nd (cY (aa ah ac)))
     (af (dE aaH rfl (fo (ap (j2 T) B.m (aa (pv 0) ac))) (jo (i:=2) jN.nd) (ao (cL (i:=1) jN.nd (aB Ap (pv 1) (kr ["part"] ["room"] [2] (.cons ⟨rfl,rfl,.inl rfl⟩ .nil) rfl (fo (pv 1)) (λ _ _ _ _ _=>(rD (i:=0))) (λ _ _ _ _ _=>fX) (λ _ _ _ _ _=>(ap (nU T) B.m (aa (pv 0) (aa (pv 1) ac)))))))))
     (ao (aJ (pv 1))))),?_⟩
 try dsimp only [dY,aV]
 try (refine fg ?_;intro _ _ _ _)
 refine ⟨(by show 1<=sizeLine;decide),λ V X=>⟨_,rfl,n,rfl,M,λ F J eB I C=>⟨F,rfl,⟨_,bw.of C⟩,?_⟩⟩⟩
 have S:=(am (o:=.lst [.int 0]) X).trans I
 refine lB (K:=K) (a:=F) (xs:=(Bit.rooms n).map av) (λ i U d=>aF J d/\E2 λ (b:ag) (v:fH)=>A3 (H b=none) (U=[some (av n),some (.ref b),v]) (d b=some (.lst ((Bit.parts ((Bit.rooms n).take i)).map av))))
   ⟨aF.refl _,V,none,X,rfl,I _ _ ai⟩ (λ i U d _ ⟨s,_⟩=>bw.of (s _ _ C)) ?_ ?_
 .
  rintro i x U d O ⟨s,b,v,W,rfl,f⟩
  obtain ⟨r,t,rfl⟩:=eS O
  have II:i<(Bit.rooms n).length:=(Yp.mp t).1
  have ZS:r<61:=(Bit.dH.mp (aaO t)).1
  have ZF:(Bit.parts ((Bit.rooms n).take i)).length<=256:=by
    rw [(Ij n i).len,aat]
    exact aa3 (aba (by decide) (by lia:min i (Bit.rooms n).length<=8)) (by decide)
  have next:Bit.parts ((Bit.rooms n).take (i+1))=Bit.parts ((Bit.rooms n).take i)++(Bit.parts ((Bit.rooms n).take i)).map (· ||| 2 ^ r):=by
    rw [ig t,A9]
  generalize Bit.parts ((Bit.rooms n).take i)=g at *
  refine ⟨_,rfl,_,rfl,b,rfl,⟨_,bw.of f⟩,λ D u=>?_⟩
  have N:b≠D:=aD f u
  refine ij (K:=K) (a:=b) (xs:=g.map av) (λ j A c l=>A3 (l=upd d D (.lst A)) (A=(g.take j).map (λ p=>av (p ||| 2 ^ r))) (∃ v,c=[v,some (av r)])) ⟨rfl,rfl,none,rfl⟩
    (λ j A c l _ ⟨e,_,_⟩=>by subst e;exact bw.of (by rw [aG N];exact f)) ?_ ?_
  .
   rintro j y A c l R ⟨rfl,rfl,v2,rfl⟩
   obtain ⟨p,L,rfl⟩:=eS R
   refine ⟨_,rfl,_,rfl,p,r,rfl,by lia,ai,?_,?_,?_,_,rfl⟩
   . rw [Bl,aat];exact aZ (by lia)
   . rw [Cv]
   . rw [ig L,aab];rfl
  .
   rintro A c l ⟨rfl,rfl,v2,rfl⟩
   rw [Bl,aa2]
   refine ⟨b,D,_,_,rfl,rfl,(by rw [aG N];exact f),ai,?_,λ q z=>?_⟩
   . rw [Bl,Bl];exact ac5 (aZ (by lia))
   . have G:=am (o:=.lst (g.map λ p=>av (p ||| 2 ^ r))) u
     have Y:=am (o:=.lst (g.map av++g.map λ p=>av (p ||| 2 ^ r))) z
     refine ⟨s.trans (G.trans Y),q,_,S.free (s.free (G.free z)),rfl,?_⟩
     rw [ai,next,aab,acq];rfl
 . rintro U d ⟨s,b,v,W,rfl,f⟩
   rw [Bl,aa2] at f
   exact ⟨_,rfl,k b d W (S.trans s) f⟩
def pN (T:Txt K mg Ad):Def P w K mg base "how_many" 3 ["bits"] xx:=by
 refine T.AN.cX xi λ Z Z Z Z Z H v Q E c h=>?_
 obtain ⟨n,rfl,b,k⟩:=h
 refine ⟨_,(ao (aJ (aT bQ (by rfl) T.fA dF (aa (ap (j2 T) c.m (aa (pv 0) ac)) ac)))),?_⟩
 try dsimp only [dY,aV]
 refine ⟨_,rfl,n,rfl,b,λ p a f s d=>⟨p,_,rfl,.inl (bw.of d),λ y e=>?_⟩⟩
 rw [Bl] at e
 rw [e]
 exact k a s
def mw (T:Txt K mg Ad):Def P w K mg base "bits_of" 2 ["rooms"] (Ej K):=by
 refine T.DV.cX j5 λ Z Z Z Z Z H V Q E j h=>?_
 obtain ⟨p,l,rfl,d,g,k⟩:=h
 refine ⟨_,(af (cL (i:=1) j5.nd ah)
     (af (dE aaH rfl (fo (pv 0)) (jo (i:=2) j5.nd) (ao (cL (i:=1) j5.nd (ap (nU T) j.m (aa (pv 1) (aa (pv 2) ac))))))
     (ao (aJ (pv 1))))),?_⟩
 try dsimp only [dY,aV]
 try (refine fg ?_;intro Z Z Z Z)
 refine ⟨_,rfl,p,rfl,⟨_,d⟩,?_⟩
 refine lB (K:=K) (a:=p) (xs:=l.map av) (λ i U b=>b=H/\∃ v,U=[some (.ref p),some (av (Bit.sumOf (l.take i))),v]) ⟨rfl,none,rfl⟩ (λ i U b Z e=>by rw [e.1];exact d) ?_ ?_
 .
  rintro i x U b n ⟨rfl,v,rfl⟩
  obtain ⟨r,c,rfl⟩:=eS n
  have f:Bit.sumOf (l.take (i+1))=Bit.sumOf (l.take i) ||| 2 ^ r:=by
    rw [ig c]
    unfold Bit.sumOf
    rw [abd]
    rfl
  exact ⟨_,rfl,_,rfl,_,r,rfl,g r (aaO c),rfl,_,by rw [f];rfl⟩
 . rintro U b ⟨rfl,v,rfl⟩
   rw [Bl,aa2]
   exact ⟨_,rfl,k⟩
def tJ (T:Txt K mg Ad):Def P w K mg base "fits_stove" 1 ["stove","fired","wait","failed"] (t6 K):=by
 refine T.wa.cX ja λ Z Z Z Z Z H r Q E l h=>?_
 obtain ⟨v,z,f,W,b,rfl,a,c,k⟩:=h
 refine ⟨_,(af (bA (aQ qW (pv 0) cQ (aN _)) (ao (aJ (iE (mH (pv 1)) (iE (de gY (pv 2) ah (aN _)) (i8 (de gY (pv 3) ah (aN _))))))) aL)
     (af (jB (ko Cw (pv 0) (jF ah) vC) (eC (K:=K) (n:=2) rfl rfl (aX (jo (i:=4) ja.nd) (aX (jo (i:=5) ja.nd) eF))))
     (af (bA (PW.pt (jn (dM (jt f9 f9 ah (pv 2) (pv 4))) (iy (dM (jt f9 f9 ah (pv 3) (pv 5)))))) (ao (aJ fh)) aL)
     (ao (aJ (KP (de gY (pv 3) ah (aN _)) (i8 (iE (mH (pv 1)) (i8 (de gY (pv 2) ah (aN _))))))))))),?_⟩
 try dsimp only [dY,aV]
 try (refine db ?_;intro Z Z Z Z Z)
 cases z with
 | none =>
   obtain ⟨rfl,rfl,rfl⟩:=c
   have a:v = .bL:=a
   subst a
   exact ⟨_,rfl,rfl,_,rfl,mU rfl ⟨_,rfl,_,rfl,_,rfl,fu ⟨_,rfl,rfl,_,rfl,mU rfl ⟨_,rfl,rfl,Vh rfl (k H (aF.refl _))⟩⟩⟩⟩
 | some z =>
   obtain ⟨p,m,rfl,g,Z⟩:=a.lg
   refine ⟨_,rfl,rfl,_,rfl,mr nofun ?_⟩
   refine ⟨_,rfl,2,rfl,p,_,2,rfl,g,rfl,rfl,by decide,(by show 2<=4;decide),λ q j=>?_⟩
   refine ⟨q,_,rfl,cH.of ai,rfl,_,_,rfl,_,_,rfl,rfl,?_⟩
   have s:=am (o:=.tup [V.int z.2.2.1,V.int z.2.2.2]) j
   obtain ⟨F,d,e⟩:=c
   refine ⟨_,rfl,_,_,rfl,rfl,_,rfl,mU (by lia) ⟨_,rfl,_,_,rfl,rfl,_,rfl,dJ F ?_⟩⟩
   refine ⟨_,rfl,_,_,rfl,rfl,_,rfl,mU (by lia) ⟨_,rfl,_,_,rfl,rfl,_,rfl,dJ d ?_⟩⟩
   refine ⟨_,rfl,rfl,_,rfl,?_⟩
   rcases e with rfl|⟨rfl,rfl⟩
   . exact mU rfl (k _ s)
   . refine i5 (λ Z=>k _ s) (λ Z=>⟨_,rfl,_,rfl,_,rfl,fu ⟨_,rfl,rfl,Vh rfl (k _ s)⟩⟩)
def va (T:Txt K mg Ad):Def P w K mg base "fits_room" 5 ["hold","state","room"] (wD K Ad.bi):=by
 refine T.ya.cX e9 λ Z Z Z Z Z H vs Q E c h=>?_
 obtain ⟨a,f,m,p,I,i,rfl,d,B,ok,b,k⟩:=h
 refine ⟨_,(af (jB (pv 1) (eC (K:=K) (n:=5) rfl rfl (aX (jo (i:=3) e9.nd) (aX (jo (i:=4) e9.nd) (aX (jo (i:=5) e9.nd) (aX (jo (i:=6) e9.nd) (aX (jo (i:=7) e9.nd) eF)))))))
     (af (bA (dM (jt f9 nj ah (aE ax (pv 3) (pv 2)) (aB d6 (aT bQ (by rfl) T.fA dF (aa (bv (pv 0) T.aI (fY T) .nil c.m (aa (pv 2) ac)) ac)) ah))) (ao (aJ fh)) aL)
     (ao (aJ (ap (tJ T) c.m (aa (bv (pv 0) T.aI (eQ T) .nil c.m (aa (pv 2) ac)) (aa (ap (lA T) c.m (aa (pv 4) (aa (pv 2) ac))) (aa (aE ax (pv 5) (pv 2)) (aa (aE ax (pv 6) (pv 2)) ac))))))))),?_⟩
 try dsimp only [dY,aV]
 try (refine fg ?_;intro Z Z Z Z)
 obtain ⟨R,W,U,l,r,u,t⟩:=id B
 obtain ⟨⟨D,Z,Z,Z,Z,Z,Z,Z,Z,Z,e,Z⟩,X,Y,q3,G⟩:=id d
 have O:=aw b
 have M:m.rows.getD i []=m.rows[i]:=by rw [Nr,O];rfl
 have A:=ok.band i b
 rw [M] at A
 have N:=G.len m.rows[i] (aaf b)
 have C:=nv (m:=m) (i:=i) (by lia)
 refine ⟨_,rfl,p,_,rfl,l,rfl,_,_,rfl,_,_,rfl,_,_,rfl,_,_,rfl,_,_,rfl,rfl,?_⟩
 refine ⟨_,rfl,_,rfl,_,_,_,_,rfl,rfl,.inr r,xH (by rw [ok.lb];exact b),_,_,rfl,rfl,_,rfl,mU (by lia) ?_⟩
 refine ⟨_,rfl,a,D,_,rfl,e,rfl,_,rfl,a,f,m,i,_,rfl,d,O,λ F x q V=>⟨F,x,rfl,.inl (bw.of ai),λ y J=>⟨_,_,rfl,rfl,λ z L=>⟨_,_,rfl,rfl,_,rfl,dJ ?_ ?_⟩⟩⟩⟩
 . have:=V.length
   rw [Bl] at this
   lia
 have s:=am (o:=.lst x) q
 refine ⟨_,rfl,a,D,_,rfl,s _ _ e,rfl,_,rfl,a,f,m,i,_,rfl,d.same s,C,λ v j=>?_⟩
 refine ⟨_,rfl,_,rfl,I.dO,i,rfl,?_⟩
 refine ⟨_,rfl,_,rfl,_,_,_,_,rfl,rfl,.inr (s.tup u),xH (by rw [ok.lw];exact b),?_⟩
 refine ⟨_,rfl,_,rfl,_,_,_,_,rfl,rfl,.inr (s.tup t),xH (by rw [ok.lf];exact b),?_⟩
 exact ⟨v,m.yE i,_,_,_,rfl,j,ok.lg i b,λ g S=>k g (s.trans S)⟩
def wV (T:Txt K mg Ad):Def P w K mg base "is_state" 6 ["hold","state"] (yg K Ad.bi):=by
 refine T.Ak.cX eL λ Z Z Z Z Z H W Q E l h=>?_
 obtain ⟨a,F,m,p,d,rfl,j,r,ok,k⟩:=h
 refine ⟨_,(af (jB (pv 1) (eC (K:=K) (n:=5) rfl rfl (aX (jo (i:=2) eL.nd) (aX (jo (i:=3) eL.nd) (aX (jo (i:=4) eL.nd) (aX (jo (i:=5) eL.nd) (aX (jo (i:=6) eL.nd) eF)))))))
     (af (cL (i:=7) eL.nd (dS (pv 0) T.aI (dQ T) .nil l.m))
     (af (bA (PW.pt (jn (aQ gx (aT bQ (by rfl) T.fA dF (aa (pv 2) ac)) (pv 7) (aN _)) (jn (aQ gx (aT bQ (by rfl) T.fA dF (aa (pv 4) ac)) (pv 7) (aN _)) (iy (aQ gx (aT bQ (by rfl) T.fA dF (aa (pv 5) ac)) (pv 7) (aN _)))))) (ao (aJ fh)) aL)
     (af (bA (PW.pt (jn (aQ gx (aB vP (pv 3) (pv 7)) ah (aN _)) (iy (aQ pV (ap (pN T) l.m (aa (pv 3) ac)) (bM (pv 0) rfl) (aN _))))) (ao (aJ fh)) aL)
     (af (bA (dM (jt f9 f9 ah (pv 6) (bM (pv 0) rfl))) (ao (aJ fh)) aL)
     (ao (aJ (aT (pF rfl) (by rfl) T.GU AU (aa (kr ["room"] ["hold","state"] [0,1] (.cons ⟨rfl,rfl,.inl rfl⟩ (.cons ⟨rfl,rfl,.inl rfl⟩ .nil)) rfl (bZ rfl T.cZ (aa (pv 7) ac)) (λ Z Z Z Z Z=>(rD (i:=0))) (λ Z Z Z Z Z=>fX) (λ Z Z Z Z Z=>(ap (va T) l.m (aa (pv 1) (aa (pv 2) (aa (pv 0) ac)))))) ac))))))))),?_⟩
 try dsimp only [dY,aV]
 try (refine li ?_;intro Z Z Z Z Z Z Z)
 obtain ⟨N,R,O,B,C,J,G⟩:=id r
 obtain ⟨⟨f,pm,Y,Mq,MK,vm,W,vt,aK,Z,g,Z⟩,q1,q2,q3,q4⟩:=id j
 have z:d.dO<2 ^ 61:=aam ok.dO (aba (by decide) (by lia))
 refine ⟨_,rfl,p,_,rfl,B,rfl,_,_,rfl,_,_,rfl,_,_,rfl,_,_,rfl,_,_,rfl,rfl,?_⟩
 refine ⟨_,rfl,a,f,_,rfl,g,rfl,a,F,m,rfl,j,?_⟩
 refine ⟨_,rfl,N,_,rfl,.inr C,λ y e=>⟨_,rfl,rfl,_,rfl,dJ (by rw [e,Bl,ok.lb];rfl) ?_⟩⟩
 refine ⟨_,rfl,R,_,rfl,.inr J,λ y e=>⟨_,rfl,rfl,_,rfl,dJ (by rw [e,Bl,ok.lw];rfl) ?_⟩⟩
 refine ⟨_,rfl,O,_,rfl,.inr G,λ y e=>⟨_,rfl,rfl,_,rfl,dJ (by rw [e,Bl,ok.lf];rfl) ?_⟩⟩
 refine ⟨_,rfl,_,rfl,_,_,rfl,rfl,abz _,λ s I=>⟨rfl,_,rfl,dJ ?_ ?_⟩⟩
 . rw [I,abe]
   have:((d.dO:Nat):Int) / 2 ^ m.rows.length=0:=Int.ediv_eq_zero_of_lt (abz _) (by exact_mod_cast ok.dO)
   rw [this]
 refine ⟨_,rfl,d.dO,rfl,z,λ u S=>⟨_,rfl,a,_,f,_,_,rfl,S _ _ g,T.aI,T.h9,sL ..,_,_,rfl,rfl,_,rfl,mr (by have:=ok.most;lia) ?_⟩⟩
 refine ⟨_,rfl,_,_,rfl,rfl,_,rfl,mU (by lia) ⟨_,rfl,a,_,f,_,_,rfl,S _ _ g,T.aI,T.lE,BJ ..,_,_,rfl,rfl,_,rfl,dJ ok.heap ?_⟩⟩
 refine ⟨_,rfl,_,rfl,by lia,by lia,λ D q=>?_⟩
 refine iH (lo:=0) (n:=m.rows.length) (λ i A U b=>A4 (aF u b) (b D=some (.lst A)) (A=(List.replicate i true).map V.bl) (∃ v,U=[v,some (.ref a),some (.ref p)])) ⟨am q,ai,rfl,none,rfl⟩ ?_ ?_
 . rintro i A U b L ⟨c,o,rfl,v,rfl⟩
   refine ⟨_,rfl,_,rfl,_,rfl,a,F,m,p,d,i,(by rw [aan];rfl),j.same (S.trans c),r.same (S.trans c),ok,L,λ X t=>⟨t _ _ o,aZ (by rw [Bl,aby];lia),(c.trans t).put q,ai,?_,_,rfl⟩⟩
   rw [List.replicate_succ',aab];rfl
 .
  rintro A U b ⟨c,o,rfl,v,rfl⟩
  refine ⟨D,_,rfl,bw.of o,?_⟩
  have:(List.replicate m.rows.length true).all id=true:=by
    rw [abv]
    intro x M
    exact (List.mem_replicate.mp M).2
  rw [this]
  exact k b (S.trans c)
def ge (T:Txt K mg Ad):Def P w K mg base "look_at_state" 7 ["hold","state"] (tS K Ad.bi):=by
 refine T.qp.cX o5 λ Z Z Z Z Z H v Q E d h=>?_
 obtain ⟨a,f,m,p,S,rfl,c,e,ok,k⟩:=h
 refine ⟨_,(ao (bA (dM (bX (ap (wV T) d.m (aa (pv 0) (aa (pv 1) ac))))) (ao bH) aL)),?_⟩
 try dsimp only [dY,aV]
 exact ⟨_,rfl,_,rfl,a,f,m,p,S,rfl,c,e,ok,λ b s=>⟨_,rfl,ff (k b s)⟩⟩
def l5 (T:Txt K mg Ad):Def P w K mg base "with_stove" 5 ["hold"] (tj K Ad.bi):=by
 refine T.wB.cX tP λ Z Z Z Z Z H V Q E c h=>?_
 obtain ⟨a,F,m,rfl,g,k⟩:=h
 refine ⟨_,(ao (aJ (ap (mw T) c.m (aa (kr ["room"] ["hold"] [0] (.cons ⟨rfl,rfl,.inl rfl⟩ .nil) rfl (bZ rfl T.cZ (aa (dS (pv 0) T.aI (dQ T) .nil c.m) ac)) (λ Z Z Z Z Z=>(rD (i:=0))) (λ Z Z Z Z Z=>(lI (aQ m8 (bv (pv 1) T.aI (eQ T) .nil c.m (aa (pv 0) ac)) cQ (aN _)))) (λ Z Z Z Z Z=>(pv 0))) ac)))),?_⟩
 try dsimp only [dY,aV]
 obtain ⟨⟨l,G,x,y,M,S,V,W,B,Z,t,Z⟩,J,N,O,R⟩:=id g
 refine ⟨_,rfl,a,l,_,rfl,t,rfl,a,F,m,rfl,g,_,rfl,by lia,by lia,λ D p=>?_⟩
 refine iH (lo:=0) (n:=m.rows.length) (λ i A U b=>A4 (aF H b) (b D=some (.lst A)) (A=((List.range i).filter m.has).map av) (∃ v,U=[v,some (.ref a)])) ⟨am p,ai,rfl,none,rfl⟩ ?_ ?_
 .
  rintro i A U b C ⟨s,f,rfl,v,rfl⟩
  have u:=nv (m:=m) (i:=i) (by lia)
  have o:((List.range (i+1)).filter m.has).map av=((List.range i).filter m.has).map av++(if m.has i=true then [av i] else []):=by
    rw [aaS,aa9,aab]
    by_cases q:m.has i=true<;>simp [q]
  have L:=aa1 m.has (List.range i)
  rw [aaG] at L
  refine ⟨_,rfl,a,l,_,rfl,s _ _ t,rfl,_,rfl,a,F,m,i,_,(by rw [aan];rfl),g.same s,u,λ v d=>⟨rfl,_,rfl,?_⟩⟩
  cases e:m.yE i with
  | none =>
    rw [e] at d
    have d:v = .bL:=d
    have j:m.has i=false:=by unfold au.has;rw [e];rfl
    refine dJ d ⟨s,f,?_,_,rfl⟩
    rw [o,j];simp
  | some z =>
    rw [e] at d
    obtain ⟨I,Z,rfl,Z⟩:=d.lg
    have j:m.has i=true:=by unfold au.has;rw [e];rfl
    refine FK nofun ⟨_,rfl,f,aZ (by rw [Bl];lia),s.put p,ai,?_,_,rfl⟩
    rw [o,j,aan];rfl
 . rintro A U b ⟨s,f,rfl,v,rfl⟩
   exact ⟨D,(List.range m.rows.length).filter m.has,rfl,bw.of f,λ r c=>by have:=aaK.mp (aaW.mp c).1;lia,k b s⟩
def Al (T:Txt K mg Ad):Def P w K mg base "wood_of" 6 ["hold","bits"] (zI K Ad.bi):=by
 refine T.D3.cX Bg λ Z Z Z Z Z H Y Q E l h=>?_
 obtain ⟨a,F,m,b,rfl,g,k⟩:=h
 refine ⟨_,(ao (aJ (aT (Dv rfl) (by rfl) T.Of Ly (aa (kr ["room"] ["hold"] [0] (.cons ⟨rfl,rfl,.inl rfl⟩ .nil) rfl (fo (ap (j2 T) l.m (aa (aB iW (pv 1) (ap (l5 T) l.m (aa (pv 0) ac))) ac))) (λ Z Z Z Z Z=>(rD (i:=0))) (λ Z Z Z Z Z=>fX) (λ Z Z Z Z Z=>(aE (iZ (K:=K) rfl) (bv (pv 1) T.aI (eQ T) .nil l.m (aa (pv 0) ac)) ah))) ac)))),?_⟩
 try dsimp only [dY,aV]
 obtain ⟨⟨I,pm,K5,Mq,MK,vm,Y,vt,aK,Z,L,Z⟩,q1,q2,R,q4⟩:=id g
 refine ⟨_,rfl,_,rfl,a,F,m,rfl,g,λ H1 W=>⟨_,_,rfl,rfl,λ y J=>⟨b &&& m.ws,(by rw [J,iw];rfl),?_,λ o G gU X n=>⟨o,rfl,⟨_,bw.of n⟩,λ D f=>?_⟩⟩⟩⟩
 . exact aaY acD (acn (Cy R) (by decide))
 have S:=W.trans X
 have lr:=t7 (b &&& m.ws)
 have nD:o≠D:=aD n f
 refine ij (K:=K) (a:=o) (xs:=(Bit.rooms (b &&& m.ws)).map av) (λ j A U c=>A4 (aF G c) (c D=some (.lst A)) (A=(((Bit.rooms (b &&& m.ws)).take j).map m.wd).map V.int) (∃ v,U=[v,some (.ref a)]))
   ⟨am f,ai,rfl,none,rfl⟩ (λ j A U c Z e=>bw.of (e.1 _ _ n)) ?_ ?_
 .
  rintro j x A U c M ⟨s,p,rfl,v,rfl⟩
  obtain ⟨r,d,rfl⟩:=eS M
  have B:=(Bit.dH.mp (aaO d)).2
  rw [aa0,au.ws,Ord.iP,aaw,aaw,aaR] at B
  obtain ⟨Z,Gk,C⟩:=B
  obtain ⟨z,t⟩:=abg.mp C
  have N:=nv (m:=m) (i:=r) (by lia)
  have hj:j<(Bit.rooms (b &&& m.ws)).length:=(Yp.mp d).1
  refine ⟨_,rfl,a,I,_,rfl,(S.trans s) _ _ L,rfl,_,rfl,a,F,m,r,_,rfl,g.same (S.trans s),N,λ u q=>?_⟩
  rw [t] at q
  obtain ⟨O,v1,rfl,zF,Z⟩:=q.lg
  refine ⟨O,_,_,_,rfl,rfl,.inr zF,rfl,p,aZ (by rw [Bl,Bl,aat];lia),s.put f,ai,?_,_,rfl⟩
  rw [ig d,aab,aab]
  have:m.wd r=z.2.1:=by unfold au.wd;rw [t];rfl
  show _=_++[V.int (m.wd r)]
  rw [this]
 .
  rintro A U c ⟨s,p,rfl,v,rfl⟩
  rw [Bl,aa2] at p
  refine ⟨D,_,rfl,bw.of p,λ r d=>?_⟩
  rw [d]
  exact k c (S.trans s)
def vX (T:Txt K mg Ad):Def P w K mg base "must_stay" 3 ["state"] (vO K):=by
 refine T.zd.cX wC λ Z Z Z Z Z H R Q E d h=>?_
 obtain ⟨p,s,rfl,B,J,k⟩:=h
 refine ⟨_,(ao (aJ (ap (mw T) d.m (aa (kr ["room","wait"] [] [] .nil rfl (Lb rfl T.fB (aa (aE ax (pv 0) ah) ac)) (λ Z Z Z Z Z=>(eC (K:=K) (n:=2) rfl rfl (aX (rD (i:=0)) (aX (rD (i:=1)) eF)))) (λ Z Z Z Z Z=>(lI (aQ pV (pv 1) ah (aN _)))) (λ Z Z Z Z Z=>(pv 0))) ac)))),?_⟩
 try dsimp only [dY,aV]
 obtain ⟨M,u,O,z,F,o,G⟩:=id B
 refine ⟨_,rfl,p,_,_,_,rfl,rfl,.inr z,rfl,u,rfl,⟨_,o⟩,λ D q=>?_⟩
 refine jG (sq:=cH K) (a:=u) (xs:=s.iT.map av) (λ i A U b=>A4 (aF H b) (b D=some (.lst A)) (A=((List.range i).filter s.wt).map av) (E2 λ v V=>U=[v,V]))
   ⟨am q,ai,rfl,none,none,rfl⟩ (λ i A U b Z e=>e.1.tup o) ?_ ?_
 .
  rintro i x g A U b C W ⟨S,c,rfl,v,V,rfl⟩
  obtain ⟨y,X,rfl⟩:=eS C
  have I:i<s.iT.length:=(Yp.mp X).1
  have l:gN s.iT i=y:=by unfold gN;rw [X];rfl
  have j:aF b (upd b g (.tup [av i,av y])):=am W
  have N:D≠g:=aD c W
  have t:=j _ _ c
  have L:=aa1 s.wt (List.range i)
  rw [aaG] at L
  refine ⟨g,_,rfl,cH.of ai,rfl,_,_,rfl,_,_,rfl,rfl,?_⟩
  refine ⟨_,rfl,_,_,rfl,rfl,_,rfl,i5 (λ h=>?_) (λ h=>?_)⟩
  . have f:s.wt i=true:=by unfold gW.wt;rw [l];exact aaC (by lia)
    refine ⟨_,rfl,t,aZ (by rw [Bl];lia),(S.trans j).put q,ai,?_,_,_,rfl⟩
    rw [aaS,aa9,aab]
    simp [f]
  . have f:s.wt i=false:=by unfold gW.wt;rw [l];exact aap (by lia)
    refine ⟨S.trans j,t,?_,_,_,rfl⟩
    rw [aaS,aa9,aab]
    simp [f]
 . rintro A U b ⟨S,c,rfl,v,V,rfl⟩
   rw [Bl] at c
   exact ⟨D,(List.range s.iT.length).filter s.wt,rfl,bw.of c,λ r d=>by have:=aaK.mp (aaW.mp d).1;lia,k b S⟩
def zq (T:Txt K mg Ad):Def P w K mg base "can_burn" 7 ["hold","order","heap"] (xb K Ad.bi):=by
 refine T.Bm.cX w6 λ Z Z Z Z Z H v Q E d h=>?_
 obtain ⟨a,F,m,o,b,rfl,c,j,k⟩:=h
 refine ⟨_,(ao (aJ (iE (de f9 (ap (pN T) d.m (aa (pv 1) ac)) (bM (pv 0) rfl) (aN _)) (i8 (de f9 (ap (Al T) d.m (aa (pv 0) (aa (pv 1) ac))) (pv 2) (aN _)))))),?_⟩
 try dsimp only [dY,aV]
 obtain ⟨⟨D,p,l,n,M,V,v,x,A,Z,i,Z⟩,q,r,t,u⟩:=id c
 refine ⟨_,rfl,o,rfl,j,λ f s=>⟨_,rfl,a,_,D,_,_,rfl,s _ _ i,T.aI,T.h9,sL ..,_,_,rfl,rfl,_,rfl,i5 (λ h=>?_) (λ h=>?_)⟩⟩
 .
  refine ⟨_,rfl,_,rfl,a,F,m,o,rfl,c.same s,λ g S=>⟨_,rfl,_,_,rfl,rfl,?_⟩⟩
  have e:m.Ge o b=decide (m.vT o<=b):=by unfold au.Ge;rw [aaC h,Bool.true_and]
  have:=k g (s.trans S)
  rw [e] at this
  exact this
 .
  have e:m.Ge o b=false:=by unfold au.Ge;rw [aap h,adu]
  have:=k f s
  rw [e] at this
  exact this
def vg (T:Txt K mg Ad):Def P w K mg base "orders_of" 8 ["hold","state"] (vK K Ad.bi):=by
 refine T.zh.cX jS λ Z Z Z Z Z H vs Q E c h=>?_
 obtain ⟨a,F,m,p,s,rfl,l,C,ok,k⟩:=h
 refine ⟨_,(af (bC (ap (ge T) c.m (aa (pv 0) (aa (pv 1) ac))))
     (af (cL (i:=2) jS.nd (ap (vX T) c.m (aa (pv 1) ac)))
     (af (cL (i:=3) jS.nd (aB iW (aE ax (pv 1) ah) (pv 2)))
     (ao (aJ (kr ["order"] ["going_on","hold","held","state"] [3,0,2,1] (.cons ⟨rfl,rfl,.inl rfl⟩ (.cons ⟨rfl,rfl,.inl rfl⟩ (.cons ⟨rfl,rfl,.inl rfl⟩ (.cons ⟨rfl,rfl,.inl rfl⟩ .nil)))) rfl (fo (ap (zO T) c.m (aa (ap (l5 T) c.m (aa (pv 0) ac)) ac))) (λ Z Z Z Z Z=>(rD (i:=0))) (λ Z Z Z Z Z=>(lI (PW.pt (o7 (aQ gY (aB iW (pv 0) (pv 3)) (pv 1) (aN _)) (lS (bX (ap (zq T) c.m (aa (pv 2) (aa (pv 0) (aa (aE (iZ (K:=K) rfl) (pv 4) ah) ac)))))))))) (λ Z Z Z Z Z=>(pv 0)))))))),?_⟩
 try dsimp only [dY,aV]
 try (refine db ?_;intro Z Z Z Z Z)
 obtain ⟨pb,pw,pf,J,eb,ew,ef⟩:=id C
 obtain ⟨⟨dx,pm,K5,Mq,MK,vm,vs,vt,aK,Z,ha,Z⟩,q1,q2,O,q4⟩:=id l
 refine ⟨_,rfl,_,rfl,a,F,m,p,s,rfl,l,C,ok,λ H1 R=>?_⟩
 refine ⟨_,rfl,p,s,rfl,C.same R,by rw [ok.lw];exact O,λ H2 s2=>?_⟩
 have r:=R.trans s2
 refine ⟨_,rfl,p,_,_,_,rfl,rfl,.inr (r.tup J),rfl,_,rfl,_,_,rfl,rfl,λ go t=>?_⟩
 obtain rfl:go=((s.dO &&& s.held:Nat):Int):=by rw [t,iw]
 have L:=Cy O
 have W:(Bit.rooms m.ws).length<=8:=by
   rw [au.ws,Ord.Dp _ (by lia)]
   have:=aa1 m.has (List.range m.rows.length)
   rw [aaG] at this
   lia
 refine ⟨_,rfl,a,F,m,rfl,l.same r,λ H3 s3=>⟨m.ws,rfl,acn L (by decide),W,λ N V gU sm G=>⟨N,rfl,⟨_,bw.of G⟩,λ D z=>?_⟩⟩⟩
 have f:=(r.trans s3).trans sm
 have lp:(Bit.parts (Bit.rooms m.ws)).length<=16:=by
   rw [Ord.wr _ L]
   exact aa3 (aa1 _ _) (by rw [aaG];decide)
 have I:∀ o∈Bit.parts (Bit.rooms m.ws),o<16:=λ o h=>by
   rw [Ord.wr _ L] at h
   exact aaK.mp (aaW.mp h).1
 generalize Y:Bit.parts (Bit.rooms m.ws)=d at lp I G
 refine ij (K:=K) (a:=N) (xs:=d.map av) (λ j A U b=>A4 (aF V b) (b D=some (.lst A)) (A=((d.take j).filter (s.EF m)).map av) (∃ v,U=[v,some (av (s.dO &&& s.held)),some (.ref a),some (av s.held),some (.ref p)]))
   ⟨am z,ai,rfl,none,rfl⟩ (λ j A U b Z e=>bw.of (e.1 _ _ G)) ?_ ?_
 .
  rintro j x A U b hx ⟨S,B,rfl,v,rfl⟩
  obtain ⟨o,M,rfl⟩:=eS hx
  have ho:=I o (aaO M)
  have la:=aa1 (s.EF m) (d.take j)
  rw [aat] at la
  refine ⟨_,rfl,_,rfl,_,_,rfl,rfl,λ y X=>⟨_,rfl,rfl,_,rfl,?_⟩⟩
  obtain rfl:y=((o &&& s.held:Nat):Int):=by rw [X,iw]
  have u:((d.take (j+1)).filter (s.EF m)).map av=((d.take j).filter (s.EF m)).map av++(if s.EF m o=true then [av o] else []):=by
    rw [ig M,aa9,aab]
    cases q:s.EF m o<;>simp [q]
  refine i5 (λ h=>?_) (λ h=>?_)
  .
   have h:o &&& s.held=s.dO &&& s.held:=by have:=eD.mp h;lia
   have g:s.EF m o=m.Ge o s.heap:=by unfold gW.EF;rw [aaC h,Bool.true_and]
   refine ⟨_,rfl,_,rfl,_,rfl,p,_,_,_,rfl,rfl,.inr ((f.trans S).tup J),rfl,a,F,m,o,_,rfl,l.same (f.trans S),acn ho (by decide),λ H5 n=>⟨_,rfl,?_⟩⟩
   cases q:m.Ge o s.heap with
   | true =>
     refine fu ⟨_,rfl,n _ _ B,aZ (by rw [Bl];lia),(S.trans n).put z,ai,?_,_,rfl⟩
     rw [u,g,q];rfl
   | false =>
     refine ff ⟨S.trans n,n _ _ B,?_,_,rfl⟩
     rw [u,g,q];simp
  . have h:¬ (o &&& s.held=s.dO &&& s.held):=λ e=>h (by rw [e];rfl)
    have g:s.EF m o=false:=by unfold gW.EF;rw [aap h,adu]
    refine ff ⟨S,B,?_,_,rfl⟩
    rw [u,g];simp
 .
  rintro A U b ⟨S,B,rfl,v,rfl⟩
  rw [Bl,aa2] at B
  refine k D b (f.free z) (f.trans S) ?_
  rw [B,<- Y]
  rfl
inductive Qi (vs:aA) (H:Hp) (Q:VK) (_E:XK):Prop|mk (n r:Nat) (_:vs=[av n,av r]) (_:Q (.bl (n.testBit r)) H)
def ii (T:Txt K mg Ad):Def P w K mg base "_law_in" 1 ["_law_bits","_law_room"] Qi:=by
 refine T.Hn.cX Em λ Z Z Z Z Z H v Q E b h=>?_
 obtain ⟨n,r,rfl,k⟩:=h
 refine ⟨_,(ao (aJ (de gY (aB gu (aB vP (pv 0) (pv 1)) ah) ah (aN _)))),?_⟩
 try dsimp only [dY,aV]
 refine ⟨_,rfl,_,rfl,_,_,rfl,rfl,abz _,λ s a=>⟨_,_,rfl,rfl,by decide,λ m Z Z e=>⟨rfl,?_⟩⟩⟩
 rw [Bw n r a e]
 exact k
def pY (T:Txt K mg Ad):Def P w K mg base "_law_state_by" 2 ["_law_told","_law_cell","_law_k"] (zm K):=by
 refine T.rA.cX br λ Z Z Z Z Z H vs Q E j h=>?_
 obtain ⟨p,t,n,c,kk,rfl,hT,ok,n4,hk,k⟩:=h
 refine ⟨_,(af (cL (i:=3) br.nd (cY ac))
     (af (cL (i:=4) br.nd (cY ac))
     (af (cL (i:=5) br.nd (cY ac))
     (af (cL (i:=6) br.nd ah)
     (af (cL (i:=7) br.nd ah)
     (af (dE aaH rfl (bZ rfl T.cZ (aa (aT bQ (by rfl) T.fA dF (aa (bu (b5 j) (pv 0) aP (λ Z Z=>rfl)) ac)) ac)) (jo (i:=8) br.nd) (af (cL (i:=9) br.nd (aE ax (bu (b5 j) (pv 0) aP (λ Z Z=>rfl)) (pv 8)))
     (af (cL (i:=10) br.nd ah)
     (af (cL (i:=11) br.nd ah)
     (af (oT (bA (aQ m8 (pv 9) cQ (aN _)) (af (cL (i:=10) br.nd (ap (aR T) j.m (aa (pv 1) (aa (aB aM (aB aM (pv 2) ah) (pv 8)) (aa (aB aM (aE ax (pv 9) ah) ah) ac)))))
     (ao (bA (PW.pt (o7 (aQ gY (ap (aR T) j.m (aa (pv 1) (aa (aB aM (aB aM (pv 2) ah) (pv 8)) (aa ah ac)))) ah (aN _)) (lS (aQ nj (pv 7) (aE ax (bu (b5 j) (pv 0) aP (λ Z Z=>rfl)) ah) (aN _))))) (af (cL (i:=6) br.nd (aB aM (pv 6) (aE ax (cY (aa ah (aa ah (aa ah (aa ah ac))))) (pv 8))))
     (ao (cL (i:=7) br.nd (aB aM (pv 7) ah)))) (ao (bA (aQ gY (pv 10) ah (aN _)) (ao (cL (i:=11) br.nd (ap (aR T) j.m (aa (pv 1) (aa (aB aM (aB aM (pv 2) ah) (pv 8)) (aa (aB aM (aE ax (pv 9) ah) ah) ac)))))) aL))))) aL))
     (af (bC (iR aay aaJ aaI cV (pv 3) (aa (ap (aR T) j.m (aa (pv 1) (aa (aB aM (pv 2) (pv 8)) (aa (aB d6 (aT bQ (by rfl) T.fA dF (aa (aE ax (bu (b5 j) (pv 0) aP (λ Z Z=>rfl)) (pv 8)) ac)) ah) ac)))) ac)))
     (af (bC (iR aay aaJ aaI cV (pv 4) (aa (pv 10) ac)))
     (ao (bC (iR aay aaJ aaI cV (pv 5) (aa (pv 11) ac)))))))))))
     (ao (aJ (bI (aa (dC gr (by rfl) T.qE nB (aa (pv 3) ac)) (aa (pv 6) (aa (dC gr (by rfl) T.qE nB (aa (pv 4) ac)) (aa (dC gr (by rfl) T.qE nB (aa (pv 5) ac)) (aa (ap (aR T) j.m (aa (pv 1) (aa (aB aM (pv 2) ah) (aa (aB aM (aE ax (bu (b5 j) (pv 0) aP (λ Z Z=>rfl)) ah) ah) ac)))) ac)))))))))))))),?_⟩
 try dsimp only [dY,aV]
 try (refine FM ?_;intro Z Z Z Z Z Z Z Z)
 obtain ⟨pm,ps,pt,pf,fj,pb,vm,vs,vt,aK,X⟩:=id hT
 have AS:vm.length=n:=by rw [X.dm.length,Bl,ok.lm]
 have Rp:cH K H pb [.int t.bounds.1,.int t.bounds.2.1,.int t.bounds.2.2]:=cJ.tup X.bo
 refine ⟨N1,λ L Yy=>⟨N1,λ l Nm=>⟨N1,λ a Rx=>?_⟩⟩⟩
 have sb:=am (o:=.lst []) Yy
 have sw:=am (o:=.lst []) Nm
 have sf:=am (o:=.lst []) Rx
 have S0:=sb.trans (sw.trans sf)
 have M:=X.same S0
 have Yj:L≠l:=aD ai Nm
 have Yl:L≠a:=aD (sw _ _ ai) Rx
 have Xb:l≠a:=aD ai Rx
 have aj:H l=none:=sb.free Nm
 have ae:H a=none:=sb.free (sw.free Rx)
 refine ⟨_,rfl,p,_,rfl,bW M.hp,pm,vm,rfl,.inl (bw.of M.eB),λ r er=>?_⟩
 obtain rfl:r=(n:Int):=by rw [er,AS]
 refine ⟨_,rfl,by lia,by lia,?_⟩
 refine fE (lo:=0) (n:=n) (λ i U A=>aF H A/\E3 λ (B W F:cx)=>∃ (b:Nat),A5 (A L=some (.lst (B.map av))) (A l=some (.lst (W.map av))) (A a=some (.lst (F.map av))) (Part t n i B W F b) (E4 λ (v8 v9 O R:fH)=>U=[some (.ref p),some (.int c),some (av kk),some (.ref L),some (.ref l),some (.ref a),some (av b),some (av (Bit.rooms b).length),v8,v9,O,R]))
   ⟨S0,[],[],[],0,sf _ _ (sw _ _ ai),sf _ _ ai,ai,Part.zero ok,none,none,none,none,rfl⟩ ?_ ?_
 .
  rintro Z Z Z i U H1 hi ⟨S,B,W,F,b,D,J,G,I,v8,v9,O,R,rfl⟩
  have M:=X.same S
  have mS:i<t.aH.length:=by rw [ok.lt];exact hi
  have sR:i<t.marks.length:=by rw [ok.lm];exact hi
  have C:=sB ok hi
  rw [aw mS] at C
  obtain ⟨vq,HP,dq⟩:=M.dt.get (i:=i) (d:=stI t.aH[i]) (by rw [RI,aw mS];rfl)
  refine ⟨_,rfl,p,_,rfl,dI M.hp,_,rfl,pt,vt,_,_,rfl,rfl,.inl (bw.of M.dU),by rw [aan];exact bB HP,?_⟩
  refine ⟨λ ab A=>A5 (aF H A) (A L=some (.lst (B.map av))) (A l=some (.lst (W.map av))) (A a=some (.lst (F.map av))) (E3 λ (e:Bool) (u f':Nat)=>A3 (yj ((t.m2 n n).yE i) e u f') (e=true->((Bit.rooms b).length:Int)<t.bounds.1) (ab=[some (.ref p),some (.int c),some (av kk),some (.ref L),some (.ref l),some (.ref a),some (av (if e then b+2 ^ i else b)),some (av ((Bit.rooms b).length+if e then 1 else 0)),some (.int (0+(i:Int))),some vq,some (av u),some (av f')])),?_,?_⟩
  .
   refine ⟨_,rfl,rfl,_,rfl,?_⟩
   cases xT:t.aH[i] with
   | none =>
     rw [xT] at dq C
     have dq:vq = .bL:=dq
     subst dq
     exact dJ rfl ⟨S,D,J,G,false,0,0,by rw [C];exact ⟨rfl,rfl,rfl⟩,nofun,rfl⟩
   | some z =>
     rw [xT] at dq C
     obtain ⟨pq,wq,rfl,HB,t1,r1,rfl,e1,t2,r2,rfl,e2,t3,r3,rfl,e3,t4,r4,rfl,e4,e5⟩:=dq
     have e5:r4=[]:=e5
     have e1:t1 = .int z.1:=e1
     have e2:t2 = .int z.2.1:=e2
     have e3:t3 = .int z.2.2.1:=e3
     have e4:t4 = .int z.2.2.2:=e4
     subst e1 e2 e3 e4 e5
     have HS:cH K H1 pq [.int z.1,.int z.2.1,.int z.2.2.1,.int z.2.2.2]:=cJ.tup HB
     have HM:=ok.aH z (by rw [<- xT];exact aaf mS)
     have Kd:=HM.s
     have KJ:=HM.f
     refine FK nofun ⟨_,rfl,_,rfl,_,_,rfl,rfl,λ x1 g1=>⟨_,rfl,_,_,rfl,rfl,λ x2 g2=>⟨_,rfl,pq,_,_,_,rfl,rfl,.inr HS,rfl,_,_,rfl,rfl,λ x3 g3=>⟨_,x2,x3,rfl,by lia,by lia,by lia,λ w0 XC a6=>?_⟩⟩⟩⟩
     obtain ⟨g,rfl⟩:∃ g:Nat,w0=(g:Int):=⟨w0.toNat,by lia⟩
     refine ⟨_,rfl,_,rfl,_,_,rfl,rfl,λ x4 g4=>⟨_,rfl,_,_,rfl,rfl,λ x5 g5=>⟨_,x5,2,rfl,by lia,by lia,by decide,λ r0 a4 a5=>⟨rfl,_,rfl,?_⟩⟩⟩⟩
     have Gd:(g:Int)<=(t.iQ z).2.2.1:=by show (g:Int)<=z.2.2.1;lia
     refine i5 (λ h1=>?_) (λ h1=>ff ?_)
     .
      refine ⟨_,rfl,_,rfl,p,_,rfl,iY M.hp,pb,_,_,_,rfl,rfl,.inr (S.tup Rp),rfl,_,_,rfl,rfl,_,rfl,i5 (λ h2=>?_) (λ h2=>?_)⟩
      .
       refine ⟨_,rfl,LR,λ q hq=>?_⟩
       have sq:=am (o:=.lst [V.int 1,V.int 2,V.int 4,V.int 8]) hq
       have a3:tM [V.int 1,V.int 2,V.int 4,V.int 8] (0+(i:Int))=some (.int ((2 ^ i:Nat):Int)):=by
         have:i=0\/i=1\/i=2\/i=3:=by lia
         rcases this with rfl|rfl|rfl|rfl<;>rfl
       refine ⟨_,rfl,q,_,_,_,rfl,rfl,.inl (bw.of ai),a3,_,_,rfl,rfl,λ y1 f1=>⟨_,rfl,_,_,rfl,rfl,λ y2 f2=>?_⟩⟩
       obtain rfl:y1=((b+2 ^ i:Nat):Int):=by rw [f1];push_cast;rfl
       obtain rfl:y2=(((Bit.rooms b).length+1:Nat):Int):=by rw [f2];push_cast;rfl
       exact ⟨S.trans sq,sq _ _ D,sq _ _ J,sq _ _ G,true,g,0,by rw [C];exact ⟨Gd,KJ.1,.inl rfl⟩,λ Z=>h2,rfl⟩
      . refine ⟨_,rfl,rfl,_,rfl,i5 (λ hw=>⟨_,rfl,_,rfl,_,_,rfl,rfl,λ x6 g6=>⟨_,rfl,_,_,rfl,rfl,λ x7 g7=>⟨_,rfl,pq,_,_,_,rfl,rfl,.inr HS,rfl,_,_,rfl,rfl,λ x8 g8=>⟨_,x7,x8,rfl,by lia,by lia,by lia,λ fv f0 f1=>?_⟩⟩⟩⟩) (λ hw=>⟨S,D,J,G,false,g,0,by rw [C];exact ⟨Gd,KJ.1,.inl rfl⟩,nofun,rfl⟩)⟩
        obtain ⟨fn,rfl⟩:∃ fn:Nat,fv=(fn:Int):=⟨fv.toNat,by lia⟩
        have Tk:g=0:=by have:=eD.mp hw;lia
        exact ⟨S,D,J,G,false,g,fn,by rw [C];exact ⟨Gd,(by show (fn:Int)<=z.2.2.2;lia),.inr ⟨rfl,Tk⟩⟩,nofun,rfl⟩
     . refine ⟨_,rfl,rfl,_,rfl,i5 (λ hw=>⟨_,rfl,_,rfl,_,_,rfl,rfl,λ x6 g6=>⟨_,rfl,_,_,rfl,rfl,λ x7 g7=>⟨_,rfl,pq,_,_,_,rfl,rfl,.inr HS,rfl,_,_,rfl,rfl,λ x8 g8=>⟨_,x7,x8,rfl,by lia,by lia,by lia,λ fv f0 f1=>?_⟩⟩⟩⟩) (λ hw=>⟨S,D,J,G,false,g,0,by rw [C];exact ⟨Gd,KJ.1,.inl rfl⟩,nofun,rfl⟩)⟩
       obtain ⟨fn,rfl⟩:∃ fn:Nat,fv=(fn:Int):=⟨fv.toNat,by lia⟩
       have Tk:g=0:=by have:=eD.mp hw;lia
       exact ⟨S,D,J,G,false,g,fn,by rw [C];exact ⟨Gd,(by show (fn:Int)<=z.2.2.2;lia),.inr ⟨rfl,Tk⟩⟩,nofun,rfl⟩
  .
   rintro ab Y ⟨S2,X4,al,ZI,e,u,f',an,a1,rfl⟩
   have C2:=X.same S2
   have zw:=ok.rows t.marks[i] (aaf sR)
   have l2:=zw.two
   have l7:t.marks[i].length<=7:=by have:=zw.most;split at this<;>lia
   have ad:i<61:=by lia
   have aW:=I.lb
   have wX:=I.lw
   have a0:=I.lf
   obtain ⟨v,ev,pk,SY,rfl,uY,EO⟩:=C2.dm.get (i:=i) (d:=xt t.marks[i]) (by rw [RI,aw sR];rfl)
   obtain rfl:=fw EO
   have EJ:bw K Y pk (t.marks[i].map V.int):=cJ.seq uY
   refine ⟨_,rfl,.inl ⟨rfl,_,bw.of X4⟩,_,rfl,_,rfl,_,rfl,_,_,rfl,rfl,λ x1 g1=>?_⟩
   refine ⟨_,rfl,p,_,rfl,bW C2.hp,_,rfl,pm,vm,_,_,rfl,rfl,.inl (bw.of C2.eB),(by rw [aan];exact bB ev),pk,_,rfl,.inl EJ,λ y ey=>⟨_,_,rfl,rfl,λ z ez=>?_⟩⟩
   rw [Bl] at ey
   refine ⟨_,x1,z,rfl,by lia,by lia,by lia,λ r r0 r1=>?_⟩
   obtain ⟨x,rfl⟩:∃ x:Nat,r=(x:Int):=⟨r.toNat,by lia⟩
   refine ⟨L,_,_,rfl,rfl,X4,aZ (by rw [Bl];lia),?_⟩
   have s3:upd Y L (.lst (B.map av++[V.int (x:Int)])) L=some (.lst ((B++[x]).map av)):=by rw [ai,aab];rfl
   have S3:aF H (upd Y L (.lst (B.map av++[V.int (x:Int)]))):=S2.put Yy
   have U7:upd Y L (.lst (B.map av++[V.int (x:Int)])) l=some (.lst (W.map av)):=by rw [aG Yj.symm];exact al
   have X2:upd Y L (.lst (B.map av++[V.int (x:Int)])) a=some (.lst (F.map av)):=by rw [aG Yl.symm];exact ZI
   generalize upd Y L (.lst (B.map av++[V.int (x:Int)]))=H3 at s3 S3 U7 X2 |-
   refine ⟨_,rfl,.inl ⟨rfl,_,bw.of U7⟩,_,rfl,l,_,_,rfl,rfl,U7,aZ (by rw [Bl];lia),?_⟩
   have N:upd H3 l (.lst (W.map av++[av u])) l=some (.lst ((W++[u]).map av)):=by rw [ai,aab];rfl
   have S4:aF H (upd H3 l (.lst (W.map av++[av u]))):=S3.put aj
   have WY:upd H3 l (.lst (W.map av++[av u])) L=some (.lst ((B++[x]).map av)):=by rw [aG Yj];exact s3
   have SV:upd H3 l (.lst (W.map av++[av u])) a=some (.lst (F.map av)):=by rw [aG Xb.symm];exact X2
   generalize upd H3 l (.lst (W.map av++[av u]))=H4 at N S4 WY SV |-
   refine ⟨_,rfl,.inl ⟨rfl,_,bw.of SV⟩,_,rfl,a,_,_,rfl,rfl,SV,aZ (by rw [Bl];lia),?_⟩
   obtain ⟨Zw,a2⟩:=I.next (x:=x) ad (by rw [Nr,aw sR];show x+1<t.marks[i].length;lia) an a1
   refine ⟨S4.put ae,B++[x],W++[u],F++[f'],_,?_,?_,?_,Zw,_,_,_,_,by rw [a2]⟩
   . rw [aG Yl];exact WY
   . rw [aG Xb];exact N
   . rw [ai,aab];rfl
 .
  rintro U H1 ⟨S,B,W,F,b,D,J,G,I,v8,v9,O,R,rfl⟩
  have aW:=I.lb
  have wX:=I.lw
  have a0:=I.lf
  refine ⟨_,rfl,L,_,rfl,.inl ⟨bw.of D,λ kb ar=>?_⟩⟩
  have s1:=am (o:=.tup (B.map av)) ar
  refine ⟨_,rfl,_,rfl,l,_,rfl,.inl ⟨bw.of (s1 _ _ J),λ kw Qs=>?_⟩⟩
  have s2:=am (o:=.tup (W.map av)) Qs
  refine ⟨_,rfl,a,_,rfl,.inl ⟨bw.of ((s1.trans s2) _ _ G),λ kf aI=>?_⟩⟩
  have s3:=am (o:=.tup (F.map av)) aI
  have S3:=S.trans (s1.trans (s2.trans s3))
  have C3:=X.same S3
  refine ⟨_,rfl,_,rfl,_,_,rfl,rfl,λ x1 g1=>?_⟩
  refine ⟨_,rfl,p,_,rfl,iY C3.hp,pb,_,_,_,rfl,rfl,.inr (S3.tup Rp),rfl,_,_,rfl,rfl,λ y ey=>?_⟩
  have Mc:=ok.bounds.2.1
  refine ⟨_,x1,y,rfl,by lia,by lia,by lia,λ r r0 r1=>⟨(by show 5<=sizeLine;decide),λ q hq=>?_⟩⟩
  obtain ⟨hp,rfl⟩:∃ hp:Nat,r=(hp:Int):=⟨r.toNat,by lia⟩
  have N:aF _ _:=am (o:=.tup [.ref kb,av b,.ref kw,.ref kf,av hp]) hq
  exact k q ⟨B,b,W,F,hp⟩ _ (S3.trans N) ⟨kb,kw,kf,cH.of ai,cH.of (N _ _ (s3 _ _ (s2 _ _ ai))),cH.of (N _ _ (s3 _ _ ai)),cH.of (N _ _ ai)⟩ (I.ok ok (by lia))
def i3 (T:Txt K mg Ad):Def P w K mg base "_law_allows" 2 ["_law_told","_law_state","_law_order"] (Do K):=by
 refine T.vh.cX dg λ Z Z Z Z Z H vs Q E a h=>?_
 obtain ⟨p,t,n,q,s,o,rfl,hT,ok,n4,hs,lw,k1,k⟩:=h
 refine ⟨_,(af (cL (i:=3) dg.nd ah)
     (af (cL (i:=4) dg.nd ah)
     (af (dE aaH rfl (bZ rfl T.cZ (aa ah ac)) (jo (i:=5) dg.nd) (ao (bA (bX (ap (ii T) a.m (aa (pv 2) (aa (pv 5) ac)))) (af (bA (PW.pt (jn (aQ Ko (pv 5) (aT bQ (by rfl) T.fA dF (aa (bu (b5 a) (pv 0) aP (λ Z Z=>rfl)) ac)) (aN _)) (iy (aQ qW (aE ax (bu (b5 a) (pv 0) aP (λ Z Z=>rfl)) (pv 5)) cQ (aN _))))) (ao (aJ fh)) aL)
     (af (cL (i:=3) dg.nd (aB aM (pv 3) ah))
     (ao (cL (i:=4) dg.nd (aB aM (pv 4) (aE ax (aE ax (bu (b5 a) (pv 0) aP (λ Z Z=>rfl)) (pv 5)) ah)))))) aL)))
     (af (dE aaH rfl (bZ rfl T.cZ (aa (aT bQ (by rfl) T.fA dF (aa (bu (b5 a) (pv 0) aP (λ Z Z=>rfl)) ac)) ac)) (jo (i:=5) dg.nd) (ao (bA (PW.pt (o7 (aQ pV (aE ax (aE ax (pv 1) ah) (pv 5)) ah (aN _)) (lS (aQ gx (ap (ii T) a.m (aa (pv 2) (aa (pv 5) ac))) (ap (ii T) a.m (aa (aE ax (pv 1) ah) (aa (pv 5) ac))) (aN _))))) (ao (aJ fh)) aL)))
     (ao (aJ (iE (de f9 (pv 3) (aE ax (bu (b5 a) (pv 0) aP (λ Z Z=>rfl)) ah) (aN _)) (i8 (de f9 (pv 4) (aE ax (pv 1) ah) (aN _)))))))))),?_⟩
 try dsimp only [dY,aV]
 try (refine lz ?_;intro Z Z Z Z Z Z)
 obtain ⟨pm,ps,pt,pf,fj,pb,vm,vs,x,aK,C⟩:=id hT
 have AS:vm.length=n:=by rw [C.dm.length,Bl,ok.lm]
 have ZG:x.length=n:=by rw [C.dt.length,Bl,ok.lt]
 obtain ⟨qb,qw,qf,B,eb,ew,ef⟩:=id hs
 have Rp:cH K H pb [.int t.bounds.1,.int t.bounds.2.1,.int t.bounds.2.2]:=cJ.tup C.bo
 refine ⟨_,rfl,by decide,by decide,?_⟩
 refine iG (lo:=0) (n:=61) (λ i U c=>A3 (c=H) (∀ r,r<i->o.testBit r=true->r<n/\(t.m2 n n).has r=true) (∃ (v:fH),U=[some (.ref p),some (.ref q),some (av o),some (av ((List.range i).filter o.testBit).length),some (.int (((List.range i).filter o.testBit).map (t.m2 n n).wd).sum),v]))
   ⟨rfl,nofun,none,rfl⟩ ?_ ?_
 .
  rintro Z i U c u ⟨rfl,X,v,rfl⟩
  refine ⟨_,rfl,_,rfl,o,i,(by rw [aan];rfl),_,rfl,?_⟩
  cases l:o.testBit i with
  | false =>
    refine ff ⟨rfl,λ r a f=>?_,some (.int (0+(i:Int))),?_⟩
    . by_cases e:r<i
      . exact X r e f
      . obtain rfl:r=i:=by lia
        rw [l] at f;cases f
    . rw [Ord.sg,l];simp
  | true =>
    have Qq:i∈Bit.rooms o:=Bit.dH.mpr ⟨u,l⟩
    refine fu ⟨_,rfl,_,rfl,p,_,rfl,bW C.hp,pm,vm,rfl,.inl (bw.of C.eB),λ y ey=>⟨_,_,rfl,rfl,_,rfl,i5 (λ h=>?_) (λ h=>?_)⟩⟩
    . exact fu (k λ L=>by have:=(L.has i Qq).1;lia)
    have G:i<n:=by lia
    have mS:i<t.aH.length:=by rw [ok.lt];exact G
    have b:=sB ok G
    rw [aw mS] at b
    obtain ⟨vq,HP,D⟩:=C.dt.get (i:=i) (d:=stI t.aH[i]) (by rw [RI,aw mS];rfl)
    have YL:tM x (0+(i:Int))=some vq:=by rw [aan];exact bB HP
    refine ⟨_,rfl,p,_,rfl,dI C.hp,_,rfl,pt,x,_,_,rfl,rfl,.inl (bw.of C.dU),YL,rfl,_,rfl,?_⟩
    cases xT:t.aH[i] with
    | none =>
      rw [xT] at D b
      have D:vq = .bL:=D
      refine mU D (k λ L=>?_)
      have:=(L.has i Qq).2
      unfold au.has at this
      rw [b] at this
      cases this
    | some z =>
      rw [xT] at D b
      obtain ⟨pq,wq,rfl,HB,t1,r1,rfl,F,t2,r2,rfl,I,t3,r3,rfl,J,t4,r4,rfl,M,N⟩:=D
      have N:r4=[]:=N
      have F:t1 = .int z.1:=F
      have I:t2 = .int z.2.1:=I
      have J:t3 = .int z.2.2.1:=J
      have M:t4 = .int z.2.2.2:=M
      subst F I J M N
      have HS:cH K c pq [.int z.1,.int z.2.1,.int z.2.2.1,.int z.2.2.2]:=cJ.tup HB
      have R0:(t.m2 n n).has i=true:=by unfold au.has;rw [b];rfl
      have Y:(t.m2 n n).wd i=z.2.1:=by unfold au.wd;rw [b];rfl
      refine mr nofun ⟨_,rfl,_,_,rfl,rfl,λ y1 f1=>⟨_,rfl,_,rfl,p,_,rfl,dI C.hp,_,rfl,pt,x,_,_,rfl,rfl,.inl (bw.of C.dU),YL,pq,_,_,_,rfl,rfl,.inr HS,rfl,_,_,rfl,rfl,λ y2 f2=>⟨rfl,λ r a f=>?_,some (.int (0+(i:Int))),?_⟩⟩⟩
      . by_cases e:r<i
        . exact X r e f
        . obtain rfl:r=i:=by lia
          exact ⟨G,R0⟩
      . rw [Ord.sg,l,f1,f2]
        simp only [abR,aad,aab,List.sum_append,aaN,ac6,List.sum_cons,List.sum_nil,aav,abN,Y]
        unfold av
        push_cast
        rw [abP]
        rfl
 .
  rintro U c ⟨rfl,X,v,rfl⟩
  have SM:(List.range 61).filter o.testBit=Bit.rooms o:=rfl
  rw [SM]
  refine ⟨_,rfl,p,_,rfl,bW C.hp,pm,vm,rfl,.inl (bw.of C.eB),λ r er=>?_⟩
  obtain rfl:r=(n:Int):=by rw [er,AS]
  refine ⟨_,rfl,by lia,by lia,?_⟩
  refine iG (lo:=0) (n:=n) (λ i U A=>A3 (A=c) (∀ r,r<i->s.wt r=true->o.testBit r=s.dO.testBit r) (∃ (v:fH),U=[some (.ref p),some (.ref q),some (av o),some (av (Bit.rooms o).length),some (.int ((Bit.rooms o).map (t.m2 n n).wd).sum),v]))
    ⟨rfl,nofun,v,rfl⟩ ?_ ?_
  .
   rintro Z i U A u ⟨rfl,g,v,rfl⟩
   refine ⟨_,rfl,q,_,_,_,rfl,rfl,.inr B,rfl,_,rfl,qw,_,_,_,rfl,rfl,.inr ew,(by rw [aan];exact xH (by rw [lw];exact u)),_,_,rfl,rfl,_,rfl,i5 (λ h=>?_) (λ h=>?_)⟩
   .
    have W:s.wt i=true:=aaC (by lia)
    refine ⟨_,rfl,_,rfl,o,i,(by rw [aan];rfl),?_⟩
    refine ⟨_,rfl,q,_,_,_,rfl,rfl,.inr B,rfl,_,rfl,s.dO,i,(by rw [aan];rfl),rfl,_,rfl,xo (λ IP=>?_) (λ S=>?_)⟩
    . exact k λ L=>IP (by rw [L.gE i u W])
    . refine ⟨rfl,λ r a O=>?_,_,rfl⟩
      by_cases e:r<i
      . exact g r e O
      . obtain rfl:r=i:=by lia
        injection S
   .
    have W:s.wt i=false:=aap (by lia)
    refine ff ⟨rfl,λ r a O=>?_,_,rfl⟩
    by_cases e:r<i
    . exact g r e O
    . obtain rfl:r=i:=by lia
      rw [W] at O;cases O
  .
   rintro U A ⟨rfl,g,v,rfl⟩
   refine ⟨_,rfl,_,rfl,p,_,rfl,iY C.hp,pb,_,_,_,rfl,rfl,.inr Rp,rfl,_,_,rfl,rfl,_,rfl,i5 (λ R=>?_) (λ R=>?_)⟩
   .
    refine ⟨_,rfl,_,rfl,q,_,_,_,rfl,rfl,.inr B,rfl,_,_,rfl,rfl,?_⟩
    by_cases j:((Bit.rooms o).map (t.m2 n n).wd).sum<=(s.heap:Int)
    . refine Vh j (k1 ⟨λ r a=>?_,g,R,j⟩)
      have:=Bit.dH.mp a
      exact X r this.1 this.2
    . show Q (V.bl (decide _)) _
      rw [aap j]
      exact k λ L=>j L.vT
   . exact k λ L=>R L.most
def AK (T:Txt K mg Ad):Def P w K mg base "failing" 5 ["hold","state","order"] (rn K Ad.bi):=by
 refine T.Es.cX sE λ Z Z Z Z Z H vs Q E b h=>?_
 obtain ⟨a,fp,m,p,s,o,rfl,M,hs,ok,g,k⟩:=h
 refine ⟨_,(af (cL (i:=3) sE.nd (aB iW (pv 2) (rg Aj (aE ax (pv 1) ah))))
     (ao (aJ (ap (mw T) b.m (aa (kr ["room"] ["state","hold"] [1,0] (.cons ⟨rfl,rfl,.inl rfl⟩ (.cons ⟨rfl,rfl,.inl rfl⟩ .nil)) rfl (fo (ap (j2 T) b.m (aa (pv 3) ac))) (λ Z Z Z Z Z=>(rD (i:=0))) (λ Z Z Z Z Z=>(lI (aQ nj (aE (iZ (K:=K) rfl) (aE (iZ (K:=K) rfl) (pv 1) ah) (pv 0)) (aE (iZ (K:=K) rfl) (bv (pv 2) T.aI (eQ T) .nil b.m (aa (pv 0) ac)) ah) (aN _)))) (λ Z Z Z Z Z=>(pv 0))) ac))))),?_⟩
 try dsimp only [dY,aV]
 obtain ⟨pb,pw,pf,F,eb,ew,ef⟩:=id hs
 obtain ⟨⟨dx,pm,K5,Mq,MK,vm,vs,vt,aK,Z,ha,Z⟩,q1,q2,l,q4⟩:=id M
 have V:o<16:=by rw [<- g];exact aaY acD (Cy l)
 have Tr:s.dO<16:=Ord.KG l ok.dO
 refine ⟨_,rfl,_,rfl,p,_,_,_,rfl,rfl,.inr F,rfl,_,rfl,_,_,rfl,rfl,λ y ey=>?_⟩
 obtain rfl:y=((Ord.off o s.dO:Nat):Int):=by rw [ey];exact my _ _
 have R:Ord.off o s.dO<2 ^ 4:=Ord.LD (n:=4) V
 have G:=KY l ok g
 have C:∀ r∈Bit.rooms (Ord.off o s.dO),r<m.rows.length/\m.has r=true:=λ r b=>by
   have:=(Bit.dH.mp b).2
   rw [Ord.nS V Tr,aaw] at this
   exact CK g this.1
 generalize Ord.off o s.dO=z at R G C |-
 refine ⟨_,rfl,z,rfl,acn R (by decide),λ O Hm gU W N=>⟨O,rfl,⟨_,bw.of N⟩,λ D L=>?_⟩⟩
 refine ij (K:=K) (a:=O) (xs:=(Bit.rooms z).map av) (λ j A U c=>A4 (aF Hm c) (c D=some (.lst A)) (A=(((Bit.rooms z).take j).filter λ r=>decide ((gN s.failed r:Int)<m.fails r)).map av) (∃ v,U=[v,some (.ref p),some (.ref a)]))
   ⟨am L,ai,rfl,none,rfl⟩ (λ j A U c Z e=>bw.of (e.1 _ _ N)) ?_ ?_
 .
  rintro j x A U c hx ⟨S,d,rfl,v,rfl⟩
  obtain ⟨r,I,rfl⟩:=eS hx
  obtain ⟨Y,HI⟩:=C r (aaO I)
  obtain ⟨zz,J⟩:=xq HI
  have hz:=nv (m:=m) (i:=r) (by lia)
  have f:=W.trans S
  have la:=aa1 (λ r=>decide ((gN s.failed r:Int)<m.fails r)) ((Bit.rooms z).take j)
  have lr:=t7 z
  rw [aat] at la
  have B:m.fails r=zz.2.2.2:=by unfold au.fails;rw [J];rfl
  refine ⟨_,rfl,p,_,_,_,rfl,rfl,.inr (f.tup F),rfl,_,rfl,pf,_,_,_,rfl,rfl,.inr (f.tup ef),xH (by rw [ok.lf];exact Y),?_⟩
  refine ⟨_,rfl,a,dx,_,rfl,f _ _ ha,rfl,_,rfl,a,fp,m,r,_,rfl,M.same f,hz,λ u t=>?_⟩
  rw [J] at t
  obtain ⟨pz,v1,rfl,zF,Z⟩:=t.lg
  have X:(((Bit.rooms z).take (j+1)).filter λ r=>decide ((gN s.failed r:Int)<m.fails r)).map av=(((Bit.rooms z).take j).filter λ r=>decide ((gN s.failed r:Int)<m.fails r)).map av++(if decide ((gN s.failed r:Int)<m.fails r)=true then [av r] else []):=by
    rw [ig I,aa9,aab]
    by_cases q:(gN s.failed r:Int)<m.fails r<;>simp [q]
  refine ⟨pz,_,_,_,rfl,rfl,.inr zF,rfl,_,_,rfl,rfl,_,rfl,i5 (λ h=>?_) (λ h=>?_)⟩
  . refine ⟨_,rfl,d,aZ (by rw [Bl];lia),S.put L,ai,?_,_,rfl⟩
    rw [X,aaC (by rw [B];exact h)];rfl
  . refine ⟨S,d,?_,_,rfl⟩
    rw [X,aap (by rw [B];exact h)];simp
 .
  rintro A U c ⟨S,d,rfl,v,rfl⟩
  rw [Bl,aa2] at d
  have:=k c (W.trans S)
  rw [<- G] at this
  exact ⟨D,_,rfl,bw.of d,λ r b=>by have:=(C r (aaW.mp b).1).1;lia,this⟩
def kM (T:Txt K mg Ad):Def P w K mg base "may_fail" 8 ["hold","state","order"] (rn K Ad.bi):=by
 refine T.AE.cX ym λ Z Z Z Z Z H v Q E c h=>?_
 obtain ⟨a,f,m,p,S,o,rfl,b,d,ok,g,k⟩:=h
 refine ⟨_,(af (bC (ap (ge T) c.m (aa (pv 0) (aa (pv 1) ac))))
     (ao (aJ (ap (AK T) c.m (aa (pv 0) (aa (pv 1) (aa (pv 2) ac))))))),?_⟩
 try dsimp only [dY,aV]
 refine ⟨_,rfl,_,rfl,a,f,m,p,S,rfl,b,d,ok,λ j s=>?_⟩
 exact ⟨_,rfl,_,rfl,_,rfl,a,f,m,p,S,o,rfl,b.same s,d.same s,ok,g,λ e i=>k e (s.trans i)⟩
open Classical in
noncomputable def qT (tm:ay) (n:Nat) (s:gW) (o:Nat):Bool:=decide (tZ tm n s o)
open Classical in
def CI {tm:ay} {n o:Nat} {s:gW} (h:tZ tm n s o):qT tm n s o=true:=by unfold qT;exact aaC h
open Classical in
def zy {tm:ay} {n o:Nat} {s:gW} (h:¬ tZ tm n s o):qT tm n s o=false:=by unfold qT;exact aap h
open Classical in
def oy {tm:ay} {n o:Nat} {s:gW}:qT tm n s o=true↔tZ tm n s o:=by unfold qT;exact decide_eq_true_iff
def mv {tm:ay} {n:Nat} {s:gW} (ok:tm.Ok n n) (N:n<=4) (S:jb (tm.m2 n n) s):s.orders (tm.m2 n n)=(List.range 16).filter (qT tm n s):=by
 obtain ⟨f,F,d,e⟩:=c7 tm n n
 have h:(tm.m2 n n).rows.length=n:=by rw [f,Bl,aat,ok.lm];lia
 have H:s.iT.length=n:=by rw [S.lw,h]
 unfold gW.orders au.ws
 rw [h]
 refine Ord.Dj N (tm.m2 n n).has (tm.m2 n n).wd s.wt s.dO tm.bounds.1 s.heap _ _ (λ o Z=>?_) (λ o Z=>oy)
 unfold gW.EF au.Ge gW.held au.vT au.ws
 rw [H,h,F,aaw,aaw,aaR,aaR,aaR]
 exact ⟨λ ⟨a,b,c⟩=>⟨a,b,c⟩,λ ⟨a,b,c⟩=>⟨a,b,c⟩⟩
def xI (L:Nat->Bool) (j:Nat):(List.range (j+1)).filter L=(List.range j).filter L++if L j then [j] else []:=by
 rw [aaS,aa9]
 cases h:L j<;>simp [h]
def lN {t u:L2.TE} {a b:Bool} {U:L2.St} {H:Hp} {Q:VK} (c:∀ Q:VK,Q (.bl a) H->t U H Q) (d:∀ Q:VK,Q (.bl b) H->u U H Q) (h:Q (.bl (a && b)) H):EZ t u U H Q:=by
 refine c _ ⟨a,rfl,?_⟩
 cases a with
 | true=>exact fu (d Q h)
 | false=>exact ff h
def DL {i:Nat} {v:V} {U:L2.St} {H:Hp} {t u:L2.TE} {g:TG} {R:TS} {D:Ends} {a b:Bool} (c:∀ Q:VK,Q (.bl a) H->t (U.set i (some v)) H Q) (d:∀ Q:VK,Q (.bl b) H->u (U.set i (some v)) H Q)
   (h:g (.bl (a && b)) (U.set i (some v)) H (R D)):lZ i v U H (aS (CO (EZ t u) g) R D):=lN c d h
def mz (T:Txt K mg Ad):Def P w K mg base "sum_of_products" 3 ["pairs"] (ME K):=by
 refine T.oA.cX bU λ Z Z Z Z Z H vs Q E hr h=>?_
 obtain ⟨p,X,D,rfl,N,c,z,hl,hB,k⟩:=h
 refine ⟨_,(af (cL (i:=1) bU.nd ah)
     (af (cL (i:=2) bU.nd ah)
     (af (dE aaH rfl (fo (pv 0)) (eC (K:=K) (n:=2) rfl rfl (aX (jo (i:=3) bU.nd) (aX (jo (i:=4) bU.nd) eF))) (af (cL (i:=5) bU.nd (aB bq (aE ax (pv 3) ah) (aE ax (pv 4) ah)))
     (af (cL (i:=1) bU.nd (aB aM (aB bq (pv 1) (pv 5)) (aB bq (aB bq (aE ax (pv 3) ah) (aE ax (pv 4) ah)) (pv 2))))
     (ao (cL (i:=2) bU.nd (aB bq (pv 2) (pv 5)))))))
     (ao (aJ (ap (ln T) hr.m (aa (pv 1) (aa (pv 2) ac)))))))),?_⟩
 try dsimp only [dY,aV]
 try (refine db ?_;intro Z Z Z Z Z)
 have R:X.length=D.length:=by rw [c.length,Bl]
 refine ⟨_,rfl,p,rfl,⟨_,N⟩,?_⟩
 refine lB (K:=K) (a:=p) (xs:=X) (λ i U g=>g=H/\E3 λ (V G I:fH)=>U=[some (.ref p),some (.int (eW (D.take i)).1),some (.int (eW (D.take i)).2),V,G,I]) ⟨rfl,none,none,none,rfl⟩ (λ i U g Z e=>by rw [e.1];exact N) ?_ ?_
 .
  rintro i x U g O ⟨rfl,V,G,I,rfl⟩
  have v:i<D.length:=by rw [<- R];exact (Yp.mp O).1
  obtain ⟨J,B,b3⟩:=AX D z i (by lia)
  have et:D.take (i+1)=D.take i++[D[i]]:=by rw [abB,aw v];rfl
  obtain ⟨y,ey,pq,ws,rfl,HB,W⟩:=c.get (i:=i) (d:=GM D[i]) (by rw [RI,aw v];rfl)
  obtain rfl:x = .ref pq:=aai (O.symm.trans ey)
  have c:=z D[i] (aaf v)
  obtain ⟨w1,r1,rfl,d1,w2,r2,rfl,d2,f⟩:=W
  have f:r2=[]:=f
  subst f
  obtain ⟨A,rfl,l⟩:=Dn.fr d1
  obtain ⟨C,rfl,o⟩:=Dn.fr d2
  rw [et,nL]
  generalize D[i]=d at c l o |-
  generalize eW (D.take i)=s at J B b3 |-
  refine ⟨pq,_,rfl,HB,rfl,_,_,rfl,_,_,rfl,rfl,?_⟩
  refine ⟨_,rfl,A,_,_,_,rfl,rfl,.inr l,rfl,_,rfl,C,_,_,_,rfl,rfl,.inr o,rfl,_,_,rfl,rfl,⟨900,900,c.a.b,c.b.b,by decide⟩,λ be j=>?_⟩
  have j:be=d.1.2 * d.2.2:=j
  have L:Bd 1800 (d.1.2 * d.2.2):=c.a.b.mul c.b.b
  subst j
  have sm:1802 * i+2+1800<=100000:=by lia
  refine ⟨_,rfl,_,rfl,_,_,rfl,rfl,⟨1802 * i+2,1800,J,L,by lia⟩,λ x1 e1=>?_⟩
  refine ⟨_,rfl,A,_,_,_,rfl,rfl,.inr l,rfl,_,rfl,C,_,_,_,rfl,rfl,.inr o,rfl,_,_,rfl,rfl,⟨900,900,c.a.t,c.b.t,by decide⟩,λ x2 M=>?_⟩
  have bt:Bd 1800 x2:=by rw [M];exact c.a.t.mul c.b.t
  refine ⟨_,rfl,_,_,rfl,rfl,⟨1800,1800 * i+1,bt,B,by lia⟩,λ x3 f=>⟨_,_,rfl,rfl,λ x4 e4=>?_⟩⟩
  refine ⟨_,rfl,_,rfl,_,_,rfl,rfl,⟨1800 * i+1,1800,B,L,by lia⟩,λ x5 e5=>⟨rfl,some (.ref A),some (.ref C),some (.int (d.1.2 * d.2.2)),?_⟩⟩
  have f4:x4=s.1 * (d.1.2 * d.2.2)+d.1.1 * d.2.1 * s.2:=by rw [e4,e1,f,M]
  have f5:x5=s.2 * (d.1.2 * d.2.2):=e5
  rw [f4,f5]
  rfl
 .
  rintro U g ⟨rfl,V,G,I,rfl⟩
  rw [R,aa2]
  have S:=Cc z
  refine ⟨_,rfl,_,rfl,_,_,rfl,by lia,hB,λ q r u Y F s2 hu=>k u Y s2 ?_⟩
  have:=F.nf S
  rw [hu,<- this]
def mW (T:Txt K mg Ad):Def P w K mg base "warmth_of" 6 ["hold","room","airs","weather","fired"] (De K Ad.bi):=by
 refine T.yK.cX n8 λ Z Z Z Z Z H vs Q E N h=>?_
 obtain ⟨a,fp,m,i,pa,Oj,A,W,wf,F,rfl,M,hi,Yc,da,la,oa,dw,ow,hz,k⟩:=h
 refine ⟨_,(af (uy (yi:=5) ["of","air"] ["room","hold"] [1,0] (.cons ⟨rfl,rfl,.inl rfl⟩ (.cons ⟨rfl,rfl,.inl rfl⟩ .nil)) rfl (Bj rfl T.fB (aa (pv 2) ac)) (λ Z Z Z Z Z=>(eC (K:=K) (n:=2) rfl rfl (aX (rD (i:=0)) (aX (rD (i:=1)) eF)))) (λ Z Z Z Z Z=>fX) (λ Z Z Z Z Z=>(bI (aa (bv (pv 3) T.aI (kK T) .nil N.m (aa (pv 2) (aa (pv 0) ac))) (aa (pv 1) ac)))) n8.nd (lc rfl))
     (af (bC (iR aay aaJ aaI cV (pv 5) (aa (bI (aa (aE ax (bv (pv 0) T.aI (nK T) .nil N.m (aa (pv 1) ac)) ah) (aa (pv 3) ac))) ac)))
     (af (oT (bA (bX (pv 4)) (ao (bC (iR aay aaJ aaI cV (pv 5) (aa (bI (aa (cK (v:=V.ref _) rfl T.CB rfl) (aa (aE ax (bv (pv 0) T.aI (eQ T) .nil N.m (aa (pv 1) ac)) ah) ac))) ac)))) aL))
     (ao (aJ (ap (mz T) N.m (aa (pv 5) ac))))))),?_⟩
 try dsimp only [dY,aV]
 try (refine db ?_;intro Z Z Z Z Z)
 obtain ⟨⟨dx,pm,K5,Mq,MK,vm,vs,vt,aK,oJ,ha,Z⟩,q1,q2,q3,q4⟩:=id M
 obtain ⟨R4,Vv,Zn⟩:=pO (i:=i) (fired:=F) q4 q3 la oa ow hz
 have Xx:Oj.length=A.length:=by rw [da.length,Bl]
 refine ⟨_,rfl,pa,rfl,⟨_,Yc⟩,λ D L=>?_⟩
 refine jG (sq:=bw K) (a:=pa) (xs:=Oj) (λ j acc U b=>A4 (aF H b) (b D=some (.lst acc)) (cn K b (((List.range j).map λ j=>((m.share i j,A.getD j (0,1)):Pr)).map GM) acc) (E2 λ v0 v1=>U=[v0,v1,some (av i),some (.ref a)]))
   ⟨am L,ai,rfl,none,none,rfl⟩ (λ j acc U b Z e=>e.1.seq Yc) ?_ ?_
 .
  rintro j x pp acc U b hx wF ⟨t,C,l,v0,v1,rfl⟩
  have hj:j<A.length:=by rw [<- Xx];exact (Yp.mp hx).1
  obtain ⟨y,ey,dy⟩:=da.get (i:=j) (d:=dL A[j]) (by rw [RI,aw hj];rfl)
  obtain rfl:x=y:=aai (hx.symm.trans ey)
  have s:aF b (upd b pp (.tup [av j,x])):=am wF
  have nD:D≠pp:=aD C wF
  have Y:=t.trans s
  refine ⟨pp,_,rfl,cH.of ai,rfl,_,_,rfl,_,_,rfl,rfl,?_⟩
  refine ⟨_,rfl,a,dx,_,rfl,Y _ _ ha,rfl,_,rfl,_,rfl,a,fp,m,i,j,rfl,M.same Y,hi,by lia,λ v g s3 dv=>?_⟩
  have r:=Y.trans s3
  refine ⟨_,rfl,qv,λ p dU=>?_⟩
  have S:aF g (upd g p (.tup [v,x])):=am dU
  have J:=r.trans S
  have B:=S _ _ (s3 _ _ (s _ _ C))
  have G:cB K (upd g p (.tup [v,x])) (upd (upd g p (.tup [v,x])) D (.lst (acc++[.ref p]))):=fc B rfl
  have Fw:acc.length=j:=by rw [l.length,Bl,Bl,aaG]
  refine ⟨B,aZ (by lia),(J).put L,ai,?_,_,_,rfl⟩
  rw [aaS,aab,aab]
  refine (cn.ts ((aF.ts ((s.trans s3).trans S)).trans G) _ (rl _) l).snoc (Dn.ts G _ (qN _) ?_)
  have ea:A.getD j (0,1)=A[j]:=by rw [Nr,aw hj];rfl
  show Dn K _ (GM (m.share i j,A.getD j (0,1))) _
  rw [ea]
  exact gi (cH.of ai) (bS (Dn.same S _ dv) (bS (Dn.same J _ dy) ip))
 .
  rintro acc U c ⟨t,C,l,v0,v1,rfl⟩
  rw [Xx] at l
  have l:cn K c ((dA m i A).map GM) acc:=l
  have Fw:acc.length<=4:=by rw [l.length,Bl];unfold dA;rw [Bl,aaG];lia
  have HE:i<m.bx.length:=by lia
  have Pj:=aw HE
  have Jf:m.eM i=m.bx[i].1:=by unfold au.eM;rw [Pj];rfl
  refine ⟨_,rfl,.inl ⟨rfl,_,bw.of C⟩,_,rfl,a,dx,_,rfl,t _ _ ha,rfl,_,rfl,a,fp,m,i,_,rfl,M.same t,Pj,λ v dv=>?_⟩
  obtain ⟨p0,o,Q9,RB,rfl,Eg,WV,Y0,X7⟩:=dv.di
  refine ⟨p0,_,_,_,rfl,rfl,.inr Eg,rfl,_,rfl,qv,λ p dU=>?_⟩
  have s:aF c (upd c p (.tup [o,W])):=am dU
  have pU:=s _ _ C
  refine ⟨D,_,_,rfl,rfl,pU,aZ (by lia),?_⟩
  have G:cB K (upd c p (.tup [o,W])) (upd (upd c p (.tup [o,W])) D (.lst (acc++[.ref p]))):=fc pU rfl
  have O:(upd (upd c p (.tup [o,W])) D (.lst (acc++[.ref p]))) D=some (.lst (acc++[.ref p])):=ai
  have r:aF H (upd (upd c p (.tup [o,W])) D (.lst (acc++[.ref p]))):=(t.trans s).put L
  have d3:cn K (upd (upd c p (.tup [o,W])) D (.lst (acc++[.ref p]))) ((dA m i A++[(m.eM i,wf)]).map GM) (acc++[.ref p]):=by
    rw [aab]
    refine (cn.ts ((aF.ts s).trans G) _ (rl _) l).snoc (Dn.ts G _ (qN _) ?_)
    refine gi (cH.of ai) (bS (Dn.same s _ ?_) (bS (Dn.same (t.trans s) _ dw) ip))
    rw [Jf];exact WV
  generalize (upd (upd c p (.tup [o,W])) D (.lst (acc++[.ref p])))=g at O r d3 |-
  refine ⟨λ I b=>aF H b/\∃ X,A3 (b D=some (.lst X)) (cn K b ((fT m i A wf F).map GM) X) (I=[some (.ref a),some (av i),some (.ref pa),some W,some (.bl F),some (.ref D)]),?_,?_⟩
  .
   refine ⟨_,rfl,_,rfl,?_⟩
   cases F with
   | false =>
     refine ff ⟨r,_,O,?_,rfl⟩
     unfold fT
     rw [aal aah,aaT]
     exact d3
   | true =>
     obtain ⟨z,ez⟩:=hz rfl
     refine fu ⟨_,rfl,.inl ⟨rfl,_,bw.of O⟩,?_⟩
     refine ⟨_,rfl,a,dx,_,rfl,r _ _ ha,rfl,_,rfl,a,fp,m,i,_,rfl,M.same r,ez,λ u du=>?_⟩
     obtain ⟨pz,zs,rfl,zF,t1,r1,rfl,e1,Z⟩:=du
     refine ⟨pz,_,_,_,rfl,rfl,.inr zF,bB (j:=0) rfl,qv,λ R WL=>?_⟩
     have S:aF g (upd g R (.tup [.ref Ad.ug,t1])):=am WL
     have B:=S _ _ O
     refine ⟨D,_,_,rfl,rfl,B,aZ (by rw [aad];simp only [aav,abN];lia),(r.trans S).put L,_,ai,?_,rfl⟩
     have YD:cB K (upd g R (.tup [.ref Ad.ug,t1])) (upd (upd g R (.tup [.ref Ad.ug,t1])) D (.lst ((acc++[.ref p])++[.ref R]))):=fc B rfl
     have Z6:(((m.aH[i]?).getD none).map (·.1)).getD (0,1)=z.1:=by rw [ez];rfl
     unfold fT
     rw [aaq rfl,aab]
     refine (cn.ts ((aF.ts S).trans YD) _ (rl _) d3).snoc (Dn.ts YD _ (qN _) ?_)
     show Dn K _ (GM ((1,1),(((m.aH[i]?).getD none).map (·.1)).getD (0,1))) _
     rw [Z6]
     exact gi (cH.of ai) (bS (T.Cj.fr (f:=(1,1))) (bS (Dn.same S _ e1) ip))
  . rintro I H4 ⟨J,X,B,d4,rfl⟩
    exact ⟨_,rfl,D,X,_,rfl,bw.of B,d4,R4,Vv,Zn,λ q H5 s5 ab=>k q H5 (J.trans s5) ab⟩
def As (T:Txt K mg Ad):Def P w K mg base "span_of" 7 ["hold","room","bands","fired"] (JL K Ad.bi):=by
 refine T.Dw.cX iB λ Z Z Z Z Z H vs Q E f h=>?_
 obtain ⟨a,O,m,i,R,B,F,rfl,L,hi,u,lb,W,hz,k⟩:=h
 refine ⟨_,(af (jB (ko Cw (bv (pv 0) T.aI (nK T) .nil f.m (aa (pv 1) ac)) (jF ah) vC) (eC (K:=K) (n:=2) rfl rfl (aX (jo (i:=4) iB.nd) (aX (jo (i:=5) iB.nd) eF))))
     (af (uy (yi:=6) ["of","band"] ["hold"] [0] (.cons ⟨rfl,rfl,.inl rfl⟩ .nil) rfl (G7 rfl T.fB (aa (pv 2) ac)) (λ Z Z Z Z Z=>(eC (K:=K) (n:=2) rfl rfl (aX (rD (i:=0)) (aX (rD (i:=1)) eF)))) (λ Z Z Z Z Z=>fX) (λ Z Z Z Z Z=>(aE (iZ (K:=K) rfl) (bv (pv 2) T.aI (fY T) .nil f.m (aa (pv 0) ac)) (pv 1))) iB.nd (lc rfl))
     (af (uy (yi:=7) ["of","band"] ["hold"] [0] (.cons ⟨rfl,rfl,.inl rfl⟩ .nil) rfl (G7 rfl T.fB (aa (pv 2) ac)) (λ Z Z Z Z Z=>(eC (K:=K) (n:=2) rfl rfl (aX (rD (i:=0)) (aX (rD (i:=1)) eF)))) (λ Z Z Z Z Z=>fX) (λ Z Z Z Z Z=>(aE (iZ (K:=K) rfl) (bv (pv 2) T.aI (fY T) .nil f.m (aa (pv 0) ac)) (aB aM (pv 1) ah))) iB.nd (lc rfl))
     (ao (aJ (bI (aa (ap (mW T) f.m (aa (pv 0) (aa (pv 1) (aa (pv 6) (aa (pv 4) (aa (pv 3) ac)))))) (aa (ap (mW T) f.m (aa (pv 0) (aa (pv 1) (aa (pv 7) (aa (pv 5) (aa (pv 3) ac)))))) ac)))))))),?_⟩
 try dsimp only [dY,aV]
 try (refine db ?_;intro Z Z Z Z Z)
 obtain ⟨⟨dx,g,K5,Mq,MK,vm,vs,vt,aK,oJ,ha,Z⟩,q1,q2,q3,q4⟩:=id L
 have HE:i<m.bx.length:=by lia
 have Pj:=aw HE
 have Jf:lD m i=m.bx[i]:=by unfold lD;rw [Pj];rfl
 have Xi:=q4.bx m.bx[i] (aaf HE)
 have Yw:eJ 120 (lD m i).2.1:=by rw [Jf];exact Xi.2.1.mono (by decide)
 have Y4:eJ 120 (lD m i).2.2:=by rw [Jf];exact Xi.2.2.mono (by decide)
 have Xn:(fQ m B 0).length=m.rows.length:=by unfold fQ;rw [Bl,aaG,lb]
 have XH:(fQ m B 1).length=m.rows.length:=by unfold fQ;rw [Bl,aaG,lb]
 refine ⟨_,rfl,a,dx,_,rfl,ha,rfl,_,rfl,a,O,m,i,_,rfl,L,Pj,λ v dv=>?_⟩
 obtain ⟨p0,HH,Q9,RB,rfl,Eg,WV,Y0,X7⟩:=dv.di
 refine ⟨1,rfl,p0,_,1,rfl,Eg,rfl,rfl,by decide,(by show 1<=3;decide),λ q0 hq=>?_⟩
 refine ⟨q0,_,rfl,cH.of ai,rfl,_,_,rfl,_,_,rfl,rfl,?_⟩
 have M:aF H (upd H q0 (.tup ([HH,Q9,RB].drop 1))):=am hq
 generalize upd H q0 (.tup ([HH,Q9,RB].drop 1))=H0 at M |-
 have XG:Dn K H0 (dL (lD m i).2.1) Q9:=by rw [Jf];exact Dn.same M _ Y0
 have W7:Dn K H0 (dL (lD m i).2.2) RB:=by rw [Jf];exact Dn.same M _ X7
 rcases u with u|u
 .
  have u:=M.seq u
  refine ⟨_,rfl,R,rfl,.inl ⟨⟨_,u⟩,λ D hD=>?_⟩⟩
  refine jG (sq:=bw K) (a:=R) (xs:=B.map av) (λ j acc U c=>A4 (aF H0 c) (c D=some (.lst acc)) (cn K c (((List.range j).map λ j=>(m.rows.getD j []).getD (B.getD j 0+0) (0,1)).map dL) acc) (E2 λ V t=>U=[V,t,some (.ref a)]))
    ⟨am hD,ai,rfl,none,none,rfl⟩ (λ j acc U c Z e=>e.1.seq u) ?_ ?_
  .
   rintro j x p acc U c hx wF ⟨r,k9,o,V,t,rfl⟩
   obtain ⟨b,A,rfl⟩:=eS hx
   have hj:j<B.length:=(Yp.mp A).1
   have f:j<m.rows.length:=by lia
   have C:B.getD j 0=b:=by rw [Nr,A];rfl
   have s:aF c (upd c p (.tup [av j,av b])):=am wF
   have l:=M.trans (r.trans s)
   have G:m.rows.getD j []=m.rows[j]:=by rw [Nr,aw f];rfl
   have q:=W j f
   rw [G,C] at q
   refine ⟨p,_,rfl,cH.of ai,rfl,_,_,rfl,_,_,rfl,rfl,?_⟩
   refine ⟨_,rfl,a,dx,_,rfl,l _ _ ha,rfl,_,rfl,a,O,m,j,_,rfl,L.same l,aw f,λ g X eB HA=>?_⟩
   have S:aF (upd c p (.tup [av j,av b])) (upd (upd c p (.tup [av j,av b])) g (.lst X)):=am eB
   obtain ⟨y,ey,dy⟩:=HA.get (i:=b) (d:=dL m.rows[j][b]) (by rw [RI,aw (by lia)];rfl)
   have I:=S _ _ (s _ _ k9)
   have J:cB K (upd (upd c p (.tup [av j,av b])) g (.lst X)) (upd (upd (upd c p (.tup [av j,av b])) g (.lst X)) D (.lst (acc++[y]))):=fc I rfl
   have Fw:acc.length=j:=by rw [o.length,Bl,Bl,aaG]
   refine ⟨_,rfl,g,_,_,_,rfl,rfl,.inl (bw.of ai),bB ey,I,aZ (by lia),(r.trans (s.trans S)).put hD,ai,?_,_,_,rfl⟩
   rw [aaS,aab,aab]
   refine (cn.ts ((aF.ts (s.trans S)).trans J) _ (lM _ id) (by simpa using o)).snoc (Dn.ts J _ (gw _) ?_)
   show Dn K _ (dL ((m.rows.getD j []).getD (B.getD j 0+0) (0,1))) y
   rw [G,C,Nat.add_zero,Nr,aw (by lia:b<m.rows[j].length)]
   exact Dn.same S _ dy
  rintro acc U H1 ⟨r,k9,o,V,t,rfl⟩
  rw [Bl] at o
  have o:cn K H1 ((fQ m B 0).map dL) acc:=o
  have EK:=r.seq u
  have S1:=M.trans r
  refine ⟨_,rfl,R,rfl,.inl ⟨⟨_,EK⟩,λ Y pU=>?_⟩⟩
  refine jG (sq:=bw K) (a:=R) (xs:=B.map av) (λ j acc U c=>A4 (aF H1 c) (c Y=some (.lst acc)) (cn K c (((List.range j).map λ j=>(m.rows.getD j []).getD (B.getD j 0+1) (0,1)).map dL) acc) (E2 λ V t=>U=[V,t,some (.ref a)]))
    ⟨am pU,ai,rfl,none,none,rfl⟩ (λ j acc U c Z e=>e.1.seq EK) ?_ ?_
  .
   rintro j x p rG U c hx wF ⟨Oo,L4,N5,V,t,rfl⟩
   obtain ⟨b,A,rfl⟩:=eS hx
   have hj:j<B.length:=(Yp.mp A).1
   have f:j<m.rows.length:=by lia
   have C:B.getD j 0=b:=by rw [Nr,A];rfl
   have s:aF c (upd c p (.tup [av j,av b])):=am wF
   have l:=S1.trans (Oo.trans s)
   have G:m.rows.getD j []=m.rows[j]:=by rw [Nr,aw f];rfl
   have q:=W j f
   rw [G,C] at q
   refine ⟨p,_,rfl,cH.of ai,rfl,_,_,rfl,_,_,rfl,rfl,?_⟩
   refine ⟨_,rfl,a,dx,_,rfl,l _ _ ha,rfl,_,rfl,a,O,m,j,_,rfl,L.same l,aw f,λ g X eB HA=>?_⟩
   have S:aF (upd c p (.tup [av j,av b])) (upd (upd c p (.tup [av j,av b])) g (.lst X)):=am eB
   obtain ⟨y,ey,dy⟩:=HA.get (i:=b+1) (d:=dL m.rows[j][b+1]) (by rw [RI,aw (by lia)];rfl)
   have I:=S _ _ (s _ _ L4)
   have J:cB K (upd (upd c p (.tup [av j,av b])) g (.lst X)) (upd (upd (upd c p (.tup [av j,av b])) g (.lst X)) Y (.lst (rG++[y]))):=fc I rfl
   have Fw:rG.length=j:=by rw [N5.length,Bl,Bl,aaG]
   refine ⟨_,rfl,_,_,rfl,rfl,λ z ez=>?_⟩
   obtain rfl:z=((b+1:Nat):Int):=by rw [ez];push_cast;rfl
   refine ⟨g,_,_,_,rfl,rfl,.inl (bw.of ai),bB ey,I,aZ (by lia),(Oo.trans (s.trans S)).put pU,ai,?_,_,_,rfl⟩
   rw [aaS,aab,aab]
   refine (cn.ts ((aF.ts (s.trans S)).trans J) _ (lM _ id) (by simpa using N5)).snoc (Dn.ts J _ (gw _) ?_)
   show Dn K _ (dL ((m.rows.getD j []).getD (B.getD j 0+1) (0,1))) y
   rw [G,C,Nr,aw (by lia:b+1<m.rows[j].length)]
   exact Dn.same S _ dy
  rintro rG U H2 ⟨s,I,N,V,t,rfl⟩
  rw [Bl] at N
  have N:cn K H2 ((fQ m B 1).map dL) rG:=N
  have l:=S1.trans s
  refine ⟨_,rfl,_,rfl,_,rfl,_,rfl,_,rfl,a,O,m,i,D,acc,fQ m B 0,_,_,F,rfl,L.same l,hi,bw.of (s _ _ k9),cn.same s _ o,Xn,nk q4 lb W (by decide),Dn.same ((r.trans s)) _ XG,Yw,hz,λ w1 H3 S R5=>?_⟩
  have S3:=l.trans S
  refine ⟨_,rfl,_,rfl,_,rfl,_,rfl,_,rfl,a,O,m,i,Y,rG,fQ m B 1,_,_,F,rfl,L.same S3,hi,bw.of (S _ _ I),cn.same S _ N,XH,nk q4 lb W (by decide),Dn.same ((r.trans s).trans S) _ W7,Y4,hz,λ w2 H4 s4 Up=>⟨qv,λ q hq=>?_⟩⟩
  have s5:aF H4 (upd H4 q (.tup [.ref w1,.ref w2])):=am hq
  exact k q w1 w2 _ ((S3.trans s4).trans s5) ai (s5 _ _ (s4 _ _ R5)) (s5 _ _ Up)
 .
  have u:=M.tup u
  refine ⟨_,rfl,R,rfl,.inr ⟨⟨_,u⟩,λ D hD=>?_⟩⟩
  refine jG (sq:=cH K) (a:=R) (xs:=B.map av) (λ j acc U c=>A4 (aF H0 c) (c D=some (.lst acc)) (cn K c (((List.range j).map λ j=>(m.rows.getD j []).getD (B.getD j 0+0) (0,1)).map dL) acc) (E2 λ V t=>U=[V,t,some (.ref a)]))
    ⟨am hD,ai,rfl,none,none,rfl⟩ (λ j acc U c Z e=>e.1.tup u) ?_ ?_
  .
   rintro j x p acc U c hx wF ⟨r,k9,o,V,t,rfl⟩
   obtain ⟨b,A,rfl⟩:=eS hx
   have hj:j<B.length:=(Yp.mp A).1
   have f:j<m.rows.length:=by lia
   have C:B.getD j 0=b:=by rw [Nr,A];rfl
   have s:aF c (upd c p (.tup [av j,av b])):=am wF
   have l:=M.trans (r.trans s)
   have G:m.rows.getD j []=m.rows[j]:=by rw [Nr,aw f];rfl
   have q:=W j f
   rw [G,C] at q
   refine ⟨p,_,rfl,cH.of ai,rfl,_,_,rfl,_,_,rfl,rfl,?_⟩
   refine ⟨_,rfl,a,dx,_,rfl,l _ _ ha,rfl,_,rfl,a,O,m,j,_,rfl,L.same l,aw f,λ g X eB HA=>?_⟩
   have S:aF (upd c p (.tup [av j,av b])) (upd (upd c p (.tup [av j,av b])) g (.lst X)):=am eB
   obtain ⟨y,ey,dy⟩:=HA.get (i:=b) (d:=dL m.rows[j][b]) (by rw [RI,aw (by lia)];rfl)
   have I:=S _ _ (s _ _ k9)
   have J:cB K (upd (upd c p (.tup [av j,av b])) g (.lst X)) (upd (upd (upd c p (.tup [av j,av b])) g (.lst X)) D (.lst (acc++[y]))):=fc I rfl
   have Fw:acc.length=j:=by rw [o.length,Bl,Bl,aaG]
   refine ⟨_,rfl,g,_,_,_,rfl,rfl,.inl (bw.of ai),bB ey,I,aZ (by lia),(r.trans (s.trans S)).put hD,ai,?_,_,_,rfl⟩
   rw [aaS,aab,aab]
   refine (cn.ts ((aF.ts (s.trans S)).trans J) _ (lM _ id) (by simpa using o)).snoc (Dn.ts J _ (gw _) ?_)
   show Dn K _ (dL ((m.rows.getD j []).getD (B.getD j 0+0) (0,1))) y
   rw [G,C,Nat.add_zero,Nr,aw (by lia:b<m.rows[j].length)]
   exact Dn.same S _ dy
  rintro acc U H1 ⟨r,k9,o,V,t,rfl⟩
  rw [Bl] at o
  have o:cn K H1 ((fQ m B 0).map dL) acc:=o
  have EK:=r.tup u
  have S1:=M.trans r
  refine ⟨_,rfl,R,rfl,.inr ⟨⟨_,EK⟩,λ Y pU=>?_⟩⟩
  refine jG (sq:=cH K) (a:=R) (xs:=B.map av) (λ j acc U c=>A4 (aF H1 c) (c Y=some (.lst acc)) (cn K c (((List.range j).map λ j=>(m.rows.getD j []).getD (B.getD j 0+1) (0,1)).map dL) acc) (E2 λ V t=>U=[V,t,some (.ref a)]))
    ⟨am pU,ai,rfl,none,none,rfl⟩ (λ j acc U c Z e=>e.1.tup EK) ?_ ?_
  .
   rintro j x p rG U c hx wF ⟨Oo,L4,N5,V,t,rfl⟩
   obtain ⟨b,A,rfl⟩:=eS hx
   have hj:j<B.length:=(Yp.mp A).1
   have f:j<m.rows.length:=by lia
   have C:B.getD j 0=b:=by rw [Nr,A];rfl
   have s:aF c (upd c p (.tup [av j,av b])):=am wF
   have l:=S1.trans (Oo.trans s)
   have G:m.rows.getD j []=m.rows[j]:=by rw [Nr,aw f];rfl
   have q:=W j f
   rw [G,C] at q
   refine ⟨p,_,rfl,cH.of ai,rfl,_,_,rfl,_,_,rfl,rfl,?_⟩
   refine ⟨_,rfl,a,dx,_,rfl,l _ _ ha,rfl,_,rfl,a,O,m,j,_,rfl,L.same l,aw f,λ g X eB HA=>?_⟩
   have S:aF (upd c p (.tup [av j,av b])) (upd (upd c p (.tup [av j,av b])) g (.lst X)):=am eB
   obtain ⟨y,ey,dy⟩:=HA.get (i:=b+1) (d:=dL m.rows[j][b+1]) (by rw [RI,aw (by lia)];rfl)
   have I:=S _ _ (s _ _ L4)
   have J:cB K (upd (upd c p (.tup [av j,av b])) g (.lst X)) (upd (upd (upd c p (.tup [av j,av b])) g (.lst X)) Y (.lst (rG++[y]))):=fc I rfl
   have Fw:rG.length=j:=by rw [N5.length,Bl,Bl,aaG]
   refine ⟨_,rfl,_,_,rfl,rfl,λ z ez=>?_⟩
   obtain rfl:z=((b+1:Nat):Int):=by rw [ez];push_cast;rfl
   refine ⟨g,_,_,_,rfl,rfl,.inl (bw.of ai),bB ey,I,aZ (by lia),(Oo.trans (s.trans S)).put pU,ai,?_,_,_,rfl⟩
   rw [aaS,aab,aab]
   refine (cn.ts ((aF.ts (s.trans S)).trans J) _ (lM _ id) (by simpa using N5)).snoc (Dn.ts J _ (gw _) ?_)
   show Dn K _ (dL ((m.rows.getD j []).getD (B.getD j 0+1) (0,1))) y
   rw [G,C,Nr,aw (by lia:b+1<m.rows[j].length)]
   exact Dn.same S _ dy
  rintro rG U H2 ⟨s,I,N,V,t,rfl⟩
  rw [Bl] at N
  have N:cn K H2 ((fQ m B 1).map dL) rG:=N
  have l:=S1.trans s
  refine ⟨_,rfl,_,rfl,_,rfl,_,rfl,_,rfl,a,O,m,i,D,acc,fQ m B 0,_,_,F,rfl,L.same l,hi,bw.of (s _ _ k9),cn.same s _ o,Xn,nk q4 lb W (by decide),Dn.same ((r.trans s)) _ XG,Yw,hz,λ w1 H3 S R5=>?_⟩
  have S3:=l.trans S
  refine ⟨_,rfl,_,rfl,_,rfl,_,rfl,_,rfl,a,O,m,i,Y,rG,fQ m B 1,_,_,F,rfl,L.same S3,hi,bw.of (S _ _ I),cn.same S _ N,XH,nk q4 lb W (by decide),Dn.same ((r.trans s).trans S) _ W7,Y4,hz,λ w2 H4 s4 Up=>⟨qv,λ q hq=>?_⟩⟩
  have s5:aF H4 (upd H4 q (.tup [.ref w1,.ref w2])):=am hq
  exact k q w1 w2 _ ((S3.trans s4).trans s5) ai (s5 _ _ (s4 _ _ R5)) (s5 _ _ Up)
def DF (T:Txt K mg Ad):Def P w K mg base "within" 5 ["hold","room","least","greatest"] (Eb K Ad.bi):=by
 refine T.ET.cX ul λ Z Z Z Z Z H vs Q E l h=>?_
 obtain ⟨a,fp,m,i,r,v1,v2,f,F,rfl,B,v,M,N,O,G,k⟩:=h
 refine ⟨_,(af (cL (i:=4) ul.nd (bv (pv 0) T.aI (fY T) .nil l.m (aa (pv 1) ac)))
     (ao (aJ (iE (mH (ap (fP T) l.m (aa (pv 2) (aa (aE ax (pv 4) ah) ac)))) (i8 (mH (ap (fP T) l.m (aa (aE ax (pv 4) (rg wu ah)) (aa (pv 3) ac))))))))),?_⟩
 try dsimp only [dY,aV]
 obtain ⟨⟨R,pm,pf,ps,pt,vm,vs,vt,aK,oJ,ha,Z⟩,ab,lst,l4,W⟩:=id B
 have y:r∈m.rows:=aaO v
 have hl:=W.len r y
 have I:=W.rows r y
 refine ⟨_,rfl,a,R,_,rfl,ha,rfl,_,rfl,a,fp,m,i,r,rfl,B,v,λ p X hp s=>?_⟩
 have S:aF H (upd H p (.lst X)):=am hp
 have o:(upd H p (.lst X)) p=some (.lst X):=ai
 have D:=cn.same S _ s
 have z:=Dn.same S _ M
 have A:=Dn.same S _ N
 generalize upd H p (.lst X)=q at S o D z A |-
 have lx:X.length=r.length:=by rw [s.length,Bl]
 obtain ⟨p1,rfl,q1⟩:=z.fr
 obtain ⟨p2,rfl,q2⟩:=A.fr
 have e:0<r.length:=by lia
 have g:r.length - 1<r.length:=by lia
 obtain ⟨x,ex,V⟩:=D.get (i:=0) (d:=dL r[0]) (by rw [RI,aw e];rfl)
 obtain ⟨x',L,J⟩:=D.get (i:=r.length - 1) (d:=dL r[r.length - 1]) (by rw [RI,aw g];rfl)
 obtain ⟨u1,rfl,w1⟩:=V.fr
 obtain ⟨u2,rfl,w2⟩:=J.fr
 have Y:=(I r[0] (aaf e)).mono (n:=1000) (by decide)
 have u:=(I r[r.length - 1] (aaf g)).mono (n:=1000) (by decide)
 have U:iX r f F=((!bO f r[0]) && !bO r[r.length - 1] F):=by
   unfold iX
   rw [Nr,Nr,aw e,aw g];rfl
 have c:=k q S
 rw [U] at c
 refine ⟨_,rfl,_,rfl,_,_,_,_,rfl,rfl,.inl (bw.of o),bB (j:=0) ex,p1,u1,_,_,_,_,rfl,q1,w1,O.t,O.b,Y.t,Y.b,_,rfl,_,rfl,?_⟩
 show if (!bO f r[0])=true then _ else _
 cases C:bO f r[0] with
 | true =>
   rw [C] at c
   exact ff c
 | false =>
   rw [C] at c
   refine fu ⟨_,rfl,_,rfl,_,_,_,_,rfl,rfl,.inl (bw.of o),BC (by lia) (by rw [lx];exact L),_,rfl,u2,p2,_,_,_,_,rfl,w2,q2,u.t,u.b,G.t,G.b,_,rfl,?_⟩
   show Q (.bl (!bO r[r.length - 1] F)) q
   exact c
def pQ (T:Txt K mg Ad):Def P w K mg base "_law_span" 1 ["_law_told","_law_room","_law_bands","_law_fired"] (Aq K):=by
 refine T.zD.cX cw λ Z Z Z Z Z H vs Q E u h=>?_
 obtain ⟨p,g,n,i,pb,B,F,rfl,hT,ok,n4,m,Jy,R,hz,k⟩:=h
 refine ⟨_,(af (cL (i:=4) cw.nd (aE ax (bu (b5 u) (pv 0) aP (λ Z Z=>rfl)) (pv 1)))
     (af (cL (i:=5) cw.nd (aB d6 ah (aE ax (pv 4) ah)))
     (af (cL (i:=6) cw.nd (aB bq (aE ax (pv 4) ah) (aE ax (pv 4) ah)))
     (af (cL (i:=7) cw.nd (aB bq (aE ax (pv 4) ah) (aE ax (pv 4) ah)))
     (af (dE aaH rfl (bZ rfl T.cZ (aa (aT bQ (by rfl) T.fA dF (aa (bu (b5 u) (pv 0) aP (λ Z Z=>rfl)) ac)) ac)) (jo (i:=8) cw.nd) (ao (bA (aQ gx (pv 8) (pv 1) (aN _)) (af (cL (i:=9) cw.nd (bu (b5 u) (bu (b5 u) (pv 0) aP (λ Z Z=>rfl)) (bI (aa (pv 1) (aa (pv 8) ac))) (λ Z Z=>rfl)))
     (af (cL (i:=5) cw.nd (aB d6 (pv 5) (pv 9)))
     (af (cL (i:=6) cw.nd (aB aM (pv 6) (aB bq (pv 9) (aE ax (aE ax (bu (b5 u) (pv 0) aP (λ Z Z=>rfl)) (pv 8)) (aE ax (pv 2) (pv 8))))))
     (ao (cL (i:=7) cw.nd (aB aM (pv 7) (aB bq (pv 9) (aE ax (aE ax (bu (b5 u) (pv 0) aP (λ Z Z=>rfl)) (pv 8)) (aB aM (aE ax (pv 2) (pv 8)) ah))))))))) aL)))
     (af (cL (i:=6) cw.nd (aB aM (pv 6) (aB bq (pv 5) (aE ax (aE ax (bu (b5 u) (pv 0) aP (λ Z Z=>rfl)) (pv 1)) (aE ax (pv 2) (pv 1))))))
     (af (cL (i:=7) cw.nd (aB aM (pv 7) (aB bq (pv 5) (aE ax (aE ax (bu (b5 u) (pv 0) aP (λ Z Z=>rfl)) (pv 1)) (aB aM (aE ax (pv 2) (pv 1)) ah)))))
     (af (bA (bX (pv 3)) (ao (aJ (bI (aa (aB aM (pv 6) (aB bq ah (aE ax (aE ax (bu (b5 u) (pv 0) aP (λ Z Z=>rfl)) (pv 1)) ah))) (aa (aB aM (pv 7) (aB bq ah (aE ax (aE ax (bu (b5 u) (pv 0) aP (λ Z Z=>rfl)) (pv 1)) ah))) ac))))) aL)
     (ao (aJ (bI (aa (pv 6) (aa (pv 7) ac))))))))))))),?_⟩
 try dsimp only [dY,aV]
 try (refine y0 ?_;intro Z Z Z Z Z Z Z Z Z Z)
 obtain ⟨pm,ps,pt,pf,fj,aj,L,vs,vt,aK,A⟩:=id hT
 have AS:L.length=n:=by rw [A.dm.length,Bl,ok.lm]
 have xP:i<g.di.length:=by rw [ok.ls];exact m
 have Kd:=ok.di g.di[i] (aaf xP)
 have Jf:g.jY i=g.di[i]:=by unfold ay.jY;rw [aw xP];rfl
 have Ui:g.hR i=g.di[i].1:=by unfold ay.hR;rw [aw xP];rfl
 obtain ⟨vz,Sm,J,wz,rfl,zF,dz⟩:=A.ds.get (i:=i) (d:=Gx g.di[i]) (by rw [RI,aw xP];rfl)
 obtain ⟨z1,r1,rfl,e1,z2,r2,rfl,e2,z3,r3,rfl,e3,e4⟩:=dz
 have e4:r3=[]:=e4
 have e1:z1 = .int g.di[i].1:=e1
 have e2:z2 = .int g.di[i].2.1:=e2
 have e3:z3 = .int g.di[i].2.2:=e3
 subst e1 e2 e3 e4
 have MI:cH K H J [.int g.di[i].1,.int g.di[i].2.1,.int g.di[i].2.2]:=cJ.tup zF
 have l:∀ {x:Int},-1000<=x->x<=1000->Bd 10 x:=λ h1 h2=>by show Int.natAbs _<2 ^ 10;lia
 refine ⟨_,rfl,p,_,rfl,sQ A.hp,_,rfl,ps,vs,_,_,rfl,rfl,.inl (bw.of A.fF),bB Sm,?_⟩
 refine ⟨_,rfl,J,_,_,_,rfl,rfl,.inr MI,rfl,_,_,rfl,rfl,λ re Th=>?_⟩
 refine ⟨_,rfl,J,_,_,_,rfl,rfl,.inr MI,rfl,_,rfl,J,_,_,_,rfl,rfl,.inr MI,rfl,_,_,rfl,rfl,⟨10,10,l (by lia) (by lia),l (by lia) (by lia),by decide⟩,λ lo RG=>?_⟩
 refine ⟨_,rfl,J,_,_,_,rfl,rfl,.inr MI,rfl,_,rfl,J,_,_,_,rfl,rfl,.inr MI,rfl,_,_,rfl,rfl,⟨10,10,l (by lia) (by lia),l (by lia) (by lia),by decide⟩,λ hg T2=>?_⟩
 have RG:lo=g.hR i * (g.jY i).2.1:=by rw [Jf,Ui];exact RG
 have T2:hg=g.hR i * (g.jY i).2.2:=by rw [Jf,Ui];exact T2
 have Th:re=12 - g.hR i:=by rw [Ui];exact Th
 refine ⟨_,rfl,p,_,rfl,bW A.hp,pm,L,rfl,.inl (bw.of A.eB),λ r er=>?_⟩
 obtain rfl:r=(n:Int):=by rw [er,AS]
 refine ⟨_,rfl,by lia,by lia,?_⟩
 refine iG (lo:=0) (n:=n) (λ t U H'=>aF H H'/\E2 λ (v8 v9:fH)=>U=[some (.ref p),some (av i),some (.ref pb),some (.bl F),some (.ref J),some (.int (12 - g.hR i - bJ (g.eA i) t)),some (.int (g.hR i * (g.jY i).2.1+bJ (λ j=>if j=i then 0 else g.eA i j * g.xl B 0 j) t)),some (.int (g.hR i * (g.jY i).2.2+bJ (λ j=>if j=i then 0 else g.eA i j * g.xl B 1 j) t)),v8,v9])
   ⟨aF.refl _,none,none,?_⟩ ?_ ?_
 . rw [RG,T2,Th]
   have a0:∀ f:Nat->Int,bJ f 0=0:=λ Z=>rfl
   rw [a0,a0,a0,abP,abP,Int.sub_zero];rfl
 .
  rintro Z t U H1 W ⟨s,v8,v9,rfl⟩
  have C:=A.same s
  have O:∀ f:Nat->Int,bJ f (t+1)=bJ f t+f t:=λ Z=>rfl
  refine ⟨_,rfl,_,rfl,rfl,_,rfl,xo (λ IP=>?_) (λ ae=>?_)⟩
  .
   have M:t≠i:=λ e=>IP (by rw [e,aan];rfl)
   obtain ⟨kk,hk,k0,k3⟩:=ok.bF i t m W (abt M)
   have Va:g.eA i t=kk:=by unfold ay.eA;rw [aal (abt M),hk];rfl
   refine ⟨_,rfl,p,_,rfl,mK C.hp,_,rfl,_,rfl,qv,λ kp yb=>?_⟩
   have sk:=am (o:=.tup [av i,.int (0+(t:Int))]) yb
   have pj:(upd H1 kp (.tup [av i,.int (0+(t:Int))])) kp=some (.tup ((fq i t).map kV)):=by rw [ai,aan];rfl
   have Dc:gk (upd H1 kp (.tup [av i,.int (0+(t:Int))])) pf (.ref kp) (some (.int kk)):=by
     have:=gk.t (k:=fq i t) (sk _ _ C.iz) pj
     rw [C.df i t (by lia) (by lia),hk] at this
     exact this
   refine ⟨pf,.int kk,rfl,Dc,?_⟩
   have S:=s.trans sk
   have N:=A.same S
   generalize upd H1 kp (.tup [av i,.int (0+(t:Int))])=H2 at S N |-
   refine ⟨_,rfl,_,rfl,_,_,rfl,rfl,λ x1 g1=>?_⟩
   obtain ⟨sR,Wd,I,ab,Zq⟩:=hV (b:=B.getD t 0) ok W (by have:=R.lt t W;lia)
   obtain ⟨Z,Lc,G,Vi,ad⟩:=hV (b:=B.getD t 0+1) ok W (R.lt t W)
   obtain ⟨v,ev,D,SY,rfl,uY,EO⟩:=N.dm.get (i:=t) (d:=xt g.marks[t]) (by rw [RI,aw sR];rfl)
   obtain rfl:=fw EO
   have Y:bw K H2 D (g.marks[t].map V.int):=cJ.seq uY
   have X9:tM L (0+(t:Int))=some (.ref D):=by rw [aan];exact bB ev
   have Qy:t<B.length:=by rw [R.len];exact W
   have QB:tM (B.map av) (0+(t:Int))=some (av (B.getD t 0)):=by rw [aan];exact bB (by rw [RI,aw Qy,Nr,aw Qy];rfl)
   refine ⟨_,rfl,_,rfl,_,rfl,p,_,rfl,bW N.hp,_,rfl,pm,L,_,_,rfl,rfl,.inl (bw.of N.eB),X9,?_⟩
   refine ⟨_,rfl,_,rfl,pb,_,_,_,rfl,rfl,(Jy.imp S.seq S.tup),QB,D,_,_,_,rfl,rfl,.inl Y,bB (by rw [RI,aw Wd];rfl),_,_,rfl,rfl,⟨10,10,l (by lia) (by lia),l (by rw [<- I];lia) (by rw [<- I];lia),by decide⟩,λ x2 g2=>⟨_,_,rfl,rfl,λ x3 g3=>?_⟩⟩
   refine ⟨_,rfl,_,rfl,_,rfl,p,_,rfl,bW N.hp,_,rfl,pm,L,_,_,rfl,rfl,.inl (bw.of N.eB),X9,?_⟩
   refine ⟨_,rfl,_,rfl,pb,_,_,_,rfl,rfl,(Jy.imp S.seq S.tup),QB,_,_,rfl,rfl,λ y ey=>?_⟩
   obtain rfl:y=((B.getD t 0+1:Nat):Int):=by rw [ey];push_cast;rfl
   refine ⟨D,_,_,_,rfl,rfl,.inl Y,bB (by rw [RI,aw Lc];rfl),_,_,rfl,rfl,⟨10,10,l (by lia) (by lia),l (by rw [<- G];lia) (by rw [<- G];lia),by decide⟩,λ x4 g4=>⟨_,_,rfl,rfl,λ x5 g5=>?_⟩⟩
   refine ⟨S,some (.int (0+(t:Int))),some (.int kk),?_⟩
   have f0:g.xl B 0 t=g.marks[t][B.getD t 0]:=I
   have f1:g.xl B 1 t=g.marks[t][B.getD t 0+1]:=G
   rw [O,O,O,aal M,aal M,f0,f1,Va,g3,g5,g1,g2,g4]
   have q1:∀ a b c:Int,a - (b+c)=a - b - c:=λ a b c=>by lia
   rw [q1,<- Int.add_assoc,<- Int.add_assoc]
   rfl
  .
   have M:t=i:=by have:=eD.mp ae;lia
   have Va:g.eA i t=0:=by unfold ay.eA;rw [aaq M.symm]
   refine ⟨s,some (.int (0+(t:Int))),v9,?_⟩
   rw [O,O,O,aaq M,aaq M,Va,abP,abP,abP]
   rfl
 .
  rintro U H1 ⟨s,v8,v9,rfl⟩
  have C:=A.same s
  obtain ⟨sR,Wd,I,ab,Zq⟩:=hV (b:=B.getD i 0) ok m (by have:=R.lt i m;lia)
  obtain ⟨Z,Lc,G,Vi,ad⟩:=hV (b:=B.getD i 0+1) ok m (R.lt i m)
  obtain ⟨v,ev,D,SY,rfl,uY,EO⟩:=C.dm.get (i:=i) (d:=xt g.marks[i]) (by rw [RI,aw sR];rfl)
  obtain rfl:=fw EO
  have Y:bw K H1 D (g.marks[i].map V.int):=cJ.seq uY
  have Qy:i<B.length:=by rw [R.len];exact m
  have QB:tM (B.map av) (i:Int)=some (av (B.getD i 0)):=bB (by rw [RI,aw Qy,Nr,aw Qy];rfl)
  have s0:=zJ ok m
  have s9:=G3 ok n4 m
  have al:=(EQ ok m n (aac _)).1
  have f0:g.xl B 0 i=g.marks[i][B.getD i 0]:=I
  have f1:g.xl B 1 i=g.marks[i][B.getD i 0+1]:=G
  refine ⟨_,rfl,_,rfl,_,rfl,p,_,rfl,bW C.hp,_,rfl,pm,L,_,_,rfl,rfl,.inl (bw.of C.eB),bB ev,?_⟩
  refine ⟨_,rfl,_,rfl,pb,_,_,_,rfl,rfl,(Jy.imp s.seq s.tup),QB,D,_,_,_,rfl,rfl,.inl Y,bB (by rw [RI,aw Wd];rfl),_,_,rfl,rfl,⟨10,10,l (by lia) (by lia),l (by rw [<- I];lia) (by rw [<- I];lia),by decide⟩,λ x2 g2=>⟨_,_,rfl,rfl,λ x3 g3=>?_⟩⟩
  refine ⟨_,rfl,_,rfl,_,rfl,p,_,rfl,bW C.hp,_,rfl,pm,L,_,_,rfl,rfl,.inl (bw.of C.eB),bB ev,?_⟩
  refine ⟨_,rfl,_,rfl,pb,_,_,_,rfl,rfl,(Jy.imp s.seq s.tup),QB,_,_,rfl,rfl,λ y ey=>?_⟩
  obtain rfl:y=((B.getD i 0+1:Nat):Int):=by rw [ey];push_cast;rfl
  refine ⟨D,_,_,_,rfl,rfl,.inl Y,bB (by rw [RI,aw Lc];rfl),_,_,rfl,rfl,⟨10,10,l (by lia) (by lia),l (by rw [<- G];lia) (by rw [<- G];lia),by decide⟩,λ x4 g4=>⟨_,_,rfl,rfl,λ x5 g5=>?_⟩⟩
  have eX:∀ d xw,g.X n i (g.xl B d) xw=g.hR i * xw+bJ (λ j=>if j=i then 0 else g.eA i j * g.xl B d j) n+(12 - g.hR i - bJ (g.eA i) n) * g.xl B d i:=λ d xw=>by
    unfold ay.X ay.kT
    rw [xA,aaq m]
    lia
  have e3:x3=g.X n i (g.xl B 0) (g.jY i).2.1:=by rw [eX,g3,g2,f0]
  have e5:x5=g.X n i (g.xl B 1) (g.jY i).2.2:=by rw [eX,g5,g4,f1]
  rw [e3,e5]
  refine ⟨_,rfl,_,rfl,?_⟩
  unfold ay.s0 ay.s1 ay.sX at k
  cases F with
  | false =>
    refine ff ⟨_,rfl,_,rfl,qv,λ q hq=>k q _ (s.trans (am hq)) ?_⟩
    rw [ai,aal aah,abP,abP]
  | true =>
    obtain ⟨z,ez⟩:=hz rfl
    obtain ⟨vq,HP,dq⟩:=C.dt.get (i:=i) (d:=stI (some z)) (by rw [RI,ez];rfl)
    obtain ⟨pq,wq,rfl,HB,t1,r1,rfl,h1,Z⟩:=dq
    have h1:t1 = .int z.1:=h1
    subst h1
    have eh:g.xX i=z.1:=by unfold ay.xX;rw [ez];rfl
    have HM:=(ok.aH z (aaO ez)).h
    refine fu ⟨_,rfl,_,rfl,p,_,rfl,dI C.hp,_,rfl,pt,vt,_,_,rfl,rfl,.inl (bw.of C.dU),bB HP,pq,_,_,_,rfl,rfl,.inr (cJ.tup HB),bB (j:=0) rfl,_,_,rfl,rfl,⟨10,10,mZ,l (by lia) (by lia),by decide⟩,λ x6 g6=>⟨_,_,rfl,rfl,λ x7 g7=>?_⟩⟩
    refine ⟨_,rfl,_,rfl,p,_,rfl,dI C.hp,_,rfl,pt,vt,_,_,rfl,rfl,.inl (bw.of C.dU),bB HP,pq,_,_,_,rfl,rfl,.inr (cJ.tup HB),bB (j:=0) rfl,_,_,rfl,rfl,⟨10,10,mZ,l (by lia) (by lia),by decide⟩,λ x8 g8=>⟨_,_,rfl,rfl,λ x9 g9=>⟨qv,λ q hq=>k q _ (s.trans (am hq)) ?_⟩⟩⟩
    rw [ai,aaq rfl,eh,g7,g9,g6,g8]
def G6 {tm:ay} {n o out:Nat} {s:gW} (ok:tm.Ok n n) (N:n<=4) (S:jb (tm.m2 n n) s) (q:out<16) (H:o∈s.orders (tm.m2 n n)) (b:out &&& s.may (tm.m2 n n) o=out):mL (tm.m2 n n) s o out:=by
 obtain ⟨f,c,F,a⟩:=c7 tm n n
 have d:(tm.m2 n n).rows.length=n:=by rw [f,Bl,aat,ok.lm];lia
 rw [mv ok N S,aaW,aaK,oy,Jm ok S] at H
 refine ⟨by lia,S,H.2,H.1,q,λ r h=>?_,λ r=>(KM ok r).2.1,λ r=>(KM ok r).1,by rw [F];exact ok.bounds.2.1.1,by rw [a];exact ok.bounds.2.2.1⟩
 have:(out &&& s.may (tm.m2 n n) o).testBit r=true:=by rw [b];exact h
 rw [aa0] at this
 have:=(aaw _ _ ▸ this:out.testBit r=true/\(s.may (tm.m2 n n) o).testBit r=true).2
 unfold gW.may at this
 rw [Ord.iP] at this
 simp only [aaw,acw,aaR] at this
 exact ⟨this.2.1.1,this.2.1.2,this.2.2⟩
def mF (T:Txt K mg Ad):lX K Ad.cE:=⟨T.zR,T.At,T.A2,T.gs,T.tk,T.Ac,T.zZ,T.zL⟩
def pM (T:Txt K mg Ad):ExcAt K Ad.cE "room":=⟨mF T,T.rj,T.An,T.qU,T.nF⟩
def m7 (T:Txt K mg Ad):ExcAt K Ad.cE "turn":=⟨mF T,T.rj,T.xU,T.qU,T.nF⟩
def Bv (T:Txt K mg Ad):Ln P w K mg base Ad.cE 1 ["self","room","turn"] (uI Ad.cE "room" "turn"):=by
 refine T.FY.Um md (λ V H Q E h=>?_) (λ Z Z Z Z Z Z U c=>yq c λ Z Z Z=>rfl) (λ f Z Z Z s H V Q E g h=>?_)
 . obtain ⟨x,t,v,u,rfl,Z⟩:=h
   rfl
 .
  obtain ⟨x,t,v,u,rfl,e,k⟩:=h
  refine ⟨_,(af (Ho (pv 0) (pv 1) rfl)
    (ao (G8 (pv 0) (pv 2) rfl))),?_⟩
  try dsimp only [dY,aV]
  exact ⟨_,rfl,_,rfl,x,Ad.cE,t,rfl,e,pM T,λ d b a=>⟨_,rfl,_,rfl,x,Ad.cE,t,d,_,_,rfl,ai,by rw [aG a];exact ai,a,m7 T,k d b a⟩⟩
def nG (T:Txt K mg Ad):iK P w K mg base Ad.Walk "__init__" 8 ["self","hold","state"] [] (FC K Ad.bi Ad.Walk):=by
 refine T.qk.hG px λ Z Z Z Z Z H V Q E G h=>?_
 obtain ⟨x,D,a,F,m,p,st,rfl,J,C,I,so,wR,k⟩:=h
 refine ⟨_,(af (bC (ap (ge T) G.m (aa (pv 1) (aa (pv 2) ac))))
     (af (eU (pv 0) (GD (rB T) G.m (aa (pv 1) ac)) rfl)
     (af (eU (pv 0) (pv 2) rfl)
     (af (eU (pv 0) ah rfl)
     (ao (eU (pv 0) fh rfl)))))),?_⟩
 try dsimp only [dY,aV]
 try (refine lz ?_;intro Z Z Z Z Z Z)
 refine ⟨_,rfl,_,rfl,a,F,m,p,st,rfl,C,I,so,λ H1 s=>?_⟩
 refine ⟨_,rfl,a,F,m,none,none,none,rfl,C.same s,wR,λ b f v s2 M A=>?_⟩
 have S:=s.trans s2
 have l:ju K Ad.Walk x D f f []:=.start (S _ _ J)
 refine ⟨_,rfl,x,_,D,_,rfl,l.at_,T.bE,T.fN,lt1000 rfl,?_⟩
 have r:=l.put (fs':=bK "hold" (.ref b) [])
 refine ⟨_,rfl,_,rfl,x,_,D,_,rfl,r.at_,T.bE,T.fi,lt1000 rfl,?_⟩
 have t:=r.put (fs':=bK "place" (.ref p) (bK "hold" (.ref b) []))
 refine ⟨_,rfl,x,_,D,_,rfl,t.at_,T.bE,T.fL,lt1000 rfl,?_⟩
 have u:=t.put (fs':=bK "gone" (.int 0) (bK "place" (.ref p) (bK "hold" (.ref b) [])))
 refine ⟨_,rfl,x,_,D,_,rfl,u.at_,T.bE,T.dR,lt1000 rfl,?_⟩
 have B:=u.put (fs':=bK "ended" (.bl false) (bK "gone" (.int 0) (bK "place" (.ref p) (bK "hold" (.ref b) []))))
 have y:∀ c∈v,c≠x:=λ c d z=>by
   have:=A c d
   rw [z,s _ _ J] at this
   cases this
 have e:(m.with none none none)=m:=rfl
 rw [e] at M
 refine k v _ (λ c o d n=>B.st c o (S c o d) (λ q=>n (by rw [q];exact T1.mpr rfl))) ((aF.ts S).trans B.ts) ⟨D,b,p,B.at_,?_,(I.same S).ts B.ts,λ z=>y x z rfl⟩ (λ c d=>s.free (A c d))
 obtain ⟨⟨X,N,L,O,R,vm,V,vt,U,rfl,ha,jm,eB,iz,fF,W,n1,n2,n3,dm,ds,dt,Y,fk⟩,q1,q2,q3,q4⟩:=id M
 have g:∀ {c o},f c=some o->c∈[b,X,N,L,O,R]->_=some o:=λ {c o} e d=>B.st c o e (y c d)
 exact ⟨⟨X,N,L,O,R,vm,V,vt,U,rfl,g ha (by simp),g jm (by simp),g eB (by simp),g iz (by simp),g fF (by simp),g W (by simp),n1,n2,n3,lP B.ts dm,jf B.ts ds,ib B.ts dt,λ i j=>(Y i j).ts B.ts,fk⟩,q1,q2,q3,q4⟩
def sP (T:Txt K mg Ad):iK P w K mg base Ad.Walk "state" 1 ["self"] [] (λ vs H Q Z=>∃ x d f v,vs=[.ref x]/\H x=some (.ins Ad.Walk d f)/\f.lookup ("place" : Str)=some v/\Q v H):=by
 refine T.vF.hG tQ λ Z Z Z Z Z H vs Q E c h=>?_
 obtain ⟨x,d,f,v,rfl,b,a,k⟩:=h
 refine ⟨_,(ao (aJ (bM (pv 0) rfl))),?_⟩
 try dsimp only [dY,aV]
 exact ⟨_,rfl,x,_,d,_,_,rfl,b,T.bE,T.fi,a,k⟩
def sC (T:Txt K mg Ad):iK P w K mg base Ad.Walk "turns" 1 ["self"] [] (λ vs H Q Z=>∃ x d f v,vs=[.ref x]/\H x=some (.ins Ad.Walk d f)/\f.lookup ("gone" : Str)=some v/\Q v H):=by
 refine T.v6.hG tI λ Z Z Z Z Z H vs Q E c h=>?_
 obtain ⟨x,d,f,v,rfl,b,a,k⟩:=h
 refine ⟨_,(ao (aJ (bM (pv 0) rfl))),?_⟩
 try dsimp only [dY,aV]
 exact ⟨_,rfl,x,_,d,_,_,rfl,b,T.bE,T.fL,a,k⟩
def jr (T:Txt K mg Ad):iK P w K mg base Ad.Walk "is_left" 1 ["self"] [] (λ vs H Q Z=>∃ x d f v,vs=[.ref x]/\H x=some (.ins Ad.Walk d f)/\f.lookup ("ended" : Str)=some v/\Q v H):=by
 refine T.sv.hG qa λ Z Z Z Z Z H vs Q E c h=>?_
 obtain ⟨x,d,f,v,rfl,b,a,k⟩:=h
 refine ⟨_,(ao (aJ (bM (pv 0) rfl))),?_⟩
 try dsimp only [dY,aV]
 exact ⟨_,rfl,x,_,d,_,_,rfl,b,T.bE,T.dR,a,k⟩
def tU (T:Txt K mg Ad):iK P w K mg base Ad.Walk "span" 8 ["self","room","burning"] [] (Hy K Ad.bi Ad.Walk):=by
 refine T.ye.hG wg λ Z Z Z Z Z H V Q E c h=>?_
 obtain ⟨x,F,m,S,g,i,b,rfl,⟨d,p,q,e,a,u,nx⟩,s,r,o,k⟩:=h
 refine ⟨_,(ao (aJ (ap (As T) c.m (aa (bM (pv 0) rfl) (aa (pv 1) (aa (aE ax (bM (pv 0) rfl) ah) (aa (ap (lA T) c.m (aa (pv 2) (aa (pv 1) ac))) ac))))))),?_⟩
 try dsimp only [dY,aV]
 obtain ⟨v,D,C,f,l,B,A⟩:=id u
 obtain ⟨Z,G,I,J,L⟩:=id a
 refine ⟨_,rfl,x,_,d,_,_,rfl,e,T.bE,T.fN,rfl,_,rfl,_,rfl,x,_,d,_,_,rfl,e,T.bE,T.fi,rfl,q,_,_,_,rfl,rfl,.inr f,rfl,_,rfl,_,rfl,b,i,rfl,?_⟩
 exact ⟨p,F,m,i,v,S.cN,b.testBit i,rfl,a,r,.inr l,s.lb,λ j t=>by have:=s.band j t;unfold gN at this;rw [Nr];exact this,λ z=>by
   have:=xq (o z)
   obtain ⟨y,n⟩:=this
   exact ⟨y,by rw [nv (by lia),n]⟩,k⟩
def fM (T:Txt K mg Ad):ss P w K mg base Ad.Walk "look_at_order" 9 ["self","order","out"] [] (G9 K Ad.bi Ad.Walk Ad.e8 Ad.cW Ad.gz):=by
 refine T.gB.Gi f7 (λ R H Q E h=>?_) (λ _ _ _ _ _ _ us C=>yq C λ _ _ _=>rfl) (λ f _ _ _ s H R Q E n h=>?_)
 . rcases h with ⟨x,F,m,S,g,o,O,rfl,_⟩|⟨x,V,N,rfl,_⟩<;>rfl
 .
  refine ⟨_,(af (bA (bX (bM (pv 0) rfl)) (ao (ng rfl abb T.uX T.Cn (uS λ _ _ _ z=>z) (aa aP ac))) aL)
    (af (bA (aQ wk (pv 1) (ap (vg T) n.m (aa (bM (pv 0) rfl) (aa (bM (pv 0) rfl) ac))) (by with_unfolding_all rfl)) (ao (ng rfl abb T.uM T.DY (uS λ _ _ _ z=>z) (aa aP ac))) aL)
    (ao (bA (aQ gx (aB iW (pv 2) (rg Aj (ap (kM T) n.m (aa (bM (pv 0) rfl) (aa (bM (pv 0) rfl) (aa (pv 1) ac)))))) ah (aN _)) (ao (ng rfl abb T.pL T.xJ (uS λ _ _ _ z=>z) (aa aP ac))) aL)))),?_⟩
  rcases h with ⟨x,F,m,S,g,o,O,rfl,⟨d,i,q,b,j,p,nx⟩,t,M,D,G,I⟩|⟨x,V,N,rfl,⟨d,i,q,g,b⟩,k⟩
  case inr=>exact ⟨_,rfl,x,_,d,_,_,rfl,b,T.bE,T.dR,rfl,_,rfl,fu ⟨MY,k.plain (aF.refl _)⟩⟩
  obtain ⟨_,X,Y,L,q4⟩:=id j
  refine ⟨_,rfl,x,_,d,_,_,rfl,b,T.bE,T.dR,rfl,_,rfl,ff ?_⟩
  refine ⟨_,rfl,_,rfl,x,_,d,_,_,rfl,b,T.bE,T.fN,rfl,_,rfl,x,_,d,_,_,rfl,b,T.bE,T.fi,rfl,i,F,m,q,S,rfl,j,p,t,λ J U W c B=>?_⟩
  refine ⟨J,_,rfl,.inl (bw.of B),rfl,Dd _,_,rfl,?_⟩
  have v:(if true=true then !No (av o) ((S.orders m).map av) else No (av o) ((S.orders m).map av)) = !decide (o∈S.orders m):=by rw [aaq rfl];exact abK _ (Js o _)
  rw [v]
  by_cases a:o∈S.orders m
  case neg =>
    rw [aap a]
    exact fu ⟨MY,(D a).plain c⟩
  rw [aaC a]
  refine ff ?_
  have l:=c _ _ b
  refine ⟨_,rfl,_,rfl,x,_,d,_,_,rfl,l,T.bE,T.fN,rfl,_,rfl,x,_,d,_,_,rfl,l,T.bE,T.fi,rfl,_,rfl,i,F,m,q,S,o,rfl,j.same c,p.same c,t,AB a,λ u r=>?_⟩
  refine ⟨_,rfl,_,_,rfl,rfl,λ y A=>⟨rfl,_,rfl,?_⟩⟩
  obtain rfl:y=((Ord.off O (S.may m o):Nat):Int):=by rw [A];exact my _ _
  have z:=Gc M (G0 (s:=S) (o:=o) L)
  by_cases e:O &&& S.may m o=O
  . refine dJ (by rw [z.mpr e];rfl) (I a e u (c.trans r))
  . refine xo (λ _=>⟨MY,(G a e).plain (c.trans r)⟩) (λ q=>absurd (z.mp ?_) e)
    have q:((Ord.off O (S.may m o):Nat):Int)=0:=eD.mp q
    exact_mod_cast q
def jp (T:Txt K mg Ad):ss P w K mg base Ad.Walk "look_at_warmth" 3 ["self","room","least","greatest","warmth"] [] (LL K Ad.bi Ad.Walk Ad.cE):=by
 refine T.kh.Gi j4 (λ L H Q E h=>?_) (λ Z Z Z Z Z Z Y y=>FA y λ Z Z Z Z Z=>rfl) (λ f Z Z Z s H L Q E e h=>?_)
 . obtain ⟨x,v,m,S,g,i,V,I,J,a,d,F,rfl,Z⟩:=h
   rfl
 .
  obtain ⟨x,v,m,S,g,i,V,I,J,a,d,F,rfl,⟨D,R,q,j,U,X,nx⟩,n,r,u,O,l,o,k,A⟩:=h
  refine ⟨_,(ao (bA (PW.pt (jn (bX (ap (fP T) e.m (aa (pv 4) (aa (pv 2) ac)))) (iy (bX (ap (fP T) e.m (aa (pv 3) (aa (pv 4) ac))))))) (ao (DI rfl T.nZ (Bv T) e.m (IF λ Z Z Z z=>z) (aa (pv 1) (aa (bM (pv 0) rfl) ac)))) aL)),?_⟩
  try dsimp only [dY,aV]
  obtain ⟨B,rfl,M⟩:=n.fr
  obtain ⟨G,rfl,N⟩:=r.fr
  obtain ⟨p,rfl,W⟩:=u.fr
  refine ⟨_,rfl,_,rfl,p,B,_,_,_,_,rfl,W,M,o.t,o.b,O.t,O.b,_,rfl,?_⟩
  show if bO F a=true then _ else _
  cases c:bO F a with
  | true =>
    have k:hZ Ad.cE (av i) (.int g) H E:=k (by rw [c];rfl)
    exact fu (fu ⟨_,rfl,_,rfl,x,_,D,_,_,rfl,j,T.bE,T.fL,rfl,k.raised (aF.refl _)⟩)
  | false =>
    refine ff ⟨_,rfl,_,rfl,G,p,_,_,_,_,rfl,N,W,l.t,l.b,o.t,o.b,_,rfl,?_⟩
    show if bO d F=true then _ else _
    cases C:bO d F with
    | true =>
      have k:hZ Ad.cE (av i) (.int g) H E:=k (by rw [c,C];rfl)
      exact fu ⟨_,rfl,_,rfl,x,_,D,_,_,rfl,j,T.bE,T.fL,rfl,k.raised (aF.refl _)⟩
    | false=>exact ff (A (by rw [c,C];rfl) H (aF.refl _))
def rE (T:Txt K mg Ad):ss P w K mg base Ad.Walk "leave" 10 ["self","order","out","warmths"] [] (rS K Ad.bi Ad.Walk Ad.e8 Ad.cW Ad.cE Ad.gM):=by
 refine T.n6.Gi dW (λ vs H Q E h=>?_) (λ Z Z Z Z Z Z us hl=>rC hl λ Z Z Z Z=>rfl) (λ f Z Z Z s H vs Q E hr h=>?_)
 . obtain ⟨x,X,m,st,g,o,O,pw,Y,l,rfl,Z⟩:=h
   rfl
 .
  obtain ⟨x,X,m,st,g,o,O,pw,Y,l,rfl,hw,so,qR,hp,dl,ll,ae,Kd,ab,k1,k2,k3⟩:=h
  refine ⟨_,(af (bC (sF (pv 0) T.bE (fM T).y hr.m (vo λ Z Z Z z=>z) (aa (pv 1) (aa (pv 2) ac))))
    (af (dE PassesOwn.leaving rfl (Bj rfl T.fB (aa (pv 3) ac)) (eC (K:=K) (n:=2) rfl rfl (aX (jo (i:=4) dW.nd) (aX (jo (i:=5) dW.nd) eF))) (af (jB (bv (pv 0) T.bE (tU T) .nil hr.m (aa (pv 4) (aa (aB iW (pv 1) (rg Aj (pv 2))) ac))) (eC (K:=K) (n:=2) rfl rfl (aX (jo (i:=6) dW.nd) (aX (jo (i:=7) dW.nd) eF))))
    (ao (bC (sF (pv 0) T.bE (jp T).y hr.m (vo λ Z Z Z z=>z) (aa (pv 4) (aa (pv 6) (aa (pv 7) (aa (pv 5) ac)))))))))
    (af (bA (bX (aT (pF rfl) (by rfl) T.GU AU (aa (kr ["room","warmth"] ["self"] [0] (.cons ⟨rfl,rfl,.inl rfl⟩ .nil) rfl (Bj rfl T.fB (aa (pv 3) ac)) (λ Z Z Z Z Z=>(eC (K:=K) (n:=2) rfl rfl (aX (rD (i:=0)) (aX (rD (i:=1)) eF)))) (λ Z Z Z Z Z=>fX) (λ Z Z Z Z Z=>(ap (DF T) hr.m (aa (J1 (K:=K) rfl (pv 2) rfl) (aa (pv 0) (aa (pv 1) (aa (pv 1) ac))))))) ac))) (ao (ng rfl abb T.xL T.Gu (uS λ Z Z Z z=>z) (aa aP ac))) aL)
    (af (D6 (pv 0) ah Mi)
    (ao (eU (pv 0) fh rfl)))))),?_⟩
  try dsimp only [dY,aV]
  try (refine lz ?_;intro Z Z Z Z Z Z)
  obtain ⟨C,hd,q,L,hh,hs,nx⟩:=id hw
  obtain ⟨⟨aj,Z,Z,Z,Z,Z,Z,Z,Z,Z,al,Z⟩,q1,q2,q3,q4⟩:=id hh
  refine ⟨_,rfl,x,C,_,rfl,L,rfl,_,rfl,_,rfl,.inl ⟨x,X,m,st,g,o,O,rfl,hw,so,qR,k1,k2,λ ho hf H1 s1=>?_⟩⟩
  have B:=ab ho hf
  obtain ⟨k4,k5⟩:=k3 ho hf
  have ly:Y.length=m.rows.length:=by rw [dl.length,Bl,ll]
  have gv:∀ {k:Hp},aF H k->∀ i,i<m.rows.length->∃ v,Y[i]?=some v/\Dn K k (dL (l.getD i (0,1))) v:=λ {k} S i b=>by
    have R:i<l.length:=by lia
    exact (cn.same S _ dl).get (i:=i) (d:=dL (l.getD i (0,1))) (by rw [RI,aw R,Nr,aw R];rfl)
  have Sn:∀ i,i<m.rows.length->eJ 1000 (l.getD i (0,1)):=λ i b=>by
    have R:i<l.length:=by lia
    rw [Nr,aw R];exact ae _ (aaf R)
  refine ⟨_,rfl,pw,rfl,⟨Y,s1.seq hp⟩,?_⟩
  refine Mf (sq:=bw K) (xs:=Y) (λ i U k=>A3 (aF H k) (∀ j,j<i->outF m st (Ord.off o O) l j=false) (E4 λ x4 x5 x6 x7=>U=[some (.ref x),some (av o),some (av O),some (.ref pw),x4,x5,x6,x7])) ⟨s1,λ j hj=>absurd hj (ab7 _),none,none,none,none,rfl⟩ (λ i U k Z ⟨s,_,_⟩=>s.seq hp) ?_ ?_
  .
   rintro i v t U H2 G dU ⟨F,hF,x4,x5,x6,x7,rfl⟩
   have b:i<m.rows.length:=by rw [<- ly];exact (Yp.mp G).1
   have I:=am (o:=.tup [av i,v]) dU
   have k3:(upd H2 t (.tup [av i,v])) t=some (.tup [av i,v]):=ai
   generalize upd H2 t (.tup [av i,v])=J at I k3 |-
   have p:=F.trans I
   have ad:=p _ _ L
   refine ⟨t,_,rfl,cH.of k3,rfl,_,_,rfl,_,_,rfl,rfl,?_⟩
   refine ⟨_,rfl,x,C,_,rfl,ad,rfl,_,rfl,_,rfl,_,rfl,_,rfl,_,_,rfl,rfl,λ y ey=>?_⟩
   obtain rfl:y=((Ord.off o O:Nat):Int):=by rw [ey];exact my _ _
   refine ⟨x,X,m,st,g,i,Ord.off o O,rfl,hw.same p,so,b,B i,λ qq q1 q2 H4 M e0 e1 e2=>?_⟩
   refine ⟨qq,_,rfl,cH.of e0,rfl,_,_,rfl,_,_,rfl,rfl,?_⟩
   have r:=p.trans M
   obtain ⟨Z8,Zf⟩:=Kd i ((Ord.off o O).testBit i) b (B i)
   obtain ⟨N,W,dv⟩:=gv r i b
   obtain rfl:N=v:=aai (W.symm.trans G)
   refine ⟨_,rfl,x,C,_,rfl,r _ _ L,rfl,_,rfl,_,rfl,_,rfl,_,rfl,x,X,m,st,g,i,.ref q1,.ref q2,N,_,_,_,rfl,hw.same r,n9 (cH.of e1),n9 (cH.of e2),dv,Z8,Zf,Sn i b,λ c=>(k4 i b c hF).same r,λ c H5 s5=>⟨r.trans s5,λ j hj=>?_,_,_,_,_,rfl⟩⟩
   by_cases e:j<i
   . exact hF j e
   . obtain rfl:j=i:=by lia
     exact c
  .
   rintro U H2 ⟨F,hF,x4,x5,x6,x7,rfl⟩
   obtain ⟨k6,k7⟩:=k5 λ i b=>hF i (by lia)
   have YM:=F _ _ L
   refine ⟨_,rfl,pw,rfl,⟨Y,F.seq hp⟩,λ D hD=>?_⟩
   refine jG (sq:=bw K) (a:=pw) (xs:=Y) (λ j A U k=>A4 (aF H2 k) (k D=some (.lst A)) (A=((List.range j).map λ j=>V.bl (iX (m.rows.getD j []) (l.getD j (0,1)) (l.getD j (0,1))))) (E2 λ v0 v1=>U=[v0,v1,some (.ref x)]))
     ⟨am hD,ai,rfl,none,none,rfl⟩ (λ i A U k Z e=>e.1.seq (F.seq hp)) ?_ ?_
   .
    rintro i v t A U J G dU ⟨I,i9,rfl,v0,v1,rfl⟩
    have b:i<m.rows.length:=by rw [<- ly];exact (Yp.mp G).1
    have M:=am (o:=.tup [av i,v]) dU
    have k4:(upd J t (.tup [av i,v])) t=some (.tup [av i,v]):=ai
    generalize upd J t (.tup [av i,v])=H4 at M k4 |-
    have r:=F.trans (I.trans M)
    obtain ⟨N,W,dv⟩:=gv r i b
    obtain rfl:N=v:=aai (W.symm.trans G)
    have Ms:m.rows[i]?=some (m.rows.getD i []):=by rw [Nr,aw b];rfl
    refine ⟨t,_,rfl,cH.of k4,rfl,_,_,rfl,_,_,rfl,rfl,?_⟩
    refine ⟨_,rfl,x,_,C,_,_,rfl,r _ _ L,T.bE,T.fN,rfl,_,rfl,_,rfl,_,rfl,hd,X,m,i,_,N,N,_,_,rfl,hh.same r,Ms,dv,dv,Sn i b,Sn i b,λ H5 s5=>⟨s5 _ _ (M _ _ i9),aZ (by rw [Bl,aaG];lia),(I.trans (M.trans s5)).put hD,ai,?_,_,_,rfl⟩⟩
    rw [aaS,aab];rfl
   .
    rintro A U J ⟨I,i9,rfl,v0,v1,rfl⟩
    have p:=F.trans I
    refine ⟨D,(List.range Y.length).map λ j=>iX (m.rows.getD j []) (l.getD j (0,1)) (l.getD j (0,1)),rfl,by rw [acq];exact bw.of i9,_,rfl,?_⟩
    cases ea:((List.range Y.length).map λ j=>iX (m.rows.getD j []) (l.getD j (0,1)) (l.getD j (0,1))).all id with
    | true=>exact fu ⟨MY,(k6 λ i b=>abv.mp ea _ (aax.mpr ⟨i,aaK.mpr (by lia),rfl⟩)).plain p⟩
    | false =>
    obtain ⟨v,G,W⟩:=List.all_eq_false.mp ea
    obtain ⟨j,hj,rfl⟩:=aax.mp G
    refine ff ?_
    have B0:ju K Ad.Walk x C J J (Rz hd q g):=.start (p _ _ L)
    refine ⟨_,rfl,x,_,C,_,_,rfl,B0.at_,T.bE,T.fL,rfl,_,_,rfl,rfl,_,_,B0.at_,lt1000 rfl,?_⟩
    have B1:=B0.put (fs':=bK "gone" (.int (g+1)) (Rz hd q g))
    refine ⟨_,rfl,x,_,C,_,rfl,B1.at_,T.bE,T.dR,lt1000 rfl,?_⟩
    have B2:=B1.put (fs':=bK "ended" (.bl true) (bK "gone" (.int (g+1)) (Rz hd q g)))
    exact k7 ⟨j,by have:=aaK.mp hj;lia,Bool.not_eq_true _ ▸ W⟩ _ (λ c u hc n=>B2.st c u (p c u hc) (λ z=>n (by rw [z];exact T1.mpr rfl))) ((aF.ts p).trans B2.ts) ⟨C,hd,q,B2.at_,(hs.same p).ts B2.ts⟩
def w9 (T:Txt K mg Ad):JN P w K mg base Ad.Walk "go" "Walk.go" lR (.ref Ad.oQ) 10 ["self","order","out","bands","warmths"] (GG Ad.Walk Ad.gz):=by
 refine T.Ev.VD Aw (λ j H Q E h=>?_) (λ f Z Z Z s H j Q E b h=>?_)
 . obtain ⟨x,v,V,e,i,rfl,Z⟩:=h
   rfl
 .
  obtain ⟨x,v,V,e,i,rfl,a,k⟩:=h
  refine ⟨_,(af (bC (sF (pv 0) T.bE (fM T).y b.m (vo λ Z Z Z z=>z) (aa (pv 1) (aa (pv 2) ac))))
    (af bH
    (af bH
    (ao bH)))),?_⟩
  try dsimp only [dY,aV]
  try (refine db ?_;intro Z Z Z Z Z)
  obtain ⟨d,l,q,g,c⟩:=id a
  exact ⟨_,rfl,x,d,_,rfl,c,rfl,_,rfl,_,rfl,.inr ⟨x,v,V,rfl,a,k⟩⟩
def tX (T:Txt K mg Ad):xm P w K mg base Ad.Walk "go" 10 ["self","order","out","bands","warmths"] [.bL] (GG Ad.Walk Ad.gz) :=
 (w9 T).O5 T.Er λ i H=>by
   obtain ⟨u,e,r⟩:=vals1 H
   obtain ⟨l⟩:=i
   have e:l=[u]:=e
   subst e
   exact ⟨[u],.cons r .nil,λ Z Z Z Z Z Z U h=>by obtain ⟨a,b,c,d,rfl⟩:∃ a b c d,U=[a,b,c,d]:=rC (by simpa using h:U.length=4) λ a b c d=>⟨a,b,c,d,rfl⟩;exact ⟨_,rfl,rfl⟩⟩
def jE (T:Txt K mg Ad):ua P w K mg base true Ad.Walk "look_at_order" 9 ["self","order","out"] (Hk Ad.Walk Ad.gz):=by
 refine T.gB.Ki f7 (λ c e j H Q E h=>?_) (λ Z Z Z Z Z Z u b=>yq b λ Z Z Z=>rfl) (λ f l A outer s H j Q E e o n a h=>?_)
 . obtain ⟨x,v,V,rfl,Z⟩:=h
   rfl
 .
  obtain ⟨x,v,V,rfl,⟨d,m,q,g,i⟩,k⟩:=h
  have N:=a rfl
  refine ⟨_,(af (bA (bX (bM (pv 0) rfl)) (ao (D9 N.1 (T1.mpr rfl) N.2 abb T.uX T.Cn (IV λ Z Z Z z=>z) (aa aP ac))) aL)
    (af bH
    (ao bH))),?_⟩
  try dsimp only [dY,aV]
  try (refine fg ?_;intro Z Z Z Z)
  exact ⟨_,rfl,x,_,d,_,_,rfl,i,T.bE,T.dR,rfl,_,rfl,fu ⟨MY,k.plain (aF.refl _)⟩⟩
def qZ (T:Txt K mg Ad):ua P w K mg base true Ad.Walk "leave" 10 ["self","order","out","warmths"] (DA Ad.Walk Ad.gz):=by
 refine T.n6.Ki dW (λ c e o H Q E h=>?_) (λ Z Z Z Z Z Z u i=>rC i λ Z Z Z Z=>rfl) (λ f p A outer s H o Q E e O j b h=>?_)
 . obtain ⟨x,v,V,n,rfl,Z⟩:=h
   rfl
 .
  obtain ⟨x,v,V,n,rfl,a,k⟩:=h
  have N:=b rfl
  refine ⟨_,(af (bC (Ga (pv 0) T.bE (jE T) j.m (T1.mpr rfl) (λ Z=>N) (Fo λ Z Z Z z=>z) (aa (pv 1) (aa (pv 2) ac))))
    (af bH
    (af bH
    (af bH
    (ao bH))))),?_⟩
  try dsimp only [dY,aV]
  try (refine lz ?_;intro Z Z Z Z Z Z)
  obtain ⟨d,r,q,g,l⟩:=id a
  exact ⟨_,rfl,x,d,_,rfl,l,rfl,_,rfl,_,rfl,x,v,V,rfl,a,k⟩
def JY (Ad:Nw):cM:=[Ad.e8,Ad.cW,Ad.cE,Ad.gM,Ad.gz]
def T8 (Ad:Nw):aU:=[.ref Ad.lQ,.ref Ad.oB,.ref Ad.o9]
def IQ (K:aC) (Ad:Nw):Lm:=λ c e v H Q=>∃ i C,v=[.ref e]/\c = .ref C/\lX K C/\KA K (JY Ad) (T8 Ad) Ad.ma C i/\i<5/\∀ h,aF H h->Q (.str (zW i)) h
def GS {i:Nat} (h:i<5):([i == 0,i == 1,i == 2,i == 3,i == 4,false,false]:List Bool).count true=1/\true∈([i == 0,i == 1,i == 2,i == 3,i == 4,false,false]:List Bool)/\([i == 0,i == 1,i == 2,i == 3,i == 4,false,false]:List Bool).idxOf true=i:=by
 have:∀ i:Nat,i<5->([i == 0,i == 1,i == 2,i == 3,i == 4,false,false]:List Bool).count true=1/\true∈([i == 0,i == 1,i == 2,i == 3,i == 4,false,false]:List Bool)/\([i == 0,i == 1,i == 2,i == 3,i == 4,false,false]:List Bool).idxOf true=i:=by decide
 exact this i h
def HW {i:Nat} (h:i<5):([V.str "order",V.str "failing",V.str "turn",V.str "inside",V.str "ended",V.str "other",V.str "other"]:aA)[i]?=some (.str (zW i)):=by
 match i,h with
 | 0,_=>rfl
 | 1,_=>rfl
 | 2,_=>rfl
 | 3,_=>rfl
 | 4,_=>rfl
def jW (T:Txt K mg Ad):M7 P w K mg base "_law_sort" 1 ["_law_e"] (IQ K Ad):=by
 refine T.Ao.UD kR (λ c e W H Q h=>?_) (λ Z Z Z Z Z Z us N=>BU N λ Z=>rfl) (λ f Y A outer s H W Q e oe hr h=>?_)
 . obtain ⟨i,C,rfl,Z⟩:=h
   rfl
 .
  obtain ⟨i,C,rfl,m,a,t,q,k⟩:=h
  refine ⟨_,(af (cL (i:=1) kR.nd (cY (aa (aT (fR K rfl (T1.mpr rfl) m) (by rfl) T.cf bV (aa (pv 0) (aa (cK (v:=V.ref _) rfl T.uM rfl) ac))) (aa (aT (fR K rfl (T1.mpr rfl) m) (by rfl) T.cf bV (aa (pv 0) (aa (cK (v:=V.ref _) rfl T.pL rfl) ac))) (aa (aT (fR K rfl (T1.mpr rfl) m) (by rfl) T.cf bV (aa (pv 0) (aa (cK (v:=V.ref _) rfl T.nZ rfl) ac))) (aa (aT (fR K rfl (T1.mpr rfl) m) (by rfl) T.cf bV (aa (pv 0) (aa (cK (v:=V.ref _) rfl T.xL rfl) ac))) ac))))))
    (af (cL (i:=1) kR.nd (aB Ap (pv 1) (cY (aa (aT (fR K rfl (T1.mpr rfl) m) (by rfl) T.cf bV (aa (pv 0) (aa (cK (v:=V.ref _) rfl T.uX rfl) ac))) (aa (aT (fR K rfl (T1.mpr rfl) m) (by rfl) T.cf bV (aa (pv 0) (aa (bI (aa (cK (v:=V.ref _) rfl T.Dh rfl) (aa (cK (v:=V.ref _) rfl T.Ha rfl) (aa (cK (v:=V.ref _) rfl T.F8 rfl) ac)))) ac))) (aa (mH (aT (fR K rfl (T1.mpr rfl) m) (by rfl) T.cf bV (aa (pv 0) (aa (qD (v:=V.ty "ValueError") rfl T.vH tT rfl) ac)))) ac))))))
    (af (bA (aQ gx (iR aay adz PySem.F.type_list_count DC (pv 1) (aa fh ac)) ah (aN _)) (ao (aJ aP)) aL)
    (ao (aJ (aE ax (cY (aa aP (aa aP (aa aP (aa aP (aa aP (aa aP (aa aP ac)))))))) (iR aay ady PySem.F.type_list_index Ec (pv 1) (aa fh ac)))))))),?_⟩
  try dsimp only [dY,aV]
  try (refine db ?_;intro Z Z Z Z Z)
  refine ⟨_,rfl,_,_,_,rfl,rfl,a,.one rfl (t.one 0 _ rfl),_,rfl,_,_,_,rfl,rfl,a,.one rfl (t.one 1 _ rfl),_,rfl,_,_,_,rfl,rfl,a,.one rfl (t.one 2 _ rfl),_,rfl,_,_,_,rfl,rfl,a,.one rfl (t.one 3 _ rfl),(by show 4<=sizeLine;decide),λ d L=>?_⟩
  have S:=am (o:=.lst [.bl (i == 0),.bl (i == 1),.bl (i == 2),.bl (i == 3)]) L
  have u:(upd H d (.lst [.bl (i == 0),.bl (i == 1),.bl (i == 2),.bl (i == 3)])) d=some (.lst [.bl (i == 0),.bl (i == 1),.bl (i == 2),.bl (i == 3)]):=ai
  generalize upd H d (.lst [.bl (i == 0),.bl (i == 1),.bl (i == 2),.bl (i == 3)])=E at S u |-
  refine ⟨_,rfl,_,rfl,_,_,_,rfl,rfl,a,.one rfl (t.one 4 _ rfl),_,rfl,Ex,λ R D=>⟨_,_,_,rfl,rfl,a,.many ai (λ y r=>?_) t.no,_,rfl,_,_,_,rfl,rfl,a,.one rfl t.ve,_,rfl,Ex,λ l g=>?_⟩⟩
  . simp only [aaa,aae,aaX] at r
    rcases r with rfl|rfl|rfl<;>exact rfl
  have z:=S.trans (am (o:=.tup [.ref Ad.lQ,.ref Ad.oB,.ref Ad.o9]) D)
  have x:=am (o:=.tup [.ref Ad.lQ,.ref Ad.oB,.ref Ad.o9]) D _ _ u
  generalize upd E R (.tup [.ref Ad.lQ,.ref Ad.oB,.ref Ad.o9])=n at z x g |-
  have U:=z.trans (am (o:=.lst [.bl (i == 4),.bl false,.bl (!true)]) g)
  refine ⟨d,l,_,_,rfl,rfl,am g _ _ x,ai,(by show 7<=sizeLine;decide),λ p M=>?_⟩
  have B:=U.trans (am (o:=.lst ([.bl (i == 0),.bl (i == 1),.bl (i == 2),.bl (i == 3)]++[.bl (i == 4),.bl false,.bl (!true)])) M)
  have b:(upd (upd n l (.lst [.bl (i == 4),.bl false,.bl (!true)])) p (.lst ([.bl (i == 0),.bl (i == 1),.bl (i == 2),.bl (i == 3)]++[.bl (i == 4),.bl false,.bl (!true)]))) p=some (.lst (([i == 0,i == 1,i == 2,i == 3,i == 4,false,false]:List Bool).map V.bl)):=ai
  generalize upd (upd n l (.lst [.bl (i == 4),.bl false,.bl (!true)])) p (.lst ([.bl (i == 0),.bl (i == 1),.bl (i == 2),.bl (i == 3)]++[.bl (i == 4),.bl false,.bl (!true)]))=X at B b |-
  obtain ⟨G,I,J⟩:=GS q
  refine ⟨_,rfl,.inl ⟨rfl,_,bw.of b⟩,p,_,rfl,rfl,bw.of b,rfl,_,rfl,?_⟩
  rw [G]
  refine dJ rfl ⟨by show 7<=sizeLine;decide,λ O j=>⟨_,rfl,.inl ⟨rfl,_,bw.of (am j _ _ b)⟩,p,_,rfl,rfl,bw.of (am j _ _ b),I,(by show 7<=1000;decide),O,_,_,_,rfl,rfl,.inl (bw.of ai),?_,k _ (B.trans (am j))⟩⟩
  rw [J]
  exact bB (HW q)
def JD {o out:Nat} (H:o<16) (d:out<16) (h:∀ r,out.testBit r=true->o.testBit r=true):(o:Int) - (out:Int)=((Ord.off o out:Nat):Int):=by
 have k:∀ a:Nat,a<16->∀ b:Nat,b<16->b &&& a=b->(a:Int) - (b:Int)=((Ord.off a b:Nat):Int):=by decide
 refine k o H out d (abi λ r=>?_)
 rw [aa0]
 cases c:out.testBit r with
 | false=>rfl
 | true=>rw [h r c];rfl
def Hl {tm:ay} {n:Nat} {st:gW} (ok:tm.Ok n n) (s:jb (tm.m2 n n) st):uZ tm n st.cN:=by
 have H:(tm.m2 n n).rows.length=n:=by rw [(c7 tm n n).1,Bl,aat,ok.lm];lia
 refine ⟨by rw [s.lb,H],λ j h=>?_⟩
 have:=s.band j (by lia)
 rw [yX ok h] at this
 unfold ay.row gN at this
 rw [Bl] at this
 rw [Nr]
 exact this
def wy (T:Txt K mg Ad):Def P w K mg base "_law_fault" 9 ["_law_hold","_law_told","_law_state","_law_order","_law_out","_law_warmths"] (AV K Ad.bi):=by
 refine T.yh.cX eV λ _ _ _ _ _ H vs Q E f h=>?_
 obtain ⟨a,fp,p,t,n,q,S,o,O,G,l,rfl,hh,hT,ok,X,gq,I,gU,ll,qR,iV,k⟩:=h
 refine ⟨_,(af (bA (dM (bX (ap (i3 T) f.m (aa (pv 1) (aa (pv 2) (aa (pv 3) ac)))))) (ao (aJ (bI (aa aP (aa cQ ac))))) aL)
     (af (bA (aQ gx (aB iW (pv 4) (ap (kM T) f.m (aa (pv 0) (aa (pv 2) (aa (pv 3) ac))))) (pv 4) (aN _)) (ao (aJ (bI (aa aP (aa cQ ac))))) aL)
     (af (cL (i:=6) eV.nd fh)
     (af (dE aaH rfl (bZ rfl T.cZ (aa (aT bQ (by rfl) T.fA dF (aa (bu (b5 f) (pv 1) aP (λ _ _=>rfl)) ac)) ac)) (jo (i:=7) eV.nd) (af (cL (i:=8) eV.nd (aE ax (bu (b5 f) (pv 1) aP (λ _ _=>rfl)) (pv 7)))
     (af (cL (i:=9) eV.nd (ap (pQ T) f.m (aa (pv 1) (aa (pv 7) (aa (aE ax (pv 2) ah) (aa (ap (ii T) f.m (aa (aB d6 (pv 3) (pv 4)) (aa (pv 7) ac))) ac))))))
     (af (bA (PW.pt (jn (aQ nj (aE ax (pv 5) (pv 7)) (aE ax (pv 9) ah) (aN _)) (iy (aQ pV (aE ax (pv 5) (pv 7)) (aE ax (pv 9) ah) (aN _))))) (ao (aJ (bI (aa aP (aa (pv 7) ac))))) aL)
     (ao (cL (i:=6) eV.nd (iE (pv 6) (iE (de f9 (aB bq ah (aE ax (pv 8) ah)) (aE ax (pv 5) (pv 7)) (aN _)) (i8 (de f9 (aE ax (pv 5) (pv 7)) (aB bq ah (aE ax (pv 8) (rg wu ah))) (aN _)))))))))))
     (af (bA (bX (pv 6)) (ao (aJ (bI (aa aP (aa cQ ac))))) aL)
     (ao (aJ (bI (aa aP (aa cQ ac)))))))))),?_⟩
 try dsimp only [dY,aV]
 try (refine li ?_;intro _ _ _ _ _ _ _)
 obtain ⟨pm,ps,pt,pf,fj,pb,vm,vs,vt,aK,J⟩:=id hT
 have AS:vm.length=n:=by rw [J.dm.length,Bl,ok.lm]
 have hl:(t.m2 n n).rows.length=n:=by rw [(c7 t n n).1,Bl,aat,ok.lm];lia
 obtain ⟨qb,qw,qf,e0,eb,ew,ef⟩:=id gq
 have Jh:∀ {o},o∈S.orders (t.m2 n n)↔o<16/\tZ t n S o:=λ {o}=>by rw [mv ok X I,aaW,aaK,oy]
 refine ⟨_,rfl,_,rfl,_,rfl,p,t,n,q,S,o,rfl,hT,ok,X,gq,by rw [I.lw,hl],λ L=>?_,λ L=>?_⟩
 case refine_2 =>
   have u:=ka (out:=O) (l:=l) (tm:=t) (n:=n) (s:=S) (λ z=>L (Jh.mp z).2)
   rw [u] at k
   refine ⟨_,rfl,?_⟩
   exact ff (A:=True) ⟨qv,λ r f=>k r _ (am f) ai⟩
 have F:=Jh.mpr ⟨qR,L⟩
 refine ⟨_,rfl,?_⟩
 refine fu (B:=True) ?_
 refine ⟨_,rfl,_,rfl,_,rfl,_,rfl,a,fp,_,q,S,o,rfl,hh,gq,I,AB F,λ H1 Y=>?_⟩
 refine ⟨_,_,rfl,rfl,λ y ey=>?_⟩
 obtain rfl:y=((O &&& S.may (t.m2 n n) o:Nat):Int):=by rw [ey];exact iw _ _
 refine ⟨_,rfl,rfl,_,rfl,xo (λ IP=>?_) (λ ad=>?_)⟩
 . have u:=hX (out:=O) (l:=l) F (λ z=>IP (by rw [z];rfl))
   rw [u] at k
   exact ⟨qv,λ r f=>k r _ (Y.trans (am f)) ai⟩
 have hf:O &&& S.may (t.m2 n n) o=O:=by
   have:=eD.mp ad
   lia
 have tn:=G6 ok X I iV F hf
 have Tp:=JD qR iV (λ r h=>(tn.sub r h).1)
 have hb:=Hl ok I
 refine ⟨_,rfl,p,_,rfl,bW (Y _ _ J.hp),pm,vm,rfl,.inl (bw.of (Y _ _ J.eB)),λ r er=>?_⟩
 obtain rfl:r=(n:Int):=by rw [er,AS]
 refine ⟨_,rfl,by lia,by lia,?_⟩
 refine lJ (lo:=0) (n:=n) (λ i U H'=>A3 (aF H H') (∀ j,j<i->t.oh n S.cN (Ord.off o O) l j=none) (E3 λ (v7 v8 v9:fH)=>U=[some (.ref a),some (.ref p),some (.ref q),some (av o),some (av O),some (.ref G),some (.bl (t.kg l i)),v7,v8,v9]))
   ⟨Y,λ j hj=>absurd hj (ab7 _),none,none,none,rfl⟩ ?_ ?_
 .
  rintro i U H2 C ⟨g,W,v7,v8,v9,rfl⟩
  refine Go ?_;intro _ _ _ _ _
  have C2:=J.same g
  have sR:i<t.marks.length:=by rw [ok.lm];exact C
  have T0:t.marks.getD i []=t.marks[i]:=by rw [Nr,aw sR];rfl
  obtain ⟨v,ev,pk,SY,rfl,uY,EO⟩:=C2.dm.get (i:=i) (d:=xt t.marks[i]) (by rw [RI,aw sR];rfl)
  obtain rfl:=fw EO
  have EJ:bw K H2 pk (t.marks[i].map V.int):=cJ.seq uY
  refine ⟨_,rfl,p,_,rfl,bW C2.hp,_,rfl,pm,vm,_,_,rfl,rfl,.inl (bw.of C2.eB),by rw [aan];exact bB ev,?_⟩
  refine ⟨_,rfl,_,rfl,_,rfl,q,_,_,_,rfl,rfl,.inr (g.tup e0),rfl,_,rfl,_,rfl,_,_,rfl,rfl,λ y ey=>?_⟩
  obtain rfl:y=((Ord.off o O:Nat):Int):=by rw [ey];exact Tp
  refine ⟨_,rfl,Ord.off o O,i,by rw [aan];rfl,?_⟩
  have D:(Ord.off o O).testBit i=true->(t.m2 n n).has i=true:=λ h=>(tn.YH (tn.YN h).1).2
  refine ⟨p,t,n,i,qb,S.cN,_,by rw [aan];rfl,hT.same g,ok,X,C,.inr (g.tup eb),hb,λ z=>nq ok C (D z),λ qe H3 s3 he=>?_⟩
  have N:=g.trans s3
  have OB:=s3.seq EJ
  have M:=N.seq gU
  have zw:=ok.rows t.marks[i] (aaf sR)
  have II:i<l.length:=by lia
  have R:tM (l.map V.int) (0+(i:Int))=some (.int (l.getD i 0)):=by rw [aan];exact jl (by rw [RI,aw II,Nr,aw II];rfl)
  have kt:l.getD i 0<t.s0 n i S.cN ((Ord.off o O).testBit i)\/t.s1 n i S.cN ((Ord.off o O).testBit i)<l.getD i 0->∀ r H',aF H H'->H' r=some (.tup [.str "turn",.int (0+(i:Int))])->Q (.ref r) H':=λ c r H' s' f=>by
    have u:=pG F hf C (by unfold ay.oh;rw [aaq c]) W
    rw [u] at k
    rw [aan] at f
    exact k r H' s' f
  refine ⟨_,rfl,_,rfl,G,_,_,_,rfl,rfl,.inl M,R,_,rfl,qe,_,_,_,rfl,rfl,.inr (cH.of he),rfl,_,_,rfl,rfl,_,rfl,i5 (λ c1=>?_) (λ c1=>?_)⟩
  . exact fu ⟨_,rfl,qv,λ r f=>kt (.inl c1) r _ (N.trans (am f)) ai⟩
  refine ⟨_,rfl,_,rfl,G,_,_,_,rfl,rfl,.inl M,R,_,rfl,qe,_,_,_,rfl,rfl,.inr (cH.of he),rfl,_,_,rfl,rfl,_,rfl,i5 (λ c2=>?_) (λ c2=>?_)⟩
  . exact ⟨_,rfl,qv,λ r f=>kt (.inr c2) r _ (N.trans (am f)) ai⟩
  have l2:=zw.two
  obtain ⟨_,ab,Fm,ae,aj⟩:=hV (b:=0) ok C (by rw [T0];lia)
  obtain ⟨_,EK,EI,al,an⟩:=hV (b:=t.marks[i].length - 1) ok C (by rw [T0];lia)
  have bd:∀ {x:Int},-1000<=x->x<=1000->Bd 10 x:=λ h1 h2=>by show Int.natAbs _<2 ^ 10;lia
  refine lN (a:=t.kg l i) (b:=decide (12 * t.wQ i 0<=l.getD i 0) && decide (l.getD i 0<=12 * t.wQ i (t.marks[i].length - 1))) (λ Q h=>⟨_,rfl,h⟩) (λ Q h=>lN (a:=decide (12 * t.wQ i 0<=l.getD i 0)) (b:=decide (l.getD i 0<=12 * t.wQ i (t.marks[i].length - 1))) (λ Q h=>?_) (λ Q h=>?_) h) ?_
  . refine ⟨_,rfl,pk,_,_,_,rfl,rfl,.inl OB,bB (j:=0) (by rw [RI,aw ab];rfl),_,_,rfl,rfl,⟨10,10,mZ,bd (by rw [<- Fm];lia) (by rw [<- Fm];lia),by decide⟩,λ x3 g3=>⟨_,rfl,_,rfl,G,_,_,_,rfl,rfl,.inl M,R,_,_,rfl,rfl,?_⟩⟩
    rw [g3,<- Fm]
    exact h
  . refine ⟨_,rfl,_,rfl,G,_,_,_,rfl,rfl,.inl M,R,_,rfl,1,rfl,pk,_,_,_,rfl,rfl,.inl OB,BC (by rw [Bl];lia) (by rw [Bl,RI,aw EK];rfl),_,_,rfl,rfl,⟨10,10,mZ,bd (by rw [<- EI];lia) (by rw [<- EI];lia),by decide⟩,λ x3 g3=>⟨_,_,rfl,rfl,?_⟩⟩
    rw [g3,<- EI]
    exact h
  have ei:(t.kg l i && (decide (12 * t.wQ i 0<=l.getD i 0) && decide (l.getD i 0<=12 * t.wQ i (t.marks[i].length - 1))))=t.kg l (i+1):=by rw [<- T0];rfl
  rw [ei]
  refine ⟨N,λ j hj=>?_,_,_,_,rfl⟩
  by_cases e:j<i
  . exact W j e
  . obtain rfl:j=i:=by lia
    unfold ay.oh
    exact aal λ z=>z.elim c1 c2
 .
  rintro U H2 ⟨g,W,v7,v8,v9,rfl⟩
  have u:=qC F hf W
  rw [u] at k
  refine ⟨_,rfl,_,rfl,?_⟩
  cases ci:t.kg l n with
  | true =>
    rw [ci] at k
    exact fu ⟨qv,λ r f=>k r _ (g.trans (am f)) ai⟩
  | false =>
    rw [ci] at k
    exact ff ⟨qv,λ r f=>k r _ (g.trans (am f)) ai⟩
def uC {j:Nat} {v:V} {K:aC} {c:aq} {i:Nat} {t:(L2.St->XK)->TS} {T:aq->Option ag->ag->TS} {R:TS} {D:Ends} {U:L2.St} {H:Hp} (P:L2.St->aq->Option ag->Hp->Prop)
   (b:∀ a cls d h,P a cls d h->W.exmOne K cls c=some true/\∀ e,h e=none->T cls d e (Ends.unset { D with nx:=R D } i) (a.set i (some (.ref e))) h)
   (f:∀ E:L2.St->XK,(∀ a cls d h,P a cls d h->E a cls d h)->t E { D with nx:=R D } (U.set j (some v)) H):lZ j v U H (aS (BO K c i t T) R D):=f _ b
def KN (Ad:Nw) (a:Str×V) (g:Int) (H:Hp) (cls:aq) (d:Option ag) (h:Hp):Prop :=
 ∃ i D,cls = .ref D/\(JY Ad)[i]?=some D/\i<4/\aF H h/\a.1=zW i/\(i=2->a.2 ≠ .bL/\∃ b,d=some b/\h b=some (.xd [("turn",.int g),("room",a.2)]))/\(i≠2->a.2 = .bL)
def Fh (T:Txt K mg Ad) {i:Nat} {D:ag} (h:(JY Ad)[i]?=some D):lX K D:=by
 have H:=aaO h
 simp only [JY,aaa,aae,aaX] at H
 rcases H with rfl|rfl|rfl|rfl|rfl
 . exact ⟨T.xp,T.xG,T.yS,T.gs,T.tk,T.xy,T.yu,T.yl⟩
 . exact ⟨T.tK,T.tq,T.tf,T.gs,T.tk,T.tz,T.tR,T.sU⟩
 . exact mF T
 . exact ⟨T.AA,T.zX,T.Bp,T.gs,T.tk,T.zA,T.Ae,T.A6⟩
 . exact ⟨T.Ea,T.DP,T.CV,T.gs,T.tk,T.Ep,T.Ef,T.Eo⟩
def A0 {C D:ag} {H:Hp} {Q:VK} {E:XK} {x I:ag} {L:cM} {tm:ay} {n o out:Nat} {s:gW} {g:Int} {ys:aA} {l:List Int} {vs:aA} (hv:vs=[.ref x,av o,av out,.ref I])
   (ok:tm.Ok n n) (N:n<=4) (hw:p7 K C D H x L (tm.m2 n n) s g) (J:jb (tm.m2 n n) s) (R:out<16) (hp:bw K H I ys) (W:cn K H ((l.map λ x=>aY x 12 tm.scale).map dL) ys) (p:l.length=n) (bl:∀ x∈l,-5000<=x/\x<=5000)
   (v:∀ cls d t,KN Ad (gI tm n s o out l) g H cls d t->E cls d t)
   (X:gI tm n s o out l=(("" : Str),V.bL)->∀ r,uo [x] H r->cB K H r->WS K D r x s (g+1)->Q .bL r):rS K C D Ad.e8 Ad.cW Ad.cE Ad.gM vs H Q E:=by
 obtain ⟨dx,hd,q,hx,Y,hs,nx⟩:=id hw
 obtain ⟨Z,q1,q2,q3,w⟩:=id Y
 have F:(tm.m2 n n).rows.length=n:=by rw [(c7 tm n n).1,Bl,aat,ok.lm];lia
 have u:=Hl ok J
 have B:o∈s.orders (tm.m2 n n)->out &&& s.may (tm.m2 n n) o=out->∀ i,(Ord.off o out).testBit i=true->(tm.m2 n n).has i=true:=λ a c i h=>let T:=G6 ok N J R a c;(T.YH (T.YN h).1).2
 refine ⟨x,L,tm.m2 n n,s,g,o,out,I,ys,_,hv,hw,J,R,hp,W,by rw [Bl,p,F],λ f c=>?_,λ i b m h=>EM w ok N (by lia) u h,B,λ a=>λ t S=>?_,λ a c=>λ t S=>?_,λ a c=>⟨λ i m e A=>?_,λ A=>⟨λ m=>λ t S=>?_,λ m r b ts w'=>?_⟩⟩⟩
 . obtain ⟨y,O,rfl⟩:=aax.mp c
   exact rZ ok (bl y O).1 (bl y O).2
 . exact v _ _ _ ⟨0,_,rfl,rfl,by decide,S,by rw [ka a];rfl,λ z=>absurd z (by decide),λ Z=>by rw [ka a]⟩
 . exact v _ _ _ ⟨1,_,rfl,rfl,by decide,S,by rw [hX a c];rfl,λ z=>absurd z (by decide),λ Z=>by rw [hX a c]⟩
 .
  rw [F] at m
  have k:=pG (l:=l) a c m (by rw [lH w ok N m u (B a c i) p,aaq e]) λ j h=>by rw [lH w ok N (by lia) u (B a c j) p,A j h];rfl
  intro d t S U
  exact v _ _ _ ⟨2,_,rfl,rfl,by decide,S,by rw [k];rfl,λ Z=>⟨by rw [k];exact nofun,d,rfl,by rw [k];exact U⟩,λ z=>absurd rfl z⟩
 .
  have M:∀ j,j<n->tm.oh n s.cN (Ord.off o out) l j=none:=λ j h=>by rw [lH w ok N h u (B a c j) p,A j (by lia)];rfl
  have k:=qC a c M
  rw [pA.mpr λ i h=>by rw [<- uP ok h p];exact m i (by lia)] at k
  exact v _ _ _ ⟨3,_,rfl,rfl,by decide,S,by rw [k];rfl,λ z=>absurd z (by decide),λ Z=>by rw [k];rfl⟩
 .
  have M:∀ j,j<n->tm.oh n s.cN (Ord.off o out) l j=none:=λ j h=>by rw [lH w ok N h u (B a c j) p,A j (by lia)];rfl
  have k:=qC a c M
  obtain ⟨i,G,e⟩:=m
  rw [F] at G
  have:tm.kg l n=false:=Bool.eq_false_iff.mpr λ z=>by
    have:=pA.mp z i G
    rw [<- uP ok G p,e] at this
    cases this
  rw [this] at k
  exact X k r b ts w'
def yp (T:Txt K mg Ad):Def P w K mg base "_law_left" 11 ["_law_walk","_law_order","_law_out","_law_warmths"] (FX K Ad.bi Ad.Walk):=by
 refine T.qY.cX cT λ Z Z Z Z Z H vs Q E L h=>?_
 obtain ⟨x,fp,tm,n,st,g,o,O,pw,ys,l,rfl,ok,n4,t,so,qR,iV,hp,dl,ll,bl,k⟩:=h
 refine ⟨_,(af (cL (i:=4) cT.nd (bI (aa aP (aa cQ (aa cQ ac)))))
     (af (IZ (i:=5) rfl rfl cT.nd rfl rfl T.jK (qP (Cq (pv 0) T.bE (rE T).y L.m (aa (pv 1) (aa (pv 2) (aa (pv 3) ac))))) (λ Z Z Z Z M wS N=>(af (cL (i:=4) cT.nd (bI (aa (rK (jW T) ((cA.h L.m).mark _) (aaj _ (T1.mpr rfl)) M (aa (pv 5) ac)) (aa cQ (aa cQ ac)))))
     (ao (bA (bX (aT (fR K rfl (aaj _ (T1.mpr rfl)) M) (by rfl) T.cf bV (aa (pv 5) (aa (cK (v:=V.ref _) rfl T.nZ rfl) ac)))) (ao (cL (i:=4) cT.nd (bI (aa aP (aa (vY K rfl (aaj _ (T1.mpr rfl)) M wS N (pv 5)) (aa (vY K rfl (aaj _ (T1.mpr rfl)) M wS N (pv 5)) ac)))))) aL)))))
     (ao (aJ (pv 4))))),?_⟩
 try dsimp only [dY,aV]
 try (refine fg ?_;intro Z Z Z Z)
 obtain ⟨F9,Z,Z,wT,Z⟩:=id t
 refine ⟨Ex,λ R La=>?_⟩
 have s:=am (o:=.tup [.str "",.bL,.bL]) La
 have z:(upd H R (.tup [.str "",.bL,.bL])) R=some (.tup [.str "",.bL,.bL]):=ai
 generalize upd H R (.tup [.str "",.bL,.bL])=H2 at s z |-
 generalize Y:gI tm n st o O l=a at k
 dsimp only
 refine uC (λ f cls d H'=>f=[some (.ref x),some (av o),some (av O),some (.ref pw),some (.ref R),none]/\KN Ad a g H2 cls d H') ?_ ?_
 .
  rintro f cls d H3 ⟨rfl,i,D,rfl,q,i4,s3,p,YM,HF⟩
  have B:=qQ T.LW q
  have J:=Fh T q
  refine ⟨B.ex,λ e he=>?_⟩
  refine ⟨_,rfl,i,D,rfl,rfl,J,B,by lia,λ C X=>⟨Ex,λ j Gk=>?_⟩⟩
  have A:=am (o:=.tup [.str (zW i),.bL,.bL]) Gk
  have U:(upd C j (.tup [.str (zW i),.bL,.bL])) j=some (.tup [.str (zW i),.bL,.bL]):=ai
  generalize upd C j (.tup [.str (zW i),.bL,.bL])=H5 at A U |-
  have G:=s.trans (s3.trans (X.trans A))
  have ne:a.1 ≠ "":=by
    rw [p]
    match i,i4 with
    | 0,_=>decide
    | 1,_=>decide
    | 2,_=>decide
    | 3,_=>decide
  have W:∀ r H',aF H H'->H' r=some (.tup [.str a.1,a.2,if a.2 = .bL then .bL else .int g])->Q (.ref r) H':=λ r H' S e=>k r H' false (.inr ⟨ne,rfl⟩) (ku S) (aF.ts S) (t.same S).b e
  refine ⟨_,rfl,_,_,D,rfl,rfl,J,.one rfl (B.one 2 _ rfl),_,rfl,?_⟩
  cases c:(i == 2) with
  | true =>
    obtain rfl:i=2:=by simpa using c
    cases q
    obtain ⟨nn,I,rfl,jm⟩:=YM rfl
    have F:=(X.trans A) _ _ jm
    refine fu ⟨_,rfl,_,I,_,_,rfl,rfl,rfl,F,pM T,rfl,_,rfl,_,I,_,_,rfl,rfl,rfl,F,m7 T,rfl,Ex,λ r2 HI=>⟨_,rfl,W r2 _ (G.trans (am HI)) ?_⟩⟩
    rw [ai,aal nn,p];rfl
  | false =>
    have n2:i≠2:=by simpa using c
    refine ff ⟨_,rfl,W j H5 G ?_⟩
    rw [U,p,HF n2,aaq rfl]
 intro E' P6
 refine ⟨_,rfl,x,F9,_,rfl,s _ _ wT,rfl,_,rfl,_,rfl,_,rfl,?_⟩
 dsimp only [Dt,acE,ab8]
 refine A0 (Ad:=Ad) rfl ok n4 (t.same s) so iV (s.seq hp) (cn.same s _ dl) ll bl (λ cls d H' fl=>P6 _ _ _ _ ⟨rfl,Y ▸ fl⟩) (λ e H' b ts w'=>⟨_,rfl,?_⟩)
 have nr:R≠x:=bG z (s _ _ wT) nofun
 have e:a=(("" : Str),V.bL):=Y ▸ e
 refine k R H' true (.inl ⟨e,rfl⟩) (λ c u hc nc=>b c u (s c u hc) nc) ((aF.ts s).trans ts) w' ?_
 rw [e]
 exact b _ _ z (by simpa using nr)
def wJ (T:Txt K mg Ad):Me P w K mg base true "_law_left" 11 ["_law_walk","_law_order","_law_out","_law_warmths"] (G2 Ad.Walk):=by
 refine T.qY.Tb cT (λ c e U H Q E h=>?_) (λ Z Z Z Z Z Z us C=>rC C λ Z Z Z Z=>rfl) (λ f aW A outer s H U Q E e1 O p B h=>?_)
 . obtain ⟨x,b,g,j,rfl,Z⟩:=h
   rfl
 .
  obtain ⟨x,b,g,j,rfl,q,k⟩:=h
  have y:=B rfl
  refine ⟨_,(af (cL (i:=4) cT.nd (bI (aa aP (aa cQ (aa cQ ac)))))
    (af (vR (cc:=false) (i:=5) rfl rfl cT.nd rfl rfl T.jK (qP (G1 (pv 0) T.bE (qZ T) p.m (T1.mpr rfl) (λ Z=>y) (aa (pv 1) (aa (pv 2) (aa (pv 3) ac))))) (λ Z Z Z Z M W N Nv=>(af (cL (i:=4) cT.nd (bI (aa (rK (jW T) (p.m.mark _) (aaj _ (T1.mpr rfl)) M (aa (pv 5) ac)) (aa cQ (aa cQ ac)))))
    (ao (bA (bX (aT (fR K rfl (aaj _ (T1.mpr rfl)) M) (by rfl) T.cf bV (aa (pv 5) (aa (cK (v:=V.ref _) rfl T.nZ rfl) ac)))) (ao (cL (i:=4) cT.nd (bI (aa aP (aa (vY K rfl (aaj _ (T1.mpr rfl)) M W N (pv 5)) (aa (vY K rfl (aaj _ (T1.mpr rfl)) M W N (pv 5)) ac)))))) aL)))))
    (ao (aJ (pv 4))))),?_⟩
  try dsimp only [dY,aV]
  try (refine fg ?_;intro Z Z Z Z)
  obtain ⟨F,Z,Z,Z,X⟩:=id q
  refine ⟨Ex,λ r L=>?_⟩
  have S:=am (o:=.tup [.str "",.bL,.bL]) L
  generalize upd H r (.tup [.str "",.bL,.bL])=u at S |-
  dsimp only
  refine uC (λ a cls d l=>a=[some (.ref x),some b,some g,some j,some (.ref r),none]/\cls = .ref Ad.gz/\aF u l) ?_ ?_
  .
   rintro a cls d H3 ⟨rfl,rfl,I⟩
   have t:=qQ (i:=4) T.LW rfl
   have n:=Fh (i:=4) T rfl
   refine ⟨t.ex,λ e he=>?_⟩
   refine ⟨_,rfl,4,_,rfl,rfl,n,t,by decide,λ H4 J=>⟨Ex,λ R G=>?_⟩⟩
   refine ⟨_,rfl,_,_,_,rfl,rfl,n,.one rfl (t.one 2 _ rfl),_,rfl,?_⟩
   exact ff ⟨_,rfl,k R _ (S.trans (I.trans (J.trans (am G)))) ai⟩
  intro Y z
  refine ⟨_,rfl,x,F,_,rfl,S _ _ X,rfl,_,rfl,_,rfl,_,rfl,?_⟩
  dsimp only [Dt,acE,ab8]
  exact ⟨x,b,g,j,rfl,q.same S,λ l D=>z _ _ _ _ ⟨rfl,rfl,D⟩⟩
def IT {K:aC} {c:aq} {i:Nat} {t:(L2.St->XK)->TS} {T:aq->Option ag->ag->TS} {D:Ends} {U:L2.St} {H:Hp} (P:L2.St->aq->Option ag->Hp->Prop)
   (b:∀ a cls d h,P a cls d h->W.exmOne K cls c=some true/\∀ e,h e=none->T cls d e (Ends.unset D i) (a.set i (some (.ref e))) h)
   (f:∀ E:L2.St->XK,(∀ a cls d h,P a cls d h->E a cls d h)->t E D U H):BO K c i t T D U H:=f _ b
def we (T:Txt K mg Ad):Def P w K mg base "_law_ended" 12 ["_law_walk","_law_order","_law_out","_law_bands","_law_warmths"] (Gq Ad.Walk):=by
 refine T.wU.cX nA λ Z Z Z Z Z H D Q E b h=>?_
 obtain ⟨x,v,V,j,l,rfl,f,k⟩:=h
 refine ⟨_,(af (vR (i:=5) rfl rfl nA.nd rfl rfl T.jK (qP (Cq (pv 0) T.bE (tX T) b.m (aa (pv 1) (aa (pv 2) (aa (pv 3) ac))))) (λ Z Z Z Z M G B N=>(ao (aJ (iE (de gY (rK (jW T) ((cA.h b.m).mark _) (aaj _ (T1.mpr rfl)) M (aa (pv 5) ac)) aP (aN _)) (i8 (de gY (aE (iZ (K:=K) rfl) (GP (wJ T) ((cA.h b.m).mark _) (aaj _ (T1.mpr rfl)) M (λ Z=>⟨rfl,N rfl⟩) (aa (pv 0) (aa (pv 1) (aa (pv 2) (aa (pv 4) ac))))) ah) aP (aN _))))))))
     (ao (aJ fh))),?_⟩
 try dsimp only [dY,aV]
 obtain ⟨F,Z,Z,Z,W⟩:=id f
 refine IT (λ a cls d g=>a=[some (.ref x),some v,some V,some j,some l,none]/\cls = .ref Ad.gz/\aF H g) ?_ ?_
 .
  rintro a cls d z ⟨rfl,rfl,s⟩
  have t:=qQ (i:=4) T.LW rfl
  have o:=Fh (i:=4) T rfl
  refine ⟨t.ex,λ e C=>?_⟩
  refine ⟨_,rfl,4,_,rfl,rfl,o,t,by decide,λ A S=>?_⟩
  refine ⟨rfl,_,rfl,?_⟩
  refine fu ?_
  refine ⟨_,rfl,_,rfl,_,rfl,_,rfl,x,v,V,l,rfl,f.same (s.trans S),λ r n u c=>?_⟩
  refine ⟨r,_,_,_,rfl,rfl,.inr (cH.of c),rfl,rfl,?_⟩
  exact k n (s.trans (S.trans u))
 intro y p
 refine ⟨_,rfl,x,F,_,rfl,W,rfl,_,rfl,_,rfl,_,rfl,?_⟩
 exact ⟨x,v,V,j,.bL,rfl,f,λ g q=>p _ _ _ _ ⟨rfl,rfl,q⟩⟩
def oP (T:Txt K mg Ad):Def P w K mg base "_law_ended_all" 13 ["_law_walk","_law_order","_law_out","_law_bands","_law_warmths"] (D0 Ad.Walk):=by
 refine T.p6.cX jk λ Z Z Z Z Z H vs Q E hr h=>?_
 obtain ⟨x,o,O,J,L,rfl,hw,k⟩:=h
 refine ⟨_,(af (dE aaH rfl (fo (cY (aa (bI (aa ah (aa ah ac))) (aa (bI (aa ah (aa ah ac))) (aa (bI (aa ah (aa ah ac))) (aa (bI (aa ah (aa ah ac))) ac)))))) (jo (i:=5) jk.nd) (ao (bA (dM (bX (ap (we T) hr.m (aa (pv 0) (aa (aB AQ (pv 1) (aE ax (pv 5) ah)) (aa (aB AQ (pv 2) (aE ax (pv 5) ah)) (aa (pv 3) (aa (pv 4) ac)))))))) (ao (aJ fh)) aL)))
     (ao (aJ fh))),?_⟩
 try dsimp only [dY,aV]
 refine ⟨qv,λ c N=>⟨qv,λ d R=>⟨qv,λ f W=>⟨qv,λ g Y=>⟨LR,λ p M=>?_⟩⟩⟩⟩⟩
 have s1:=am (o:=.tup [.int 0,.int 0]) N
 have I:=am (o:=.tup [.int 16,.int 0]) R
 have u:=am (o:=.tup [.int 0,.int 16]) W
 have l:=am (o:=.tup [.int 8,.int 8]) Y
 have s:=am (o:=.lst [.ref c,.ref d,.ref f,.ref g]) M
 have q:=(((s1.trans I).trans u).trans l).trans s
 have C:=(((I.trans u).trans l).trans s) _ _ (ai (H:=H) (a:=c) (o:=.tup [.int 0,.int 0]))
 have D:=((u.trans l).trans s) _ _ ai
 have F:=(l.trans s) _ _ ai
 have G:=s _ _ ai
 have r:(upd (upd (upd (upd (upd H c (.tup [.int 0,.int 0])) d (.tup [.int 16,.int 0])) f (.tup [.int 0,.int 16])) g (.tup [.int 8,.int 8])) p (.lst [.ref c,.ref d,.ref f,.ref g])) p=some (.lst [.ref c,.ref d,.ref f,.ref g]):=ai
 generalize upd (upd (upd (upd (upd H c (.tup [.int 0,.int 0])) d (.tup [.int 16,.int 0])) f (.tup [.int 0,.int 16])) g (.tup [.int 8,.int 8])) p (.lst [.ref c,.ref d,.ref f,.ref g])=A at q C D F G r |-
 have y:∀ v∈([.ref c,.ref d,.ref f,.ref g]:aA),∃ t,∃ a b:Int,v = .ref t/\A t=some (.tup [.int a,.int b]):=λ v j=>by
   simp only [aaa,aae,aaX] at j
   rcases j with rfl|rfl|rfl|rfl
   . exact ⟨_,_,_,rfl,C⟩
   . exact ⟨_,_,_,rfl,D⟩
   . exact ⟨_,_,_,rfl,F⟩
   . exact ⟨_,_,_,rfl,G⟩
 refine ⟨p,rfl,⟨_,bw.of r⟩,?_⟩
 refine uJ (K:=K) (a:=p) (xs:=[.ref c,.ref d,.ref f,.ref g]) (λ i U z=>aF A z/\∃ (V:fH),U=[some (.ref x),some (av o),some (av O),some J,some L,V]) ⟨aF.refl _,none,rfl⟩ (λ i U z Z e=>bw.of (e.1 _ _ r)) ?_ ?_
 .
  rintro Z i v U n j ⟨S,V,rfl⟩
  obtain ⟨t,a,b,rfl,ht⟩:=y v (aaO j)
  have X:cH K n t [.int a,.int b]:=cH.of (S _ _ ht)
  refine ⟨_,rfl,_,rfl,_,rfl,t,_,_,_,rfl,rfl,.inr X,rfl,_,_,rfl,rfl,λ y1 e1=>⟨_,rfl,_,rfl,t,_,_,_,rfl,rfl,.inr X,rfl,_,_,rfl,rfl,λ y2 e2=>⟨_,rfl,_,rfl,x,.int y1,.int y2,J,L,rfl,hw.same (q.trans S),λ H7 s7=>?_⟩⟩⟩
  exact ⟨_,rfl,fu (B:=True) ⟨S.trans s7,_,rfl⟩⟩
 . rintro U n ⟨S,V,rfl⟩
   exact k n (q.trans S)
def DB {K:aC} {H:Hp} {p q:ag} {l:cx} {Q:VK} (h:bw K H p (l.map av)) (a:bw K H q []) (k:Q (.bl (!decide (l=[]))) H):MS K (.ref p) (.ref q) H Q:=by
 refine ⟨.list (l.map sj),.list [],J4 h,Hg a ip,jL (n:=1) IU (by decide),jL (n:=1) (show ∀ d∈([]:List PyData),EE 0 d from nofun) (by decide),?_⟩
 have:PyData.eqv (.list (l.map sj)) (.list [])=decide (l=[]):=by cases l<;>simp [PyData.eqv,PyData.eqvAll]
 rw [this];exact k
def sV (T:Txt K mg Ad):Def P w K mg base "_law_choice" 9 ["_law_hold","_law_told","_law_state","_law_three","_law_k"] (xa K Ad.bi):=by
 refine T.vf.cX b7 λ _ _ _ _ _ H vs Q E e h=>?_
 obtain ⟨a,fp,p,c,n,q,S,J,cs,kk,rfl,hh,hT,ok,n4,gq,so,hc,hk,k⟩:=h
 refine ⟨_,(af (uy (yi:=5) ["_law_one"] ["_law_told","_law_state"] [1,2] (.cons ⟨rfl,rfl,.inl rfl⟩ (.cons ⟨rfl,rfl,.inl rfl⟩ .nil)) rfl (bZ rfl T.cZ (aa ah ac)) (λ _ _ _ _ _=>(rD (i:=0))) (λ _ _ _ _ _=>(lI (bX (ap (i3 T) e.m (aa (pv 1) (aa (pv 2) (aa (pv 0) ac))))))) (λ _ _ _ _ _=>(pv 0)) b7.nd (lc rfl))
     (af (cL (i:=6) b7.nd (ap (aR T) e.m (aa (ap (bT T) e.m (aa (pv 3) (aa ah ac))) (aa (pv 4) (aa ah ac)))))
     (af (oT (bA (PW.pt (o7 (aQ (Hv e.units) (pv 5) (cY ac) (aN _)) (lS (aQ pV (ap (aR T) e.m (aa (ap (bT T) e.m (aa (pv 3) (aa ah ac))) (aa (aB aM (pv 4) ah) (aa ah ac)))) ah (aN _))))) (ao (cL (i:=6) b7.nd (aE ax (pv 5) (ap (aR T) e.m (aa (ap (bT T) e.m (aa (pv 3) (aa ah ac))) (aa (aB aM (pv 4) ah) (aa (aT bQ (by rfl) T.fA dF (aa (pv 5) ac)) ac))))))) aL))
     (af (cL (i:=7) b7.nd (aB gu (aB gA (ap (bT T) e.m (aa (pv 3) (aa ah ac))) ah) ah))
     (af (oT (bA (PW.pt (o7 (bX (ap (i3 T) e.m (aa (pv 1) (aa (pv 2) (aa (pv 6) ac))))) (lS (aQ pV (ap (aR T) e.m (aa (ap (bT T) e.m (aa (pv 3) (aa ah ac))) (aa (aB aM (pv 4) ah) (aa ah ac)))) ah (aN _))))) (ao (cL (i:=7) b7.nd (aB iW (ap (kM T) e.m (aa (pv 0) (aa (pv 2) (aa (pv 6) ac)))) (pv 7)))) aL))
     (af (cL (i:=8) b7.nd (cY ac))
     (af (dE aaH rfl (bZ rfl T.cZ (aa (aT bQ (by rfl) T.fA dF (aa (bu (b5 e) (pv 1) aP (λ _ _=>rfl)) ac)) ac)) (jo (i:=9) b7.nd) (af (cL (i:=10) b7.nd (iE (ap (ii T) e.m (aa (pv 6) (aa (pv 9) ac))) (iE (mH (ap (ii T) e.m (aa (pv 7) (aa (pv 9) ac)))) (i8 (de m8 (aE ax (bu (b5 e) (pv 1) aP (λ _ _=>rfl)) (pv 9)) cQ (aN _))))))
     (af (cL (i:=11) b7.nd (ap (pQ T) e.m (aa (pv 1) (aa (pv 9) (aa (aE ax (pv 2) ah) (aa (pv 10) ac))))))
     (af (cL (i:=12) b7.nd (ap (aR T) e.m (aa (ap (bT T) e.m (aa (pv 3) (aa ah ac))) (aa (aB aM (pv 4) (pv 9)) (aa ah ac)))))
     (af (bC (iR aay aaJ aaI cV (pv 8) (aa (aE ax (cY (aa (aE ax (pv 11) ah) (aa (aE ax (pv 11) ah) (aa (aB d6 (aE ax (pv 11) ah) ah) (aa (aB aM (aE ax (pv 11) ah) ah) ac))))) (aT (DM rfl) (by rfl) T.PD LJ (aa ah (aa (aB d6 (pv 12) ah) ac)))) ac)))
     (ao (bA (aQ nj (pv 12) ah (aN _)) (ao (jB (aE ax (pv 11) ah) (zN (pv 8) (rg wu ah) set_list))) aL)))))))
     (ao (aJ (bI (aa (pv 6) (aa (pv 7) (aa (pv 8) ac))))))))))))),?_⟩
 try dsimp only [dY,aV]
 try (refine xV ?_;intro _ _ _ _ _ _ _ _ _)
 obtain ⟨pm,ps,pt,pf,fj,pb,vm,vs,vt,aK,C0⟩:=id hT
 have AS:vm.length=n:=by rw [C0.dm.length,Bl,ok.lm]
 have hl:(c.m2 n n).rows.length=n:=by rw [(c7 c n n).1,Bl,aat,ok.lm];lia
 obtain ⟨qb,qw,qf,e0,eb,ew,ef⟩:=id gq
 have lw:S.iT.length=n:=by rw [so.lw,hl]
 have Jh:∀ {o},o∈S.orders (c.m2 n n)↔o<16/\tZ c n S o:=λ {o}=>by rw [mv ok n4 so,aaW,aaK,oy]
 have hb:=Hl ok so
 refine ⟨_,rfl,by decide,by decide,λ D hD=>?_⟩
 refine iH (lo:=0) (n:=16) (λ j I U C=>A4 (aF H C) (C D=some (.lst I)) (I=((List.range j).filter (qT c n S)).map av) (∃ v,U=[v,some (.ref p),some (.ref q)]))
   ⟨am hD,ai,rfl,none,rfl⟩ ?_ ?_
 .
  rintro j I U H7 hj ⟨M,Yn,rfl,v,rfl⟩
  have la:=aa1 (qT c n S) (List.range j)
  rw [aaG] at la
  refine ⟨_,rfl,_,rfl,_,rfl,p,c,n,q,S,j,(by rw [aan];rfl),hT.same M,ok,n4,gq.same M,lw,λ L=>⟨_,rfl,fu ⟨_,rfl,Yn,aZ (by rw [Bl];lia),M.put hD,ai,?_,_,rfl⟩⟩,λ L=>⟨_,rfl,ff ⟨M,Yn,?_,_,rfl⟩⟩⟩
  . rw [xI,CI L,aab,aan];rfl
  . rw [xI,zy L];simp
 rintro I U H1 ⟨s1,k9,rfl,v,rfl⟩
 have Xr:∀ o,o∈(List.range 16).filter (qT c n S)->o<16:=λ o h=>aaK.mp (aaW.mp h).1
 generalize (List.range 16).filter (qT c n S)=al at k9 Xr
 refine ⟨_,rfl,J,cs,1,rfl,s1.seq hc,by decide,λ c1 _=>⟨_,rfl,c1,_,16,rfl,by lia,by lia,by decide,λ r a0 a1=>?_⟩⟩
 obtain ⟨o0,rfl⟩:∃ o:Nat,r=(o:Int):=⟨r.toNat,by lia⟩
 refine ⟨λ l C=>aF H C/\∃ (o:Nat),o<16/\l=[some (.ref a),some (.ref p),some (.ref q),some (.ref J),some (av kk),some (.ref D),some (av o),none,none,none,none,none,none],?_,?_⟩
 .
  refine ⟨_,rfl,N1,λ pe a5=>?_⟩
  have s3:=am (o:=.lst []) a5
  have i9:=s3 _ _ k9
  have k3:(upd H1 pe (.lst [])) pe=some (.lst []):=ai
  generalize upd H1 pe (.lst [])=H3 at s3 i9 k3 |-
  have R:=s1.trans s3
  refine DB (bw.of i9) (bw.of k3) ⟨_,rfl,xo (λ h=>?_) (λ h=>⟨R,o0,by lia,rfl⟩)⟩
  have a8:0<al.length:=List.length_pos_iff.mpr h
  refine ⟨_,rfl,J,cs,1,rfl,R.seq hc,by decide,λ c2 _=>⟨_,rfl,_,_,rfl,rfl,λ y1 f1=>⟨c2,y1,7,rfl,by lia,by lia,by decide,λ r' q0 q1=>⟨_,_,rfl,rfl,_,rfl,i5 (λ h1=>?_) (λ h1=>⟨R,o0,by lia,rfl⟩)⟩⟩⟩⟩
  refine ⟨_,rfl,_,rfl,J,cs,1,rfl,R.seq hc,by decide,λ c3 _=>⟨_,rfl,_,_,rfl,rfl,λ Y f2=>⟨_,rfl,D,_,rfl,.inl (bw.of i9),λ y3 f3=>?_⟩⟩⟩
  rw [Bl] at f3
  refine ⟨c3,Y,y3,rfl,by lia,by lia,by lia,λ r2 p0 p1=>?_⟩
  have HI:r2.toNat<al.length:=by lia
  refine ⟨D,_,_,_,rfl,rfl,.inl (bw.of i9),?_,R,al[r2.toNat],Xr _ (aaf HI),rfl⟩
  have:=bB (xs:=al.map av) (j:=r2.toNat) (v:=av al[r2.toNat]) (by rw [RI,aw HI];rfl)
  rw [acS p0] at this
  exact this
 rintro l H2 ⟨G,o,qR,rfl⟩
 refine ⟨_,rfl,J,cs,1,rfl,G.seq hc,by decide,λ c2 _=>⟨_,_,rfl,rfl,⟨by decide,mZ⟩,λ x2 g2=>⟨_,_,rfl,rfl,by decide,λ x3 a3 b3 g3=>?_⟩⟩⟩
 obtain ⟨MR,rfl⟩:∃ y:Nat,x3=(y:Int):=⟨x3.toNat,by lia⟩
 refine ⟨λ l C=>aF H C/\∃ (O:Nat),O<16/\l=[some (.ref a),some (.ref p),some (.ref q),some (.ref J),some (av kk),some (.ref D),some (av o),some (av O),none,none,none,none,none],?_,?_⟩
 .
  refine ⟨_,rfl,_,rfl,_,rfl,p,c,n,q,S,o,rfl,hT.same G,ok,n4,gq.same G,lw,λ L=>⟨_,rfl,?_⟩,λ L=>⟨_,rfl,?_⟩⟩
  case refine_2=>exact ff (A:=True) ⟨G,MR,by lia,rfl⟩
  refine fu (B:=True) ?_
  have ho:=Jh.mpr ⟨qR,L⟩
  refine ⟨_,rfl,J,cs,1,rfl,G.seq hc,by decide,λ c3 _=>⟨_,rfl,_,_,rfl,rfl,λ y1 f1=>⟨c3,y1,7,rfl,by lia,by lia,by decide,λ r' q0 q1=>⟨_,_,rfl,rfl,_,rfl,i5 (λ h1=>?_) (λ h1=>⟨G,MR,by lia,rfl⟩)⟩⟩⟩⟩
  refine ⟨_,rfl,_,rfl,_,rfl,a,fp,_,q,S,o,rfl,hh.same G,gq.same G,so,AB ho,λ H3 s3=>⟨_,rfl,_,_,rfl,rfl,λ y ey=>?_⟩⟩
  obtain rfl:y=((S.may (c.m2 n n) o &&& MR:Nat):Int):=by rw [ey];exact iw _ _
  have:=G0 (s:=S) (o:=o) (m:=c.m2 n n) (by lia)
  exact ⟨G.trans s3,_,aaY Nat.and_le_left this,rfl⟩
 rintro l H3 ⟨R,O,iV,rfl⟩
 refine ⟨N1,λ W Nm=>?_⟩
 have W1:H W=none:=R.free Nm
 have s4:=am (o:=.lst []) Nm
 have kw:(upd H3 W (.lst [])) W=some (.lst []):=ai
 generalize upd H3 W (.lst [])=H4 at s4 kw |-
 have S4:=R.trans s4
 have C4:=C0.same S4
 refine ⟨_,rfl,p,_,rfl,bW C4.hp,pm,vm,rfl,.inl (bw.of C4.eB),λ r er=>?_⟩
 obtain rfl:r=(n:Int):=by rw [er,AS]
 refine ⟨_,rfl,by lia,by lia,?_⟩
 refine lJ (lo:=0) (n:=n) (λ i U C=>A3 (aF H C) (∃ (g:List Int),A3 (C W=some (.lst (g.map V.int))) (g.length=i) (∀ x∈g,-5000<=x/\x<=5000)) (E4 λ (v9 ad ae Vp:fH)=>U=[some (.ref a),some (.ref p),some (.ref q),some (.ref J),some (av kk),some (.ref D),some (av o),some (av O),some (.ref W),v9,ad,ae,Vp]))
   ⟨S4,⟨[],kw,rfl,nofun⟩,none,none,none,none,rfl⟩ ?_ ?_
 .
  rintro i U H5 hi ⟨S5,⟨g,NV,Rq,ab⟩,v9,ad,ae,Vp,rfl⟩
  refine GL ?_;intro _ _ _ _ _ _
  have C5:=C0.same S5
  have mS:i<c.aH.length:=by rw [ok.lt];exact hi
  obtain ⟨vq,HP,dq⟩:=C5.dt.get (i:=i) (d:=stI c.aH[i]) (by rw [RI,aw mS];rfl)
  have a6:(!decide (vq = .bL))=(c.m2 n n).has i:=by
    unfold au.has
    rw [sB ok hi,aw mS]
    cases xT:c.aH[i] with
    | none =>
      rw [xT] at dq
      have dq:vq = .bL:=dq
      subst dq
      rfl
    | some z =>
      rw [xT] at dq
      obtain ⟨pq,wq,rfl,_⟩:=dq
      rfl
  refine DL (a:=o.testBit i) (b:=!O.testBit i && (c.m2 n n).has i) (λ Q h=>⟨_,rfl,_,rfl,o,i,by rw [aan];rfl,h⟩) (λ Q h=>lN (a:=!O.testBit i) (b:=(c.m2 n n).has i) (λ Q h=>⟨_,rfl,_,rfl,O,i,by rw [aan];rfl,_,rfl,h⟩) (λ Q h=>?_) h) ?_
  . refine ⟨_,rfl,p,_,rfl,dI C5.hp,_,rfl,pt,vt,_,_,rfl,rfl,.inl (bw.of C5.dU),by rw [aan];exact bB HP,rfl,?_⟩
    rw [a6]
    exact h
  generalize a2:(o.testBit i && (!O.testBit i && (c.m2 n n).has i))=F
  have ZA:F=true->∃ z,c.aH[i]?=some (some z):=λ q=>by
    rw [<- a2] at q
    simp only [aaw] at q
    exact nq ok hi q.2.2
  refine ⟨_,rfl,_,rfl,_,rfl,q,_,_,_,rfl,rfl,.inr (S5.tup e0),rfl,_,rfl,p,c,n,i,qb,S.cN,F,by rw [aan];rfl,hT.same S5,ok,n4,hi,.inr (S5.tup eb),hb,ZA,λ X H6 s6 he=>?_⟩
  obtain ⟨an,ar,aj⟩:=Po (f:=F) ok n4 hi hb
  generalize c.s0 n i S.cN F=N at he an aj
  generalize c.s1 n i S.cN F=u at he ar aj
  have S6:=S5.trans s6
  refine ⟨_,rfl,J,cs,2,rfl,S6.seq hc,by decide,λ c4 _=>⟨_,rfl,_,rfl,_,_,rfl,rfl,λ y1 f1=>⟨c4,y1,12,rfl,by lia,by lia,by decide,λ a9 w0 w1=>?_⟩⟩⟩
  have Q8:cH K H6 X [.int N,.int u]:=cH.of he
  refine ⟨_,rfl,.inl ⟨rfl,_,bw.of (s6 _ _ NV)⟩,_,rfl,X,_,_,_,rfl,rfl,.inr Q8,rfl,_,rfl,X,_,_,_,rfl,rfl,.inr Q8,rfl,_,rfl,X,_,_,_,rfl,rfl,.inr Q8,rfl,_,_,rfl,rfl,λ z1 g1=>⟨_,rfl,X,_,_,_,rfl,rfl,.inr Q8,rfl,_,_,rfl,rfl,λ z2 g2=>⟨LR,λ p4 a4=>?_⟩⟩⟩
  have M:=am (o:=.lst [.int N,.int u,.int z1,.int z2]) a4
  have k7:(upd H6 p4 (.lst [.int N,.int u,.int z1,.int z2])) p4=some (.lst [.int N,.int u,.int z1,.int z2]):=ai
  generalize upd H6 p4 (.lst [.int N,.int u,.int z1,.int z2])=H7 at M k7 |-
  have S7:=S6.trans M
  have Z5:=s6.trans M
  refine ⟨_,rfl,_,_,rfl,rfl,λ Y f2=>⟨_,_,rfl,?_⟩⟩
  obtain ⟨x,ex,aI,aW⟩:∃ x:Int,tM [V.int N,V.int u,V.int z1,V.int z2] (if (0:Int)<Y then Y else 0)=some (.int x)/\-5000<=x/\x<=5000:=by
    have:Y<=0\/Y=1\/Y=2\/Y=3:=by lia
    rcases this with h|rfl|rfl|rfl
    . rw [aal (by lia)];exact ⟨N,rfl,by lia,by lia⟩
    . exact ⟨u,rfl,by lia,by lia⟩
    . exact ⟨z1,rfl,by lia,by lia⟩
    . exact ⟨z2,rfl,by lia,by lia⟩
  refine ⟨p4,_,_,_,rfl,rfl,.inl (bw.of k7),ex,W,_,_,rfl,rfl,Z5 _ _ NV,aZ (by rw [Bl];lia),?_⟩
  have S8:aF H (upd H7 W (.lst (g.map V.int++[.int x]))):=S7.put W1
  have k8:(upd H7 W (.lst (g.map V.int++[.int x]))) W=some (.lst ((g++[x]).map V.int)):=by rw [ai,aab];rfl
  have a7:X≠W:=bG he (s6 _ _ NV) nofun
  have YF:cH K (upd H7 W (.lst (g.map V.int++[.int x]))) X [.int N,.int u]:=cH.of (by rw [aG a7];exact M _ _ he)
  generalize upd H7 W (.lst (g.map V.int++[.int x]))=H8 at S8 k8 YF |-
  have b8:∀ y∈g++[x],-5000<=y/\y<=5000:=λ y hy=>by
    rcases aaD.mp hy with q'|q'
    . exact ab y q'
    . rw [T1.mp q'];exact ⟨aI,aW⟩
  refine ⟨_,rfl,_,_,rfl,rfl,_,rfl,i5 (λ h=>?_) (λ h=>⟨S8,⟨g++[x],k8,by rw [aad,Rq];rfl,b8⟩,_,_,_,_,rfl⟩)⟩
  refine ⟨_,rfl,X,_,_,_,rfl,rfl,.inr YF,rfl,_,rfl,_,rfl,W,_,-1,_,rfl,rfl,k8,MH (by rw [Bl,aad];simp),?_⟩
  refine ⟨S8.put W1,⟨(g++[x]).set ((g++[x]).length - 1) u,by rw [ai,Bl,adN],by rw [abM,aad,Rq];rfl,λ y hy=>?_⟩,_,_,_,_,rfl⟩
  rcases acr hy with q'|q'
  . exact b8 y q'
  . rw [q'];lia
 . rintro U H5 ⟨S5,⟨g,NV,Rq,ab⟩,v9,ad,ae,Vp,rfl⟩
   exact ⟨_,rfl,_,rfl,_,rfl,Ex,λ t ht=>k _ (S5.trans (am ht)) t o O W g qR iV ai (bw.of (am ht _ _ NV)) Rq ab⟩
def QN {i:Nat} {v:V} {U:L2.St} (a:L2.St) {H:Hp} {Q:L2.St->Hp->Prop} (e:U.set i (some v)=a) (h:Q a H):lZ i v U H Q:=by
 show Q (U.set i (some v)) H
 rw [e]
 exact h
def Iv {t tb:TT} {U:L2.St} {H:Hp} {Q:Bool->Hp->Prop} (b:Bool) (a:∀ q:Bool->Hp->Prop,q b H->t U H q) (c:b=true->∀ q:Bool->Hp->Prop,q false H->tb U H q) (h:Q false H):NR t tb U H Q:=by
 refine a _ ?_
 cases b with
 | true=>exact fu (c rfl Q h)
 | false=>exact ff h
def vN (T:Txt K mg Ad):Def P w K mg base "_law_right" 14 ["_law_hold","_law_told","_law_three","_law_k"] (Be K Ad.bi):=by
 refine T.wW.cX cF λ Z Z Z Z Z H vs Q E f h=>?_
 obtain ⟨a,fp,p,d,n,pc,cs,X,rfl,hh,N,ok,Y,hc,hk,k⟩:=h
 refine ⟨_,(af (cL (i:=4) cF.nd (ap (pY T) f.m (aa (pv 1) (aa (ap (bT T) f.m (aa (pv 2) (aa ah ac))) (aa (pv 3) ac)))))
     (af (cL (i:=5) cF.nd (yd T.Je (nG T) .nil f.m T.M4 (aa (pv 0) (aa (pv 4) ac))))
     (af (jB (ap (sV T) f.m (aa (pv 0) (aa (pv 1) (aa (pv 4) (aa (pv 2) (aa (pv 3) ac)))))) (eC (K:=K) (n:=3) rfl rfl (aX (jo (i:=6) cF.nd) (aX (jo (i:=7) cF.nd) (aX (jo (i:=8) cF.nd) eF)))))
     (af (cL (i:=9) cF.nd (ap (wy T) f.m (aa (pv 0) (aa (pv 1) (aa (pv 4) (aa (pv 6) (aa (pv 7) (aa (pv 8) ac))))))))
     (af (uy (yi:=10) ["_law_num"] ["_law_told"] [1] (.cons ⟨rfl,rfl,.inl rfl⟩ .nil) rfl (fo (pv 8)) (λ Z Z Z Z Z=>(rD (i:=0))) (λ Z Z Z Z Z=>fX) (λ Z Z Z Z Z=>(ap (iS T) f.m (aa (pv 0) (aa ah (aa (bu (b5 f) (pv 1) aP (λ Z Z=>rfl)) ac))))) cF.nd (lc rfl))
     (af (cL (i:=11) cF.nd (ap (yp T) f.m (aa (pv 5) (aa (pv 6) (aa (pv 7) (aa (pv 10) ac))))))
     (af (bA (PW.pt (jn (aQ gx (aE ax (pv 11) ah) (aE ax (pv 9) ah) (aN _)) (jn (aQ gx (aE ax (pv 11) ah) (aE ax (pv 9) ah) (aN _)) (iy (PW.pt (o7 (aQ m8 (aE ax (pv 9) ah) cQ (aN _)) (lS (aQ gx (aE ax (pv 11) ah) ah (aN _))))))))) (ao (aJ fh)) aL)
     (af (cL (i:=12) cF.nd (de gY (aE ax (pv 9) ah) aP (aN _)))
     (af (bA (PW.pt (jn (aQ (Hv f.units) (dS (pv 5) T.bE (sP T) .nil f.m) (pv 4) (aN _)) (iy (aQ gx (dS (pv 5) T.bE (sC T) .nil f.m) (dC CM (by rfl) T.Kh Fi (aa (pv 12) ac)) (aN _))))) (ao (aJ fh)) aL)
     (af (bA (PW.pt (jn (dM (bX (aT kJ (by rfl) T.cf bV (aa (dS (pv 5) T.bE (jr T) .nil f.m) (aa (qD (v:=V.ty "bool") rfl T.Gw Co rfl) ac))))) (iy (aQ gx (dS (pv 5) T.bE (jr T) .nil f.m) (pv 12) (aN _))))) (ao (aJ fh)) aL)
     (ao (aJ (KP (mH (pv 12)) (i8 (ap (oP T) f.m (aa (pv 5) (aa (pv 6) (aa (pv 7) (aa (dC fV (by rfl) T.rM m9 (aa (aE ax (pv 4) ah) ac)) (aa (pv 10) ac)))))))))))))))))))),?_⟩
 try dsimp only [dY,aV]
 try (refine Dm ?_;intro Z Z Z Z Z Z Z Z Z Z Z Z)
 obtain ⟨f1,f2,f3,f4⟩:=c7 d n n
 have wR:(d.m2 n n).Rb:=by unfold au.Rb;rw [f2,f3,f4];exact ok.bounds
 refine ⟨_,rfl,_,rfl,pc,cs,0,rfl,hc,by decide,λ c0 Z=>⟨_,rfl,p,d,n,c0,X,rfl,N,ok,Y,by lia,λ q st g S4 gq so=>?_⟩⟩
 refine ⟨_,rfl,_,rfl,λ x D hx jm T4=>?_⟩
 have S:aF g (upd (upd g D (.own x)) x (.ins Ad.Walk D [])):=(am jm).trans (am (by rw [aG (abt T4)];exact hx))
 have YB:(upd (upd g D (.own x)) x (.ins Ad.Walk D [])) x=some (.ins Ad.Walk D []):=ai
 generalize upd (upd g D (.own x)) x (.ins Ad.Walk D [])=H5 at S YB |-
 have ab:=S4.trans S
 refine ⟨x,D,a,fp,_,q,st,rfl,YB,hh.same ab,gq.same S,so,wR,λ ad H6 b6 al Z1 aj=>⟨rfl,?_⟩⟩
 have XZ:aF g H6:=λ b o e=>b6 b o (S b o e) (λ z=>by rw [T1.mp z,hx] at e;cases e)
 have xn:H x=none:=S4.free hx
 have L:=S4.trans XZ
 have MZ:=gq.same XZ
 refine ⟨_,rfl,_,rfl,_,rfl,_,rfl,_,rfl,a,fp,p,d,n,q,st,pc,cs,X,rfl,hh.same L,N.same L,ok,Y,MZ,so,L.seq hc,hk,λ H7 s7 t o O G l qR iV ht gU ll bl=>?_⟩
 have S7:=L.trans s7
 refine ⟨t,_,rfl,cH.of ht,rfl,_,_,rfl,_,_,rfl,_,_,rfl,rfl,?_⟩
 refine ⟨_,rfl,_,rfl,_,rfl,_,rfl,_,rfl,_,rfl,a,fp,p,d,n,q,st,o,O,G,l,rfl,hh.same S7,N.same S7,ok,Y,MZ.same s7,so,gU,ll,qR,iV,λ R H8 s8 Yq=>?_⟩
 have S8:=S7.trans s8
 have Og:=s8.seq gU
 obtain ⟨pm,ps,pt,pf,fj,pb,vm,vs,vt,aK,C8⟩:=id (N.same S8)
 have Ky:cH K H8 fj d.scale.vs:=cJ.tup C8.sc
 refine ⟨_,rfl,G,rfl,⟨_,Og⟩,λ B hD=>?_⟩
 refine ij (K:=K) (a:=G) (xs:=l.map V.int) (λ j acc U C=>A4 (aF H8 C) (C B=some (.lst acc)) (cn K C ((l.take j).map λ x=>dL (aY x 12 d.scale)) acc) (∃ v,U=[v,some (.ref p)]))
   ⟨am hD,ai,rfl,none,rfl⟩ (λ j acc U C Z e=>e.1.seq Og) ?_ ?_
 .
  rintro j x' acc U C Ml ⟨s3,i9,d3,v,rfl⟩
  have HV:j<l.length:=by have:=(Yp.mp Ml).1;rw [Bl] at this;exact this
  have ex:x' = .int l[j]:=by
    rw [RI,aw HV] at Ml
    exact (aai Ml).symm
  subst ex
  have ae:=bl l[j] (aaf HV)
  refine ⟨_,rfl,_,rfl,p,_,rfl,sy (s3 _ _ C8.hp),l[j],12,fj,d.scale,rfl,s3.tup Ky,ok.scale,(show (l[j]).natAbs<2 ^ 30 by lia),by decide,mZ,λ q g s4 hq=>?_⟩
  have la:acc.length=j:=by rw [d3.length,Bl,aat];lia
  have Lg:cB K g (upd g B (.lst (acc++[.ref q]))):=fc (s4 _ _ i9) rfl
  refine ⟨s4 _ _ i9,aZ (by lia),(s3.trans s4).put hD,ai,?_,_,rfl⟩
  rw [abB,aw HV,aab]
  exact (cn.ts ((aF.ts s4).trans Lg) _ (lM _ _) d3).snoc (Dn.ts Lg _ (gw _) (n9 (cH.of hq)))
 rintro acc U H9 ⟨s9,Z9,d9,v,rfl⟩
 rw [Bl,aa2] at d9
 have S9:=S8.trans s9
 have XJ:=(s7.trans s8).trans s9
 have Pc:=s9 _ _ Yq
 have UQ:=MZ.same XJ
 have ZX:cn K H9 ((l.map λ x=>aY x 12 d.scale).map dL) acc:=by rw [acq];exact d9
 refine ⟨_,rfl,_,rfl,_,rfl,_,rfl,x,ad,d,n,st,0,o,O,B,acc,l,rfl,ok,Y,Z1.same XJ,so,qR,iV,bw.of Z9,ZX,ll,bl,λ r GI b Yd Vi QJ RV Ow=>?_⟩
 have M:(gI d n st o O l).2 = .bL\/∃ i:Nat,(gI d n st o O l).2=av i:=by
   rcases Bk (tm:=d) (n:=n) (o:=o) (out:=O) (s:=st) (l:=l) with ed|⟨Z,M⟩
   . exact .inl (by rw [ed])
   . exact M
 generalize gI d n st o O l=y at Pc Ow M Yd
 have J:cH K GI R [.str y.1,y.2]:=QJ _ _ (cH.of Pc)
 have I:=cH.of (K:=K) Ow
 have KH:io K GI q st:=UQ.ts QJ
 obtain ⟨F,hd,qq,W,Ob⟩:=id RV
 have YZ:aF H GI:=λ c u e=>Vi c u (S9 c u e) (λ z=>by rw [T1.mp z,xn] at e;cases e)
 have sc:Mh y.2 y.2=true:=by
   rcases M with e|⟨i,e⟩<;>rw [e]<;>rfl
 refine QN [some (.ref a),some (.ref p),some (.ref pc),some (av X),some (.ref q),some (.ref x),some (av o),some (av O),some (.ref G),some (.ref R),some (.ref B),some (.ref r),none] rfl ?_
 refine ⟨_,rfl,r,_,_,_,rfl,rfl,.inr I,rfl,_,rfl,R,_,_,_,rfl,rfl,.inr J,rfl,rfl,_,rfl,dJ rfl ?_⟩
 refine ⟨_,rfl,r,_,_,_,rfl,rfl,.inr I,rfl,_,rfl,R,_,_,_,rfl,rfl,.inr J,rfl,sc,_,rfl,dJ rfl ?_⟩
 refine Iv (!decide (y.2 = .bL)) (λ Q' h=>⟨_,rfl,R,_,_,_,rfl,rfl,.inr J,rfl,rfl,_,rfl,h⟩) (λ hb Q' h=>?_) (ff ?_)
 . have e:(if y.2 = .bL then .bL else V.int 0) = .int 0:=aal (by simpa using hb)
   rw [e] at I
   exact ⟨_,rfl,r,_,_,_,rfl,rfl,.inr I,rfl,rfl,_,rfl,h⟩
 refine ⟨_,rfl,R,_,_,_,rfl,rfl,.inr J,rfl,rfl,?_⟩
 have el:(decide (V.str y.1=V.str ""))=b:=by
   rcases Yd with ⟨e,rfl⟩|⟨e,rfl⟩
   . rw [e];rfl
   . exact aap λ z=>e (V.str.inj z)
 dsimp only
 rw [el]
 refine QN [some (.ref a),some (.ref p),some (.ref pc),some (av X),some (.ref q),some (.ref x),some (av o),some (av O),some (.ref G),some (.ref R),some (.ref B),some (.ref r),some (.bl b)] rfl ?_
 have eg:(if b=true then (0:Int)+1 else 0)=if b=true then 1 else 0:=by cases b<;>rfl
 rw [eg] at W
 refine ⟨_,rfl,x,_,_,rfl,W,rfl,x,F,_,_,rfl,W,rfl,_,rfl,?_⟩
 refine GO Ob.dn KH.dn (Pl st) (by decide) ⟨_,rfl,ff (A:=True) ?_⟩
 refine ⟨_,rfl,x,_,_,rfl,W,rfl,x,F,_,_,rfl,W,rfl,_,rfl,.inr ⟨b,rfl,rfl,_,rfl,dJ rfl ?_⟩⟩
 refine ⟨_,rfl,x,_,_,rfl,W,rfl,x,F,_,_,rfl,W,rfl,_,_,_,_,_,rfl,.bl b,rfl,rfl,_,rfl,ff (A:=True) ?_⟩
 refine ⟨_,rfl,x,_,_,rfl,W,rfl,x,F,_,_,rfl,W,rfl,_,rfl,rfl,_,rfl,dJ rfl ?_⟩
 refine ⟨_,rfl,b,rfl,_,rfl,?_⟩
 cases b with
 | false=>exact fu (k GI YZ)
 | true =>
   obtain ⟨qb,qw,qf,e0,eb,ew,ef⟩:=KH
   exact ff ⟨_,rfl,_,rfl,_,rfl,_,rfl,q,_,_,_,rfl,rfl,.inr e0,rfl,qb,_,rfl,.inr eb,λ lp Y7=>⟨_,rfl,x,o,O,.ref lp,.ref B,rfl,⟨F,hd,qq,1,am Y7 _ _ W⟩,λ H' s'=>k H' (YZ.trans ((am Y7).trans s'))⟩⟩
def MD {f:ag} {z:FuncData} (F:IW K "law" "law" Cf f z) (T:Txt K mg Ad):iN P w K mg base qj 15 f z ["_law_script"] (E9 K):=by
 refine F.ok wE (λ x H Q E h=>?_) (λ aW A outer s H x Q E t h=>?_)
 . obtain ⟨a,N,rfl,Z⟩:=h
   rfl
 .
  obtain ⟨a,N,rfl,C,J,Ci,k⟩:=h
  refine ⟨_,(af (cL (i:=1) wE.nd (ap (vG T) t.m (aa (pv 0) ac)))
    (af (cL (i:=2) wE.nd (ap (wc T) t.m (aa (pv 1) ac)))
    (af (dE aaH rfl (bZ rfl T.cZ (aa (aB aM ah (aB gA (aT bQ (by rfl) T.fA dF (aa (ko vE (pv 0) (jF ah) (jF ah)) ac)) ah)) ac)) (jo (i:=3) wE.nd) (ao (bA (dM (bX (ap (vN T) t.m (aa (pv 2) (aa (pv 1) (aa (ko vE (pv 0) (jF (aB aM ah (aB bq ah (pv 3)))) (jF (aB aM ah (aB bq ah (pv 3))))) (aa (pv 3) ac))))))) (ao (aJ fh)) aL)))
    (ao (aJ fh))))),?_⟩
  try dsimp only [dY,aV]
  try (refine db ?_;intro Z Z Z Z Z)
  refine ⟨_,rfl,a,N,rfl,C,λ p H1 tm n n1 O ok S1 l=>?_⟩
  obtain ⟨pm,ps,pt,pf,fj,pb,vm,x,vt,aK,W,Z⟩:=l
  have D:iA K H1 p tm:=⟨pm,ps,pt,pf,fj,pb,vm,x,vt,aK,W⟩
  refine ⟨_,rfl,p,tm,n,rfl,D,ok,n1,O,λ I H2 j y hh hF hn tw=>?_⟩
  have q:=D.same y
  have Y:=(S1.trans y).seq C
  refine ⟨_,rfl,4,rfl,33,rfl,a,_,rfl,Y,λ pc r=>⟨_,_,rfl,.inl (bw.of ai),λ c ec=>⟨_,_,rfl,rfl,⟨by decide,mZ⟩,λ d ed=>⟨_,_,rfl,rfl,λ e ee=>?_⟩⟩⟩⟩
  have hc:c<=63:=by
    have:=pR (N.map V.int) (some 4) (some 33)
    rw [Bl] at this
    lia
  have al:0<=c:=by lia
  rw [adp c (by decide)] at ed
  have t0:=am (o:=.lst (pB (N.map V.int) (some 4) (some 33))) r
  refine ⟨e,rfl,by lia,by lia,iG (lo:=0) (n:=e.toNat) (λ i U X=>aF H2 X/\∃ (v:fH),U=[some (.ref a),some (.ref p),some (.ref I),v]) ⟨t0,none,rfl⟩ ?_ ?_⟩
  .
   rintro Z i U G hi ⟨u,v,rfl⟩
   have bk:Bd 100 (0+(i:Int)):=TB 100 (by lia) (by lia)
   refine ⟨_,rfl,_,rfl,_,rfl,_,rfl,_,_,rfl,rfl,⟨3,100,mZ,bk,by decide⟩,λ m1 EI=>⟨_,_,rfl,rfl,λ M ad=>⟨_,rfl,_,rfl,_,_,rfl,rfl,⟨3,100,mZ,bk,by decide⟩,λ m3 ae=>⟨_,_,rfl,rfl,λ b aj=>⟨_,rfl,a,_,rfl,u.seq Y,λ g Iq=>?_⟩⟩⟩⟩⟩
   have R:=am (o:=.lst (pB (N.map V.int) (some M) (some b))) Iq
   have L:(upd G g (.lst (pB (N.map V.int) (some M) (some b)))) g=some (.lst ((JX N (some M) (some b)).map V.int)):=by rw [<- Dk];exact ai
   generalize upd G g (.lst (pB (N.map V.int) (some M) (some b)))=SN at R L |-
   have S:=u.trans R
   refine ⟨_,rfl,I,j,p,tm,n,g,JX N (some M) (some b),i,by rw [aan];rfl,hh.same S,q.same S,ok,O,bw.of L,by lia,λ ab RJ=>?_⟩
   exact ⟨_,rfl,fu (B:=True) ⟨S.trans RJ,_,rfl⟩⟩
  . rintro U G ⟨u,v,rfl⟩
    exact k G
end
def walk {l:W.OpenLaw} {q:bh} {L:bN} {X:(bR)->aO->Prop} {Y:bf->aO->Prop} {d:DefRec} {K:Params->aC} (j:l.most=some 63) (O:d.params.defaults=[]) (Q:d.name = "law")
   (H:∀ (w:bf) (h:aO),Y w h->(K w.params).In h)
   (F:∀ (w:bf) (m:bR) (h:aO),(K w.params).In h->h.Ns mainGlobals m->∃ A,Txt (K w.params) m A) :
   W.WalkO q L X Y l.row.toRowW d [] (λ f vs=>PySem.call f vs) :=
 L2.Fv (k:=15) (x:="_law_script") j O ⟨rfl,by decide,by decide⟩ H
   (λ w m n h c G N=>by
     obtain ⟨Z,T⟩:=F w m h c G
     obtain ⟨f,g,i,a⟩:=id T.QG
     rw [Q] at N
     have e:=N.symm.trans i
     cases e
     exact ⟨g,a.L7 (λ Z Z Z Z Z Z Z=>rfl),λ b Z Z=>MD a T⟩)
end K20
namespace PySem.W.Fast
abbrev q:=True
def tw2116021135460488410:=q
def tw14206741750200783142:=q
def tw5841543228980639454:=q
def tw14257034237028518820:=q
def tw6614755870673565599:=q
def tw10506137732667170020:=q
def tw11783418052657779627:=q
def tw16968528556994818589:=q
def tw9586079212953890572:=q
def tw6679308880862341039:=q
def tw17192723617628779519:=q
def tw12851658012175138562:=q
def tw17854190129639813275:=q
def tw15824540977385393390:=q
def tw12048414195224224257:=q
def tw2369989689900864761:=q
def tw5167832305459295108:=q
def tw8109529142252986034:=q
def tw7703198460408948137:=q
def tw15367376019778785528:=q
def tw8104752494212194649:=q
def tw15025309647591731744:=q
def tw13493297708212830670:=q
def tw13446101410694612114:=q
def tw17987069753149851627:=q
def tw16743207296192948590:=q
def tw7094231559637705471:=q
def tw14382517194400715169:=q
def tw10452756627140642923:=q
def tw18027453146008269361:=q
def tw6495347772146363120:=q
def tw8848103865880530784:=q
def tw3888174266934037593:=q
def tw14696396225297145943:=q
def tw8990561530742285654:=q
def tw302468609302109775:=q
def tw6941467207294330526:=q
def tw10303049395574555052:=q
def tw477241970474855058:=q
def tw14922196254721906588:=q
def tw3378705657865501006:=q
def tw13751848215846578963:=q
def tw5340293689381265638:=q
def tw3688682178682279316:=q
def tw1573352517447448615:=q
def tw12879348015428126083:=q
def tw4277040821526235526:=q
def tw14761422628843473605:=q
def tw15966582588996490404:=q
def tw14019060047700559917:=q
def tw2972822439372570238:=q
def tw7667125660103911289:=q
def tw12369696635491370060:=q
def tw867960554280442146:=q
def tw7928874104620375844:=q
def tw15372806588482188663:=q
def tw11062601915090107700:=q
def tw4431240101704530000:=q
def tw11869469557907675901:=q
def tw10733637026875301955:=q
def tw8306868587693732181:=q
def tw18414667283957733049:=q
def tw2994264845057456443:=q
def tw18193219185492928657:=q
def tw12116463598343508730:=q
def tw563413303694624036:=q
def tw174248097247393893:=q
def tw8360847602103685378:=q
def tw16919910077636159353:=q
def tw15088583514186498919:=q
def tw79807724405945313:=q
def tw5101644759757534382:=q
def tw10955760277563535104:=q
def tw3974967262273072160:=q
def tw4647200470617605191:=q
def tw15369232075203234087:=q
def tw15464243363959569689:=q
def tw14787322652223523478:=q
def tw3358929509097574452:=q
def tw15624211500793360539:=q
def tw8114670525720460742:=q
def tw3549559050472935866:=q
def tw6183075129585347609:=q
def tw2321318472844552945:=q
def tw16217548642265058384:=q
def tw7597336399171722061:=q
def tw3499207432683869469:=q
def tw12862664094929438832:=q
def tw12372770317210383198:=q
def tw15729452012637716407:=q
def tw5075953501160116165:=q
def tw3596604478832198814:=q
def tw6695242778709065862:=q
def tw12511482040609524312:=q
def tw16684559314870505843:=q
def tw4094905914240368584:=q
def tw7923368614065328488:=q
def tw14815578974254478310:=q
def tw6939282994642436615:=q
def tw7196952983240512918:=q
def tw1557991348323498552:=q
def tw17956489311928743652:=q
def tw16020330125780641025:=q
def tw13059381115600707458:=q
def tw10135531727609936093:=q
def tw3915255649064826870:=q
def tw1221054550415972926:=q
def tw2233427742203452738:=q
def tw11478378083747752618:=q
def tw3945879701420984257:=q
def tw12164275387686289646:=q
def tw8362042416863285205:=q
def tw9005548725000817565:=q
def tw1469675671000804372:=q
def tw9657095712722530179:=q
def tw2194981553696000097:=q
def tw13966602698322981750:=q
def tw13028018681205121884:=q
def tw11592282972655353499:=q
def tw2510621785430107046:=q
def tw17500382482972307552:=q
def tw15972623071979983759:=q
def tw2277568468327877077:=q
def tw5977505164190576587:=q
def tw3658961716116271262:=q
def tw5693669321896428991:=q
def tw1399772624409973538:=q
def tw8524241116628851530:=q
def tw5204536326802693188:=q
def tw12504312948256947901:=q
def tw12432044443760596465:=q
def tw16646183061222147787:=q
def tw12472507867474262751:=q
def tw4164200063427440308:=q
def tw6715018686667796761:=q
def tw16256720703721351960:=q
def tw15796818121870415266:=q
def tw10086353417618453801:=q
def tw10869857149011716335:=q
def tw2692275000528392646:=q
def tw11660959243445987704:=q
def tw5021333707774984815:=q
def tw17836409761271563919:=q
def tw5968997376998808566:=q
def tw5699941279867778903:=q
def tw8809001409708554791:=q
def tw16854799286825742884:=q
def tw2198205412996635542:=q
def tw8992322628676404667:=q
def tw17408608869201690833:=q
def tw3071026989150274792:=q
def tw8351989370468878159:=q
def tw18133028385561441787:=q
def tw11977759170679230082:=q
def tw13178134694379285054:=q
def tw13541398116199580294:=q
def tw15890452701881529572:=q
def tw8568048311030673463:=q
def tw9418948526598619748:=q
def tw12142576192621103163:=q
def tw2249776123160601605:=q
def tw17704853359201153106:=q
def tw14437440487000912043:=q
def tw6783149141429098161:=q
def tw11917561419059982008:=q
def tw4718139799491551308:=q
def tw11592499887238232354:=q
def tw4431795449241939405:=q
def tw15872832742334895348:=q
def tw1417784839384613126:=q
def tw3610822252158665282:=q
def tw1887718348356070035:=q
def tw17630510864995766949:=q
def tw10763496893362573676:=q
def tw475118461694159121:=q
def tw17658111156904897342:=q
def tw10232606320552331334:=q
def tw16011911996003609271:=q
def tw6677934926476106323:=q
def tw15071145277286410308:=q
def tw6073906127037019975:=q
def tw11539868025556511946:=q
def tw14574796521055400812:=q
def tw6721316766060456536:=q
def tw6039782443798441925:=q
def tw15574162455125000771:=q
def tw7265487691070192647:=q
def tw892125285471797830:=q
def tw15022590986437979195:=q
def tw12090313486732072282:=q
def tw3474317322984257073:=q
def tw6159396225759436856:=q
def tw4775665649768057948:=q
def tw6327771255754948943:=q
def tw4298088767780131100:=q
def tw10760970803616176948:=q
def tw10727100634835240782:=q
def tw7970550942809302395:=q
def tw6649773996498599647:=q
def tw15268364851942540644:=q
def tw5134435088607987831:=q
def tw5873758456067820044:=q
def tw15465947207085538907:=q
def tw7679862709592511306:=q
def tw9365897784345232386:=q
def tw17607499487298435421:=q
def tw9363625547005171561:=q
def tw17379651086795709190:=q
def tw11102600765274345723:=q
def tw11880619794114441141:=q
def tw9374100384709927287:=q
def tw4417837699207602861:=q
def tw8488241058502699486:=q
def tw9516289754674715859:=q
def tw17690269759370849689:=q
def tw10929488109619910221:=q
def tw11392261915535135874:=q
def tw17199786559305152196:=q
def tw4845360971648176108:=q
def tw18363902064916178011:=q
def tw10696506262538003958:=q
def tw3047796373217238822:=q
def tw18020297988238419554:=q
def tw5446649472514682294:=q
def tw12103182373684885583:=q
def tw8524705958030322339:=q
def tw4057096501942184117:=q
def tw8361657742425965343:=q
def tw4696087777682089017:=q
def tw10841707638215341202:=q
def tw14160577469739533097:=q
def tw8119389477380821435:=q
def tw12726558034372860187:=q
def tw3475995149238940914:=q
def tw5759799984333154235:=q
def tw2829333689846324005:=q
def tw8315679302006355457:=q
def tw6388361826959559527:=q
def tw11200758924855121575:=q
def tw9235242153531755836:=q
def tw9106697776049467659:=q
def tw1601710638973583139:=q
def tw6983572515881832972:=q
def tw8910650548465351164:=q
def tw15030081166620784129:=q
def tw9614919610084212045:=q
def tw9281655985916009545:=q
def tw11964282560573814835:=q
def tw9285130358927381155:=q
def tw1427277407216556039:=q
def tw8329695658865428617:=q
def tw6208058168247077260:=q
def tw7895871671264721898:=q
def tw5355516409270739790:=q
def tw10565936353007196885:=q
def tw8442052481589375460:=q
def tw2792462142290411513:=q
def tw1975258551394283407:=q
def tw16712608838210043341:=q
def tw16626714127222676797:=q
def tw13295427094221970829:=q
def tw11248359158311424172:=q
def tw3606094358597316565:=q
def tw6264879595997800643:=q
def tw5002756892829120060:=q
def tw4350247645876173466:=q
def tw7785867335752776334:=q
def tw14283020819085307994:=q
def tw12309354608437713313:=q
def tw13062731182006456552:=q
def tw4431177371757666466:=q
def tw7721968150107335683:=q
def tw2396999317136568464:=q
def tw6362783115401558094:=q
def tw16367961506949138530:=q
def tw17136745365875402823:=q
def tw15424301323191620154:=q
def tw12575851234407030046:=q
def tw4789971218275646107:=q
def tw10717519073083124413:=q
def tw1361301666429512498:=q
def tw9667869317355934882:=q
def tw9743381626129250747:=q
def tw7668111893605408369:=q
def tw6473456187937326290:=q
def tw6356543783556254321:=q
def tw452401649177956837:=q
def tw1879479545779109404:=q
def tw17721128331256237985:=q
def tw16456416014223523892:=q
def tw12177781676570725066:=q
def tw11683194758678410603:=q
def tw8641170294178470721:=q
def tw6707643619880352888:=q
def tw1298117320272190662:=q
def tw4985881872213733694:=q
def tw10003736853559917881:=q
def tw15889421429467530759:=q
def tw8862594274210728109:=q
def tw10350569254483649034:=q
def tw3300307834058414920:=q
def tw5085666022098563455:=q
def tw12497769234247255292:=q
def tw7532733774429628558:=q
def tw6508983531443492357:=q
def tw13466818560246289299:=q
def tw4827918136141106366:=q
def tw9425488233290837939:=q
def tw9421786038959513228:=q
def tw13733914887998551038:=q
def tw9765095156833692228:=q
def tw6288183119518417090:=q
def tw2073018903413674306:=q
def tw11286110218614204611:=q
def tw8873839705669822892:=q
def tw7893206277410948285:=q
def tw5765708998923551465:=q
def tw2526433100348301217:=q
def tw4546087251538354098:=q
def tw9969187289987383082:=q
def tw11081887109634197963:=q
def tw18278376420725143405:=q
def tw2723052858048827240:=q
def tw16996645097602437725:=q
def tw5378486607531474113:=q
def tw16206375386788510303:=q
def tw1294797859427774283:=q
def tw12484701391706796000:=q
def tw8442023316691528217:=q
def tw3755328992062203060:=q
def tw10375439370049730237:=q
def tw8436036363373006838:=q
def tw8120167276654233041:=q
def tw335530004374674799:=q
def tw11441670715106265396:=q
def tw10893995350462006342:=q
def tw4234754962243219221:=q
def tw17774724307851879218:=q
def tw780815913116927828:=q
def tw8690954887665191194:=q
def tw13797920352315570363:=q
def tw3888313368841230077:=q
def tw11564256056615107470:=q
def tw16580530694522953528:=q
def tw320865795248575713:=q
def tw4100768644843207860:=q
def tw17337876422520191748:=q
def tw16911060990300431514:=q
def tw17041208065154164630:=q
def tw7067263688457294509:=q
def tw417405734424139546:=q
def tw16448834037644195890:=q
def tw2101585220025310458:=q
def tw1924098763100380680:=q
def tw10602231046517287922:=q
def tw10161791452070307019:=q
def tw10076144806280842096:=q
def tw10024286538430828784:=q
def tw8909126109573921841:=q
def tw8815417746796536291:=q
def tw538961187862593876:=q
def tw3418708519851985141:=q
def tw8204443604876587087:=q
def tw3401342495153765:=q
def tw2276435894715411206:=q
def tw17469757320770528838:=q
def tw16677446745855395493:=q
def tw17382895558188781670:=q
def tw6841657406346908207:=q
def tw4551468987738829138:=q
def tw17138677077193041917:=q
def tw8076711244649651315:=q
def tw7450599734681710911:=q
def tw18223450267308995234:=q
def tw214762402960135138:=q
def tw5239198641697979403:=q
def tw16593824376311584024:=q
def tw10660135272932961648:=q
def tw18260373502117901488:=q
def tw5600256103634248001:=q
def tw5933090231802266448:=q
def tw16608377647780642108:=q
def tw15716646148416507581:=q
def tw1413810162492930191:=q
def tw8005628395308131:=q
def tw7474726793828180596:=q
def tw17628872232707109443:=q
def tw12154247211911288412:=q
def tw10511102774390618390:=q
def tw2563686204503936738:=q
def tw6204365005008415062:=q
def tw15496091539871016055:=q
def tw12125274068920742830:=q
def tw13247089598388432216:=q
def tw10486517151980976749:=q
def tw1541748425286334732:=q
def tw13785956129807997212:=q
def tw3167232989609505720:=q
def tw9766575431039636389:=q
def tw5806528501906812053:=q
def tw17979281464522161390:=q
def tw9126424114898188176:=q
def tw4822729282038938771:=q
def tw4613283043320558267:=q
def tw1945683327316101529:=q
def tw1598209826048937210:=q
def tw1857900534732917166:=q
def tw15018985336009130229:=q
def tw13596440909440941443:=q
def tw5242593113225193332:=q
def tw14994760913299593929:=q
def tw9893354607966688205:=q
def tw4191467438419682105:=q
def tw13543264147632028596:=q
def tw2624143140924649817:=q
def tw5950577028573243582:=q
def tw9349096203918393229:=q
def tw14155514758832194822:=q
def tw11545656306103198794:=q
def tw3662334373021521806:=q
def tw83903852743470336:=q
def tw7134933989789240597:=q
def tw8407780573248488521:=q
def tw4368683836113237199:=q
def tw2095904697848722927:=q
def tw17346761904611833125:=q
def tw3148537235401687239:=q
def tw5360790825856338447:=q
def tw2845117613423148134:=q
def tw12786903361859356365:=q
def tw12008341206059959357:=q
def tw2010066023050149161:=q
def tw10048054253372898521:=q
def tw12396035974262689514:=q
def tw521123345509589014:=q
def tw4794870173721427438:=q
def tw12634228079201658771:=q
def tw14425630745105182355:=q
def tw2360712009671691404:=q
def tw4071542628309230312:=q
def tw3932061953349346746:=q
def tw16164157288882501925:=q
def tw6821816164575950120:=q
def tw9066118463953280159:=q
def tw8887586608622678771:=q
def tw4984254947463354810:=q
def tw14116691825841035643:=q
def tw13430142715807200601:=q
def tw640943083335484313:=q
def tw17991607175251371528:=q
def tw12284048056566254023:=q
def tw1170962832239445657:=q
def tw16023312503981676856:=q
def tw13389517320738301355:=q
def tw11579927331455321000:=q
def tw405914194719239716:=q
def tw11248761642279306734:=q
def tw12614426162935985988:=q
def tw14414765183042867094:=q
def tw3331304247720622106:=q
def tw17361445310937846346:=q
def tw8131867644742210328:=q
def tw3268043899304496743:=q
def tw1064944988059772557:=q
def tw9991548371981209160:=q
def tw17256314992666082931:=q
def tw15104883893886509423:=q
def tw14371106786240451309:=q
def tw9527757805020562567:=q
def tw17138020674243093435:=q
def tw14105723280466859187:=q
def tw7634273685141910050:=q
def tw302176650725298022:=q
def tw2688701425612381136:=q
def tw13601126723752927522:=q
def tw13488658293201943459:=q
def tw17318169471789892891:=q
def tw10334082427249200037:=q
def tw5235225288480160108:=q
def tw4962635164223870507:=q
def tw106055378888069329:=q
def tw7625752315657049918:=q
def tw9501622877606027018:=q
def tw17664616417467875836:=q
def tw11790914495260654953:=q
def tw3946740025939196423:=q
def tw16675129272251714332:=q
def tw10066554011979293976:=q
def tw5889426644929715470:=q
def tw3506551058395018598:=q
def tw17672470394691561694:=q
def tw2450837231171435082:=q
def tw10424548584737224115:=q
def tw13084193599644801777:=q
def tw4967255856302062280:=q
def tw12971993586215616817:=q
def tw16478231881667630136:=q
def tw1040552169357297559:=q
def tw8321347743548784883:=q
def tw7576628447895432273:=q
def tw6556724066264403416:=q
def tw200555825882809896:=q
def tw14867356450462152712:=q
def tw16995941052166961492:=q
def tw670613022756360046:=q
def tw4171939058380522142:=q
def tw17291821323320567126:=q
def tw9327421539807882395:=q
def tw7545684739097662232:=q
def tw654998549851904885:=q
def tw591259235774294674:=q
def tw5005948851308085880:=q
def tw2748846331190541078:=q
def tw17494150365751105094:=q
def tw14402016320978140067:=q
def tw11304477347209220989:=q
def tw11112534439338224490:=q
def tw10319856467253873234:=q
def tw9798717937496910221:=q
def tw7390622945481536573:=q
def tw18351276844322550704:=q
def tw15307602579298329059:=q
def tw13145638530631626552:=q
def tw3382830860666867350:=q
def tw2422741917127408827:=q
def tw14871272764253077648:=q
def tw9887175443200569307:=q
def tw8695015806012022241:=q
def tw7367998063526800591:=q
def tw7137848827836882826:=q
def tw577495849795598524:=q
def tw4417644923919762026:=q
def tw3717580942119504329:=q
def tw17971720137979720871:=q
def tw16603019186785604296:=q
def tw15630891768628591459:=q
def tw1554741396168559245:=q
def tw11528534668313146317:=q
def tw11273277409607219848:=q
def tw11097349509165213285:=q
def tw1085038188928059324:=q
def tw6812921786248417213:=q
def tw11880740546619404803:=q
def tw2227376358207900454:=q
def tw7623900148926291036:=q
def tw9248649196750342194:=q
def tw2032419288531523217:=q
def tw13663828238222163738:=q
def tw1320644255849271167:=q
def tw11675247949005919262:=q
def tw11602664618382406566:=q
def tw2137948464216194386:=q
def tw10785991772966418242:=q
def tw16780163936410623648:=q
def tw9880768550496427485:=q
def tw9094187591920293803:=q
def tw9056962223844399798:=q
def tw885347212638003142:=q
def tw7493662811420608070:=q
def tw6729961002981177376:=q
def tw6643467490786827943:=q
def tw6606264323986484378:=q
def tw6014076601153558253:=q
def tw5319956787595574355:=q
def tw4662470141407093568:=q
def tw325947500634926070:=q
def tw17716541182191049627:=q
def tw17397353000004471466:=q
def tw15102399417305683923:=q
def tw14612553827151231389:=q
def tw14075603806616519515:=q
def tw12585604630310902249:=q
def tw11599652722356664718:=q
def tw11514315743969631851:=q
def tw8797132596100991991:=q
def tw6285998558951053735:=q
def tw512690047795215336:=q
def tw4850677260053558848:=q
def tw4334893998957832346:=q
def tw4042091277405585654:=q
def tw3146951975307515175:=q
def tw306027648892738505:=q
def tw18057111717484231577:=q
def tw17110725508280834846:=q
def tw15455668268431760618:=q
def tw15067694616517695217:=q
def tw14700615154095933376:=q
def tw14390617652846479793:=q
def tw14046782519891418819:=q
def tw1397826816937420200:=q
def tw1288708698943410371:=q
def tw11503500057400357696:=q
def tw11327066815678087532:=q
def tw7105837735221519756:=q
def tw10530902109155384759:=q
def tw14043825497170477325:=q
def tw6078461046325899936:=q
def tw11965061340275129063:=q
def tw12155815856887084805:=q
def tw12775606421836858074:=q
def tw9721650773597552412:=q
def tw8612062449607735405:=q
def tw7973848789084598340:=q
def tw756975765780156880:=q
def tw7388499390339607629:=q
def tw6503071459813652228:=q
def tw4052410675184739483:=q
def tw17980475044930881793:=q
def tw17913048326426974698:=q
def tw16043915255689835162:=q
def tw14747641749719869939:=q
def tw14364562757436478444:=q
def tw11993769459602840077:=q
def tw11836667753151423323:=q
def tw11416387788865427478:=q
def tw10126966025840948722:=q
def tw888374452051094664:=q
def tw8677992460888193520:=q
def tw7861723774969277755:=q
def tw7274547874469019931:=q
def tw7155640588541562210:=q
def tw5140690936575832185:=q
def tw4350131960314594369:=q
def tw4289287517400781782:=q
def tw38907229324407702:=q
def tw17082311077856523757:=q
def tw16999228992133833867:=q
def tw1695943459707886856:=q
def tw14948991840081049319:=q
def tw14829779044671497110:=q
def tw14629684969885013418:=q
def tw14328619440877630366:=q
def tw14105185783011885015:=q
def tw13905830222971427597:=q
def tw12500457255259344785:=q
def tw11144762304596759495:=q
def tw15944377020887860765:=q
def tw9983830179985908557:=q
def tw9934783296625543188:=q
def tw9725923048971848486:=q
def tw9719475338748756089:=q
def tw958634576494627935:=q
def tw940913807107077380:=q
def tw9309988787815221906:=q
def tw9136830352568725589:=q
def tw8977732601173506751:=q
def tw8945346195284883860:=q
def tw8924366782562308691:=q
def tw8903891347695875242:=q
def tw8791058571987898674:=q
def tw8780875474339823876:=q
def tw8690718351950506726:=q
def tw8634176688025193090:=q
def tw8627479971149457124:=q
def tw8593262739099189478:=q
def tw8274569382839524841:=q
def tw8241277404711736469:=q
def tw8140507202451784999:=q
def tw7548870284666212239:=q
def tw7502261774498056844:=q
def tw7444520255738492953:=q
def tw7435182264848122011:=q
def tw7396209552029810613:=q
def tw7377220955384040268:=q
def tw7315729621491200385:=q
def tw7306961721410825382:=q
def tw7289305860692744791:=q
def tw7201958187427047834:=q
def tw7131001381002146080:=q
def tw7094752802331580335:=q
def tw7063625481887713713:=q
def tw6738077140689248464:=q
def tw6711017507337121018:=q
def tw6695651584498910655:=q
def tw6567316443069486635:=q
def tw641485606869832413:=q
def tw6407614265790006517:=q
def tw6339719213332730196:=q
def tw6310946984079419881:=q
def tw6294071987866100854:=q
def tw6220959467449084004:=q
def tw6200736984350295991:=q
def tw6183721846965637037:=q
def tw6139722867859420637:=q
def tw597626687855912443:=q
def tw5881270197088751003:=q
def tw5856055852998538427:=q
def tw5759021910876108792:=q
def tw5749357697413803519:=q
def tw5338168559102655232:=q
def tw530746926131594595:=q
def tw5148609897804061247:=q
def tw5125584392043211816:=q
def tw5122116945463475945:=q
def tw5119301537869203035:=q
def tw4790018458655206423:=q
def tw4773697709357702949:=q
def tw4761944626161898151:=q
def tw4672290778135974611:=q
def tw4647774850408105342:=q
def tw4618450544745800165:=q
def tw4588793576505544482:=q
def tw4585059574372848807:=q
def tw4574774118234642973:=q
def tw4555843966956757643:=q
def tw4486490858647915575:=q
def tw4448986627602544191:=q
def tw4375483668993213039:=q
def tw4302455717410971101:=q
def tw4294741990200806967:=q
def tw4285669063345019082:=q
def tw4247299232938183202:=q
def tw4221407160475411153:=q
def tw4204092929840503560:=q
def tw4059519635161066118:=q
def tw4054253409170145958:=q
def tw4003394903438474372:=q
def tw3667195287561041099:=q
def tw3539294712514034974:=q
def tw3391514056780397155:=q
def tw336219081337847355:=q
def tw3213245799297620421:=q
def tw319250008663082914:=q
def tw3021198951314593624:=q
def tw288735774693201914:=q
def tw2815723783981203572:=q
def tw2808182992692321501:=q
def tw274004850051477945:=q
def tw265613630666317962:=q
def tw2432239669033489742:=q
def tw233526162356593467:=q
def tw2264091531055746841:=q
def tw2189896637915171922:=q
def tw2037704731200222296:=q
def tw1963577724264459445:=q
def tw1904313581336726230:=q
def tw1887915324702019401:=q
def tw1881358747620553689:=q
def tw18201168717578010571:=q
def tw18088697872342484347:=q
def tw17890034823639804218:=q
def tw17872449782221701964:=q
def tw17861901319995130874:=q
def tw17847219876965336900:=q
def tw1759835859206426511:=q
def tw17586768791821322214:=q
def tw17425446121130941212:=q
def tw17364047508678111025:=q
def tw17353022740852570953:=q
def tw17348303840953133179:=q
def tw16947681471338744192:=q
def tw16889600596869358973:=q
def tw16859578590569273846:=q
def tw16846775196190318869:=q
def tw16716124810688500968:=q
def tw16617769433116596989:=q
def tw16593540428613890239:=q
def tw16573220287757636854:=q
def tw16535798179777062186:=q
def tw16412881280728844228:=q
def tw16291779976498332187:=q
def tw16269659267489543560:=q
def tw16170425730180521364:=q
def tw16021379771939961422:=q
def tw15858003803762099473:=q
def tw15734271701799768850:=q
def tw15727007104536137010:=q
def tw15716363702175225948:=q
def tw15577334490319209691:=q
def tw15523646102919772204:=q
def tw15497414752752148353:=q
def tw15389135793221681707:=q
def tw15302248469109661867:=q
def tw15265762352694968921:=q
def tw15113788584747818202:=q
def tw15072725491067372169:=q
def tw15002836557688306736:=q
def tw14835206072770293211:=q
def tw14734184559424409765:=q
def tw14684044162450438164:=q
def tw14572256420832337924:=q
def tw14522451308735416018:=q
def tw14432575175949513000:=q
def tw14224136334712117134:=q
def tw14204955624265855172:=q
def tw14162413031868023421:=q
def tw14119673411860944253:=q
def tw14096513905799368734:=q
def tw13963667699636035773:=q
def tw13898750111048128856:=q
def tw13782291332861724582:=q
def tw13695332948177110223:=q
def tw13658740673319263689:=q
def tw13562431131359531088:=q
def tw13402840225407381070:=q
def tw13381651204786968450:=q
def tw13371057092204232677:=q
def tw13355546795575915978:=q
def tw13270713854771937755:=q
def tw13208780847092521472:=q
def tw13065792975228959460:=q
def tw12921238849777606257:=q
def tw12721647312303944341:=q
def tw12707344245719107794:=q
def tw12686980857326650420:=q
def tw1257292233992269929:=q
def tw12565786393026547229:=q
def tw12507159871851001348:=q
def tw12471805448455857852:=q
def tw12300624072960715315:=q
def tw12297647763886414563:=q
def tw12290049372496012198:=q
def tw12262373792976712603:=q
def tw1223921380562727216:=q
def tw12214062058839844965:=q
def tw12078363070306947451:=q
def tw12061814939112076559:=q
def tw12015453257485503908:=q
def tw11982641154977146604:=q
def tw11746891224308295867:=q
def tw11486316012412207378:=q
def tw11320895847667341227:=q
def tw11283416836765995806:=q
def tw11199054104227949445:=q
def tw11080541078274235733:=q
def tw11026620239728754421:=q
def tw10964198714441144408:=q
def tw1096038520673569745:=q
def tw10737583688362958143:=q
def tw10677736665234175821:=q
def tw1062197834462532874:=q
def tw10480956803674846944:=q
def tw10468441332398579096:=q
def tw10402755762243389639:=q
def tw10242272623989638143:=q
def tw10237837421812297010:=q
def tw10158985536627156543:=q
def tw10153342222294340807:=q
def tw10051302062030442429:=q
end PySem.W.Fast
open PySem PySem.W PyProof.Rows
set_option maxRecDepth 100000 in
set_option maxHeartbeats 0 in
theorem PySem.Challenge.cw_stoke_k20_walks_left_holds : PySem.Challenge.rw_stoke_k20_walks_left.Holds := by
 w_on; o_law; k_head; (case hw => w_witness2)
 k_fill
 refine K20.walk (l:=PySem.Challenge.rw_stoke_k20_walks_left) rfl rfl rfl (fun w h Y => PySem.W.kIn_of Y) ?F
 case F =>
   intro w mg h KX G
   refine' ⟨_,K20.txt_mk KX G ..⟩
   iterate 2 (all_goals try first | exact ⟨_,_,_,_,_,_,_,_,_,_,by k_is,by k_is,by k_is,by k_is,by k_is⟩ | exact ⟨_,_,_,_,_,_,_,_,_,_,by k_is,by k_is,by k_is,by k_is⟩ | ((try delta K20.kq_); (try delta K20.kc_); (try delta K20.kf_); (try delta K20.kn_); (try delta K20.kg_); first | k_is | k_exc | kernel_rfl))
