import PyProof.Rows.All
import Wide.All
import OpenK.AllK
import Wide.FinOn
import Lean
import PyProof.EqAt
import PyProof.EqKinds
import PyProof.TupleCall
import PySem.Challenge.RW_stoke_k62_the_least_load
set_option maxHeartbeats 0
set_option Elab.async false
set_option linter.all false
set_option maxRecDepth 100000
abbrev cZ:=PySem.Str->Option PySem.Value
abbrev jk:=Option PySem.Value
abbrev aZ:=List PySem.Value
abbrev bw:=List PySem.Addr
abbrev cx:=List PySem.Str
abbrev bj:=List Nat
abbrev av:=PySem.Value
abbrev ak:=PySem.Addr
abbrev aA:=PySem.W.Frag
abbrev aU:=PySem.Heap
abbrev bi:=PySem.Program
abbrev aV:=PySem.World
def Ba:=@List.getElem?_eq_some_iff
def OG:=@List.length_map
def SN:=@List.getElem?_eq_getElem
def UE:=@List.getD_eq_getElem?_getD
def aaa:=@PySem.wpAny_bind
def aab:=@List.getElem?_map
def aac:=@List.length_append
def aad:=@List.mem_cons
def aae:=@List.mem_singleton
def aaf:=@List.not_mem_nil
def aag:=@List.mem_of_getElem?
def aah:=@List.map_append
def aai:=@List.mem_cons_of_mem
def aaj:=@Nat.le_refl
def aak:=@PySem.Heap.get?_push_of_some
def aal:=@List.getElem?_append_left
def aam:=@decide_eq_false
def aan:=@PySem.wpAny_pure
def aao:=@decide_eq_true
def aap:=@Option.some.inj
def aaq:=@List.length_range
def aar:=@List.mem_append
def aas:=@List.mem_cons_self
def aat:=@PySem.Heap.lt_size
def aau:=@List.size_toArray
def aav:=@Nat.lt_of_le_of_lt
def aaw:=@List.length_singleton
def aax:=@Nat.lt_of_lt_of_le
def aay:=@List.getElem_mem
def aaz:=@Nat.le_trans
def aaA:=@if_neg
def aaB:=@Bool.false_ne_true
def aaC:=@List.take_length
def aaD:=@List.length_take
def aaE:=@if_pos
def aaF:=@PySem.PassesOwn.never
def aaG:=@Bool.and_eq_true
def aaH:=@List.mem_map
def aaI:=@PySem.F.plainAttrs_list
def aaJ:=@List.mem_range
def aaL:=@Nat.ne_of_lt
def aaM:=@PySem.F.type_list_append
def aaN:=@PySem.F.slot_list_append
def aaP:=@List.map_cons
def aaQ:=@PySem.Heap.get?_push_size
def aaR:=@List.nodup_cons
def aaS:=@List.getElem?_append_right
def aaT:=@Nat.zero_le
def aaU:=@List.getElem?_concat_length
def aaV:=@List.mem_append_right
def aaW:=@List.length_cons
def aaX:=@or_false
def aaY:=@PyProof.Rows.callWith_type1
def aaZ:=@List.eq_nil_of_length_eq_zero
def aa0:=@Int.zero_add
def aa1:=@decide_eq_true_eq
def aa2:=@List.range_succ
def aa3:=@List.mem_filter
def aa4:=@List.length_filter_le
def aa5:=@List.find?_cons
def aa6:=@Int.natCast_nonneg
def aa7:=@Nat.pow_le_pow_right
def aa8:=@List.mem_append_left
def aa9:=@List.append_nil
def aba:=@PySem.wpAny_mono
def abb:=@Option.map_eq_some_iff
def abc:=@List.take_of_length_le
def abd:=@Nat.not_lt_zero
def abe:=@Int.le_trans
def abf:=@Int.toNat_natCast
def abg:=@List.mem_iff_getElem
def abh:=@Nat.lt_irrefl
def abi:=@PySem.wpAny_Call_Name_kw
def abj:=@beq_eq_false_iff_ne
def abk:=@PySem.W.mg_none_of
def abl:=@List.length_set
def abm:=@List.filter_append
def abn:=@Bool.and_eq_true_iff
def abo:=@congrArg
def abp:=@Nat.testBit_and
def abq:=@Nat.le_of_lt
def abr:=@PySem.wpAny_truthy_bool
def abt:=@Bool.false_eq_true
def abu:=@List.mem_flatMap
def abv:=@List.lookup_cons
def abw:=@Int.mul_pos
def abx:=@Int.eq_ofNat_of_zero_le
def aby:=@Bool.and_false
def abz:=@List.take_add_one
def abA:=@List.foldl_append
def abB:=@PySem.mem_of_lookup
def abC:=@List.all_eq_true
def abD:=@PySem.wpAny_field
def abE:=@Int.le_of_lt
def abF:=@not_or
def abG:=@PySem.wpAny_holding
def abH:=@of_decide_eq_true
def abI:=@Bool.eq_iff_iff
def abJ:=@List.map_map
def abK:=@List.pairwise_singleton
def abL:=@List.length_eq_zero_iff
def abM:=@List.countP_eq_zero
def abN:=@List.cons.inj
def abO:=@PySem.wpAny_newObj_type
def abP:=@Nat.succ_le_succ
def abQ:=@Nat.le_add_right
def abR:=@Int.mul_nonneg
def abS:=@PySem.wpAny_callSpecial?_slot
def abT:=@PySem.Paired.length
def abU:=@List.mem_iff_getElem?
def abV:=@Int.le_refl
def abW:=@beq_iff_eq
def abX:=@Int.fdiv_eq_ediv_of_nonneg
def abY:=@PySem.Calls.spliced_cons
def abZ:=@Nat.mul_le_mul_right
def ab0:=@PySem.wpAny_passesOwn
def ab1:=@PySem.W.mg_of
def ab2:=@List.mem_or_eq_of_mem_set
def ab3:=@Bool.false_and
def ab4:=@PySem.wpAny_pyIter_enum
def ab5:=@Int.toNat_of_nonneg
def ab6:=@Array.length_toList
def ab7:=@Option.isSome_iff_exists
def ab8:=@Nat.ne_of_gt
def ab9:=@Int.mul_fdiv_cancel_left
def aca:=@PySem.F.slot_tuple_iterator_next
def acb:=@PySem.PyData.tuple.inj
def acd:=@List.getElem?_set_self
def ace:=@Nat.le_succ
def acf:=@List.append_assoc
def acg:=@if_false
def ach:=@List.nodup_nil
def aci:=@PySem.wpAny_execs_nil
def acj:=@PySem.W.kia_one
def ack:=@List.length_replicate
def acl:=@if_true
def acm:=@Nat.lt_succ_self
def acn:=@PySem.intBits_le_iff
def aco:=@Nat.eq_of_testBit_eq
def acp:=@List.getElem?_set_ne
def acq:=@Int.le_of_lt_add_one
def acr:=@PySem.Calls.spliced_nil
def acs:=@PySem.wpAny_seqItems
def act:=@PySem.Heap.size_push
def acu:=@Option.map_some
def acv:=@Ne.symm
def acw:=@List.getElem?_range
def acx:=@PySem.Heap.get?_update_self
def acy:=@PySem.wpAny_call_entry
def acz:=@PySem.Around.in1_units
def acA:=@Option.toList_some
def acB:=@Nat.pow_succ
def acC:=@Nat.add_comm
def acD:=@Int.emod_lt_of_pos
def acE:=@Array.forIn_toList
def acF:=@Nat.lt_pow_two_of_testBit
def acG:=@List.take_succ
def acH:=@List.getElem?_zip_eq_some
def acI:=@Int.natAbs_mul
def acJ:=@PySem.F.args_tuple_add_2
def acK:=@PySem.Paired.snoc
def acL:=@Nat.lt_succ_of_lt
def acM:=@List.nodup_append
def acN:=@Bool.not_eq_true'
def acO:=@PySem.F.entry_tuple_add
def acP:=@List.filter_cons_of_pos
def acQ:=@List.filter_cons_of_neg
def acR:=@List.any_cons
def acS:=@decide_eq_decide
def acT:=@PySem.codeAny_mono
def acU:=@Nat.succ_ne_self
def acV:=@Nat.and_le_right
def acW:=@PySem.F.slot_tuple_add
def acX:=@PySem.PyData.int.inj
def acY:=@PySem.wpAny_dictEntries
def acZ:=@PySem.F.slot_dict_get
def ac1:=@Nat.lt_trans
def ac2:=@List.nil_append
def ac3:=@List.length_nil
def ac4:=@List.getElem?_eq_none
def ac5:=@List.forIn_cons
def ac7:=@Int.ne_of_gt
def ac8:=@PySem.AutoSeq1.wpAny_loadPart'
def ac9:=@Rat.mul_lt_mul_right
def ada:=@List.pairwise_append
def adb:=@Int.mul_le_mul
def adc:=@Nat.testBit_two_pow
def ade:=@List.filterMap_cons
def adf:=@PySem.Heap.get?_update_other
def adg:=@PySem.Calls.callWith_builtin
def adh:=@PySem.wpAny_specialOf
def adi:=@List.mem_filterMap
def adj:=@Int.ofNat.inj
def adk:=@Int.mul_right_comm
def adl:=@PySem.F.slot_zip_next
def adm:=@Option.isSome_map
def adn:=@List.pairwise_map
def ado:=@PySem.Heap.get?_none_of_le
def adp:=@PySem.Calls.evalArgs_plain
def adq:=@Rat.mul_le_mul_of_nonneg_right
def adr:=@List.map_set
def ads:=@List.Nodup.length_le_of_subset
def adt:=@List.length_tail
def adu:=@List.length_drop
def adv:=@List.getElem_inj
def adw:=@List.filter_cons
def adx:=@List.cons_append
def ady:=@PySem.Heap.SameBut.update
def adz:=@PySem.wpAny_standAt
def adA:=@Nat.two_pow_add_eq_or_of_lt
def adB:=@List.of_mem_zip
def adC:=@List.foldl_cons
def adD:=@List.cons.injEq
def adE:=@Int.emod_nonneg
def adF:=@Int.eq_of_mul_eq_mul_right
def adG:=@Nat.testBit_or
def adH:=@List.take_zero
def adI:=@Bool.not_false
def adJ:=@PySem.wpAny_typeOf
def adK:=@PySem.W.callWith_K
def adL:=@PySem.F.type_list_extend
def adM:=@PySem.F.slot_list_extend
def adN:=@List.getElem?_take_of_lt
def adP:=@List.Pairwise.imp_of_mem
def adQ:=@PySem.wpAny_pyIter_zip
def adR:=@PySem.wpAny_isInstance
def adS:=@PySem.wpAny_execs_cons
def adT:=@PySem.noFill_tuple_add
def adU:=@PySem.F.args_dict_get_3
def adV:=@Nat.add_sub_cancel_left
def adW:=@List.getElem?_replicate
def adX:=@Bool.not_true
def adY:=@PySem.F.entry_dict_get
def adZ:=@List.pairwise_lt_range
def ad0:=@List.flatMap_singleton
def ad1:=@List.filter_eq_nil_iff
def ad2:=@PySem.F.args_tuple_iterator_next_1
def ad3:=@Rat.le_of_lt
def ad4:=@Nat.succ.inj
def ad5:=@Nat.add_zero
def ad6:=@List.getElem?_toArray
def ad7:=@Int.natAbs_dvd_natAbs
def ad8:=@PySem.F.entry_tuple_iterator_next
def ad9:=@PySem.wpAny_letOwnedTupleGo_enum
def aea:=@PySem.Calls.Name_function_global
def aeb:=@Nat.mul_one
def aec:=@List.length_zipWith
def aed:=@List.flatMap_append
def aee:=@Int.mul_neg
def aef:=@PySem.wpAny_call
def aeg:=@true_and
def aeh:=@of_decide_eq_false
def aei:=@Nat.add_sub_cancel
def aej:=@List.pairwise_cons
def aek:=@List.map_singleton
def aem:=@List.getElem?_tail
def aen:=@Int.lt_of_le_of_lt
def aeo:=@Array.append_assoc
def aep:=@List.getElem?_eq_some_iff
namespace L2
open PySem PySem.Spec PyProof.Rows
variable {H:Hp} {Q:VK} {es:List Expr} {g:TG} {o u:HO} {pos':Pos} {qual:Str} {s':Shared} {t':Nat} {tb:TS} {te ti:TE} {tg:Expr} {v:V} {U:St}
abbrev Key:=Sum Int Str
def wj:Key->av->Bool
 | .inl k,v=>Value.isInt k v
 | .inr x,v=>Value.isStrOf x v
def W4 (w:aV):Key->Int
 | .inl k=>hashInt k
 | .inr x=>hashStr w x
def dL:∀ {k:Key} {v:av},wj k v=true->(∃ i t,k=Sum.inl i/\v=Value.int i t)\/(∃ x t,k=Sum.inr x/\v=Value.str x t)
 | .inl i,v,h=>by
   obtain ⟨t,e⟩:=Value.isInt_shape (k:=i) (v:=v) h
   exact .inl ⟨i,t,rfl,e⟩
 | .inr x,v,h=>by
   obtain ⟨t,e⟩:=Value.isStrOf_shape (x:=x) (v:=v) h
   exact .inr ⟨x,t,rfl,e⟩
def Fn (i:Int) (t:Tok):wj (.inl i) (.int i t)=true:=by simp [wj,Value.isInt]
def Es (x:Str) (t:Tok):wj (.inr x) (.str x t)=true:=by simp [wj,Value.isStrOf]
def NS (a b:Int):decide ((Sum.inl a:Key)=Sum.inl b)=(a == b):=by
 by_cases e:a=b
 . subst e;simp
 . have h:¬ (Sum.inl a:Key)=Sum.inl b:=λ q=>e (Sum.inl.inj q)
   rw [aam h]
   exact (abj.mpr e).symm
def M5 (a b:Str):decide ((Sum.inr a:Key)=Sum.inr b)=decide (a=b):=by
 by_cases e:a=b
 . subst e;simp
 . have h:¬ (Sum.inr a:Key)=Sum.inr b:=λ q=>e (Sum.inr.inj q)
   rw [aam h,aam e]
def Ob (a:Int) (b:Str):decide ((Sum.inl a:Key)=Sum.inr b)=false:=aam (λ q=>nomatch q)
def NP (a:Str) (b:Int):decide ((Sum.inr a:Key)=Sum.inl b)=false:=aam (λ q=>nomatch q)
def cO (prog:bi) (w:aV):PySem.KeyKind prog w Key where
 is:=wj
 hash:=W4 w
 inj:=λ v a b d c=>by
   rcases dL d with ⟨i,t,rfl,rfl⟩|⟨x,t,rfl,rfl⟩
   . rcases dL c with ⟨j,u,rfl,e⟩|⟨y,u,rfl,e⟩
     . injection e with e1 _;rw [e1]
     . exact nomatch e
   . rcases dL c with ⟨j,u,rfl,e⟩|⟨y,u,rfl,e⟩
     . exact nomatch e
     . injection e with e1 _;rw [e1]
 byValue:=λ k v h=>by
   rcases dL h with ⟨i,t,rfl,rfl⟩|⟨x,t,rfl,rfl⟩<;>rfl
 pyHash:=λ H h=>by
   rcases dL H with ⟨i,t,rfl,rfl⟩|⟨x,t,rfl,rfl⟩
   . exact wpAny_pyHash_int h
   . exact wpAny_pyHash_str h
 eqBool:=λ f H h=>by
   rcases dL f with ⟨i,t,rfl,rfl⟩|⟨x,t,rfl,rfl⟩
   . rcases dL H with ⟨j,u,rfl,rfl⟩|⟨y,u,rfl,rfl⟩
     . rw [NS] at h;exact wpAny_eqBool_int h
     . rw [Ob] at h;exact SeqAt.EqAt.int_str i t y u _ _ _ _ h
   . rcases dL H with ⟨j,u,rfl,rfl⟩|⟨y,u,rfl,rfl⟩
     . rw [NP] at h;exact SeqAt.EqAt.str_int x t j u _ _ _ _ h
     . rw [M5] at h;exact wpAny_eqBool_str h
 «strs»:=λ k x t v h=>by
   rcases dL h with ⟨i,u,rfl,e⟩|⟨y,u,rfl,e⟩
   . exact nomatch e
   . injection e with e1 _
     subst e1
     cases v<;>rfl
def zG (prog:bi) (w:aV) (i:Int) (t:Tok):(cO prog w).is (.inl i) (.int i t)=true:=Fn i t
def zl (prog:bi) (w:aV) (x:Str) (t:Tok):(cO prog w).is (.inr x) (.str x t)=true:=Es x t
inductive V where
 | cB|bl (b:Bool)|int (i:Int)|str (x:Str)|Ey (b:Array UInt8)|LB (b:UInt64)|ref (a:ak)|ty (n:String)
 deriving DecidableEq
abbrev ay:=List V
abbrev eE:=Option V
def RelV:V->av->Prop
 | .cB,u=>u=Value.none
 | .bl b,u=>u=Value.bool b
 | .int i,u=>∃ t,u=Value.int i t
 | .str x,u=>∃ t,u=Value.str x t
 | .Ey b,u=>∃ t,u=Value.bytes b t
 | .LB b,u=>∃ t,u=Value.float b t
 | .ref a,u=>u=Value.ref a
 | .ty n,u=>u=Value.type n
abbrev Vals:ay->aZ->Prop:=Paired RelV
theorem Vals.length {xs:ay} {us:aZ} (r:Vals xs us):xs.length=us.length:=abT r
theorem Vals.get:∀ {xs:ay} {us:aZ} {i:Nat} {x:V},Vals xs us->xs[i]?=some x->∃ u,us[i]?=some u/\RelV x u
 | _,_,_,_,.nil,e=>by simp at e
 | _,_,0,_,.cons r _,e=>by simp at e;subst e;exact ⟨_,rfl,r⟩
 | _,_,i+1,x,.cons _ t,e=>by
   obtain ⟨u,h,H⟩:=Vals.get (i:=i) (x:=x) t (by simpa using e)
   exact ⟨u,by simpa using h,H⟩
theorem Vals.set {x:V} {u:av} (r:RelV x u):∀ {xs:ay} {us:aZ} (i:Nat),Vals xs us->Vals (xs.set i x) (us.set i u)
 | _,_,_,.nil => .nil
 | _,_,0,.cons _ t => .cons r t
 | _,_,i+1,.cons q t => .cons q (Vals.set r i t)
theorem Vals.append:∀ {xs ys:ay} {us w:aZ},Vals xs us->Vals ys w->Vals (xs++ys) (us++w)
 | _,_,_,_,.nil,s=>s
 | _,_,_,_,.cons r t,s => .cons r (Vals.append t s)
theorem Vals.take:∀ {xs:ay} {us:aZ} (n:Nat),Vals xs us->Vals (xs.take n) (us.take n)
 | _,_,0,_ => .nil
 | _,_,_+1,.nil => .nil
 | _,_,n+1,.cons r t => .cons r (Vals.take n t)
theorem Vals.drop:∀ {xs:ay} {us:aZ} (n:Nat),Vals xs us->Vals (xs.drop n) (us.drop n)
 | _,_,0,r=>r
 | _,_,_+1,.nil => .nil
 | _,_,n+1,.cons _ t=>Vals.drop n t
def kS:eE->jk->Prop
 | some v,some u=>RelV v u
 | none,none=>True
 | _,_=>False
def KV {a:Type}:List (a×V)->List (a×av)->Prop:=Paired λ (p:a×V) (q:a×av)=>p.1=q.1/\RelV p.2 q.2
def kV:Key->V
 | .inl i => .int i
 | .inr x => .str x
inductive HO where
 | lst (xs:ay)
 | tup (xs:ay)
 | dK (aC:List (Key×V))|dT (aC:List (List Key×V))
 | set (S:Int->Bool) (n:Nat)
 | ins (C dx:ak) (fs:List (Str×V))
 | own (x:ak)
 | xd (fs:List (Str×V))
 | met (f x:ak)
 | Tv (lo hi:Int)
 | Ak (o:Obj) (u:HO)
 | LA (ps:Array av)
 | ext (φ:aU->Prop)
abbrev Hp:=ak->Option HO
def upd (H:Hp) (a:ak) (o:HO):Hp:=λ b=>if b=a then some o else H b
def ag {a:ak}:upd H a o a=some o:=by unfold upd;rw [aaE rfl]
def ar {a b:ak} (h:b≠a):upd H a o b=H b:=by unfold upd;rw [aaA h]
def mL {a:ak}:upd (upd H a o) a u=upd H a u:=by
 funext b;unfold upd;split<;>rfl
def Rp {a b:ak} (h:H a=some o) (h':H b=some u) (d:o≠u):a≠b:=by
 intro e;subst e;rw [h] at h';exact d (aap h')
def aw {a b:ak} (h:H a=some o) (h':H b=none):a≠b:=by
 intro e;subst e;rw [h] at h';cases h'
section
variable (P:bi) (w:aV)
def dF (H:Hp) (h:aU) (a:ak):HO->Prop
 | .lst xs=>xs.length<=sizeLine/\∃ (b:aZ) (n:Nat),Vals xs b/\h.get? a=some { cls:=.type "list",data:=.seq b.toArray n }
 | .tup xs=>xs.length<=sizeLine/\∃ b:aZ,Vals xs b/\IsTup h a b.toArray
 | .dK A=>A.length<=sizeLine/\(a == sysModules)=false/\∃ vs,KV A vs/\h.DictOf (cO P w) a vs
 | .dT A=>A.length<=sizeLine/\(a == sysModules)=false/\∃ xs:List (List Key×ak×av),
     Paired (λ (p:List Key×V) (q:List Key×ak×av)=>p.1=q.1/\H q.2.1=some (.tup (p.1.map kV))/\RelV p.2 q.2.2) A xs /\
     ∃ o es E,h.get? a=some o/\o.ExactDict/\o.data = .dict es E/\es.toList=xs.map (entryOfKey (tupleKind (cO P w)))/\(xs.map (·.1)).Nodup
 | .set S n=>h.SetOf (intKind P w) a S n
 | .ins C dx F=>H dx=some (.own a)/\F.length<=1000/\dx≠a/\h.get? a=some (W.instObj C dx) /\
     ∃ m,h.Ns1 dx m/\(∀ f,kS (F.lookup f) (m f))/\PySem.Within m (F.map (·.1))
 | .own _=>∃ o,h.get? a=some o
 | .xd F=>∃ m,h.Ns1 a m/\∀ f,kS (F.lookup f) (m f)
 | .Tv lo g=>∃ t u v,h.get? a=some { cls:=.type "range",data:=.fields #[.int lo t,.int g u,.int 1 v]}
 | .Ak o u=>h.get? a=some o/\dF H h a u
 | .LA i=>h.get? a=some { cls:=.none,data:=.fields i }
 | .met f x=>h.get? a=some (W.methodObj (.ref f) (.ref x))
 | .ext c=>c h/\(∃ o,h.get? a=some o)/\∀ d e:aU,c d->(∀ o,d.get? a=some o->e.get? a=some o)->c e
def mQ (H:Hp) (h:aU):Prop:=∀ a o,H a=some o->dF P w H h a o
end
section
variable {P:bi} {w:aV} {H H':Hp} {h h':aU} {a:ak} {o:HO}
theorem dF.lt (x:dF P w H h a o):a<h.objs.size:=by
 cases o with
 | lst X=>obtain ⟨Z,Z,Z,Z,e⟩:=x;exact aat e
 | tup X=>obtain ⟨Z,Z,Z,p⟩:=x;exact p.lt
 | dK A=>obtain ⟨Z,Z,Z,Z,o,Z,Z,e,Z⟩:=x;exact aat e
 | dT A=>obtain ⟨Z,Z,Z,Z,o,Z,Z,e,Z⟩:=x;exact aat e
 | set S n=>obtain ⟨o,Z,Z,Z,e,Z⟩:=x;exact aat e
 | ins C d F=>obtain ⟨Z,Z,Z,e,Z⟩:=x;exact aat e
 | own y=>obtain ⟨Z,e⟩:=x;exact aat e
 | xd F=>obtain ⟨Z,⟨Z,Z,Z,e,Z⟩,Z⟩:=x;exact aat e
 | Tv l b=>obtain ⟨Z,Z,Z,e⟩:=x;exact aat e
 | Ak O u=>obtain ⟨e,Z⟩:=x;exact aat e
 | LA c=>exact aat (show h.get? a=some _ from x)
 | met f y=>exact aat (show h.get? a=some _ from x)
 | ext g=>obtain ⟨Z,⟨Z,e⟩,Z⟩:=x;exact aat e
theorem Paired.yc {c d:Type} {F G:c->d->Prop}:∀ {l₁:List c} {l₂:List d},Paired F l₁ l₂->(∀ a b,F a b->G a b)->Paired G l₁ l₂
 | _,_,.nil,_ => .nil
 | _,_,.cons r t,f => .cons (f _ _ r) (Paired.yc t f)
def dF.dI (x:dF P w H h a o) (k:∀ b u,(b=a\/H b=some (.own a))->h.get? b=some u->h'.get? b=some u) (l:∀ b,H b=some (.own a)->H' b=some (.own a)) (D:∀ b xs,H b=some (.tup xs)->H' b=some (.tup xs)):dF P w H' h' a o:=by
 induction o with
 | lst xs=>obtain ⟨z,B,n,r,e⟩:=x;exact ⟨z,B,n,r,k _ _ (.inl rfl) e⟩
 | tup xs=>obtain ⟨z,B,r,O,e,c⟩:=x;exact ⟨z,B,r,O,k _ _ (.inl rfl) e,c⟩
 | dK A=>obtain ⟨z,y,V,r,O,es,E,e,c⟩:=x;exact ⟨z,y,V,r,O,es,E,k _ _ (.inl rfl) e,c⟩
 | dT A =>
   obtain ⟨z,y,xs,r,O,es,E,e,c⟩:=x
   exact ⟨z,y,xs,Paired.yc r λ p q z=>⟨z.1,D _ _ z.2.1,z.2.2⟩,O,es,E,k _ _ (.inl rfl) e,c⟩
 | set S n=>obtain ⟨O,es,E,t,e,c⟩:=x;exact ⟨O,es,E,t,k _ _ (.inl rfl) e,c⟩
 | ins C G F =>
   obtain ⟨d,z,N,e,m,⟨g,es,E,j,c⟩,r⟩:=x
   exact ⟨l _ d,z,N,k _ _ (.inl rfl) e,m,⟨g,es,E,k _ _ (.inr d) j,c⟩,r⟩
 | own y=>obtain ⟨O,e⟩:=x;exact ⟨O,k _ _ (.inl rfl) e⟩
 | xd F=>obtain ⟨m,⟨g,es,E,e,c⟩,r⟩:=x;exact ⟨m,⟨g,es,E,k _ _ (.inl rfl) e,c⟩,r⟩
 | Tv L J=>obtain ⟨t,u,v,e⟩:=x;exact ⟨t,u,v,k _ _ (.inl rfl) e⟩
 | Ak O u I=>obtain ⟨e,q⟩:=x;exact ⟨k _ _ (.inl rfl) e,I q⟩
 | LA i =>
   have e:h.get? a=some { cls:=.none,data:=.fields i }:=x
   show h'.get? a=some { cls:=.none,data:=.fields i }
   exact k a _ (.inl rfl) e
 | met f y =>
   have e:h.get? a=some (W.methodObj (.ref f) (.ref y)):=x
   show h'.get? a=some (W.methodObj (.ref f) (.ref y))
   exact k a _ (.inl rfl) e
 | ext K=>obtain ⟨p,⟨o,e⟩,s⟩:=x;exact ⟨s _ _ p λ o q=>k _ _ (.inl rfl) q,⟨o,k _ _ (.inl rfl) e⟩,s⟩
theorem mQ.lt (x:mQ P w H h) (e:H a=some o):a<h.objs.size:=(x a o e).lt
def mQ.fresh (x:mQ P w H h) (e:h.objs.size<=a):H a=none:=by
 cases q:H a with
 | none=>rfl
 | some u=>exact absurd (aax (x.lt q) e) (abh _)
def mQ.kept (x:mQ P w H h) (k:∀ b u,h.get? b=some u->h'.get? b=some u):mQ P w H h':=λ a o e =>
 (x a o e).dI (λ b u Z q=>k b u q) (λ Z q=>q) λ Z Z q=>q
def mQ.laid (x:mQ P w H h) (k:∀ b u,h.get? b=some u->h'.get? b=some u) (g:h.objs.size<=a) (n:dF P w (upd H a o) h' a o):mQ P w (upd H a o) h':=λ b u e=>by
 have f:=x.fresh g
 by_cases d:b=a
 . subst d;rw [ag] at e;cases e;exact n
 . rw [ar d] at e
   exact (x b u e).dI (λ c v Z q=>k c v q) (λ c q=>by rw [ar (aw q f)];exact q) λ c X q=>by rw [ar (aw q f)];exact q
end
def Rd (H:Hp) (a:ak) (u:HO):Prop:=H a=some u\/∃ o,H a=some (.Ak o u)
def Rd.ok {P:bi} {w:aV} {h:aU} {a:ak} (r:Rd H a u) (x:mQ P w H h):dF P w H h a u:=by
 rcases r with r|⟨o,r⟩
 . exact x a u r
 . obtain ⟨Z,q⟩:=x a _ r
   exact q
def Qa:Option HO->Prop
 | some (.lst _)=>True
 | some (.dK _)=>True
 | some (.dT _)=>True
 | some (.set _ _)=>True
 | some (.ins _ _ _)=>True
 | some (.ext _)=>True
 | _=>False
section
variable {P:bi} {w:aV} {H:Hp} {h h':aU} {x e:ak} {o':HO}
def mQ.write (ok:mQ P w H h) (m:Qa (H x)) (f:e=x\/H e=some (.own x)) (k:∀ b u,b≠e->h.get? b=some u->h'.get? b=some u) (D:∃ u,h'.get? e=some u) (n:dF P w (upd H x o') h' x o'):mQ P w (upd H x o') h':=λ b u q=>by
 have p:∀ c y,H c=some (.own y)->c≠x:=λ c y r z=>by subst z;rw [r] at m;exact m
 have W:∀ c X,H c=some (.tup X)->c≠x:=λ c X r z=>by subst z;rw [r] at m;exact m
 by_cases a:b=x
 . subst a;rw [ag] at q;cases q;exact n
 .
  rw [ar a] at q
  by_cases F:b=e
  .
   have Q:H b=some (.own x):=by
     rcases f with z|z
     . exact absurd (F.trans z) a
     . rw [F];exact z
   rw [q] at Q;cases Q
   obtain ⟨v,g⟩:=D
   exact ⟨v,by rw [F];exact g⟩
  .
   refine (ok b u q).dI (λ c v d r=>k c v ?_ r) (λ c r=>by rw [ar (p c b r)];exact r) λ c X r=>by rw [ar (W c X r)];exact r
   rcases d with rfl|d
   . exact F
   . rintro rfl
     rcases f with z|z
     . exact p c b d z
     . rw [d] at z;cases z;exact a rfl
end
structure Un (fs ex:bw) (H H':Hp) (h h':aU):Prop where
 keep:∀ b o,h.get? b=some o->H b=none->b∉fs->b∉ex->h'.get? b=some o
 slot:∀ b o,h.get? b=some o->H b=none->b∈fs->b∉ex->∃ sl,h'.get? b=some { o with slots:=sl }
 free:∀ b o,h.get? b=some o->H b=none->b∉ex->H' b=none
 there:∀ b o,h.get? b=some o->b∉ex->∃ o',h'.get? b=some o'
 sx:∀ b xs,H b=some (.tup xs)->H' b=some (.tup xs)
 qy:∀ b o u,H b=some (.Ak o u)->H' b=some (.Ak o u)
 sE:∀ b ps,H b=some (.LA ps)->∃ more,H' b=some (.LA (ps++more))
section
variable {fs ex:bw} {H H1:Hp} {h h1 h':aU} {a x e:ak} {o:HO}
def Un.any (u:Un fs ex H H1 h h1) {b:ak} {o:Obj} (q:h.get? b=some o) (n:H b=none) (c:b∉ex):∃ sl,h1.get? b=some { o with slots:=sl }:=by
 by_cases a:b∈fs
 . exact u.slot b o q n a c
 . exact ⟨o.slots,u.keep b o q n a c⟩
def Un.kept (k:∀ b u,h.get? b=some u->h'.get? b=some u):Un fs ex H H h h' :=
 ⟨λ b o q Z Z Z=>k b o q,λ b o q Z Z Z=>⟨o.slots,k b o q⟩,λ Z Z Z n Z=>n,λ b o q Z=>⟨o,k b o q⟩,λ Z Z q=>q,λ Z Z Z q=>q,λ Z p q=>⟨#[],by rw [q];simp⟩⟩
def Un.refl:Un fs ex H H h h:=Un.kept λ Z Z q=>q
def Un.laid (k:∀ b u,h.get? b=some u->h'.get? b=some u) (d:h.objs.size<=a) (c:H a=none):Un fs ex H (upd H a o) h h' where
 keep:=λ b u q Z Z Z=>k b u q
 slot:=λ b u q Z Z Z=>⟨u.slots,k b u q⟩
 free:=λ b u q n Z=>by rw [ar (aaL (aax (aat q) d))];exact n
 there:=λ b u q Z=>⟨u,k b u q⟩
 sx:=λ b x q=>by rw [ar (aw q c)];exact q
 qy:=λ b u x q=>by rw [ar (aw q c)];exact q
 sE:=λ b p q=>⟨#[],by rw [ar (aw q c),q];simp⟩
def Un.write (m:Qa (H x)) (f:e=x\/H e=some (.own x)) (k:∀ b u,b≠e->h.get? b=some u->h'.get? b=some u) (D:∃ u,h'.get? e=some u):Un fs ex H (upd H x o) h h':=by
 have d:∀ b,H b=none->b≠x:=λ b n z=>by subst z;rw [n] at m;exact m
 have c:∀ b,H b=none->b≠e:=λ b n z=>by
   subst z
   rcases f with r|r
   . exact d b n r
   . rw [n] at r;cases r
 have a:∀ b u,H b=some u->¬ Qa (some u)->b≠x:=λ b u q N z=>by subst z;rw [q] at m;exact N m
 refine ⟨λ b u q n Z Z=>k b u (c b n) q,λ b u q n Z Z=>⟨u.slots,k b u (c b n) q⟩,λ b u q n Z=>by rw [ar (d b n)];exact n,λ b u q Z=>?_,
   λ b X q=>by rw [ar (a b _ q λ z=>z)];exact q,λ b u X q=>by rw [ar (a b _ q λ z=>z)];exact q,λ b p q=>⟨#[],by rw [ar (a b _ q λ z=>z),q];simp⟩⟩
 by_cases F:b=e
 . subst F;exact D
 . exact ⟨u,k b u F q⟩
end
def Uw (h:aU) (H:Hp):bw:=(List.range h.objs.size).filter λ a=>(H a).isSome
def xu (h:aU) (H:Hp):aU:=W.hideAll h (Uw h H)
def Fk (h:aU) (H:Hp):(xu h H).objs.size=h.objs.size:=W.hideAll_size _ _
def Iw {h:aU} {b:ak} {o:Obj} (e:h.get? b=some o) (n:H b=none):(xu h H).get? b=some o :=
 W.hideAll_get _ e λ a=>by
   have q:(H b).isSome=true:=(aa3.mp a).2
   rw [n] at q;simp at q
def JN {h:aU} {b:ak} {o:Obj} (e:(xu h H).get? b=some o):h.get? b=some o/\H b=none:=by
 have E:h.get? b=some o:=W.of_hideAll (Uw h H) e
 refine ⟨E,?_⟩
 cases q:H b with
 | none=>rfl
 | some x =>
   have a:b∈Uw h H:=aa3.mpr ⟨aaJ.mpr (aat E),by simp [q]⟩
   have z:(xu h H).get? b=none:=W.hideAll_none (Uw h H) a
   rw [z] at e;cases e
def Jf (g h:aU) (L:ak):List (ak×Obj):=(List.range h.objs.size).filterMap λ a=>if a=L\/(g.get? a).isSome=true then none else (h.get? a).map λ o=>(a,o)
def rest (g h:aU) (L d:ak):List (ak×Obj):=(Jf g h L).filter λ p=>decide (p.1≠d)
structure Mod (K:aA) (mg:cZ) (base:aU):Prop where
 Ld:K.In base
 glob:base.Ns mainGlobals mg
 blt:∃ mb,base.Ns builtinsNs mb/\∀ x:Str,x ≠ "__name__"->mb x=bootBuiltins x
 nolimit:base.NoLimit
structure Cx where
 prog:bi
 w:aV
 K:aA
 mg:cZ
 base:aU
 A:Around
 N:cx
 s₀:Shared
 H₀:Hp
 env:Env
 outer:List Env
 stack:List Env
 ex:bw
 fn:Str->Bool
 calm:Bool
 pn:List (ak×Obj)
 xe:av->Shared->Prop
abbrev yN (X:Cx) (e:Expr) (es:List Expr):Prop:=starEach (e::es) X.env=(false,eval e X.env)::starEach es X.env
abbrev Dv (X:Cx) (es:List Expr) (pos:Pos):Prop:=(backTo pos (starEach es X.env)).any (·.1)=false
abbrev QS (X:Cx) (x:Str):Prop:=X.fn x=true\/X.env.scope.names.lookup x=some .local
abbrev wm (x:Str):Prop:=(x == ("__debug__" : Str))=false
def kN (l:List Env):bw:=l.filterMap (·.frame)
abbrev Cx.fs (X:Cx):bw:=kN X.outer
def RS (s:Scope) (x:Str):Prop:=s.names.lookup x=some .local\/s.names.lookup x=some .cell\/s.names.lookup x=some .free
def Loc (s:Scope) (x:Str):Prop:=s.names.lookup x=some .local\/s.names.lookup x=some .cell
def Look (env:Env) (h:aU) (m:cZ) (x:Str) (u:av):Prop :=
 (env.kindOf x=some .local/\m x=some u)\/((env.kindOf x=some .cell\/env.kindOf x=some .free)/\∃ c,env.cells.lookup x=some c/\h.IsCell c (some u))
structure Cx.Ok (X:Cx):Prop where
 mod:Mod X.K X.mg X.base
 kind:X.env.scope.kind = .function
 glob:X.env.globals=mainGlobals
 blt:X.env.builtins=builtinsNs
 above:X.s₀.heap.objs.size<=X.env.locals
 inj:∀ x y c,X.env.cells.lookup x=some c->X.env.cells.lookup y=some c->x=y
 has:∀ x,(X.env.kindOf x=some .cell\/X.env.kindOf x=some .free)->∃ c,X.env.cells.lookup x=some c
 OC:∀ x c,X.fn x=true->X.env.cells.lookup x=some c->X.s₀.heap.objs.size<=c
 hd:X.calm=true->X.A.handled=none
 frames:X.A.frames=some X.stack
 Ph:X.stack=X.outer\/(X.stack=X.env::X.outer/\X.env.frame=some X.env.locals)
 We:∀ b∈X.ex,b≠X.env.locals/\∀ x c,X.env.cells.lookup x=some c->c≠b
 bs:∀ b o,X.base.get? b=some o->X.s₀.heap.get? b=some o/\X.H₀ b=none
 KA:X.base.objs.size<=X.s₀.heap.objs.size
 EK:∀ b o,X.base.get? b=some o->b∉X.ex
 FP:∀ b∈X.ex,b∉X.fs
 oB:X.s₀.heap.FunFrames X.base X.outer
 Kz:∀ b∈X.fs,X.H₀ b=none
structure Inv (X:Cx) (pins:List (ak×Obj)) (U:List (eE)) (H:Hp) (s:Shared):Prop where
 ok:X.Ok
 os:s.os=X.s₀.os
 bare:AllBare s.gens
 base:Un X.fs X.ex X.H₀ H X.s₀.heap s.heap
 loc:∃ m,s.heap.Ns X.env.locals m/\∀ (i:Nat) (x:Str) (v:V),X.N[i]?=some x->U[i]?=some (some v)->RS X.env.scope x->∃ u,RelV v u/\Look X.env s.heap m x u
 cell:∀ x c,X.env.cells.lookup x=some c->∃ v,s.heap.IsCell c v
 free:H X.env.locals=none
 kP:∀ x c,X.env.cells.lookup x=some c->H c=none
 pin:∀ p∈X.pn++pins,s.heap.get? p.1=some p.2/\H p.1=none/\p.1≠X.env.locals/\p.1∉X.fs/\∀ v,p.2.data ≠ .cell v
 cM:mQ X.prog X.w H s.heap
 len:U.length=X.N.length
section
variable {X:Cx} {pins:List (ak×Obj)} {U:List (eE)} {H H':Hp} {s:Shared} {h':aU}
def Cx.Ok.vO (ok:X.Ok) {b:ak} {o:Obj} (e:X.base.get? b=some o):b∉X.fs:=λ h=>by
 have:=(ok.oB.mem h).1
 rw [e] at this;cases this
theorem Inv.bs (I:Inv X pins U H s):∀ b o,X.base.get? b=some o->s.heap.get? b=some o/\H b=none:=λ b o e =>
 ⟨I.base.keep b o (I.ok.bs b o e).1 (I.ok.bs b o e).2 (I.ok.vO e) (I.ok.EK b o e),I.base.free b o (I.ok.bs b o e).1 (I.ok.bs b o e).2 (I.ok.EK b o e)⟩
def Inv.bk (I:Inv X pins U H s):∀ b o,X.base.get? b=some o->s.heap.get? b=some o:=λ b o e=>(I.bs b o e).1
theorem Inv.mod (I:Inv X pins U H s):Mod X.K X.mg X.base:=I.ok.mod
def Inv.oP (I:Inv X pins U H s):X.K.In s.heap:=I.ok.mod.Ld.keeps I.bk
theorem Inv.lt (I:Inv X pins U H s):X.env.locals<s.heap.objs.size:=let ⟨_,h,_⟩:=I.loc;h.lt
def Inv.sz (I:Inv X pins U H s):X.s₀.heap.objs.size<=s.heap.objs.size:=aaz I.ok.above (abq I.lt)
def Inv.WW (I:Inv X pins U H s) {a:ak} (h:s.heap.objs.size<=a):a∉X.fs:=λ b=>by
 obtain ⟨Z,o,c,Z⟩:=I.ok.oB.mem b
 exact absurd (aax (aat c) (aaz I.sz h)) (abh _)
def Inv.Nl (I:Inv X pins U H s):∀ x c,X.env.cells.lookup x=some c->c≠X.env.locals:=λ x c e z=>by
 obtain ⟨v,o,a,h⟩:=I.cell x c e
 obtain ⟨m,⟨O,es,E,b,Q,Z⟩,Z⟩:=I.loc
 rw [z,b] at a;cases a;rw [Q] at h;cases h
theorem Inv.oB (I:Inv X pins U H s):s.heap.FunFrames X.base X.outer:=by
 have all:∀ (l:List Env),(∀ b∈kN l,b∈X.fs)->X.s₀.heap.FunFrames X.base l->s.heap.FunFrames X.base l:=by
   intro l
   induction l with
   | nil=>intro Z Z;trivial
   | cons env r n =>
     intro d i
     obtain ⟨g,⟨L,o,c,j,k,f⟩,m⟩:=i
     have h:L∈X.fs:=d L (by unfold kN;rw [ade,c];exact aas)
     obtain ⟨sl,e⟩:=I.base.slot L o k (I.ok.Kz L h) h λ z=>I.ok.FP L z h
     exact ⟨g,⟨L,_,c,j,e,f⟩,n (λ b a=>d b (by unfold kN;rw [ade,c];exact aai _ a)) m⟩
 exact all X.outer (λ Z a=>a) I.ok.oB
theorem Inv.stack (I:Inv X pins U H s):s.heap.FunFrames X.base X.stack:=by
 rcases I.ok.Ph with e|⟨e,h⟩
 . rw [e];exact I.oB
 .
  rw [e]
  obtain ⟨m,a,Z⟩:=I.loc
  refine .cons (by rw [I.ok.kind];decide) h a ?_ I.oB
  exact ado (aaz I.ok.KA I.ok.above)
def Inv.AU (I:Inv X pins U H s):∀ b∈kN X.stack,b∈X.env.locals::X.fs:=λ b h=>by
 rcases I.ok.Ph with e|⟨e,a⟩
 . rw [e] at h;exact aai _ h
 .
  rw [e] at h
  unfold kN at h
  rw [ade,a] at h
  exact h
def Inv.yr (I:Inv X pins U H s):∀ b∈kN X.stack,H b=none:=λ b h=>by
 rcases aad.mp (I.AU b h) with e|h
 . rw [e];exact I.free
 . obtain ⟨Z,o,a,Z⟩:=I.ok.oB.mem h
   exact I.base.free b o a (I.ok.Kz b h) λ z=>I.ok.FP b z h
def Inv.step {g':Array GenState} {t':Nat} {d':Drawn} {ch:bw} (I:Inv X pins U H s) (A:∀ b∈ch,(b∈X.ex\/X.s₀.heap.objs.size<=b)/\b≠X.env.locals/\(∀ x c,X.env.cells.lookup x=some c->c≠b)/\∀ p∈X.pn++pins,p.1≠b) (K:∀ b o,b≠X.env.locals->b∉X.fs->b∉ch->s.heap.get? b=some o->H b=none->h'.get? b=some o) (S:∀ b o,b≠X.env.locals->b∈X.fs->b∉ch->s.heap.get? b=some o->H b=none->∃ sl,h'.get? b=some { o with slots:=sl }) (f:∀ b o,b∉ch->s.heap.get? b=some o->H b=none->H' b=none) (t:∀ b o,b∉ch->s.heap.get? b=some o->∃ o',h'.get? b=some o') (sx:∀ b xs,H b=some (.tup xs)->H' b=some (.tup xs)) (qy:∀ b o u,H b=some (.Ak o u)->H' b=some (.Ak o u)) (sE:∀ b D,H b=some (.LA D)->∃ M,H' b=some (.LA (D++M))) (ns:∀ m,s.heap.Ns X.env.locals m->h'.Ns X.env.locals m) (Q:mQ X.prog X.w H' h') (T:AllBare g') :
   Inv X pins U H' { s with heap:=h',gens:=g',drawn:=d',toks:=t' }:=by
 have N:∀ b o,X.s₀.heap.get? b=some o->b≠X.env.locals:=λ b o e=>aaL (aax (aat e) I.ok.above)
 have B:∀ b o,X.s₀.heap.get? b=some o->b∉X.ex->b∉ch:=λ b o e h a=>by
   rcases (A b a).1 with z|z
   . exact h z
   . exact absurd (aax (aat e) z) (abh _)
 have C:∀ x c,X.env.cells.lookup x=some c->∀ v,s.heap.IsCell c v->h'.IsCell c v:=λ x c e v ⟨o,g,F⟩=>by
   have j:c∉ch:=λ z=>(A c z).2.2.1 x c e rfl
   by_cases J:c∈X.fs
   . obtain ⟨sl,q⟩:=S c o (I.Nl x c e) J j g (I.kP x c e)
     exact ⟨_,q,F⟩
   . exact ⟨o,K c o (I.Nl x c e) J j g (I.kP x c e),F⟩
 refine ⟨I.ok,I.os,T,⟨λ b o e n a h=>?_,λ b o e n a h=>?_,λ b o e n h=>?_,λ b o e h=>?_,λ b xs e=>sx b xs (I.base.sx b xs e),λ b o xs e=>qy b o xs (I.base.qy b o xs e),λ b D e=>?_⟩,?_,λ x c e=>?_,?_,λ x c e=>?_,λ p L=>?_,Q,I.len⟩
 . exact K b o (N b o e) a (B b o e h) (I.base.keep b o e n a h) (I.base.free b o e n h)
 . obtain ⟨sl,E⟩:=I.base.slot b o e n a h
   obtain ⟨G,y⟩:=S b _ (N b o e) a (B b o e h) E (I.base.free b o e n h)
   exact ⟨G,y⟩
 . obtain ⟨o',E⟩:=I.base.there b o e h
   exact f b o' (B b o e h) E (I.base.free b o e n h)
 . obtain ⟨o',E⟩:=I.base.there b o e h
   exact t b o' (B b o e h) E
 . obtain ⟨Y,E⟩:=I.base.sE b D e
   obtain ⟨m2,y⟩:=sE b _ E
   exact ⟨Y++m2,by rw [y,aeo]⟩
 .
  obtain ⟨m,W,V⟩:=I.loc
  refine ⟨m,ns m W,λ i x v E y R=>?_⟩
  obtain ⟨u,r,l⟩:=V i x v E y R
  refine ⟨u,r,?_⟩
  rcases l with l|⟨k,c,e,z⟩
  . exact .inl l
  . exact .inr ⟨k,c,e,C x c e _ z⟩
 . obtain ⟨v,z⟩:=I.cell x c e
   exact ⟨v,C x c e v z⟩
 . obtain ⟨m,⟨o,Z,Z,g,Z⟩,Z⟩:=I.loc
   exact f _ o (λ z=>(A _ z).2.1 rfl) g I.free
 . obtain ⟨v,o,g,F⟩:=I.cell x c e
   exact f c o (λ z=>(A c z).2.2.1 x c e rfl) g (I.kP x c e)
 . obtain ⟨e,n,O,nf,d⟩:=I.pin p L
   have j:p.1∉ch:=λ z=>(A p.1 z).2.2.2 p L rfl
   exact ⟨K p.1 p.2 O nf j e n,f p.1 p.2 j e n,O,nf,d⟩
def Inv.un {t':Nat} (I:Inv X pins U H s) (u:Un X.fs [] H H' s.heap h') (C:mQ X.prog X.w H' h'):Inv X pins U H' { s with heap:=h',toks:=t' }:=by
 obtain ⟨m,⟨o,es,E,a,r⟩,Z⟩:=id I.loc
 obtain ⟨sl,d⟩:=u.any a I.free (by simp)
 exact I.step (g':=s.gens) (d':=s.drawn) (ch:=[]) (λ Z z=>nomatch z) (λ b o Z h Z e n=>u.keep b o e n h (by simp)) (λ b o Z h Z e n=>u.slot b o e n h (by simp)) (λ b o Z e n=>u.free b o e n (by simp)) (λ b o Z e=>u.there b o e (by simp)) u.sx u.qy u.sE (λ M f=>by
   obtain ⟨O,c,Y,x,R⟩:=f
   rw [a] at x;cases x
   exact ⟨_,c,Y,d,R⟩) C I.bare
def Inv.call {g':Array GenState} {t':Nat} {d':Drawn} {ch:bw} (I:Inv X pins U H s) (u:Un (kN X.stack) ch H H' s.heap h') (C:mQ X.prog X.w H' h') (k:AllBare g') (f:∀ b∈ch,(b∈X.ex\/X.s₀.heap.objs.size<=b)/\b≠X.env.locals/\(∀ x c,X.env.cells.lookup x=some c->c≠b)/\∀ p∈X.pn++pins,p.1≠b) :
   Inv X pins U H' { s with heap:=h',gens:=g',drawn:=d',toks:=t' }:=by
 obtain ⟨m,⟨o,es,E,d,r⟩,Z⟩:=id I.loc
 obtain ⟨sl,a⟩:=u.any d I.free λ z=>(f _ z).2.1 rfl
 exact I.step (ch:=ch) f (λ b o a j h e n=>u.keep b o e n (λ z=>(aad.mp (I.AU b z)).elim a j) h) (λ b o Z Z h e n=>u.any e n h) (λ b o h e n=>u.free b o e n h) (λ b o h e=>u.there b o e h) u.sx u.qy u.sE (λ M l=>by
   obtain ⟨O,i,Y,g,R⟩:=l
   rw [d] at g;cases g
   exact ⟨_,i,Y,a,R⟩) C k
def Inv.turned {t':Nat} {i:ak} (I:Inv X pins U H s) (k:∀ b o,b≠i->s.heap.get? b=some o->h'.get? b=some o) (t:H i=none) (a:i≠X.env.locals) (d:i∈X.ex\/X.s₀.heap.objs.size<=i) (f:∀ x c,X.env.cells.lookup x=some c->c≠i) (g:∀ p∈X.pn++pins,p.1≠i):Inv X pins U H { s with heap:=h',toks:=t' }:=by
 have N:∀ b u,H b=some u->b≠i:=λ b u e z=>by rw [z,t] at e;cases e
 refine I.step (g':=s.gens) (d':=s.drawn) (ch:=[i]) (λ b j=>?_) (λ b o Z Z h e Z=>k b o (λ z=>h (by simp [z])) e) (λ b o Z Z h e Z=>⟨o.slots,k b o (λ z=>h (by simp [z])) e⟩) (λ Z Z Z Z n=>n)
   (λ b o h e=>⟨o,k b o (λ z=>h (by simp [z])) e⟩) (λ Z Z e=>e) (λ Z Z Z e=>e) (λ b y e=>⟨#[],by rw [e];simp⟩) (λ m l=>?_) (λ b u e=>?_) I.bare
 . have e:b=i:=by simpa using j
   subst e
   exact ⟨d,a,f,g⟩
 . obtain ⟨o,es,E,w,r⟩:=l
   exact ⟨o,es,E,k _ o (acv a) w,r⟩
 .
  refine (I.cM b u e).dI (λ c v h q=>k c v ?_ q) (λ Z q=>q) λ Z Z q=>q
  rcases h with z|z
  . rw [z];exact N b u e
  . exact N c _ z
def Inv.tok (I:Inv X pins U H s) (t:Nat):Inv X pins U H { s with toks:=t }:=I.un (h':=s.heap) (t':=t) Un.refl I.cM
theorem Inv.kept {t':Nat} (I:Inv X pins U H s) (k:∀ b u,s.heap.get? b=some u->h'.get? b=some u):Inv X pins U H { s with heap:=h',toks:=t' }:=I.un (Un.kept k) (I.cM.kept k)
theorem Inv.laid {a:ak} {t':Nat} (I:Inv X pins U H s) (k:∀ b u,s.heap.get? b=some u->h'.get? b=some u) (h:s.heap.objs.size<=a) (n:dF X.prog X.w (upd H a o) h' a o) :
   Inv X pins U (upd H a o) { s with heap:=h',toks:=t' }:=I.un (Un.laid k h (I.cM.fresh h)) (I.cM.laid k h n)
theorem Inv.write {x e:ak} {t':Nat} (I:Inv X pins U H s) (m:Qa (H x)) (h:e=x\/H e=some (.own x)) (k:∀ b u,b≠e->s.heap.get? b=some u->h'.get? b=some u) (D:∃ u,h'.get? e=some u) (n:dF X.prog X.w (upd H x o) h' x o):Inv X pins U (upd H x o) { s with heap:=h',toks:=t' }:=I.un (Un.write m h k D) (I.cM.write m h k D n)
def Inv.CQ {L:List (ak×Obj)} (I:Inv X pins U H s) (h:∀ p∈L,s.heap.get? p.1=some p.2/\H p.1=none/\p.1≠X.env.locals/\p.1∉X.fs/\∀ v,p.2.data ≠ .cell v):Inv X L U H s :=
 ⟨I.ok,I.os,I.bare,I.base,I.loc,I.cell,I.free,I.kP,λ p a=>(aar.mp a).elim (λ z=>I.pin p (aa8 _ z)) (h p),I.cM,I.len⟩
def Ab {N:cx} (h:N.Nodup) {i j:Nat} {x:Str} (a:N[i]?=some x) (b:N[j]?=some x):i=j:=by
 obtain ⟨H,e⟩:=Ba.mp a
 obtain ⟨c,E⟩:=Ba.mp b
 exact (adv h).mp (e.trans E.symm)
def wA {M:Model} {A:Around} {E:av->Shared->Prop} {i:Nat} {x:Str} {u:av} {Q:Unit->Shared->Prop} (I:Inv X pins U H s) (hN:X.N.Nodup) (L:X.N[i]?=some x) (B:Loc X.env.scope x) (r:RelV v u) (h:∀ s',Inv X pins (U.set i (some v)) H s'->(∃ a,Heap.SameBut a s.heap s'.heap/\(a=X.env.locals\/X.env.cells.lookup x=some a))->Q () s') (hf:QS X x:=by first|exact .inl rfl|exact .inr rfl|assumption):wpAny M A (storeName X.env x u) Q E s:=by
 obtain ⟨m,hn,hl⟩:=id I.loc
 have Vt:(X.env.scope.kind == .class || (X.env.scope.kind == .module && X.env.locals != X.env.globals))=false:=by rw [I.ok.kind];rfl
 have D:i<U.length:=by rw [I.len];exact (Ba.mp L).1
 have T:=I.Nl
 have t:∀ {a:ak} {h':aU},(∃ o,s.heap.get? a=some o/\H a=none)->Heap.SameBut a s.heap h'->mQ X.prog X.w H h':=λ {a h'} ha f b ob e=>by
   obtain ⟨Z,Z,jQ⟩:=ha
   refine (I.cM b ob e).dI (λ c W l q=>(f.2 c ?_).trans q) (λ Z q=>q) λ Z Z q=>q
   rintro rfl
   rcases l with rfl|l
   . rw [jQ] at e;cases e
   . rw [jQ] at l;cases l
 rcases B with F|F
 .
  refine wpAny_storeName_local F hn (λ h' ab f=>?_) Vt
  obtain ⟨oL,Z,Z,ad,Z⟩:=id hn
  refine h _ ⟨I.ok,I.os,I.bare,⟨λ b o e n G B=>?_,λ b o e n G B=>?_,I.base.free,λ b o e B=>?_,I.base.sx,I.base.qy,I.base.sE⟩,⟨_,ab,λ j y v' g C Y=>?_⟩,λ y c e=>?_,I.free,I.kP,λ p hp=>?_,t ⟨oL,ad,I.free⟩ f,by simpa using I.len⟩ ⟨_,f,.inl rfl⟩
  . exact (f.2 b (aaL (aax (aat e) I.ok.above))).trans (I.base.keep b o e n G B)
  . obtain ⟨sl,g⟩:=I.base.slot b o e n G B
    exact ⟨sl,(f.2 b (aaL (aax (aat e) I.ok.above))).trans g⟩
  . obtain ⟨o',g⟩:=I.base.there b o e B
    exact ⟨o',(f.2 b (aaL (aax (aat e) I.ok.above))).trans g⟩
  .
   by_cases J:j=i
   . subst J
     rw [L] at g;cases g
     rw [acd D] at C
     cases C
     exact ⟨u,r,.inl ⟨F,by simp⟩⟩
   .
    rw [acp (acv J)] at C
    obtain ⟨u',r',q⟩:=hl j y v' g C Y
    refine ⟨u',r',?_⟩
    rcases q with ⟨k,e⟩|⟨k,c,e,z⟩
    . refine .inl ⟨k,?_⟩
      have:y≠x:=λ e=>J (Ab hN g (e ▸ L))
      simp [this,e]
    . exact .inr ⟨k,c,e,z.sameBut f (T y c e)⟩
  . obtain ⟨W,z⟩:=I.cell y c e
    exact ⟨W,z.sameBut f (T y c e)⟩
  . obtain ⟨e,n,S,nf,d⟩:=I.pin p hp
    exact ⟨(f.2 p.1 S).trans e,n,S,nf,d⟩
 .
  have V:X.fn x=true:=by
    rcases hf with z|z
    . exact z
    . rw [z] at F;cases F
  obtain ⟨c,l⟩:=I.ok.has x (.inl F)
  obtain ⟨W,z⟩:=I.cell x c l
  refine wpAny_storeName_cell I.ok.kind F l z (λ h' yh f=>?_)
  obtain ⟨oc,O,XH⟩:=id z
  refine h { s with heap:=h' } ⟨I.ok,I.os,I.bare,⟨λ b o e n G B=>?_,λ b o e n G B=>?_,I.base.free,λ b o e B=>?_,I.base.sx,I.base.qy,I.base.sE⟩,⟨m,hn.sameBut f (acv (T x c l)),λ j y v' g C Y=>?_⟩,λ y R e=>?_,I.free,I.kP,λ p hp=>?_,t ⟨oc,O,I.kP x c l⟩ f,by simpa using I.len⟩ ⟨c,f,.inr l⟩
  . exact (f.2 b (aaL (aax (aat e) (I.ok.OC x c V l)))).trans (I.base.keep b o e n G B)
  . obtain ⟨sl,g⟩:=I.base.slot b o e n G B
    exact ⟨sl,(f.2 b (aaL (aax (aat e) (I.ok.OC x c V l)))).trans g⟩
  . obtain ⟨o',g⟩:=I.base.there b o e B
    exact ⟨o',(f.2 b (aaL (aax (aat e) (I.ok.OC x c V l)))).trans g⟩
  .
   by_cases J:j=i
   . subst J
     rw [L] at g;cases g
     rw [acd D] at C
     cases C
     exact ⟨u,r,.inr ⟨.inl F,c,l,yh⟩⟩
   .
    rw [acp (acv J)] at C
    obtain ⟨u',r',q⟩:=hl j y v' g C Y
    refine ⟨u',r',?_⟩
    rcases q with q|⟨k,R,e,z'⟩
    . exact .inl q
    . refine .inr ⟨k,R,e,z'.sameBut f ?_⟩
      rintro rfl
      exact J (Ab hN g (I.ok.inj _ _ _ e l ▸ L))
  . by_cases K:R=c
    . subst K;exact ⟨_,yh⟩
    . obtain ⟨w2,z2⟩:=I.cell y R e
      exact ⟨w2,z2.sameBut f K⟩
  .
   obtain ⟨e,n,S,nf,d⟩:=I.pin p hp
   refine ⟨(f.2 p.1 ?_).trans e,n,S,nf,d⟩
   intro q
   rw [q,O] at e
   have q':oc=p.2:=aap e
   exact d W (by rw [<- q'];exact XH)
def uO {M:Model} {A:Around} {E:av->Shared->Prop} {i:Nat} {x:Str} {u:av} {Q:Unit->Shared->Prop} (I:Inv X pins U H s) (b:X.N.Nodup) (d:X.N[i]?=some x) (e:Loc X.env.scope x) (r:RelV v u) (h:∀ s',Inv X pins (U.set i (some v)) H s'->Q () s') (c:QS X x:=by first|exact .inl rfl|exact .inr rfl|assumption):wpAny M A (storeName X.env x u) Q E s :=
 wA I b d e r (λ s' a Z=>h s' a) c
def Inv.Lg {ch:bw} (I:Inv X pins U H s) (a:s'.os=s.os) (u:Un (kN X.stack) ch H H' s.heap s'.heap) (C:mQ X.prog X.w H' s'.heap) (h:AllBare s'.gens) (f:∀ b∈ch,(b∈X.ex\/X.s₀.heap.objs.size<=b)/\b≠X.env.locals/\(∀ x c,X.env.cells.lookup x=some c->c≠b)/\∀ p∈X.pn++pins,p.1≠b):Inv X pins U H' s':=by
 obtain ⟨h',g,d,t',o⟩:=s'
 have e:o=s.os:=a
 subst e
 exact I.call (g':=g) (t':=t') (d':=d) u C h f
end
abbrev XK:=av->Option ak->Hp->Prop
abbrev St:=List (eE)
abbrev VK:=V->Hp->Prop
abbrev TE:=St->Hp->VK->Prop
abbrev TT:=St->Hp->(Bool->Hp->Prop)->Prop
abbrev TA:=St->Hp->(ay->Hp->Prop)->Prop
structure Ends where
 nx:St->Hp->Prop
 rt:VK
 bk:St->Hp->Prop:=λ _ _=>False
 ct:St->Hp->Prop:=λ _ _=>False
abbrev TS:=Ends->St->Hp->Prop
inductive EP (X:Cx) (pins:List (ak×Obj)) (U:St) (Q:VK) (u:av) (s':Shared):Prop|mk (v:V) (H':Hp) (_:Inv X pins U H' s') (_:RelV v u) (_:Q v H')
def TP (X:Cx) (p:List (ak×Obj)) (U:St) (Q:Bool->Hp->Prop) (b:Bool) (s':Shared):Prop:=∃ H,Inv X p U H s'/\Q b H
inductive AP (X:Cx) (pins:List (ak×Obj)) (U:St) (Q:ay->Hp->Prop) (us:aZ) (s':Shared):Prop|mk (vs:ay) (H':Hp) (_:Inv X pins U H' s') (_:Vals vs us) (_:Q vs H')
def SP (X:Cx) (p:List (ak×Obj)) (D:Ends) (f:Flow) (s':Shared):Prop :=
 match f with
 | .next=>∃ a H,Inv X p a H s'/\D.nx a H
 | .brk=>∃ a H,Inv X p a H s'/\D.bk a H
 | .cont=>∃ a H,Inv X p a H s'/\D.ct a H
 | .ret u=>∃ v a H,Inv X p a H s'/\RelV v u/\D.rt v H
def PE (X:Cx) (e:Expr) (t:TE):Prop :=
 ∀ (p:List (ak×Obj)) (s:Shared) (U:St) (H:Hp) (Q:VK),Inv X p U H s->t U H Q->wpAny (model X.prog X.w) X.A (eval e X.env) (EP X p U Q) X.xe s
def PT (X:Cx) (e:Expr) (t:TT):Prop :=
 ∀ (p:List (ak×Obj)) (s:Shared) (U:St) (H:Hp) (Q:Bool->Hp->Prop),Inv X p U H s->t U H Q->wpAny (model X.prog X.w) X.A (isTrue e X.env (eval e X.env)) (TP X p U Q) X.xe s
def PW (X:Cx) (e:Expr) (t:TT):Prop :=
 ∀ (W:Sem av) (p:List (ak×Obj)) (s:Shared) (U:St) (H:Hp) (Q:Bool->Hp->Prop),Inv X p U H s->t U H Q->wpAny (model X.prog X.w) X.A (isTrue e X.env W) (TP X p U Q) X.xe s
def PW.pt {X:Cx} {e:Expr} {t:TT} (h:PW X e t):PT X e t:=h _
def PA (X:Cx) (es:List Expr) (t:TA):Prop :=
 ∀ (a:Pos) (p:List (ak×Obj)) (s:Shared) (U:St) (H:Hp) (Q:ay->Hp->Prop),Inv X p U H s->t U H Q->wpAny (model X.prog X.w) X.A (spliced (backTo a (starEach es X.env))) (AP X p U Q) X.xe s
def PS (X:Cx) (st:Stmt) (t:TS):Prop :=
 ∀ (p:List (ak×Obj)) (s:Shared) (U:St) (H:Hp) (D:Ends),Inv X p U H s->t D U H->wpAny (model X.prog X.w) X.A (exec st X.env) (SP X p D) X.xe s
def tF (X:Cx) (st:List Stmt) (t:TS):Prop :=
 ∀ (p:List (ak×Obj)) (s:Shared) (U:St) (H:Hp) (D:Ends),Inv X p U H s->t D U H->wpAny (model X.prog X.w) X.A (execs st X.env) (SP X p D) X.xe s
def cR {b:Type} {t:Sem b} {Q q:b->Shared->Prop} {M:Model} {A:Around} {E:av->Shared->Prop} {s:Shared} (h:wpAny M A t Q E s) (H:∀ a s,Q a s->q a s):wpAny M A t q E s:=aba h H λ Z Z x=>x
section
variable {X:Cx}
inductive zA (i:Nat) (U:St) (H:Hp) (Q:VK):Prop|mk (v:_) (_:U[i]?=some (some v)) (_:Q v H)
def tC (v:V):TE:=λ Z H Q=>Q v H
def Mb {i:Nat} {x:Str} {d:Pos} (k:X.N[i]?=some x) (t:RS X.env.scope x) (b:wm x:=by decide) (V:(x == ("__classdict__" : Str))=false:=by decide):PE X (.Name x d) (zA i):=by
 intro p s U H Q I h
 obtain ⟨v,e,h⟩:=h
 obtain ⟨m,q,n⟩:=I.loc
 obtain ⟨u,r,l⟩:=n i x v k e t
 have f:EP X p U Q u s:=⟨v,H,I,r,h⟩
 rcases l with ⟨a,o⟩|⟨a,c,j,g⟩
 . exact wpAny_Name (wpAny_loadName_local I.ok.kind a q o f) b
 . rcases a with a|a
   . exact wpAny_Name (wpAny_loadName_cell I.ok.kind a j g f) b
   . exact wpAny_Name (wpAny_loadName_free I.ok.kind a j g f V) b
def ai {i j p}:PE X (.Constant (.int i) j p) (tC (.int i)):=λ Z Z Z H Z I h=>wpAny_Constant_int ⟨.int i,H,I.tok _,⟨_,rfl⟩,h⟩
def jv {b j p}:PE X (.Constant (.bool b) j p) (tC (.bl b)):=λ Z Z Z H Z I h=>Constant_bool ⟨.bl b,H,I,rfl,h⟩
def cG {j p}:PE X (.Constant .none j p) (tC .cB):=λ Z Z Z H Z I h=>Constant_none ⟨.cB,H,I,rfl,h⟩
def Nz {x j p}:PE X (.Constant (.str x) j p) (tC (.str x)):=λ Z Z Z H Z I h=>Calls.Constant_str ⟨.str x,H,I.tok _,⟨_,rfl⟩,h⟩
def Gl (X:Cx) (x:Str):Prop:=X.env.kindOf x=some .globalImplicit
def kH {E:av->Shared->Prop} {p:List (ak×Obj)} {s:Shared} {x:Str} {u:av} {a:Pos} {Q:av->Shared->Prop} (I:Inv X p U H s) (c:Gl X x) (d:X.mg x=some u) (h:Q u s) (b:wm x:=by decide):wpAny (model X.prog X.w) X.A (eval (.Name x a) X.env) Q E s :=
 aea I.ok.kind c (Calls.loadGlobal_global (by rw [I.ok.glob];exact I.mod.glob.keeps I.bk) d h) b
def io {E:av->Shared->Prop} {p:List (ak×Obj)} {s:Shared} {x:Str} {u:av} {a:Pos} {Q:av->Shared->Prop} (I:Inv X p U H s) (e:Gl X x) (f:X.mg x=none) (i:bootBuiltins x=some u) (h:Q u s) (g:x ≠ "__name__":=by decide) (d:wm x:=by decide):wpAny (model X.prog X.w) X.A (eval (.Name x a) X.env) Q E s:=by
 obtain ⟨m,b,c⟩:=I.mod.blt
 exact aea I.ok.kind e (Calls.loadGlobal_builtin (by rw [I.ok.glob];exact I.mod.glob.keeps I.bk) f (by rw [I.ok.blt];exact b.keeps I.bk) ((c x g).trans i) h) d
def hJ {x:Str} {u:av} {p:Pos} (b:Gl X x) (c:X.mg x=some u) (r:RelV v u) (a:wm x:=by decide):PE X (.Name x p) (tC v) :=
 λ Z Z Z H Z I h=>kH I b c ⟨v,H,I,r,h⟩ a
def tu {x:Str} {u:av} {p:Pos} (b:Gl X x) (c:X.mg x=none) (e:bootBuiltins x=some u) (r:RelV v u) (d:x ≠ "__name__":=by decide) (a:wm x:=by decide):PE X (.Name x p) (tC v) :=
 λ Z Z Z H Z I h=>io I b c e ⟨v,H,I,r,h⟩ d a
variable {a b:Expr} {ta tb:TE} {pos:Pos}
def tB (t:TE):TT:=λ U H Q=>t U H λ x h=>∃ c,x = .bl c/\Q c h
def cz {e:Expr} {t:TE} (h:PE X e t) (b:∀ w,isTrue e X.env w=(do let v <- w;standAt e.pos;holding [v] (truthy v)):=by intro Z;rfl):PT X e (tB t):=by
 intro p s U H Q I c
 refine isTrue_plain (cR (h p s U H _ I c) λ v S ⟨x,a,i,r,f⟩=>?_) (b _)
 obtain ⟨d,rfl,q⟩:=f
 cases r
 exact abr ⟨a,i,q⟩
variable {tA Uk:TT} {rest:List Expr}
def Zb (t u:TT):TT:=λ U H Q=>t U H λ c h=>if c=true then u U h Q else Q false h
def tOr (t u:TT):TT:=λ U H Q=>t U H λ c h=>if c=true then Q true h else u U h Q
def W2 (t:TT):TT:=λ U H Q=>t U H λ c h=>Q (!c) h
def sY (b:PT X a tA):PW X (.BoolOp .And [a] pos) tA:=by
 intro w p s U H Q I h
 refine isTrue_and (cR (b p s U H Q I h) λ c S e=>?_)
 cases c with
 | true=>exact isTrue_and_nil e
 | false=>exact e
def nP (b:PT X a tA):PW X (.BoolOp .Or [a] pos) tA:=by
 intro w p s U H Q I h
 refine isTrue_or (cR (b p s U H Q I h) λ c S e=>?_)
 cases c with
 | false=>exact isTrue_or_nil e
 | true=>exact e
def xC (e:PT X a tA) (f:PW X (.BoolOp .And (b::rest) pos) Uk):PW X (.BoolOp .And (a::b::rest) pos) (Zb tA Uk):=by
 intro w p s U H Q I h
 refine isTrue_and (cR (e p s U H _ I h) λ c S ⟨d,i,q⟩=>?_)
 cases c with
 | true=>exact f w p S U d Q i q
 | false=>exact ⟨d,i,q⟩
def nM (e:PT X a tA) (f:PW X (.BoolOp .Or (b::rest) pos) Uk):PW X (.BoolOp .Or (a::b::rest) pos) (tOr tA Uk):=by
 intro w p s U H Q I h
 refine isTrue_or (cR (e p s U H _ I h) λ c S ⟨d,i,q⟩=>?_)
 cases c with
 | true=>exact ⟨d,i,q⟩
 | false=>exact f w p S U d Q i q
def dG (d:PT X a tA):PT X (.UnaryOp .Not a pos) (W2 tA):=by
 intro p s U H Q I h
 exact isTrue_not (d p s U H (λ c b=>Q (!c) b) I h)
def Ih (t tb:TE):TE:=λ U H Q=>t U H λ x h=>∃ c,x = .bl c/\if c=true then tb U h Q else Q (.bl false) h
def Zh (t tb:TE):TE:=λ U H Q=>t U H λ x h=>∃ c,x = .bl c/\if c=true then Q (.bl true) h else tb U h Q
def QM (t:TE):TE:=λ U H Q=>t U H λ x h=>∃ c,x = .bl c/\Q (.bl (!c)) h
def oC {o} {t:TE} (h:PE X a t):PE X (.BoolOp o [a] pos) t:=λ p s U H Q I b=>BoolOp_one (h p s U H Q I b)
def rm (e:PE X a ta) (f:PE X (.BoolOp .And (b::rest) pos) tb):PE X (.BoolOp .And (a::b::rest) pos) (Ih ta tb):=by
 intro p s U H Q I h
 refine BoolOp_and (cR (e p s U H _ I h) λ v S ⟨x,d,i,r,q⟩=>?_)
 obtain ⟨c,rfl,q⟩:=q
 cases r
 refine abr ?_
 cases c with
 | true=>exact f p S U d Q i q
 | false=>exact ⟨.bl false,d,i,rfl,q⟩
def K1 (e:PE X a ta) (f:PE X (.BoolOp .Or (b::rest) pos) tb):PE X (.BoolOp .Or (a::b::rest) pos) (Zh ta tb):=by
 intro p s U H Q I h
 refine BoolOp_or (cR (e p s U H _ I h) λ v S ⟨x,d,i,r,q⟩=>?_)
 obtain ⟨c,rfl,q⟩:=q
 cases r
 refine abr ?_
 cases c with
 | false=>exact f p S U d Q i q
 | true=>exact ⟨.bl true,d,i,rfl,q⟩
def rF (d:PE X a ta):PE X (.UnaryOp .Not a pos) (QM ta):=by
 intro p s U H Q I h
 refine UnaryOp_ (cR (d p s U H _ I h) λ v S ⟨x,b,i,r,q⟩=>?_)
 obtain ⟨c,rfl,q⟩:=q
 cases r
 exact not_of (abr ⟨.bl (!c),b,i,rfl,q⟩)
def tIf (t:TT) (T tb:TE):TE:=λ U H Q=>t U H λ c h=>if c=true then T U h Q else tb U h Q
def jf {c:Expr} (j:PT X c tA) (f:PE X a ta) (g:PE X b tb):PE X (.IfExp c a b pos) (tIf tA ta tb):=by
 intro p s U H Q I h
 refine wpAny_IfExp (cR (j p s U H _ I h) λ d S ⟨e,i,q⟩=>?_)
 cases d with
 | true=>exact f p S U e Q i q
 | false=>exact g p S U e Q i q
end
def bh (K:aA) (H:Hp) (a:ak) (xs:ay):Prop :=
 Rd H a (.lst xs) \/
   ∃ (o:Obj) (b:Array av) (n:Nat),K.lookup a=some o/\o.cls = .type "list"/\o.dict=none/\o.data = .seq b n/\b.size<=sizeLine/\Vals xs b.toList
def bR (K:aA) (H:Hp) (a:ak) (xs:ay):Prop :=
 Rd H a (.tup xs) \/
   ∃ (o:Obj) (b:Array av) (n:Nat),K.lookup a=some o/\o.cls = .type "tuple"/\o.data = .seq b n/\b.size<=sizeLine/\Vals xs b.toList
def YH:av->eE
 | .none=>some .cB
 | .bool b=>some (.bl b)
 | .int i _=>some (.int i)
 | .str x _=>some (.str x)
 | .bytes b _=>some (.Ey b)
 | .float b _=>some (.LB b)
 | .ref a=>some (.ref a)
 | .type n=>some (.ty n)
 | _=>none
def RelV.abs {x:V} {u:av} (r:RelV x u):YH u=some x:=by
 cases x with
 | cB=>cases r;rfl
 | bl _=>cases r;rfl
 | int _=>obtain ⟨t,rfl⟩:=r;rfl
 | str _=>obtain ⟨t,rfl⟩:=r;rfl
 | Ey _=>obtain ⟨t,rfl⟩:=r;rfl
 | LB _=>obtain ⟨t,rfl⟩:=r;rfl
 | ref _=>cases r;rfl
 | ty _=>cases r;rfl
def RelV.inj {x y:V} {u:av} (r:RelV x u) (q:RelV y u):x=y:=aap (r.abs.symm.trans q.abs)
theorem Vals.inj:∀ {xs ys:ay} {us:aZ},Vals xs us->Vals ys us->xs=ys
 | _,_,_,.nil,.nil=>rfl
 | _,_,_,.cons r t,.cons R t'=>by rw [r.inj R,Vals.inj t t']
section
variable {X:Cx} {pins:List (ak×Obj)} {U:St} {H:Hp} {s:Shared} {a:ak} {xs ys:ay}
def bh.of {K:aA} (h:H a=some (.lst xs)):bh K H a xs:=.inl (.inl h)
def bR.of {K:aA} (h:H a=some (.tup xs)):bR K H a xs:=.inl (.inl h)
def Inv.list (I:Inv X pins U H s) (h:bh X.K H a xs):∃ b:aZ,Vals xs b/\PlainL s.heap a b.toArray/\xs.length<=sizeLine:=by
 rcases h with h|⟨o,b,n,f,c,d,g,i,r⟩
 . obtain ⟨z,b,n,r,e⟩:=h.ok I.cM
   exact ⟨b,r,⟨_,n,e,rfl,rfl,rfl⟩,z⟩
 .
  refine ⟨b.toList,r,⟨o,n,I.oP a o f,c,d,by simpa using g⟩,?_⟩
  have e:=r.length
  simp only [ab6] at e
  lia
def Inv.tuple (I:Inv X pins U H s) (h:bR X.K H a xs):∃ b:aZ,Vals xs b/\IsTup s.heap a b.toArray/\xs.length<=sizeLine:=by
 rcases h with h|⟨o,b,n,d,c,f,g,r⟩
 . obtain ⟨z,b,r,p⟩:=h.ok I.cM
   exact ⟨b,r,p,z⟩
 .
  refine ⟨b.toList,r,⟨o,I.oP a o d,c,n,by simpa using f⟩,?_⟩
  have e:=r.length
  simp only [ab6] at e
  lia
def Inv.oS (I:Inv X pins U H s) (h:bh X.K H a xs) (h':bh X.K H a ys):xs=ys:=by
 obtain ⟨b,r,⟨o,n,e,Z,Z,d⟩,Z⟩:=I.list h
 obtain ⟨i,R,⟨O,N,E,Z,Z,D⟩,Z⟩:=I.list h'
 rw [e] at E;cases E
 rw [d] at D
 injection D with d1 _
 have:b=i:=by simpa using abo Array.toList d1
 subst this
 exact r.inj R
def Inv.DV (I:Inv X pins U H s) (h:bR X.K H a xs) (h':bR X.K H a ys):xs=ys:=by
 obtain ⟨b,r,⟨o,e,Z,n,d⟩,Z⟩:=I.tuple h
 obtain ⟨i,R,⟨O,E,Z,N,D⟩,Z⟩:=I.tuple h'
 rw [e] at E;cases E
 rw [d] at D
 injection D with d1 _
 have:b=i:=by simpa using abo Array.toList d1
 subst this
 exact r.inj R
end
abbrev Cx.ng (X:Cx) (E:av->Shared->Prop):Cx:={ X with xe:=E }
abbrev Cx.DY (X:Cx):Cx:=X.ng λ _ _=>False
theorem Cx.Ok.ng {X:Cx} (ok:X.Ok) (E:av->Shared->Prop):(X.ng E).Ok :=
 ⟨ok.mod,ok.kind,ok.glob,ok.blt,ok.above,ok.inj,ok.has,ok.OC,ok.hd,ok.frames,ok.Ph,ok.We,ok.bs,ok.KA,ok.EK,ok.FP,ok.oB,ok.Kz⟩
def Cx.Ok.kj {X:Cx} {E:av->Shared->Prop} (ok:(X.ng E).Ok):X.Ok :=
 ⟨ok.mod,ok.kind,ok.glob,ok.blt,ok.above,ok.inj,ok.has,ok.OC,ok.hd,ok.frames,ok.Ph,ok.We,ok.bs,ok.KA,ok.EK,ok.FP,ok.oB,ok.Kz⟩
section
variable {X:Cx} {pins:List (ak×Obj)} {U:St} {H:Hp} {s:Shared} {E:av->Shared->Prop}
theorem Inv.ng (I:Inv X pins U H s) (E:av->Shared->Prop):Inv (X.ng E) pins U H s:=⟨I.ok.ng E,I.os,I.bare,I.base,I.loc,I.cell,I.free,I.kP,I.pin,I.cM,I.len⟩
theorem Inv.kj (I:Inv (X.ng E) pins U H s):Inv X pins U H s:=⟨I.ok.kj,I.os,I.bare,I.base,I.loc,I.cell,I.free,I.kP,I.pin,I.cM,I.len⟩
theorem SP.kj {D:Ends} {f:Flow} (h:SP (X.ng E) pins D f s'):SP X pins D f s':=by
 cases f with
 | next=>obtain ⟨a,H,I,q⟩:=h;exact ⟨a,H,I.kj,q⟩
 | brk=>obtain ⟨a,H,I,q⟩:=h;exact ⟨a,H,I.kj,q⟩
 | cont=>obtain ⟨a,H,I,q⟩:=h;exact ⟨a,H,I.kj,q⟩
 | ret u=>obtain ⟨v,a,H,I,r,q⟩:=h;exact ⟨v,a,H,I.kj,r,q⟩
theorem tF.DY {st:List Stmt} {t:TS} (h:tF X.DY st t):tF X st t:=λ pins s U H D I a =>
 aba (h pins s U H D (I.ng _) a) (λ Z Z q=>q.kj) λ Z Z z=>False.elim z
end
section
variable {X:Cx} {st:Stmt} {rest:List Stmt} {t u:TS} {e:Expr} {te:TE} {pos:Pos}
def SH:TS:=λ D U H=>D.nx U H
def aY (t u:TS):TS:=λ D U H=>t { D with nx:=u D } U H
def aI:tF X [] SH:=λ Z Z U H Z I h=>aci ⟨U,H,I,h⟩
def ac (c:PS X st t) (d:tF X rest u):tF X (st::rest) (aY t u):=by
 intro p s U H D I h
 refine adS (cR (c p s U H { D with nx:=u D } I h) λ f S q=>?_)
 cases f with
 | next =>
   obtain ⟨a,b,i,q⟩:=q
   exact d p S a b D i q
 | ret v=>exact q
 | brk=>exact q
 | cont=>exact q
def am (a:PS X st t):tF X [st] t:=by
 intro p s U H D I h
 refine adS (cR (a p s U H D I h) λ f S q=>?_)
 cases f with
 | next=>exact aci q
 | ret v=>exact q
 | brk=>exact q
 | cont=>exact q
def Inv.quiet {p:List (ak×Obj)} {s:Shared} (I:Inv X p U H s):interactive X.env=false:=by simp [interactive,I.ok.kind]
def Pm (t:TE):TS:=λ D U H=>t U H λ Z h=>D.nx U h
def bp (b:PE X e te) (c:swapsWith e none pos.line X.env=pure false:=by rfl):PS X (.Expr e pos) (Pm te):=by
 intro p s U H D I h
 exact wpAny_Expr_any (cR (b p s U H _ I h) λ v S ⟨x,a,i,r,q⟩=>⟨U,a,i,q⟩) I.quiet c
def Vi (t:TE):TS:=λ D U H=>t U H D.rt
def aG (b:PE X e te):PS X (.Return (some e) pos) (Vi te):=by
 intro p s U H D I h
 exact wpAny_Return_some (cR (b p s U H _ I h) λ v S ⟨x,a,i,r,q⟩=>⟨x,U,a,i,r,q⟩)
def Vw (c:TT) (t u:TS):TS:=λ D U H=>c U H λ b h=>if b=true then t D U h else u D U h
def br {c:Expr} {a b:List Stmt} {T:TT} (j:PT X c T) (f:tF X a t) (g:tF X b u):PS X (.If c a b pos) (Vw T t u):=by
 intro p s U H D I h
 refine wpAny_If (cR (j p s U H _ I h) λ d S ⟨e,i,q⟩=>?_)
 cases d with
 | true=>exact f p S U e D i q
 | false=>exact g p S U e D i q
def Mc:TS:=λ Z Z Z=>False
def ck:PS X st Mc:=λ Z Z Z Z Z Z h=>h.elim
end
abbrev TG:=V->St->Hp->(St->Hp->Prop)->Prop
abbrev NZ:=ay->St->Hp->(St->Hp->Prop)->Prop
def PG (X:Cx) (T:Expr) (t:TG):Prop :=
 ∀ (p:List (ak×Obj)) (s:Shared) (U:St) (H:Hp) (v:V) (u:av) (Q:St->Hp->Prop),Inv X p U H s->RelV v u->t v U H Q ->
   wpAny (model X.prog X.w) X.A (assign T X.env u) (λ Z s'=>∃ a h,Inv X p a h s'/\Q a h) X.xe s
def On (X:Cx) (T:List Expr) (t:NZ):Prop :=
 ∀ (p:List (ak×Obj)) (s:Shared) (U:St) (H:Hp) (v:ay) (u:aZ) (Q:St->Hp->Prop),Inv X p U H s->Vals v u->t v U H Q ->
   wpAny (model X.prog X.w) X.A (assignInOrder ((assignEach T X.env).map (·.2)) u) (λ Z s'=>∃ a h,Inv X p a h s'/\Q a h) X.xe s
abbrev FY:=V->V->V->Hp->(Hp->Prop)->Prop
def Nd (X:Cx) (t:FY):Prop :=
 ∀ (p:List (ak×Obj)) (s:Shared) (U:St) (H:Hp) (o i v:V) (O I u:av) (Q:Hp->Prop),Inv X p U H s->RelV o O->RelV i I->RelV v u->t o i v H Q ->
   wpAny (model X.prog X.w) X.A (setItem O I u) (λ Z s'=>∃ h,Inv X p U h s'/\Q h) X.xe s
abbrev Ox:=V->V->Hp->VK->Prop
def TC (X:Cx) (o:Operator) (t:Ox):Prop :=
 ∀ (p:List (ak×Obj)) (s:Shared) (U:St) (H:Hp) (x y:V) (v u:av) (Q:VK),Inv X p U H s->RelV x v->RelV y u->t x y H Q ->
   wpAny (model X.prog X.w) X.A (inplaceOp o v u) (EP X p U Q) X.xe s
section
variable {X:Cx} {pos:Pos}
def uD (i:Nat):TG:=λ v U H Q=>Q (U.set i (some v)) H
def Da {i:Nat} {x:Str} (b:X.N.Nodup) (d:X.N[i]?=some x) (e:Loc X.env.scope x) (c:QS X x:=by first|exact .inl rfl|exact .inr rfl|assumption):PG X (.Name x pos) (uD i):=by
 intro p s U H v u Q I r h
 exact wpAny_assign_Name (uO I b d e r (λ s' a=>⟨_,H,a,h⟩) c)
def WA:NZ:=λ v U H Q=>v=[]/\Q U H
inductive Sf (t:TG) (u:NZ) (vs:ay) (U:St) (H:Hp) (Q:(St->Hp->Prop)):Prop|mk (v r:_) (_:vs=v::r) (_:t v U H λ σ' H'=>u r σ' H' Q)
def dD:On X [] WA:=by
 intro p s U H v u Q I r h
 obtain ⟨e,h⟩:=h
 subst e
 cases r
 exact assignInOrder_nil ⟨U,H,I,h⟩
def aO {e:Expr} {t:TG} {u:NZ} (c:PG X e t) (d:On X es u) (f:(assignEach (e::es) X.env).map (·.2)=assign e X.env::(assignEach es X.env).map (·.2):=by rfl):On X (e::es) (Sf t u):=by
 intro p s U H j g Q I r h
 obtain ⟨v,V,E,h⟩:=h
 subst E
 cases r with
 | cons r R =>
   rw [f]
   refine assignInOrder_cons (cR (c p s U H _ _ _ I r h) λ Z S ⟨a,b,i,q⟩=>?_)
   exact d p S a b _ _ Q i R q
inductive Pa (K:aA) (n:Nat) (t:NZ) (v:V) (U:St) (H:Hp) (Q:(St->Hp->Prop)):Prop|mk (a xs:_) (_:v = .ref a) (_:bR K H a xs) (_:xs.length=n) (_:t xs U H Q)
def Ma {k:Nat} {t:NZ} {n:Nat} (f:X.calm=true) (h:On X es t) (j:(assignEach es X.env).length=n:=by rfl) (J:(assignEach es X.env).findIdx? (·.1)=none:=by rfl):PG X (.Tuple es k pos) (Pa X.K n t):=by
 intro p s U H v u Q I r c
 obtain ⟨a,x,E,l,g,c⟩:=c
 subst E
 cases r
 obtain ⟨B,R,m,w⟩:=I.tuple l
 refine assign_Tuple_tuple (I.ok.hd f) m (by simp [j,<- g,R.length]) J λ d q=>?_
 have i:Inv X p U H { s with heap:=d }:=I.kept (t':=s.toks) λ b o e=>q b o (aaL (aat e)) e
 exact h p _ U H x _ Q i (by simpa using R) c
def US (c T:TE) (t:FY):TG:=λ v U H Q=>c U H λ o h=>T U h λ i a=>t o i v a λ b=>Q U b
def qT {o i:Expr} {T:TE} {t:FY} (l:PE X o T) (k:PE X i ti) (m:Nd X t) (j:∀ v,assign (.Subscript o i pos) X.env v=(do
     let O <- holding [v] (eval o X.env)
     let a <- holding [v,O] (eval i X.env)
     standAt pos
     holding [v,O,a] (setItem O a v)
     release [v,O,a] []):=by intro Z;rfl):PG X (.Subscript o i pos) (US T ti t):=by
 intro p s U H v u Q I r h
 rw [j]
 refine aaa (abG (cR (l p s U H _ I h) λ O S ⟨x,b,e,R,q⟩=>?_))
 refine aaa (abG (cR (k p S U b _ e q) λ a A ⟨y,c,f,z,n⟩=>?_))
 refine aaa (adz (aaa (abG (cR (m p A U c x y v O a u _ f R z r n) λ Z B ⟨d,g,w⟩=>?_))))
 exact wpAny_release ⟨U,d,g,w⟩
def HG (t:TE) (g:TG):TS:=λ D U H=>t U H λ x h=>g x U h D.nx
def iy {e:Expr} (c:PE X e te) (d:PG X tg g) (f:swapsWithSole [tg] e pos.line X.env=pure false:=by rfl) (hw:swappedStores [tg] e X.env=pure none:=by rfl) (b:(assignEach [tg] X.env).map (·.2)=[assign tg X.env]:=by rfl):PS X (.Assign [tg] e pos) (HG te g):=by
 intro p s U H D I h
 refine wpAny_Assign_stores (cR (c p s U H _ I h) λ v S ⟨x,a,i,r,Q⟩=>?_) f hw
 rw [b]
 exact cR (d p S U a x v _ i r Q) λ Z j q=>q
def Ny {i:Nat} {x:Str} {e:Expr} (d:X.N.Nodup) (j:X.N[i]?=some x) (l:Loc X.env.scope x) (f:PE X e te) (k:swapsWith e (some (.Name x pos')) pos.line X.env=pure false:=by rfl) (g:QS X x:=by first|exact .inl rfl|exact .inr rfl|assumption) :
   PS X (.Assign [.Name x pos'] e pos) (HG te (uD i)):=by
 intro p s U H D I h
 refine wpAny_Assign_Name (cR (f p s U H _ I h) λ v S ⟨y,a,b,r,q⟩=>?_) k
 exact uO b d j l r (λ m c=>⟨_,a,c,q⟩) g
def ZG (i:Nat) (t:TE) (T:Ox):TS:=λ D U H=>∃ x,U[i]?=some (some x)/\t U H λ y h=>T x y h λ z a=>D.nx (U.set i (some z)) a
def L0 {i:Nat} {x:Str} {e:Expr} {o:Operator} {t:Ox} (F:X.N.Nodup) (f:X.N[i]?=some x) (d:Loc X.env.scope x) (K:PE X e te) (R:TC X o t) (L:QS X x:=by first|exact .inl rfl|exact .inr rfl|assumption) :
   PS X (.AugAssign (.Name x pos') o e pos) (ZG i te t):=by
 intro p s U H D I h
 obtain ⟨v,E,h⟩:=h
 obtain ⟨m,Q,M⟩:=I.loc
 have Y:RS X.env.scope x:=by rcases d with k|k;exact .inl k;exact .inr (.inl k)
 obtain ⟨u,r,l⟩:=M i x v f E Y
 refine wpAny_AugAssign_Name ?_
 have g:wpAny (model X.prog X.w) X.A (eval e X.env) (λ w S=>wpAny (model X.prog X.w) X.A (inplaceOp o u w) (λ r b=>wpAny (model X.prog X.w) X.A (storeName X.env x r) (λ Z=>SP X p D .next) X.xe b) X.xe S) X.xe s:=by
   refine cR (K p s U H _ I h) λ w s1 ⟨y,j,q,W,T⟩=>?_
   refine cR (R p s1 U j v y u w _ q r W T) λ z s2 ⟨zv,n,B,r2,V⟩=>?_
   exact uO B F f d r2 (λ s3 C=>⟨_,n,C,V⟩) L
 rcases l with ⟨a,O⟩|⟨a,c,J,G⟩
 . exact wpAny_loadName_local I.ok.kind a Q O g
 .
  rcases a with a|a
  . exact wpAny_loadName_cell I.ok.kind a J G g
  .
   rcases d with k|k
   . have:X.env.scope.names.lookup x=some .free:=a
     rw [k] at this;cases this
   . have:X.env.scope.names.lookup x=some .free:=a
     rw [k] at this;cases this
def SI (f T t:TE) (J:V->V->Hp->VK->Prop) (u:Ox) (K:FY):TS:=λ D U H=>f U H λ o h=>T U h λ i a=>J o i a λ x b=>t U b λ y c=>u x y c λ z d=>K o i z d λ e=>D.nx U e
def Sq (X:Cx) (t:V->V->Hp->VK->Prop):Prop :=
 ∀ (p:List (ak×Obj)) (s:Shared) (U:St) (H:Hp) (o i:V) (O I:av) (Q:VK),Inv X p U H s->RelV o O->RelV i I->t o i H Q ->
   wpAny (model X.prog X.w) X.A (getItem O I) (EP X p U Q) X.xe s
def Jo {o i e:Expr} {t:TE} {J:V->V->Hp->VK->Prop} {u:Ox} {K:FY} {c:Operator} {Q:Pos} (L:PE X o t) (G:PE X i ti) (F:Sq X J) (E:PE X e te) (M:TC X c u) (N:Nd X K) (C:∀ O a n,augStore i O a n=(do holding [n,O,a] (setItem O a n);release [n,O,a] [];pure .next):=by intros;rfl):PS X (.AugAssign (.Subscript o i Q) c e pos) (SI t ti te J u K):=by
 intro p s U H D I h
 refine wpAny_AugAssign_SubscriptAny (cR (L p s U H _ I h) λ O s1 ⟨x,f,q,r,S⟩=>?_) C
 refine cR (G p s1 U f _ q S) λ a s2 ⟨d,g,w,R,T⟩=>?_
 refine cR (F p s2 U g x d O a _ w r R T) λ b s3 ⟨x3,j,y,r3,W⟩=>?_
 refine cR (E p s3 U j _ y W) λ v s4 ⟨x4,k,z,r4,Y⟩=>?_
 refine cR (M p s4 U k x3 x4 b v _ z r3 r4 Y) λ n s5 ⟨x5,l,A,r5,q5⟩=>?_
 exact cR (N p s5 U l x d x5 O a n _ A r R r5 q5) λ Z s6 ⟨m,B,q6⟩=>⟨U,m,B,q6⟩
def ipI (f:Int->Int->Int):Ox:=λ x y H Q=>∃ i j,x = .int i/\y = .int j/\Q (.int (f i j)) H
def NJ:TC X .Add (ipI λ i j=>i+j):=by
 intro p s U H x y v u Q I r R h
 obtain ⟨i,j,e,E,q⟩:=h
 subst e;subst E
 obtain ⟨t,rfl⟩:=r
 obtain ⟨t',rfl⟩:=R
 exact iadd_int ⟨.int _,H,I.tok _,⟨_,rfl⟩,q⟩
def N6:TC X .Sub (ipI λ i j=>i - j):=by
 intro p s U H x y v u Q I r R h
 obtain ⟨i,j,e,E,q⟩:=h
 subst e;subst E
 obtain ⟨t,rfl⟩:=r
 obtain ⟨t',rfl⟩:=R
 exact isub_int ⟨.int _,H,I.tok _,⟨_,rfl⟩,q⟩
end
section
variable {X:Cx} {pos:Pos}
def NG (c:TT) (tb:TS):TS:=λ D U H=>∃ W:Nat->St->Hp->Prop,(∃ m,W m U H)/\∀ m U H,W m U H ->
 c U H λ b d=>if b=true then ∃ N:St->Hp->Prop,(∀ a h,N a h->∃ M,M<m/\W M a h)/\tb { D with nx:=N,ct:=N,bk:=D.nx } U d else D.nx U d
def l7 {c:Expr} {B:List Stmt} {T:TT} (z:PassesOwn (model X.prog X.w) X.A X.env X.xe) (F:PT X c T) (E:tF X B tb):PS X (.While c B [] pos) (NG T tb):=by
 intro p s U H D I h
 obtain ⟨W,⟨M,J⟩,t⟩:=h
 refine wpAny_While (codeAny_whileLoop (λ n s'=>∃ g o,Inv X p g o s'/\W n g o) ?_ M ⟨U,H,I,J⟩)
 rintro n S ⟨d,r,C,K⟩
 refine ab0 z (cR (F p S d r _ C (t n d r K)) λ b G ⟨u,x,q⟩=>?_)
 cases b with
 | true =>
   obtain ⟨N,y,q⟩:=q
   rw [aaE rfl]
   refine ab0 z (cR (E p G d u _ x q) λ f L Q=>?_)
   cases f with
   | next =>
     obtain ⟨a,e,i,k⟩:=Q
     obtain ⟨m,j,l⟩:=y a e k
     exact ⟨m,j,a,e,i,l⟩
   | cont =>
     obtain ⟨a,e,i,k⟩:=Q
     obtain ⟨m,j,l⟩:=y a e k
     exact ⟨m,j,a,e,i,l⟩
   | brk=>exact Q
   | ret v=>exact Q
 | false =>
   rw [aaA aaB]
   exact aci ⟨d,u,x,q⟩
end
structure It where
 go:Nat->Hp->Prop
 IJ:Nat->Hp->V->Hp->Prop
 stop:Nat->Hp->Prop
def vP (X:Cx) (a:List (ak×Obj)) (H:Hp) (b:ak):Prop :=
 H b=none/\b≠X.env.locals/\b∉X.fs/\(b∈X.ex\/X.s₀.heap.objs.size<=b)/\(∀ x c,X.env.cells.lookup x=some c->c≠b)/\∀ p∈X.pn++a,p.1≠b
def Inv.AG {X:Cx} {a:List (ak×Obj)} {d:Hp} {s:Shared} {b:ak} (I:Inv X a U H s) (h:s.heap.objs.size<=b) (f:d b=none):vP X a d b:=by
 refine ⟨f,ab8 (aax I.lt h),I.WW h,.inr (aaz I.sz h),λ x c e z=>?_,λ p g z=>?_⟩
 . obtain ⟨v,q⟩:=I.cell x c e
   exact absurd (aax q.lt (by rw [z];exact h)) (abh _)
 . exact absurd (aax (aat (I.pin p g).1) (by rw [z];exact h)) (abh _)
structure Turn (P:bi) (w:aV) (K:aA) (tg:Expr) (J:It) (fp:bw) (it:ak) (tn:Nat->aU->Prop):Prop where
 mem:it∈fp
 obj:∀ i h,tn i h->∀ b∈fp,∃ o,h.get? b=some o/\∀ v,o.data ≠ .cell v
 keep:∀ i h h',tn i h->(∀ b∈fp,∀ o,h.get? b=some o->h'.get? b=some o)->tn i h'
 item:∀ (X:Cx),X.prog=P->X.w=w->X.K=K->X.calm=true->∀ (i:Nat) (pins:List (ak×Obj)) (s:Shared) (U:St) (H:Hp) (E:av->Shared->Prop),Inv X pins U H s->(∀ b∈fp,vP X pins H b)->tn i s.heap->J.go i H ->
   wpAny (model P w) X.A (pyNext (.ref it)) (λ r s1=>∃ u,r=some u /\
     wpAny (model P w) X.A (letOwnedTupleGo tg (.ref it) u) (λ _ s2=>∃ x H',Inv X pins U H' s2/\RelV x u/\J.IJ i H x H'/\tn (i+1) s2.heap/\∀ b∈fp,H' b=none) E s1) E s
 done:∀ (X:Cx),X.prog=P->X.w=w->X.K=K->X.calm=true->∀ (i:Nat) (pins:List (ak×Obj)) (s:Shared) (U:St) (H:Hp) (E:av->Shared->Prop),Inv X pins U H s->(∀ b∈fp,vP X pins H b)->tn i s.heap->J.stop i H ->
   wpAny (model P w) X.A (pyNext (.ref it)) (λ r s1=>r=none/\Inv X pins U H s1) E s
 self:∀ (A:Around) (i:Nat) (s:Shared) (Q:av->Shared->Prop) (E:av->Shared->Prop),tn i s.heap->Q (.ref it) s->wpAny (model P w) A (pyIter (.ref it)) Q E s
abbrev TI:=St->Hp->(It->Hp->Prop)->Prop
def PIE (X:Cx) (p:List (ak×Obj)) (U:St) (T:Expr) (R:It->Hp->Prop) (x:av) (s:Shared):Prop :=
 ∃ (i:ak) (f:bw) (t:Nat->aU->Prop) (J:It) (H:Hp),x = .ref i/\Inv X p U H s/\Turn X.prog X.w X.K T J f i t/\t 0 s.heap/\(∀ b∈f,vP X p H b)/\R J H
def PI (X:Cx) (t i:Expr) (W:TI):Prop :=
 ∀ (p:List (ak×Obj)) (s:Shared) (U:St) (H:Hp) (R:It->Hp->Prop),Inv X p U H s->W U H R ->
   wpAny (model X.prog X.w) X.A (eval i X.env) (λ v S=>wpAny (model X.prog X.w) X.A (pyIter v) (PIE X p U t R) X.xe S) X.xe s
def LR {M:Model} {A:Around} {E:av->Shared->Prop} {s:Shared} {i:ak} {u:av} {o:Obj} {n:String} {vs:Array av} {Q:Unit->Shared->Prop} (d:s.heap.get? i=some o) (a:o.cls = .type n) (b:o.data = .fields vs) (c:["enumerate","zip","dict_itemiterator","dict_reverseitemiterator","odict_iterator","itertools.zip_longest","itertools.pairwise"].contains n=false) (H:Q () s):wpAny M A (letOwnedTupleGo tg (.ref i) u) Q E s:=by
 unfold letOwnedTupleGo
 cases tg<;>first
   | exact aan H
   | (cases u<;>first
       | exact aan H
       | (refine aaa (wpAny_load d ?_)
          rw [a,b]
          show wpAny M A (if (["enumerate","zip","dict_itemiterator","dict_reverseitemiterator","odict_iterator","itertools.zip_longest","itertools.pairwise"].contains n && vs[0]? == some (rawInt _))=true then _ else _) Q E s
          rw [aaA (by intro h;rw [c,ab3] at h;cases h)]
          exact aan H))
def Ln (K:aA) (a:ak):It :=
 ⟨λ i H=>∃ X x,bh K H a X/\X[i]?=some x,λ i H x h=>h=H/\∀ X,bh K H a X->X[i]?=some x,λ i H=>∃ X,bh K H a X/\X.length<=i⟩
def Js (lo:Int) (n:Nat):It:=⟨λ i Z=>i<n,λ i H x h=>h=H/\x = .int (lo+i),λ i Z=>n<=i⟩
def En {P:bi} {w:aV} {K:aA} (a j:ak):Turn P w K tg (Ln K a) [j] j (λ i h=>h.IsListIter j a i) where
 mem:=by simp
 obj:=λ i h S b g=>by
   have e:b=j:=by simpa using g
   subst e
   obtain ⟨o,e,c,d⟩:=S
   exact ⟨o,e,λ v z=>by rw [d] at z;cases z⟩
 keep:=λ i h l S k=>S.at λ o e=>k j (by simp) o e
 item:=by
   intro X B D A L i f s U H E I m S C
   subst B D A
   obtain ⟨xs,x,n,G⟩:=C
   obtain ⟨N,R,p,W⟩:=I.list n
   obtain ⟨u,T,Y⟩:=R.get G
   obtain ⟨F,q,Q,r,t,y⟩:=m j (by simp)
   refine wpAny_pyNext_list_item S p.isList (x:=u) (by simpa using T) λ l J sb=>?_
   have M:Inv X f U H { s with heap:=l }:=I.turned (t':=s.toks) (λ b o g e=>(sb.2 b g).trans e) F q r t y
   obtain ⟨o,e,c,d⟩:=id J
   exact ⟨u,rfl,LR (s:={ s with heap:=l }) e c d (by decide) ⟨x,H,M,Y,⟨rfl,λ ys V=>by rw [I.oS V n];exact G⟩,J,λ b g=>(m b g).1⟩⟩
 done:=by
   intro X B D A L i f s U H E I m S C
   subst B D A
   obtain ⟨xs,n,G⟩:=C
   obtain ⟨N,R,p,W⟩:=I.list n
   obtain ⟨F,q,Q,r,t,y⟩:=m j (by simp)
   have hl:=R.length
   exact wpAny_pyNext_list_end (I.ok.hd L) S p.isList (by simp;lia) λ l O=>⟨rfl,I.turned (t':=s.toks) (λ b o g e=>O b o g e) F q r t y⟩
 self:=λ Z Z Z Z Z S h=>wpAny_pyIter_listiter S h
def Bn {P:bi} {w:aV} {K:aA} (a:ak) (lo:Int) (n:Nat):Turn P w K tg (Js lo n) [a] a (λ i h=>IsRangeIter h a (lo+(i:Nat) * 1) ((n:Int) - (i:Nat)) 1) where
 mem:=by simp
 obj:=λ i h S b c=>by
   have e:b=a:=by simpa using c
   subst e
   exact ⟨_,S,λ v z=>by
     have L:Data.fields _=Data.cell v:=z
     cases L⟩
 keep:=λ i h d S k=>k a (by simp) _ S
 item:=by
   intro X r y q u i p s U H E I f S x
   subst r y q
   obtain ⟨F,g,C,j,l,m⟩:=f a (by simp)
   have W:=Walks.range (prog:=X.prog) (w:=X.w) (I.ok.hd u) a lo 1 n
   refine W.item i s _ _ x S λ v d T D J G=>?_
   obtain ⟨t,rfl⟩:=D
   have A:Inv X p U H { s with heap:=d,toks:=T }:=I.turned (λ b o c e=>G b o (by simpa using c) e) F g j l m
   refine ⟨_,rfl,LR (s:={ s with heap:=d,toks:=T }) (n:="range_iterator") J rfl rfl (by decide) ⟨.int (lo+i),H,A,⟨t,?_⟩,⟨rfl,rfl⟩,J,λ b c=>(f b c).1⟩⟩
   rw [Int.mul_one]
 done:=by
   intro X r y q u i p s U H E I f S x
   subst r y q
   obtain ⟨F,g,C,j,l,m⟩:=f a (by simp)
   exact wpAny_pyNext_range_end (I.ok.hd u) S (by have:n<=i:=x;lia) λ d B=>⟨rfl,I.turned (t':=s.toks) (λ b o c e=>B b o c e) F g j l m⟩
 self:=λ Z Z Z Z Z S h=>wpAny_pyIter_rangeiter S h
section
variable {X:Cx} {tg:Expr}
inductive WE (K:aA) (R:It->Hp->Prop) (x:V) (H1:Hp):Prop|mk (a:ak) (h1:x = .ref a) (h2:∃ xs,bh K H1 a xs) (q:R (Ln K a) H1)
def KY (K:aA) (t:TE):TI:=λ U H R=>t U H (WE K R)
def bY {l:Expr} {t:TE} (g:PE X l t):PI X tg l (KY X.K t):=by
 intro c s U H R I h
 refine cR (g c s U H _ I h) λ v S ⟨x,d,i,r,Q⟩=>?_
 obtain ⟨a,e,⟨n,j⟩,q⟩:=Q
 subst e
 cases r
 obtain ⟨B,m,p,k⟩:=i.list j
 refine wpAny_pyIter_list p.isList ?_
 refine ⟨S.heap.objs.size,[S.heap.objs.size],_,_,d,rfl,i.kept (t':=S.toks) λ b o e=>aak _ e,En a _,⟨_,aaQ _ rfl,rfl,rfl⟩,λ b f=>?_,q⟩
 have e:b=S.heap.objs.size:=by simpa using f
 subst e
 exact i.AG (aaj _) (i.cM.fresh (aaj _))
def HA {p:List (ak×Obj)} {s:Shared} {R:It->Hp->Prop} {E:av->Shared->Prop} {lo h:Int} {t u v:Tok} {T:Nat} (I:Inv X p U H s) (d : -(2 ^ 62)<=lo) (f:lo<2 ^ 62) (g : -(2 ^ 62)<=h) (j:h<2 ^ 62) (q:R (Js lo (h - lo).toNat) H):wpAny (model X.prog X.w) X.A (pyIter (.ref s.heap.objs.size)) (PIE X p U tg R) E { s with heap:=s.heap.push { cls:=.type "range",data:=.fields #[.int lo t,.int h u,.int 1 v]},toks:=T }:=by
 refine wpAny_pyIter_range (IsRange.new ..) (small_one d f g j) ?_
 have i:Inv X p U H { s with heap:=s.heap.push { cls:=.type "range",data:=.fields #[.int lo t,.int h u,.int 1 v]},toks:=T }:=I.kept λ b o e=>aak _ e
 refine ⟨(s.heap.push { cls:=.type "range",data:=.fields #[.int lo t,.int h u,.int 1 v]}).objs.size,[(s.heap.push { cls:=.type "range",data:=.fields #[.int lo t,.int h u,.int 1 v]}).objs.size],_,_,H,rfl,
   i.kept (t':=T) λ b o e=>aak _ e,Bn _ lo (h - lo).toNat,?_,λ b k=>?_,q⟩
 .
  have a:lo+((0:Nat):Int) * 1=lo:=by simp
  have c:(((h - lo).toNat:Nat):Int) - ((0:Nat):Int)=Builtin.Range.rangeSize lo h 1:=by rw [rangeSize_one];split<;>lia
  show IsRangeIter _ _ (lo+((0:Nat):Int) * 1) ((((h - lo).toNat:Nat):Int) - ((0:Nat):Int)) 1
  rw [a,c]
  exact aaQ _ rfl
 . have e:b=(s.heap.push { cls:=.type "range",data:=.fields #[.int lo t,.int h u,.int 1 v]}).objs.size:=by simpa using k
   subst e
   exact i.AG (aaj _) (i.cM.fresh (aaj _))
inductive Zg (R:It->Hp->Prop) (vs:ay) (H1:Hp):Prop|mk (j:Int) (h1:vs=[.int j]) (h2 : -(2 ^ 62)<=j) (h3:j<2 ^ 62) (q:R (Js 0 j.toNat) H1)
def Ry (t:TA):TI:=λ U H R=>t U H (Zg R)
def cN {a:Expr} {T:TA} {p c:Pos} (f:Gl X "range") (g:X.mg "range" = none) (d:PA X [a] T) (k:starEach [a] X.env=[(false,eval a X.env)]:=by rfl):PI X tg (.Call (.Name "range" p) [a] [] c) (Ry T):=by
 intro b s U H R I h
 refine Call_ (io I f g boot_range (aaY (cR (d c b s U H _ I h) λ u S ⟨v,o,i,m,Q⟩=>?_) k rfl))
 obtain ⟨j,e,Q,l,q⟩:=Q
 subst e
 cases m with
 | cons r n =>
   cases n
   obtain ⟨t,rfl⟩:=r
   exact call_range_1 (HA i (by lia) (by lia) Q l (by simpa using q))
def Xh (w:TI) (g:TG) (tb:TS):TS:=λ D U H=>w U H λ J c=>∃ W:Nat->Nat->St->Hp->Prop,(∃ m,W 0 m U c)/\∀ i m U H,W i m U H ->
 (J.stop i H/\D.nx U H)\/(J.go i H/\∃ N:St->Hp->Prop,(∀ a h,N a h->∃ M,M<m/\W (i+1) M a h)/\∀ x h,J.IJ i H x h->g x U h λ b d=>tb { D with nx:=N,ct:=N,bk:=D.nx } b d)
def vf (f:bw) (h:aU):List (ak×Obj):=f.filterMap λ b=>(h.get? b).map λ o=>(b,o)
def kA {f:bw} {h:aU} {b:ak} {o:Obj} (H:b∈f) (e:h.get? b=some o):(b,o)∈vf f h:=adi.mpr ⟨b,H,by rw [e];rfl⟩
def DX {f:bw} {h:aU} {p:ak×Obj} (a:p∈vf f h):p.1∈f/\h.get? p.1=some p.2:=by
 obtain ⟨b,H,e⟩:=adi.mp a
 cases q:h.get? b with
 | none=>rw [q] at e;cases e
 | some o =>
   rw [q] at e
   have E:(b,o)=p:=aap e
   subst E
   exact ⟨H,q⟩
def Inv.pinned {a:List (ak×Obj)} {s:Shared} {f:bw} (I:Inv X a U H s) (i:∀ b∈f,vP X a H b) (j:∀ b∈f,∃ o,s.heap.get? b=some o/\∀ v,o.data ≠ .cell v):Inv X (a++vf f s.heap) U H s :=
 I.CQ λ p k=>(aar.mp k).elim (λ z=>I.pin p (aaV _ z)) λ z=>by
   obtain ⟨h,e⟩:=DX z
   obtain ⟨F,c,g,Z⟩:=i p.1 h
   obtain ⟨o,E,d⟩:=j p.1 h
   rw [e] at E;cases E
   exact ⟨e,F,c,g,d⟩
def Inv.qd {a pl:List (ak×Obj)} {s:Shared} (I:Inv X (a++pl) U H s):Inv X a U H s:=I.CQ λ p h=>I.pin p (aaV _ (aa8 _ h))
def dB {q:Expr} {B:List Stmt} {wi:TI} {ab:Pos} (C:PassesOwn (model X.prog X.w) X.A X.env X.xe) (hc:X.calm=true) (hi:PI X tg q wi) (hg:PG X tg g) (l:tF X B tb) (hs:∀ x,foldedSetIterable q X.env x=pure x:=by intro _;rfl):PS X (.For tg q B [] ab) (Xh wi g tb):=by
 intro p s U H D I h
 refine wpAny_For (cR (hi p s U H _ I h) λ v s1 h1=>cR h1 λ Xe s2 h2=>?_) hs
 obtain ⟨it,F,tn,J,H2,e,I2,T,Tn,f2,W,⟨m0,w0⟩,L⟩:=h2
 subst e
 have R:∀ {H':Hp},(∀ b∈F,H' b=none)->∀ b∈F,vP X p H' b:=λ hn b l=>⟨hn b l,(f2 b l).2⟩
 refine codeAny_forLoop_any (λ n s'=>∃ i t H',Inv X p t H' s'/\tn i s'.heap/\(∀ b∈F,H' b=none)/\W i n t H') ?_ m0 ⟨0,U,H2,I2,Tn,λ b l=>(f2 b l).1,w0⟩
 rintro n s3 ⟨i,y,M,I3,S,z,w3⟩
 rcases L i n y M w3 with ⟨K,qn⟩|⟨go,N,hN,G⟩
 . refine ab0 C (cR (T.done X rfl rfl rfl hc i p s3 y M X.xe I3 (R z) S K) λ r s4 ⟨Y,I4⟩=>?_)
   subst Y
   exact aci ⟨y,M,I4,qn⟩
 .
  refine ab0 C (cR (T.item X rfl rfl rfl hc i p s3 y M X.xe I3 (R z) S go) λ r s4 ⟨u,Y,h4⟩=>?_)
  subst Y
  refine ab0 C (cR h4 λ _ s5 ⟨x,H5,I5,r5,y5,V,Ua⟩=>?_)
  have O:=I5.pinned (R Ua) (T.obj _ _ V)
  refine ab0 C (cR (hg _ s5 y H5 x u _ O r5 (G x H5 y5)) λ _ s6 ⟨ad,H6,I6,q6⟩=>?_)
  refine ab0 C (cR (l _ s6 ad H6 _ I6 q6) λ f s7 Q=>?_)
  have k:∀ {a:St} {c:Hp},Inv X (p++vf F s5.heap) a c s7->N a c->∃ m,m<n/\∃ i t H',Inv X p t H' s7/\tn i s7.heap/\(∀ b∈F,H' b=none)/\W i m t H':=λ {a c} j E=>by
    obtain ⟨m',hm,w7⟩:=hN a c E
    refine ⟨m',hm,i+1,a,c,j.qd,T.keep _ _ _ V λ b l o e=>(j.pin (b,o) (aaV _ (aaV _ (kA l e)))).1,λ b l=>?_,w7⟩
    obtain ⟨o,e,d⟩:=T.obj _ _ V b l
    exact (j.pin (b,o) (aaV _ (aaV _ (kA l e)))).2.1
  cases f with
  | next=>obtain ⟨a,c,j,E⟩:=Q;exact k j E
  | cont=>obtain ⟨a,c,j,E⟩:=Q;exact k j E
  | brk=>obtain ⟨a,c,j,Q⟩:=Q;exact ⟨a,c,j.qd,Q⟩
  | ret v=>obtain ⟨x7,a,c,j,r7,Q⟩:=Q;exact ⟨x7,a,c,j.qd,r7,Q⟩
end
def jO {K:aA} {a:ak} {xs:ay} {D:Ends} (b:Nat->St->Hp->Prop) (h0:b 0 U H) (l:∀ i U H,i<=xs.length->b i U H->bh K H a xs) (n:∀ i x U H,xs[i]?=some x->b i U H->g x U H λ d f=>tb { D with nx:=b (i+1),ct:=b (i+1),bk:=D.nx } d f) (j:∀ U H,b xs.length U H->D.nx U H) :
   ∃ W:Nat->Nat->St->Hp->Prop,(∃ m,W 0 m U H)/\∀ i m U H,W i m U H ->
     ((Ln K a).stop i H/\D.nx U H)\/((Ln K a).go i H/\∃ N:St->Hp->Prop,(∀ c h,N c h->∃ m',m'<m/\W (i+1) m' c h)/\∀ x h,(Ln K a).IJ i H x h->g x U h λ d f=>tb { D with nx:=N,ct:=N,bk:=D.nx } d f):=by
 refine ⟨λ i m U H=>m=xs.length - i/\i<=xs.length/\b i U H,⟨xs.length,by simp,aaT _,h0⟩,?_⟩
 rintro i m U H ⟨rfl,k,p⟩
 have q:=l i U H k p
 by_cases M:i<xs.length
 .
  refine .inr ⟨⟨xs,xs[i],q,by simp [M]⟩,b (i+1),λ c h o=>⟨xs.length - (i+1),by lia,rfl,M,o⟩,λ x h y=>?_⟩
  obtain ⟨e,y⟩:=y
  subst e
  exact n i x U _ (y xs q) p
 . have e:i=xs.length:=by lia
   subst e
   exact .inl ⟨⟨xs,q,aaj _⟩,j U H p⟩
def EG {lo:Int} {n:Nat} {D:Ends} (a:Nat->St->Hp->Prop) (h0:a 0 U H) (j:∀ i U H,i<n->a i U H->g (.int (lo+i)) U H λ c d=>tb { D with nx:=a (i+1),ct:=a (i+1),bk:=D.nx } c d) (f:∀ U H,a n U H->D.nx U H) :
   ∃ W:Nat->Nat->St->Hp->Prop,(∃ m,W 0 m U H)/\∀ i m U H,W i m U H ->
     ((Js lo n).stop i H/\D.nx U H)\/((Js lo n).go i H/\∃ N:St->Hp->Prop,(∀ b h,N b h->∃ m',m'<m/\W (i+1) m' b h)/\∀ x h,(Js lo n).IJ i H x h->g x U h λ c d=>tb { D with nx:=N,ct:=N,bk:=D.nx } c d):=by
 refine ⟨λ i m U H=>m=n - i/\i<=n/\a i U H,⟨n,by simp,aaT _,h0⟩,?_⟩
 rintro i m U H ⟨rfl,l,p⟩
 by_cases M:i<n
 .
  refine .inr ⟨M,a (i+1),λ b h k=>⟨n - (i+1),by lia,rfl,M,k⟩,λ x h y=>?_⟩
  obtain ⟨e,y⟩:=y
  subst e y
  exact j i U _ M p
 . have e:i=n:=by lia
   subst e
   exact .inl ⟨aaj _,f U H p⟩
abbrev R2:=V->V->Hp->VK->Prop
def jn (X:Cx) (f:av->av->Sem av) (r:R2):Prop :=
 ∀ (p:List (ak×Obj)) (s:Shared) (U:St) (H:Hp) (x y:V) (v u:av) (Q:VK),Inv X p U H s->RelV x v->RelV y u->r x y H Q ->
   wpAny (model X.prog X.w) X.A (f v u) (EP X p U Q) X.xe s
def Up (X:Cx) (f:av->Sem av) (r:V->Hp->VK->Prop):Prop :=
 ∀ (p:List (ak×Obj)) (s:Shared) (U:St) (H:Hp) (x:V) (v:av) (Q:VK),Inv X p U H s->RelV x v->r x H Q ->
   wpAny (model X.prog X.w) X.A (f v) (EP X p U Q) X.xe s
def iI (X:Cx) (f:av) (r:ay->Hp->VK->Prop):Prop :=
 ∀ (p:List (ak×Obj)) (s:Shared) (U:St) (H:Hp) (x:ay) (u:aZ) (Q:VK),Inv X p U H s->Vals x u->r x H Q ->
   wpAny (model X.prog X.w) X.A (call f u) (EP X p U Q) X.xe s
def LU (r:R2) (t tb:TE):TE:=λ U H Q=>t U H λ x h=>tb U h λ y a=>r x y a Q
def tUn (r:V->Hp->VK->Prop) (t:TE):TE:=λ U H Q=>t U H λ x h=>r x h Q
inductive rI (C:Int->Int->Prop) (g:Int->Int->V) (x:V) (y:V) (H:Hp) (Q:VK):Prop|mk (i j:_) (_:x = .int i) (_:y = .int j) (_:C i j) (_:Q (g i j) H)
inductive IQ (g:Int->Int->V) (x:V) (y:V) (H:Hp) (Q:VK):Prop|mk (i j:_) (_:x = .int i) (_:y = .int j) (_:Q (g i j) H)
inductive rU (g:Int->V) (x:V) (H:Hp) (Q:VK):Prop|mk (i:_) (_:x = .int i) (_:Q (g i) H)
section
variable {X:Cx} {a b c:Expr} {ta tb:TE} {pos:Pos}
def NM (k:PE X a ta) (l:PE X b tb) {p:List (ak×Obj)} {s:Shared} {R:V->V->Hp->Prop} (I:Inv X p U H s) (h:ta U H λ x g=>tb U g λ y c=>R x y c) {Q:av->Shared->Prop} {f:av->av->Sem av} (m:∀ v u e x y c,Inv X p U c e->RelV x v->RelV y u->R x y c->wpAny (model X.prog X.w) X.A (f v u) Q X.xe e) :
   wpAny (model X.prog X.w) X.A (eval a X.env) (λ v S=>wpAny (model X.prog X.w) X.A (eval b X.env) (λ u d=>wpAny (model X.prog X.w) X.A (f v u) Q X.xe d) X.xe S) X.xe s:=by
 refine cR (k p s U H _ I h) λ v t ⟨x,g,i,r,q⟩=>?_
 refine cR (l p t U g _ i q) λ u e ⟨y,c,j,o,n⟩=>?_
 exact m v u e x y c j r o n
def ax {o:Operator} {r:R2} (f:jn X (binaryOp o) r) (d:PE X a ta) (e:PE X b tb):PE X (.BinOp a o b pos) (LU r ta tb):=by
 intro p s U H Q I h
 exact wpAny_BinOp (NM d e I h λ v u S x y c i R g q=>f p S U c x y v u Q i R g q)
def pF {o:UnaryOp} {r:V->Hp->VK->Prop} (d:Up X (unaryOp o) r) (c:PE X a ta):PE X (.UnaryOp o a pos) (tUn r ta):=by
 intro p s U H Q I h
 exact UnaryOp_ (cR (c p s U H _ I h) λ v S ⟨x,b,i,R,q⟩=>d p S U b x v Q i R q)
def Oo {f:av->av->Sem av} {C:Int->Int->Prop} {g:Int->Int->Int} (r:∀ (i j:Int) (t u:Tok) (s:Shared) (Q:av->Shared->Prop) (E:av->Shared->Prop),C i j->Q (.int (g i j) s.toks) { s with toks:=s.toks+1 }->wpAny (model X.prog X.w) X.A (f (.int i t) (.int j u)) Q E s) :
   jn X f (rI C λ i j => .int (g i j)):=by
 intro p s U H x y v u Q I R b h
 obtain ⟨i,j,rfl,rfl,a,q⟩:=h
 obtain ⟨t,rfl⟩:=R
 obtain ⟨t',rfl⟩:=b
 exact r i j t t' s _ _ a ⟨.int (g i j),H,I.tok _,⟨_,rfl⟩,q⟩
def J9 {f:av->av->Sem av} {g:Int->Int->Int} (r:∀ (i j:Int) (t u:Tok) (s:Shared) (Q:av->Shared->Prop) (E:av->Shared->Prop),Q (.int (g i j) s.toks) { s with toks:=s.toks+1 }->wpAny (model X.prog X.w) X.A (f (.int i t) (.int j u)) Q E s) :
   jn X f (IQ λ i j => .int (g i j)):=by
 intro p s U H x y v u Q I R a h
 obtain ⟨i,j,rfl,rfl,q⟩:=h
 obtain ⟨t,rfl⟩:=R
 obtain ⟨t',rfl⟩:=a
 exact r i j t t' s _ _ ⟨.int (g i j),H,I.tok _,⟨_,rfl⟩,q⟩
def JD {f:av->av->Sem av} {g:Int->Int->Bool} (r:∀ (i j:Int) (t u:Tok) (s:Shared) (Q:av->Shared->Prop) (E:av->Shared->Prop),Q (.bool (g i j)) s->wpAny (model X.prog X.w) X.A (f (.int i t) (.int j u)) Q E s) :
   jn X f (IQ λ i j => .bl (g i j)):=by
 intro p s U H x y v u Q I R a h
 obtain ⟨i,j,rfl,rfl,q⟩:=h
 obtain ⟨t,rfl⟩:=R
 obtain ⟨t',rfl⟩:=a
 exact r i j t t' s _ _ ⟨.bl (g i j),H,I,rfl,q⟩
def Hk (i j:Int):Prop:=0<=j/\j<=1000000/\i.natAbs<2 ^ 64
def BD (k:Nat):(0:Int)<=2 ^ k:=by
 rw [two_pow_cast]
 exact aa6 _
def Mv:jn X (binaryOp .Add) (IQ λ i j => .int (i+j)):=J9 λ Z Z Z Z Z Z Z q=>add_int q
def Mn:jn X (binaryOp .Sub) (IQ λ i j => .int (i - j)):=J9 λ Z Z Z Z Z Z Z q=>sub_int q
def Nf:jn X (binaryOp .Mod) (rI (λ Z j=>0<j) λ i j => .int (i % j)):=Oo λ i j Z Z Z Z Z h q=>by
 have H:(0:Int)<j:=h
 exact mod_int' (by lia) (by rw [Int.fmod_eq_emod_of_nonneg i (by lia)];exact q)
def Mj:jn X (binaryOp .Pow) (rI Hk λ i j => .int (i ^ j.toNat)):=Oo λ Z Z Z Z Z Z Z h q=>pow_int_small h.1 h.2.1 h.2.2 q
def Nx:jn X (binaryOp .LShift) (rI Hk λ i j => .int (i * 2 ^ j.toNat)):=Oo λ Z Z Z Z Z Z Z h q=>lshift_int_small h.1 h.2.1 h.2.2 q
def Nv:jn X (binaryOp .RShift) (rI (λ Z j=>0<=j) λ i j => .int (i / 2 ^ j.toNat)):=Oo λ i j Z Z Z Z Z h q =>
 rshift_int h (by rw [abX i (BD _)];exact q)
def Oc:jn X (binaryOp .BitAnd) (IQ λ i j => .int (Builtin.bitAnd i j)):=J9 λ Z Z Z Z Z Z Z q=>and_int q
def QF:jn X (binaryOp .BitOr) (IQ λ i j => .int (Builtin.bitOr i j)):=J9 λ Z Z Z Z Z Z Z q=>or_int q
def unI {f:av->Sem av} {g:Int->Int} (r:∀ (i:Int) (t:Tok) (s:Shared) (Q:av->Shared->Prop) (E:av->Shared->Prop),Q (.int (g i) s.toks) { s with toks:=s.toks+1 }->wpAny (model X.prog X.w) X.A (f (.int i t)) Q E s) :
   Up X f (rU λ i => .int (g i)):=by
 intro p s U H x v Q I R h
 obtain ⟨i,rfl,q⟩:=h
 obtain ⟨t,rfl⟩:=R
 exact r i t s _ _ ⟨.int (g i),H,I.tok _,⟨_,rfl⟩,q⟩
def qH:Up X (unaryOp .USub) (rU λ i => .int (-i)):=unI λ Z Z Z Z Z q=>neg_int q
def Cy:Up X (unaryOp .Invert) (rU λ i => .int (Builtin.bitNot i)):=unI λ Z Z Z Z Z q=>invert_int q
end
def SO:V->V->Bool
 | .cB,.cB=>true | .cB,.int _=>true | .int _,.cB=>true | .cB,.bl _=>true | .bl _,.cB=>true | .cB,.str _=>true | .str _,.cB=>true
 | .int _,.int _=>true | .bl _,.bl _=>true | .str _,.str _=>true | .Ey _,.Ey _=>true
 | .int _,.str _=>true | .str _,.int _=>true | .bl _,.str _=>true | .str _,.bl _=>true
 | _,_=>false
def rEq:R2:=λ x y H Q=>SO x y=true/\Q (.bl (decide (x=y))) H
def rNe:R2:=λ x y H Q=>SO x y=true/\Q (.bl (!decide (x=y))) H
def pU {i j:Int}:decide (V.int i=V.int j)=(i == j):=by
 rw [abI]
 simp
def GN {i j:Bool}:decide (V.bl i=V.bl j)=(i == j):=by
 rw [abI]
 simp
def CU {i j:Str}:decide (V.str i=V.str j)=(i == j):=by
 rw [abI]
 simp
def CS {i j:Array UInt8}:decide (V.Ey i=V.Ey j)=(i.toList == j.toList):=by
 rw [abI]
 cases i
 cases j
 simp
section
variable {X:Cx} {a b c:Expr} {ta tb tc:TE} {pos:Pos}
def ca {p:List (ak×Obj)} {s:Shared} {k K:Bool} (I:Inv X p U H s) (q:Q (.bl k) H) (e:k=K):EP X p U Q (.bool K) s:=by
 subst e
 exact ⟨.bl k,H,I,rfl,q⟩
def dE:jn X (compareOp .Eq) rEq:=by
 intro p s U H x y v u Q I R r h
 obtain ⟨a,q⟩:=h
 cases x with
 | cB =>
   cases R
   cases y with
   | cB=>cases r;exact PySem.EqNone.eq_none_none (ca I q (by simp))
   | bl j=>cases r;exact PySem.EqNone.eq_none_bool (ca I q (by simp))
   | int j=>obtain ⟨t',rfl⟩:=r;exact PySem.EqNone.eq_none_int (ca I q (by simp))
   | str j=>obtain ⟨t',rfl⟩:=r;exact PySem.EqNone.eq_none_str (ca I q (by simp))
   | _=>exact absurd (show false=true from a) aaB
 | bl i =>
   cases R
   cases y with
   | cB=>cases r;exact PySem.EqNone.eq_bool_none (ca I q (by simp))
   | bl j=>cases r;exact eq_bool (ca I q GN)
   | str j=>obtain ⟨t',rfl⟩:=r;exact PySem.EqMixed.eq_bool_str (ca I q (by simp))
   | _=>exact absurd (show false=true from a) aaB
 | int i =>
   obtain ⟨t,rfl⟩:=R
   cases y with
   | cB=>cases r;exact PySem.EqNone.eq_int_none (ca I q (by simp))
   | int j=>obtain ⟨t',rfl⟩:=r;exact eq_int (ca I q pU)
   | str j=>obtain ⟨t',rfl⟩:=r;exact PySem.EqMixed.eq_int_str (ca I q (by simp))
   | _=>exact absurd (show false=true from a) aaB
 | str i =>
   obtain ⟨t,rfl⟩:=R
   cases y with
   | cB=>cases r;exact PySem.EqNone.eq_str_none (ca I q (by simp))
   | bl j=>cases r;exact PySem.EqMixed.eq_str_bool (ca I q (by simp))
   | int j=>obtain ⟨t',rfl⟩:=r;exact PySem.EqMixed.eq_str_int (ca I q (by simp))
   | str j=>obtain ⟨t',rfl⟩:=r;exact eq_str (ca I q CU)
   | _=>exact absurd (show false=true from a) aaB
 | Ey i =>
   obtain ⟨t,rfl⟩:=R
   cases y with
   | Ey j=>obtain ⟨t',rfl⟩:=r;exact W.eq_bytes (ca I q CS)
   | _=>exact absurd (show false=true from a) aaB
 | _=>cases y<;>exact absurd (show false=true from a) aaB
def pM:jn X (compareOp .NotEq) rNe:=by
 intro p s U H x y v u Q I R r h
 obtain ⟨a,q⟩:=h
 cases x with
 | cB =>
   cases R
   cases y with
   | cB=>cases r;exact PySem.EqNone.ne_none_none (ca I q (by simp))
   | bl j=>cases r;exact PySem.EqNone.ne_none_bool (ca I q (by simp))
   | int j=>obtain ⟨t',rfl⟩:=r;exact PySem.EqNone.ne_none_int (ca I q (by simp))
   | str j=>obtain ⟨t',rfl⟩:=r;exact PySem.EqNone.ne_none_str (ca I q (by simp))
   | _=>exact absurd (show false=true from a) aaB
 | bl i =>
   cases R
   cases y with
   | cB=>cases r;exact PySem.EqNone.ne_bool_none (ca I q (by simp))
   | bl j=>cases r;exact ne_bool (ca I q (abo not GN))
   | str j=>obtain ⟨t',rfl⟩:=r;exact PySem.EqMixed.ne_bool_str (ca I q (by simp))
   | _=>exact absurd (show false=true from a) aaB
 | int i =>
   obtain ⟨t,rfl⟩:=R
   cases y with
   | cB=>cases r;exact PySem.EqNone.ne_int_none (ca I q (by simp))
   | int j=>obtain ⟨t',rfl⟩:=r;exact ne_int (ca I q (abo not pU))
   | str j=>obtain ⟨t',rfl⟩:=r;exact PySem.EqMixed.ne_int_str (ca I q (by simp))
   | _=>exact absurd (show false=true from a) aaB
 | str i =>
   obtain ⟨t,rfl⟩:=R
   cases y with
   | cB=>cases r;exact PySem.EqNone.ne_str_none (ca I q (by simp))
   | bl j=>cases r;exact PySem.EqMixed.ne_str_bool (ca I q (by simp))
   | int j=>obtain ⟨t',rfl⟩:=r;exact PySem.EqMixed.ne_str_int (ca I q (by simp))
   | str j=>obtain ⟨t',rfl⟩:=r;exact ne_str (ca I q (abo not CU))
   | _=>exact absurd (show false=true from a) aaB
 | Ey i =>
   obtain ⟨t,rfl⟩:=R
   cases y with
   | Ey j=>obtain ⟨t',rfl⟩:=r;exact W.ne_bytes (ca I q (abo not CS))
   | _=>exact absurd (show false=true from a) aaB
 | _=>cases y<;>exact absurd (show false=true from a) aaB
def jw:jn X (compareOp .Lt) (IQ λ i j => .bl (decide (i<j))):=JD λ Z Z Z Z Z Z Z q=>lt_int q
def jr:jn X (compareOp .LtE) (IQ λ i j => .bl (decide (i<=j))):=JD λ Z Z Z Z Z Z Z q=>le_int q
def wg:jn X (compareOp .Gt) (IQ λ i j => .bl (decide (j<i))):=JD λ Z Z Z Z Z Z Z q=>gt_int q
def LK:jn X (compareOp .GtE) (IQ λ i j => .bl (decide (j<=i))):=JD λ Z Z Z Z Z Z Z q=>ge_int q
def ji:jn X (compareOp .Is) (λ x y H Q=>y = .cB/\Q (.bl (decide (x = .cB))) H):=by
 intro p s U H x y v u Q I r R h
 obtain ⟨rfl,q⟩:=h
 cases R
 refine is_none_gen (ca I q ?_)
 cases x<;>first
   | (cases r;rfl)
   | (obtain ⟨t,rfl⟩:=r;rfl)
def px:jn X (compareOp .IsNot) (λ x y H Q=>y = .cB/\Q (.bl (!decide (x = .cB))) H):=by
 intro p s U H x y v u Q I r R h
 obtain ⟨rfl,q⟩:=h
 cases R
 refine isnot_none_gen (ca I q ?_)
 cases x<;>first
   | (cases r;rfl)
   | (obtain ⟨t,rfl⟩:=r;rfl)
def aK (b:Expr) {o:CmpOp} (h:o ≠ .In:=by decide) (H:o ≠ .NotIn:=by decide):behindInMarks o b=false:=by
 have e:(o == CmpOp.In)=false:=by cases o<;>first|rfl|exact absurd rfl h
 have E:(o == CmpOp.NotIn)=false:=by cases o<;>first|rfl|exact absurd rfl H
 cases b<;>simp [behindInMarks,e,E]
def dX {o:CmpOp} {r:R2} (g:jn X (compareOp o) r) (d:PE X a ta) (e:PE X b tb) (f:behindInMarks o b=false):PE X (.Compare a [o] [b] pos) (LU r ta tb):=by
 intro p s U H Q I h
 exact wpAny_Compare1 (NM d e I h λ v u S x y c i R j q=>g p S U c x y v u Q i R j q) f
inductive Xl (Q:Bool->Hp->Prop) (x:V) (H:Hp):Prop|mk (k:Bool) (h:x = .bl k) (q:Q k H)
def HW (t:TE):TT:=λ U H Q=>t U H (Xl Q)
def aH {o:CmpOp} {r:R2} (t:jn X (compareOp o) r) (m:PE X a ta) (n:PE X b tb) (q:behindInMarks o b=false):PT X (.Compare a [o] [b] pos) (HW (LU r ta tb)):=by
 intro p s U H Q I h
 refine wpAny_isTrue_Compare1 (cR (m p s U H _ I h) λ v S ⟨x,d,i,R,w⟩=>cR (n p S U d _ i w) λ u E ⟨y,f,j,C,A⟩ =>
   cR (t p E U f x y v u _ j R C A) λ c F ⟨z,g,l,D,k,e,B⟩=>?_) q
 subst e
 cases D
 exact abr ⟨g,l,B⟩
def ID (r R:R2) (t tb T:TE):TE:=λ U H Q=>t U H λ x a=>tb U a λ y b=>r x y b λ z h=>∃ k,z = .bl k /\
 (if k=true then T U h λ w c=>R y w c Q else Q (.bl false) h)
def Hb {o N:CmpOp} {r R:R2} (E:jn X (compareOp o) r) (Y:jn X (compareOp N) R) (A:PE X a ta) (B:PE X b tb) (C:PE X c tc) (D:lastMarks [o,N] [b,c]=false:=by with_unfolding_all rfl):PE X (.Compare a [o,N] [b,c] pos) (ID r R ta tb tc):=by
 intro p s U H Q I h
 refine Compare_chain (cR (A p s U H _ I h) λ v S ⟨x,j,n,K,F⟩=>chain_link (cR (B p S U j _ n F) λ u O ⟨y,l,t,g,G⟩ =>
   cR (E p O U l x y v u _ t K g G) λ d T ⟨z,f,i,L,k,e,q⟩=>?_)) D
 subst e
 cases L
 refine abr ?_
 cases k with
 | false=>exact ite_ff ⟨.bl false,f,i,rfl,q⟩
 | true=>exact ite_tt (chain_last (cR (C p T U f _ i q) λ W V ⟨z',m,w,M,J⟩=>Y p V U m y z' u W Q w g M J))
def jP {o N:CmpOp} {r R:R2} (K:jn X (compareOp o) r) (xt:jn X (compareOp N) R) (D:PE X a ta) (F:PE X b tb) (G:PE X c tc) (J:lastMarks [o,N] [b,c]=false:=by with_unfolding_all rfl):PT X (.Compare a [o,N] [b,c] pos) (HW (ID r R ta tb tc)):=by
 intro p s U H Q I h
 refine isTrue_chain (cR (D p s U H _ I h) λ v s1 ⟨x,j,t,V,M⟩=>test_link (cR (F p s1 U j _ t M) λ u s2 ⟨y,l,w,g,O⟩ =>
   cR (K p s2 U l x y v u _ w V g O) λ d s3 ⟨z,f,i,W,k,e,q⟩=>?_)) J
 subst e
 cases W
 refine abr ?_
 cases k with
 | false =>
   obtain ⟨k',E,L⟩:=q
   cases E
   exact ite_ff ⟨f,i,L⟩
 | true =>
   refine ite_tt (test_last (cR (G p s3 U f _ i q) λ w' s4 ⟨z',m,A,Y,S⟩=>cR (xt p s4 U m y z' u w' _ A g Y S) λ d' s5 ⟨z2,n,B,r5,k2,C,T⟩=>?_))
   subst C
   cases r5
   exact abr ⟨n,B,T⟩
def tO:(sizeLine:Nat)<2 ^ 63:=by rw [sizeLine_eq];decide
def vals1 {x:V} {us:aZ} (r:Vals [x] us):∃ u,us=[u]/\RelV x u:=by
 cases r with
 | cons R a=>cases a;exact ⟨_,rfl,R⟩
def vals2 {x y:V} {us:aZ} (r:Vals [x,y] us):∃ u w',us=[u,w']/\RelV x u/\RelV y w':=by
 cases r with
 | cons R a =>
   cases a with
   | cons b c=>cases c;exact ⟨_,_,rfl,R,b⟩
def Iq:iI X (.builtin "abs") (λ xs H Q=>∃ i,xs=[.int i]/\Q (.int (if i<0 then -i else i)) H):=by
 intro p s U H xs a Q I r h
 obtain ⟨i,rfl,q⟩:=h
 obtain ⟨u,rfl,t,rfl⟩:=vals1 r
 exact call_abs_int λ u T=>⟨.int (if i<0 then -i else i),H,I.tok _,⟨_,rfl⟩,q⟩
def qB (b:X.calm=true):iI X (.builtin "max") (λ xs H Q=>∃ i j,xs=[.int i,.int j]/\Q (.int (if j > i then j else i)) H):=by
 intro p s U H xs d Q I r h
 obtain ⟨i,j,rfl,q⟩:=h
 obtain ⟨u,w,rfl,⟨t,rfl⟩,⟨t',rfl⟩⟩:=vals2 r
 refine max_two_ints (I.ok.hd b) λ c T k=>⟨_,H,I.kept k,?_,q⟩
 by_cases a:j > i
 . rw [aaE a,aaE a];exact ⟨_,rfl⟩
 . rw [aaA a,aaA a];exact ⟨_,rfl⟩
def DQ (b:X.calm=true):iI X (.builtin "min") (λ xs H Q=>∃ i j,xs=[.int i,.int j]/\Q (.int (if j<i then j else i)) H):=by
 intro p s U H xs d Q I r h
 obtain ⟨i,j,rfl,q⟩:=h
 obtain ⟨u,w,rfl,⟨t,rfl⟩,⟨t',rfl⟩⟩:=vals2 r
 refine min_two_ints (I.ok.hd b) λ c T k=>⟨_,H,I.kept k,?_,q⟩
 by_cases a:j<i
 . rw [aaE a,aaE a];exact ⟨_,rfl⟩
 . rw [aaA a,aaA a];exact ⟨_,rfl⟩
def mI:iI X (.type "int") (λ xs H Q=>(∃ i,xs=[.int i]/\Q (.int i) H)\/∃ k,xs=[.bl k]/\Q (.int (if k then 1 else 0)) H):=by
 intro p s U H xs a Q I r h
 rcases h with ⟨i,rfl,q⟩|⟨k,rfl,q⟩
 . obtain ⟨u,rfl,t,rfl⟩:=vals1 r
   exact call_int_int ⟨.int i,H,I,⟨_,rfl⟩,q⟩
 . obtain ⟨u,rfl,R⟩:=vals1 r
   cases R
   exact call_int_bool ⟨.int (if k then 1 else 0),H,I.tok _,⟨_,rfl⟩,q⟩
end
structure BJ (h:aU) (x dx C:ak) (mA:cZ):Prop where
 obj:h.get? x=some (W.instObj C dx)
 ns:h.Ns1 dx mA
 ne:dx≠x
def Ft {h:aU} {dx:ak} {m:cZ} (n:h.Ns1 dx m):∃ O,h.get? dx=some O/\∀ name,W.lookIn name O=some (m name):=by
 obtain ⟨o,es,E,d,H,b,_,c⟩:=n
 refine ⟨o,d,λ name=>?_⟩
 have e:=c name
 unfold nsFind findBy at e
 rw [<- Array.find?_toList] at e
 unfold W.lookIn
 rw [H]
 dsimp only
 split
 . rename_i y q
   rw [q] at e
   exact abo some e
 .
  rename_i q
  rw [q] at e
  have a:es.toList.any (·.refKey)=false:=by
    rw [List.any_eq_false]
    intro y f
    obtain ⟨z,t,C⟩:=b y (Array.mem_toList_iff.mp f)
    simp [DictEntry.refKey,C]
  have A:¬ es.toList.any (·.refKey)=true:=by rw [a];exact aaB
  rw [aaA A]
  exact abo some e
def BJ.look {h:aU} {x dx C:ak} {m:cZ} (I:BJ h x dx C m):∃ o,W.InstAt h x (W.instObj C dx) C (some o)/\∀ name,W.lookIn name o=some (m name) :=
 let ⟨o,a,H⟩:=Ft I.ns
 ⟨o,⟨I.obj,rfl,rfl,a⟩,H⟩
section
variable {prog:bi} {w:aV} {A:Around} {E:av->Shared->Prop} {s:Shared} {K:aA} {x dx C f:ak} {mA:cZ} {name:Str} {v:av}
def get_map {e:Bool} {Q:av->Shared->Prop} (X:K.In s.heap) (I:BJ s.heap x dx C mA) (b:W.plainGet K C name=true) (c:W.hasDictIn K C=true) (a:W.findIn K (.ref C) name=some none) (f:mA name=some v) (H:W.handedIn v=true) (h:Q v { s with toks:=s.toks+1 }) :
   wpAny (model prog w) A (getAttr (.ref x) name e) Q E s:=by
 obtain ⟨o,J,d⟩:=I.look
 exact W.get_value X J (W.plainGet_of b).1 (W.findObj_own c a rfl (by rw [d,f])) H h
def G0 {pl:Sem Bool} {Q:av×aZ->Shared->Prop} (X:K.In s.heap) (I:BJ s.heap x dx C mA) (H:W.plainGet K C name=true) (a:W.findIn K (.ref C) name=some (some (.ref f))) (c:W.isFn K (.ref f)=true) (d:mA name=none) (h:Q (.ref f,[.ref x]) s) :
   wpAny (model prog w) A (getMethod (.ref x) name pl) Q E s:=by
 obtain ⟨o,J,b⟩:=I.look
 exact W.method_fn X J (W.plainGet_of H).1 (W.plainGet_of H).2 a (abW.mp c) (by show (W.lookIn name o).map (·.isSome)=some false;rw [b,d];rfl) h
def IZ {n:cx} {Q:Unit->Shared->Prop} (X:K.In s.heap) (I:BJ s.heap x dx C mA) (k:W.findIn K (.ref C) "__setattr__" = some (some (.builtin "object.__setattr__"))) (j:W.plainOver K C=true) (l:W.takerIn K C name=some none) (i:W.hasDictIn K C=true) (hw:PySem.Within mA n) (hsz:n.length<=sizeLine) (h:∀ h',BJ h' x dx C (λ y=>if y=name then some v else mA y)->Heap.SameBut dx s.heap h'->Q () { s with heap:=h',toks:=s.toks+2 }) :
   wpAny (model prog w) A (setAttr (.ref x) name v) Q E s:=by
 obtain ⟨t,J,p⟩:=I.look
 refine W.set_plain X J k (W.osa_open (s:={ s with toks:=s.toks+1 }) (r:=none) X J j l λ b=>?_)
 obtain ⟨o,g,q⟩:=W.any_some i
 have m:s.heap.get? x=some ⟨.ref C,some dx,.plain,#[]⟩:=I.obj
 refine aaa (aan (aaa (aaa (wpAny_loadPart m (aaa (W.Looks.here (s:={ s with toks:=s.toks+1 }) (W.looks_clsIn X g) ?_))))))
 rw [q]
 refine aan (a:=some dx) (aaa (aan (aaa ?_)))
 refine wpAny_nsSet1 (s:={ s with toks:=s.toks+1 }) I.ns λ h' T F=>?_
 obtain ⟨O,f,e,d,c,H⟩:=T.count (PySem.Within.cons name v hw)
 refine aaa (wpAny_lookBehind d (by rw [c];exact pastItsLine_dict (aaz H (by rw [aaW];lia))) ?_)
 exact aan (h _ ⟨(F.2 _ (acv I.ne)).trans I.obj,T,I.ne⟩ F)
def GY {R:Result->Shared->Prop} {vs:aZ} {k:List (Str×av)} (X:K.In s.heap) (b:W.makesIn K C=true) (a:W.findIn K (.ref C) "__init__" = some (some (.ref f))) (H:W.typeIn K (.ref f)=some (.type "function")) (h:codeAny (model prog w) (A.under (.builtin "type.__call__" ⟨.ref C::vs,k⟩)) (.call (.ref f) ⟨.ref (s.heap.objs.size+1)::vs,k⟩) (W.InitBack (s.heap.objs.size+1) R)
     { s with heap:=(s.heap.push W.emptyDict).push (W.instObj C s.heap.objs.size)}) :
   codeAny (model prog w) A (.call (.ref C) ⟨vs,k⟩) R s:=by
 obtain ⟨c,g,d,t,o⟩:=s
 exact W.make_core (W.makes_of X b) (W.looks_findIn X a) (λ S=>W.bind_fn X S H) (.inl rfl) h
end
def aL (f:Str) (v:V):List (Str×V)->List (Str×V)
 | []=>[(f,v)]
 | (g,x)::r=>if g=f then (g,v)::r else (g,x)::aL f v r
theorem rZ (f g:Str) (v:V):∀ F:List (Str×V),(aL f v F).lookup g=if g=f then some v else F.lookup g
 | []=>by
   show List.lookup g [(f,v)]=_
   by_cases h:g=f
   . have H:(g == f)=true:=abW.mpr h
     simp only [List.lookup,H,aaE h]
   . have H:(g == f)=false:=abj.mpr h
     simp only [List.lookup,H,aaA h]
 | (k,x)::r=>by
   have i:=rZ f g v r
   rw [show aL f v ((k,x)::r)=(if k=f then (k,v)::r else (k,x)::aL f v r) from rfl]
   by_cases a:k=f
   .
    rw [aaE a]
    by_cases h:g=k
    . have H:(g == k)=true:=abW.mpr h
      simp only [List.lookup,H,aaE (h.trans a)]
    . have H:(g == k)=false:=abj.mpr h
      simp only [List.lookup,H,aaA (λ e:g=f=>h (e.trans a.symm))]
   .
    rw [aaA a]
    by_cases h:g=k
    . have H:(g == k)=true:=abW.mpr h
      simp only [List.lookup,H,aaA (λ e:g=f=>a (h.symm.trans e))]
    . have H:(g == k)=false:=abj.mpr h
      simp only [List.lookup,H]
      exact i
theorem qP (f:Str) (v:V):∀ F:List (Str×V),f∈(aL f v F).map (·.1)/\∀ g,g∈F.map (·.1)->g∈(aL f v F).map (·.1)
 | []=>⟨by simp [aL],λ g h=>by simp at h⟩
 | (k,x)::r=>by
   obtain ⟨i,I⟩:=qP f v r
   rw [show aL f v ((k,x)::r)=(if k=f then (k,v)::r else (k,x)::aL f v r) from rfl]
   by_cases H:k=f
   . rw [aaE H]
     subst H
     exact ⟨by simp,λ g h=>by simpa using h⟩
   .
    rw [aaA H]
    refine ⟨?_,λ g h=>?_⟩
    . rw [aaP]
      exact aai _ i
    . rw [aaP] at h |-
      rcases aad.mp h with e|e
      . exact aad.mpr (.inl e)
      . exact aai _ (I g e)
theorem rS (f:Str) (v:V):∀ F:List (Str×V),(aL f v F).length<=F.length+1
 | []=>by simp [aL]
 | (k,x)::r=>by
   have i:=rS f v r
   rw [show aL f v ((k,x)::r)=(if k=f then (k,v)::r else (k,x)::aL f v r) from rfl]
   by_cases h:k=f
   . rw [aaE h,aaW,aaW];lia
   . rw [aaA h,aaW,aaW];lia
def kS.some_of {o:jk} (r:kS (some v) o):∃ u,o=some u/\RelV v u:=by
 cases o with
 | none=>exact (show False from r).elim
 | some u=>exact ⟨u,rfl,r⟩
def kS.none_of {o:jk} (r:kS none o):o=none:=by
 cases o with
 | none=>rfl
 | some u=>exact (show False from r).elim
def ED {u:av} (r:RelV v u):W.handedIn u=true:=by
 cases v with
 | cB=>cases (show u=Value.none from r);rfl
 | bl b=>cases (show u=Value.bool b from r);rfl
 | int i=>obtain ⟨t,e⟩:=(show ∃ t,u=Value.int i t from r);cases e;rfl
 | str x=>obtain ⟨t,e⟩:=(show ∃ t,u=Value.str x t from r);cases e;rfl
 | Ey b=>obtain ⟨t,e⟩:=(show ∃ t,u=Value.bytes b t from r);cases e;rfl
 | LB b=>obtain ⟨t,e⟩:=(show ∃ t,u=Value.float b t from r);cases e;rfl
 | ref a=>cases (show u=Value.ref a from r);rfl
 | ty n=>cases (show u=Value.type n from r);rfl
section
variable {P:bi} {w:aV} {H:Hp} {h:aU} {a C dx:ak} {fs:List (Str×V)}
def tD (c:mQ P w H h) (e:H a=some (.ins C dx fs)):∃ m,BJ h a dx C m/\(∀ f,kS (fs.lookup f) (m f))/\PySem.Within m (fs.map (·.1))/\fs.length<=1000/\H dx=some (.own a):=by
 obtain ⟨d,z,N,o,m,n,r,q⟩:=(show dF P w H h a (.ins C dx fs) from c a _ e)
 exact ⟨m,⟨o,n,N⟩,r,q,z,d⟩
end
structure zJ (K:aA) (C:ak):Prop where
 pg:W.plainGet K C Str.empty=true
 hd:W.hasDictIn K C=true
 po:W.plainOver K C=true
 sa:W.findIn K (.ref C) "__setattr__" = some (some (.builtin "object.__setattr__"))
def zJ.get {K:aA} {C:ak} (c:zJ K C) (f:Str):W.plainGet K C f=true:=c.pg
def cY (K:aA) (C:ak) (f:Str):Prop:=W.findIn K (.ref C) f=some none
def cY.RT {K:aA} {C:ak} {f:Str} (n:cY K C f):W.takerIn K C f=some none:=by
 unfold W.takerIn
 rw [show W.findIn K (.ref C) f=some none from n]
 rfl
structure Meth (K:aA) (C:ak) (m:Str) (f:ak):Prop where
 at_:W.findIn K (.ref C) m=some (some (.ref f))
 fn:W.isFn K (.ref f)=true
 kp:W.keepIn K (.ref f)=true
section
variable {X:Cx} {pins:List (ak×Obj)} {U:St} {H:Hp} {s:Shared} {a C dx:ak} {fs:List (Str×V)} {f:Str} {v:V} {A:Around} {E:av->Shared->Prop}
def Cf {b:Bool} {Q:av->Shared->Prop} (I:Inv X pins U H s) (e:H a=some (.ins C dx fs)) (c:zJ X.K C) (n:cY X.K C f) (l:fs.lookup f=some v) (h:∀ u s',Inv X pins U H s'->RelV v u->Q u s'):wpAny (model X.prog X.w) A (getAttr (.ref a) f b) Q E s:=by
 obtain ⟨m,O,r,Z,Z,Z⟩:=tD I.cM e
 obtain ⟨u,d,R⟩:=kS.some_of (v:=v) (o:=m f) (by rw [<- l];exact r f)
 exact get_map I.oP O (c.get f) c.hd n d (ED R) (h u _ (I.tok _) R)
def tL {m:Str} {g:ak} {pl:Sem Bool} {Q:av×aZ->Shared->Prop} (I:Inv X pins U H s) (e:H a=some (.ins C dx fs)) (c:zJ X.K C) (k:Meth X.K C m g) (l:fs.lookup m=none) (h:Q (.ref g,[.ref a]) s):wpAny (model X.prog X.w) A (getMethod (.ref a) m pl) Q E s:=by
 obtain ⟨M,O,r,Z,Z,Z⟩:=tD I.cM e
 have b:M m=none:=kS.none_of (by rw [<- l];exact r m)
 exact G0 I.oP O (c.get m) k.at_ k.fn b h
def Bw {y:V} {u:av} {Q:Unit->Shared->Prop} (I:Inv X pins U H s) (e:H a=some (.ins C dx fs)) (c:zJ X.K C) (n:cY X.K C f) (B:fs.length<1000) (R:RelV y u) (h:∀ s',Inv X pins U (upd H a (.ins C dx (aL f y fs))) s'->Q () s'):wpAny (model X.prog X.w) A (setAttr (.ref a) f u) Q E s:=by
 obtain ⟨m,O,r,W,Z,i⟩:=tD I.cM e
 have v:(fs.map (·.1)).length<=sizeLine:=by rw [OG,sizeLine_eq];lia
 refine IZ I.oP O c.sa c.po n.RT c.hd W v λ k d S=>h _ ?_
 have p:∃ o,k.get? dx=some o:=let ⟨o,_,_,j,_⟩:=d.ns;⟨o,j⟩
 refine I.write (x:=a) (e:=dx) (by rw [e];exact True.intro) (.inr i) (λ b q l z=>(S.2 b l).trans z) p ?_
 refine ⟨by rw [ar O.ne];exact i,?_,O.ne,d.obj,_,d.ns,λ g=>?_,λ g t=>?_⟩
 . have:=rS f y fs;lia
 .
  show kS ((aL f y fs).lookup g) (if g=f then some u else m g)
  rw [rZ]
  by_cases q:g=f
  . rw [aaE q,aaE q];exact R
  . rw [aaA q,aaA q];exact r g
 .
  by_cases q:g=f
  . rw [q];exact (qP f y fs).1
  . refine (qP f y fs).2 g (W g λ z=>t ?_)
    show (if g=f then some u else m g)=none
    rw [aaA q];exact z
def Inv.made (I:Inv X pins U H s):Inv X pins U (upd (upd H s.heap.objs.size (.own (s.heap.objs.size+1))) (s.heap.objs.size+1) (.ins C s.heap.objs.size []))
   { s with heap:=(s.heap.push W.emptyDict).push (W.instObj C s.heap.objs.size)}:=by
 have E:(s.heap.push W.emptyDict).get? s.heap.objs.size=some W.emptyDict:=aaQ s.heap rfl
 have c:((s.heap.push W.emptyDict).push (W.instObj C s.heap.objs.size)).get? (s.heap.objs.size+1)=some (W.instObj C s.heap.objs.size):=by
   have:=aaQ (s.heap.push W.emptyDict) (o:=W.instObj C s.heap.objs.size) rfl
   rwa [act] at this
 have d:(s.heap.push W.emptyDict).Ns s.heap.objs.size (λ Z=>none):=⟨W.emptyDict,#[],_,E,rfl,(λ e h=>absurd h (by simp)),λ Z=>rfl⟩
 have i:=I.laid (a:=s.heap.objs.size) (o:=.own (s.heap.objs.size+1)) (h':=s.heap.push W.emptyDict) (t':=s.toks) (λ b u q=>aak _ q) (aaj _) ⟨_,E⟩
 refine i.laid (a:=s.heap.objs.size+1) (o:=.ins C s.heap.objs.size []) (t':=s.toks) (λ b u q=>aak _ q) (Nat.le_of_eq (act _ _)) ?_
 have n:s.heap.objs.size≠s.heap.objs.size+1:=aaL (acm _)
 refine ⟨by rw [ar n,ag],aaT _,n,c,λ Z=>none,(Heap.Ns1.of_empty d).at λ o q=>aak _ q,λ Z=>True.intro,λ y f=>absurd rfl f⟩
def JR {prog:bi} {w:aV} {env:Env} {e:Expr} {f:Str} {p:Pos} {s:Shared} {Q:av->Shared->Prop} (H:attributeBase e f env (eval e env)=eval e env) (h:wpAny (model prog w) A (eval e env) (λ o S=>wpAny (model prog w) A (getAttr o f true) Q E S) E s):wpAny (model prog w) A (eval (.Attribute e f p) env) Q E s :=
 Attribute_any_ h (by rw [arm_eval_Attribute,H])
end
inductive P8 (K:aA) (f:Str) (Q:VK) (x:V) (H1:Hp):Prop|mk (a C dx:ak) (fs:List (Str×V)) (v:V) (h1:x = .ref a) (h2:H1 a=some (.ins C dx fs)) (h3:zJ K C) (h4:cY K C f) (h5:fs.lookup f=some v) (q:Q v H1)
def Xj (K:aA) (t:TE) (f:Str):TE:=λ U H Q=>t U H (P8 K f Q)
def V5 (K:aA) (t T:TE) (f:Str):TS:=λ D U H=>T U H λ y b=>t U b λ x h=>∃ a C d F,x = .ref a/\h a=some (.ins C d F)/\zJ K C/\cY K C f/\F.length<1000 /\
 D.nx U (upd h a (.ins C d (aL f y F)))
section
variable {X:Cx} {o e value:Expr} {f:Str} {pos pos':Pos} {ta tv:TE}
def aM (j:PE X e ta) (g:attributeBase e f X.env (eval e X.env)=eval e X.env):PE X (.Attribute e f pos) (Xj X.K ta f):=by
 intro p s U H Q I h
 refine JR g (cR (j p s U H _ I h) λ u S ⟨x,b,i,R,a,C,D,F,v,ex,E,c,n,l,q⟩=>?_)
 subst ex
 obtain rfl:u=Value.ref a:=R
 exact Cf i E c n l λ m k d r=>⟨v,b,d,r,q⟩
def di (g:PE X o ta) (k:PE X value tv) (j:swapsWith value (some (.Attribute o f pos')) pos.line X.env=pure false):PS X (.Assign [.Attribute o f pos'] value pos) (V5 X.K ta tv f):=by
 intro p s U H D I h
 refine plainObj_wpAny_Assign_Attribute (cR (k p s U H _ I h) λ u S ⟨y,b,i,R,q⟩=>cR (g p S U b _ i q) λ O v ⟨x,m,d,r,a,C,t,F,ex,E,c,n,l,Q⟩=>?_) j
 subst ex
 obtain rfl:O=Value.ref a:=r
 exact Bw d E c n l R λ w e=>⟨U,_,e,Q⟩
end
section
variable {X:Cx} {pins:List (ak×Obj)} {U:St} {H:Hp} {s:Shared} {A:Around} {E:av->Shared->Prop} {Q:av->Shared->Prop} {c:av} {b:Bool}
inductive rH (K:aA) (H:Hp):V->av->Prop where
 | cB:rH K H .cB (.type "NoneType")
 | bl (x:Bool):rH K H (.bl x) (.type "bool")
 | int (i:Int):rH K H (.int i) (.type "int")
 | str (x:Str):rH K H (.str x) (.type "str")
 | LB (x:UInt64):rH K H (.LB x) (.type "float")
 | lst {a:ak} {xs:ay} (e:H a=some (.lst xs)):rH K H (.ref a) (.type "list")
 | Ak {a:ak} {o:Obj} {xs:ay} (e:H a=some (.Ak o (.lst xs))):rH K H (.ref a) (.type "list")
 | tup {a:ak} {xs:ay} (e:H a=some (.tup xs)):rH K H (.ref a) (.type "tuple")
 | dK {a:ak} {aC:List (Key×V)} (e:H a=some (.dK aC)):rH K H (.ref a) (.type "dict")
 | dT {a:ak} {aC:List (List Key×V)} (e:H a=some (.dT aC)):rH K H (.ref a) (.type "dict")
 | ins {a C dx:ak} {fs:List (Str×V)} (e:H a=some (.ins C dx fs)) (cl:zJ K C) (ha:W.findIn K (.ref C) "__class__" = some (some (.builtin "object.__class__")))
     (hn:W.specialIn K (.builtin "object.__class__") "__get__" = some (some (.builtin "getset_descriptor.__get__"))) (TU:W.takesIn K (.builtin "object.__class__")=some true)
     (hm:W.mroIn K C (.type "object")=some true):rH K H (.ref a) (.ref C)
def ES {x:V} {u t:av} (I:Inv X pins U H s) (r:RelV x u) (ty:rH X.K H x t) (e:W.kitOne X.K t c=some b) (h:∀ G,Q (.bool b) { s with toks:=G }) :
   wpAny (model X.prog X.w) A (call (.builtin "isinstance") [u,c]) Q E s:=by
 cases ty with
 | cB=>cases (show u=Value.none from r);exact acj W.kitx_none I.oP True.intro e (λ z=>nomatch z) h
 | bl y=>cases (show u=Value.bool y from r);exact acj W.kitx_bool I.oP True.intro e (λ z=>nomatch z) h
 | int i=>obtain ⟨t,q⟩:=(show ∃ t,u=Value.int i t from r);cases q;exact acj W.kitx_int I.oP True.intro e (λ z=>nomatch z) h
 | str y=>obtain ⟨t,q⟩:=(show ∃ t,u=Value.str y t from r);cases q;exact acj W.kitx_str I.oP True.intro e (λ z=>nomatch z) h
 | LB y=>obtain ⟨t,q⟩:=(show ∃ t,u=Value.float y t from r);cases q;exact acj W.kitx_float I.oP True.intro e (λ z=>nomatch z) h
 | @lst a g d =>
   cases (show u=Value.ref a from r)
   obtain ⟨Z,Z,n,Z,f⟩:=(show dF X.prog X.w H s.heap a (.lst g) from I.cM a _ d)
   exact acj W.kitx_list I.oP ⟨_,f,rfl⟩ e (λ z=>nomatch z) h
 | @Ak a F g d =>
   cases (show u=Value.ref a from r)
   obtain ⟨Z,Z,Z,n,Z,f⟩:=(show dF X.prog X.w H s.heap a (.Ak F (.lst g)) from I.cM a _ d)
   exact acj W.kitx_list I.oP ⟨_,f,rfl⟩ e (λ z=>nomatch z) h
 | @tup a g d =>
   cases (show u=Value.ref a from r)
   obtain ⟨Z,Z,Z,p⟩:=(show dF X.prog X.w H s.heap a (.tup g) from I.cM a _ d)
   obtain ⟨o,f,j,Z⟩:=p
   exact acj W.kitx_tuple I.oP ⟨o,f,j⟩ e (λ z=>nomatch z) h
 | @dK a k d =>
   cases (show u=Value.ref a from r)
   obtain ⟨Z,Z,S,Z,p⟩:=(show dF X.prog X.w H s.heap a (.dK k) from I.cM a _ d)
   obtain ⟨o,es,m,f,j,Z⟩:=p
   exact acj W.kitx_dict I.oP ⟨o,f,j.1⟩ e (λ z=>nomatch z) h
 | @dT a k d =>
   cases (show u=Value.ref a from r)
   obtain ⟨Z,Z,g,Z,o,es,m,f,j,Z⟩:=(show dF X.prog X.w H s.heap a (.dT k) from I.cM a _ d)
   exact acj W.kitx_dict I.oP ⟨o,f,j.1⟩ e (λ z=>nomatch z) h
 | @ins a C L M d l v D T B =>
   cases (show u=Value.ref a from r)
   obtain ⟨N,O,Z⟩:=tD I.cM d
   obtain ⟨R,J,Z⟩:=O.look
   exact acj (W.kitx_own (l.get _) l.hd v D T B) I.oP J e (λ z=>nomatch z) h
end
structure cL (k:Nat) (A:Around):Prop where
 hd:A.handled=none
 dp:A.depth+3 * k+5<recursionLimit
 un:A.units+16 * k+200<cLine
def cL.mono {j k:Nat} {A:Around} (r:cL k A) (h:j<=k):cL j A:=⟨r.hd,by have:=r.dp;lia,by have:=r.un;lia⟩
theorem cL.deeper {k:Nat} {A:Around} (r:cL (k+1) A) (env:Env):cL k (A.deeper env) :=
 ⟨r.hd,by have:=r.dp;show A.depth+1+3 * k+5<_;lia,by have:=r.un;show A.units+3+16 * k+200<_;lia⟩
def BN {A:Around} {C:ak} {us:aZ} {k:List (Str×av)}:(A.under (.builtin "type.__call__" ⟨.ref C::us,k⟩)).depth=A.depth+1:=by
 first|rfl|simp [Around.under,Code.weight,Code.isCreation,Code.isGuard,Code.isCaller,Code.frames,Code.isFrame,guardIds]
def Co {A:Around} {C:ak} {us:aZ} {k:List (Str×av)}:(A.under (.builtin "type.__call__" ⟨.ref C::us,k⟩)).units=A.units+1:=by
 first|rfl|simp [Around.under,Code.cUnits,Code.frames,Code.isFrame]
def cL.make {k:Nat} {A:Around} (r:cL (k+1) A) (C:ak) (us:aZ) (K:List (Str×av)):cL k (A.under (.builtin "type.__call__" ⟨.ref C::us,K⟩)) :=
 ⟨r.hd,by have:=r.dp;rw [BN];lia,by have:=r.un;rw [Co];lia⟩
theorem cL.depth {k:Nat} {A:Around} (r:cL k A):A.depth<recursionLimit:=by have:=r.dp;lia
theorem cL.units {k:Nat} {A:Around} (r:cL k A):A.units+64<cLine:=by have:=r.un;lia
def IF:TA:=λ Z H Q=>Q [] H
def Hv (t:TE) (T:TA):TA:=λ U H Q=>t U H λ x h=>T U h λ X a=>Q (x::X) a
section
variable {X:Cx} {e:Expr} {es:List Expr} {te:TE} {t:TA} {pos:Pos}
def af:PA X [] IF:=λ Z Z Z Z H Q I h=>acr ⟨[],H,I,.nil,h⟩
def aa (d:PE X e te) (f:PA X es t) (g:yN X e es:=by rfl):PA X (e::es) (Hv te t):=by
 intro pos p s U H Q I h
 rw [g]
 show wpAny _ _ (spliced ((false,eval e X.env)::backTo pos (starEach es X.env))) _ _ s
 refine abY (cR (d p s U H _ I h) λ u S ⟨x,a,i,r,q⟩=>?_)
 exact cR (f pos p S U a _ i q) λ m l ⟨k,b,c,R,j⟩=>⟨x::k,b,c,.cons r R,j⟩
def RU (t:TA):TE:=λ U H Q=>t U H λ x h=>x.length<=sizeLine/\∀ p,h p=none->Q (.ref p) (upd h p (.tup x))
def XU (t:TA):TE:=λ U H Q=>t U H λ x h=>x.length<=sizeLine/\∀ p,h p=none->Q (.ref p) (upd h p (.lst x))
def cg {x} (h:PA X es t):PE X (.Tuple es x pos) (RU t):=by
 intro p s U H Q I d
 refine wpAny_Tuple_spliced (cR (h pos p s U H _ I d) λ f S ⟨g,a,i,r,z,q⟩=>⟨by rw [<- r.length];exact z,?_⟩)
 have c:a S.heap.objs.size=none:=i.cM.fresh (aaj _)
 refine ⟨.ref S.heap.objs.size,upd a S.heap.objs.size (.tup g),i.laid (t':=S.toks) (λ b u e=>aak _ e) (aaj _) ?_,rfl,q _ c⟩
 exact ⟨z,f,r,⟨_,aaQ _ rfl,rfl,_,rfl⟩⟩
def dA (h:PA X es t):PE X (.List es pos) (XU t):=by
 intro p s U H Q I d
 refine wpAny_List_spliced (cR (h pos p s U H _ I d) λ f S ⟨x,a,i,r,z,q⟩=>⟨by rw [<- r.length];exact z,?_⟩)
 have c:a S.heap.objs.size=none:=i.cM.fresh (aaj _)
 refine ⟨.ref S.heap.objs.size,upd a S.heap.objs.size (.lst x),i.laid (t':=S.toks) (λ b u e=>aak _ e) (aaj _) ?_,rfl,q _ c⟩
 exact ⟨z,f,0,r,aaQ _ rfl⟩
end
abbrev Sp:=ay->Hp->VK->XK->Prop
abbrev FG:=List Env->Hp->Shared->XK->av->Shared->Prop
structure BR (P:bi) (w:aV) (K:aA) (mg:cZ) (base:aU) (A:Around) (outer:List Env) (s:Shared) (H:Hp):Prop where
 frames:A.frames=some outer
 mod:Mod K mg base
 bs:∀ b o,base.get? b=some o->s.heap.get? b=some o/\H b=none
 KA:base.objs.size<=s.heap.objs.size
 oB:s.heap.FunFrames base outer
 Kz:∀ b∈kN outer,H b=none
 cM:mQ P w H s.heap
 bare:AllBare s.gens
def CE (outer:List Env) (P:bi) (w:aV) (H:Hp) (s:Shared) (Q:VK) (u:av) (s':Shared):Prop :=
 ∃ v h,s'.os=s.os/\AllBare s'.gens/\Un (kN outer) [] H h s.heap s'.heap/\mQ P w h s'.heap/\RelV v u/\Q v h
def CR (C:FG) (outer:List Env) (P:bi) (w:aV) (H:Hp) (s:Shared) (Q:VK) (E:XK) (r:Result) (s':Shared):Prop :=
 match r with
 | .ok (.ret u)=>CE outer P w H s Q u s'
 | .ok _=>False
 | .error e=>C outer H s E e s'
structure iz (P:bi) (w:aV) (K:aA) (mg:cZ) (base:aU) (CX:FG) (k:Nat) (f:ak) (fd:FuncData) (ps:cx) (sp:Sp):Prop where
 len:∀ vs H Q E,sp vs H Q E->vs.length=ps.length
 run:∀ (A:Around) (outer:List Env) (s:Shared) (H:Hp) (args:Args) (us:aZ) (vs:ay) (Q:VK) (E:XK),cL k A->BR P w K mg base A outer s H->BindsTo s fd args (ps.zip us)->Vals vs us->sp vs H Q E ->
   codeAny (model P w) A (.call (.ref f) args) (CR CX outer P w H s Q E) s
def iz.imp {P:bi} {w:aV} {K:aA} {m:cZ} {base:aU} {C:FG} {k:Nat} {f:ak} {a:FuncData} {p:cx} {S sp':Sp} (F:iz P w K m base C k f a p S) (h:∀ vs H Q E,sp' vs H Q E->S vs H Q E):iz P w K m base C k f a p sp' :=
 ⟨λ vs H Q E q=>F.len vs H Q E (h _ _ _ _ q),λ A outer s H args u vs Q E d c b g e=>F.run A outer s H args u vs Q E d c b g (h _ _ _ _ e)⟩
def BR.make {P:bi} {w:aV} {K:aA} {m:cZ} {base:aU} {A:Around} {outer:List Env} {s:Shared} (e:BR P w K m base A outer s H) (C:ak) (us:aZ) (k:List (Str×av)) :
   BR P w K m base (A.under (.builtin "type.__call__" ⟨.ref C::us,k⟩)) outer s H:=⟨by first|exact e.frames|(simpa [Around.under,Code.envs,Code.isFrame,pushEnvs] using e.frames),e.mod,e.bs,e.KA,e.oB,e.Kz,e.cM,e.bare⟩
section
variable {X:Cx} {pins:List (ak×Obj)} {U:St} {H:Hp} {s s':Shared}
def Inv.Kb (I:Inv X pins U H s):BR X.prog X.w X.K X.mg X.base X.A X.stack s H :=
 ⟨I.ok.frames,I.ok.mod,I.bs,aaz I.ok.KA I.sz,I.stack,I.yr,I.cM,I.bare⟩
def Inv.after {u:av} (I:Inv X pins U H s) (h:CE X.stack X.prog X.w H s Q u s'):EP X pins U Q u s':=by
 obtain ⟨v,a,O,B,f,c,r,q⟩:=h
 obtain ⟨e,g,d,t,o⟩:=s'
 obtain rfl:o=s.os:=O
 exact ⟨v,a,I.call (h':=e) (g':=g) (d':=d) (t':=t) (ch:=[]) f c B (λ b z=>absurd z (by simp)),r,q⟩
end
def zU (s:Sp) (i:ay) (E:XK) (t:TA):TE:=λ U H Q=>t U H λ v h=>s (v++i) h Q E
inductive M3 (C:ak) (m:Str) (sp:Sp) (ij:ay) (E:XK) (t:TA) (U:St) (Q:VK) (x:V) (H1:Hp):Prop|mk (a dx:ak) (fs:List (Str×V)) (h1:x = .ref a) (h2:H1 a=some (.ins C dx fs)) (h3:fs.lookup m=none) (q:t U H1 λ vs H2=>sp (x::(vs++ij)) H2 Q E)
def AA (C:ak) (m:Str) (s:Sp) (i:ay) (E:XK) (T:TE) (t:TA):TE:=λ U H Q=>T U H (M3 C m s i E t U Q)
def HK (C:ak) (s:Sp) (i:ay) (E:XK) (t:TA):TE:=λ U H Q=>t U H λ V h=>∀ x d,h x=none->h d=none->d≠x ->
 s (.ref x::(V++i)) (upd (upd h d (.own x)) x (.ins C d [])) (λ v a=>v = .cB/\Q (.ref x) a) E
def Binds (K:aA) (f:FuncData) (p:cx) (d:aZ):Prop :=
 ∀ (s:Shared) (u:aZ),K.In s.heap->(u++d).length=p.length->BindsTo s f ⟨u,[]⟩ (p.zip (u++d))
def Binds.all {K:aA} {f:FuncData} {p:cx} (h:∀ us:aZ,us.length=p.length->bindArgs f ⟨us,[]⟩=pure (p.zip us)):Binds K f p []:=λ s us Z H=>by
 rw [aa9] at H |-
 exact .of_eq (h us H)
def Passes (C:FG) (X:Cx) (E:XK):Prop:=∀ (p:List (ak×Obj)) (U:St) (H:Hp) (s:Shared) (e:av) (s':Shared),Inv X p U H s->C X.stack H s E e s'->X.xe e s'
section
variable {X:Cx} {CX:FG} {k:Nat} {f C:ak} {fd:FuncData} {ps:cx} {sp:Sp} {ij:ay} {ds:aZ} {E:XK} {x m:Str} {p pos apos:Pos} {e o:Expr} {es:List Expr} {ta:TE} {t:TA}
def BC {p:List (ak×Obj)} {s:Shared} {us:aZ} {vs:ay} (F:iz X.prog X.w X.K X.mg X.base CX k f fd ps sp) (i:cL k X.A) (c:Binds X.K fd ps ds) (d:Vals ij ds) (j:Passes CX X E) (I:Inv X p U H s) (r:Vals vs us) (h:sp (vs++ij) H Q E):wpAny (model X.prog X.w) X.A (call (.ref f) us) (EP X p U Q) X.xe s:=by
 have R:Vals (vs++ij) (us++ds):=r.append d
 have g:(us++ds).length=ps.length:=by rw [<- R.length];exact F.len _ _ _ _ h
 refine aef (acT (F.run X.A X.stack s H ⟨us,[]⟩ (us++ds) (vs++ij) Q E i I.Kb (c s us I.oP g) R h) λ r s' a=>?_)
 cases r with
 | error e=>exact j p U H s e s' I a
 | ok b =>
   cases b with
   | ret u=>exact I.after a
   | next=>exact False.elim a
   | brk=>exact False.elim a
   | cont=>exact False.elim a
def xp (F:iz X.prog X.w X.K X.mg X.base CX k f fd ps sp) (o:cL k X.A) (l:Gl X x) (n:X.mg x=some (.ref f)) (m:W.keepIn X.K (.ref f)=true) (c:Binds X.K fd ps ds) (d:Vals ij ds) (u:Passes CX X E) (b:PA X (e::es) t) (v:wm x:=by decide) (j:yN X e es:=by rfl) (g:Dv X es pos:=by rfl) :
   PE X (.Call (.Name x p) (e::es) [] pos) (zU sp ij E t):=by
 intro a s U H Q I h
 refine abi (kH I l n ?_ v)
 refine adK (h₀:=X.base) I.ok.mod.Ld m (cR (b pos a s U H _ I h) λ z S ⟨V,y,i,r,q⟩=>⟨i.oP,?_⟩) j g
 exact BC F o c d u i r q
def KC {pl:Sem Bool} (D:PE X o ta) (c:zJ X.K C) (d:Meth X.K C m f) (F:iz X.prog X.w X.K X.mg X.base CX k f fd ps sp) (J:cL k X.A) (z:Binds X.K fd ps ds) (B:Vals ij ds) (M:Passes CX X E) (y:PA X (e::es) t) (N:yN X e es:=by rfl) (G:Dv X es pos:=by rfl) (L:eval (.Call (.Attribute o m apos) (e::es) [] pos) X.env=(do
     let O <- eval o X.env
     standAt apos.atName
     let (f,first) <- holding [O] (getMethod O m pl)
     callWith pos f first (backTo pos (starEach (e::es) X.env)) (backToKw pos (keywordEach [] X.env))):=by rfl) :
   PE X (.Call (.Attribute o m apos) (e::es) [] pos) (AA C m sp ij E ta t):=by
 intro p s U H Q I h
 refine W.methodCall_KW (pl:=pl) (cR (D p s U H _ I h) λ u T ⟨x,j,i,S,a,Y,fs,ex,n,l,q⟩=>?_) L
 subst ex
 obtain rfl:u=Value.ref a:=S
 refine tL i n c d l ?_
 refine adK (first:=[.ref a]) (h₀:=X.base) I.ok.mod.Ld d.kp (cR (y pos p T U j _ i q) λ g s2 ⟨v,V,b,r,R⟩=>⟨b.oP,?_⟩) N G
 exact BC (us:=.ref a::g) (vs:=.ref a::v) F J z B M b (.cons rfl r) R
def FS {pl:Sem Bool} (j:PE X o ta) (c:zJ X.K C) (b:Meth X.K C m f) (F:iz X.prog X.w X.K X.mg X.base CX k f fd ps sp) (n:cL k X.A) (d:Binds X.K fd ps ds) (g:Vals ij ds) (t:Passes CX X E) (r:eval (.Call (.Attribute o m apos) [] [] pos) X.env=(do
     let O <- eval o X.env
     standAt apos.atName
     let (f,first) <- holding [O] (getMethod O m pl)
     callWith pos f first (backTo pos (starEach [] X.env)) (backToKw pos (keywordEach [] X.env))):=by rfl) :
   PE X (.Call (.Attribute o m apos) [] [] pos) (AA C m sp ij E ta IF):=by
 intro p s U H Q I h
 refine W.methodCall_KW (pl:=pl) (cR (j p s U H _ I h) λ u S ⟨x,v,i,R,a,D,y,ex,e,l,q⟩=>?_) r
 subst ex
 obtain rfl:u=Value.ref a:=R
 refine tL i e c b l ?_
 exact W.callWith_K0 (first:=[.ref a]) i.oP b.kp (BC (us:=[.ref a]) (vs:=[.ref a]) F n d g t i (.cons rfl .nil) q)
structure Mk (K:aA) (C f:ak):Prop where
 makes:W.makesIn K C=true
 init:W.findIn K (.ref C) "__init__" = some (some (.ref f))
 fn:W.isFn K (.ref f)=true
 kp:W.keepIn K (.ref C)=true
def Gq {p:List (ak×Obj)} {s:Shared} {us:aZ} {vs:ay} (M:Mk X.K C f) (F:iz X.prog X.w X.K X.mg X.base CX k f fd ps sp) (q:cL (k+1) X.A) (m:Binds X.K fd ps ds) (n:Vals ij ds) (t:Passes CX X E) (I:Inv X p U H s) (r:Vals vs us) (h:∀ x dx,H x=none->H dx=none->dx≠x->sp (.ref x::(vs++ij)) (upd (upd H dx (.own x)) x (.ins C dx [])) (λ v d=>v = .cB/\Q (.ref x) d) E) :
   wpAny (model X.prog X.w) X.A (call (.ref C) us) (EP X p U Q) X.xe s:=by
 have b:=h (s.heap.objs.size+1) s.heap.objs.size (I.cM.fresh (ace _)) (I.cM.fresh (aaj _)) (aaL (acm _))
 have i:=Inv.made (C:=C) I
 have R:Vals (V.ref (s.heap.objs.size+1)::(vs++ij)) (Value.ref (s.heap.objs.size+1)::(us++ds)):=.cons rfl (r.append n)
 have o:(Value.ref (s.heap.objs.size+1)::us++ds).length=ps.length:=by
   have e:=R.length
   rw [F.len _ _ _ _ b] at e
   exact e.symm
 refine aef (GY (f:=f) I.oP M.makes M.init (abW.mp M.fn) (acT (F.run _ X.stack _ _ ⟨Value.ref (s.heap.objs.size+1)::us,[]⟩ (Value.ref (s.heap.objs.size+1)::(us++ds)) _ _ E (q.make C us [])
   (i.Kb.make C us []) (m _ (Value.ref (s.heap.objs.size+1)::us) i.oP o) R b) λ r s' a=>?_))
 cases r with
 | error e=>exact t p U _ _ e s' i a
 | ok l =>
   cases l with
   | ret u =>
     obtain ⟨v,c,g,z,j,y⟩:=i.after a
     subst j
     exact ⟨z,⟨V.ref (s.heap.objs.size+1),c,g,rfl,y⟩⟩
   | next=>exact False.elim a
   | brk=>exact False.elim a
   | cont=>exact False.elim a
def Jt (M:Mk X.K C f) (F:iz X.prog X.w X.K X.mg X.base CX k f fd ps sp) (n:cL (k+1) X.A) (l:Gl X x) (m:X.mg x=some (.ref C)) (c:Binds X.K fd ps ds) (d:Vals ij ds) (o:Passes CX X E) (b:PA X (e::es) t) (u:wm x:=by decide) (j:yN X e es:=by rfl) (g:Dv X es pos:=by rfl) :
   PE X (.Call (.Name x p) (e::es) [] pos) (HK C sp ij E t):=by
 intro a s U H Q I h
 refine abi (kH I l m ?_ u)
 refine adK (h₀:=X.base) I.ok.mod.Ld M.kp (cR (b pos a s U H _ I h) λ y S ⟨V,v,i,r,q⟩=>⟨i.oP,?_⟩) j g
 exact Gq M F n c d o i r q
end
def PK (X:Cx) (b:List Keyword) (t:TA):Prop :=
 ∀ (a:Pos) (p:List (ak×Obj)) (s:Shared) (U:St) (H:Hp) (Q:ay->Hp->Prop),Inv X p U H s->t U H Q->wpAny (model X.prog X.w) X.A (evalAll ((backToKw a (keywordEach b X.env)).map (·.2))) (AP X p U Q) X.xe s
section
variable {X:Cx} {CX:FG} {k:Nat} {f C:ak} {fd:FuncData} {ps ks:cx} {sp:Sp} {E:XK} {x m:Str} {p pos Vk:Pos} {e o:Expr} {es:List Expr} {AM:List Keyword} {te:TE} {t tk:TA} {nm:Option Str}
def Mw:PK X [] IF:=λ Z Z Z Z H Q I h=>wpAny_evalAll_nil ⟨[],H,I,.nil,h⟩
def Ke (d:PE X e te) (f:PK X AM t):PK X (⟨nm,e,Vk⟩::AM) (Hv te t):=by
 intro pos p s U H Q I h
 show wpAny _ _ (evalAll ((do let v <- eval e X.env;standAt pos;pure v)::(backToKw pos (keywordEach AM X.env)).map (·.2))) _ _ s
 refine wpAny_evalAll_cons (aaa (cR (d p s U H _ I h) λ u S ⟨x,a,i,r,q⟩=>aaa (adz (aan ?_))))
 exact cR (f pos p S U a _ i q) λ l k ⟨j,b,c,R,g⟩=>⟨x::j,b,c,.cons r R,g⟩
structure Cv (K:aA) (fd:FuncData) (ps ks:cx) (g:aZ->aZ->aZ) (gV:ay->ay->ay):Prop where
 to:∀ (s:Shared) (us ws:aZ),K.In s.heap->(g us ws).length=ps.length->BindsTo s fd ⟨us,ks.zip ws⟩ (ps.zip (g us ws))
 rel:∀ {vs:ay} {us:aZ} {zs:ay} {ws:aZ},Vals vs us->Vals zs ws->Vals (gV vs zs) (g us ws)
def Ga (s:Sp) (g:ay->ay->ay) (E:XK) (t T:TA):TE:=λ U H Q=>t U H λ v h=>T U h λ z a=>s (g v z) a Q E
variable {g:aZ->aZ->aZ} {gV:ay->ay->ay}
def Kc {p:List (ak×Obj)} {s:Shared} {us W:aZ} {vs z:ay} (F:iz X.prog X.w X.K X.mg X.base CX k f fd ps sp) (i:cL k X.A) (b:Cv X.K fd ps ks g gV) (j:Passes CX X E) (I:Inv X p U H s) (r:Vals vs us) (l:Vals z W) (h:sp (gV vs z) H Q E):wpAny (model X.prog X.w) X.A (call (.ref f) us (ks.zip W)) (EP X p U Q) X.xe s:=by
 have R:=b.rel r l
 have d:(g us W).length=ps.length:=by rw [<- R.length];exact F.len _ _ _ _ h
 refine aef (acT (F.run X.A X.stack s H ⟨us,ks.zip W⟩ (g us W) (gV vs z) Q E i I.Kb (b.to s us W I.oP d) R h) λ r s' a=>?_)
 cases r with
 | error e=>exact j p U H s e s' I a
 | ok c =>
   cases c with
   | ret u=>exact I.after a
   | next=>exact False.elim a
   | brk=>exact False.elim a
   | cont=>exact False.elim a
def FZ (F:iz X.prog X.w X.K X.mg X.base CX k f fd ps sp) (v:cL k X.A) (n:Gl X x) (u:X.mg x=some (.ref f)) (o:W.keepIn X.K (.ref f)=true) (l:Cv X.K fd ps ks g gV) (y:Passes CX X E) (j:PA X (e::es) t) (S:PK X AM tk) (B:(backToKw pos (keywordEach AM X.env)).all (·.1.isSome)=true:=by rfl) (d:(backToKw pos (keywordEach AM X.env)).filterMap (·.1)=ks:=by rfl) (C:wm x:=by decide) (m:yN X e es:=by rfl) (G:((backTo pos (starEach (e::es) X.env)).any (·.1) || (backToKw pos (keywordEach AM X.env)).any (·.1.isNone))=false:=by rfl) :
   PE X (.Call (.Name x p) (e::es) AM pos) (Ga sp gV E t tk):=by
 intro a s U H Q I h
 refine abi (kH I n u ?_ C)
 refine W.callWith_KW (h₀:=X.base) I.ok.mod.Ld o B (cR (j pos a s U H _ I h) λ M D ⟨V,b,c,r,q⟩=>?_) G m
 refine cR (S pos a D U b _ c q) λ N L ⟨O,J,i,R,z⟩=>⟨i.oP,?_⟩
 rw [d]
 exact Kc F v l y i r R z
end
structure aB (N P:cx) (sc:Scope):Prop where
 kind:sc.kind = .function
 co:sc.isCoroutine=false
 gen:sc.isGenerator=false
 nd:N.Nodup
 pre:N.take P.length=P
 par:∀ x∈P,sc.names.lookup x=some .local\/sc.names.lookup x=some .cell
 NV:∀ y∈sc.names,y.2 ≠ .free
theorem wC {k:Str->Option NameKind} {x:Str}:∀ {b:List (Str×av)} {m:cZ},(∀ v,(x,v)∉b)->bindL k b m x=m x
 | [],_,_=>rfl
 | (n,v)::r,m,h=>by
   unfold bindL
   rw [wC λ w hw=>h w (aai _ hw)]
   split
   . have:x≠n:=by rintro rfl;exact h v aas
     simp [this]
   . rfl
theorem wF {k:Str->Option NameKind} {x:Str}:∀ {b:List (Str×av)} {m:cZ},(∀ v,(x,v)∉b)->bindC k b m x=m x
 | [],_,_=>rfl
 | (n,v)::r,m,h=>by
   unfold bindC
   rw [wF λ w hw=>h w (aai _ hw)]
   split
   . rfl
   . have:x≠n:=by rintro rfl;exact h v aas
     simp [this]
theorem wr {k:Str->Option NameKind} {x:Str} {v:av}:∀ {P:cx} {vs:aZ} {i:Nat} {m:cZ},P.Nodup->P[i]?=some x->vs[i]?=some v->k x=some .local ->
   bindL k (P.zip vs) m x=some v
 | [],_,_,_,_,h,_,_=>by simp at h
 | _::_,[],_,_,_,_,h,_=>by simp at h
 | p::P,w::vs,0,m,n,H,a,b=>by
   simp at H a;subst H;subst a
   show bindL k ((p,w)::P.zip vs) m p=_
   unfold bindL
   rw [wC λ v c=>(aaR.mp n).1 (adB c).1,aaE b]
   simp
 | p::P,w::vs,i+1,m,n,H,a,b=>by
   show bindL k ((p,w)::P.zip vs) m x=_
   unfold bindL
   exact wr (i:=i) (aaR.mp n).2 (by simpa using H) (by simpa using a) b
theorem vX {k:Str->Option NameKind} {x:Str} {v:av}:∀ {P:cx} {vs:aZ} {i:Nat} {m:cZ},P.Nodup->P[i]?=some x->vs[i]?=some v->k x≠some .local ->
   bindC k (P.zip vs) m x=some v
 | [],_,_,_,_,h,_,_=>by simp at h
 | _::_,[],_,_,_,_,h,_=>by simp at h
 | p::P,w::vs,0,m,n,H,a,b=>by
   simp at H a;subst H;subst a
   show bindC k ((p,w)::P.zip vs) m p=_
   unfold bindC
   rw [wF λ v c=>(aaR.mp n).1 (adB c).1,aaA b]
   simp
 | p::P,w::vs,i+1,m,n,H,a,b=>by
   show bindC k ((p,w)::P.zip vs) m x=_
   unfold bindC
   exact vX (i:=i) (aaR.mp n).2 (by simpa using H) (by simpa using a) b
def start (N:cx) (vs:ay):St:=vs.map some++List.replicate (N.length - vs.length) none
def iQ (C:FG) (P:bi) (w:aV) (K:aA) (mg:cZ) (base:aU) (N:cx) (q:Str) (S:Scope) (f:ak) (c:av) (A:Around) (outer:List Env) (s:Shared) (H:Hp) (E:XK):Cx where
 prog:=P
 w:=w
 K:=K
 mg:=mg
 base:=base
 A:=A.deeper (envOfC q S s.heap.objs.size f c)
 N:=N
 s₀:=s
 H₀:=H
 env:=envOfC q S s.heap.objs.size f c
 outer:=outer
 stack:=envOfC q S s.heap.objs.size f c::outer
 ex:=[]
 calm:=true
 fn:=λ Z=>true
 pn:=[]
 xe:=λ e s'=>wpAny (model P w) (A.deeper (envOfC q S s.heap.objs.size f c)) (leaving (envOfC q S s.heap.objs.size f c) e) (λ Z Y=>C outer H s E e Y) (λ a Y=>C outer H s E a Y) s'
def yQ {s:Scope} {n:Nat} {x:Str} (h:s.names.lookup x=some .cell):∃ c,(cellsFrom n s.names []).lookup x=some c:=by
 have q:=W.cellsFrom_some s.names n [] (.inl h)
 exact ab7.mp q
def El {F:FG} {P:bi} {w:aV} {K:aA} {M:cZ} {base:aU} {N m:cx} {d:Scope} {f:ak} {C:av} {A:Around} {outer:List Env} {s s1:Shared} {E:XK} {us:aZ} {vs:ay} (S:aB N m d) (L:A.handled=none) (j:BR P w K M base A outer s H) (U:vs.length=m.length) (r:Vals vs us) (x:InCallC s s.heap.objs.size (bindL (envOfC qual d s.heap.objs.size f C).kindOf (m.zip us) λ Z=>none) (cellsFrom (s.heap.objs.size+1) d.names []) (bindC (envOfC qual d s.heap.objs.size f C).kindOf (m.zip us) λ Z=>none) s1) :
   Inv (iQ F P w K M base N qual d f C A outer s H E) [] (start N vs) H s1:=by
 have Q:m.length<=N.length:=by have:=abo List.length S.pre;rw [aaD] at this;lia
 obtain ⟨B,V,rfl,G⟩:=x.done
 have R:∀ b:ak,b∉(iQ F P w K M base N qual d f C A outer s H E).ex:=λ b z=>absurd (show b∈([]:bw) from z) (by simp)
 refine ⟨⟨j.mod,S.kind,rfl,rfl,aaj _,λ y z c B g=>?_,λ y l=>?_,λ y c Z h=>?_,λ Z=>L,Around.frames_deeper j.frames,.inr ⟨rfl,rfl⟩,λ b z=>absurd z (R b),j.bs,j.KA,λ b Z Z=>R b,λ b z=>absurd z (R b),j.oB,j.Kz⟩,
   rfl,j.bare,Un.kept G,⟨_,x.toInCall.ns,λ i y v B g T=>?_⟩,λ y c h=>⟨_,x.cell y c h⟩,j.cM.fresh (aaj _),λ y c h=>?_,λ p o=>absurd (show p∈([]:List (ak×Obj)) from o) (by simp),j.cM.kept G,?_⟩
 . exact name_of_addr x.apart (abB B) (abB g)
 .
  have l:d.names.lookup y=some .cell\/d.names.lookup y=some .free:=l
  rcases l with l|l
  . exact yQ l
  . exact absurd rfl (S.NV _ (abB l))
 . exact abq (x.above y c (abB h))
 .
  have D:i<vs.length:=by
    unfold start at g
    by_cases D:i<vs.length
    . exact D
    . rw [aaS (by simpa using D)] at g
      rw [adW] at g
      split at g<;>cases g
  have J:vs[i]?=some v:=by
    unfold start at g
    rw [aal (by simpa using D),aab] at g
    cases e:vs[i]? with
    | none=>rw [e] at g;cases g
    | some a=>rw [e] at g;cases g;rfl
  obtain ⟨u,I,O⟩:=r.get J
  have o:m[i]?=some y:=by
    rw [<- S.pre,adN (by lia)];exact B
  have t:m.Nodup:=by rw [<- S.pre];exact S.nd.sublist (List.take_sublist _ _)
  refine ⟨u,O,?_⟩
  rcases S.par y (aag o) with k|k
  . exact .inl ⟨k,wr t o I k⟩
  .
   obtain ⟨c,e⟩:=yQ (n:=s.heap.objs.size+1) k
   refine .inr ⟨.inl k,c,e,?_⟩
   have q:=x.cell y c e
   rw [vX t o I (by show d.names.lookup y≠_;rw [k];decide)] at q
   exact q
 . exact j.cM.fresh (abq (x.above y c (abB h)))
 .
  unfold start
  show _=N.length
  rw [aac,OG,ack]
  lia
def HQ {C:FG} {P:bi} {w:aV} {K:aA} {m:cZ} {base:aU} {k:Nat} {f:ak} {name:Str} {p:Arguments} {B:List Stmt} {a:Scope} {O kV D T d ct oc:av} {M od:Option ak} {xO:Array (jk)} {N j:cx} {sp:Sp} (lk:K.lookup f=some ⟨oc,od,.func (W.fnOf name qual p B a O kV D T M d ct),xO⟩) (vg:W.codeIn K d qual=true) (S:aB N j a) (len:∀ vs H Q E,sp vs H Q E->vs.length=j.length) (X:∀ (A:Around) (outer:List Env) (s:Shared) (H:Hp) (vs:ay) (Q:VK) (E:XK),cL k (A.deeper (envOfC qual a s.heap.objs.size f d))->sp vs H Q E ->
     ∃ t,tF (iQ C P w K m base N qual a f d A outer s H E) B t/\t { nx:=λ _ h=>Q .cB h,rt:=Q } (start N vs) H) :
   iz P w K m base C (k+1) f (W.fnOf name qual p B a O kV D T M d ct) j sp:=by
 refine ⟨len,λ A outer s H args us vs Q E l i hb r z=>?_⟩
 have hl:=len _ _ _ _ z
 have G:K.In s.heap:=i.mod.Ld.keeps λ b o e=>(i.bs b o e).1
 have L:s.heap.NoLimit:=i.mod.nolimit.keeps λ b o e=>(i.bs b o e).1
 have U:∀ y∈j.zip us,a.names.lookup y.1=some .local\/(a.names.lookup y.1=some .cell/\((cellsFrom (s.heap.objs.size+1) a.names []).lookup y.1).isSome=true):=λ ⟨n,v⟩ hy=>by
   rcases S.par n (adB hy).1 with q|q
   . exact .inl q
   . exact .inr ⟨q,W.cellsFrom_some _ _ _ (.inl q)⟩
 refine codeAny_call_function l.depth (G _ _ lk) rfl S.co S.gen rfl (W.codeRec_of G vg) (hb _ _ _ _ ?_)
 refine wpAny_newFunctionEnv_cells S.kind U λ env he s1 x=>?_
 subst he
 refine ⟨L.keeps x.toInCall.keep,codeAny_func ?_⟩
 obtain ⟨t,ht,hq⟩:=X A outer s H vs Q E (l.deeper _) z
 have I:Inv (iQ C P w K m base N qual a f d A outer s H E) [] (start N vs) H s1:=El S l.hd i hl r x
 refine aba (ht [] s1 (start N vs) H _ I hq) (λ Y s' g=>?_) λ e s' g=>g
 have F:∀ {c:St} {h:Hp} {v:V} {u:av},Inv (iQ C P w K m base N qual a f d A outer s H E) [] c h s'->RelV v u->Q v h->CE outer P w H s Q u s' :=
   λ {c h v u} J R q=>⟨v,h,J.os,J.bare,J.base,J.cM,R,q⟩
 cases Y with
 | ret u =>
   obtain ⟨v,c,h,J,R,q⟩:=g
   exact F J R q
 | next =>
   obtain ⟨c,h,J,q⟩:=g
   exact F (v:=V.cB) (u:=Value.none) J rfl q
 | brk =>
   obtain ⟨_,_,_,q⟩:=g
   exact False.elim q
 | cont =>
   obtain ⟨_,_,_,q⟩:=g
   exact False.elim q
section
variable {X:Cx} {x:Str} {p pos:Pos} {e:Expr} {es:List Expr} {t:TA} {id T:String} {r:ay->Hp->VK->Prop}
def tCB (r:ay->Hp->VK->Prop) (t:TA):TE:=λ U H Q=>t U H λ v h=>r v h Q
def aS (d:iI X (.builtin id) r) (j:Gl X x) (k:X.mg x=none) (m:bootBuiltins x=some (.builtin id)) (c:PA X (e::es) t) (l:x ≠ "__name__":=by decide) (n:wm x:=by decide) (f:yN X e es:=by rfl) (g:Dv X es pos:=by rfl):PE X (.Call (.Name x p) (e::es) [] pos) (tCB r t):=by
 intro a s U H Q I h
 refine abi (io I j k m ?_ l n)
 exact PyProof.Rows.callWith_builtin1 (cR (c pos a s U H _ I h) λ u S ⟨v,b,i,R,q⟩=>d a S U b v u Q i R q) f g
def cH (d:iI X (.type T) r) (j:Gl X x) (k:X.mg x=none) (m:bootBuiltins x=some (.type T)) (c:PA X (e::es) t) (l:x ≠ "__name__":=by decide) (n:wm x:=by decide) (f:yN X e es:=by rfl) (g:Dv X es pos:=by rfl):PE X (.Call (.Name x p) (e::es) [] pos) (tCB r t):=by
 intro a s U H Q I h
 refine abi (io I j k m ?_ l n)
 exact aaY (cR (c pos a s U H _ I h) λ u S ⟨v,b,i,R,q⟩=>d a S U b v u Q i R q) f g
end
end L2
namespace HT
open PySem PyProof.Rows
def lexLt:List Int->List Int->Bool
 | [],[]=>false
 | [],_::_=>true
 | _::_,[]=>false
 | x::xs,y::ys=>if x=y then lexLt xs ys else decide (x<y)
section
variable {prog:bi} {w:aV} {A:Around} {E:av->Shared->Prop} {s:Shared}
def KE {t b:ak} {vs W:aZ} {Q:av->Shared->Prop} (o:IsTup s.heap t vs.toArray) (m:IsTup s.heap b W.toArray) (i:vs≠[])
   (k:W=[]->Q (.ref t) s) (l:W≠[]->Q (.ref s.heap.objs.size) { s with heap:=s.heap.push { cls:=.type "tuple",data:=.seq (vs++W).toArray }})
   (hsz:vs.length+W.length<=sizeLine):wpAny (model prog w) A (binaryOp .Add (.ref t) (.ref b)) Q E s:=by
 obtain ⟨⟨cls,D,data,sl⟩,H,f,n,g⟩:=id o
 obtain ⟨⟨Y,L,d,c⟩,N,M,j,h⟩:=id m
 simp only at f g M h
 subst f g M h
 have e:vs.toArray++W.toArray=(vs++W).toArray:=by simp
 by_cases a:W=[]
 . exact concat_meets ⟨_,H,rfl⟩ ⟨_,N,rfl⟩ adT seq_tuple_add acW acO (acJ _ _)
     (tuple_addW1 t b vs.toArray W.toArray n j D L sl c (by simpa using i) (by simp [a])) ⟨H,N,k a⟩
 .
  refine concat_meets ⟨_,H,rfl⟩ ⟨_,N,rfl⟩ adT seq_tuple_add acW acO (acJ _ _)
    (tuple_addW2 t b vs.toArray W.toArray n j D L sl c (by simpa using i) (by simpa using a) (by rw [aau,aau];exact hsz)) ⟨H,N,?_⟩
  rw [e]
  exact l a
def yH (n d:Nat):Option Int->Nat
 | none=>d
 | some v=>if v<0 then (v+(n:Int)).toNat else min v.toNat n
def G3 (n d:Nat):yH n d none=d:=rfl
def Kw (n d k:Nat):yH n d (some (k:Int))=min k n:=by
 show (if (k:Int)<0 then ((k:Int)+(n:Int)).toNat else min (k:Int).toNat n)=min k n
 rw [aaA (by lia),abf]
end
end HT
namespace L2
open PySem PySem.Spec PyProof.Rows
variable {H H':Hp} {t':Nat} {U:St}
abbrev TO:=St->Hp->(Option Int->Hp->Prop)->Prop
def PO (X:Cx) (e:Option Expr) (t:TO):Prop :=
 ∀ (p:List (ak×Obj)) (s:Shared) (U:St) (H:Hp) (Q:Option Int->Hp->Prop),Inv X p U H s->t U H Q ->
   wpAny (model X.prog X.w) X.A (evalPart e X.env) (λ u S=>∃ o H',Inv X p U H' S/\IsPart u o/\Q o H') X.xe s
def xc:TO:=λ Z H Q=>Q none H
def IC (t:TE):TO:=λ U H Q=>t U H λ x h=>∃ i,x = .int i/\Q (some i) h
section
variable {X:Cx} {e:Expr} {te:TE} {lo hi:Option Expr} {tl th:TO} {pos p2:Pos}
def gk:PO X none xc:=by
 intro p s U H Q I h
 rw [evalPart_none]
 exact aan ⟨none,H,I,.none,h⟩
def fM (h:PE X e te):PO X (some e) (IC te):=by
 intro p s U H Q I c
 rw [evalPart_some]
 refine cR (h p s U H _ I c) λ u S ⟨x,a,b,r,d⟩=>?_
 obtain ⟨i,rfl,q⟩:=d
 obtain ⟨t,rfl⟩:=r
 exact ⟨some i,a,b,.int i t,q⟩
def Tg (X:Cx) (r:V->Option Int->Option Int->Hp->VK->Prop):Prop :=
 ∀ (p:List (ak×Obj)) (s:Shared) (U:St) (H:Hp) (x:V) (v a b:av) (lo hi:Option Int) (sl:ak) (Q:VK),Inv X p U H s->RelV x v->s.heap.IsSliceOf sl a b .none->IsPart a lo->IsPart b hi->r x lo hi H Q ->
   ∃ T id,typeLookup (.type T) "__getitem__" = pure (some (.builtin id))/\s.TypeIs v T/\wpAny (model X.prog X.w) X.A (getItem v (.ref sl)) (EP X p U Q) X.xe s
def VM (r:V->Option Int->Option Int->Hp->VK->Prop) (t:TE) (c T:TO):TE:=λ U H Q=>t U H λ x h=>c U h λ l a=>T U a λ u b=>r x l u b Q
def eP {r:V->Option Int->Option Int->Hp->VK->Prop} (z:Tg X r) (o:PE X e te) (y:PO X lo tl) (C:PO X hi th):PE X (.Subscript e (.Slice lo hi none p2) pos) (VM r te tl th):=by
 intro p s U H Q I h
 refine Subscript_ (cR (o p s U H _ I h) λ v K ⟨x,f,i,R,F⟩=>?_)
 refine wpAny_Slice (cR (y p K U f _ i F) λ a L ⟨l,g,j,D,G⟩=>cR (C p L U g _ j G) λ c S ⟨u,d,k,E,J⟩=>?_)
 rw [evalPart_none]
 refine aan ?_
 have m:Inv X p U d { S with heap:=S.heap.push { cls:=.type "slice",data:=.fields #[a,c,.none]}}:=k.kept (t':=S.toks) λ b O q=>aak _ q
 obtain ⟨T,id,n,B,t⟩:=z p { S with heap:=S.heap.push { cls:=.type "slice",data:=.fields #[a,c,.none]}} U d x v a c l u S.heap.objs.size Q m R (Heap.IsSliceOf.new ..) D E J
 show wpAny (model X.prog X.w) X.A (subscriptTail e (.Slice lo hi none p2) v (.ref S.heap.objs.size)) (EP X p U Q) X.xe { S with heap:=S.heap.push { cls:=.type "slice",data:=.fields #[a,c,.none]}}
 exact tail_any (ops:=[.ref S.heap.objs.size,v]) B n t (by with_unfolding_all rfl)
def xG (xs:ay) (lo h:Option Int):ay:=(xs.drop (HT.yH xs.length 0 lo)).take (HT.yH xs.length xs.length h - HT.yH xs.length 0 lo)
def rR (xs:ay) (lo h:Option Int):(xG xs lo h).length<=xs.length:=by
 unfold xG
 rw [aaD,adu]
 lia
inductive O7 (K:aA) (x:V) (y:V) (H:Hp) (Q:VK):Prop|mk (a b xs ys:_) (_:x = .ref a) (_:y = .ref b) (_:bR K H a xs) (_:bR K H b ys) (_:xs≠[]) (_:xs.length+ys.length<=sizeLine) (_:(ys=[]->Q (.ref a) H)) (_:(ys≠[]->∀ p,H p=none->Q (.ref p) (upd H p (.tup (xs++ys)))))
def Vals.tf {xs:ay} {us:aZ} (r:Vals xs us):us=[]↔xs=[]:=by
 cases r with
 | nil=>simp
 | cons _ _=>simp
def Jd:jn X (binaryOp .Add) (O7 X.K):=by
 intro p s U H x y v u Q I k l h
 obtain ⟨a,b,m,Y,rfl,rfl,d,e,f,c,i,j⟩:=h
 cases k
 cases l
 obtain ⟨B,R,g,Z⟩:=I.tuple d
 obtain ⟨O,r,p2,Z⟩:=I.tuple e
 refine HT.KE g p2 (λ z=>f (R.tf.mp z)) (λ z=>⟨.ref a,H,I,rfl,i (r.tf.mp z)⟩) (λ z=>?_) (by rw [<- R.length,<- r.length];exact c)
 refine ⟨.ref s.heap.objs.size,_,I.laid (t':=s.toks) (o:=.tup (m++Y)) (λ b n q=>aak _ q) (aaj _) ?_,rfl,j (λ w=>z (r.tf.mpr w)) _ (I.cM.fresh (aaj _))⟩
 exact ⟨by rw [aac];exact c,_,R.append r,IsTup.new _ _⟩
end
def FJ (n:Nat) (i:Int):Option Nat:=if 0<=i then (if i<n then some i.toNat else none) else if -(n:Int)<=i then some (i+n).toNat else none
def tT {α:Type} (xs:List α) (i:Int):Option α:=(FJ xs.length i).bind λ j=>xs[j]?
def Dq {n:Nat} {i:Int} {j:Nat} (h:FJ n i=some j):seqIndex? i n=some j/\j<n/\-(n:Int)<=i/\i<n:=by
 unfold FJ at h
 by_cases a:0<=i
 .
  rw [aaE a] at h
  by_cases H:i<n
  . rw [aaE H] at h
    have e:i.toNat=j:=aap h
    exact ⟨by rw [seqIndex_of a H,e],by lia,by lia,H⟩
  . rw [aaA H] at h;cases h
 .
  rw [aaA a] at h
  by_cases H : -(n:Int)<=i
  . rw [aaE H] at h
    have e:(i+n).toNat=j:=aap h
    exact ⟨by rw [seqIndex_neg (by lia) H,e],by lia,H,by lia⟩
  . rw [aaA H] at h;cases h
def CL {a:Type} {xs:List a} {i:Int} {v:a} (h:tT xs i=some v):∃ j,seqIndex? i xs.length=some j/\xs[j]?=some v/\j<xs.length/\-(xs.length:Int)<=i/\i<xs.length:=by
 unfold tT at h
 cases e:FJ xs.length i with
 | none=>rw [e] at h;cases h
 | some j =>
   rw [e] at h
   obtain ⟨H,b,c,d⟩:=Dq e
   exact ⟨j,H,h,b,c,d⟩
def bZ {a:Type} {xs:List a} {j:Nat} {v:a} (h:xs[j]?=some v):tT xs (j:Int)=some v:=by
 have H:j<xs.length:=(Ba.mp h).1
 have e:FJ xs.length (j:Int)=some j:=by
   unfold FJ
   rw [aaE (by lia),aaE (by lia)];simp
 unfold tT;rw [e];exact h
def Kd (b:Expr):Prop:=∀ o i,subscripted b false o i=operate [o,i] (getItem o i)
def R6 (X:Cx) (r:R2):Prop :=
 ∀ (a S:Expr) (p:List (ak×Obj)) (s:Shared) (U:St) (H:Hp) (x y:V) (v u:av) (Q:VK),Inv X p U H s->RelV x v->RelV y u->r x y H Q ->
   subscripted S false v u=operate [v,u] (getItem v u)->wpAny (model X.prog X.w) X.A (subscriptTail a S v u) (EP X p U Q) X.xe s
def XZ (X:Cx) (id:String) (r:V->ay->Hp->VK->Prop):Prop :=
 ∀ (p:List (ak×Obj)) (s:Shared) (U:St) (H:Hp) (x:V) (a:ay) (v:av) (u:aZ) (Q:VK),Inv X p U H s->RelV x v->Vals a u->r x a H Q ->
   wpAny (model X.prog X.w) X.A (call (.builtin id) (v::u)) (EP X p U Q) X.xe s
section
variable {X:Cx} {a b:Expr} {ta tb:TE} {pos:Pos}
def aF {r:R2} (f:R6 X r) (d:PE X a ta) (e:PE X b tb) (g:Kd b:=by exact λ Z Z=>rfl):PE X (.Subscript a b pos) (LU r ta tb):=by
 intro p s U H Q I h
 exact Subscript_ (NM d e I h λ v u S x y c i R j q=>f a b p S U c x y v u Q i R j q (g _ _))
inductive Vx (K:aA) (x:V) (y:V) (H:Hp) (Q:VK):Prop|mk (p xs i v:_) (_:x = .ref p) (_:y = .int i) (_:bh K H p xs) (_:tT xs i=some v) (_:Q v H)
inductive Yq (K:aA) (x:V) (y:V) (H:Hp) (Q:VK):Prop|mk (p xs i v:_) (_:x = .ref p) (_:y = .int i) (_:bR K H p xs) (_:tT xs i=some v) (_:Q v H)
def JM:R6 X (Vx X.K):=by
 intro V S a s U H x y v u Q I R D h k
 obtain ⟨p,M,i,z,rfl,rfl,C,o,q⟩:=h
 cases R
 obtain ⟨t,rfl⟩:=D
 obtain ⟨B,r,d,L⟩:=I.list C
 obtain ⟨j,b,l,F,m,n⟩:=CL o
 obtain ⟨w,e,J⟩:=r.get l
 have A:=r.length
 have G:=tO
 have f:EP X a U Q w s:=⟨z,H,I,J,q⟩
 by_cases g:0<=i
 .
  have c:i.toNat=j:=by
    rw [seqIndex_of g n] at b
    exact aap b
  exact item_listR d.isList g (by lia) (by rw [c];simpa using e) f k
 .
  have c:(i+(B.toArray.size:Int)).toNat=j:=by
    rw [seqIndex_neg (by lia) m] at b
    rw [aau,<- A]
    exact aap b
  exact subscriptTail_builtinR (x:=w) d.isList.typeIs slot_list_getitem.lookup
    (wpAny_getItem_list_neg (Q:=λ r E=>r=w/\EP X a U Q r E) d.isList (by lia) (by rw [aau]<;>lia) (by lia) (by rw [c];simpa using e) ⟨rfl,f⟩) k
def Mq:R6 X (Yq X.K):=by
 intro V S a s U H x y v u Q I R n h m
 obtain ⟨p,G,i,z,rfl,rfl,l,g,q⟩:=h
 cases R
 obtain ⟨t,rfl⟩:=n
 obtain ⟨B,r,b,F⟩:=I.tuple l
 obtain ⟨j,c,d,A,C,D⟩:=CL g
 obtain ⟨w,e,J⟩:=r.get d
 have k:=r.length
 have E:=tO
 have f:EP X a U Q w s:=⟨z,H,I,J,q⟩
 exact subscriptTail_builtinR (x:=w) b.typeIs slot_tuple_getitem.lookup
   (getItem_tuple (j:=j) (Q:=λ r o=>r=w/\EP X a U Q r o) b (by lia) (by lia) (by rw [aau,<- k];exact c) (by simpa using e) ⟨rfl,f⟩) m
def BE (b:aZ) (n j:Nat) (u:av):Obj.mapSeq (·.setIfInBounds j u) { cls:=.type "list",data:=.seq b.toArray n }={ cls:=.type "list",data:=.seq (b.set j u).toArray n }:=by
 simp [Obj.mapSeq]
theorem Inv.lst {a:List (ak×Obj)} {s:Shared} {p:ak} {xs:ay} (I:Inv X a U H s) (h:H p=some (.lst xs)) :
   ∃ (b:aZ) (n:Nat),Vals xs b/\s.heap.get? p=some { cls:=.type "list",data:=.seq b.toArray n }/\xs.length<=sizeLine:=by
 obtain ⟨z,b,n,r,e⟩:=I.cM p _ h
 exact ⟨b,n,r,e,z⟩
def Inv.MA {a:List (ak×Obj)} {s:Shared} {p:ak} {xs ys:ay} {B its':aZ} {n N:Nat} {f:Obj->Obj} (I:Inv X a U H s) (h:H p=some (.lst xs)) (g:s.heap.get? p=some { cls:=.type "list",data:=.seq B.toArray n }) (c:f { cls:=.type "list",data:=.seq B.toArray n }={ cls:=.type "list",data:=.seq its'.toArray N }) (r:Vals ys its') (i:ys.length<=sizeLine) (t:Nat) :
   Inv X a U (upd H p (.lst ys)) { s with heap:=s.heap.update p f,toks:=t }:=by
 have e:(s.heap.update p f).get? p=some { cls:=.type "list",data:=.seq its'.toArray N }:=by
   rw [acx f g (by rw [c]<;>rfl),c]
 refine I.write (x:=p) (e:=p) (by rw [h];trivial) (.inl rfl) (λ b u d q=>(adf _ _ (acv d)).trans q) ⟨_,e⟩ ?_
 exact ⟨i,its',N,r,e⟩
def SD:V->V->V->Hp->(Hp->Prop)->Prop:=λ o i v H Q=>∃ p x k j,o = .ref p/\i = .int k/\H p=some (.lst x)/\FJ x.length k=some j/\Q (upd H p (.lst (x.set j v)))
def set_list:Nd X SD:=by
 intro a s U H o i v O F u Q I z R A h
 obtain ⟨p,C,k,j,rfl,rfl,w,x,q⟩:=h
 cases z
 obtain ⟨t,rfl⟩:=R
 obtain ⟨B,n,r,e,y⟩:=I.lst w
 obtain ⟨b,D,l,m⟩:=Dq x
 have d:=r.length
 have E:=tO
 have f:Inv X a U (upd H p (.lst (C.set j v))) { s with heap:=s.heap.update p (Obj.mapSeq (·.setIfInBounds j u))} :=
   I.MA w e (BE B n j u) (r.set A j) (by rw [abl];exact y) s.toks
 by_cases g:0<=k
 .
  have c:k.toNat=j:=by
    rw [seqIndex_of g m] at b
    exact aap b
  exact W.ki_setAt e g (by lia) (by rw [aau,<- d];exact m) (by rw [c];exact ⟨_,f,q⟩)
 .
  have c:(k+(B.toArray.size:Int)).toNat=j:=by
    rw [seqIndex_neg (by lia) l] at b
    rw [aau,<- d]
    exact aap b
  exact W.ki_setBack e (by lia) (by rw [aau,<- d];exact l) (by lia) (by rw [c];exact ⟨_,f,q⟩)
def wZ (lo H:Option Int) (n:Nat):(sliceBounds lo H none n).1=((HT.yH n 0 lo:Nat):Int)/\(sliceBounds lo H none n).2.1=((HT.yH n n H:Nat):Int)/\(sliceBounds lo H none n).2.2=1:=by
 refine ⟨?_,?_,rfl⟩
 .
  cases lo with
  | none=>simp [sliceBounds,HT.yH]
  | some i =>
    simp only [sliceBounds,HT.yH,Option.getD_none,show (1:Int) > 0 by decide,acl]
    by_cases h:i<0
    . simp only [h,acl]<;>lia
    . simp only [h,acg]<;>lia
 .
  cases H with
  | none=>simp [sliceBounds,HT.yH]
  | some i =>
    simp only [sliceBounds,HT.yH,Option.getD_none,show (1:Int) > 0 by decide,acl]
    by_cases h:i<0
    . simp only [h,acl]<;>lia
    . simp only [h,acg]<;>lia
def vF (b:aZ) (lo h:Option Int):slicePick b.toArray lo h none=((b.drop (HT.yH b.length 0 lo)).take (HT.yH b.length b.length h - HT.yH b.length 0 lo)).toArray:=by
 obtain ⟨H,a,c⟩:=wZ lo h b.toArray.size
 unfold slicePick
 rw [H,a,c]
 simp only [sliceRange_one,pick_run,aau]<;>rfl
inductive XQ (K:aA) (x:V) (lo:Option Int) (hi:Option Int) (H:Hp) (Q:VK):Prop|mk (a xs:_) (_:x = .ref a) (_:bh K H a xs) (_:∀ p,H p=none->Q (.ref p) (upd H p (.lst (xG xs lo hi))))
def C7:Tg X (XQ X.K):=by
 intro p s U H x v V n l e sl Q I R g k m h
 obtain ⟨a,c,rfl,i,q⟩:=h
 cases R
 obtain ⟨B,r,f,j⟩:=I.list i
 have d:=r.length
 refine ⟨"list",_,slot_list_getitem.lookup,f.isList.typeIs,?_⟩
 refine wpAny_getItem_list_slice f.isList g k m .none (by simp) ?_ (by rw [aau]<;>lia)
 rw [vF,<- d]
 refine ⟨.ref s.heap.objs.size,_,I.laid (t':=s.toks) (o:=.lst (xG c l e)) (λ b O q=>aak _ q) (aaj _) ?_,rfl,q _ (I.cM.fresh (aaj _))⟩
 exact ⟨aaz (rR c l e) j,_,0,(r.drop (HT.yH c.length 0 l)).take (HT.yH c.length c.length e - HT.yH c.length 0 l),aaQ _ rfl⟩
def yq:iI X (.builtin "len") (λ xs H Q=>∃ p ys,xs=[.ref p]/\(bh X.K H p ys\/bR X.K H p ys)/\Q (.int ys.length) H):=by
 intro d s U H xs i Q I r h
 obtain ⟨p,ys,rfl,b,q⟩:=h
 obtain ⟨u,rfl,f⟩:=vals1 r
 cases f
 have g:=tO
 rcases b with b|b
 . obtain ⟨B,R,c,e⟩:=I.list b
   have a:=R.length
   exact Calls.call_len_list c.isList (by simp only [aau]<;>lia) ⟨.int ys.length,H,I.tok _,⟨s.toks+1,by rw [aau,a]⟩,q⟩
 . obtain ⟨B,R,c,e⟩:=I.tuple b
   have a:=R.length
   exact len_tuple c (by simp only [aau]<;>lia) ⟨.int ys.length,H,I.tok _,⟨s.toks+1,by rw [aau,a]⟩,q⟩
def iS:iI X (.type "list") (λ xs H Q=>∃ p ys,xs=[.ref p]/\(bh X.K H p ys\/bR X.K H p ys)/\∀ l,H l=none->Q (.ref l) (upd H l (.lst ys))):=by
 intro j s U H xs z Q I r h
 obtain ⟨p,ys,rfl,g,q⟩:=h
 obtain ⟨u,rfl,y⟩:=vals1 r
 cases y
 have f:∀ (B:aZ),Vals ys B->ys.length<=sizeLine->∀ (a:aU) (c:Nat),(∀ b O,s.heap.get? b=some O->a.get? b=some O) ->
     a.get? s.heap.objs.size=some { cls:=.type "list",dict:=none,data:=.seq B.toArray c,slots:=#[]}->EP X j U Q (.ref s.heap.objs.size) { s with heap:=a }:=λ B R i a c k e =>
   ⟨.ref s.heap.objs.size,_,I.laid (t':=s.toks) k (aaj _) (show dF X.prog X.w _ a _ (.lst ys) from ⟨i,B,c,R,e⟩),rfl,q _ (I.cM.fresh (aaj _))⟩
 rcases g with g|g
 .
  obtain ⟨B,R,x,i⟩:=I.list g
  have d:=R.length
  obtain ⟨o,v,m,n,t⟩:=x.isList
  exact call_list_seq p (.inl rfl) v m t (λ a c k e=>f B R i a c k e) (by simp only [aau]<;>lia)
 .
  obtain ⟨B,R,x,i⟩:=I.tuple g
  have d:=R.length
  obtain ⟨o,v,m,n,t⟩:=x
  exact call_list_seq p (.inr rfl) v m t (λ a c k e=>f B R i a c k e) (by simp only [aau]<;>lia)
def eR:iI X (.type "tuple") (λ xs H Q=>∃ p ys,xs=[.ref p]/\((bh X.K H p ys/\∀ l,H l=none->Q (.ref l) (upd H l (.tup ys)))\/(bR X.K H p ys/\Q (.ref p) H))):=by
 intro a s U H xs t Q I r h
 obtain ⟨p,ys,rfl,h⟩:=h
 obtain ⟨u,rfl,n⟩:=vals1 r
 cases n
 rcases h with ⟨d,q⟩|⟨d,q⟩
 .
  obtain ⟨B,R,f,j⟩:=I.list d
  have g:=R.length
  refine call_tuple_list f.isList (λ c m=>?_) (by simp only [aau]<;>lia)
  have i:Inv X a U H { s with heap:=c }:=I.kept (t':=s.toks) m
  have k:Inv X a U (upd H c.objs.size (.tup ys)) { s with heap:=c.push { cls:=.type "tuple",data:=.seq B.toArray }} :=
    i.laid (t':=s.toks) (λ b o e=>aak _ e) (aaj _) (show dF X.prog X.w _ _ _ (.tup ys) from ⟨j,B,R,IsTup.new _ _⟩)
  exact ⟨.ref c.objs.size,_,k,rfl,q _ (i.cM.fresh (aaj _))⟩
 . obtain ⟨B,R,f,j⟩:=I.tuple d
   exact call_tuple_same f ⟨.ref p,H,I,rfl,q⟩
def UL (K:aA) (T:String) (x:V) (H:Hp):Prop:=match x with
 | .str _=>T = "str"
 | .int _=>T = "int"
 | .ref p=>(T = "list"/\∃ X,bh K H p X)\/(T = "tuple"/\∃ o,K.lookup p=some o/\o.cls = .type "tuple"/\o.dict=none) \/
     (T = "dict"/\((∃ a,H p=some (.dK a))\/∃ a,H p=some (.dT a)))\/(T = "set"/\∃ S n,H p=some (.set S n))
 | _=>False
def Gf {b:List (ak×Obj)} {s:Shared} {T:String} {x:V} {v:av} (I:Inv X b U H s) (r:RelV x v) (ty:UL X.K T x H) :
   s.TypeIs v T/\∀ a,v = .ref a->∃ O,s.heap.get? a=some O/\O.dict=none:=by
 cases x with
 | str z =>
   obtain ⟨t,rfl⟩:=r
   cases (show T = "str" from ty)
   exact ⟨typeIs_str s z t,λ Z e=>nomatch e⟩
 | int i =>
   obtain ⟨t,rfl⟩:=r
   cases (show T = "int" from ty)
   exact ⟨typeIs_int s i t,λ Z e=>nomatch e⟩
 | ref p =>
   cases r
   rcases ty with ⟨rfl,k,j⟩|⟨rfl,o,h,g,d⟩|⟨rfl,h⟩|⟨rfl,S,n,h⟩
   . obtain ⟨B,Z,f,Z⟩:=I.list j
     refine ⟨f.isList.typeIs,λ a e=>?_⟩
     cases e
     obtain ⟨o,n,e,c,d,Z⟩:=f
     exact ⟨o,e,d⟩
   . refine ⟨⟨o,I.oP p o h,g⟩,λ a e=>?_⟩
     cases e
     exact ⟨o,I.oP _ o h,d⟩
   .
    have z:∃ o,s.heap.get? p=some o/\o.ExactDict:=by
      rcases h with ⟨A,h⟩|⟨A,h⟩
      . obtain ⟨Z,Z,Z,Z,o,Z,Z,e,ex,Z⟩:=I.cM p _ h
        exact ⟨o,e,ex⟩
      . obtain ⟨Z,Z,Z,Z,o,Z,Z,e,ex,Z⟩:=I.cM p _ h
        exact ⟨o,e,ex⟩
    obtain ⟨o,e,ex⟩:=z
    refine ⟨⟨o,e,ex.1⟩,λ a E=>?_⟩
    cases E
    exact ⟨o,e,ex.2.1⟩
   . obtain ⟨o,Z,Z,Z,e,ex,Z⟩:=I.cM p _ h
     refine ⟨⟨o,e,ex.1⟩,λ a E=>?_⟩
     cases E
     exact ⟨o,e,ex.2.1⟩
 | _=>exact False.elim ty
def Xf (K:aA) (T:String) (r:V->ay->Hp->VK->Prop) (t:TE):TE:=λ U H Q=>t U H λ x h=>UL K T x h/\r x [] h Q
def tBM (K:aA) (T:String) (r:V->ay->Hp->VK->Prop) (b:TE) (t:TA):TE:=λ U H Q=>b U H λ x h=>UL K T x h/\t U h λ X a=>r x X a Q
variable {o e:Expr} {es:List Expr} {to:TE} {t:TA} {name:Str} {apos jd:Pos} {T id:String} {r:V->ay->Hp->VK->Prop}
def Mo (k:PlainAttrs T) (S:Slot T name id) (d:typeOf (.builtin id)=pure (.type "method_descriptor")) (g:XZ X id r) (j:PE X o to) (c:attributeBase o name X.env (eval o X.env)=eval o X.env:=by rfl) (b:(apos.endLine == jd.line)=true:=by rfl):PE X (.Call (.Attribute o name apos) [] [] jd) (Xf X.K T r to):=by
 intro p s U H Q I h
 refine wpAny_Call_method0_late c b (cR (j p s U H _ I h) λ v l ⟨x,a,i,R,ty,q⟩=>?_)
 obtain ⟨e,f⟩:=Gf i R ty
 exact ⟨T,id,k,S,d,e,f,adg rfl (PySem.evalArgs_none (g p l U a x [] v [] Q i R .nil q))⟩
def iG (w:PlainAttrs T) (S:Slot T name id) (j:typeOf (.builtin id)=pure (.type "method_descriptor")) (n:XZ X id r) (q:PE X o to) (m:PA X (e::es) t) (g:attributeBase o name X.env (eval o X.env)=eval o X.env:=by rfl) (W:((backTo jd (starEach (e::es) X.env)).all (λ x => !x.1) && (backToKw jd (keywordEach [] X.env)).all (λ x=>x.1.isSome)
     && decide ((e::es).length+([]:List Keyword).length+(if ([]:List Keyword).isEmpty then 0 else 1)<30))=true:=by rfl) (d:(apos.endLine == jd.line)=true:=by rfl) (u:yN X e es:=by rfl) (C:(backTo jd (starEach es X.env)).any (·.1)=false:=by rfl) :
   PE X (.Call (.Attribute o name apos) (e::es) [] jd) (tBM X.K T r to t):=by
 intro p s U H Q I h
 refine wpAny_Call_method_late g W d rfl (cR (q p s U H _ I h) λ v B ⟨x,b,i,R,ty,y⟩=>?_)
 obtain ⟨k,l⟩:=Gf i R ty
 refine ⟨T,id,w,S,j,k,l,?_⟩
 have a:=m jd p B U b _ i y
 rw [u] at a |-
 refine adg (by show (false || (backTo jd (starEach es X.env)).any (·.1))=false;rw [C]<;>rfl) (adp ?_)
 exact cR a λ E D ⟨V,c,f,A,z⟩=>n p D U c x V v E Q f R A z
end
def MtM (X:Cx) (id:String) (r:V->ay->Hp->VK->Prop):Prop :=
 ∀ (p:List (ak×Obj)) (s:Shared) (U:St) (H:Hp) (x:V) (a:ay) (v:av) (u:aZ) (Q:VK),Inv X p U H s->RelV x v->Vals a u->r x a H Q ->
   wpAny (model X.prog X.w) X.A (call (.builtin id) (v::u)) (EP X p U Q) X.xe s
def Vals.one:∀ {x:V} {us:aZ},Vals [x] us->∃ u,us=[u]/\RelV x u
 | _,_,.cons r .nil=>⟨_,rfl,r⟩
def Vals.zero:∀ {us:aZ},Vals [] us->us=[]
 | _,.nil=>rfl
section
variable {X:Cx} {pins:List (ak×Obj)} {U:St} {H:Hp} {s:Shared} {l b:ak} {xs ys:ay}
def Inv.SX {b its':aZ} {n:Nat} {f:Array av->Array av} {t':Nat} (I:Inv X pins U H s) (h:H l=some (.lst xs)) (e:s.heap.get? l=some { cls:=.type "list",data:=.seq b.toArray n }) (c:f b.toArray=its'.toArray) (g:Vals ys its') (i:ys.length<=sizeLine) :
   Inv X pins U (upd H l (.lst ys)) { s with heap:=s.heap.update l (Obj.mapSeq f),toks:=t' }:=by
 have q:=PySem.IsL.update e f
 rw [c] at q
 refine I.write (x:=l) (e:=l) (by rw [h];exact trivial) (.inl rfl) (λ B u a d=>(adf s.heap (Obj.mapSeq f) (acv a)).trans d) ⟨_,q⟩ ?_
 exact ⟨i,its',_,g,q⟩
def Inv.Zr {b:aZ} {t':Nat} (I:Inv X pins U H s) (h:Vals ys b) (a:ys.length<=sizeLine) :
   Inv X pins U (upd H s.heap.objs.size (.lst ys)) { s with heap:=s.heap.push { cls:=.type "list",data:=.seq b.toArray },toks:=t' } :=
 I.laid (λ Z Z q=>aak _ q) (aaj _) ⟨a,b,0,h,aaQ _ rfl⟩
theorem Inv.fresh (I:Inv X pins U H s):H s.heap.objs.size=none:=I.cM.fresh (aaj _)
def Inv.HX (I:Inv X pins U H s) (h:H l=some (.lst xs)):xs.length<=sizeLine/\∃ (b:aZ) (n:Nat),Vals xs b/\xs.length=b.length/\s.heap.get? l=some { cls:=.type "list",data:=.seq b.toArray n }:=by
 obtain ⟨z,b,n,r,e⟩:=I.cM l _ h
 exact ⟨z,b,n,r,r.length,e⟩
def GD {n:Nat} (h:n<=sizeLine):Builtin.List.listTooLong n=false:=by
 unfold Builtin.List.listTooLong
 exact aam (by lia)
end
section
variable {X:Cx}
inductive Kq (x:V) (vs:ay) (H:Hp) (Q:VK):Prop|mk (l xs y:_) (_:x = .ref l) (_:vs=[y]) (_:H l=some (.lst xs)) (_:xs.length<sizeLine) (_:Q .cB (upd H l (.lst (xs++[y]))))
def cI:MtM X "list.append" Kq:=by
 intro p s U H x V v i Q I d c h
 obtain ⟨l,j,y,rfl,rfl,a,g,q⟩:=h
 cases d
 obtain ⟨u,rfl,R⟩:=c.one
 obtain ⟨z,b,n,r,f,e⟩:=I.HX a
 refine call_meets F.slot_list_append ⟨_,e,rfl⟩ F.entry_list_append (F.args_list_append_2 _ _) (PySem.list_append l b.toArray n u (by rw [aau];lia)) ⟨e,?_⟩
 refine ⟨.cB,_,I.SX (its':=b++[u]) a e (by simp) (r.append (.cons R .nil)) ?_,rfl,q⟩
 rw [aac,aaw]
 lia
inductive Jj (x:V) (vs:ay) (H:Hp) (Q:VK):Prop|mk (l b xs zs:_) (_:x = .ref l) (_:vs=[.ref b]) (_:H l=some (.lst xs)) (_:H b=some (.lst zs)) (_:xs.length+zs.length<=sizeLine) (_:Q .cB (upd H l (.lst (xs++zs))))
def wI:MtM X "list.extend" Jj:=by
 intro p s U H x V v m Q I i g h
 obtain ⟨l,b,t,A,rfl,rfl,c,d,k,q⟩:=h
 cases i
 obtain ⟨u,rfl,f⟩:=g.one
 cases f
 obtain ⟨z,B,n,r,j,e⟩:=I.HX c
 obtain ⟨w,o,N,R,y,E⟩:=I.HX d
 have a:B.toArray.size+o.toArray.size<=sizeLine:=by rw [aau,aau];lia
 have S:¬ (!B.toArray.isEmpty && Builtin.List.listTooLong (B.toArray.size+o.toArray.size))=true:=by
   rw [GD a,aby]
   exact aaB
 refine call_meets F.slot_list_extend ⟨_,e,rfl⟩ F.entry_list_extend (F.args_list_extend_2 _ _)
   (AutoSeq1.list_extend_list_list_0 l B.toArray n b o.toArray N S (by rw [aau];lia) (by lia)) ⟨e,E,?_⟩
 refine ⟨.cB,_,I.SX (its':=B++o) c e (by simp) (r.append R) ?_,rfl,q⟩
 rw [aac]
 lia
inductive W8 (x:V) (y:V) (H:Hp) (Q:VK):Prop|mk (l b xs zs:_) (_:x = .ref l) (_:y = .ref b) (_:H l=some (.lst xs)) (_:H b=some (.lst zs)) (_:xs.length+zs.length<=sizeLine) (_:∀ p,H p=none->Q (.ref p) (upd H p (.lst (xs++zs))))
def HR:jn X (binaryOp .Add) W8:=by
 intro p s U H x y v u Q I f g h
 obtain ⟨l,b,k,t,rfl,rfl,d,c,j,q⟩:=h
 cases f
 cases g
 obtain ⟨z,B,n,r,i,e⟩:=I.HX d
 obtain ⟨m,o,N,R,Y,E⟩:=I.HX c
 refine PySem.P.add_list e E ?_ (by rw [aau,aau];lia)
 have a:B.toArray++o.toArray=(B++o).toArray:=by simp
 rw [a]
 exact ⟨.ref _,_,I.Zr (t':=s.toks) (r.append R) (by rw [aac];lia),rfl,q _ I.fresh⟩
end
section
variable {κ:Type} [DecidableEq κ]
def gA (a:List (κ×V)) (k:κ):eE:=(a.find? λ K=>decide (K.1=k)).map (·.2)
def putK (a:List (κ×V)) (k:κ) (v:V):List (κ×V) :=
 if (a.any λ K=>decide (K.1=k))=true then a.map (λ K=>if K.1=k then (K.1,v) else K) else a++[(k,v)]
def fC {p:κ×V} {r:List (κ×V)} {k:κ} (e:p.1=k):gA (p::r) k=some p.2:=by simp [gA,aa5,e]
def ft {p:κ×V} {r:List (κ×V)} {k:κ} (e:¬ p.1=k):gA (p::r) k=gA r k:=by simp [gA,aa5,e]
theorem jL (k:κ):∀ a:List (κ×V),(a.any λ K=>decide (K.1=k))=(gA a k).isSome
 | []=>rfl
 | p::r=>by
   rw [acR]
   by_cases e:p.1=k
   . simp only [fC e,aao e,Bool.true_or,Option.isSome_some]
   . rw [ft e,aam e,Bool.false_or];exact jL k r
theorem Ax (k j:κ) (y:V):∀ a:List (κ×V),gA (a.map λ K=>if K.1=k then (K.1,y) else K) j=(gA a j).map λ x=>if j=k then y else x
 | []=>rfl
 | p::r=>by
   have i:=Ax k j y r
   rw [aaP]
   by_cases h:p.1=k
   . rw [aaE h]
     by_cases e:p.1=j
     . rw [fC (p:=(p.1,y)) e,fC e,acu,aaE (e.symm.trans h)]
     . rw [ft (p:=(p.1,y)) e,ft e,i]
   . rw [aaA h]
     by_cases e:p.1=j
     . rw [fC (p:=p) e,fC e,acu,aaA (λ z=>h (e.trans z))]
     . rw [ft (p:=p) e,ft e,i]
theorem wz (k j:κ) (y:V):∀ a:List (κ×V),gA a k=none->gA (a++[(k,y)]) j=if j=k then some y else gA a j
 | [],_=>by
   by_cases e:k=j
   . rw [aaE e.symm];exact fC (p:=(k,y)) e
   . rw [aaA (λ z=>e z.symm)];exact ft (p:=(k,y)) e
 | p::r,h=>by
   rw [adx]
   have H:¬ p.1=k:=λ z=>by rw [fC z] at h;cases h
   rw [ft H] at h
   have i:=wz k j y r h
   by_cases e:p.1=j
   . rw [fC e,fC e,aaA (λ z=>H (e.trans z))]
   . rw [ft e,ft e,i]
def GV (A:List (κ×V)) (k j:κ) (y:V):gA (putK A k y) j=if j=k then some y else gA A j:=by
 unfold putK
 by_cases a:(A.any λ K=>decide (K.1=k))=true
 .
  rw [aaE a,Ax]
  rw [jL] at a
  by_cases e:j=k
  . obtain ⟨x,h⟩:=ab7.mp a
    rw [aaE e,e,h,acu,aaE rfl]
  . rw [aaA e]
    cases gA A j with
    | none=>rfl
    | some x=>rw [acu,aaA e]
 .
  rw [aaA a]
  refine wz k j y A ?_
  rw [jL] at a
  cases q:gA A k with
  | none=>rfl
  | some x=>rw [q] at a;exact (a rfl).elim
def se (a:List (κ×V)) (k:κ) (v:V):(putK a k v).length<=a.length+1:=by
 unfold putK
 split
 . rw [OG];lia
 . rw [aac,aaW,ac3];lia
def G5 {a:List (κ×V)} {k:κ} (v:V) (h:gA a k=none):putK a k v=a++[(k,v)]:=by
 unfold putK
 rw [jL,h]
 exact aaA (by decide)
def kS.qS {o:eE} {u:jk} (r:kS o u):o.isSome=u.isSome:=by
 cases o with
 | none=>cases u with
   | none=>rfl
   | some _=>exact (show False from r).elim
 | some _=>cases u with
   | none=>exact (show False from r).elim
   | some _=>rfl
theorem kS.getD {o:eE} {u:jk} {d:V} {d':av} (r:kS o u) (R:RelV d d'):RelV (o.getD d) (u.getD d'):=by
 cases o with
 | none=>cases u with
   | none=>exact R
   | some _=>exact (show False from r).elim
 | some _=>cases u with
   | none=>exact (show False from r).elim
   | some _=>exact r
def KV.val {a:List (κ×V)} {vs:List (κ×av)} (r:KV a vs) (k:κ):kS (gA a k) (valueAt vs k):=by
 unfold KV at r
 induction r with
 | nil=>exact True.intro
 | @cons p q d Q h t i =>
   obtain ⟨H,c⟩:=h
   by_cases e:p.1=k
   . have E:q.1=k:=H.symm.trans e
     have b:valueAt (q::Q) k=some q.2:=by simp [valueAt,aa5,E]
     rw [fC e,b];exact c
   . have E:¬ q.1=k:=λ z=>e (H.trans z)
     have b:valueAt (q::Q) k=valueAt Q k:=by simp [valueAt,aa5,E]
     rw [ft e,b];exact i
theorem KV.any {a:List (κ×V)} {vs:List (κ×av)} (r:KV a vs) (k:κ):(a.any λ K=>decide (K.1=k))=vs.any λ K=>decide (K.1=k):=by
 unfold KV at r
 induction r with
 | nil=>rfl
 | cons h t i=>rw [acR,acR,i,h.1]
def KV.N9 {a:List (κ×V)} {vs:List (κ×av)} (r:KV a vs) (k:κ) {y:V} {u:av} (R:RelV y u) :
   KV (a.map λ K=>if K.1=k then (K.1,y) else K) (vs.map λ K=>if K.1=k then (K.1,u) else K):=by
 unfold KV at r |-
 induction r with
 | nil=>exact .nil
 | @cons p q c Q h t i =>
   rw [aaP,aaP]
   refine .cons ?_ i
   obtain ⟨H,b⟩:=h
   by_cases e:p.1=k
   . rw [aaE e,aaE (H.symm.trans e)];exact ⟨H,R⟩
   . rw [aaA e,aaA (λ z=>e (H.trans z))];exact ⟨H,b⟩
def KV.put {a:List (κ×V)} {vs:List (κ×av)} (r:KV a vs) (k:κ) {y:V} {u:av} (R:RelV y u):KV (putK a k y) (stored vs k u):=by
 unfold putK stored
 rw [r.any k]
 by_cases e:(vs.any λ K=>decide (K.1=k))=true
 . rw [aaE e,aaE e];exact r.N9 k R
 . rw [aaA e,aaA e];exact acK r ⟨rfl,R⟩
theorem KV.length {a:List (κ×V)} {vs:List (κ×av)} (r:KV a vs):a.length=vs.length:=abT r
end
def Ia {P:bi} {w:aV} {k:Key} {u:av} (r:RelV (kV k) u):(cO P w).is k u=true:=by
 cases k with
 | inl i=>obtain ⟨t,e⟩:=(show ∃ t,u=Value.int i t from r);subst e;exact zG P w i t
 | inr x=>obtain ⟨t,e⟩:=(show ∃ t,u=Value.str x t from r);subst e;exact zl P w x t
theorem wx {P:bi} {w:aV}:∀ {K:List Key} {us:aZ},Vals (K.map kV) us->ItemsAre (cO P w) K us
 | [],_,r=>by rw [List.map_nil] at r;cases r;exact .nil
 | k::K,_,r=>by
   rw [aaP] at r
   cases r with
   | cons h t=>exact .cons (Ia h) (wx t)
abbrev KT (H:Hp):List (List Key×V)->List (List Key×ak×av)->Prop:=Paired λ p q=>p.1=q.1/\H q.2.1=some (.tup (p.1.map kV))/\RelV p.2 q.2.2
def KT.val {a:List (List Key×V)} {xs:List (List Key×ak×av)} (r:KT H a xs) (k:List Key):kS (gA a k) ((atKey xs k).map (·.2)):=by
 induction r with
 | nil=>exact True.intro
 | @cons p q f Q h t i =>
   obtain ⟨c,Z,d⟩:=h
   by_cases e:p.1=k
   . have E:q.1=k:=c.symm.trans e
     have b:atKey (q::Q) k=some q.2:=by simp [atKey,aa5,E]
     rw [fC e,b];exact d
   . have E:¬ q.1=k:=λ z=>e (c.trans z)
     have b:atKey (q::Q) k=atKey Q k:=by simp [atKey,aa5,E]
     rw [ft e,b];exact i
def KT.N9 {A:List (List Key×V)} {xs:List (List Key×ak×av)} (r:KT H A xs) (k:List Key) {y:V} {u:av} (R:RelV y u) :
   KT H (A.map λ K=>if K.1=k then (K.1,y) else K) (xs.map (putAt k u)):=by
 induction r with
 | nil=>exact .nil
 | @cons p q d Q h t i =>
   rw [aaP,aaP]
   refine .cons ?_ i
   obtain ⟨a,b,c⟩:=h
   unfold putAt
   by_cases e:p.1=k
   . rw [aaE e,aaE (a.symm.trans e)];exact ⟨a,b,R⟩
   . rw [aaA e,aaA (λ z=>e (a.trans z))];exact ⟨a,b,c⟩
def KT.put {a:List (List Key×V)} {xs:List (List Key×ak×av)} (r:KT H a xs) (k:List Key) {b:ak} {y:V} {u:av} (h:H b=some (.tup (k.map kV))) (R:RelV y u) :
   KT H (putK a k y) (storedH xs k b u):=by
 have e:(a.any λ K=>decide (K.1=k))=(atKey xs k).isSome:=by
   rw [jL,(r.val k).qS,adm]
 unfold putK storedH
 rw [e]
 by_cases q:(atKey xs k).isSome=true
 . rw [aaE q,aaE q];exact r.N9 k R
 . rw [aaA q,aaA q];exact acK r ⟨rfl,h,R⟩
def KT.keeps {a:List (List Key×V)} {xs:List (List Key×ak×av)} (r:KT H a xs) (h:∀ b ys,H b=some (.tup ys)->H' b=some (.tup ys)):KT H' a xs :=
 Paired.yc r λ Z Z z=>⟨z.1,h _ _ z.2.1,z.2.2⟩
section
variable {P:bi} {w:aV} {H:Hp} {h:aU} {a:ak}
def Lz {u:HO} (ok:mQ P w H h) (e:Rd H a u):dF P w H h a u:=e.ok ok
def G9 {A:List (Key×V)} (ok:mQ P w H h) (e:Rd H a (.dK A)):A.length<=sizeLine/\(a == sysModules)=false/\∃ vs,KV A vs/\h.DictOf (cO P w) a vs :=
 show dF P w H h a (.dK A) from Lz ok e
def Ql {A:List (Key×V)} (ok:mQ P w H h) (e:H a=some (.dK A)):A.length<=sizeLine/\(a == sysModules)=false/\∃ vs,KV A vs/\h.DictOf (cO P w) a vs:=G9 ok (.inl e)
def BF {k:List Key} (ok:mQ P w H h) (e:H a=some (.tup (k.map kV))):(tupleKind (cO P w)).is h k a:=by
 obtain ⟨Z,b,r,o,c,d,n,f⟩:=(show dF P w H h a (.tup (k.map kV)) from ok a _ e)
 exact ⟨o,b.toArray,n,c,d,f,by simpa using wx r⟩
def C9 {A:List (List Key×V)} (ok:mQ P w H h) (e:Rd H a (.dT A)):A.length<=sizeLine/\(a == sysModules)=false /\
   ∃ xs,KT H A xs/\h.DictOfH (tupleKind (cO P w)) a xs:=by
 obtain ⟨z,y,xs,r,o,d,E,f,g,i,j,k⟩:=(show dF P w H h a (.dT A) from Lz ok e)
 refine ⟨z,y,xs,r,o,d,E,f,g,i,j,λ x b=>?_,k⟩
 have all:∀ {l:List (List Key×V)} {m:List (List Key×ak×av)},KT H l m->∀ x∈m,(tupleKind (cO P w)).is h x.1 x.2.1:=by
   intro l m q
   induction q with
   | nil=>intro x b;exact nomatch b
   | @cons p q n Q c t I =>
     intro x b
     rcases aad.mp b with e|b
     . subst e
       exact BF ok (by rw [<- c.1];exact c.2.1)
     . exact I x b
 exact all r x b
def Ri {A:List (List Key×V)} (ok:mQ P w H h) (e:H a=some (.dT A)):A.length<=sizeLine/\(a == sysModules)=false /\
   ∃ xs,KT H A xs/\h.DictOfH (tupleKind (cO P w)) a xs:=C9 ok (.inl e)
end
def EF (H:Hp) (a:ak) (y:V) (r:eE):Prop :=
 (∃ A k,Rd H a (.dK A)/\y=kV k/\r=gA A k)\/∃ A k b,Rd H a (.dT A)/\y = .ref b/\H b=some (.tup (k.map kV))/\r=gA A k
def Hn (H:Hp) (a:ak) (y v:V) (h:Hp):Prop :=
 (∃ A k,H a=some (.dK A)/\y=kV k/\A.length<sizeLine/\h=upd H a (.dK (putK A k v))) \/
 ∃ A k b,H a=some (.dT A)/\y = .ref b/\H b=some (.tup (k.map kV))/\A.length<sizeLine/\h=upd H a (.dT (putK A k v))
def EF.t {a b:ak} {A:List (List Key×V)} {k:List Key} (e:H a=some (.dT A)) (E:H b=some (.tup (k.map kV))):EF H a (.ref b) (gA A k):=.inr ⟨A,k,b,.inl e,rfl,E,rfl⟩
def Hn.t {a b:ak} {A:List (List Key×V)} {k:List Key} {v:V} (e:H a=some (.dT A)) (E:H b=some (.tup (k.map kV))) (h:A.length<sizeLine) :
   Hn H a (.ref b) v (upd H a (.dT (putK A k v))):=.inr ⟨A,k,b,e,rfl,E,h,rfl⟩
section
variable {X:Cx} {pins:List (ak×Obj)} {U:St} {H:Hp} {s:Shared} {a:ak} {y v:V} {u r:av} {o:eE} {A:Around} {E:av->Shared->Prop}
def Inv.big (I:Inv X pins U H s):sysModules<s.heap.objs.size:=by
 have h:mainGlobals<s.heap.objs.size:=(I.mod.glob.keeps I.bk).lt
 exact ac1 (by decide) h
def wQ {h':aU} {t':Nat} {o:HO} (I:Inv X pins U H s) (m:Qa (H a)) (d:Heap.SameBut a s.heap h') (c:∃ q,h'.get? a=some q) (n:dF X.prog X.w (upd H a o) h' a o) :
   Inv X pins U (upd H a o) { s with heap:=h',toks:=t' } :=
 I.write (x:=a) (e:=a) m (.inl rfl) (λ b q h z=>(d.2 b h).trans z) c n
def MT {P:bi} {w:aV} {h':aU} {A:List (Key×V)} {vs:List (Key×av)} (z:A.length<=sizeLine) (h:(a == sysModules)=false) (r:KV A vs) (dd:h'.DictOf (cO P w) a vs) :
   dF P w H' h' a (.dK A):=⟨z,h,vs,r,dd⟩
def EN {Q:Unit->Shared->Prop} (T:A.units+1<cLine) (I:Inv X pins U H s) (g:Hn H a y v H') (G:RelV y u) (F:RelV v r) (h:∀ s',Inv X pins U H' s'->Q () s') :
   wpAny (model X.prog X.w) A (setItem (.ref a) u r) Q E s:=by
 rcases g with ⟨d,k,e,m,l,j⟩|⟨d,k,b,e,m,x,l,j⟩
 .
  subst m j
  obtain ⟨z,n,V,R,D⟩:=Ql I.cM e
  have t:V.length<=sizeLine:=by rw [<- R.length];exact z
  have o:(putK d k v).length<=sizeLine:=by have:=se d k v;lia
  refine wpAny_setItem_pairs (hsz:=t) (Ia G) D λ C i p=>h _ ?_
  have S:∃ q,C.get? a=some q:=let ⟨q,_,_,f,_⟩:=i;⟨q,f⟩
  exact wQ I (by rw [e];exact True.intro) p S (MT o n (R.put k F) i)
 .
  subst m j
  cases (show u=Value.ref b from G)
  obtain ⟨z,n,W,R,D⟩:=Ri I.cM e
  have t:W.length<=sizeLine:=by rw [<- abT R];exact z
  have o:(putK d k v).length<=sizeLine:=by have:=se d k v;lia
  refine wpAny_setItem_heap (hsz:=t) (tupleKind_room_in1 T) (BF I.cM x) D λ C i p=>h _ ?_
  obtain ⟨q,K,J,f,L,M,N,Z,O⟩:=i
  refine wQ I (by rw [e];exact True.intro) p ⟨q,f⟩ ⟨o,n,_,(R.put k x F).keeps λ c Y B=>?_,q,K,J,f,L,M,N,O⟩
  rw [ar (Rp B e (λ z=>nomatch z))]
  exact B
end
def QU (i:Expr):Prop:=∀ o I,subscripted i false o I=operate [o,I] (getItem o I)
def KR {prog:bi} {w:aV} {A:Around} {E:av->Shared->Prop} {s:Shared} {env:Env} {v S:Expr} {p:Pos} {T id:String} {Q:av->Shared->Prop} (g:typeLookup (.type T) "__getitem__" = pure (some (.builtin id))) (j:QU S) (h:wpAny (model prog w) A (eval v env) (λ o a=>wpAny (model prog w) A (eval S env) (λ i s₂=>s₂.TypeIs o T/\wpAny (model prog w) A (getItem o i) Q E s₂) E a) E s) :
   wpAny (model prog w) A (eval (.Subscript v S p) env) Q E s:=by
 refine Subscript_ (aba h (λ o a c=>aba c (λ i s₂ H=>?_) λ Z Z x=>x) λ Z Z x=>x)
 obtain ⟨e,H⟩:=H
 unfold subscriptTail
 refine aaa ?_
 rw [getitemInPython_of_ne e.not_modules]
 refine aaa (adh e g ?_)
 have f:wpAny (model prog w) A (subscripted S false o i) (λ r b=>wpAny (model prog w) A (letTemporaryGo v o r >>= λ Z=>pure r) Q E b) E s₂:=by
   rw [j o i]
   exact wpAny_operating (aba H (λ r b d=>aaa (wpAny_letTemporaryGo (aan d))) λ Z Z x=>x)
 first
   | exact aan (aaa f)
   | exact aaa (aan (aaa f))
   | exact aaa f
def QY (t ty T:TE):TS:=λ D U H=>T U H λ v b=>t U b λ x c=>ty U c λ y d=>∃ a h,x = .ref a/\Hn d a y v h/\D.nx U h
section
variable {X:Cx} {o i e value:Expr} {pos pos':Pos} {td ty tv:TE}
def Jr (q:X.A.units+1<cLine) (m:PE X o td) (l:PE X i ty) (t:PE X value tv) (n:swapsWith value (some (.Subscript o i pos')) pos.line X.env=pure false) :
   PS X (.Assign [.Subscript o i pos'] value pos) (QY td ty tv):=by
 intro p s U H D I h
 refine wpAny_Assign_Subscript (cR (t p s U H _ I h) λ r S ⟨v,b,e,R,Q⟩=>cR (m p S U b _ e Q) λ u E ⟨x,c,f,B,w⟩=>cR (l p E U c _ f w) λ G J ⟨y,F,j,C,a,d,ex,g,z⟩=>?_) n
 subst ex
 obtain rfl:u=Value.ref a:=B
 exact EN q j g C R λ K k=>⟨U,d,k,z⟩
end
def GA {P:bi} {w:aV} (h:aU) (a:sysModules<h.objs.size):dF P w H (h.push { cls:=.type "dict",data:=.dict #[]}) h.objs.size (.dT []) :=
 ⟨aaT _,abj.mpr (acv (aaL a)),[],.nil,_,#[],0,aaQ _ rfl,⟨rfl,rfl,rfl⟩,rfl,rfl,ach⟩
def NF:TE:=λ Z H Q=>∀ p,H p=none->Q (.ref p) (upd H p (.dT []))
section
variable {X:Cx} {pos:Pos}
def Gh:PE X (.Dict [] [] pos) NF:=λ p s U H Q I h =>
 wpAny_Dict_empty ⟨.ref s.heap.objs.size,_,I.laid (a:=s.heap.objs.size) (o:=.dT []) (t':=s.toks) (λ Z Z q=>aak _ q) (aaj _) (GA s.heap I.big),rfl,h _ (I.cM.fresh (aaj _))⟩
end
def FO:List (TE×TE)->St->Hp->(List (V×V)->Hp->Prop)->Prop
 | [],_,H,Q=>Q [] H
 | (t,T)::r,U,H,Q=>t U H λ x h=>T U h λ y a=>FO r U a λ p b=>Q ((x,y)::p) b
abbrev VV:List (V×V)->List (av×av)->Prop:=Paired λ p q=>RelV p.1 q.1/\RelV p.2 q.2
def PPs (X:Cx) (a:Pos) (k:List (Option Expr)) (v:List Expr) (t:List (TE×TE)):Prop :=
 ∀ (p:List (ak×Obj)) (s:Shared) (U:St) (H:Hp) (Q:List (V×V)->Hp->Prop),Inv X p U H s->FO t U H Q ->
   wpAny (model X.prog X.w) X.A (evalPairs (pairTrees k v X.env a)) (λ c S=>∃ b H',Inv X p U H' S/\VV b c/\Q b H') X.xe s
structure M2 (X:Cx) (o:Expr) (m:Str) (apos:Pos) (e f:Expr) (jd:Pos):Prop where
 base:attributeBase o m X.env (eval o X.env)=eval o X.env
 few:((backTo jd (starEach [e,f] X.env)).all (λ x => !x.1) && (backToKw jd (keywordEach [] X.env)).all (λ x=>x.1.isSome)
   && decide (([e,f]:List Expr).length+([]:List Keyword).length+(if ([]:List Keyword).isEmpty then 0 else 1)<30))=true
 line:(apos.endLine == jd.line)=true
 trees:backTo jd (starEach [e,f] X.env)=[(false,eval e X.env),(false,eval f X.env)]
def IsD (H:Hp) (a:ak):Prop:=(∃ A,Rd H a (.dK A))\/∃ A,Rd H a (.dT A)
def NQ {X:Cx} {p:List (ak×Obj)} {s:Shared} {a:ak} (I:Inv X p U H s) (d:IsD H a) :
   s.TypeIs (.ref a) "dict"/\(∀ b,Value.ref a = .ref b->∃ o,s.heap.get? b=some o/\o.dict=none)/\(a == sysModules)=false:=by
 rcases d with ⟨A,e⟩|⟨A,e⟩
 .
  obtain ⟨Z,f,v,Z,D⟩:=G9 I.cM e
  refine ⟨D.typeIs,λ b q=>?_,f⟩
  cases q
  obtain ⟨o,Z,Z,h,c,Z⟩:=D
  exact ⟨o,h,c.2.1⟩
 .
  obtain ⟨Z,f,x,Z,D⟩:=C9 I.cM e
  refine ⟨D.typeIs,λ b q=>?_,f⟩
  cases q
  obtain ⟨o,Z,Z,h,c,Z⟩:=D
  exact ⟨o,h,c.2.1⟩
section
variable {X:Cx} {pins:List (ak×Obj)} {U:St} {H:Hp} {s:Shared} {a:ak} {y d:V} {u r:av} {o:eE} {A:Around} {E:av->Shared->Prop}
def MM {Q:av->Shared->Prop} (p:A.units+1<cLine) (I:Inv X pins U H s) (g:EF H a y o) (j:RelV y u) (i:RelV d r) (h:∀ W s',Inv X pins U H s'->RelV (o.getD d) W->Q W s') :
   wpAny (model X.prog X.w) A (call (.builtin "dict.get") [.ref a,u,r]) Q E s:=by
 rcases g with ⟨m,k,e,c,l⟩|⟨m,k,b,e,c,n,l⟩
 .
  subst c
  obtain ⟨z,f,v,R,D⟩:=G9 I.cM e
  refine call_meetsIn acZ D.typeIs adY (adU _ _ _) (meets_dict_get_default (cO X.prog X.w) a (Ia j) f r) ⟨_,D.mapOf,h _ _ (I.tok _) ?_⟩
  rw [l]
  exact (R.val k).getD i
 .
  subst c
  cases (show u=Value.ref b from j)
  obtain ⟨z,f,x,R,D⟩:=C9 I.cM e
  refine call_meetsIn acZ D.typeIs adY (adU _ _ _) (meetsH_dict_get_default (tupleKind (cO X.prog X.w)) a b f r) ⟨tupleKind_room_in1 p,k,x,BF I.cM n,D,h _ _ (I.tok _) ?_⟩
  rw [l]
  exact (R.val k).getD i
end
def MR (t ty T:TE):TE:=λ U H Q=>t U H λ x h=>∃ a,x = .ref a/\IsD h a/\ty U h λ y c=>T U c λ z b=>∃ o,EF b a y o/\Q (o.getD z) b
section
variable {X:Cx} {o e f:Expr} {apos jd:Pos} {td ty tx:TE}
def zt (v:X.A.units+1<cLine) (t:PE X o td) (q:PE X e ty) (r:PE X f tx) (m:M2 X o "get" apos e f jd):PE X (.Call (.Attribute o "get" apos) [e,f] [] jd) (MR td ty tx):=by
 intro p s U H Q I h
 refine wpAny_Call_method m.base m.few m.line PySem.F.plainAttrs_dict acZ PySem.F.type_dict_get (cR (t p s U H _ I h) λ u S ⟨x,b,i,R,a,ex,d,w⟩=>?_)
 subst ex
 obtain rfl:u=Value.ref a:=R
 obtain ⟨T,K,Z⟩:=NQ i d
 refine ⟨T,K,?_⟩
 rw [m.trees]
 refine adg rfl (adp (abY (cR (q p S U b _ i w) λ M G ⟨y,c,k,D,B⟩ =>
   abY (cR (r p G U c _ k B) λ L N ⟨z,j,l,E,O,g,C⟩=>acr ?_))))
 exact MM v l g D E λ W V n J=>⟨_,j,n,J,C⟩
end
end L2
namespace Att
open PySem PySem.W PySem.Calls PyProof.Rows
def sO {P:Params} {h:aU}:∀ (ns:List Int) (vs:aZ),WellAll P h vs (ns.map WData.int)->IntsAre vs ns:=by
 intro ns
 induction ns with
 | nil =>
   intro vs w
   rw [List.map_nil] at w
   cases w
   exact .nil
 | cons n ns i =>
   intro vs w
   rw [aaP] at w
   cases w with
   | cons a b =>
     cases a
     exact .cons _ _ (i _ b)
def Er {l:OpenLaw} {n:Nat} (j:l.most=some n) {P:Params} {h:aU} {args:List WData} {v:aZ}
   (K:l.row.toRowW.claim.pre args=true) (Q:WellAll P h v args) :
   ∃ a vs N,v=[Value.ref a]/\args=[WData.list (N.map WData.int)]/\h.get? a=some { cls:=.type "list",data:=.seq vs.toArray }/\IntsAre vs N/\N.length<=n:=by
 have S:WShape.hasAll [] args [.list .int]=true:=(pre_splitW K).1
 have e:l.pre.holds [] { args:=args }=true:=(pre_splitW K).2
 obtain ⟨d,r,rfl,f,g⟩:=hasAllW_cons S
 obtain rfl:=hasAllW_nil g
 obtain ⟨x,rfl,i⟩:=hasW_list f
 obtain ⟨N,rfl⟩:=items_int i
 have H:N.length<=n:=by
   unfold OpenLaw.pre at e
   have b:(WTm.not (.lt (.lit (.int (n:Int))) (.len (.arg 0)))).holds [] { args:=[.list (N.map .int)]}=true:=by
     have b:=(holds_andW e).1
     rw [j] at b
     exact b
   have c:=condW_of b (w_not (w_lt w_lit (w_len_list (w_arg rfl))))
   rw [OG] at c
   refine Nat.le_of_not_lt λ q=>?_
   have m:(n:Int)<((N.length:Nat):Int):=by lia
   first
     | (rw [aao m] at c;exact absurd c (by decide))
     | (simp at c;lia)
 cases Q with
 | cons w W =>
   cases W
   cases w with
   | list k B=>exact ⟨_,_,N,rfl,rfl,k,sO N _ B,H⟩
def Eg (l:OpenLaw) (args:List WData):l.row.toRowW.claim.post args (.bool true) args=true :=
 postW_of (r:=l.row.toRowW) (X:=(true == true))
   (show WShape.has [] (.bool true) .bool=true by first|rfl|decide|simp [WShape.has,WShape.arms,WShape.armsAll])
   (show (WTm.eq .res (.lit (.bool true))).value [] { args:=args,res:=some (.bool true),after:=args }=some (.bool (true == true)) from w_eq_bool (w_res rfl) w_lit) rfl
section
def WY (h:aU):aU:={ h with objs:=#[]}
def ledger (h:aU) (L d:ak):List (ak×Obj):=(List.range h.objs.size).filterMap λ a=>if a=L\/a=d then none else (h.get? a).map λ o=>(a,o)
end
end Att
namespace L2
open PySem PySem.Spec PyProof.Rows
variable {H H':Hp} {qual:Str}
theorem vZ:∀ {vs:aZ} {N:List Int},IntsAre vs N->Vals (N.map V.int) vs
 | _,_,.nil => .nil
 | _,_,.cons n t h => .cons ⟨t,rfl⟩ (vZ h)
def Rl (H:Hp):Prop:=∀ b,H b=none\/∃ o x,H b=some (.Ak o (.lst x))
def FN {P:bi} {w:aV} {K:aA} {M A:cZ} {D:FG} {k:Nat} {l a:ak} {O:FuncData} {x:Str} {Y:Sp} {s₁:Shared} {vs:aZ} {N:List Int} (I:K.In s₁.heap) (T:s₁.heap.Ns mainGlobals M) (c:s₁.heap.Ns builtinsNs A) (t:∀ x:Str,x ≠ "__name__"->A x=bootBuiltins x) (VD:s₁.heap.NoLimit) (hg:s₁.gens=#[]) (i:s₁.heap.get? a=some { cls:=.type "list",data:=.seq vs.toArray }) (S:IntsAre vs N) (W:N.length<=sizeLine) (hr:cL k callerA) (F:∀ base:aU,K.In base->base.Ns mainGlobals M->iz P w K M base D k l O [x] Y) (PY:∀ (s:Shared) (u:av),BindsTo s O ⟨[u],[]⟩ [(x,u)]) (IL:∀ H:Hp,Rl H->bh K H a (N.map V.int)->Y [.ref a] H (λ v _=>v = .bl true) λ _ _ _=>False) (p:∀ H e s',D [] H s₁ (λ _ _ _=>False) e s'->False) :
   codeAny (model P w) callerA (.call (.ref l) ⟨[.ref a],[]⟩) (λ r s'=>r = .ok (.ret (.bool true))/\OldK s₁.heap s'.heap/\s'.os=s₁.os/\AllBare s'.gens) s₁:=by
 have X:=vZ S
 have Xk:=S.length
 have C:∀ H:Hp,Rl H->bh K H a (N.map V.int)->mQ P w H s₁.heap->(∀ b,H b≠none->b=a)->(H a≠none->K.lookup a=none) ->
     codeAny (model P w) callerA (.call (.ref l) ⟨[.ref a],[]⟩) (λ r s'=>r = .ok (.ret (.bool true))/\OldK s₁.heap s'.heap/\s'.os=s₁.os/\AllBare s'.gens) s₁:=by
   intro H R hS J Q hK
   have G:∀ {b:ak} {o:Obj},s₁.heap.get? b=some o->H b=none->(xu s₁.heap H).get? b=some o:=λ e n=>Iw e n
   have Rx:∀ {b:ak} {o:Obj} {E:Array DictEntry} {ep:Nat},s₁.heap.get? b=some o->o.data = .dict E ep->H b=none:=λ {b o E ep} e d=>by
     cases q:H b with
     | none=>rfl
     | some u =>
       have j:b=a:=Q b (by rw [q];simp)
       subst j
       rw [i] at e;cases e
       have d':Data.seq vs.toArray _=Data.dict E ep:=d
       cases d'
   have U:∀ {b:ak} {m:cZ},s₁.heap.Ns b m->(xu s₁.heap H).Ns b m:=λ {b m} ⟨o,E,ep,e,d,r⟩=>⟨o,E,ep,G e (Rx e d),d,r⟩
   have f:K.In (xu s₁.heap H):=λ b o e=>G (I b o e) (by
     cases q:H b with
     | none=>rfl
     | some u =>
       have j:b=a:=Q b (by rw [q];simp)
       subst j
       rw [hK (by rw [q];simp)] at e;cases e)
   have hM:Mod K M (xu s₁.heap H):=⟨f,U T,⟨A,U c,t⟩,let ⟨mc,h1,h2⟩:=VD;⟨mc,U h1,h2⟩⟩
   have e0:BR P w K M (xu s₁.heap H) callerA [] s₁ H:=⟨rfl,hM,λ b o e=>JN e,Nat.le_of_eq (Fk _ _),trivial,λ b c=>absurd (show b∈([]:bw) from c) (by simp),J,.of_eq hg⟩
   refine acT ((F _ f (U T)).run callerA [] s₁ H ⟨[.ref a],[]⟩ [.ref a] [.ref a] _ _ hr e0 (PY s₁ (.ref a)) (.cons rfl .nil) (IL H R hS)) λ r s' h=>?_
   cases r with
   | error e=>exact (p H e s' h).elim
   | ok fl =>
     cases fl with
     | next=>exact False.elim h
     | brk=>exact False.elim h
     | cont=>exact False.elim h
     | ret u =>
       obtain ⟨v,H',os,B,un,Yk,r',q⟩:=h
       have q':v = .bl true:=q
       subst q'
       obtain rfl:u=Value.bool true:=r'
       refine ⟨rfl,OldK.of_keep λ b o e=>?_,os,B⟩
       cases q:H b with
       | none=>exact un.keep b o e q (by intro z;exact absurd (show b∈([]:bw) from z) (by simp)) (by simp)
       | some u =>
         rcases R b with z|⟨ob,xs,z⟩
         . rw [q] at z;cases z
         . have z2:=un.qy b ob _ z
           obtain ⟨L,_⟩:=J b _ z
           obtain ⟨e2,_⟩:=Yk b _ z2
           rw [e] at L;cases L
           exact e2
 cases y:K.lookup a with
 | some o =>
   have e:=I a o y
   rw [i] at e
   cases e
   refine C (λ _=>none) (λ _ => .inl rfl) (.inr ⟨_,vs.toArray,_,y,rfl,rfl,rfl,by rw [aau,Xk];exact W,by simpa using X⟩) (λ b u z=>by have g:(none:Option HO)=some u:=z;cases g) (λ b z=>absurd rfl z) λ z=>absurd rfl z
 | none =>
   refine C (λ b=>if b=a then some (.Ak { cls:=.type "list",data:=.seq vs.toArray } (.lst (N.map V.int))) else none) (λ b=>?_) (.inl (.inr ⟨{ cls:=.type "list",data:=.seq vs.toArray },aaE rfl⟩)) (λ b u z=>?_) (λ b z=>?_) λ _=>y
   . by_cases c:b=a
     . exact .inr ⟨_,_,aaE c⟩
     . exact .inl (aaA c)
   .
    by_cases c:b=a
    . have g:=(aaE c).symm.trans z
      cases g
      subst c
      exact ⟨i,by rw [OG];exact W,vs,_,X,i⟩
    . have g:=(aaA c).symm.trans z
      cases g
   . by_cases c:b=a
     . exact c
     . exact absurd (aaA c) z
def inClass (s:Stmt) (j:Nat):Stmt:=match s with
 | .ClassDef _ _ _ b _ _ _ _ _ _ _=>b.getD j (.Pass ⟨0,0,0,0⟩)
 | _ => .Pass ⟨0,0,0,0⟩
def cQ (s:Stmt):Arguments:=match s with
 | .FunctionDef _ a _ _ _ _ _ _ _ _=>a
 | _=>{ posonlyargs:=[],args:=[],vararg:=none,kwonlyargs:=[],kw_defaults:=[],kwarg:=none,defaults:=[]}
def bK (s:Stmt):List Stmt:=match s with
 | .FunctionDef _ _ b _ _ _ _ _ _ _=>b
 | _=>[]
def aq (s:Stmt):Scope:=match s with
 | .FunctionDef _ _ _ _ _ _ S _ _ _=>S
 | _=>{ kind:=.function,names:=[],isGenerator:=false,isCoroutine:=false }
abbrev xR:FG:=λ _ _ _ _ _ _=>False
abbrev E0:XK:=λ _ _ _=>False
def zr {X:Cx}:Passes xR X E0:=λ Z Z Z Z Z Z Z h=>h.elim
structure Ip (K:aA) (x qual:Str) (st:Stmt) (f:ak) (fd:FuncData):Prop where
 ex:∃ (oc:av) (od:Option ak) (kV doc pm:av) (an:Option ak) (bz ct:av) (xO:Array (jk)),
   fd=W.fnOf x qual (cQ st) (bK st) (aq st) .none kV doc pm an bz ct/\K.lookup f=some ⟨oc,od,.func fd,xO⟩/\W.codeIn K bz qual=true
 kp:W.keepIn K (.ref f)=true
section
variable {P:bi} {w:aV} {K:aA} {mg:cZ} {base:aU}
def Ip.ok {x:Str} {st:Stmt} {f:ak} {a:FuncData} {N p:cx} {k:Nat} {sp:Sp} (F:Ip K x qual st f a) (S:aB N p (aq st)) (len:∀ vs H Q E,sp vs H Q E->vs.length=p.length) (c:∀ (b:av) (A:Around) (outer:List Env) (s:Shared) (H:Hp) (vs:ay) (Q:VK) (E:XK),cL k (A.deeper (envOfC qual (aq st) s.heap.objs.size f b))->sp vs H Q E ->
     ∃ t,tF (iQ xR P w K mg base N qual (aq st) f b A outer s H E).DY (bK st) t/\t { nx:=λ Z H'=>Q .cB H',rt:=Q } (start N vs) H):iz P w K mg base xR (k+1) f a p sp:=by
 obtain ⟨o,O,kV,d,i,g,b,ct,X,rfl,l,v⟩:=F.ex
 refine HQ l v S len λ A outer s H vs Q E e I=>?_
 obtain ⟨t,h,q⟩:=c b A outer s H vs Q E e I
 exact ⟨t,h.DY,q⟩
def Ip.binds {x:Str} {st:Stmt} {f:ak} {e:FuncData} {c:cx} (F:Ip K x qual st f e) (h:∀ (kV d p:av) (a:Option ak) (b ct:av) (us:aZ),us.length=c.length->bindArgs (W.fnOf x qual (cQ st) (bK st) (aq st) .none kV d p a b ct) ⟨us,[]⟩=pure (c.zip us)):Binds K e c []:=by
 obtain ⟨o,O,kV,d,p,a,b,ct,X,rfl,l,v⟩:=F.ex
 exact .all (h kV d p a b ct)
def L7 {x:Str} {st:Stmt} {f:ak} {o:av} {O a:Option ak} {X:Array (jk)} {kV d p b ct:av} (l:K.lookup f=some ⟨o,O,.func (W.fnOf x qual (cQ st) (bK st) (aq st) .none kV d p a b ct),X⟩) (c:W.codeIn K b qual=true) (k:W.keepIn K (.ref f)=true):Ip K x qual st f (W.fnOf x qual (cQ st) (bK st) (aq st) .none kV d p a b ct):=⟨⟨o,O,kV,d,p,a,b,ct,X,rfl,l,c⟩,k⟩
end
def CC {A:Around} {k:Nat} (h:cL k A):A.units+1<cLine:=aav (Nat.add_le_add_left (by decide:1<=64) _) h.units
def aT {n:Nat} (h:n<=1000):n<sizeLine:=aav h (by decide)
section
variable {X:Cx}
def pv (i:Nat) {x:Str} {p:Pos} (h:X.N[i]?=some x:=by rfl) (a:RS X.env.scope x:=by first|exact Or.inl rfl|exact Or.inr (Or.inl rfl)|exact Or.inr (Or.inr rfl)) (H:wm x:=by decide) (v:(x == ("__classdict__" : Str))=false:=by decide):PE X (.Name x p) (zA i):=Mb h a H v
end
def fc {A B:Prop} (h:B):if false=true then A else B:=by
 rw [aaA aaB]
 exact h
def ge {A B:Prop} (h:A):if true=true then A else B:=by
 rw [aaE rfl]
 exact h
def hV {c A B:Prop} [Decidable c] (H:c) (h:B):if (!decide c)=true then A else B:=by
 rw [aao H]
 exact fc h
def aE (H h:Hp):Prop:=∀ b o,H b=some o->h b=some o
def aE.refl (H:Hp):aE H H:=λ Z Z h=>h
def aE.trans {d H2:Hp} (a:aE H d) (b:aE d H2):aE H H2:=λ c o h=>b c o (a c o h)
def aE.free (e:aE H H') {l:ak} (h:H' l=Option.none):H l=Option.none:=by
 cases q:H l with
 | none=>rfl
 | some o =>
   rw [e l o q] at h
   cases h
def aE.seq {K:aA} {a:ak} {xs:ay} (e:aE H H') (h:bh K H a xs):bh K H' a xs:=by
 rcases h with (h|⟨o,h⟩)|h
 . exact .inl (.inl (e _ _ h))
 . exact .inl (.inr ⟨o,e _ _ h⟩)
 . exact .inr h
section
variable {κ:Type} [DecidableEq κ]
def GC {a:List (κ×V)} {k:κ} (h:gA a k=none):¬ k∈a.map (·.1):=by
 intro m
 obtain ⟨p,H,e⟩:=aaH.mp m
 have q:(a.any λ K=>decide (K.1=k))=true:=List.any_eq_true.mpr ⟨p,H,aao e⟩
 rw [jL,h] at q
 exact absurd q (by simp)
theorem De:∀ {l:List κ} {k:κ},l.Nodup->¬ k∈l->(l++[k]).Nodup
 | [],k,_,_=>by simp
 | a::r,k,h,H=>by
   obtain ⟨b,c⟩:=aaR.mp h
   show (a::(r++[k])).Nodup
   refine aaR.mpr ⟨λ m=>?_,De c λ m=>H (aad.mpr (Or.inr m))⟩
   rcases aar.mp m with q|q
   . exact b q
   . exact H (aad.mpr (Or.inl (aae.mp q).symm))
def Jl {a:List (κ×V)} {k:κ} (v:V) (H:(a.map (·.1)).Nodup) (h:gA a k=none):((putK a k v).map (·.1)).Nodup:=by
 rw [G5 v h,aah]
 exact De H (GC h)
end
end L2
namespace Mth
def LV {g l:Int} (h:0<=g) (H:0<l):Int.gcd l (g % l)=Int.gcd g l:=by
 obtain ⟨a,rfl⟩:=abx h
 obtain ⟨b,rfl⟩:=abx (abE H)
 show Nat.gcd b (((a:Int) % (b:Int))).natAbs=Nat.gcd a b
 have:(((a:Int) % (b:Int))).natAbs=a % b:=by rw [<- Int.natCast_emod];rfl
 rw [this,Nat.gcd_comm a b,Nat.gcd_comm b,<- Nat.gcd_rec]
def O5 {g:Int} (h:0<=g):((Int.gcd g 0:Nat):Int)=g:=by
 rw [Int.gcd_zero_right];lia
def wB {a b:Int} (H:0<a) (h:0<a * b):0<b:=by
 rcases (by lia:0<b\/b<=0) with q|q
 . exact q
 . have:=abR (abE H) (by lia:0 <= -b)
   rw [aee] at this
   lia
structure Fr (t b q r:Int):Prop where
 pos:0<r
 Do:q * b=t * r
 cop:Int.gcd q r=1
 Pc:q.natAbs<=t.natAbs
 OX:r.natAbs<=b.natAbs
def uP {c q:Int} (h:0<c):q.natAbs<=(c * q).natAbs:=by
 rw [acI]
 exact Nat.le_mul_of_pos_left _ (by lia)
def Iv {t b c:Int} (e:b≠0) (f:c=((Int.gcd t b:Nat):Int)):0<c/\c<=b.natAbs/\(0<b->Fr t b (t.fdiv c) (b.fdiv c))/\(b<0->Fr t b (t.fdiv (-c)) (b.fdiv (-c))):=by
 have o:0<Int.gcd t b:=Int.gcd_pos_iff.mpr (.inr e)
 have C:0<c:=by lia
 have D:c ∣ t:=f ▸ Int.gcd_dvd_left t b
 have i:c ∣ b:=f ▸ Int.gcd_dvd_right t b
 obtain ⟨q,H⟩:=D
 obtain ⟨r,h⟩:=i
 have p:r≠0:=by rintro rfl;rw [Int.mul_zero] at h;exact e h
 have d:c<=b.natAbs:=by
   rw [h,acI]
   have:c.natAbs * 1<=c.natAbs * r.natAbs:=Nat.mul_le_mul_left _ (by lia)
   lia
 have E:t.fdiv c=q:=by rw [H,ab9 _ (by lia)]
 have j:b.fdiv c=r:=by rw [h,ab9 _ (by lia)]
 have k:t.fdiv (-c) = -q:=by rw [show t = -c * -q by rw [H,Int.neg_mul_neg],ab9 _ (by lia)]
 have l:b.fdiv (-c) = -r:=by rw [show b = -c * -r by rw [h,Int.neg_mul_neg],ab9 _ (by lia)]
 have g:Int.gcd q r=1:=by
   have a:Int.gcd (c * q) (c * r)=c.natAbs * Int.gcd q r:=Int.gcd_mul_left c q r
   rw [<- H,<- h] at a
   have n:c.natAbs=Int.gcd t b:=by lia
   rw [n] at a
   have m:Int.gcd t b * Int.gcd q r=Int.gcd t b * 1:=by rw [<- a,aeb]
   exact Nat.eq_of_mul_eq_mul_left o m
 have L:q.natAbs<=t.natAbs:=H ▸ uP C
 have s:r.natAbs<=b.natAbs:=h ▸ uP C
 refine ⟨C,d,λ B=>?_,λ B=>?_⟩
 . rw [E,j]
   exact ⟨wB C (h ▸ B),by rw [H,h,Int.mul_assoc,Int.mul_left_comm],g,L,s⟩
 . rw [k,l]
   refine ⟨wB C (by rw [aee,<- h];lia),?_,by rw [Int.gcd_neg,Int.neg_gcd];exact g,by lia,by lia⟩
   rw [H,h,Int.neg_mul,aee,Int.mul_assoc,Int.mul_left_comm]
def Bd (n:Nat) (x:Int):Prop:=x.natAbs<2 ^ n
def Bd.mono {m n:Nat} {x:Int} (h:Bd m x) (l:m<=n):Bd n x:=aax h (aa7 (by decide) l)
def Bd.mul {m n:Nat} {x y:Int} (h:Bd m x) (k:Bd n y):Bd (m+n) (x * y):=by
 unfold Bd at *
 rw [acI,Nat.pow_add]
 exact Nat.mul_lt_mul'' h k
def Bd.add {m:Nat} {x y:Int} (h:Bd m x) (k:Bd m y):Bd (m+1) (x+y):=by
 unfold Bd at *
 rw [acB]
 have:=Int.natAbs_add_le x y
 lia
def Bd.neg {m:Nat} {x:Int} (h:Bd m x):Bd m (-x):=by unfold Bd at *;rw [Int.natAbs_neg];exact h
def Bd.sub {m:Nat} {x y:Int} (h:Bd m x) (k:Bd m y):Bd (m+1) (x - y):=by rw [Int.sub_eq_add_neg];exact h.add k.neg
def Bd.le {m:Nat} {x y:Int} (h:Bd m y) (k:x.natAbs<=y.natAbs):Bd m x:=aav k h
def Bd.log {n:Nat} {x:Int} (h:Bd n x) (a:0<n):x.natAbs.log2<n:=by
 by_cases H:x.natAbs=0
 . rw [H];simpa using a
 . exact (Nat.log2_lt H).mpr h
def Fr.SL {t b q r:Int} {n:Nat} (h:Fr t b q r) (k:Bd n t):Bd n q:=k.le h.Pc
def Fr.QC {t b q r:Int} {n:Nat} (h:Fr t b q r) (k:Bd n b):Bd n r:=k.le h.OX
end Mth
namespace Bit
def rooms (n:Nat):bj:=(List.range 61).filter n.testBit
def f7 {n k:Nat}:k∈rooms n↔k<61/\n.testBit k=true:=by
 unfold rooms;rw [aa3,aaJ]
def pD (n:Nat):(rooms n).Pairwise (· < ·):=(adZ).filter _
def iY {n m k:Nat} (h:n<2 ^ m) (H:m<=k):n.testBit k=false:=Nat.testBit_lt_two_pow (aax h (aa7 (by decide) H))
def Cu {n m:Nat} (h:n<2 ^ m) (f:m<=61):(List.range m).filter n.testBit=rooms n:=by
 unfold rooms
 obtain ⟨d,c⟩:∃ d,61=m+d:=⟨61 - m,by lia⟩
 have e:List.range 61=List.range (m+d):=by rw [c]
 rw [e,List.range_add,abm]
 have:(List.map (m + ·) (List.range d)).filter n.testBit=[]:=by
   rw [ad1]
   intro a H
   obtain ⟨b,Z,rfl⟩:=aaH.mp H
   rw [iY h (by lia)]
   exact aaB
 rw [this,aa9]
def sumOf (l:bj):Nat:=l.foldl (λ n r=>n ||| 2 ^ r) 0
theorem yP:∀ (l:bj) (a k:Nat),(l.foldl (λ n r=>n ||| 2 ^ r) a).testBit k=(a.testBit k || decide (k∈l))
 | [],a,k=>by simp
 | r::l,a,k=>by
   rw [adC,yP l,adG,adc,Bool.or_assoc]
   congr 1
   by_cases h:r=k
   . subst h;simp
   . have:decide (k∈r::l)=decide (k∈l):=by simp [acv h]
     rw [this];simp [h]
def mM (l:bj) (k:Nat):(sumOf l).testBit k=decide (k∈l):=by
 unfold sumOf;rw [yP];simp
def FM {l:bj} {m:Nat} (h:∀ r∈l,r<m):sumOf l<2 ^ m:=by
 refine acF _ λ i H=>?_
 rw [mM]
 exact aam λ q=>absurd (h i q) (by lia)
def Ae {l:bj} (h:∀ r∈l,r<61) (g:l.Pairwise (· < ·)):rooms (sumOf l)=l:=by
 have E:∀ k,k∈rooms (sumOf l)↔k∈l:=λ k=>by
   rw [f7,mM]
   constructor
   . rintro ⟨Z,q⟩;exact abH q
   . intro q;exact ⟨h k q,aao q⟩
 have u:∀ (a b:bj),a.Pairwise (· < ·)->b.Pairwise (· < ·)->(∀ k,k∈a↔k∈b)->a=b:=by
   intro a
   induction a with
   | nil =>
     intro b Z Z H
     cases b with
     | nil=>rfl
     | cons y b=>exact absurd ((H y).mpr aas) (by simp)
   | cons x a i =>
     intro b e f H
     cases b with
     | nil=>exact absurd ((H x).mp aas) (by simp)
     | cons y b =>
       obtain ⟨c,d⟩:=aej.mp e
       obtain ⟨F,K⟩:=aej.mp f
       have X:x=y:=by
         rcases aad.mp ((H x).mp aas) with q|q
         . exact q
         . rcases aad.mp ((H y).mpr aas) with Q|Q
           . exact Q.symm
           . have:=F x q;have:=c y Q;lia
       subst X
       rw [i b d K λ k=>?_]
       constructor
       . intro q
         rcases aad.mp ((H k).mp (aai _ q)) with z|z
         . subst z;exact absurd (c k q) (abh _)
         . exact z
       . intro q
         rcases aad.mp ((H k).mpr (aai _ q)) with z|z
         . subst z;exact absurd (F k q) (abh _)
         . exact z
 exact u _ _ (pD _) g E
def parts (l:bj):bj:=l.foldl (λ p r=>p++p.map (· ||| 2 ^ r)) [0]
def Cs {p r:Nat} (h:p<2 ^ r):p ||| 2 ^ r=p+2 ^ r:=by
 have:=adA h 1
 rw [aeb] at this
 rw [Nat.or_comm,<- this,acC]
structure Ok (ps l:bj):Prop where
 len:ps.length=2 ^ l.length
 first:ps[0]?=some 0
 last:ps[ps.length - 1]?=some (sumOf l)
 rise:ps.Pairwise (· < ·)
 sub:∀ p∈ps,∀ k,p.testBit k=true->k∈l
def MY:Ok [0] []:=⟨rfl,rfl,rfl,by simp,λ p H k h=>by
 have:p=0:=by simpa using H
 subst this;simp at h⟩
def J3 {d l:bj} {r:Nat} (h:Ok d l) (o:∀ x∈l,x<r):Ok (d++d.map (· ||| 2 ^ r)) (l++[r]):=by
 have s:∀ p∈d,p<2 ^ r:=λ p m=>acF _ λ i t=>by
   cases e:p.testBit i with
   | false=>rfl
   | true=>have:=o i (h.sub p m i e);lia
 have n:0<d.length:=by rw [h.len];exact Nat.two_pow_pos _
 refine ⟨?_,?_,?_,?_,?_⟩
 . rw [aac,OG,h.len,aac,aaw,acB];lia
 . rw [aal n];exact h.first
 .
  rw [aac,OG,aaS (by lia),aab]
  have e:d.length+d.length - 1 - d.length=d.length - 1:=by lia
  rw [e,h.last]
  show some (sumOf l ||| 2 ^ r)=some (sumOf (l++[r]))
  unfold sumOf
  rw [abA];rfl
 .
  rw [ada]
  refine ⟨h.rise,?_,λ a H b f=>?_⟩
  . rw [adn]
    refine adP ?_ h.rise
    intro a b H f U
    rw [Cs (s a H),Cs (s b f)];lia
  . obtain ⟨c,g,rfl⟩:=aaH.mp f
    have:=s a H
    rw [Cs (s c g)];lia
 .
  intro p m k j
  rcases aar.mp m with q|q
  . exact aa8 _ (h.sub p q k j)
  .
   obtain ⟨c,g,rfl⟩:=aaH.mp q
   rw [adG,Bool.or_eq_true] at j
   rcases j with z|z
   . exact aa8 _ (h.sub c g k z)
   . rw [adc] at z
     have:=abH z
     subst this
     exact aaV _ (by simp)
theorem C4:∀ (b a p:bj),Ok p a->(a++b).Pairwise (· < ·)->Ok (b.foldl (λ p r=>p++p.map (· ||| 2 ^ r)) p) (a++b)
 | [],a,p,h,_=>by simpa using h
 | r::b,a,p,h,H=>by
   rw [adC]
   have e:a++r::b=(a++[r])++b:=by simp
   have c:∀ x∈a,x<r:=λ x d=>(ada.mp H).2.2 x d r aas
   rw [e] at H |-
   exact C4 b (a++[r]) _ (J3 h c) H
def FT {n r:Nat} (f:r<61) (h:n.testBit r=false):(rooms (n ||| 2 ^ r)).length=(rooms n).length+1:=by
 have c:∀ (l:bj),l.Nodup->(l.filter (n ||| 2 ^ r).testBit).length=(l.filter n.testBit).length+(if r∈l then 1 else 0):=by
   intro l
   induction l with
   | nil=>intro Z;rfl
   | cons x l i =>
     intro b
     obtain ⟨H,a⟩:=aaR.mp b
     have e:=i a
     have g:(n ||| 2 ^ r).testBit x=(n.testBit x || decide (r=x)):=by rw [adG,adc]
     rw [adw,adw,g]
     by_cases q:r=x
     . subst q
       rw [h]
       simp only [decide_true,Bool.or_true,acl,aaW,e,aaA H,aad,true_or]
       simp
     . have Q:(r∈x::l)↔r∈l:=by simp [q]
       have d:decide (r=x)=false:=aam q
       rw [d,Bool.or_false]
       cases n.testBit x with
       | true=>simp only [acl,aaW,e];by_cases z:r∈l<;>simp [z,q]<;>lia
       | false=>simp only [abt,acg,e];by_cases z:r∈l<;>simp [z,q]
 have:=c (List.range 61) List.nodup_range
 rw [aaE (aaJ.mpr f)] at this
 exact this
end Bit
namespace L2
open PySem PySem.Spec PyProof.Rows Mth
def Bk:bootBuiltins "abs" = some (.builtin "abs"):=by decide +kernel
def cD:bootBuiltins "len" = some (.builtin "len"):=by decide +kernel
def hU:bootBuiltins "isinstance" = some (.builtin "isinstance"):=by decide +kernel
def Hc:bootBuiltins "all" = some (.builtin "all"):=by decide +kernel
def jR:bootBuiltins "tuple" = some (.type "tuple"):=by decide +kernel
def pe:bootBuiltins "list" = some (.type "list"):=by decide +kernel
def rD:bootBuiltins "int" = some (.type "int"):=by decide +kernel
def CI:bootBuiltins "bool" = some (.type "bool"):=by decide +kernel
def CM {n:Nat} {x:Int} (h:Bd n x):Builtin.Int.intBits x<=n:=acn.mpr h
def J4 {n:Nat} {x:Int} (h:Builtin.Int.intBits x<=n):Bd n x:=acn.mp h
section
variable {X:Cx}
def Lb (i j:Int):Prop:=∃ m n,Bd m i/\Bd n j/\m+n<=100000000
def Im (_ j:Int):Prop:=j≠0/\Bd 8999 j
def JI:jn X (binaryOp .Mult) (rI Lb λ i j => .int (i * j)):=Oo λ Z Z Z Z Z Z Z a q=>by
 obtain ⟨m,n,h,H,b⟩:=a
 exact mul_int q (IntMulOk.of_le (CM h) (CM H) (by lia))
def GJ:jn X (binaryOp .FloorDiv) (rI Im λ i j => .int (i.fdiv j)):=Oo λ Z Z Z Z Z Z Z h q=>by
 have H:Bd 8999 _:=h.2
 exact floordiv_int h.1 q (.inl (PyProof.noPylong_of_log2 (aax (H.log (by decide)) (by decide))))
inductive Rn (K:aA) (x:V) (y:V) (H:Hp) (Q:VK):Prop|mk (p xs i v:_) (_:x = .ref p) (_:y = .int i) (_:(bh K H p xs\/bR K H p xs)) (_:tT xs i=some v) (_:Q v H)
def az:R6 X (Rn X.K):=by
 intro V S a s U H x y v u Q I r R h d
 obtain ⟨p,f,i,w,e,E,b,c,q⟩:=h
 rcases b with b|b
 . exact JM V S a s U H x y v u Q I r R ⟨p,f,i,w,e,E,b,c,q⟩ d
 . exact Mq V S a s U H x y v u Q I r R ⟨p,f,i,w,e,E,b,c,q⟩ d
def jp:iI X (.builtin "isinstance") (λ xs H Q=>∃ x c t C b,xs=[x,c]/\rH X.K H x t/\RelV c C/\W.kitOne X.K t C=some b/\Q (.bl b) H):=by
 intro p s U H xs g Q I r h
 obtain ⟨x,c,t,C,b,rfl,ty,R,e,q⟩:=h
 obtain ⟨u,w,rfl,f,d⟩:=vals2 r
 have:w=C:=by
   cases c with
   | cB=>cases d;cases R;rfl
   | bl b=>cases d;cases R;rfl
   | ref a=>cases d;cases R;rfl
   | ty n=>cases d;cases R;rfl
   | int i=>exact absurd e (by obtain ⟨k,rfl⟩:=R;intro z;unfold W.kitOne W.kitCls at z;cases ty<;>simp at z)
   | str i=>exact absurd e (by obtain ⟨k,rfl⟩:=R;intro z;unfold W.kitOne W.kitCls at z;cases ty<;>simp at z)
   | Ey i=>exact absurd e (by obtain ⟨k,rfl⟩:=R;intro z;unfold W.kitOne W.kitCls at z;cases ty<;>simp at z)
   | LB i=>exact absurd e (by obtain ⟨k,rfl⟩:=R;intro z;unfold W.kitOne W.kitCls at z;cases ty<;>simp at z)
 subst this
 exact ES I f ty e λ T=>⟨.bl b,H,I.tok _,rfl,q⟩
end
def gy (K:aA) (m:cZ) (x:Str) (st:Stmt):Prop:=∃ f F,m x=some (.ref f)/\Ip K x x st f F
def Def (P:bi) (w:aV) (K:aA) (m:cZ) (base:aU) (x:Str) (k:Nat) (p:cx) (s:Sp):Prop :=
 ∃ f F,m x=some (.ref f)/\W.keepIn K (.ref f)=true/\Binds K F p []/\iz P w K m base xR k f F p s
section
variable {P:bi} {w:aV} {K:aA} {mg:cZ} {base:aU}
def gy.def {x:Str} {st:Stmt} {N p:cx} {k:Nat} {sp:Sp} (h:gy K mg x st) (S:aB N p (aq st)) (len:∀ vs H Q E,sp vs H Q E->vs.length=p.length)
   (i:∀ (kV d n:av) (c:Option ak) (b ct:av) (us:aZ),us.length=p.length->bindArgs (W.fnOf x x (cQ st) (bK st) (aq st) .none kV d n c b ct) ⟨us,[]⟩=pure (p.zip us))
   (e:∀ (f:ak) (b:av) (A:Around) (outer:List Env) (s:Shared) (H:Hp) (vs:ay) (Q:VK) (E:XK),cL k (A.deeper (envOfC x (aq st) s.heap.objs.size f b))->sp vs H Q E ->
     ∃ t,tF (iQ xR P w K mg base N x (aq st) f b A outer s H E).DY (bK st) t/\t { nx:=λ Z a=>Q .cB a,rt:=Q } (start N vs) H):Def P w K mg base x (k+1) p sp:=by
 obtain ⟨f,g,j,F⟩:=h
 exact ⟨f,g,j,F.kp,F.binds i,F.ok S len λ b A outer s H vs Q E l m=>e f b A outer s H vs Q E l m⟩
def Ip.M1 {x q:Str} {st:Stmt} {f:ak} {e:FuncData} {p:Str} (F:Ip K x q st f e)
   (h:∀ (kV d c:av) (a:Option ak) (b ct:av) (u:av),bindArgs (W.fnOf x q (cQ st) (bK st) (aq st) .none kV d c a b ct) ⟨[u],[]⟩=pure [(p,u)]) (s:Shared) (u:av):BindsTo s e ⟨[u],[]⟩ [(p,u)]:=by
 obtain ⟨o,O,kV,d,c,a,b,ct,X,rfl,l,v⟩:=F.ex
 exact .of_eq (h kV d c a b ct u)
end
section
variable {X:Cx} {x:Str} {p pos:Pos} {e:Expr} {es:List Expr} {t:TA} {k:Nat} {ps:cx} {sp:Sp}
def au (D:Def X.prog X.w X.K X.mg X.base x k ps sp) (i:cL k X.A) (h:PA X (e::es) t) (b:Gl X x:=by rfl) (q:wm x:=by decide)
   (a:yN X e es:=by rfl) (g:Dv X es pos:=by rfl):PE X (.Call (.Name x p) (e::es) [] pos) (zU sp [] E0 t):=by
 obtain ⟨f,j,d,c,H,F⟩:=D
 exact xp F i b d c H .nil zr h q a g
end
def BO {n:Int} {m:Nat} (h:(W.WData.int n).weight<=m):Bd m n:=by
 refine J4 ?_
 simpa only [W.WData.weight,Builtin.Int.intBits] using h
end L2
namespace Att
open PySem PySem.W PySem.Calls PyProof.Rows Mth
def xX {l:OpenLaw} {n:Nat} {q:bi} {L:cx} {X:(cZ)->aU->Prop} {y:aV->aU->Prop} {d:DefRec}
   (J:l.most=some n) (j:d.params.defaults=[])
   (c:∀ (w:aV) (s₀ s:Shared) (m M:cZ) (F:ak) (o:Obj) (p C D:av) (a:ak) (vs:aZ) (N:List Int),
     Ground q L [] X w s₀ m M s.heap->y w s.heap ->
     s.heap.get? F=some o->o.data = .func (docDef d.name d.params d.body d.scope p C D)->s.heap.CodeRec C d.name->m d.name=some (.ref F) ->
     s.heap.get? a=some { cls:=.type "list",data:=.seq vs.toArray }->IntsAre vs N->N.length<=n->(∀ z∈N,Bd 1048576 z)->s.gens=#[] ->
     codeAny (model l.prog w) callerA (.call (.ref F) ⟨[.ref a],[]⟩) (λ r s'=>r = .ok (.ret (.bool true))/\OldK s.heap s'.heap/\s'.os=s.os/\AllBare s'.gens) s) :
   WalkO q L X y l.row.toRowW d [] (λ f vs=>PySem.call f vs):=by
 intro w s₀ s m M G Y F o p C D t kV R B V e O E args v as K k T Q W
 obtain rfl:t = .none:=Dflts.none e j
 obtain rfl:kV = .none:=Dflts.noKw e
 obtain ⟨a,vs,N,rfl,rfl,i,h,H⟩:=Er J K Q
 have g:∀ z∈N,Bd 1048576 z:=λ z U=>by
   have u:=layableW_arg k _ (aae.mpr rfl)
   have b:=layableW_item u (.int z) (aaH.mpr ⟨z,U,rfl⟩)
   exact L2.BO (aaz (layableW_iff.mp b).2.2 (by decide))
 refine enter_call (acT (c w s₀ s m M F o p C D a vs N G Y R (fd_plain B) V O i h H g E) λ r s' S=>?_)
 obtain ⟨rfl,b,x,A⟩:=S
 exact ⟨.inl ⟨.bool true,.bool true,[],rfl,λ Z=>rfl,.bool true,Eg l _,λ Z=>⟨List.Pairwise.nil,λ Z I=>(nomatch I)⟩⟩,b,x,A⟩
end Att
namespace L2
open PySem PySem.Spec PyProof.Rows Mth
variable {H H':Hp} {elt iter tg:Expr} {elts ifs:List Expr} {g:TG} {nt t' x1:Nat} {o:HO} {qual:Str} {te:TE} {pR:Pos} {U:St}
inductive Gg (K:aA) (vs:ay) (H:Hp) (Q:VK) (_E:XK):Prop|mk (a:ak) (ns:List Int) (_:vs=[.ref a]) (_:bh K H a (ns.map V.int)) (_:ns.length<=63) (_:(∀ z∈ns,Bd 1048576 z)) (_:∀ H',Q (.bl true) H')
def GM {l:W.OpenLaw} {k:Nat} {q:bi} {L:cx} {X:(cZ)->aU->Prop} {y:aV->aU->Prop} {d:DefRec} {K:Params->aA} {x:Str} (I:l.most=some 63) (r:d.params.defaults=[]) (J:cL k callerA) (B:∀ (w:aV) (h:aU),y w h->(K w.params).In h) (F:∀ (w:aV) (m:cZ) (j:ak) (h:aU),(K w.params).In h->h.Ns mainGlobals m->m d.name=some (.ref j) ->
     ∃ n:FuncData,(∀ (s:Shared) (u:av),BindsTo s n ⟨[u],[]⟩ [(x,u)]) /\
       ∀ base:aU,(K w.params).In base->base.Ns mainGlobals m->iz l.prog w (K w.params) m base xR k j n [x] (Gg (K w.params))) :
   W.WalkO q L X y l.row.toRowW d [] (λ f vs=>PySem.call f vs):=by
 refine Att.xX I r λ w s₀ S m mb j o pm Q t a vs M G Y V U vg O N i c D E=>?_
 have p:=B w _ Y
 obtain ⟨n,C,v⟩:=F w m j _ p G.T.g O
 exact FN p G.T.g G.T.b G.T.builtins G.T.nolimit E N i (aaz c (by decide)) J v C (λ H R A=>⟨a,M,rfl,A,c,D,λ Z=>rfl⟩) λ H e s' z=>z
section
variable {X:Cx}
inductive LH (x:V) (y:V) (H:Hp) (Q:VK):Prop|mk (i j:_) (_:x = .int i) (_:y = .int j) (_:∀ r:Int,r=i+j->Q (.int r) H)
inductive Qt (x:V) (y:V) (H:Hp) (Q:VK):Prop|mk (i j:_) (_:x = .int i) (_:y = .int j) (_:∀ r:Int,r=i - j->Q (.int r) H)
inductive RK (x:V) (y:V) (H:Hp) (Q:VK):Prop|mk (i j:_) (_:x = .int i) (_:y = .int j) (_:Lb i j) (_:∀ r:Int,r=i * j->Q (.int r) H)
inductive Qk (x:V) (y:V) (H:Hp) (Q:VK):Prop|mk (i j:_) (_:x = .int i) (_:y = .int j) (_:Im i j) (_:∀ r:Int,r=i.fdiv j->Q (.int r) H)
inductive Sk (x:V) (y:V) (H:Hp) (Q:VK):Prop|mk (i j:_) (_:x = .int i) (_:y = .int j) (_:Hk i j) (_:∀ r:Int,r=i ^ j.toNat->Q (.int r) H)
inductive QB (x:V) (y:V) (H:Hp) (Q:VK):Prop|mk (i j:_) (_:x = .int i) (_:y = .int j) (_:Hk i j) (_:∀ r:Int,r=i * 2 ^ j.toNat->Q (.int r) H)
inductive RL (x:V) (y:V) (H:Hp) (Q:VK):Prop|mk (i j:_) (_:x = .int i) (_:y = .int j) (_:0<=j) (_:∀ r:Int,r=i / 2 ^ j.toNat->Q (.int r) H)
inductive Yj (x:V) (y:V) (H:Hp) (Q:VK):Prop|mk (i j:_) (_:x = .int i) (_:y = .int j) (_:∀ r:Int,r=Builtin.bitOr i j->Q (.int r) H)
inductive P1 (x:V) (y:V) (H:Hp) (Q:VK):Prop|mk (i j:_) (_:x = .int i) (_:y = .int j) (_:∀ r:Int,r=Builtin.bitAnd i j->Q (.int r) H)
inductive rLM (x:V) (y:V) (H:Hp) (Q:VK):Prop|mk (i j:_) (_:x = .int i) (_:y = .int j) (_:0<j) (_:∀ r:Int,0<=r->r<j->r=i % j->Q (.int r) H)
def bg:jn X (binaryOp .Add) LH:=λ p s U H x y v u Q I r R ⟨i,j,e,E,q⟩=>Mv p s U H x y v u Q I r R ⟨i,j,e,E,q _ rfl⟩
def dS:jn X (binaryOp .Sub) Qt:=λ p s U H x y v u Q I r R ⟨i,j,e,E,q⟩=>Mn p s U H x y v u Q I r R ⟨i,j,e,E,q _ rfl⟩
def bL:jn X (binaryOp .Mult) RK:=λ p s U H x y v u Q I r R ⟨i,j,e,E,c,q⟩=>JI p s U H x y v u Q I r R ⟨i,j,e,E,c,q _ rfl⟩
def bI:jn X (binaryOp .FloorDiv) Qk:=λ p s U H x y v u Q I r R ⟨i,j,e,E,c,q⟩=>GJ p s U H x y v u Q I r R ⟨i,j,e,E,c,q _ rfl⟩
def yp:jn X (binaryOp .Pow) Sk:=λ p s U H x y v u Q I r R ⟨i,j,e,E,c,q⟩=>Mj p s U H x y v u Q I r R ⟨i,j,e,E,c,q _ rfl⟩
def J2:jn X (binaryOp .LShift) QB:=λ p s U H x y v u Q I r R ⟨i,j,e,E,c,q⟩=>Nx p s U H x y v u Q I r R ⟨i,j,e,E,c,q _ rfl⟩
def CT:jn X (binaryOp .RShift) RL:=λ p s U H x y v u Q I r R ⟨i,j,e,E,c,q⟩=>Nv p s U H x y v u Q I r R ⟨i,j,e,E,c,q _ rfl⟩
def NN:jn X (binaryOp .BitOr) Yj:=λ p s U H x y v u Q I r R ⟨i,j,e,E,q⟩=>QF p s U H x y v u Q I r R ⟨i,j,e,E,q _ rfl⟩
def mH:jn X (binaryOp .BitAnd) P1:=λ p s U H x y v u Q I r R ⟨i,j,e,E,q⟩=>Oc p s U H x y v u Q I r R ⟨i,j,e,E,q _ rfl⟩
def bo:jn X (binaryOp .Mod) rLM:=λ p s U H x y v u Q I r R ⟨i,j,e,E,c,q⟩ =>
 Nf p s U H x y v u Q I r R ⟨i,j,e,E,c,q _ (adE _ (by lia)) (acD _ c) rfl⟩
def qW:iI X (.builtin "abs") (λ xs H Q=>∃ i,xs=[.int i]/\∀ r:Int,r=i.natAbs->Q (.int r) H) :=
 λ p s U H xs u Q I r ⟨i,e,q⟩=>Iq p s U H xs u Q I r ⟨i,e,q _ (by split<;>lia)⟩
def bv:iI X (.builtin "len") (λ xs H Q=>∃ p ys,xs=[.ref p]/\(bh X.K H p ys\/bR X.K H p ys)/\∀ r:Int,r=ys.length->Q (.int r) H) :=
 λ a s U H xs u Q I r ⟨p,ys,e,h,q⟩=>yq a s U H xs u Q I r ⟨p,ys,e,h,q _ rfl⟩
def ZE (t:TS):TS:=λ D U H=>∃ P:St->Hp->Prop,t { D with nx:=P } U H/\∀ a H',P a H'->D.nx a H'
def eW {st:Stmt} {t:TS} (h:PS X st t):PS X st (ZE t):=by
 intro p s U H D I d
 obtain ⟨P,b,c⟩:=d
 refine cR (h p s U H { D with nx:=P } I b) λ f S q=>?_
 cases f with
 | next =>
   obtain ⟨a,H',i,q⟩:=q
   exact ⟨a,H',i,c a H' q⟩
 | ret v=>exact q
 | brk=>exact q
 | cont=>exact q
end
def nO {c A B:Prop} [Decidable c] (H:c) (h:A):if decide c=true then A else B:=by
 rw [aao H];exact ge h
def jb {c A B:Prop} [Decidable c] (H:¬ c) (h:B):if decide c=true then A else B:=by
 rw [aam H];exact fc h
def fP {c A B:Prop} [Decidable c] (H:c->A) (a:¬ c->B):if decide c=true then A else B:=by
 by_cases h:c
 . exact nO h (H h)
 . exact jb h (a h)
def oU {c A B:Prop} [Decidable c] (H:¬ c->A) (a:c->B):if (!decide c)=true then A else B:=by
 by_cases h:c
 . exact hV h (a h)
 . rw [aam h];exact ge (H h)
def QK {c A B:Prop} [Decidable c] (H:¬ c) (h:A):if (!decide c)=true then A else B:=by
 rw [aam H];exact ge h
def ce {a b:Int}:V.int a=V.int b↔a=b:=⟨λ e=>by cases e;rfl,λ e=>by rw [e]⟩
def al {p:ak} (h:H p=none):aE H (upd H p o):=λ b u e=>by rw [ar (aw e h)];exact e
def aE.tup {K:aA} {a:ak} {xs:ay} (e:aE H H') (h:bR K H a xs):bR K H' a xs:=by
 rcases h with (h|⟨o,h⟩)|h
 . exact .inl (.inl (e _ _ h))
 . exact .inl (.inr ⟨o,e _ _ h⟩)
 . exact .inr h
def pV {n:Nat} {x:Int} (h:x.natAbs<2 ^ n:=by decide):Bd n x:=h
def Oa {x:Int} (n:Nat) (lo : -(2 ^ 100)<x) (H:x<2 ^ 100) (h:100<=n:=by decide):Bd n x:=by
 have:Bd 100 x:=by unfold Bd;lia
 exact this.mono h
def pK (K:aA):W.kitOne K (.type "int") (.type "bool")=some false:=by
 show (if W.kitMeta "bool" = true then ((PySem.fastBuiltinMro "int").map (·.contains (Value.type "bool"))) else none)=some false
 decide +kernel
def Io {x y:V}:[x,y].length<=sizeLine:=by show 2<=sizeLine;decide
def Uj {x y z:V}:[x,y,z].length<=sizeLine:=by show 3<=sizeLine;decide
inductive Od (vs:ay) (H:Hp) (Q:VK) (_E:XK):Prop|mk (a b:Int) (_:vs=[.int a,.int b]) (_:∀ r:Int,r=((Int.gcd a b:Nat):Int)->Q (.int r) H)
inductive zF (vs:ay) (H:Hp) (Q:VK) (_E:XK):Prop|mk (t b:Int) (_:vs=[.int t,.int b]) (_:b≠0) (_:Bd 4000 b) (_:∀ q r p H',Fr t b q r->aE H H'->H' p=some (.tup [.int q,.int r])->Q (.ref p) H')
inductive zu (f:Int->Int->Int->Int->Int) (K:aA) (vs:ay) (H:Hp) (Q:VK) (_E:XK):Prop|mk (p1 p2 a b c d:_) (_:vs=[.ref p1,.ref p2]) (_:bR K H p1 [.int a,.int b]) (_:bR K H p2 [.int c,.int d]) (_:0<b) (_:0<d) (_:Bd 1000 a) (_:Bd 1000 b) (_:Bd 1000 c) (_:Bd 1000 d) (_:∀ q r p H',Fr (f a b c d) (b * d) q r->aE H H'->H' p=some (.tup [.int q,.int r])->Q (.ref p) H')
inductive GQ (K:aA) (vs:ay) (H:Hp) (Q:VK) (_E:XK):Prop|mk (p1 p2 a b c d:_) (_:vs=[.ref p1,.ref p2]) (_:bR K H p1 [.int a,.int b]) (_:bR K H p2 [.int c,.int d]) (_:Bd 1000 a) (_:Bd 1000 b) (_:Bd 1000 c) (_:Bd 1000 d) (_:Q (.bl (decide (a * d<c * b))) H)
inductive Cz (K:aA) (vs:ay) (H:Hp) (Q:VK) (_E:XK):Prop|mk (a:ak) (ns:List Int) (k:Int) (_:vs=[.ref a,.int k]) (_:bh K H a (ns.map V.int)) (_:0<=k) (_:∀ z,(z∈ns\/z=0)->Q (.int z) H)
inductive G4 (vs:ay) (H:Hp) (Q:VK) (_E:XK):Prop|mk (t b:Int) (_:vs=[.int t,.int b]) (_:0<b) (_:Bd 4000 b) (_:∀ q r p H',Fr t b q r->aE H H'->H' p=some (.tup [.int q,.int r])->Q (.ref p) H')
def cF (X:Cx) (N':cx) (S:Scope) (cl:List (Str×ak)) (C:ak) (s:Shared) (H:Hp) (ex:bw):Cx :=
 { X with N:=N',env:=compEnvC S cl C X.env,s₀:=s,H₀:=H,outer:=X.stack,ex:=ex,fn:=λ Z=>false,pn:=[],xe:=λ Z Z=>False }
def Lj (X:Cx) (i:List Expr) (t:TT):Prop :=
 ∀ (p:List (ak×Obj)) (s:Shared) (U:St) (H:Hp) (Q:Bool->Hp->Prop),Inv X p U H s->t U H Q ->
   wpAny (model X.prog X.w) X.A (forIn i true λ c r=>if r=true then do let ok <- isTrue c X.env (eval c X.env);pure (ForInStep.yield ok) else pure (ForInStep.yield r)) (TP X p U Q) X.xe s
def Ya:TT:=λ Z H Q=>Q true H
def cJ {X:Cx}:Lj X [] Ya:=λ Z Z Z H Z I h=>wpAny_tests_nil ⟨H,I,h⟩
def kz {X:Cx} {c:Expr} {tt:TT} (a:PT X c tt):Lj X [c] tt:=λ p s U H Q I h=>wpAny_tests_one (a p s U H Q I h)
def ga (env:Env):List (Str×NameKind)->List (Str×ak)->List (Str×ak)
 | [],acc=>acc
 | y::r,acc=>ga env r (if (y.2 == NameKind.free)=true then (y.1,(env.cells.lookup y.1).getD 0)::acc else acc)
theorem yj (env:Env):∀ (names:List (Str×NameKind)) (acc:List (Str×ak)),(∀ y∈names,y.2 = .free->∃ c,env.cells.lookup y.1=some c) ->
   (forIn names acc λ x __s=>if (x.snd == NameKind.free)=true then do
       let __do_lift <- cellOf env x.fst
       pure (ForInStep.yield ((x.fst,__do_lift)::__s))
     else pure (ForInStep.yield __s))=(pure (ga env names acc):Sem _)
 | [],acc,_=>rfl
 | y::r,acc,h=>by
   rw [ac5]
   by_cases H:(y.2 == NameKind.free)=true
   .
    obtain ⟨c,e⟩:=h y aas (abW.mp H)
    rw [aaE H]
    have E:cellOf env y.1=pure c:=by unfold cellOf;rw [e]
    rw [E]
    simp only [pure_bind]
    rw [yj env r _ λ z a=>h z (aai _ a)]
    simp only [ga,H,acl,e,Option.getD_some]
   . rw [aaA H]
     simp only [pure_bind]
     rw [yj env r _ λ z a=>h z (aai _ a)]
     simp only [ga,H,acg]
     rfl
def KB {s:Scope} {env:Env} (h:∀ y∈s.names,y.2 = .free->∃ c,env.cells.lookup y.1=some c):closureFor s env=pure (ga env s.names []):=by
 simp only [closureFor]
 rw [yj env s.names [] h]
 simp only [pure_bind]
theorem vY {env:Env}:∀ {names:List (Str×NameKind)} {acc:List (Str×ak)},(∀ y∈names,y.2 = .free->∃ c,env.cells.lookup y.1=some c)->(∀ x c,acc.lookup x=some c->env.cells.lookup x=some c) ->
   ∀ x c,(ga env names acc).lookup x=some c->env.cells.lookup x=some c
 | [],_,_,H,x,c,e=>H x c e
 | y::r,acc,h,H,x,c,e=>by
   refine vY (names:=r) (λ z b=>h z (aai _ b)) ?_ x c e
   intro x c e
   by_cases a:(y.2 == NameKind.free)=true
   .
    rw [aaE a] at e
    obtain ⟨C,E⟩:=h y aas (abW.mp a)
    rw [E,Option.getD_some,abv] at e
    cases q:x == y.1 with
    | true=>rw [q] at e;cases e;rw [abW.mp q];exact E
    | false=>rw [q] at e;exact H x c e
   . rw [aaA a] at e;exact H x c e
theorem wc {env:Env}:∀ {names:List (Str×NameKind)} {acc:List (Str×ak)} {x:Str},(∃ c,acc.lookup x=some c)->∃ c,(ga env names acc).lookup x=some c
 | [],_,_,h=>h
 | y::r,acc,x,⟨c,h⟩=>by
   refine wc (names:=r) ?_
   by_cases H:(y.2 == NameKind.free)=true
   . rw [aaE H,abv]
     cases q:x == y.1 with
     | true=>exact ⟨_,rfl⟩
     | false=>exact ⟨c,h⟩
   . rw [aaA H];exact ⟨c,h⟩
theorem qF {env:Env}:∀ {names:List (Str×NameKind)} {acc:List (Str×ak)} {y:Str×NameKind},y∈names->y.2 = .free->∃ c,(ga env names acc).lookup y.1=some c
 | z::r,acc,y,h,H=>by
   rcases aad.mp h with rfl|h
   . refine wc (names:=r) ?_
     rw [aaE (abW.mpr H),abv]
     simp
   . exact qF (names:=r) h H
def uV {s:Scope} {env:Env} {x:Str} {k:NameKind} (h:(relabel s env).names.lookup x=some k) (c:k = .cell\/k = .free) (g:∀ y∈s.names,y.2 ≠ .cell):(x,NameKind.free)∈s.names:=by
 have d:=abB h
 obtain ⟨⟨n,K⟩,H,a⟩:=aaH.mp d
 dsimp only at a
 split at a
 .
  rename_i b
  cases a
  have:(K == NameKind.free)=true:=by
    simp only [aaG] at b
    exact b.1.1
  rw [abW.mp this] at H
  exact H
 .
  cases a
  rcases c with rfl|rfl
  . exact absurd rfl (g _ H)
  . exact H
theorem iH {env:Env}:∀ {names:List (Str×NameKind)} {x:Str},names.lookup x=some .free ->
   (names.map λ (n,k)=>if (k == NameKind.free && env.scope.kind == .function && env.kindOf n == some .cell) then (n,NameKind.cell) else (n,k)).lookup x=some .cell \/
   (names.map λ (n,k)=>if (k == NameKind.free && env.scope.kind == .function && env.kindOf n == some .cell) then (n,NameKind.cell) else (n,k)).lookup x=some .free
 | [],_,h=>by simp at h
 | (n,k)::r,x,h=>by
   have i:=@iH env r x
   show List.lookup x ((if (k == NameKind.free && env.scope.kind == .function && env.kindOf n == some .cell)=true then (n,NameKind.cell) else (n,k))::_)=_\/List.lookup x ((if (k == NameKind.free && env.scope.kind == .function && env.kindOf n == some .cell)=true then (n,NameKind.cell) else (n,k))::_)=_
   cases H:x == n with
   | true =>
     simp only [abv,H] at h
     cases h
     by_cases a:(NameKind.free == NameKind.free && env.scope.kind == .function && env.kindOf n == some .cell)=true
     . rw [aaE a];simp [abv,H]
     . rw [aaA a];simp [abv,H]
   | false =>
     simp only [abv,H] at h
     by_cases a:(k == NameKind.free && env.scope.kind == .function && env.kindOf n == some .cell)=true
     . rw [aaE a];simp only [abv,H];exact i h
     . rw [aaA a];simp only [abv,H];exact i h
section
variable {prog:bi} {w:aV} {A:Around} {R:Result->Shared->Prop} {s:Shared}
def yX {t:Expr} {a:Scope} {q:Pos} {u acc:av} {env:Env} (I:Nat->Shared->Prop) (T:∀ n s,I n s->wpAny (model prog w) A (pyNext u) (λ r S=>match r with
     | none=>R (.ok .next) S
     | some v=>wpAny (model prog w) A (letOwnedTupleGo t u v) (λ Z S=>wpAny (model prog w) A (assign t env v) (λ Z g =>
         wpAny (model prog w) A (forIn ifs true λ c r=>if r=true then do let ok <- isTrue c env (eval c env);pure (ForInStep.yield ok) else pure (ForInStep.yield r)) (λ ok b =>
           if ok=true then wpAny (model prog w) A (eval elt env) (λ x i =>
             wpAny (model prog w) A (call (.builtin "list.append") [acc,x]) (λ Z j=>∃ m,m<n/\I m j) (notedBy (model prog w) A env λ e s'=>R (.error e) s') i) (notedBy (model prog w) A env λ e s'=>R (.error e) s') b
           else ∃ m,m<n/\I m b) (notedBy (model prog w) A env λ e s'=>R (.error e) s') g) (notedBy (model prog w) A env λ e s'=>R (.error e) s') S) (notedBy (model prog w) A env λ e s'=>R (.error e) s') S) (notedBy (model prog w) A env λ e s'=>R (.error e) s') s) (n:Nat) (h:I n s) :
   codeAny (model prog w) A (.compLoop (.ListComp elt [⟨t,iter,ifs,0⟩] a q) 0 u acc env) R s:=by
 refine codeAny_loop rfl I (λ n s z=>?_) n h
 show wpAny _ A ((compTurn (.ListComp elt [⟨t,iter,ifs,0⟩] a q) 0 u acc env).onRaise (λ x=>do noteFrame x env;theTreesLotGoes x)) _ _ s
 refine wpAny_noted ?_
 rw [compTurn_list]
 refine aaa (adz (aaa (aba (T n s z) (λ r S d=>?_) λ Z Z H=>H)))
 cases r with
 | none=>exact aan d
 | some v =>
   refine aaa (aba d (λ Z y k=>?_) λ Z Z H=>H)
   refine aaa (aba k (λ Z g l=>aaa (aba l (λ ok b f=>?_) λ Z Z H=>H)) λ Z Z H=>H)
   cases ok with
   | false=>exact aan ⟨rfl,f⟩
   | true =>
     exact aaa (aaa (aba f (λ x i o=>aaa (aba o (λ Z j p=>aan (aan ⟨rfl,p⟩)) λ Z Z H=>H)) λ Z Z H=>H))
end
section
variable {X:Cx}
def zq (w:TI) (g:TG) (T:TT) (t:TE) (n:Nat) (sl:bj):TE:=λ U H Q=>w U H λ J d=>∀ D,d D=none ->
 ∃ W:Nat->Nat->ay->St->Hp->Prop,(∃ m,W 0 m [] (List.replicate n none++sl.map λ j=>(U[j]?).join) (upd d D (.lst []))) /\
   ∀ i m A c H',W i m A c H' ->
     (J.stop i H'/\Q (.ref D) H') \/
     (J.go i H'/\∃ N:ay->St->Hp->Prop,(∀ G a h,N G a h->∃ M,M<m/\W (i+1) M G a h)/\∀ x e,J.IJ i H' x e->g x c e λ a k=>T a k λ b h =>
       if b=true then t a h λ y f=>f D=some (.lst A)/\A.length<sizeLine/\N (A++[y]) a (upd f D (.lst (A++[y])))
       else N A a h)
def wb {S:Scope} {aj:Pos} {wi:TI} {tt:TT} {N':cx} {sl:bj} (hc:X.calm=true) (hi:PI X tg iter wi) (hg:∀ cl C s H ex,PG (cF X N' S cl C s H ex) tg g) (ht:∀ cl C s H ex,Lj (cF X N' S cl C s H ex) ifs tt) (he:∀ cl C s H ex,PE (cF X N' S cl C s H ex) elt te) (Qh:N'.length=nt+sl.length) (LX:∀ k j:Nat,sl[k]?=some j->∃ x,N'[nt+k]?=some x/\X.N[j]?=some x/\S.names.lookup x=some .free) (hk:S.kind = .function) (gG:∀ y∈S.names,y.2 ≠ .cell) (kc:∀ y∈S.names,y.2 = .local->S.names.lookup y.1=some .local) (jQ:∀ y∈S.names,y.2 = .free->X.env.kindOf y.1=some .cell\/X.env.kindOf y.1=some .free) (hs:∀ x,foldedSetIterable iter X.env x=pure x) {use:Option (av->Sem Unit)} {Qp:av->Shared->Prop} {D:List (ak×Obj)} {s:Shared} {Q:V->Hp->Prop} {an:Pos} (I:Inv X D U H s) (h:zq wi g tt te nt sl U H Q) (a4:∀ (s6:Shared) (Y:Hp) (d c:ak) m,Inv X D U Y s6->vP X D Y c->s6.heap.Ns c m->Q (.ref d) Y->compPost (model X.prog X.w) X.A X.xe use Qp (.ref d) c (.ok .next) s6) :
   wpAny (model X.prog X.w) X.A (comprehension (.ListComp elt [⟨tg,iter,ifs,0⟩] S aj) S X.env an (newList []) false (eval iter X.env) use) Qp X.xe s:=by
 have PM:∀ y∈S.names,y.2 = .free->∃ c,X.env.cells.lookup y.1=some c:=λ y hy hf=>I.ok.has y.1 (jQ y hy hf)
 have R:=vY (env:=X.env) (names:=S.names) (acc:=[]) PM (λ x c e=>by simp at e)
 refine wpAny_comprehension_free (use:=use) (cl:=ga X.env S.names []) rfl hs (KB PM) hk kc (cR (hi D s U H _ I h) λ v s1 h1=>cR h1 λ Xe t h2=>?_)
 obtain ⟨it,F,tn,J,K,rfl,I2,T,Tn,f2,q⟩:=h2
 have nD:K t.heap.objs.size=none:=I2.cM.fresh (aaj _)
 obtain ⟨W,⟨m0,w0⟩,aX⟩:=q t.heap.objs.size nD
 refine abO ?_ (by show 0<=sizeLine;exact aaT _)
 have B:Inv X D U (upd K t.heap.objs.size (.lst [])) { t with heap:=t.heap.push { cls:=.type "list",data:=.seq ([]:aZ).toArray }} :=
   I2.laid (t':=t.toks) (λ b u e=>aak _ e) (aaj _) ⟨aaT _,[],0,.nil,aaQ _ rfl⟩
 generalize Gs:({ t with heap:=t.heap.push { cls:=.type "list",data:=.seq ([]:aZ).toArray }}:Shared)=f at B |-
 have a8:t.heap.objs.size<=f.heap.objs.size:=by rw [<- Gs];show _<=(Heap.push _ _).objs.size;rw [act];exact ace _
 have Ka:∀ b o,t.heap.get? b=some o->f.heap.get? b=some o:=λ b o e=>by rw [<- Gs];exact aak _ e
 refine wpAny_newFunctionEnv gG (by intro y hy;simp at hy) (λ h₁ TD a9=>?_) hk
 have zH:∀ b o,f.heap.get? b=some o->h₁.get? b=some o:=λ b o e=>a9.extBut b o (aaL (aat e)) (aak _ e)
 have nC:(upd K t.heap.objs.size (.lst [])) f.heap.objs.size=none:=B.cM.fresh (aaj _)
 have bd:f.heap.get? f.heap.objs.size=none:=ado (aaj _)
 have PF:∀ b∈F,b<t.heap.objs.size:=λ b a=>by
   obtain ⟨o,e,Z⟩:=T.obj _ _ Tn b a
   exact aat e
 have ad:∀ b∈F,b≠f.heap.objs.size:=λ b a=>aaL (aax (PF b a) a8)
 have a5:∀ b∈F,b≠t.heap.objs.size:=λ b a=>aaL (PF b a)
 have ae:∀ b∈F,b∉kN X.stack:=λ b a hm=>by
   rcases aad.mp (I2.AU b hm) with z|z
   . exact (f2 b a).2.1 z
   . exact (f2 b a).2.2.1 z
 have bc:∀ x c,(ga X.env S.names []).lookup x=some c->X.env.cells.lookup x=some c:=R
 have xQ:∀ b∈F,(b∈X.ex\/X.s₀.heap.objs.size<=b)/\b≠X.env.locals/\(∀ x c,X.env.cells.lookup x=some c->c≠b)/\∀ p∈X.pn++D,p.1≠b:=λ b a =>
   ⟨(f2 b a).2.2.2.1,(f2 b a).2.1,(f2 b a).2.2.2.2.1,(f2 b a).2.2.2.2.2⟩
 have Ll:(cF X N' S (ga X.env S.names []) f.heap.objs.size f (upd K t.heap.objs.size (.lst [])) F).Ok:=by
   refine ⟨B.ok.mod,hk,B.ok.glob,B.ok.blt,aaj _,λ x y c h1 h2=>B.ok.inj x y c (R x c h1) (R y c h2),λ x hx=>?_,(λ x c hf=>nomatch hf),B.ok.hd,B.ok.frames,.inl rfl,λ b a=>⟨ad b a,λ x c e=>(xQ b a).2.2.1 x c (R x c e)⟩,
     B.bs,aaz B.ok.KA B.sz,λ b o e a=>?_,ae,B.stack,B.yr⟩
   . have hm:(x,NameKind.free)∈S.names:=by
       rcases hx with hx|hx
       . exact uV hx (.inl rfl) gG
       . exact uV hx (.inr rfl) gG
     exact qF hm rfl
   . rcases (xQ b a).1 with z|z
     . exact B.ok.EK b o e z
     . exact absurd (aax (aat (B.ok.bs b o e).1) z) (abh _)
 have I4:Inv (cF X N' S (ga X.env S.names []) f.heap.objs.size f (upd K t.heap.objs.size (.lst [])) F) [] (List.replicate nt none++sl.map λ j=>(U[j]?).join) (upd K t.heap.objs.size (.lst []))
     { f with heap:=h₁,toks:=f.toks+([]:List (Str×av)).length }:=by
   refine ⟨Ll,rfl,B.bare,Un.kept zH,⟨_,TD,λ i x v e1 e2 e3=>?_⟩,λ x c e=>?_,nC,λ x c e=>B.kP x c (R x c e),λ p hp=>absurd hp (by simp [cF]),B.cM.kept zH,?_⟩
   .
    by_cases hi:i<nt
    . rw [aal (by simpa using hi),adW] at e2
      split at e2<;>cases e2
    .
     rw [aaS (by simpa using hi),ack,aab] at e2
     cases ej:sl[i - nt]? with
     | none=>rw [ej] at e2;cases e2
     | some j =>
       rw [ej] at e2
       have To:(U[j]?).join=some v:=aap e2
       have a3:U[j]?=some (some v):=by
         cases q:U[j]? with
         | none=>rw [q] at To;cases To
         | some o=>rw [q] at To;cases To;rfl
       obtain ⟨y,n1,n2,n3⟩:=LX _ j ej
       have:nt+(i - nt)=i:=by lia
       rw [this] at n1
       have Xw:y=x:=aap (n1.symm.trans e1)
       subst Xw
       have hm:(y,NameKind.free)∈S.names:=abB n3
       have ah:=jQ _ hm rfl
       obtain ⟨m,hn,hl⟩:=B.loc
       have Yo:RS X.env.scope y:=by
         rcases ah with z|z
         . exact .inr (.inl z)
         . exact .inr (.inr z)
       obtain ⟨u,r,l⟩:=hl j y v n2 a3 Yo
       refine ⟨u,r,.inr ⟨iH n3,?_⟩⟩
       obtain ⟨c,ec⟩:=qF (env:=X.env) (acc:=[]) hm rfl
       refine ⟨c,ec,?_⟩
       rcases l with ⟨k1,Z⟩|⟨Z,c',e',MN⟩
       . rcases ah with z|z
         . rw [show X.env.kindOf y=some .local from k1] at z;cases z
         . rw [show X.env.kindOf y=some .local from k1] at z;cases z
       . have Fz:c=c':=aap ((R y c ec).symm.trans e')
         subst Fz
         obtain ⟨o,ho,hd⟩:=MN
         exact ⟨o,zH c o ho,hd⟩
   . obtain ⟨v,o,ho,hd⟩:=B.cell x c (R x c e)
     exact ⟨v,o,zH c o ho,hd⟩
   . show _=N'.length
     rw [Qh,aac,ack,OG]
 have aC:tn 0 h₁:=T.keep _ _ _ Tn λ b a o e=>zH b o (Ka b o e)
 have NY:∀ {pl:List (ak×Obj)} {H':Hp},pl=[]->(∀ b∈F,H' b=none)->∀ b∈F,vP (cF X N' S (ga X.env S.names []) f.heap.objs.size f (upd K t.heap.objs.size (.lst [])) F) pl H' b:=λ {pl H'} gW hn b a=>by
   subst gW
   exact ⟨hn b a,ad b a,ae b a,.inl a,λ x c e=>(xQ b a).2.2.1 x c (R x c e),λ p hp=>absurd hp (by simp [cF])⟩
 have a6:∀ b∈F,(upd K t.heap.objs.size (.lst [])) b=none:=λ b a=>by rw [ar (a5 b a)];exact (f2 b a).1
 have ab:codeAny (model X.prog X.w) X.A (.compLoop (.ListComp elt [⟨tg,iter,ifs,0⟩] S aj) 0 (.ref it) (.ref t.heap.objs.size) (compEnvC S (ga X.env S.names []) f.heap.objs.size X.env))
     (compPost (model X.prog X.w) X.A X.xe use Qp (.ref t.heap.objs.size) f.heap.objs.size) { f with heap:=h₁,toks:=f.toks+([]:List (Str×av)).length }:=by
   refine yX (λ n s'=>∃ i E M H',Inv (cF X N' S (ga X.env S.names []) f.heap.objs.size f (upd K t.heap.objs.size (.lst [])) F) [] M H' s'/\tn i s'.heap/\(∀ b∈F,H' b=none)/\W i n E M H') ?_ m0 ⟨0,[],_,_,I4,aC,a6,w0⟩
   rintro n s5 ⟨i,E,O,Y,I5,OM,Ua,w5⟩
   rcases aX i n E O Y w5 with ⟨aW,qn⟩|⟨go,N,hN,aD⟩
   . refine cR (T.done (cF X N' S (ga X.env S.names []) f.heap.objs.size f (upd K t.heap.objs.size (.lst [])) F) rfl rfl rfl hc i [] s5 O Y _ I5 (NY rfl Ua) OM aW) λ r s6 ⟨hr,I6⟩=>?_
     subst hr
     obtain ⟨m,hn,Z⟩:=id I6.loc
     exact a4 s6 Y _ _ m (B.Lg (s':=s6) I6.os I6.base I6.cM I6.bare xQ) (B.AG (aaj _) I6.free) hn qn
   .
    refine cR (T.item (cF X N' S (ga X.env S.names []) f.heap.objs.size f (upd K t.heap.objs.size (.lst [])) F) rfl rfl rfl hc i [] s5 O Y _ I5 (NY rfl Ua) OM go) λ r s6 ⟨u,hr,h6⟩=>?_
    subst hr
    refine cR h6 λ Z s7 ⟨x,H7,I7,r7,y7,VP,a7⟩=>?_
    have a2:=I7.pinned (NY rfl a7) (T.obj _ _ VP)
    have L:∀ {s8:Shared} {G:St} {H8:Hp} {gz:ay},Inv (cF X N' S (ga X.env S.names []) f.heap.objs.size f (upd K t.heap.objs.size (.lst [])) F) ([]++vf F s7.heap) G H8 s8->(∃ m',m'<n/\W (i+1) m' gz G H8) ->
        ∃ m,m<n/\∃ i E M H',Inv (cF X N' S (ga X.env S.names []) f.heap.objs.size f (upd K t.heap.objs.size (.lst [])) F) [] M H' s8/\tn i s8.heap/\(∀ b∈F,H' b=none)/\W i m E M H':=λ {s8 G H8 gz} I8 ⟨m',hm,w8⟩=>by
      refine ⟨m',hm,i+1,gz,G,H8,I8.qd,T.keep _ _ _ VP λ b a o e=>(I8.pin (b,o) (aaV _ (aaV _ (kA a e)))).1,λ b a=>?_,w8⟩
      obtain ⟨o,e,d⟩:=T.obj _ _ VP b a
      exact (I8.pin (b,o) (aaV _ (aaV _ (kA a e)))).2.1
    refine aba (hg _ _ _ _ _ _ s7 O H7 x u _ a2 r7 (aD x H7 y7)) (λ Z s8 ⟨G,H8,I8,q8⟩=>?_) λ Z Z z=>False.elim z
    refine aba (ht _ _ _ _ _ _ s8 G H8 _ I8 q8) (λ ok s9 ⟨H9,I9,q9⟩=>?_) λ Z Z z=>False.elim z
    cases ok with
    | false =>
      rw [aaA aaB] at q9 |-
      exact L I9 (hN _ _ _ q9)
    | true =>
      rw [aaE rfl] at q9 |-
      refine aba (he _ _ _ _ _ _ s9 G H9 _ I9 q9) (λ y BH ⟨yv,IM,a0,UX,hD,hz,ba⟩=>?_) λ Z Z z=>False.elim z
      refine aba (cI (X:=(cF X N' S (ga X.env S.names []) f.heap.objs.size f (upd K t.heap.objs.size (.lst [])) F)) _ BH G IM (.ref t.heap.objs.size) [yv] (.ref t.heap.objs.size) [y] (λ Z Ef=>N (E++[yv]) G Ef) a0 rfl (.cons UX .nil) ⟨_,E,yv,rfl,rfl,hD,hz,ba⟩) (λ Z Lp ⟨bf,Ef,a1,be,bb⟩=>?_) λ Z Z z=>False.elim z
      exact L a1 (hN _ _ _ bb)
 exact codeAny_compStart_list ab (T.self _ 0 _ _ _ aC ab)
def Kh {S:Scope} {p:Pos} {w:TI} {t:TT} {N':cx} {sl:bj} (l:X.calm=true) (r:PI X tg iter w) (o:∀ cl C s H ex,PG (cF X N' S cl C s H ex) tg g) (A:∀ cl C s H ex,Lj (cF X N' S cl C s H ex) ifs t) (n:∀ cl C s H ex,PE (cF X N' S cl C s H ex) elt te) (f:N'.length=nt+sl.length) (L:∀ k j:Nat,sl[k]?=some j->∃ x,N'[nt+k]?=some x/\X.N[j]?=some x/\S.names.lookup x=some .free) (u:S.kind = .function) (G:∀ y∈S.names,y.2 ≠ .cell) (K:∀ y∈S.names,y.2 = .local->S.names.lookup y.1=some .local) (B:∀ y∈S.names,y.2 = .free->X.env.kindOf y.1=some .cell\/X.env.kindOf y.1=some .free) (z:∀ x,foldedSetIterable iter X.env x=pure x:=by intro Z;rfl) :
   PE X (.ListComp elt [⟨tg,iter,ifs,0⟩] S p) (zq w g t te nt sl):=by
 intro a s U H Q I h
 rw [eval_ListComp]
 exact wb l r o A n f L u G K B z I h λ D e d c m J F v q=>⟨m,v,λ M E=>⟨.ref d,e,J.turned (t':=D.toks) (λ b Z i q=>(E.2 b i).trans q) F.1 F.2.1 F.2.2.2.1 F.2.2.2.2.1 F.2.2.2.2.2,rfl,q⟩⟩
def fT {S:Scope} {p:Pos} {w:TI} {c:TT} (T f:cx) (sl:bj) (a:Paired (λ (j:Nat) (x:Str)=>X.N[j]?=some x/\S.names.lookup x=some .free/\(X.env.kindOf x=some .cell\/X.env.kindOf x=some .free)) sl f) (l:X.calm=true) (q:PI X tg iter w) (o:∀ cl C s H ex,PG (cF X (T++f) S cl C s H ex) tg g) (A:∀ cl C s H ex,Lj (cF X (T++f) S cl C s H ex) ifs c) (m:∀ cl C s H ex,PE (cF X (T++f) S cl C s H ex) elt te) (u:S.kind = .function:=by rfl) (G:∀ y∈S.names,y.2 ≠ .cell:=by decide +kernel) (D:∀ y∈S.names,y.2 = .local->S.names.lookup y.1=some .local:=by decide +kernel) (J:∀ y∈S.names,y.2 = .free->y.1∈f:=by decide +kernel) (v:∀ x,foldedSetIterable iter X.env x=pure x:=by intro Z;rfl) :
   PE X (.ListComp elt [⟨tg,iter,ifs,0⟩] S p) (zq w g c te T.length sl):=by
 have K:∀ {sl:bj} {f:cx},Paired (λ (j:Nat) (x:Str)=>X.N[j]?=some x/\S.names.lookup x=some .free/\(X.env.kindOf x=some .cell\/X.env.kindOf x=some .free)) sl f ->
     (∀ k j:Nat,sl[k]?=some j->∃ x,f[k]?=some x/\X.N[j]?=some x/\S.names.lookup x=some .free)/\∀ x∈f,X.env.kindOf x=some .cell\/X.env.kindOf x=some .free:=by
   intro sl f a
   induction a with
   | nil=>exact ⟨λ k j h=>by simp at h,λ x b=>by simp at b⟩
   | cons r t i =>
     refine ⟨λ k j h=>?_,λ x b=>?_⟩
     . cases k with
       | zero =>
         have e:_=j:=aap h
         subst e
         exact ⟨_,rfl,r.1,r.2.1⟩
       | succ k=>exact i.1 k j (by simpa using h)
     . rcases aad.mp b with z|z
       . rw [z];exact r.2.2
       . exact i.2 x z
 refine Kh (N':=T++f) l q o A m (by rw [aac,a.length]) (λ k j h=>?_) u G D (λ y B n=>(K a).2 _ (J y B n)) v
 obtain ⟨x,E,d⟩:=(K a).1 k j h
 exact ⟨x,by rw [aaS (abQ _ _),adV];exact E,d⟩
end
def fY {lo:Int} {n:Nat} {t:TT} {D:ak} {Q:Hp->Prop} (c:Nat->ay->St->Hp->Prop) (h0:c 0 [] U H) (o:∀ i acc U H,i<n->c i acc U H->g (.int (lo+i)) U H λ a j=>t a j λ b h =>
     if b=true then te a h λ y f=>f D=some (.lst acc)/\acc.length<sizeLine/\c (i+1) (acc++[y]) a (upd f D (.lst (acc++[y]))) else c (i+1) acc a h) (l:∀ acc U H,c n acc U H->Q H) :
   ∃ W:Nat->Nat->ay->St->Hp->Prop,(∃ m,W 0 m [] U H)/\∀ i m acc d H',W i m acc d H'->((Js lo n).stop i H'/\Q H') \/
     ((Js lo n).go i H'/\∃ N:ay->St->Hp->Prop,(∀ G a h,N G a h->∃ m',m'<m/\W (i+1) m' G a h)/\∀ x k,(Js lo n).IJ i H' x k->g x d k λ a j=>t a j λ b h =>
       if b=true then te a h λ y f=>f D=some (.lst acc)/\acc.length<sizeLine/\N (acc++[y]) a (upd f D (.lst (acc++[y]))) else N acc a h):=by
 refine ⟨λ i m acc U H=>m=n - i/\i<=n/\c i acc U H,⟨n,by simp,aaT _,h0⟩,?_⟩
 rintro i m acc U H ⟨rfl,r,p⟩
 by_cases M:i<n
 .
  refine .inr ⟨M,c (i+1),λ G d H' q=>⟨n - (i+1),by lia,rfl,M,q⟩,λ x H' y=>?_⟩
  obtain ⟨e,y⟩:=y
  subst e y
  exact o i acc U _ M p
 . have e:i=n:=by lia
   subst e
   exact .inl ⟨aaj _,l acc U H p⟩
def cE {K:aA} {a:ak} {xs:ay} {t:TT} {D:ak} {Q:Hp->Prop} (d:Nat->ay->St->Hp->Prop) (h0:d 0 [] U H) (r:∀ i acc U H,i<=xs.length->d i acc U H->bh K H a xs) (s:∀ i x acc U H,xs[i]?=some x->d i acc U H->g x U H λ c k=>t c k λ b h =>
     if b=true then te c h λ y j=>j D=some (.lst acc)/\acc.length<sizeLine/\d (i+1) (acc++[y]) c (upd j D (.lst (acc++[y]))) else d (i+1) acc c h) (n:∀ acc U H,d xs.length acc U H->Q H) :
   ∃ W:Nat->Nat->ay->St->Hp->Prop,(∃ m,W 0 m [] U H)/\∀ i m acc f H',W i m acc f H'->((Ln K a).stop i H'/\Q H') \/
     ((Ln K a).go i H'/\∃ N:ay->St->Hp->Prop,(∀ G c h,N G c h->∃ m',m'<m/\W (i+1) m' G c h)/\∀ x l,(Ln K a).IJ i H' x l->g x f l λ c k=>t c k λ b h =>
       if b=true then te c h λ y j=>j D=some (.lst acc)/\acc.length<sizeLine/\N (acc++[y]) c (upd j D (.lst (acc++[y]))) else N acc c h):=by
 refine ⟨λ i m acc U H=>m=xs.length - i/\i<=xs.length/\d i acc U H,⟨xs.length,by simp,aaT _,h0⟩,?_⟩
 rintro i m acc U H ⟨rfl,o,p⟩
 have q:=r i acc U H o p
 by_cases M:i<xs.length
 .
  refine .inr ⟨⟨xs,xs[i],q,by simp [M]⟩,d (i+1),λ G f H' u=>⟨xs.length - (i+1),by lia,rfl,M,u⟩,λ x H' y=>?_⟩
  obtain ⟨e,y⟩:=y
  subst e
  exact s i x acc U _ (y xs q) p
 . have e:i=xs.length:=by lia
   subst e
   exact .inl ⟨⟨xs,q,aaj _⟩,n acc U H p⟩
section
variable {X:Cx}
inductive Kj (x:V) (vs:ay) (H:Hp) (Q:VK):Prop|mk (i:Int) (_:x = .int i) (_:vs=[]) (_:∀ b:Int,b=((Builtin.Int.intBits i:Nat):Int)->Q (.int b) H)
def Ff:XZ X "int.bit_length" Kj:=by
 intro p s U H x V v u Q I R r h
 obtain ⟨i,rfl,rfl,q⟩:=h
 obtain ⟨t,rfl⟩:=R
 obtain rfl:=Vals.zero r
 exact call_int_bit_length ⟨.int _,H,I.tok _,⟨_,rfl⟩,q _ rfl⟩
def Ej (a b:Nat):Builtin.bitOr (a:Int) (b:Int)=((a ||| b:Nat):Int):=by
 have d:decide (0<=Builtin.bitNot (a:Int))=false:=aam (by unfold Builtin.bitNot;lia)
 have D:decide (0<=Builtin.bitNot (b:Int))=false:=aam (by unfold Builtin.bitNot;lia)
 have n:(Builtin.bitNot (Builtin.bitNot (a:Int))).toNat=a:=by unfold Builtin.bitNot;lia
 have N:(Builtin.bitNot (Builtin.bitNot (b:Int))).toNat=b:=by unfold Builtin.bitNot;lia
 unfold Builtin.bitOr Builtin.bitAnd
 rw [d,D]
 dsimp only
 rw [n,N]
 unfold Builtin.bitNot
 lia
def oN (a b:Nat):Builtin.bitAnd (a:Int) (b:Int)=((a &&& b:Nat):Int):=by simp [Builtin.bitAnd]
end
def ao (k:Nat):V:=.int (k:Int)
inductive AF (vs:ay) (H:Hp) (Q:VK) (_E:XK):Prop|mk (n r:Nat) (_:vs=[ao n,ao r]) (_:Q (.bl (n.testBit r)) H)
inductive yx (vs:ay) (H:Hp) (Q:VK) (_E:XK):Prop|mk (n r:Nat) (_:vs=[ao n,ao r]) (_:r<=1000) (_:Q (ao (n ||| 2 ^ r)) H)
inductive By (vs:ay) (H:Hp) (Q:VK) (_E:XK):Prop|mk (n:Nat) (_:vs=[ao n]) (_:n<2 ^ 61) (_:∀ p H',H p=none->aE H H'->H' p=some (.lst ((Bit.rooms n).map ao))->Q (.ref p) H')
inductive Bl (vs:ay) (H:Hp) (Q:VK) (_E:XK):Prop|mk (n:Nat) (_:vs=[ao n]) (_:n<2 ^ 61) (_:(Bit.rooms n).length<=8) (_:∀ p H',H p=none->aE H H'->H' p=some (.lst ((Bit.parts (Bit.rooms n)).map ao))->Q (.ref p) H')
def vU (n:Nat):(Bit.rooms n).length<=61:=by
 have:=aa4 n.testBit (List.range 61)
 rw [aaq] at this
 exact this
def Ky (n r:Nat) {s m:Int} (es:s=(n:Int) / 2 ^ ((r:Int)).toNat) (b:m=s % 2):decide (V.int m=V.int 1)=n.testBit r:=by
 rw [Nat.testBit_eq_decide_div_mod_eq]
 have e:s=((n / 2 ^ r:Nat):Int):=by
   rw [es,abf]
   have:((2:Int) ^ r)=((2 ^ r:Nat):Int):=by rw [Int.natCast_pow];rfl
   rw [this,<- Int.natCast_ediv]
 have E:m=((n / 2 ^ r % 2:Nat):Int):=by rw [b,e];exact (Int.natCast_emod _ _).symm
 have a:(V.int m=V.int 1)↔(n / 2 ^ r % 2=1):=by rw [ce,E];lia
 exact acS.mpr a
def BU (l:bj) (r:Nat):Bit.parts (l++[r])=Bit.parts l++(Bit.parts l).map (· ||| 2 ^ r):=by
 unfold Bit.parts;rw [abA];rfl
def Km (n i:Nat):Bit.Ok (Bit.parts ((Bit.rooms n).take i)) ((Bit.rooms n).take i):=by
 have:=Bit.C4 ((Bit.rooms n).take i) [] [0] Bit.MY (by rw [ac2];exact (Bit.pD n).sublist (List.take_sublist _ _))
 rw [ac2] at this
 exact this
def bM {a:Type} {l:List a} {i:Nat} {x:a} (h:l[i]?=some x):l.take (i+1)=l.take i++[x]:=by
 rw [abz,h];rfl
def GH {a:Type} {xs:List a} {v:a} (h:xs[xs.length - 1]?=some v):tT xs (-1)=some v:=by
 have H:xs.length - 1<xs.length:=(Ba.mp h).1
 have e:FJ xs.length (-1)=some (xs.length - 1):=by
   unfold FJ
   rw [aaA (by decide),aaE (by lia)]
   congr 1
   lia
 unfold tT
 rw [e];exact h
def dJ {l:bj} {i:Nat} {x:V} (h:(l.map ao)[i]?=some x):∃ k,l[i]?=some k/\x=ao k:=by
 rw [aab] at h
 cases e:l[i]? with
 | none=>rw [e] at h;cases h
 | some k=>rw [e] at h;exact ⟨k,rfl,(aap h).symm⟩
def Df (f:Obj->Obj):Prop:=∀ o,(f o).dict=o.dict/\(o.isFreed=false->(f o).isFreed=false)
def eh {b:Type}:Sem b->Prop
 | .pure _=>True
 | .raise _=>True
 | .unsupported _=>True
 | .finish _=>True
 | .rule _ k=>eh (k ())
 | .at _ k=>eh (k ())
 | .load _ _ k=>∀ o,eh (k o)
 | .update _ _ f k=>Df f/\eh (k ())
 | .alloc _ k=>∀ a,eh (k a)
 | .loadIfAlive _ k=>∀ o,eh (k o)
 | .point _ k=>eh (k ())
 | .register _ _=>True
 | .fresh k=>∀ t,eh (k t)
 | .ask k=>∀ t,eh (k t)
 | .choose _ _ k=>∀ n,eh (k n)
 | .os _ _ k=>∀ r,eh (k r)
 | .call ..=>False
 | .handled _ k=>∀ o,eh (k o)
 | .newGen _ k=>∀ n,eh (k n)
 | .genState _ k=>∀ x,eh (k x)
 | .resume ..=>False
 | .yield ..=>True
 | .stack k=>∀ x,eh (k x)
 | .fork ..=>True
 | .thread k=>∀ n,eh (k n)
 | .await ..=>True
def cP (h h':aU):Prop:=∀ b o,h.get? b=some o->∃ O,h'.get? b=some O/\O.dict=o.dict
def cP.refl (h:aU):cP h h:=λ Z o e=>⟨o,e,rfl⟩
theorem cP.trans {h H h3:aU} (x:cP h H) (y:cP H h3):cP h h3:=λ b o e =>
 let ⟨O,E,d⟩:=x b o e;let ⟨c,a,D⟩:=y b O E;⟨c,a,D.trans d⟩
theorem cP.update {h:aU} {a:ak} {f:Obj->Obj} (m:Df f):cP h (h.update a f):=λ b o e=>by
 by_cases z:a=b
 . subst z
   have nf:o.isFreed=false:=(Heap.get?_some_iff.mp e).2
   exact ⟨f o,acx f e ((m o).2 nf),(m o).1⟩
 . exact ⟨o,(adf h f z).trans e,rfl⟩
theorem cP.push {h:aU} {o:Obj}:cP h (h.push o):=λ b O e=>⟨O,aak _ e,rfl⟩
def J0 {j:Type} (M:Model) (d:PySem.Ctx):∀ (t:Sem j) (Q:j->Pos->Shared->Prop) (E:av->Pos->Shared->Prop) (p:Pos) (s:Shared),eh t->Sem.wp M d t Q E p s ->
   Sem.wp M d t (λ a p s'=>Q a p s'/\cP s.heap s'.heap) (λ e p s'=>E e p s'/\cP s.heap s'.heap) p s:=by
 intro t
 have u:∀ (t:Sem j) (Q:j->Pos->Shared->Prop) (E:av->Pos->Shared->Prop) (p:Pos) (s s1:Shared),cP s.heap s1.heap ->
     Sem.wp M d t (λ a p s'=>Q a p s'/\cP s1.heap s'.heap) (λ e p s'=>E e p s'/\cP s1.heap s'.heap) p s1 ->
     Sem.wp M d t (λ a p s'=>Q a p s'/\cP s.heap s'.heap) (λ e p s'=>E e p s'/\cP s.heap s'.heap) p s1:=λ t Q E p s s1 k h =>
   Sem.wp_mono M d t (λ Z Z Z z=>⟨z.1,k.trans z.2⟩) (λ Z Z Z z=>⟨z.1,k.trans z.2⟩) p s1 h
 induction t with
 | pure a=>intro Q E p s Z h;rw [Sem.wp_pure] at h |-;exact ⟨h,.refl _⟩
 | raise e=>intro Q E p s Z h;rw [Sem.wp_raise] at h |-;exact ⟨h,.refl _⟩
 | unsupported w=>intro Q E p s Z h;rw [Sem.wp_unsupported] at h;exact h.elim
 | finish e=>intro Q E p s Z h;rw [Sem.wp_finish] at h;exact h.elim
 | rule t k i=>intro Q E p s m h;rw [Sem.wp_rule] at h |-;exact i () Q E p s m h
 | «at» q k i=>intro Q E p s m h;rw [Sem.wp_at] at h |-;exact i () Q E q s m h
 | load a b k i=>intro Q E p s m h;rw [Sem.wp_load] at h |-;obtain ⟨o,e,h⟩:=h;exact ⟨o,e,i o Q E p s (m o) h⟩
 | update a b f k i=>intro Q E p s m h;rw [Sem.wp_update] at h |-;exact ⟨h.1,u _ Q E p s _ (.update m.1) (i () Q E p _ m.2 h.2)⟩
 | alloc o k i=>intro Q E p s m h;rw [Sem.wp_alloc] at h |-;exact u _ Q E p s _ .push (i _ Q E p _ (m _) h)
 | loadIfAlive a k i=>intro Q E p s m h;rw [Sem.wp_loadIfAlive] at h |-;exact i _ Q E p s (m _) h
 | point l k i=>intro Q E p s m h;rw [Sem.wp_point] at h |-;exact i () Q E p s m h
 | register a k i=>intro Q E p s m h;rw [Sem.wp_register] at h;exact h.elim
 | fresh k i=>intro Q E p s m h;rw [Sem.wp_fresh] at h |-;exact i _ Q E p _ (m _) h
 | ask k i=>intro Q E p s m h;rw [Sem.wp_ask] at h |-;exact i _ Q E p s (m _) h
 | choose S n k i=>intro Q E p s m h;rw [Sem.wp_choose] at h |-;exact ⟨h.1,i _ Q E p _ (m _) h.2⟩
 | os q l k i=>intro Q E p s m h;rw [Sem.wp_os] at h |-;exact i _ Q E p _ (m _) h
 | call c h g l k i=>intro Q E p s m h;exact m.elim
 | handled own k i=>intro Q E p s m h;rw [Sem.wp_handled] at h |-;exact i _ Q E p s (m _) h
 | newGen c k i=>intro Q E p s m h;rw [Sem.wp_newGen] at h |-;exact i _ Q E p _ (m _) h
 | genState g k i=>intro Q E p s m h;rw [Sem.wp_genState] at h |-;obtain ⟨x,e,h⟩:=h;exact ⟨x,e,i _ Q E p s (m _) h⟩
 | resume g r l k i=>intro Q E p s m h;exact m.elim
 | yield v g l k i=>intro Q E p s m h;rw [Sem.wp_yield] at h;exact h.elim
 | stack k i=>intro Q E p s m h;rw [Sem.wp_stack] at h |-;exact i _ Q E p s (m _) h
 | fork c k i=>intro Q E p s m h;rw [Sem.wp_fork] at h;exact h.elim
 | thread k i=>intro Q E p s m h;rw [Sem.wp_thread] at h |-;exact i _ Q E p s (m _) h
 | await a y T l k i=>intro Q E p s m h;unfold Sem.wp at h;exact h.elim
def uX {c:Type} {M:Model} {A:Around} {t:Sem c} {Q:c->Shared->Prop} {E:av->Shared->Prop} {s:Shared} (m:eh t) (h:wpAny M A t Q E s) :
   wpAny M A t (λ a s'=>Q a s'/\cP s.heap s'.heap) (λ e s'=>E e s'/\cP s.heap s'.heap) s:=λ b p H=>J0 M b t _ _ p s m (h b p H)
theorem eh.bind {b d:Type} {f:b->Sem d} (H:∀ a,eh (f a)):∀ {t:Sem b},eh t->eh (t.bind f):=by
 intro t
 induction t with
 | pure a=>intro Z;exact H a
 | raise e=>intro Z;trivial
 | unsupported w=>intro Z;trivial
 | finish e=>intro Z;trivial
 | rule t k i=>intro m;exact i () m
 | «at» q k i=>intro m;exact i () m
 | load a p k i=>intro m;exact λ o=>i o (m o)
 | update a p g k i=>intro m;exact ⟨m.1,i () m.2⟩
 | alloc o k i=>intro m;exact λ a=>i a (m a)
 | loadIfAlive a k i=>intro m;exact λ a=>i a (m a)
 | point l k i=>intro m;exact i () m
 | register a k i=>intro m;trivial
 | fresh k i=>intro m;exact λ a=>i a (m a)
 | ask k i=>intro m;exact λ a=>i a (m a)
 | choose s n k i=>intro m;exact λ a=>i a (m a)
 | os q l k i=>intro m;exact λ a=>i a (m a)
 | call c h g l k i=>intro m;exact m.elim
 | handled own k i=>intro m;exact λ a=>i a (m a)
 | newGen c k i=>intro m;exact λ a=>i a (m a)
 | genState g k i=>intro m;exact λ a=>i a (m a)
 | resume g r l k i=>intro m;exact m.elim
 | yield v g l k i=>intro m;trivial
 | stack k i=>intro m;exact λ a=>i a (m a)
 | fork c k i=>intro m;trivial
 | thread k i=>intro m;exact λ a=>i a (m a)
 | await a j T l k i=>intro m;trivial
def eh.bd {b c:Type} {t:Sem b} {f:b->Sem c} (h:eh t) (H:∀ a,eh (f a)):eh (t >>= f):=eh.bind H h
def xF (g:Array av->Array av):Df (Obj.mapFields g):=λ o=>by
 obtain ⟨c,d,D,sl⟩:=o
 cases D<;>exact ⟨rfl,λ h=>h⟩
def zw (g:Obj->Array (jk)):Df (λ o=>{ o with slots:=g o }):=λ o=>by
 obtain ⟨c,d,D,sl⟩:=o
 refine ⟨rfl,λ h=>?_⟩
 cases D<;>first|rfl|exact h
def rq (a:ak):eh (load a):=λ Z=>trivial
def vz (v:av):eh (fieldsOf v):=by
 unfold fieldsOf
 split
 . refine .bd (rq _) λ o=>?_
   split<;>trivial
 . trivial
def kK (v:av) (i:Nat):eh (field v i):=by
 unfold field
 refine .bd (vz v) λ V=>?_
 split<;>trivial
def jE (v:av) (i:Nat) (x:av):eh (setField v i x):=by
 unfold setField
 split
 .
  unfold updateField
  refine .bd (rq _) λ o=>?_
  split
  . split
    . exact ⟨xF _,trivial⟩
    . trivial
  . trivial
 . trivial
def tQ (e:av) (f:Option ak):eh (setFlight e f):=by
 unfold setFlight
 refine .bd (kK _ _) λ t=>?_
 split
 . exact jE _ _ _
 . trivial
def oK:eh stack:=λ Z=>trivial
theorem uy:∀ l:List Env,eh (readyFrames l)
 | []=>trivial
 | env::outer=>by
   unfold readyFrames
   split
   .
    refine .bd (rq _) λ o=>?_
    split
    . trivial
    .
     refine .bd ?_ λ i => .bd ?_ λ bk=>⟨zw _,uy outer⟩
     . unfold behindIsImport
       split
       . trivial
       . split
         . trivial
         . exact .bd (kK _ _) λ Z=>trivial
     . unfold keptBack
       split
       . split
         . trivial
         . unfold underTheClaimsCaller
           exact .bd (.bd oK λ Z=>trivial) λ Z=>trivial
       . trivial
   . trivial
def wW (env:Env):eh (PySem.frameOf env):=by
 unfold PySem.frameOf frameEnvs
 refine .bd (.bd oK λ Z=>trivial) λ l => .bd ?_ λ r=>?_
 .
  unfold frameObject
  split
  . trivial
  . exact .bd (uy _) λ Z=>trivial
 . split<;>trivial
def Bp (f:ak) (b:Bool):eh (entryPlaceOf f b):=by
 unfold entryPlaceOf
 refine .bd oK λ l=>?_
 split<;>trivial
def vi (a b c d e:av) (pl:aZ):eh (EntryCells.newEntry a b c d e pl):=by
 unfold EntryCells.newEntry newFields newObj
 dsimp only
 have o:∀ d,eh (newObjAsIs (.type "traceback") d):=λ d=>by
   unfold newObjAsIs
   exact .bd (λ Z=>trivial) λ Z=>trivial
 split
 . split
   . exact .bd trivial λ Z=>o _
   . exact o _
 . split
   . exact .bd trivial λ Z=>o _
   . exact o _
def ER (e:av) (env:Env):eh (noteFrame e env):=by
 unfold noteFrame
 split
 .
  refine .bd (kK _ _) λ h=>?_
  have rest:eh (do setField e 1 (<- EntryCells.newEntry h (<- PySem.frameOf env) .none (rawInt ‹ak›) .none (<- entryPlaceOf ‹ak› (h != .none)))) :=
    .bd (wW env) λ f => .bd (Bp _ _) λ p => .bd (vi _ _ _ _ _ _) λ v=>jE _ _ _
  split
  . refine .bd (kK _ _) λ x=>?_
    split
    . trivial
    . exact .bd (jE _ _ _) λ Z=>rest
  . exact rest
 . trivial
def pI (env:Env) (e:av):eh (leaving env e):=by
 unfold leaving
 exact .bd (ER _ _) λ Z=>tQ _ _
def uQ {h:aU} {as:bw} {b:ak} {o:Obj} (e:h.get? b=some o) (n:b∉as):(W.hideAll h as).get? b=some o:=W.hideAll_get _ e n
structure YF (P:bi) (w:aV) (outer:List Env) (H:Hp) (s:Shared) (cls:av) (x:ak) (H':Hp) (s':Shared):Prop where
 os:s'.os=s.os
 bare:AllBare s'.gens
 un:Un (kN outer) [] H H' s.heap s'.heap
 cM:mQ P w H' s'.heap
 fly:∃ a0 B,Heap.FlyingW B outer x cls a0 s'.heap/\(∀ b o,s.heap.get? b=some o->b∉kN outer->∀ o',s'.heap.get? b=some o'->B.get? b=some o')/\∀ b u,H' b=some u->∃ o,B.get? b=some o
def XD (h:aU) (x:ak) (d:Option ak):Prop:=∃ o,h.get? x=some o/\o.dict=d
def XD.kept {h h':aU} {x:ak} {d:Option ak} (k:cP h h') (q:XD h x d):XD h' x d:=let ⟨o,e,z⟩:=q;let ⟨O,E,Z⟩:=k x o e;⟨O,E,Z.trans z⟩
def Hs (P:bi) (w:aV):FG:=λ outer H s E e S=>∃ x cls H',e = .ref x/\YF P w outer H s cls x H' S/\∃ d,XD S.heap x d/\E cls d H'
def BQ {P:bi} {w:aV} {h h' B:aU} (x:mQ P w H h) (f:∀ b o,B.get? b=some o->h'.get? b=some o) (g:∀ b o,B.get? b=some o->h.get? b=some o) (t:∀ b u,H b=some u->∃ o,B.get? b=some o):mQ P w H h':=λ a o e =>
 (x a o e).dI (λ b u d q=>by
   have:∃ u',H b=some u':=by
     rcases d with z|z
     . exact ⟨o,by rw [z];exact e⟩
     . exact ⟨_,z⟩
   obtain ⟨u',V⟩:=this
   obtain ⟨O,c⟩:=t b u' V
   have:=g b O c
   rw [q] at this
   cases this
   exact f b u c) (λ Z q=>q) λ Z Z q=>q
def Thr (X:Cx) (E:XK):Prop:=∀ (p:List (ak×Obj)) (U:St) (H:Hp) (s:Shared) (h:aU) (x:ak) (cls:av) (args:aZ),Inv X p U H s->Heap.MadeExcOf s.heap h x cls args->E cls none H->X.xe (.ref x) { s with heap:=h }
section
variable {P:bi} {w:aV} {K:aA} {mg:cZ} {base:aU} {N:cx} {qual:Str} {scope:Scope} {f:ak} {cd:av} {A:Around} {outer:List Env} {s₀:Shared} {H₀:Hp} {E E':XK}
def MI (hE:∀ cls d H,E' cls d H->E cls d H):Thr (iQ (Hs P w) P w K mg base N qual scope f cd A outer s₀ H₀ E) E':=by
 intro L U H s h' x cls args I k p
 have R:(envOfC qual scope s₀.heap.objs.size f cd).frame=some s₀.heap.objs.size:=rfl
 have Y:=I.ok.frames
 have st:=I.stack
 have vW:∀ env∈(envOfC qual scope s₀.heap.objs.size f cd::outer),∀ b,env.frame=some b->b∈kN (envOfC qual scope s₀.heap.objs.size f cd::outer):=λ env p b h=>adi.mpr ⟨env,p,h⟩
 show wpAny _ _ (leaving _ _) _ _ _
 refine aba (uX (pI _ _) (wpAny_leaves_madeW (E:=λ Z Z=>False) (Q:=λ Z M=>∃ g t,M={ s with heap:=g }/\Heap.FlyingW (W.hideAll s.heap (kN (envOfC qual scope s₀.heap.objs.size f cd::outer))) outer x cls (.ref t) g/\h'.UpToSlots g) (base:=W.hideAll s.heap (kN (envOfC qual scope s₀.heap.objs.size f cd::outer))) Y R (λ b o q=>W.of_hideAll _ q) (W.funFrames_hide st vW) k λ g t i tup tn l=>⟨g,t,rfl,i,l⟩)) (λ Z M z=>?_) λ Z Z z=>z.1.elim
 obtain ⟨⟨g,t,rfl,i,l⟩,X⟩:=z
 have v:∀ b o,s₀.heap.get? b=some o->b∉kN outer->b∉kN (envOfC qual scope s₀.heap.objs.size f cd::outer):=λ b o e n hm=>by
   rcases aad.mp (show b∈s₀.heap.objs.size::kN outer from hm) with z|z
   . exact absurd (aat e) (by rw [z];exact abh _)
   . exact n z
 have D:∀ b o,s.heap.get? b=some o->b∉kN (envOfC qual scope s₀.heap.objs.size f cd::outer)->g.get? b=some o:=λ b o e n=>i.1 b o (uQ e n)
 have F:∀ b∈kN outer,∃ o,s.heap.get? b=some o/\∀ vs,o.data ≠ .fields vs:=λ b h=>(I.ok.oB.mem h).2 |> λ ⟨o,e,j⟩=>by
   obtain ⟨sl,a⟩:=I.base.slot b o e (I.ok.Kz b h) h (by intro z;exact absurd (show b∈([]:bw) from z) (by simp))
   exact ⟨_,a,j⟩
 have T:∀ b u,H b=some u->∃ o,(W.hideAll s.heap (kN (envOfC qual scope s₀.heap.objs.size f cd::outer))).get? b=some o:=λ b u e=>by
   have nf:b∉kN (envOfC qual scope s₀.heap.objs.size f cd::outer):=λ z=>by rw [I.yr b z] at e;cases e
   have lt:=I.cM.lt e
   cases q:s.heap.get? b with
   | none =>
     obtain ⟨o,J⟩:∃ o,s.heap.get? b=some o:=by
       have ok:=I.cM b u e
       cases u with
       | lst xs=>obtain ⟨Z,Z,Z,Z,e⟩:=ok;exact ⟨_,e⟩
       | tup xs=>obtain ⟨Z,Z,Z,o,e,Z⟩:=ok;exact ⟨_,e⟩
       | dK V=>obtain ⟨Z,Z,Z,Z,o,Z,Z,e,Z⟩:=ok;exact ⟨_,e⟩
       | dT V=>obtain ⟨Z,Z,Z,Z,o,Z,Z,e,Z⟩:=ok;exact ⟨_,e⟩
       | set S n=>obtain ⟨o,Z,Z,Z,e,Z⟩:=ok;exact ⟨_,e⟩
       | ins C dx fs=>obtain ⟨Z,Z,Z,e,Z⟩:=ok;exact ⟨_,e⟩
       | own y=>obtain ⟨Z,e⟩:=ok;exact ⟨_,e⟩
       | xd fs=>obtain ⟨Z,⟨Z,Z,Z,e,Z⟩,Z⟩:=ok;exact ⟨_,e⟩
       | Tv lo hi=>obtain ⟨Z,Z,Z,e⟩:=ok;exact ⟨_,e⟩
       | Ak ob u=>obtain ⟨e,Z⟩:=ok;exact ⟨_,e⟩
       | LA ps=>exact ⟨_,ok⟩
       | met f y=>exact ⟨_,ok⟩
       | ext φ=>obtain ⟨Z,⟨Z,e⟩,Z⟩:=ok;exact ⟨_,e⟩
     rw [q] at J;cases J
   | some o=>exact ⟨o,uQ q nf⟩
 refine ⟨x,cls,H,rfl,⟨I.os,I.bare,?_,BQ I.cM i.1 (λ b o q=>W.of_hideAll _ q) T,_,_,i,?_,T⟩,none,XD.kept X (let ⟨_,e,_⟩:=k.there;⟨_,e,rfl⟩),hE _ _ _ p⟩
 .
  refine ⟨λ b o e n h Z=>D b o (I.base.keep b o e n h (by simp [iQ])) (v b o e h),λ b o e n h Z=>?_,λ b o e n Z=>I.base.free b o e n (by simp [iQ]),λ b o e Z=>?_,I.base.sx,I.base.qy,I.base.sE⟩
  .
   obtain ⟨sl,c⟩:=I.base.slot b o e n h (by simp [iQ])
   obtain ⟨r,a,j⟩:=F b h
   rw [c] at a
   cases a
   obtain ⟨B,m⟩:=l b _ (k.keeps b _ c) j
   exact ⟨B,m⟩
  .
   obtain ⟨O,c⟩:=I.base.there b o e (by simp [iQ])
   by_cases h:b∈kN outer
   . obtain ⟨r,a,j⟩:=F b h
     obtain ⟨B,m⟩:=l b _ (k.keeps b _ a) j
     exact ⟨_,m⟩
   . exact ⟨O,D b O c (v b o e h)⟩
 .
  intro b o e h O G
  obtain ⟨r,c⟩:=I.base.there b o e (by simp [iQ])
  have a:=D b r c (v b o e h)
  rw [a] at G
  cases G
  exact uQ c (v b o e h)
def IY (hE:∀ cls d H,E' cls d H->E cls d H):Passes (Hs P w) (iQ (Hs P w) P w K mg base N qual scope f cd A outer s₀ H₀ E) E':=by
 intro M U H s e S I hc
 obtain ⟨x,cls,H',rfl,F,dd,Y,he⟩:=hc
 obtain ⟨G,B,v,J,T⟩:=F.fly
 have W:(envOfC qual scope s₀.heap.objs.size f cd).frame=some s₀.heap.objs.size:=rfl
 have fr:=I.ok.frames
 show wpAny _ _ (leaving _ _) _ _ _
 refine aba (uX (pI _ _) (wpAny_leaves_onW (E:=λ Z Z=>False) (Q:=λ Z R=>∃ j,R={ S with heap:=j }/\Heap.FlyingW B outer x cls G j/\S.heap.UpToSlots j) (outer:=outer) fr W v λ j k r=>⟨j,rfl,k,r⟩)) (λ Z R z=>?_) λ Z Z z=>z.1.elim
 obtain ⟨⟨j,rfl,k,r⟩,dk⟩:=z
 have V:∀ b o,s₀.heap.get? b=some o->b∉kN outer->b∉kN (envOfC qual scope s₀.heap.objs.size f cd::outer):=λ b o e n hm=>by
   rcases aad.mp (show b∈s₀.heap.objs.size::kN outer from hm) with z|z
   . exact absurd (aat e) (by rw [z];exact abh _)
   . exact n z
 have g:∀ b:ak,b∉(iQ (Hs P w) P w K mg base N qual scope f cd A outer s₀ H₀ E).ex:=λ b=>by simp [iQ]
 have l:∀ b o,s₀.heap.get? b=some o->b∉kN outer->∃ o',S.heap.get? b=some o'/\B.get? b=some o'/\j.get? b=some o':=λ b o e n=>by
   obtain ⟨O,a⟩:=I.base.there b o e (g b)
   obtain ⟨C,c⟩:=F.un.there b O a (by simp)
   have i:=J b O a (V b o e n) C c
   exact ⟨C,c,i,k.1 b C i⟩
 have m:∀ b∈kN outer,∃ o,S.heap.get? b=some o/\∀ vs,o.data ≠ .fields vs:=λ b h=>(v.2.2.1.mem (aai (s₀.heap.objs.size) h:b∈kN (envOfC qual scope s₀.heap.objs.size f cd::outer))).2
 refine ⟨x,cls,H',rfl,⟨F.os.trans I.os,F.bare,?_,BQ F.cM k.1 v.1 T,G,B,k,?_,T⟩,dd,Y.kept dk,hE _ _ _ he⟩
 .
  refine ⟨λ b o e n h Z=>?_,λ b o e n h Z=>?_,λ b o e n Z=>?_,λ b o e Z=>?_,λ b X q=>F.un.sx b X (I.base.sx b X q),λ b L u q=>F.un.qy b L u (I.base.qy b L u q),λ b ps q=>?_⟩
  . have a:=I.base.keep b o e n h (g b)
    have c:=F.un.keep b o a (I.base.free b o e n (g b)) (V b o e h) (by simp)
    exact k.1 b o (J b o a (V b o e h) o c)
  .
   obtain ⟨sl,a⟩:=I.base.slot b o e n h (g b)
   obtain ⟨ab,c⟩:=F.un.slot b _ a (I.base.free b o e n (g b)) (aai (s₀.heap.objs.size) h:b∈kN (envOfC qual scope s₀.heap.objs.size f cd::outer)) (by simp)
   obtain ⟨O,i,y⟩:=m b h
   rw [c] at i
   cases i
   obtain ⟨D,t⟩:=r b _ c y
   exact ⟨D,t⟩
  . obtain ⟨O,a⟩:=I.base.there b o e (g b)
    exact F.un.free b O a (I.base.free b o e n (g b)) (by simp)
  .
   by_cases h:b∈kN outer
   . obtain ⟨O,i,y⟩:=m b h
     obtain ⟨D,t⟩:=r b _ i y
     exact ⟨_,t⟩
   . obtain ⟨o',Z,Z,p⟩:=l b o e h
     exact ⟨o',p⟩
  . obtain ⟨m1,a⟩:=I.base.sE b ps q
    obtain ⟨m2,c⟩:=F.un.sE b _ a
    exact ⟨m1++m2,by rw [c,aeo]⟩
 .
  intro b o e h o' p
  obtain ⟨O,Z,a,c⟩:=l b o e h
  rw [c] at p
  cases p
  exact a
end
def Jv {K:aA} {h:aU} {C:ak} {F:aZ} {a:String} (X:K.In h) (q:W.excIn K C F a=true) :
   ∃ bm N nm q bs hdct sn sub ab col dd k0 k1 k2 k3 k5 mN,h.get? C=some (excClassObj nm q C N bs bm hdct sn sub ab col dd k0 k1 k2 k3 k5 a)/\h.Ns N mN/\mN "__init__" = none/\OwnTail h F bm:=by
 unfold W.excIn at q
 split at q
 .
  rename_i dd d sl f
  split at q
  .
   rename_i k bm k0 k1 k2 k3 n k5 H b
   simp only [aaG,abW,acN] at q
   obtain ⟨⟨⟨⟨⟨rfl,rfl⟩,Q⟩,g⟩,c⟩,U⟩:=q
   obtain ⟨nm,bs,m,i,j,e,sn,sub,ab,col,D⟩:=d
   dsimp only at H Q c U
   subst H Q
   have L:sl=#[k0,k1,k2,k3,some (.builtin n),k5]:=by
     obtain ⟨l⟩:=sl
     simp only at b
     rw [b]
   subst L
   exact ⟨bm,i,nm,j,bs,e,sn,sub,ab,col,dd,k0,k1,k2,k3,k5,_,X _ _ f,.of_isNs (W.isNs_of_in X c),W.nsMap_none_of_in X c U,W.tail_of_in X g⟩
  . cases q
 . cases q
section
variable {X:Cx}
def L8 (C:ak) (E:XK) (t:TA):TS:=λ Z U H=>t U H λ v h=>v.length<=sizeLine/\E (.ref C) none h
def FQ {c:Str} {C:ak} {B x0:String} {f:aZ} {n:String} {e:Expr} {rest:List Expr} {np j d:Pos} {t:TA} {E:XK} (hc:X.calm=true) (F:ExcBaseFacts B n x0 f) (hm:X.mg c=some (.ref C)) (q:W.excIn X.K C f n=true) (th:Thr X E) (Y:PA X (e::rest) t) (hg:Gl X c:=by rfl) (hd:(c == ("__debug__" : Str))=false:=by decide) (m:starEach (e::rest) X.env=(false,eval e X.env)::starEach rest X.env:=by rfl) (J:(backTo j (starEach rest X.env)).any (·.1)=false:=by rfl) :
   PS X (.Raise (some (.Call (.Name c np) (e::rest) [] j)) none d) (L8 C E t):=by
 intro p s U H D I h
 obtain ⟨tl,N,z,qn,g,a,G,S,A,b,k,o,r,u,v,w,M,R,V,O,T⟩:=Jv I.ok.mod.Ld q
 refine wpAny_Raise_call_subT (C:=C) (nm:=z) (q:=qn) (N:=N) (bs:=g) (bm:=tl) (hdct:=a) (sn:=G) (sub:=S) (ab:=A) (col:=b) (dd:=k) (k0:=o) (k1:=r) (k2:=u) (k3:=v) (k5:=w)
   F (mN:=M) (T.hasType F.hasBase) (I.ok.hd hc) (by rw [m];show (false || (backTo j (starEach rest X.env)).any (·.1))=false;rw [J];rfl) O (kH I hg hm ⟨rfl,?_⟩ hd)
 have l:=Y j p s U H _ I h
 rw [m] at l |-
 refine adp (aba l (λ us s2 ⟨vs,L,i,r2,hz,q2⟩=>⟨rfl,by rw [<- r2.length];exact hz,i.bk _ _ R,V.keeps i.bk,T.keeps i.bk,λ Q x hx=>?_⟩) λ Z Z y=>y)
 exact th p U L s2 Q x _ _ i hx q2
end
section
variable {P:bi} {w:aV} {K:aA} {mg:cZ} {base:aU}
def Ip.okX {x:Str} {st:Stmt} {f:ak} {a:FuncData} {N p:cx} {k:Nat} {sp:Sp} (F:Ip K x qual st f a) (S:aB N p (aq st)) (len:∀ vs H Q E,sp vs H Q E->vs.length=p.length) (c:∀ (b:av) (A:Around) (outer:List Env) (s:Shared) (H:Hp) (vs:ay) (Q:VK) (E:XK),cL k (A.deeper (envOfC qual (aq st) s.heap.objs.size f b))->sp vs H Q E ->
     ∃ t,tF (iQ (Hs P w) P w K mg base N qual (aq st) f b A outer s H E) (bK st) t/\t { nx:=λ Z H'=>Q .cB H',rt:=Q } (start N vs) H):iz P w K mg base (Hs P w) (k+1) f a p sp:=by
 obtain ⟨o,O,kV,d,g,e,b,ct,X,rfl,l,v⟩:=F.ex
 exact HQ l v S len λ A outer s H vs Q E h I=>c b A outer s H vs Q E h I
def GK (P:bi) (w:aV) (K:aA) (m:cZ) (base:aU) (x:Str) (k:Nat) (p:cx) (s:Sp):Prop :=
 ∃ f F,m x=some (.ref f)/\W.keepIn K (.ref f)=true/\Binds K F p []/\iz P w K m base (Hs P w) k f F p s
def gy.Rs {x:Str} {st:Stmt} {N p:cx} {k:Nat} {sp:Sp} (h:gy K mg x st) (S:aB N p (aq st)) (len:∀ vs H Q E,sp vs H Q E->vs.length=p.length) (g:∀ (kV d m:av) (a:Option ak) (b ct:av) (us:aZ),us.length=p.length->bindArgs (W.fnOf x x (cQ st) (bK st) (aq st) .none kV d m a b ct) ⟨us,[]⟩=pure (p.zip us)) (c:∀ (f:ak) (b:av) (A:Around) (outer:List Env) (s:Shared) (H:Hp) (vs:ay) (Q:VK) (E:XK),cL k (A.deeper (envOfC x (aq st) s.heap.objs.size f b))->sp vs H Q E ->
     ∃ t,tF (iQ (Hs P w) P w K mg base N x (aq st) f b A outer s H E) (bK st) t/\t { nx:=λ Z H'=>Q .cB H',rt:=Q } (start N vs) H):GK P w K mg base x (k+1) p sp:=by
 obtain ⟨f,e,i,F⟩:=h
 exact ⟨f,e,i,F.kp,F.binds g,F.okX S len λ b A outer s H vs Q E j l=>c f b A outer s H vs Q E j l⟩
end
def PX (X:Cx) (e:Expr) (t:St->Hp->VK->XK->Prop):Prop :=
 ∀ (p:List (ak×Obj)) (s:Shared) (U:St) (H:Hp) (Q:VK) (E:XK),Inv X p U H s->t U H Q E ->
   wpAny (model X.prog X.w) X.A (eval e X.env) (EP X p U Q) (λ ex a=>∃ h S,Inv X p U h S/\Hs X.prog X.w X.stack h S E ex a) s
section
variable {X:Cx} {x:Str} {p pos:Pos} {e:Expr} {es:List Expr} {t:TA} {k:Nat} {ps:cx} {sp:Sp}
def GU (D:GK X.prog X.w X.K X.mg X.base x k ps sp) (B:cL k X.A) (j:PA X.DY (e::es) t) (n:Gl X x:=by rfl) (C:wm x:=by decide) (m:yN X e es:=by rfl) (G:Dv X es pos:=by rfl) :
   PX X (.Call (.Name x p) (e::es) [] pos) (λ U H Q E=>t U H λ vs b=>sp (vs++[]) b Q E):=by
 obtain ⟨f,J,y,o,l,F⟩:=D
 intro a s U H Q E I h
 refine abi (kH I n y ?_ C)
 refine adK (h₀:=X.base) I.ok.mod.Ld o (aba (j pos a s U H _ (I.ng _) h) (λ d s1 ⟨vs,b,i,r,q⟩=>⟨i.oP,?_⟩) λ _ _ z=>False.elim z) m G
 have T:Inv X a U b s1:=i.kj
 have q:sp (vs++[]) b Q E:=q
 rw [aa9] at q
 have v:d.length=ps.length:=by rw [<- r.length];exact F.len _ _ _ _ q
 refine aef (acT (F.run X.A X.stack s1 b ⟨d,[]⟩ d vs Q E B T.Kb (by have:=l s1 d T.oP (by rw [aa9];exact v);rw [aa9] at this;exact this) r q) λ r S c=>?_)
 cases r with
 | error e=>exact ⟨b,s1,T,c⟩
 | ok g =>
   cases g with
   | ret u=>exact T.after c
   | next=>exact False.elim c
   | brk=>exact False.elim c
   | cont=>exact False.elim c
end
structure tZ (P:bi) (w:aV) (outer:List Env) (H:Hp) (s:Shared) (cls:av) (x:ak) (H':Hp) (a0:av) (B:aU) (s':Shared):Prop where
 os:s'.os=s.os
 bare:AllBare s'.gens
 un:Un (kN outer) [] H H' s.heap s'.heap
 cM:mQ P w H' s'.heap
 fl:Heap.FlyingW B outer x cls a0 s'.heap
 st:∀ b o,s.heap.get? b=some o->b∉kN outer->∀ o',s'.heap.get? b=some o'->B.get? b=some o'
 tk:∀ b u,H' b=some u->∃ o,B.get? b=some o
def YF.b {P:bi} {w:aV} {outer:List Env} {s s':Shared} {cls:av} {x:ak} (F:YF P w outer H s cls x H' s'):∃ a B,tZ P w outer H s cls x H' a B s' :=
 let ⟨a,B,f,h,t⟩:=F.fly;⟨a,B,F.os,F.bare,F.un,F.cM,f,h,t⟩
section
variable {P:bi} {w:aV} {outer:List Env} {H H':Hp} {s s':Shared} {cls a0:av} {x:ak} {B:aU}
def tZ.fin (F:tZ P w outer H s cls x H' a0 B s'):∀ b∈kN outer,∃ o,s'.heap.get? b=some o/\∀ vs,o.data ≠ .fields vs:=λ b h=>(F.fl.2.2.1.mem h).2
def tZ.moved {a:aU} {t2:Nat} (F:tZ P w outer H s cls x H' a0 B s') (c:Heap.FlyingW B outer x cls a0 a) (u:s'.heap.UpToSlots a):tZ P w outer H s cls x H' a0 B { s' with heap:=a,toks:=t2 }:=by
 have t:∀ b o,s.heap.get? b=some o->b∉kN outer->∃ o',B.get? b=some o'/\a.get? b=some o':=λ b o e h=>by
   obtain ⟨O,d⟩:=F.un.there b o e (by simp)
   have q:=F.st b o e h O d
   exact ⟨O,q,c.1 b O q⟩
 refine ⟨F.os,F.bare,⟨λ b o e n h g=>?_,λ b o e n h g=>?_,F.un.free,λ b o e g=>?_,F.un.sx,F.un.qy,F.un.sE⟩,BQ F.cM c.1 F.fl.1 F.tk,c,λ b o e h o' l=>?_,F.tk⟩
 . exact c.1 b o (F.st b o e h o (F.un.keep b o e n h g))
 .
  obtain ⟨sl,d⟩:=F.un.slot b o e n h g
  obtain ⟨O,f,i⟩:=F.fin b h
  rw [d] at f
  cases f
  obtain ⟨j,E⟩:=u b _ d i
  exact ⟨j,E⟩
 .
  by_cases h:b∈kN outer
  . obtain ⟨O,f,i⟩:=F.fin b h
    obtain ⟨j,E⟩:=u b _ f i
    exact ⟨_,E⟩
  . obtain ⟨o',Z,E⟩:=t b o e h
    exact ⟨o',E⟩
 .
  obtain ⟨O,q,E⟩:=t b o e h
  have k:a.get? b=some o':=l
  rw [E] at k
  cases k
  exact q
theorem tZ.none (F:tZ P w outer H s cls x H' a0 B s'):H' x=none:=by
 cases q:H' x with
 | none=>rfl
 | some u =>
   obtain ⟨o,e⟩:=F.tk x u q
   rw [F.fl.2.1] at e
   cases e
def tZ.obj (F:tZ P w outer H s cls x H' a0 B s'):∃ o vs,s'.heap.get? x=some o/\o.cls=cls/\o.data = .fields vs :=
 let ⟨o,vs,e,c,d,_⟩:=F.fl.first;⟨o,vs,e,c,d⟩
end
def Cx.held (X:Cx) (e:ak) (o:Obj):Cx:={ X with A:=X.A.mark (some (.ref e)),calm:=false,pn:=X.pn++[(e,o)],xe:=λ Z Z=>False }
theorem Cx.Ok.held {X:Cx} (ok:X.Ok) (e:ak) (o:Obj):(X.held e o).Ok :=
 ⟨ok.mod,ok.kind,ok.glob,ok.blt,ok.above,ok.inj,ok.has,ok.OC,(λ z=>nomatch z),ok.frames,ok.Ph,ok.We,ok.bs,ok.KA,ok.EK,ok.FP,ok.oB,ok.Kz⟩
section
variable {X:Cx} {pins:List (ak×Obj)} {U:St} {H H':Hp} {s s':Shared} {cls a0:av} {e:ak} {oe:Obj} {B:aU}
def Inv.FR (I:Inv X pins U H s) (F:tZ X.prog X.w X.stack H s cls e H' a0 B s'):Inv X pins U H' s' :=
 I.Lg (ch:=[]) F.os F.un F.cM F.bare (λ b z=>absurd z (by simp))
theorem Inv.held {vs:Array av} (I:Inv X pins U H s) (b:s.heap.get? e=some oe) (a:oe.data = .fields vs) (g:H e=none):Inv (X.held e oe) pins U H s:=by
 refine ⟨I.ok.held e oe,I.os,I.bare,I.base,I.loc,I.cell,I.free,I.kP,λ p h=>?_,I.cM,I.len⟩
 rcases aar.mp h with h|h
 .
  rcases aar.mp h with h|h
  . exact I.pin p (aa8 _ h)
  .
   have E:p=(e,oe):=by simpa using h
   subst E
   refine ⟨b,g,λ z=>?_,λ z=>?_,λ v z=>?_⟩
   .
    obtain ⟨m,⟨o,i,E,f,O,Z⟩,Z⟩:=I.loc
    have c:e=X.env.locals:=z
    rw [c,f] at b
    cases b
    rw [O] at a
    cases a
   . obtain ⟨Z,o,f,d⟩:=I.oB.mem z
     have x:s.heap.get? e=some o:=f
     rw [b] at x
     cases x
     exact d vs a
   . have c:oe.data = .cell v:=z
     rw [a] at c
     cases c
 . exact I.pin p (aaV _ h)
def Inv.yd (ok:X.Ok) (I:Inv (X.held e oe) pins U H s):Inv X pins U H s :=
 ⟨ok,I.os,I.bare,I.base,I.loc,I.cell,I.free,I.kP,λ p h=>I.pin p ((aar.mp h).elim (λ z=>aa8 _ (aa8 _ z)) λ z=>aaV _ z),I.cM,I.len⟩
end
def Z7 (X:Cx) (st:List Stmt) (t:(St->XK)->TS):Prop :=
 ∀ (p:List (ak×Obj)) (s:Shared) (U:St) (H:Hp) (D:Ends) (E:St->XK),Inv X p U H s->t E D U H ->
   wpAny (model X.prog X.w) X.A (execs st X.env) (SP X p D) (λ ex b=>∃ a h S,Inv X p a h S/\Hs X.prog X.w X.stack h S (E a) ex b) s
section
variable {X:Cx} {pos:Pos}
def Iz {e:Expr} {t:St->Hp->VK->XK->Prop} (b:PX X e t) (d:swapsWith e none pos.line X.env=pure false:=by rfl):Z7 X [.Expr e pos] (λ E D U H=>t U H (λ Z a=>D.nx U a) (E U)):=by
 intro p s U H D E I h
 refine adS (wpAny_Expr_any (aba (b p s U H _ _ I h) (λ v S q=>?_) λ ex S q=>?_) I.quiet d)
 . obtain ⟨x,a,i,r,Q⟩:=q
   exact aci ⟨U,a,i,Q⟩
 . obtain ⟨a,S,i,c⟩:=q
   exact ⟨U,a,S,i,c⟩
end
open PySem.Builtin PySem.Builtin.ObjectAttr
section
variable {K:aA} {C:ak}
def Dw:aZ->Bool
 | []=>false
 | .ref _::r=>Dw r
 | c::r=>decide (c::r=[.type "ValueError",.type "Exception",.type "BaseException",.type "object"])
def TK (K:aA) (C:ak):Bool:=(W.clsIn K C).any λ c=>Dw c.mro
end
open PySem.Builtin PySem.Builtin.ObjectAttr
structure Vf (K:aA) (C fI:ak) (Fx:aZ) (newId:String):Prop where
 ex:∀ h:aU,K.In h->∃ bm N nm q bs hdct sn sub ab col dd k0 k1 k2 k3 k5 mN,h.get? C=some (excClassObj nm q C N bs bm hdct sn sub ab col dd k0 k1 k2 k3 k5 newId)/\h.Ns N mN/\mN "__init__" = some (.ref fI)/\OwnTail h Fx bm
 fn:∀ h:aU,K.In h->∃ oI,h.get? fI=some oI/\oI.cls = .type "function"
def Ts (K:aA) (C f:ak) (F:aZ) (n:String):Bool:=(K.lookup C).any λ o=>decide (o.cls = .type "type") &&
 match o.data with
 | .cls c=>decide (c.mro = .ref C::c.mro.tail) && decide (o.slots.size=6) && decide (o.slots[4]?=some (some (.builtin n))) && !c.hasDel && W.tailIn K F c.mro.tail && W.nsOkIn K c.ns && decide (W.nsIn K c.ns "__init__" = some (some (.ref f)))
 | _=>false
@[elab_as_elim] theorem dO {α:Type} {motive:List α->Prop} {n:Nat} {us:List α} (h:us.length=n+1) (k:∀ a t,t.length=n->motive (a::t)):motive us:=by
 cases us with
 | nil=>cases h
 | cons a t=>exact k a t (ad4 h)
def ZW {b:Type} {n:Nat} {l:List b} (h:l.length=n+1):∃ a t,l=a::t/\t.length=n:=dO h λ a t h=>⟨a,t,rfl,h⟩
section
variable {X:Cx} {x:Str} {pos:Pos}
def fO {i:Int} (a:Gl X x) (h:∃ t,X.mg x=some (.int i t)) (H:wm x:=by decide):PE X (.Name x pos) (tC (.int i)):=by
 obtain ⟨t,h⟩:=h
 exact hJ a h ⟨t,rfl⟩ H
end
def Bi (K:aA) (a:ak) (xs:ay):Prop :=
 ∃ (o:Obj) (b:Array av) (n:Nat),K.lookup a=some o/\o.cls = .type "tuple"/\o.data = .seq b n/\b.size<=sizeLine/\Vals xs b.toList
def Bi.at {K:aA} {a:ak} {xs:ay} (h:Bi K a xs) (H:Hp):bR K H a xs:=.inr h
def Lo {K:aA} {a:ak} {dd:Option ak} {n:Nat} {sl:Array (jk)} {i j:Int} {t u:Tok} (h:K.lookup a=some ⟨.type "tuple",dd,.seq #[.int i t,.int j u] n,sl⟩):Bi K a [.int i,.int j] :=
 ⟨_,_,_,h,rfl,rfl,by show 2<=sizeLine;decide,.cons ⟨t,rfl⟩ (.cons ⟨u,rfl⟩ .nil)⟩
def A2 (K:aA) (T:ak) (I:ay):Prop:=∃ o n i,K.lookup T=some o/\o.data = .seq i n/\Vals I i.toList
structure sH (K:aA) (x qual:Str) (st:Stmt) (dV:av) (f:ak) (fd:FuncData):Prop where
 ex:∃ (oc:av) (od:Option ak) (kV doc pm:av) (an:Option ak) (bz ct:av) (xO:Array (jk)),
   fd=W.fnOf x qual (cQ st) (bK st) (aq st) dV kV doc pm an bz ct/\K.lookup f=some ⟨oc,od,.func fd,xO⟩/\W.codeIn K bz qual=true
 kp:W.keepIn K (.ref f)=true
def DH {K:aA} {x:Str} {st:Stmt} {f:ak} {o:av} {O a:Option ak} {X:Array (jk)} {D kV d p b ct:av} (l:K.lookup f=some ⟨o,O,.func (W.fnOf x qual (cQ st) (bK st) (aq st) D kV d p a b ct),X⟩) (c:W.codeIn K b qual=true) (k:W.keepIn K (.ref f)=true):sH K x qual st D f (W.fnOf x qual (cQ st) (bK st) (aq st) D kV d p a b ct):=⟨⟨o,O,kV,d,p,a,b,ct,X,rfl,l,c⟩,k⟩
section
variable {P:bi} {w:aV} {K:aA} {mg:cZ} {base:aU} {x qual m:Str} {st:Stmt} {dV:av} {f C:ak} {fd:FuncData} {N ps:cx} {k:Nat} {sp:Sp} {ds:aZ}
def sH.ok (F:sH K x qual st dV f fd) (S:aB N ps (aq st)) (len:∀ vs H Q E,sp vs H Q E->vs.length=ps.length) (a:∀ (b:av) (A:Around) (outer:List Env) (s:Shared) (H:Hp) (vs:ay) (Q:VK) (E:XK),cL k (A.deeper (envOfC qual (aq st) s.heap.objs.size f b))->sp vs H Q E ->
     ∃ t,tF (iQ xR P w K mg base N qual (aq st) f b A outer s H E).DY (bK st) t/\t { nx:=λ Z H'=>Q .cB H',rt:=Q } (start N vs) H):iz P w K mg base xR (k+1) f fd ps sp:=by
 obtain ⟨o,O,kV,d,p,e,b,ct,X,rfl,l,v⟩:=F.ex
 refine HQ l v S len λ A outer s H vs Q E c I=>?_
 obtain ⟨t,h,q⟩:=a b A outer s H vs Q E c I
 exact ⟨t,h.DY,q⟩
def sH.binds {T:ak} {o:Obj} {n:Nat} {i:Array av} (F:sH K x qual st (.ref T) f fd) (e:K.lookup T=some o) (j:o.data = .seq i n) (h:∀ (kV d p:av) (a:Option ak) (b ct:av) (us:aZ),(us++ds).length=ps.length->∃ k,bindArgs (W.fnOf x qual (cQ st) (bK st) (aq st) (.ref T) kV d p a b ct) ⟨us,[]⟩=seqItems? (.ref T) >>= k/\k (some i)=pure (ps.zip (us++ds))):Binds K fd ps ds:=by
 obtain ⟨O,m,kV,d,p,a,b,ct,q,rfl,l,v⟩:=F.ex
 intro s us X g
 obtain ⟨k,H,c⟩:=h kV d p a b ct us g
 exact W.binds_K X rfl e j H c
def sH.MU (F:sH K x qual st .none f fd) (h:∀ (kV d p:av) (a:Option ak) (b ct:av) (us:aZ),us.length=ps.length->bindArgs (W.fnOf x qual (cQ st) (bK st) (aq st) .none kV d p a b ct) ⟨us,[]⟩=pure (ps.zip us)):Binds K fd ps []:=by
 obtain ⟨o,O,kV,d,p,a,b,ct,X,rfl,l,v⟩:=F.ex
 exact .all (h kV d p a b ct)
def gb (K:aA) (C:ak) (m q:Str) (st:Stmt) (d:av):Prop:=∃ f fd,Meth K C m f/\sH K m q st d f fd
def gM (P:bi) (w:aV) (K:aA) (M:cZ) (base:aU) (C:ak) (m:Str) (k:Nat) (p:cx) (d:aZ) (s:Sp):Prop :=
 ∃ f fd,Meth K C m f/\Binds K fd p d/\iz P w K M base xR k f fd p s
def gb.Jx (h:gb K C m qual st .none) (S:aB N ps (aq st)) (len:∀ vs H Q E,sp vs H Q E->vs.length=ps.length) (e:∀ (kV d p:av) (a:Option ak) (b ct:av) (us:aZ),us.length=ps.length->bindArgs (W.fnOf m qual (cQ st) (bK st) (aq st) .none kV d p a b ct) ⟨us,[]⟩=pure (ps.zip us)) (c:∀ (f:ak) (b:av) (A:Around) (outer:List Env) (s:Shared) (H:Hp) (vs:ay) (Q:VK) (E:XK),cL k (A.deeper (envOfC qual (aq st) s.heap.objs.size f b))->sp vs H Q E ->
     ∃ t,tF (iQ xR P w K mg base N qual (aq st) f b A outer s H E).DY (bK st) t/\t { nx:=λ Z H'=>Q .cB H',rt:=Q } (start N vs) H):gM P w K mg base C m (k+1) ps [] sp:=by
 obtain ⟨f,fd,M,F⟩:=h
 exact ⟨f,fd,M,F.MU e,F.ok S len λ b A outer s H vs Q E g i=>c f b A outer s H vs Q E g i⟩
structure Ec (K:aA) (C:ak):Prop where
 makes:W.makesIn K C=true
 kp:W.keepIn K (.ref C)=true
def Hu (K:aA) (m:cZ) (x:Str) (st:Stmt) (d:av):Prop:=∃ f fd,m x=some (.ref f)/\sH K x x st d f fd
def SY (P:bi) (w:aV) (K:aA) (m:cZ) (base:aU) (x:Str) (k:Nat) (p:cx) (d:aZ) (s:Sp):Prop :=
 ∃ f fd,m x=some (.ref f)/\W.keepIn K (.ref f)=true/\Binds K fd p d/\iz P w K m base xR k f fd p s
end
section
variable {X:Cx} {C:ak} {m x:Str} {p pos apos:Pos} {e o:Expr} {es:List Expr} {ta:TE} {t:TA} {k:Nat} {ps:cx} {sp:Sp} {ds:aZ} {ij:ay}
def aR {pl:Sem Bool} (b:PE X o ta) (c:zJ X.K C) (D:gM X.prog X.w X.K X.mg X.base C m k ps ds sp) (a:Vals ij ds) (i:cL k X.A) (h:PA X (e::es) t) (J:yN X e es:=by rfl) (g:Dv X es pos:=by rfl) (j:eval (.Call (.Attribute o m apos) (e::es) [] pos) X.env=(do
     let O <- eval o X.env
     standAt apos.atName
     let (f,first) <- holding [O] (getMethod O m pl)
     callWith pos f first (backTo pos (starEach (e::es) X.env)) (backToKw pos (keywordEach [] X.env))):=by rfl) :
   PE X (.Call (.Attribute o m apos) (e::es) [] pos) (AA C m sp ij E0 ta t):=by
 obtain ⟨f,l,d,H,F⟩:=D
 exact KC (pl:=pl) b c d F i H a zr h J g j
def fG {pl:Sem Bool} (a:PE X o ta) (c:zJ X.K C) (D:gM X.prog X.w X.K X.mg X.base C m k ps ds sp) (H:Vals ij ds) (d:cL k X.A) (e:eval (.Call (.Attribute o m apos) [] [] pos) X.env=(do
     let O <- eval o X.env
     standAt apos.atName
     let (f,first) <- holding [O] (getMethod O m pl)
     callWith pos f first (backTo pos (starEach [] X.env)) (backToKw pos (keywordEach [] X.env))):=by rfl) :
   PE X (.Call (.Attribute o m apos) [] [] pos) (AA C m sp ij E0 ta IF):=by
 obtain ⟨f,g,b,h,F⟩:=D
 exact FS (pl:=pl) a c b F d h H zr e
def pS (M:Ec X.K C) (D:gM X.prog X.w X.K X.mg X.base C "__init__" k ps ds sp) (a:Vals ij ds) (i:cL (k+1) X.A) (d:X.mg x=some (.ref C)) (h:PA X (e::es) t) (c:Gl X x:=by rfl) (q:wm x:=by decide) (b:yN X e es:=by rfl) (g:Dv X es pos:=by rfl):PE X (.Call (.Name x p) (e::es) [] pos) (HK C sp ij E0 t):=by
 obtain ⟨f,j,m,H,F⟩:=D
 exact Jt ⟨M.makes,m.at_,m.fn,M.kp⟩ F i c d H a zr h q b g
def Fo (D:SY X.prog X.w X.K X.mg X.base x k ps ds sp) (a:Vals ij ds) (j:cL k X.A) (h:PA X (e::es) t) (c:Gl X x:=by rfl) (q:wm x:=by decide) (b:yN X e es:=by rfl) (g:Dv X es pos:=by rfl):PE X (.Call (.Name x p) (e::es) [] pos) (zU sp ij E0 t):=by
 obtain ⟨f,l,i,d,H,F⟩:=D
 exact xp F j c i d H a zr h q b g
end
section
variable {X:Cx} {pins:List (ak×Obj)} {U:St} {H:Hp} {s:Shared} {h':aU} {ch:bw}
def Inv.wX {a:ak} {t':Nat} (I:Inv X pins U H s) (k:∀ b u,b∉ch->s.heap.get? b=some u->h'.get? b=some u) (e:∀ b∈ch,vP X pins H b) (g:s.heap.objs.size<=a) (N:dF X.prog X.w (upd H a o) h' a o):Inv X pins U (upd H a o) { s with heap:=h',toks:=t' }:=by
 have f:H a=none:=I.cM.fresh g
 refine I.step (g':=s.gens) (d':=s.drawn) (ch:=ch) (λ b d=>⟨(e b d).2.2.2.1,(e b d).2.1,(e b d).2.2.2.2.1,(e b d).2.2.2.2.2⟩) (λ b u Z Z h q Z=>k b u h q) (λ b u Z Z h q Z=>⟨u.slots,k b u h q⟩)
   (λ b u Z q n=>by rw [ar (aaL (aax (aat q) g))];exact n) (λ b u h q=>⟨u,k b u h q⟩) (λ b x q=>by rw [ar (aw q f)];exact q) (λ b u x q=>by rw [ar (aw q f)];exact q)
   (λ b p q=>⟨#[],by rw [ar (aw q f),q];simp⟩) (λ m j=>?_) (λ b u q=>?_) I.bare
 . obtain ⟨O,i,E,l,r⟩:=j
   exact ⟨O,i,E,k _ O (λ z=>(e _ z).2.1 rfl) l,r⟩
 .
  by_cases d:b=a
  . subst d
    rw [ag] at q
    cases q
    exact N
  .
   rw [ar d] at q
   refine (I.cM b u q).dI (λ c v h z=>k c v (λ y=>?_) z) (λ c z=>by rw [ar (aw z f)];exact z) λ c x z=>by rw [ar (aw z f)];exact z
   have n:=(e c y).1
   rcases h with rfl|h
   . rw [n] at q;cases q
   . rw [n] at h;cases h
def Inv.wT {t':Nat} (I:Inv X pins U H s) (k:∀ b u,b∉ch->s.heap.get? b=some u->h'.get? b=some u) (a:∀ b∈ch,vP X pins H b):Inv X pins U H { s with heap:=h',toks:=t' }:=by
 refine I.step (g':=s.gens) (d':=s.drawn) (ch:=ch) (λ b d=>⟨(a b d).2.2.2.1,(a b d).2.1,(a b d).2.2.2.2.1,(a b d).2.2.2.2.2⟩) (λ b u Z Z h q Z=>k b u h q) (λ b u Z Z h q Z=>⟨u.slots,k b u h q⟩)
   (λ Z Z Z Z n=>n) (λ b u h q=>⟨u,k b u h q⟩) (λ Z Z q=>q) (λ Z Z Z q=>q) (λ b p q=>⟨#[],by rw [q];simp⟩) (λ m f=>?_) (λ b u q=>?_) I.bare
 . obtain ⟨o,E,e,g,r⟩:=f
   exact ⟨o,E,e,k _ o (λ z=>(a _ z).2.1 rfl) g,r⟩
 .
  refine (I.cM b u q).dI (λ c v h z=>k c v (λ y=>?_) z) (λ Z z=>z) λ Z Z z=>z
  have n:=(a c y).1
  rcases h with rfl|h
  . rw [n] at q;cases q
  . rw [n] at h;cases h
end
def Q7 (K:aA) (a b:ak):It :=
 ⟨λ i H=>∃ X Y x y,bh K H a X/\bh K H b Y/\X[i]?=some x/\Y[i]?=some y,
  λ i H v H'=>∃ p x y,H p=none/\v = .ref p/\H'=upd H p (.tup [x,y])/\(∀ X,bh K H a X->X[i]?=some x)/\∀ Y,bh K H b Y->Y[i]?=some y,
  λ i H=>∃ X Y,bh K H a X/\bh K H b Y/\(X.length<=i\/Y.length<=i)⟩
def lC (z TI TO I c a b:ak) (i:Nat) (h:aU):Prop:=IsZip h z TI TO .none/\IsPair h TI (.ref I) (.ref c)/\(∃ u v,IsPair h TO u v)/\h.IsListIter I a i/\h.IsListIter c b i
def lC.obj {z TI TO I d a b:ak} {i:Nat} {h:aU} (st:lC z TI TO I d a b i h):∀ c∈[z,TI,TO,I,d],∃ o,h.get? c=some o/\∀ v,o.data ≠ .cell v:=λ c H=>by
 obtain ⟨g,U,⟨u,v,G⟩,⟨O,E,Z,D⟩,⟨j,f,Z,e⟩⟩:=st
 simp only [aad,aaf,aaX] at H
 rcases H with rfl|rfl|rfl|rfl|rfl
 . exact ⟨_,g,λ v q=>by cases q⟩
 . exact ⟨_,U,λ v q=>by cases q⟩
 . exact ⟨_,G,λ v q=>by cases q⟩
 . exact ⟨O,E,λ v q=>by rw [D] at q;cases q⟩
 . exact ⟨j,f,λ v q=>by rw [e] at q;cases q⟩
def Hi {P:bi} {w:aV} {K:aA} {z TI TO f g a b:ak} (D:ZipApart z TI TO f g a b) :
   Turn P w K (.Tuple elts x1 pR) (Q7 K a b) [z,TI,TO,f,g] z (lC z TI TO f g a b) where
 mem:=by simp
 obj:=λ i h S=>S.obj
 keep:=λ i h F S k=>by
   obtain ⟨p,l,⟨u,v,G⟩,m,n⟩:=S
   exact ⟨k z (by simp) _ p,k TI (by simp) _ l,⟨u,v,k TO (by simp) _ G⟩,m.at λ o e=>k f (by simp) o e,n.at λ o e=>k g (by simp) o e⟩
 item:=by
   intro X L Q J hc i q s U H E I r S M
   subst L Q J
   obtain ⟨xs,ys,x,y,B,Y,hx,hy⟩:=M
   obtain ⟨JU,C,R,Mm⟩:=I.list B
   obtain ⟨oJ,O,T,WP⟩:=I.list Y
   obtain ⟨u1,N,V⟩:=C.get hx
   obtain ⟨u2,UN,W⟩:=O.get hy
   have lt:∀ c∈[z,TI,TO,f,g],c<s.heap.objs.size:=λ c A=>by
     obtain ⟨o,e,Z⟩:=S.obj c A
     exact aat e
   obtain ⟨p,l,⟨u,v,G⟩,m,n⟩:=S
   refine wpAny_pyNext_zip_item D p l G m n R.isList T.isList (x:=u1) (y:=u2) (by simpa using N) (by simpa using UN) λ F z1 z2 z3 z4 z5 z6 t=>?_
   refine ⟨.ref s.heap.objs.size,rfl,wpAny_letOwnedTupleGo_zip (s:={ s with heap:=F }) z1 λ Rg zz j=>?_⟩
   have Gy:∀ c o,c∉[z,TI,TO,f,g]->s.heap.get? c=some o->Rg.get? c=some o:=λ c o d e=>by
     simp only [aad,aaf,aaX,abF] at d
     exact j.extBut _ _ d.1 (t c o d.1 d.2.2.1 d.2.2.2.1 d.2.2.2.2 e)
   have nz:s.heap.objs.size≠z:=ab8 (lt z (by simp))
   have n5:IsPair Rg s.heap.objs.size u1 u2:=j.extBut _ _ nz z5
   refine ⟨.ref s.heap.objs.size,upd H s.heap.objs.size (.tup [x,y]),I.wX (t':=s.toks) Gy r (aaj _) ⟨by show 2<=sizeLine;decide,[u1,u2],.cons V (.cons W .nil),⟨_,n5,rfl,_,rfl⟩⟩,rfl,
     ⟨_,x,y,I.cM.fresh (aaj _),rfl,rfl,λ ab h=>by rw [I.oS h B];exact hx,λ ad h=>by rw [I.oS h Y];exact hy⟩,?_,λ c A=>?_⟩
   . exact ⟨zz,j.extBut _ _ D.TIz (t _ _ D.TIz D.TITO D.TIi1 D.TIi2 l),⟨_,_,j.extBut _ _ D.TOz z2⟩,z3.extBut j.extBut D.i1z,z4.extBut j.extBut D.i2z⟩
   . rw [ar (aaL (lt c A))]
     exact (r c A).1
 done:=by
   intro X L Q J hc i q s U H E I r S M
   subst L Q J
   obtain ⟨xs,ys,B,Y,hl⟩:=M
   obtain ⟨JU,C,R,Mm⟩:=I.list B
   obtain ⟨oJ,O,T,WP⟩:=I.list Y
   have l1:=C.length
   have l2:=O.length
   obtain ⟨p,l,⟨u,v,G⟩,m,n⟩:=S
   have XB:JU.toArray[i]?=none\/oJ.toArray[i]?=none:=by
     rcases hl with h|h
     . exact .inl (by simp;lia)
     . exact .inr (by simp;lia)
   refine wpAny_pyNext_zip_end (I.ok.hd hc) D p l G m n R.isList T.isList XB λ F t=>⟨rfl,I.wT (ch:=[z,TI,TO,f,g]) (t':=s.toks) (λ c o d e=>?_) r⟩
   simp only [aad,aaf,aaX,abF] at d
   exact t c o d.1 d.2.2.1 d.2.2.2.1 d.2.2.2.2 e
 self:=λ Z Z Z Z Z S h=>adQ S.1 h
def Hw:bootBuiltins "zip" = some (.type "zip"):=by decide +kernel
section
variable {X:Cx}
def Zz (K:aA) (t:TA):TI:=λ U H R=>t U H λ v h=>∃ a b,v=[.ref a,.ref b]/\(∃ x,bh K h a x)/\(∃ y,bh K h b y)/\R (Q7 K a b) h
def MD {a b:Expr} {t:TA} {p g:Pos} (o:Gl X "zip") (w:X.mg "zip" = none) (n:PA X [a,b] t) (x:starEach [a,b] X.env=[(false,eval a X.env),(false,eval b X.env)]:=by rfl) (F:starEach [b] X.env=[(false,eval b X.env)]:=by rfl):PI X (.Tuple elts x1 pR) (.Call (.Name "zip" p) [a,b] [] g) (Zz X.K t):=by
 intro f s U H R I h
 refine Call_ (io I o w Hw (aaY (cR (n g f s U H _ I h) λ us S ⟨vs,m,i,D,Q⟩=>?_) (by rw [x,F]) (by rw [F];rfl)))
 obtain ⟨a,b,e,⟨xs,B⟩,⟨ys,Y⟩,q⟩:=Q
 subst e
 obtain ⟨u,v,rfl,r,C⟩:=vals2 D
 obtain rfl:u=Value.ref a:=r
 obtain rfl:v=Value.ref b:=C
 obtain ⟨N,V,k,O⟩:=i.list B
 obtain ⟨oJ,T,l,W⟩:=i.list Y
 refine call_zip_2 k.isList l.isList λ h' z E G J M z6 y=>?_
 have L:a<S.heap.objs.size:=by obtain ⟨Z,e,Z⟩:=k.isList;exact aat e
 have A:b<S.heap.objs.size:=by obtain ⟨Z,e,Z⟩:=l.isList;exact aat e
 refine adQ z ?_
 refine ⟨S.heap.objs.size+4,[S.heap.objs.size+4,S.heap.objs.size+2,S.heap.objs.size+3,S.heap.objs.size,S.heap.objs.size+1],_,_,m,rfl,i.kept (t':=S.toks) y,Hi (zipApart_new L A),⟨z,E,⟨_,_,G⟩,J,M⟩,λ c j=>?_,q⟩
 have d:S.heap.objs.size<=c:=by
   simp only [aad,aaf,aaX] at j
   rcases j with rfl|rfl|rfl|rfl|rfl
   . exact abQ _ _
   . exact abQ _ _
   . exact abQ _ _
   . exact aaj _
   . exact abQ _ _
 exact i.AG d (i.cM.fresh d)
end
def Hj {K:aA} {a b:ak} {xs ys:ay} {t:TT} {D:ak} {Q:Hp->Prop} (d:Nat->ay->St->Hp->Prop) (h0:d 0 [] U H) (A:∀ i acc U H,i<=min xs.length ys.length->d i acc U H->bh K H a xs/\bh K H b ys) (C:∀ i x y p acc U H,xs[i]?=some x->ys[i]?=some y->H p=none->d i acc U H->g (.ref p) U (upd H p (.tup [x,y])) λ c l=>t c l λ k h =>
     if k=true then te c h λ v j=>j D=some (.lst acc)/\acc.length<sizeLine/\d (i+1) (acc++[v]) c (upd j D (.lst (acc++[v]))) else d (i+1) acc c h) (w:∀ acc U H,d (min xs.length ys.length) acc U H->Q H) :
   ∃ W:Nat->Nat->ay->St->Hp->Prop,(∃ m,W 0 m [] U H)/\∀ i m acc f H',W i m acc f H'->((Q7 K a b).stop i H'/\Q H') \/
     ((Q7 K a b).go i H'/\∃ N:ay->St->Hp->Prop,(∀ G c h,N G c h->∃ m',m'<m/\W (i+1) m' G c h)/\∀ x o,(Q7 K a b).IJ i H' x o->g x f o λ c l=>t c l λ k h =>
       if k=true then te c h λ y j=>j D=some (.lst acc)/\acc.length<sizeLine/\N (acc++[y]) c (upd j D (.lst (acc++[y]))) else N acc c h):=by
 refine ⟨λ i m acc U H=>m=min xs.length ys.length - i/\i<=min xs.length ys.length/\d i acc U H,⟨_,rfl,aaT _,h0⟩,?_⟩
 rintro i m acc U H ⟨rfl,z,p⟩
 obtain ⟨q,n⟩:=A i acc U H z p
 by_cases M:i<min xs.length ys.length
 .
  have s:i<xs.length:=by lia
  have u:i<ys.length:=by lia
  refine .inr ⟨⟨xs,ys,xs[i],ys[i],q,n,by simp [s],by simp [u]⟩,d (i+1),λ G f H' F=>⟨min xs.length ys.length - (i+1),by lia,rfl,M,F⟩,λ v H' y=>?_⟩
  obtain ⟨I,x,y,B,rfl,rfl,E,r⟩:=y
  exact C i x y I acc U H (E xs q) (r ys n) B p
 . have e:i=min xs.length ys.length:=by lia
   subst e
   exact .inl ⟨⟨xs,ys,q,n,by lia⟩,w acc U H p⟩
mutual
def Dn (K:aA) (H:Hp):PyData->V->Prop
 | .none,v=>v = .cB
 | .bool b,v=>v = .bl b
 | .int i,v=>v = .int i
 | .str x,v=>v = .str x
 | .list d,v=>∃ a xs,v = .ref a/\bh K H a xs/\bC K H d xs
 | .tuple d,v=>∃ a xs,v = .ref a/\bR K H a xs/\bC K H d xs
 | .dict _,_=>False
def bC (K:aA) (H:Hp):List PyData->ay->Prop
 | [],xs=>xs=[]
 | d::D,xs=>∃ x r,xs=x::r/\Dn K H d x/\bC K H D r
end
def fN:PyData->Bool
 | .list _=>false
 | .dict _=>false
 | .tuple D=>D.attach.all λ ⟨d,_⟩=>fN d
 | _=>true
def k9 {D:List PyData}:fN (.tuple D)=true↔∀ d∈D,fN d=true:=by
 rw [fN,abC]
 constructor
 . intro h d H
   exact h ⟨d,H⟩ (List.mem_attach ..)
 . intro h x Z
   exact h x.1 x.2
def aQ (K:aA) (H h:Hp):Prop:=∀ a x,bR K H a x->bR K h a x
def aQ.refl {K:aA} (H:Hp):aQ K H H:=λ Z Z h=>h
def aQ.trans {K:aA} {d H2:Hp} (a:aQ K H d) (b:aQ K d H2):aQ K H H2:=λ c x h=>b c x (a c x h)
def aE.ts {K:aA} (s:aE H H'):aQ K H H':=λ Z Z h=>s.tup h
def Dr:HO->Bool
 | .tup _=>false
 | .Ak _ _=>false
 | _=>true
def bU {K:aA} {a:ak} {o':HO} (h:H a=some o) (n:Dr o=true):aQ K H (upd H a o'):=λ b x q=>by
 have N:∀ u,H b=some u->Dr u=false->b≠a:=λ u e z y=>by
   subst y
   rw [h] at e
   cases e
   rw [n] at z
   cases z
 rcases q with (q|⟨O,q⟩)|q
 . exact .inl (.inl (by rw [ar (N _ q rfl)];exact q))
 . exact .inl (.inr ⟨O,by rw [ar (N _ q rfl)];exact q⟩)
 . exact .inr q
section
variable {K:aA} {H H':Hp}
mutual
theorem Dn.same (s:aE H H'):∀ (d:PyData) {v:V},Dn K H d v->Dn K H' d v
 | .none,_,h=>by rw [Dn] at h |-;exact h
 | .bool _,_,h=>by rw [Dn] at h |-;exact h
 | .int _,_,h=>by rw [Dn] at h |-;exact h
 | .str _,_,h=>by rw [Dn] at h |-;exact h
 | .list D,_,h=>by
   rw [Dn] at h |-
   obtain ⟨a,xs,e,q,r⟩:=h
   exact ⟨a,xs,e,s.seq q,bC.same s D r⟩
 | .tuple D,_,h=>by
   rw [Dn] at h |-
   obtain ⟨a,xs,e,q,r⟩:=h
   exact ⟨a,xs,e,s.tup q,bC.same s D r⟩
 | .dict _,_,h=>by rw [Dn] at h;exact h.elim
theorem bC.same (s:aE H H'):∀ (D:List PyData) {xs:ay},bC K H D xs->bC K H' D xs
 | [],_,h=>by rw [bC] at h |-;exact h
 | d::D,_,h=>by
   rw [bC] at h |-
   obtain ⟨x,r,e,q,t⟩:=h
   exact ⟨x,r,e,Dn.same s d q,bC.same s D t⟩
end
mutual
theorem Dn.ts (s:aQ K H H'):∀ (d:PyData) {v:V},fN d=true->Dn K H d v->Dn K H' d v
 | .none,_,_,h=>by rw [Dn] at h |-;exact h
 | .bool _,_,_,h=>by rw [Dn] at h |-;exact h
 | .int _,_,_,h=>by rw [Dn] at h |-;exact h
 | .str _,_,_,h=>by rw [Dn] at h |-;exact h
 | .list D,_,f,_=>by rw [fN] at f;cases f
 | .tuple D,_,f,h=>by
   rw [Dn] at h |-
   obtain ⟨a,xs,e,q,r⟩:=h
   exact ⟨a,xs,e,s _ _ q,bC.ts s D (k9.mp f) r⟩
 | .dict _,_,_,h=>by rw [Dn] at h;exact h.elim
theorem bC.ts (s:aQ K H H'):∀ (D:List PyData) {xs:ay},(∀ d∈D,fN d=true)->bC K H D xs->bC K H' D xs
 | [],_,_,h=>by rw [bC] at h |-;exact h
 | d::D,_,f,h=>by
   rw [bC] at h |-
   obtain ⟨x,r,e,q,t⟩:=h
   exact ⟨x,r,e,Dn.ts s d (f d aas) q,bC.ts s D (λ d a=>f d (aai _ a)) t⟩
end
theorem bC.length:∀ {D:List PyData} {xs:ay},bC K H D xs->xs.length=D.length
 | [],_,h=>by rw [bC] at h;rw [h];rfl
 | d::D,_,h=>by
   rw [bC] at h
   obtain ⟨x,r,rfl,Z,t⟩:=h
   rw [aaW,aaW,bC.length t]
theorem bC.get:∀ {D:List PyData} {xs:ay} {i:Nat} {d:PyData},bC K H D xs->D[i]?=some d->∃ x,xs[i]?=some x/\Dn K H d x
 | [],_,_,_,_,e=>by simp at e
 | _::_,_,0,_,h,e=>by
   rw [bC] at h
   obtain ⟨x,r,rfl,q,t⟩:=h
   simp at e
   subst e
   exact ⟨x,rfl,q⟩
 | _::D,_,i+1,d,h,e=>by
   rw [bC] at h
   obtain ⟨x,r,rfl,q,t⟩:=h
   obtain ⟨y,E,a⟩:=bC.get (i:=i) t (by simpa using e)
   exact ⟨y,by simpa using E,a⟩
theorem bC.snoc:∀ {D:List PyData} {xs:ay} {d:PyData} {x:V},bC K H D xs->Dn K H d x->bC K H (D++[d]) (xs++[x])
 | [],_,d,x,h,q=>by
   rw [bC] at h
   subst h
   exact ⟨x,[],rfl,q,rfl⟩
 | _::D,_,d,x,h,q=>by
   rw [bC] at h
   obtain ⟨y,r,rfl,Q,t⟩:=h
   exact ⟨y,r++[x],rfl,Q,bC.snoc t q⟩
theorem bC.set:∀ {D:List PyData} {xs:ay} {i:Nat} {d:PyData} {x:V},bC K H D xs->Dn K H d x->bC K H (D.set i d) (xs.set i x)
 | [],_,_,_,_,h,_=>by
   rw [bC] at h
   subst h
   exact rfl
 | _::_,_,0,d,x,h,q=>by
   rw [bC] at h
   obtain ⟨y,r,rfl,Q,t⟩:=h
   exact ⟨x,r,rfl,q,t⟩
 | _::D,_,i+1,d,x,h,q=>by
   rw [bC] at h
   obtain ⟨y,r,rfl,Q,t⟩:=h
   exact ⟨y,r.set i x,rfl,Q,bC.set t q⟩
def fu:bC K H [] []:=rfl
def bA {d:PyData} {D:List PyData} {x:V} {xs:ay} (a:Dn K H d x) (b:bC K H D xs):bC K H (d::D) (x::xs):=⟨x,xs,rfl,a,b⟩
def HL {i:Int}:Dn K H (.int i) (.int i):=rfl
def iE {a:ak} {xs:ay} {d:List PyData} (h:bR K H a xs) (r:bC K H d xs):Dn K H (.tuple d) (.ref a):=⟨a,xs,rfl,h,r⟩
def Ha {a:ak} {xs:ay} {d:List PyData} (h:bh K H a xs) (r:bC K H d xs):Dn K H (.list d) (.ref a):=⟨a,xs,rfl,h,r⟩
abbrev eX (f:Int×Int):PyData:=.tuple [.int f.1,.int f.2]
def nG {p:ak} {f:Int×Int} (h:bR K H p [.int f.1,.int f.2]):Dn K H (eX f) (.ref p):=iE h (bA HL (bA HL fu))
def Dn.fr {v:V} {f:Int×Int} (h:Dn K H (eX f) v):∃ p,v = .ref p/\bR K H p [.int f.1,.int f.2]:=by
 obtain ⟨p,X,e,q,x,r,c,E,y,R,d,a,b⟩:=h
 have E:x=V.int f.1:=E
 have a:y=V.int f.2:=a
 have b:R=[]:=b
 subst c E d a b
 exact ⟨p,e,q⟩
def iO (f:Int×Int):fN (eX f)=true:=by simp [eX,fN]
end
section
variable {X:Cx} {pins:List (ak×Obj)} {U:St} {H:Hp} {s:Shared}
mutual
theorem Inv.reads (I:Inv X pins U H s):∀ (d:PyData) {v:V} {u:av},Dn X.K H d v->RelV v u->∃ as,Reads s.heap u d as
 | .none,_,_,h,r=>by
   have h:_=V.cB:=h
   subst h
   obtain rfl:=(show _=Value.none from r)
   exact ⟨_,.none⟩
 | .bool b,_,_,h,r=>by
   have h:_=V.bl b:=h
   subst h
   obtain rfl:=(show _=Value.bool b from r)
   exact ⟨_,.bool b⟩
 | .int i,_,_,h,r=>by
   have h:_=V.int i:=h
   subst h
   obtain ⟨t,rfl⟩:=r
   exact ⟨_,.int i t⟩
 | .str x,_,_,h,r=>by
   have h:_=V.str x:=h
   subst h
   obtain ⟨t,rfl⟩:=r
   exact ⟨_,.str x t⟩
 | .list D,_,_,h,r=>by
   obtain ⟨a,j,rfl,q,t⟩:=h
   obtain rfl:=(show _=Value.ref a from r)
   obtain ⟨B,g,p,Z⟩:=I.list q
   obtain ⟨o,f,c,n,e⟩:=p.isList
   obtain ⟨as,R⟩:=Inv.readsAll I D t g
   exact ⟨_,.list f c e (by simpa using R)⟩
 | .tuple D,_,_,h,r=>by
   obtain ⟨a,j,rfl,q,t⟩:=h
   obtain rfl:=(show _=Value.ref a from r)
   obtain ⟨B,g,p,Z⟩:=I.tuple q
   obtain ⟨o,f,c,n,e⟩:=p
   obtain ⟨as,R⟩:=Inv.readsAll I D t g
   exact ⟨_,.tuple f c e (by simpa using R)⟩
 | .dict _,_,_,h,_=>(show False from h).elim
theorem Inv.readsAll (I:Inv X pins U H s):∀ (D:List PyData) {xs:ay} {us:aZ},bC X.K H D xs->Vals xs us->∃ as,ReadsAll s.heap us D as
 | [],_,_,h,r=>by
   have h:_=[]:=h
   subst h
   obtain rfl:=Vals.zero r
   exact ⟨_,.nil⟩
 | d::D,_,_,h,r=>by
   obtain ⟨x,t,rfl,q,Q⟩:=h
   cases r with
   | cons R a =>
     obtain ⟨as,b⟩:=Inv.reads I d q R
     obtain ⟨B,c⟩:=Inv.readsAll I D Q a
     exact ⟨_,.cons b c⟩
end
def ww (m:X.calm=true):iI X (.builtin "all") (λ xs H Q=>∃ (p:ak) (bs:List Bool),xs=[.ref p]/\bh X.K H p (bs.map V.bl)/\Q (.bl (bs.all id)) H):=by
 intro pins s U H xs F Q I r h
 obtain ⟨p,bs,rfl,w,q⟩:=h
 obtain ⟨u,rfl,A⟩:∃ u,F=[u]/\RelV (.ref p) u:=by
   cases r with
   | cons a b=>cases b;exact ⟨_,rfl,a⟩
 obtain rfl:u=Value.ref p:=A
 obtain ⟨B,R,g,Z⟩:=I.list w
 have t:p<s.heap.objs.size:=by obtain ⟨Z,e,Z⟩:=g.isList;exact aat e
 have d:B.length=bs.length:=by rw [<- R.length,OG]
 have Y:∀ i v,B.toArray[i]?=some v->v=Value.bool (bs.getD i false):=λ i v e=>by
   have E:B[i]?=some v:=by simpa using e
   have c:i<bs.length:=by rw [<- d];exact (Ba.mp E).1
   obtain ⟨u,j,C⟩:=R.get (i:=i) (x:=V.bl (bs[i])) (by simp [c])
   rw [E] at j
   cases j
   have D:v=Value.bool bs[i]:=C
   rw [D]
   simp [c]
 refine call_all_walk (wpAny_pyIter_list g.isList ⟨s.heap.objs.size,_,_,_,_,_,λ i=>bs.getD i false,rfl,Walks.list (by simpa using I.ok.hd m) _ p (aaL t) B.toArray,⟨⟨_,aaQ _ rfl,rfl,rfl⟩,g.isList.push _⟩,λ i v S J G k f=>?_,λ L T n=>?_⟩)
 . rw [Y i v k]
   exact aan f
 .
  have e:(List.range B.toArray.size).all (λ i=>bs.getD i false)=bs.all id:=by
    have:B.toArray.size=bs.length:=by simpa using d
    rw [this,abI,abC,abC]
    constructor
    . intro h b l
      obtain ⟨i,c,rfl⟩:=List.getElem_of_mem l
      have:=h i (aaJ.mpr c)
      simpa [c] using this
    . intro h i c
      have c:=aaJ.mp c
      have:=h _ (aay c)
      simpa [c] using this
  rw [e]
  exact ⟨.bl _,H,I.kept (t':=T) λ b o z=>n b o (λ y=>by
    have y:b=s.heap.objs.size:=by simpa using y
    exact absurd (aat z) (by rw [y];exact abh _)) (aak _ z),rfl,q⟩
end
section
variable {P:bi} {w:aV} {K:aA} {mg:cZ} {base:aU} {x qual m:Str} {st:Stmt} {dV:av} {f C:ak} {fd:FuncData} {N ps:cx} {k:Nat} {sp:Sp} {ds:aZ} {ij:ay}
def RE (P:bi) (w:aV) (K:aA) (M:cZ) (base:aU) (C:ak) (m q:Str) (st:Stmt) (d:av) (k:Nat) (p:cx) (s:Sp):Prop :=
 ∃ f fd,Meth K C m f/\sH K m q st d f fd/\iz P w K M base xR k f fd p s
def AE (P:bi) (w:aV) (K:aA) (M:cZ) (base:aU) (C:ak) (m:Str) (k:Nat) (p:cx) (i:ay) (s:Sp):Prop :=
 ∃ ds,Vals i ds/\gM P w K M base C m k p ds s
def gb.mok (h:gb K C m qual st dV) (S:aB N ps (aq st)) (len:∀ vs H Q E,sp vs H Q E->vs.length=ps.length) (a:∀ (f:ak) (b:av) (A:Around) (outer:List Env) (s:Shared) (H:Hp) (vs:ay) (Q:VK) (E:XK),cL k (A.deeper (envOfC qual (aq st) s.heap.objs.size f b))->sp vs H Q E ->
     ∃ t,tF (iQ xR P w K mg base N qual (aq st) f b A outer s H E).DY (bK st) t/\t { nx:=λ Z H'=>Q .cB H',rt:=Q } (start N vs) H):RE P w K mg base C m qual st dV (k+1) ps sp:=by
 obtain ⟨f,fd,M,F⟩:=h
 exact ⟨f,fd,M,F,F.ok S len λ b A outer s H vs Q E c d=>a f b A outer s H vs Q E c d⟩
def RE.Jx {T:ak} {z:ay} (h:RE P w K mg base C m qual st (.ref T) k ps sp) (H:A2 K T z) (a:∀ i:Array av,Vals z i.toList->∃ ds,Vals ij ds/\∀ (kV d p:av) (A:Option ak) (b ct:av) (us:aZ),(us++ds).length=ps.length->∃ k,bindArgs (W.fnOf m qual (cQ st) (bK st) (aq st) (.ref T) kV d p A b ct) ⟨us,[]⟩=seqItems? (.ref T) >>= k/\k (some i)=pure (ps.zip (us++ds))) :
   AE P w K mg base C m k ps ij sp:=by
 obtain ⟨f,fd,M,F,O⟩:=h
 obtain ⟨o,n,i,H,e,g⟩:=H
 obtain ⟨ds,c,a⟩:=a i g
 exact ⟨ds,c,f,fd,M,F.binds H e a,O⟩
def Nk (P:bi) (w:aV) (K:aA) (m:cZ) (base:aU) (x:Str) (st:Stmt) (d:av) (k:Nat) (p:cx) (s:Sp):Prop :=
 ∃ f fd,m x=some (.ref f)/\sH K x x st d f fd/\iz P w K m base xR k f fd p s
def Ki (P:bi) (w:aV) (K:aA) (m:cZ) (base:aU) (x:Str) (k:Nat) (p:cx) (i:ay) (s:Sp):Prop :=
 ∃ ds,Vals i ds/\SY P w K m base x k p ds s
def Hu.dok (h:Hu K mg x st dV) (S:aB N ps (aq st)) (len:∀ vs H Q E,sp vs H Q E->vs.length=ps.length) (a:∀ (f:ak) (b:av) (A:Around) (outer:List Env) (s:Shared) (H:Hp) (vs:ay) (Q:VK) (E:XK),cL k (A.deeper (envOfC x (aq st) s.heap.objs.size f b))->sp vs H Q E ->
     ∃ t,tF (iQ xR P w K mg base N x (aq st) f b A outer s H E).DY (bK st) t/\t { nx:=λ Z H'=>Q .cB H',rt:=Q } (start N vs) H):Nk P w K mg base x st dV (k+1) ps sp:=by
 obtain ⟨f,fd,M,F⟩:=h
 exact ⟨f,fd,M,F,F.ok S len λ b A outer s H vs Q E c d=>a f b A outer s H vs Q E c d⟩
def Nk.Rh {T:ak} {z:ay} (h:Nk P w K mg base x st (.ref T) k ps sp) (H:A2 K T z) (a:∀ i:Array av,Vals z i.toList->∃ ds,Vals ij ds/\∀ (kV d p:av) (A:Option ak) (b ct:av) (us:aZ),(us++ds).length=ps.length->∃ k,bindArgs (W.fnOf x x (cQ st) (bK st) (aq st) (.ref T) kV d p A b ct) ⟨us,[]⟩=seqItems? (.ref T) >>= k/\k (some i)=pure (ps.zip (us++ds))) :
   Ki P w K mg base x k ps ij sp:=by
 obtain ⟨f,fd,M,F,O⟩:=h
 obtain ⟨o,n,i,H,e,g⟩:=H
 obtain ⟨ds,c,a⟩:=a i g
 exact ⟨ds,c,f,fd,M,F.kp,F.binds H e a,O⟩
def vals3 {a b c:V} {i:Array av} (h:Vals [a,b,c] i.toList):∃ u v z,i=#[u,v,z]/\RelV a u/\RelV b v/\RelV c z:=by
 obtain ⟨l⟩:=i
 cases h with
 | cons H h=>cases h with
   | cons d h=>cases h with
     | cons e h=>cases h with
       | nil=>exact ⟨_,_,_,rfl,H,d,e⟩
end
section
variable {X:Cx} {C:ak} {m x:Str} {p pos apos:Pos} {e o:Expr} {es:List Expr} {ta:TE} {t:TA} {k:Nat} {ps:cx} {sp:Sp} {ij:ay}
def Gm {pl:Sem Bool} (a:PE X o ta) (c:zJ X.K C) (D:AE X.prog X.w X.K X.mg X.base C m k ps ij sp) (b:cL k X.A) (h:PA X (e::es) t) (j:yN X e es:=by rfl) (g:Dv X es pos:=by rfl) (d:eval (.Call (.Attribute o m apos) (e::es) [] pos) X.env=(do
     let O <- eval o X.env
     standAt apos.atName
     let (f,first) <- holding [O] (getMethod O m pl)
     callWith pos f first (backTo pos (starEach (e::es) X.env)) (backToKw pos (keywordEach [] X.env))):=by rfl) :
   PE X (.Call (.Attribute o m apos) (e::es) [] pos) (AA C m sp ij E0 ta t):=by
 obtain ⟨i,H,D⟩:=D
 exact aR (pl:=pl) a c D H b h j g d
def Ar (M:Ec X.K C) (D:AE X.prog X.w X.K X.mg X.base C "__init__" k ps ij sp) (d:cL (k+1) X.A) (c:X.mg x=some (.ref C)) (h:PA X (e::es) t) (b:Gl X x:=by rfl) (q:wm x:=by decide) (a:yN X e es:=by rfl) (g:Dv X es pos:=by rfl):PE X (.Call (.Name x p) (e::es) [] pos) (HK C sp ij E0 t):=by
 obtain ⟨f,H,D⟩:=D
 exact pS M D H d c h b q a g
def tK (D:Ki X.prog X.w X.K X.mg X.base x k ps ij sp) (c:cL k X.A) (h:PA X (e::es) t) (b:Gl X x:=by rfl) (q:wm x:=by decide) (a:yN X e es:=by rfl) (g:Dv X es pos:=by rfl):PE X (.Call (.Name x p) (e::es) [] pos) (zU sp ij E0 t):=by
 obtain ⟨d,H,D⟩:=D
 exact Fo D H c h b q a g
end
def dC {X:Cx} {K:aA} {es:List Expr} {k:Nat} {p:Pos} {t:NZ} {n:Nat} (H:X.K=K) (a:X.calm=true) (h:On X es t) (b:(assignEach es X.env).length=n:=by rfl) (j:(assignEach es X.env).findIdx? (·.1)=none:=by rfl):PG X (.Tuple es k p) (Pa K n t):=by
 subst H
 exact Ma a h b j
end L2
namespace PySem
open Sem (wp)
theorem kY:∀ (l:List DictEntry) (c:Int),(l.map (·.hash)).Nodup->(l.filter (·.hash == c)).length<=1
 | [],_,_=>aaT _
 | e::l,c,h=>by
   rw [aaP,aaR] at h
   rw [adw]
   split
   .
    rename_i q
    have q:e.hash=c:=by simpa using q
    have:l.filter (·.hash == c)=[]:=by
      rw [ad1]
      intro x H z
      exact h.1 (aaH.mpr ⟨x,H,by rw [q];simpa using z⟩)
    rw [this]
    exact aaj _
   . exact kY l c h.2
section
variable {prog:bi} {w:aV} {K:Type} [DecidableEq K] {knd:KeyKind prog w K} {A:Around} {E:av->Shared->Prop} {s:Shared}
def m7 {k:List K} {a:ak} {Q:Bool->Shared->Prop} (b:IsTupleKey knd s.heap k a) (h:Q false s):wpAny (model prog w) A (Builtin.Dict.quietEq (.ref a)) Q E s:=by
 have H:=b.typeIs
 unfold Builtin.Dict.quietEq
 exact aaa (adh H F.slot_tuple_eq.lookup (aan h))
def ki {id:String} {d:ak} {o:Obj} {es f} {xs:List (List K×ak×av)} {Q:Array DictEntry->Shared->Prop} (n:s.heap.get? d=some o) (i:o.data = .dict es f) (a:es.toList=xs.map (entryOfKey (tupleKind knd)))
   (k:∀ x∈xs,IsTupleKey knd s.heap x.1 x.2.1) (j:(xs.map λ x=>tupleKeyHash knd x.1).Nodup) (h:Q es s) :
   wpAny (model prog w) A (Builtin.Dict.entriesForEmpty id d) Q E s:=by
 unfold Builtin.Dict.entriesForEmpty
 refine aaa (acY n i ?_)
 have m:(es.toList.map (·.hash)).Nodup:=by
   rw [a,abJ]
   exact j
 refine aaa ?_
 refine wpAny_forIn_array' _ (λ rest Z S=>S=s/\∀ e∈rest,e∈es.toList) _ ?_ ?_ _ _ ⟨rfl,λ Z h=>h⟩
 .
  rintro e rest b S ⟨rfl,c⟩
  have H:=c e aas
  rw [a] at H
  obtain ⟨x,p,rfl⟩:=aaH.mp H
  refine aaa (m7 (k x p) ?_)
  have g:¬ ((es.filter λ y=>y.hash == (entryOfKey (tupleKind knd) x).hash).size > 1):=by
    have:=kY es.toList (entryOfKey (tupleKind knd) x).hash m
    have q:(es.filter λ y=>y.hash == (entryOfKey (tupleKind knd) x).hash).size=(es.toList.filter λ y=>y.hash == (entryOfKey (tupleKind knd) x).hash).length:=by
      obtain ⟨l⟩:=es
      simp
    lia
  simp only [adI,acl,aaA g]
  exact aan ⟨rfl,λ e a=>c e (aai _ a)⟩
 . rintro b S ⟨rfl,Z⟩
   exact aan h
def rK {nm:String} {d o:ak} {xs:List (List K×ak×av)} {Q:Unit->Shared->Prop} (V:d≠o) (Y:(o == sysModules)=false)
   (t:s.heap.DictOfH (tupleKind knd) d []) (B:s.heap.DictOfH (tupleKind knd) o xs) (u:(xs.map λ x=>tupleKeyHash knd x.1).Nodup)
   (j:∀ h',(∃ q es p,h'.get? d=some q/\q.ExactDict/\q.data = .dict es p/\es.toList=xs.map (entryOfKey (tupleKind knd))/\(xs.map (·.1)).Nodup)->Heap.SameBut d s.heap h'->Q () { s with heap:=h' }) (hsz:xs.length<=sizeLine) :
   wpAny (model prog w) A (Builtin.Dict.mergeDict nm d o) Q E s:=by
 obtain ⟨C,X,a,b,v,L,H,m,y⟩:=id t
 obtain ⟨M,I,G,O,J,F,D,N,i⟩:=id B
 have g:X=#[]:=by
   obtain ⟨l⟩:=X
   have:l=[]:=by simpa using H
   rw [this]
 have h:I.size=xs.length:=by
   obtain ⟨l⟩:=I
   have:l.length=_:=abo List.length D
   simpa using this
 unfold Builtin.Dict.mergeDict
 rw [aaA (by simpa using V)]
 unfold Builtin.Dict.showsAll
 rw [aaA (by rw [Y];exact aaB)]
 refine aaa (aan ?_)
 refine aaa (acY O F ?_)
 dsimp only
 cases xs with
 | nil =>
   have r:I=#[]:=by
     obtain ⟨l⟩:=I
     have:l=[]:=by simpa using D
     rw [this]
   subst r
   have f:Q () s:=by
     have:=j s.heap ⟨C,X,a,b,v,L,H,i⟩ (Heap.SameBut.refl _ _)
     exact this
   split
   . rename_i c
     exact absurd c (by simp)
   . refine aaa (wpAny_dictEpoch O F ?_)
     refine aaa (acY O F ?_)
     refine aaa ?_
     rw [Std.Legacy.Range.forIn_eq_forIn_range']
     exact aan (aan f)
 | cons x xs =>
   have c:(decide (I.size<=8) && I.all λ e=>(keyPart e.key).isSome)=false:=by
     obtain ⟨l⟩:=I
     have n:l=_:=D
     subst n
     have:keyPart (entryOfKey (tupleKind knd) x).key=none:=rfl
     simp [this]
   rw [c]
   simp only [adI,acl]
   refine aaa (acY b L ?_)
   rw [g]
   simp only [Array.isEmpty_empty,acl]
   refine aaa (ki O F D N u ?_)
   have k:I.isEmpty=false:=by
     rw [Array.isEmpty_eq_false_iff]
     intro z
     rw [z] at h
     simp at h
   rw [k]
   simp only [adI,acl]
   refine aaa (wpAny_updateDictKeysTo b L (aan (j _ ⟨_,_,a+1,acx _ b (Obj.isFreed_of_dict (Obj.data_mapDictKeys L _)),v.mapDictKeys _,Obj.data_mapDictKeys L _,D,i⟩ (ady ..))) (by rw [h];lia))
def vS {o:ak} {xs:List (List K×ak×av)} {Q:av->Shared->Prop} (Y:(o == sysModules)=false) (H:s.heap.DictOfH (tupleKind knd) o xs) (hsz:xs.length<=sizeLine) (l:(xs.map λ x=>tupleKeyHash knd x.1).Nodup)
   (h:∀ h',(∃ q es g,h'.get? s.heap.objs.size=some q/\q.ExactDict/\q.data = .dict es g/\es.toList=xs.map (entryOfKey (tupleKind knd))/\(xs.map (·.1)).Nodup)->Heap.SameBut s.heap.objs.size (s.heap.push { cls:=.type "dict",data:=.dict #[]}) h'->Q (.ref s.heap.objs.size) { s with heap:=h' }) :
   wpAny (model prog w) A (call (.type "dict") [.ref o]) Q E s:=by
 refine callType_codes (Q₁:=λ O S=>O = .ref s.heap.objs.size/\S={ s with heap:=s.heap.push { cls:=.type "dict",data:=.dict #[]}}) F.kt_called_dict (F.kt_typeCall_dict_1 _) F.entry_dict_init (kt_code_dict_new _ ⟨rfl,rfl⟩) ?_
 rintro O S ⟨rfl,rfl⟩
 have W:(s.heap.push { cls:=.type "dict",data:=.dict #[]}).DictOfH (tupleKind knd) s.heap.objs.size []:=Heap.DictOfH.new s.heap
 have X:(s.heap.push { cls:=.type "dict",data:=.dict #[]}).DictOfH (tupleKind knd) o xs:=by
   obtain ⟨r,I,z,a,d,f,D,N,b⟩:=id H
   exact ⟨r,I,z,aak _ a,d,f,D,λ x m=>(let ⟨q,p,n,i,j⟩:=N x m;⟨q,p,n,aak _ i,j⟩),b⟩
 have V:s.heap.objs.size≠o:=by
   obtain ⟨Z,Z,Z,k,Z⟩:=H
   exact λ e=>absurd (aat k) (by rw [e];exact abh _)
 refine ⟨W.typeIs,F.args_dict_init_2 _ _,?_⟩
 unfold Builtin.«dict.__init__»
 refine aaa ?_
 unfold Builtin.Dict.selfAndRest
 refine aaa (wpAny_notOrdered_dict W.typeIs ?_)
 show wpAny _ _ (pure (s.heap.objs.size,[Value.ref o])) _ _ _
 refine aan ?_
 show wpAny _ _ (Builtin.Dict.updateFrom "dict.__init__" s.heap.objs.size (.ref o) [] .none) _ _ _
 unfold Builtin.Dict.updateFrom
 refine aaa (adJ X.typeIs ?_)
 rw [aaA (by decide)]
 refine aaa ?_
 unfold Builtin.Dict.merge
 refine aaa ?_
 unfold Builtin.Dict.readDirectly
 refine aaa (adR X.typeIs isSubtype_dict_dict ?_)
 simp only [adX,abt,acg]
 refine aaa (adh X.typeIs F.slot_dict_iter.lookup (aan ?_))
 simp only [beq_self_eq_true,acl]
 refine aaa (aan ?_)
 refine rK (hsz:=hsz) V Y W X l λ h' c v=>?_
 show wpAny _ _ (Builtin.Dict.addKeywords s.heap.objs.size [] >>= _) _ _ _
 exact aaa (aan (aan ⟨rfl,h h' c v⟩))
end
end PySem
namespace L2
open PySem PySem.Spec PyProof.Rows Mth
variable {elt iter tg:Expr} {g:TG} {ifs:List Expr} {py JJ:Pos} {te:TE} {yi:Nat}
section
variable {X:Cx} {pins:List (ak×Obj)} {U:St} {H:Hp} {s:Shared} {a:ak} {aC:List (List Key×V)} {A:Around} {E:av->Shared->Prop}
def EH {Q:av->Shared->Prop} (I:Inv X pins U H s) (e:Rd H a (.dT aC)) (g:(aC.map λ k=>tupleKeyHash (cO X.prog X.w) k.1).Nodup) (h:∀ p s',H p=none->Inv X pins U (upd H p (.dT aC)) s'->Q (.ref p) s'):wpAny (model X.prog X.w) A (call (.type "dict") [.ref a]) Q E s:=by
 obtain ⟨z,n,l,R,d⟩:=C9 I.cM e
 have u:l.map (λ x=>tupleKeyHash (cO X.prog X.w) x.1)=aC.map λ k=>tupleKeyHash (cO X.prog X.w) k.1:=by
   clear d z g h e
   induction R with
   | nil=>rfl
   | cons r _ v=>rw [aaP,aaP,v,r.1]
 refine vS n d (by rw [<- abT R];exact z) (by rw [u];exact g) λ y m t=>?_
 have i:H s.heap.objs.size=none:=I.cM.fresh (aaj _)
 refine h _ _ i (I.laid (a:=s.heap.objs.size) (o:=.dT aC) (t':=s.toks) (λ b q j=>?_) (aaj _) ⟨z,abj.mpr (acv (aaL I.big)),l,R.keeps λ c Y f=>?_,m⟩)
 . exact (t.2 b (aaL (aat j))).trans (aak _ j)
 . rw [ar (aw f i)];exact f
end
def vx {X:Cx}:iI X (.type "dict") (λ xs H Q=>∃ p a,xs=[.ref p]/\H p=some (.dT a)/\(a.map λ k=>tupleKeyHash (cO X.prog X.w) k.1).Nodup/\∀ l,H l=none->Q (.ref l) (upd H l (.dT a))):=by
 intro b s U H xs f Q I r h
 obtain ⟨p,a,rfl,e,c,q⟩:=h
 obtain ⟨u,rfl,R⟩:=vals1 r
 cases R
 exact EH I (.inl e) c λ l S d i=>⟨.ref l,_,i,rfl,q l d⟩
def CJ:bootBuiltins "dict" = some (.type "dict"):=by decide +kernel
section
variable {X:Cx}
def Jm {y:Str} {S:Scope} {p:Pos} {w:TI} {t:TT} {N':cx} {n:Nat} {sl:bj} (W:X.calm=true) (hi:PI X tg iter w) (hg:∀ cl C s H ex,PG (cF X N' S cl C s H ex) tg g) (ht:∀ cl C s H ex,Lj (cF X N' S cl C s H ex) ifs t) (Y:∀ cl C s H ex,PE (cF X N' S cl C s H ex) elt te) (Q:N'.length=n+sl.length) (L:∀ k j:Nat,sl[k]?=some j->∃ x,N'[n+k]?=some x/\X.N[j]?=some x/\S.names.lookup x=some .free) (hk:S.kind = .function) (O:∀ y∈S.names,y.2 ≠ .cell) (kc:∀ y∈S.names,y.2 = .local->S.names.lookup y.1=some .local) (jQ:∀ y∈S.names,y.2 = .free->X.env.kindOf y.1=some .cell\/X.env.kindOf y.1=some .free) (R:X.N.Nodup) (G:X.N[yi]?=some y) (hy:Loc X.env.scope y) (hf:X.fn y=true\/X.env.scope.names.lookup y=some .local) (E:swapsWith (.ListComp elt [⟨tg,iter,ifs,0⟩] S p) (some (.Name y py)) JJ.line X.env=pure true) (hs:∀ x,foldedSetIterable iter X.env x=pure x:=by intro Z;rfl) :
   PS X (.Assign [.Name y py] (.ListComp elt [⟨tg,iter,ifs,0⟩] S p) JJ) (HG (zq w g t te n sl) (uD yi)):=by
 intro f s U H D I h
 rw [exec_Assign_Name_used _ _ _ _ E]
 refine aaa (adz (aaa ?_))
 show wpAny _ X.A (do let _ <- comprehension (.ListComp elt [⟨tg,iter,ifs,0⟩] S p) S X.env _ (newList []) false (eval iter X.env) (some (assign (.Name y py) X.env))) _ _ s
 refine aaa (aba (wb (use:=some (assign (.Name y py) X.env)) (Qp:=λ Z l=>SP X f D .next l) W hi hg ht Y Q L hk O kc jQ hs I h λ s6 u d c m J F hn q=>?_)
   (λ Z l hq=>aan (aan hq)) λ Z Z e=>e)
 refine wpAny_assign_Name (wA (v:=.ref d) J R G hy rfl (λ s7 B ⟨a,i,T⟩=>?_) hf)
 have na:c≠a:=λ z=>by
   rcases T with q|q
   . exact F.2.1 (z.trans q)
   . exact F.2.2.2.2.1 _ a q z.symm
 refine ⟨m,?_,λ h' sb=>?_⟩
 . obtain ⟨o,M,K,ho,r⟩:=hn
   exact ⟨o,M,K,(i.2 _ na).trans ho,r⟩
 . exact ⟨_,u,B.turned (t':=s7.toks) (λ b Z V q=>(sb.2 b V).trans q) F.1 F.2.1 F.2.2.2.1 F.2.2.2.2.1 F.2.2.2.2.2,q⟩
def uR {y:Str} {S:Scope} {p:Pos} {w:TI} {l:TT} (T f:cx) (sl:bj) (a:Paired (λ (j:Nat) (x:Str)=>X.N[j]?=some x/\S.names.lookup x=some .free/\(X.env.kindOf x=some .cell\/X.env.kindOf x=some .free)) sl f) (o:X.calm=true) (A:PI X tg iter w) (v:∀ cl C s H ex,PG (cF X (T++f) S cl C s H ex) tg g) (F:∀ cl C s H ex,Lj (cF X (T++f) S cl C s H ex) ifs l) (q:∀ cl C s H ex,PE (cF X (T++f) S cl C s H ex) elt te) (n:X.N.Nodup) (d:Loc X.env.scope y) (B:S.kind = .function:=by rfl) (G:∀ y∈S.names,y.2 ≠ .cell:=by decide +kernel) (I:∀ y∈S.names,y.2 = .local->S.names.lookup y.1=some .local:=by decide +kernel) (J:∀ y∈S.names,y.2 = .free->y.1∈f:=by decide +kernel) (u:X.N[yi]?=some y:=by rfl) (U:swapsWith (.ListComp elt [⟨tg,iter,ifs,0⟩] S p) (some (.Name y py)) JJ.line X.env=pure true:=by rfl) (b:X.fn y=true\/X.env.scope.names.lookup y=some .local:=by first|exact .inl rfl|exact .inr rfl|assumption) (D:∀ x,foldedSetIterable iter X.env x=pure x:=by intro Z;rfl) :
   PS X (.Assign [.Name y py] (.ListComp elt [⟨tg,iter,ifs,0⟩] S p) JJ) (HG (zq w g l te T.length sl) (uD yi)):=by
 have K:∀ {sl:bj} {f:cx},Paired (λ (j:Nat) (x:Str)=>X.N[j]?=some x/\S.names.lookup x=some .free/\(X.env.kindOf x=some .cell\/X.env.kindOf x=some .free)) sl f ->
     (∀ k j:Nat,sl[k]?=some j->∃ x,f[k]?=some x/\X.N[j]?=some x/\S.names.lookup x=some .free)/\∀ x∈f,X.env.kindOf x=some .cell\/X.env.kindOf x=some .free:=by
   intro sl f a
   induction a with
   | nil=>exact ⟨λ k j h=>by simp at h,λ x c=>by simp at c⟩
   | cons r t i =>
     refine ⟨λ k j h=>?_,λ x c=>?_⟩
     . cases k with
       | zero =>
         have e:_=j:=aap h
         subst e
         exact ⟨_,rfl,r.1,r.2.1⟩
       | succ k=>exact i.1 k j (by simpa using h)
     . rcases aad.mp c with z|z
       . rw [z];exact r.2.2
       . exact i.2 x z
 refine Jm (N':=T++f) o A v F q (by rw [aac,a.length]) (λ k j h=>?_) B G I (λ y d b=>(K a).2 _ (J y d b)) n u d b U D
 obtain ⟨x,E,m⟩:=(K a).1 k j h
 exact ⟨x,by rw [aaS (abQ _ _),adV];exact E,m⟩
end
abbrev ci:=Int×Int
structure ap where
 most:Int
 de:Int
 load:Int
 rows:List (List ci)
 dP:Int->Int->Option ci
 bD:List (ci×ci×ci)
 bq:List (Option (ci×Int×Int×Int))
abbrev qe (s:ci×ci×ci):PyData:=.tuple [eX s.1,eX s.2.1,eX s.2.2]
abbrev iB:Option (ci×Int×Int×Int)->PyData
 | none => .none
 | some s => .tuple [eX s.1,.int s.2.1,.int s.2.2.1,.int s.2.2.2]
abbrev vG (r:List ci):PyData:=.tuple (r.map eX)
def lI (m:ap) (a p b c:ak):List (Str×V) :=
 [("most",.int m.most),("cap",.int m.de),("load",.int m.load),("mark_rows",.ref a),("flows",.ref p),("skies",.ref b),("stoves",.ref c)]
section
variable (m:ap) (pm pf ps pt:ak)
def ui:(lI m pm pf ps pt).lookup ("most" : Str)=some (.int m.most):=by rfl
def pQ:(lI m pm pf ps pt).lookup ("cap" : Str)=some (.int m.de):=by rfl
def ud:(lI m pm pf ps pt).lookup ("load" : Str)=some (.int m.load):=by rfl
def pX:(lI m pm pf ps pt).lookup ("mark_rows" : Str)=some (.ref pm):=by rfl
def mP:(lI m pm pf ps pt).lookup ("flows" : Str)=some (.ref pf):=by rfl
def iZ:(lI m pm pf ps pt).lookup ("skies" : Str)=some (.ref ps):=by rfl
def kL:(lI m pm pf ps pt).lookup ("stoves" : Str)=some (.ref pt):=by rfl
end
def nR (K:aA) (H:Hp):Option ci->eE->Prop
 | none,none=>True
 | some f,some v=>Dn K H (eX f) v
 | _,_=>False
abbrev jm (i j:Int):List Key:=[.inl i,.inl j]
def rX (a:List (List Key×V)):Prop:=(a.map (·.1)).Nodup/\∀ p∈a,∃ i j:Nat,i<4/\j<4/\p.1=jm i j
end L2
namespace Mth
def nf (t b:Int):Int×Int:=(t.fdiv (Int.gcd t b:Nat),b.fdiv (Int.gcd t b:Nat))
def Du {r q s:Int} (h:r ∣ q * s) (c:Int.gcd q r=1):r ∣ s:=by
 have H:r.natAbs ∣ q.natAbs * s.natAbs:=by rw [<- acI];exact ad7.mpr h
 have a:Nat.Coprime r.natAbs q.natAbs:=by rw [Nat.coprime_comm];exact c
 exact ad7.mp (Nat.Coprime.dvd_of_dvd_mul_left a H)
def Fr.uniq {t b q r Q r':Int} (H:b≠0) (h:Fr t b q r) (k:Fr t b Q r'):q=Q/\r=r':=by
 have e:q * r'=Q * r:=by
   have E:(q * r') * b=(Q * r) * b:=by
     have a:=h.Do
     have A:=k.Do
     calc (q * r') * b=(q * b) * r':=by rw [adk]
       _=(t * r) * r':=by rw [a]
       _=(t * r') * r:=by rw [adk]
       _=(Q * b) * r:=by rw [A]
       _=(Q * r) * b:=by rw [adk]
   exact adF H E
 have d:r ∣ r':=by
   have:r ∣ q * r':=⟨Q,by rw [e,Int.mul_comm]⟩
   exact Du this h.cop
 have D:r' ∣ r:=by
   have:r' ∣ Q * r:=⟨q,by rw [<- e,Int.mul_comm]⟩
   exact Du this k.cop
 have c:r=r':=Int.dvd_antisymm (abE h.pos) (abE k.pos) d D
 subst c
 exact ⟨adF (ac7 h.pos) e,rfl⟩
def lV {t b:Int} (h:0<b):Fr t b (nf t b).1 (nf t b).2:=(Iv (ac7 h) rfl).2.2.1 h
theorem Fr.nf {t b q r:Int} (H:0<b) (h:Fr t b q r):(q,r)=nf t b:=by
 obtain ⟨e,E⟩:=h.uniq (ac7 H) (lV H)
 rw [e,E]
def nv (x y:Int×Int):Int×Int:=nf (x.1 * y.2+y.1 * x.2) (x.2 * y.2)
def kB (x y:Int×Int):Int×Int:=nf (x.1 * y.2 - y.1 * x.2) (x.2 * y.2)
def bV (x y:Int×Int):Bool:=decide (x.1 * y.2<y.1 * x.2)
structure fK (n:Nat) (f:Int×Int):Prop where
 t:Bd n f.1
 b:Bd n f.2
 p:0<f.2
theorem fK.mono {m n:Nat} {f:Int×Int} (h:fK m f) (l:m<=n):fK n f:=⟨h.t.mono l,h.b.mono l,h.p⟩
def fK.minus {m n:Nat} {x y:Int×Int} (h:fK m x) (k:fK n y):fK (m+n+1) (kB x y):=by
 have F:=lV (t:=x.1 * y.2 - y.1 * x.2) (b:=x.2 * y.2) (abw h.p k.p)
 have B:Bd (m+n) (x.1 * y.2):=h.t.mul k.b
 have a:Bd (m+n) (y.1 * x.2):=by rw [acC];exact k.t.mul h.b
 exact ⟨F.SL (B.sub a),F.QC ((h.b.mul k.b).mono (ace _)),F.pos⟩
def fK.plus {m n:Nat} {x y:Int×Int} (h:fK m x) (k:fK n y):fK (m+n+1) (nv x y):=by
 have F:=lV (t:=x.1 * y.2+y.1 * x.2) (b:=x.2 * y.2) (abw h.p k.p)
 have B:Bd (m+n) (x.1 * y.2):=h.t.mul k.b
 have a:Bd (m+n) (y.1 * x.2):=by rw [acC];exact k.t.mul h.b
 exact ⟨F.SL (B.add a),F.QC ((h.b.mul k.b).mono (ace _)),F.pos⟩
def G8:fK 100 (0,1):=⟨(by decide:(_:Int).natAbs<_),(by decide:(_:Int).natAbs<_),by decide⟩
def Bj:fK 100 (1,1):=⟨(by decide:(_:Int).natAbs<_),(by decide:(_:Int).natAbs<_),by decide⟩
end Mth
namespace L2
open PySem PySem.Spec PyProof.Rows Mth
variable {H H':Hp} {o u:HO} {v:V}
structure ap.Wf (m:ap):Prop where
 rows:∀ r∈m.rows,∀ f∈r,fK 100 f
 len:∀ r∈m.rows,2<=r.length/\r.length<=7
 dP:∀ i j f,m.dP i j=some f->fK 100 f
 bD:∀ s∈m.bD,fK 100 s.1/\fK 100 s.2.1/\fK 100 s.2.2
 bq:∀ x,some x∈m.bq->fK 100 x.1
structure aN (K:aA) (C:ak) (H:Hp) (a:ak) (fp:bw) (m:ap):Prop where
 ex:∃ dx pm pf ps pt vm vs vt aC,fp=[a,dx,pm,pf,ps,pt]/\H a=some (.ins C dx (lI m pm pf ps pt))/\H dx=some (.own a)/\H pm=some (.lst vm)/\H pf=some (.dT aC)/\H ps=some (.lst vs)/\H pt=some (.lst vt) /\
   pm≠ps/\pm≠pt/\ps≠pt/\bC K H (m.rows.map vG) vm/\bC K H (m.bD.map qe) vs/\bC K H (m.bq.map iB) vt/\(∀ i j,nR K H (m.dP i j) (gA aC (jm i j)))/\rX aC
 sk:m.bD.length=m.rows.length
 st:m.bq.length=m.rows.length
 mx:m.rows.length<=4
 wf:m.Wf
def gw (f:bw) (H h:Hp):Prop:=∀ b o,H b=some o->b∉f->h b=some o
def ap.fe (m:ap) (i j:Nat):ci:=(m.dP i j).getD (0,1)
def ap.eU (m:ap) (i:Nat):ci:=((m.bD[i]?).map (·.1)).getD (0,1)
def ap.gn (m:ap) (i n:Nat):ci:=(List.range n).foldl (λ a j=>kB a (m.fe i j)) (kB (1,1) (m.eU i))
def ap.own (m:ap) (i:Nat):ci:=m.gn i m.rows.length
def ap.share (m:ap) (i j:Nat):ci:=if i=j then m.own i else m.fe i j
theorem ap.Wf.fe {m:ap} (w:m.Wf) (i j:Nat):fK 100 (m.fe i j):=by
 unfold ap.fe
 cases e:m.dP i j with
 | none=>exact G8
 | some f=>exact w.dP i j f e
theorem ap.Wf.eU {m:ap} (w:m.Wf) (i:Nat):fK 100 (m.eU i):=by
 unfold ap.eU
 cases e:m.bD[i]? with
 | none=>exact G8
 | some f=>exact (w.bD f (aag e)).1
def ap.om (m:ap) (i n:Nat):m.gn i (n+1)=kB (m.gn i n) (m.fe i n):=by
 unfold ap.gn
 rw [aa2,abA];rfl
theorem ap.Wf.gn {m:ap} (w:m.Wf) (i:Nat):∀ n,fK (201+101 * n) (m.gn i n)
 | 0=>(Bj.minus (w.eU i)).mono (by decide)
 | n+1=>by
   rw [ap.om]
   exact ((w.gn i n).minus (w.fe i n)).mono (by lia)
section
variable {K:aA} {H:Hp} {v:V}
def Dn.tE {s:ci×ci×ci} (h:Dn K H (qe s) v):∃ p V a v3,v = .ref p/\bR K H p [V,a,v3]/\Dn K H (eX s.1) V/\Dn K H (eX s.2.1) a/\Dn K H (eX s.2.2) v3:=by
 obtain ⟨p,k,e,q,x,R,c,d,X,j,f,D,i,r,g,b,E⟩:=h
 have E:r=[]:=E
 subst c f g E
 exact ⟨p,x,X,i,e,q,d,D,b⟩
def HH {s:ci×ci×ci} {p:ak} {v a b:V} (q:bR K H p [v,a,b]) (d:Dn K H (eX s.1) v) (D:Dn K H (eX s.2.1) a) (c:Dn K H (eX s.2.2) b):Dn K H (qe s) (.ref p) :=
 iE q (bA d (bA D (bA c fu)))
def uo (s:ci×ci×ci):fN (qe s)=true:=by simp [qe,eX,fN]
def uC (s:Option (ci×Int×Int×Int)):fN (iB s)=true:=by cases s<;>simp [iB,eX,fN]
def zQ (r:List ci):fN (vG r)=true:=k9.mpr λ d h=>by
 obtain ⟨f,Z,rfl⟩:=aaH.mp h
 exact iO f
def Bi.fr {a:ak} {f:ci} (h:Bi K a [.int f.1,.int f.2]):Dn K H (eX f) (.ref a):=nG (h.at H)
end
def aJ {a:Type} {l:List a} {i:Nat} (h:i<l.length):l[i]?=some l[i]:=SN h
def ed {a:Type} {xs:List a} {i:Nat} {v:a} (h:xs[i]?=some v):tT xs (i:Int)=some v:=bZ h
def CO {K:aA} {o:Option ci} {r:eE} {z:V} (h:nR K H o r) (a:Dn K H (eX (0,1)) z):Dn K H (eX (o.getD (0,1))) (r.getD z):=by
 cases o with
 | none=>cases r with
   | none=>exact a
   | some v=>exact (show False from h).elim
 | some f=>cases r with
   | none=>exact (show False from h).elim
   | some v=>exact h
inductive KI (vs:ay) (H:Hp) (Q:VK) (_E:XK):Prop|mk (n g:Int) (_:vs=[.int n,.int g]) (_:Q (.bl (decide (0<=n/\n<=g))) H)
section
variable (K:aA) (C:ak)
inductive KH (vs:ay) (H:Hp) (Q:VK) (_E:XK):Prop|mk (a fp m:_) (_:vs=[.ref a]) (_:aN K C H a fp m) (_:Q (ao m.rows.length) H)
inductive zO (vs:ay) (H:Hp) (Q:VK) (_E:XK):Prop|mk (a fp m:_) (i:Nat) (_:vs=[.ref a,ao i]) (_:aN K C H a fp m) (_:i<m.rows.length) (_:Q .cB H)
inductive NH (vs:ay) (H:Hp) (Q:VK) (_E:XK):Prop|mk (a fp m:_) (i:Nat) (s:_) (_:vs=[.ref a,ao i]) (_:aN K C H a fp m) (_:m.bD[i]?=some s) (_:∀ v,Dn K H (qe s) v->Q v H)
inductive HE (vs:ay) (H:Hp) (Q:VK) (_E:XK):Prop|mk (a fp m:_) (i:Nat) (s:_) (_:vs=[.ref a,ao i]) (_:aN K C H a fp m) (_:m.bq[i]?=some s) (_:∀ v,Dn K H (iB s) v->Q v H)
inductive IE (vs:ay) (H:Hp) (Q:VK) (_E:XK):Prop|mk (a fp m:_) (i:Nat) (r:_) (_:vs=[.ref a,ao i]) (_:aN K C H a fp m) (_:m.rows[i]?=some r) (_:∀ p xs,H p=none->bC K H (r.map eX) xs->Q (.ref p) (upd H p (.lst xs)))
inductive Nn (vs:ay) (H:Hp) (Q:VK) (_E:XK):Prop|mk (a fp m:_) (i:Nat) (_:vs=[.ref a,ao i]) (_:aN K C H a fp m) (_:i<m.rows.length) (_:∀ v H',aE H H'->Dn K H' (eX (m.own i)) v->Q v H')
inductive Gb (vs:ay) (H:Hp) (Q:VK) (_E:XK):Prop|mk (a fp m:_) (i j:Nat) (_:vs=[.ref a,ao i,ao j]) (_:aN K C H a fp m) (_:i<m.rows.length) (_:j<m.rows.length) (_:∀ v H',aE H H'->Dn K H' (eX (m.share i j)) v->Q v H')
end
theorem aN.same {K:aA} {C:ak} {a:ak} {f:bw} {m:ap} (s:aE H H') (h:aN K C H a f m):aN K C H' a f m:=by
 obtain ⟨⟨g,t,r,u,v,V,z,B,A,e,n,J,k,O,G,l,N,o,p,D,b,c,d,F⟩,Q,w,x,y⟩:=h
 refine ⟨⟨g,t,r,u,v,V,z,B,A,e,s _ _ n,s _ _ J,s _ _ k,s _ _ O,s _ _ G,s _ _ l,N,o,p,bC.same s _ D,bC.same s _ b,bC.same s _ c,λ i j=>?_,F⟩,Q,w,x,y⟩
 have:=d i j
 revert this
 cases m.dP i j<;>cases gA A (jm i j)<;>intro q
 . exact q
 . exact q
 . exact q
 . exact Dn.same s _ q
def kC {n i:Nat} (h:i<n):FJ n (i:Int)=some i:=by
 unfold FJ
 rw [aaE (by lia),aaE (by lia),abf]
def LD {x y z t:V}:[x,y,z,t].length<=sizeLine:=by show 4<=sizeLine;decide
def IP {x:V}:[x].length<=sizeLine:=by show 1<=sizeLine;decide
theorem wq {b:Type} [DecidableEq b]:∀ (l L:List b),l.Nodup->(∀ x∈l,x∈L)->l.length<=L.length
 | [],_,_,_=>aaT _
 | x::l,L,f,h=>by
   obtain ⟨c,d⟩:=aaR.mp f
   have H:=h x aas
   have:=wq l (L.erase x) d λ y a=>(List.mem_erase_of_ne (λ e=>c (by rw [<- e];exact a))).mpr (h y (aai _ a))
   rw [List.length_erase_of_mem H] at this
   have g:=List.length_pos_of_mem H
   rw [aaW]
   lia
def JX:List (List Key):=(List.range 4).flatMap λ (i:Nat)=>(List.range 4).map λ (j:Nat)=>jm (i:Int) (j:Int)
def rX.len {a:List (List Key×V)} (h:rX a):a.length<=16:=by
 have:=wq (a.map (·.1)) JX h.1 λ x d=>by
   obtain ⟨p,c,rfl⟩:=aaH.mp d
   obtain ⟨i,j,H,b,e⟩:=h.2 p c
   rw [e]
   exact abu.mpr ⟨i,aaJ.mpr H,aaH.mpr ⟨j,aaJ.mpr b,rfl⟩⟩
 rw [OG] at this
 exact aaz this (by decide)
def rX.put {A:List (List Key×V)} (h:rX A) {i j:Nat} (g:i<4) (l:j<4) (v:V):rX (putK A (jm i j) v):=by
 refine ⟨?_,λ p H=>?_⟩
 .
  cases e:gA A (jm i j) with
  | none=>exact Jl v h.1 e
  | some y =>
    have f:(A.any λ k=>decide (k.1=jm i j))=true:=by
      unfold gA at e
      cases q:A.find? λ k=>decide (k.1=jm i j) with
      | none=>rw [q] at e;cases e
      | some z=>have Q:=List.find?_some q;exact List.any_eq_true.mpr ⟨z,List.mem_of_find?_eq_some q,Q⟩
    unfold putK
    rw [aaE f,abJ]
    have:((λ x:List Key×V=>x.1) ∘ λ k:List Key×V=>if k.1=jm i j then (k.1,v) else k)=λ x=>x.1:=by
      funext x
      show (if x.1=jm i j then (x.1,v) else x).1=x.1
      split<;>rfl
    rw [this]
    exact h.1
 .
  unfold putK at H
  split at H
  . obtain ⟨z,m,rfl⟩:=aaH.mp H
    obtain ⟨a,b,c,d,e⟩:=h.2 z m
    refine ⟨a,b,c,d,?_⟩
    split<;>exact e
  .
   rcases aar.mp H with H|H
   . exact h.2 p H
   . have:p=(jm i j,v):=by simpa using H
     subst this
     exact ⟨i,j,g,l,rfl⟩
def Hy {i j I J:Int} (h:jm i j=jm I J):i=I/\j=J:=by
 simp only [jm,adD,Sum.inl.injEq,and_true] at h
 exact h
def ap.eK (m:ap) (i j:Nat) (f:ci):ap:={ m with dP:=λ a b=>if a=(i:Int)/\b=(j:Int) then some f else m.dP a b }
def ap.fW (m:ap) (i:Nat) (s:ci×ci×ci):ap:={ m with bD:=m.bD.set i s }
def ap.d6 (m:ap) (i:Nat) (s:ci×Int×Int×Int):ap:={ m with bq:=m.bq.set i (some s)}
def ap.eY (m:ap) (r:List ci):ap:={ m with rows:=m.rows++[r],bD:=m.bD++[((0,1),(0,1),(0,1))],bq:=m.bq++[none]}
def ap.new (most de load:Int):ap:=⟨most,de,load,[],λ Z Z=>none,[],[]⟩
structure su (K:aA) (C:ak) (H:Hp) (a:ak) (fp:bw) (m':ap) (H':Hp) (rf:bw):Prop where
 at_:aN K C H' a rf m'
 but:gw fp H H'
 ts:aQ K H H'
 own:∀ b∈rf,b∈fp\/H b=none
theorem nR.ts {K:aA} (s:aQ K H H'):∀ {o:Option ci} {v:eE},nR K H o v->nR K H' o v
 | none,none,_=>trivial
 | some f,some v,h=>Dn.ts s _ (iO f) h
 | none,some _,h=>h
 | some _,none,h=>h
def ku {K:aA} {R:List (List ci)} {xs:ay} (s:aQ K H H') (h:bC K H (R.map vG) xs):bC K H' (R.map vG) xs:=bC.ts s _ (λ d a=>by obtain ⟨r,Z,rfl⟩:=aaH.mp a;exact zQ r) h
def je {K:aA} {R:List (ci×ci×ci)} {xs:ay} (s:aQ K H H') (h:bC K H (R.map qe) xs):bC K H' (R.map qe) xs:=bC.ts s _ (λ d a=>by obtain ⟨r,Z,rfl⟩:=aaH.mp a;exact uo r) h
def gO {K:aA} {R:List (Option (ci×Int×Int×Int))} {xs:ay} (s:aQ K H H') (h:bC K H (R.map iB) xs):bC K H' (R.map iB) xs:=bC.ts s _ (λ d a=>by obtain ⟨r,Z,rfl⟩:=aaH.mp a;exact uC r) h
def mJ (r:List ci):Bool:=(List.zipWith bV r r.tail).all id
def jD (R:List (List ci)):Int:=R.foldl (λ p r=>p * ((r.length:Int) - 1)) 1
section
variable (K:aA) (C:ak)
inductive KF (vs:ay) (H:Hp) (Q:VK) (_E:XK):Prop|mk (a fp m:_) (i:Nat) (v1 v2 f g:_) (_:vs=[.ref a,ao i,v1,v2]) (_:aN K C H a fp m) (_:i<m.rows.length) (_:Dn K H (eX f) v1) (_:Dn K H (eX g) v2) (_:fK 100 f) (_:fK 100 g) (_:0<=f.1) (_:bV (nv (m.own i) g) f=false) (_:∀ H',aE H H'->Q .cB H')
inductive At (vs:ay) (H:Hp) (Q:VK) (_E:XK):Prop|mk (a fp m:_) (i j:Nat) (v f:_) (_:vs=[.ref a,ao i,ao j,v]) (_:aN K C H a fp m) (_:i<m.rows.length) (_:j<m.rows.length) (_:i≠j) (_:Dn K H (eX f) v) (_:fK 100 f) (_:0<=f.1) (_:bV (nv (m.own i) (m.fe i j)) f=false) (_:∀ H' rf,su K C H a fp (m.eK i j f) H' rf->Q .cB H')
inductive Bf (vs:ay) (H:Hp) (Q:VK) (_E:XK):Prop|mk (a fp m:_) (i:Nat) (v1 v2 v3 f lo hi:_) (_:vs=[.ref a,ao i,v1,v2,v3]) (_:aN K C H a fp m) (_:i<m.rows.length) (_:Dn K H (eX f) v1) (_:Dn K H (eX lo) v2) (_:Dn K H (eX hi) v3) (_:fK 100 f) (_:fK 100 lo) (_:fK 100 hi) (_:bV hi lo=false) (_:0<=f.1) (_:bV (nv (m.own i) (m.eU i)) f=false) (_:∀ H' rf,su K C H a fp (m.fW i (f,lo,hi)) H' rf->Q .cB H')
inductive p9 (vs:ay) (H:Hp) (Q:VK) (_E:XK):Prop|mk (a fp m:_) (i:Nat) (v f:_) (w st fl:Int) (_:vs=[.ref a,ao i,v,.int w,.int st,.int fl]) (_:aN K C H a fp m) (_:i<m.rows.length) (_:Dn K H (eX f) v) (_:fK 100 f) (_:0<=f.1) (_:(0<=w/\w<=9)) (_:(0<=st/\st<=3)) (_:(0<=fl/\fl<=3)) (_:∀ H' rf,su K C H a fp (m.d6 i (f,w,st,fl)) H' rf->Q .cB H')
inductive Fh (vs:ay) (H:Hp) (Q:VK) (_E:XK):Prop|mk (p xs r:_) (_:vs=[.ref p]) (_:bh K H p xs) (_:bC K H (r.map eX) xs) (_:(∀ f∈r,fK 100 f)) (_:r.length<=7) (_:∀ H',aE H H'->Q (.bl (mJ r)) H')
inductive Hl (vs:ay) (H:Hp) (Q:VK) (_E:XK):Prop|mk (p xs rs:_) (_:vs=[.ref p]) (_:bh K H p xs) (_:bC K H (rs.map vG) xs) (_:rs.length<=5) (_:(∀ r∈rs,1<=r.length/\r.length<=7)) (_:Q (.int (jD rs)) H)
inductive Aj (vs:ay) (H:Hp) (Q:VK) (_E:XK):Prop|mk (a fp m p xs r:_) (_:vs=[.ref a,.ref p]) (_:aN K C H a fp m) (_:m.rows.length<4) (_:bh K H p xs) (_:bC K H (r.map eX) xs) (_:(∀ f∈r,fK 100 f)) (_:2<=r.length) (_:r.length<=7) (_:mJ r=true) (_:jD (m.rows++[r])<=400) (_:∀ H' rf,su K C H a fp (m.eY r) H' rf->Q (ao m.rows.length) H')
inductive C3 (vs:ay) (H:Hp) (Q:VK) (_E:XK):Prop|mk (x dx:_) (most de load:Int) (_:vs=[.ref x,.int most,.int de,.int load]) (_:H x=some (.ins C dx [])) (_:H dx=some (.own x)) (_:(0<=most/\most<=4)) (_:(0<=de/\de<=30)) (_:(0<=load/\load<=30)) (_:∀ H' rf,su K C H x [x,dx] (ap.new most de load) H' rf->Q .cB H')
end
def eL {a b:ak} (h:H a=some o) (k:H b=some u) (n:o≠u):a≠b:=λ e=>by
 subst e
 rw [h] at k
 exact n (aap k)
def p8 {m:ap} {C dx A a p b c F y s t:ak} (h:some (HO.ins C dx (lI m a p b c))=some (HO.ins C A (lI m F y s t))):dx=A/\a=F/\p=y/\b=s/\c=t:=by
 simp only [lI,Option.some.injEq,HO.ins.injEq,adD,Prod.mk.injEq,aeg,and_true,V.ref.injEq] at h
 exact h
def gw.same {f:bw} (s:aE H H'):gw f H H':=λ b o h Z=>s b o h
theorem gw.upd {f:bw} {p:ak} (b:gw f H H') (a:p∈f):gw f H (upd H' p o):=λ c u h n=>by
 rw [ar (λ e=>n (by rw [e];exact a))]
 exact b c u h n
section
variable {K:aA} {C:ak} {H H1:Hp} {a:ak} {fp:bw} {m:ap}
def Ez {dx pm p ps pt:ak} {A:List (List Key×V)} {i j:Nat} {f:ci} (R:aN K C H a fp m) (s:aE H H1) (N:H a=some (.ins C dx (lI m pm p ps pt))) (oG:H p=some (.dT A)) (S:i<4) (U:j<4) (d:Dn K H1 (eX f) v) (o:fK 100 f):su K C H a fp (m.eK i j f) (upd H1 p (.dT (putK A (jm i j) v))) fp:=by
 obtain ⟨⟨l,F,y,sQ,tH,vm,vs,vt,k,Q,W,X,E,M,G,L,Y,n2,n3,r,u,x,D,B⟩,q1,q2,q3,q⟩:=R
 obtain ⟨rfl,rfl,rfl,rfl,rfl⟩:=p8 (W.symm.trans N)
 obtain rfl:k=A:=by
   have:=M.symm.trans oG
   injection this with e
   injection e
 have T:aQ K H1 (upd H1 y (.dT (putK k (jm i j) v))):=bU (s _ _ M) rfl
 have t:=(aE.ts (K:=K) s).trans T
 have w:∀ {b o},H b=some o->o ≠ .dT k->(upd H1 y (.dT (putK k (jm i j) v))) b=some o:=λ h n=>by
   rw [ar (eL h M n)]
   exact s _ _ h
 refine ⟨⟨⟨l,F,y,sQ,tH,vm,vs,vt,putK k (jm i j) v,Q,w W nofun,w X nofun,w E nofun,ag,w G nofun,w L nofun,Y,n2,n3,ku t r,je t u,gO t x,λ I J=>?_,B.put S U v⟩,q1,q2,q3,⟨q.rows,q.len,λ I J g c=>?_,q.bD,q.bq⟩⟩,(gw.same s).upd (by rw [Q];simp),t,λ b O => .inl O⟩
 .
  rw [GV]
  by_cases e:I=(i:Int)/\J=(j:Int)
  . show nR K _ (if I=(i:Int)/\J=(j:Int) then some f else m.dP I J) _
    rw [aaE e,aaE (by rw [e.1,e.2])]
    exact Dn.ts T _ (iO f) d
  . show nR K _ (if I=(i:Int)/\J=(j:Int) then some f else m.dP I J) _
    rw [aaA e,aaA (λ z=>e (Hy z))]
    exact (D I J).ts t
 .
  have c:(if I=(i:Int)/\J=(j:Int) then some f else m.dP I J)=some g:=c
  split at c
  . cases c
    exact o
  . exact q.dP I J g c
def G2 {dx Y X p pt:ak} {vs:ay} {i:Nat} {z:ci×ci×ci} (J:aN K C H a fp m) (s:aE H H1) (E:H a=some (.ins C dx (lI m Y X p pt))) (g:H p=some (.lst vs)) (d:Dn K H1 (qe z) v) (o:fK 100 z.1/\fK 100 z.2.1/\fK 100 z.2.2):su K C H a fp (m.fW i z) (upd H1 p (.lst (vs.set i v))) fp:=by
 obtain ⟨⟨k,F,ya,S,tH,vm,A,vt,U,Q,W,j,G,M,f,B,N,V,c,l,r,u,D,x⟩,q1,q2,q3,q⟩:=J
 obtain ⟨rfl,rfl,rfl,rfl,rfl⟩:=p8 (W.symm.trans E)
 obtain rfl:A=vs:=by
   have:=f.symm.trans g
   injection this with e
   injection e
 have T:aQ K H1 (upd H1 S (.lst (A.set i v))):=bU (s _ _ f) rfl
 have t:=(aE.ts (K:=K) s).trans T
 have w:∀ {b o},H b=some o->b≠S->(upd H1 S (.lst (A.set i v))) b=some o:=λ h n=>by
   rw [ar n]
   exact s _ _ h
 refine ⟨⟨⟨k,F,ya,S,tH,vm,A.set i v,vt,U,Q,w W (eL W g nofun),w j (eL j g nofun),w G N,w M (eL M g nofun),ag,w B c.symm,N,V,c,ku t l,?_,gO t u,λ O R=>(D O R).ts t,x⟩,?_,q2,q3,⟨q.rows,q.len,q.dP,λ y L=>?_,q.bq⟩⟩,(gw.same s).upd (by rw [Q];simp),t,λ b I => .inl I⟩
 . show bC K _ ((m.bD.set i z).map qe) _
   rw [adr]
   exact bC.set (i:=i) (je t r) (Dn.ts T _ (uo z) d)
 . show (m.bD.set i z).length=_
   rw [abl];exact q1
 . rcases ab2 L with h|h
   . exact q.bD y h
   . rw [h];exact o
def Bx {dx pm Y ps p:ak} {V:ay} {i:Nat} {z:ci×Int×Int×Int} (L:aN K C H a fp m) (s:aE H H1) (I:H a=some (.ins C dx (lI m pm Y ps p))) (g:H p=some (.lst V)) (d:Dn K H1 (iB (some z)) v) (o:fK 100 z.1):su K C H a fp (m.d6 i z) (upd H1 p (.lst (V.set i v))) fp:=by
 obtain ⟨⟨k,l,ya,sQ,T,vm,A,F,U,Q,W,j,G,M,zy,E,X,N,c,r,u,x,D,B⟩,q1,q2,q3,q⟩:=L
 obtain ⟨rfl,rfl,rfl,rfl,rfl⟩:=p8 (W.symm.trans I)
 obtain rfl:F=V:=by
   have:=E.symm.trans g
   injection this with e
   injection e
 have f:aQ K H1 (upd H1 T (.lst (F.set i v))):=bU (s _ _ E) rfl
 have t:=(aE.ts (K:=K) s).trans f
 have w:∀ {b o},H b=some o->b≠T->(upd H1 T (.lst (F.set i v))) b=some o:=λ h n=>by
   rw [ar n]
   exact s _ _ h
 refine ⟨⟨⟨k,l,ya,sQ,T,vm,A,F.set i v,U,Q,w W (eL W g nofun),w j (eL j g nofun),w G N,w M (eL M g nofun),w zy c,ag,X,N,c,ku t r,je t u,?_,λ R S=>(D R S).ts t,B⟩,q1,?_,q3,⟨q.rows,q.len,q.dP,q.bD,λ y O=>?_⟩⟩,(gw.same s).upd (by rw [Q];simp),t,λ b J => .inl J⟩
 . show bC K _ ((m.bq.set i (some z)).map iB) _
   rw [adr]
   exact bC.set (i:=i) (gO t x) (Dn.ts f _ (uC (some z)) d)
 . show (m.bq.set i (some z)).length=_
   rw [abl];exact q2
 . rcases ab2 O with h|h
   . exact q.bq y h
   . cases h;exact o
end
def Gd (xs:ay):xG xs (some 1) none=xs.tail:=by
 have e:HT.yH xs.length 0 (some 1)=min 1 xs.length:=HT.Kw _ _ 1
 unfold xG
 rw [e,HT.G3]
 cases xs with
 | nil=>rfl
 | cons x l =>
   have:min 1 (x::l).length=1:=by simp
   rw [this]
   simp
def aE.put {D:ak} (s:aE H H') (h:H D=none):aE H (upd H' D o):=λ b u e=>by
 rw [ar (aw e h)]
 exact s b u e
def uU {r:List ci} {i:Nat} {x y:ci} (h:r[i]?=some x) (H:r[i+1]?=some y):(List.zipWith bV r r.tail)[i]?=some (bV x y):=by
 rw [List.getElem?_zipWith,h]
 have:r.tail[i]?=some y:=by rw [aem];exact H
 rw [this]
section
variable {K:aA} {C:ak} {H H1:Hp} {a:ak} {fp:bw} {m:ap}
def Ep {dx I X l u p R q N:ak} {vm vs vt:ay} {r:List ci} (hh:aN K C H a fp m) (s:aE H H1) (ha:H a=some (.ins C dx (lI m I X l u))) (gF:H I=some (.lst vm)) (g:H l=some (.lst vs)) (G:H u=some (.lst vt)) (E:H p=none) (Ch:H1 p=some (.lst (vm++[.ref R]))) (dr:Dn K H1 (vG r) (.ref R)) (mX:m.rows.length<4) (hr:∀ f∈r,fK 100 f) (hl:2<=r.length/\r.length<=7) (O:∀ H',Dn K H' (eX (0,1)) (.ref N)) (Cm:upd H1 a (.ins C dx (aL "mark_rows" (.ref p) (lI m I X l u))) q=none) :
   ∃ rf,su K C H a fp (m.eY r) (upd (upd (upd (upd H1 a (.ins C dx (aL "mark_rows" (.ref p) (lI m I X l u)))) q (.tup [.ref N,.ref N,.ref N])) l (.lst (vs++[.ref q]))) u (.lst (vt++[.cB]))) rf:=by
 obtain ⟨⟨D,Fq,Y,S,t,QA,A,F,jV,qg,w,J,Mg,M,zy,EW,n1,n2,U,dm,ds,dt,df,fk⟩,q1,q2,q3,v⟩:=hh
 obtain ⟨rfl,rfl,rfl,rfl,rfl⟩:=p8 (w.symm.trans ha)
 obtain rfl:QA=vm:=by
   have:=Mg.symm.trans gF
   injection this with e
   injection e
 obtain rfl:A=vs:=by
   have:=zy.symm.trans g
   injection this with e
   injection e
 obtain rfl:F=vt:=by
   have:=EW.symm.trans G
   injection this with e
   injection e
 let H2:=upd H1 a (.ins C D (aL "mark_rows" (.ref p) (lI m Fq Y S t)))
 let H3:=upd H2 q (.tup [.ref N,.ref N,.ref N])
 let H4:=upd H3 S (.lst (A++[.ref q]))
 let H5:=upd H4 t (.lst (F++[.cB]))
 have W:∀ {b o},H1 b=some o->b≠a->H2 b=some o:=λ h n=>by show upd _ _ _ _=_;rw [ar n];exact h
 have L:aE H2 H3:=al Cm
 have na:H2 a=some (.ins C D (aL "mark_rows" (.ref p) (lI m Fq Y S t))):=ag
 have R3:=eL w g nofun
 have TR:=eL w G nofun
 have SR:H2 S=some (.lst A):=W (s _ _ g) R3.symm
 have Wx:H2 t=some (.lst F):=W (s _ _ G) TR.symm
 have ZB:=L _ _ SR
 have Xm:=L _ _ Wx
 have YT:H4 t=some (.lst F):=by show upd _ _ _ _=_;rw [ar U.symm];exact Xm
 have PL:aQ K H1 H2:=bU (s _ _ w) rfl
 have ab:aQ K H3 H4:=bU ZB rfl
 have Um:aQ K H4 H5:=bU YT rfl
 have B:=ab.trans Um
 have T:=PL.trans ((aE.ts L).trans B)
 have Q:=(aE.ts (K:=K) s).trans T
 have w5:∀ {b o},H2 b=some o->b≠S->b≠t->H5 b=some o:=λ h x y=>by
   show upd _ _ _ _=_
   rw [ar y]
   show upd _ _ _ _=_
   rw [ar x]
   exact L _ _ h
 have wo:∀ {b o},H b=some o->b≠a->b≠S->b≠t->H5 b=some o:=λ h x y z=>w5 (W (s _ _ h) x) y z
 have V:p≠a:=(aw w E).symm
 have d:p≠S:=(aw g E).symm
 have k:p≠t:=(aw G E).symm
 have ad:q≠S:=(aw SR Cm).symm
 have Y1:H5 S=some (.lst (A++[.ref q])):=by
   show upd _ _ _ _=_
   rw [ar U]
   exact ag
 refine ⟨[a,D,p,Y,S,t],⟨⟨D,p,Y,S,t,QA++[.ref R],A++[.ref q],F++[.cB],jV,rfl,?_,wo J (eL J w nofun) (eL J g nofun) (eL J G nofun),w5 (W Ch V) d k,wo M (eL M w nofun) (eL M g nofun) (eL M G nofun),Y1,ag,d,k,U,?_,?_,?_,λ i j=>(df i j).ts Q,fk⟩,?_,?_,?_,?_⟩,?_,Q,?_⟩
 . exact w5 na R3 TR
 . show bC K H5 ((m.rows++[r]).map vG) _
   rw [aah]
   exact (ku Q dm).snoc (Dn.ts T _ (zQ r) dr)
 . show bC K H5 ((m.bD++[((0,1),(0,1),(0,1))]).map qe) _
   rw [aah]
   exact (je Q ds).snoc (Dn.ts B _ (uo _) (HH (s:=((0,1),(0,1),(0,1))) (bR.of ag) (O _) (O _) (O _)))
 . show bC K H5 ((m.bq++[none]).map iB) _
   rw [aah]
   exact (gO Q dt).snoc rfl
 . show (m.bD++[_]).length=(m.rows++[r]).length
   rw [aac,aac,q1];rfl
 . show (m.bq++[_]).length=(m.rows++[r]).length
   rw [aac,aac,q2];rfl
 . show (m.rows++[r]).length<=4
   rw [aac];exact mX
 .
  refine ⟨λ x c=>?_,λ x c=>?_,v.dP,λ x c=>?_,λ x c=>?_⟩
  . rcases aar.mp c with h|h
    . exact v.rows x h
    . rw [aae.mp h];exact hr
  . rcases aar.mp c with h|h
    . exact v.len x h
    . rw [aae.mp h];exact hl
  . rcases aar.mp c with h|h
    . exact v.bD x h
    . rw [aae.mp h];exact ⟨G8,G8,G8⟩
  . rcases aar.mp c with h|h
    . exact v.bq x h
    . cases aae.mp h
 .
  intro b o h n
  rw [qg] at n
  simp only [aad,aaf,aaX,abF] at n
  exact wo h n.1 n.2.2.2.2.1 n.2.2.2.2.2
 .
  intro b hb
  rw [qg]
  simp only [aad,aaf,aaX] at hb |-
  rcases hb with rfl|rfl|rfl|rfl|rfl|rfl
  . exact .inl (.inl rfl)
  . exact .inl (.inr (.inl rfl))
  . exact .inr E
  . exact .inl (.inr (.inr (.inr (.inl rfl))))
  . exact .inl (.inr (.inr (.inr (.inr (.inl rfl)))))
  . exact .inl (.inr (.inr (.inr (.inr (.inr rfl)))))
end
structure jy (K:aA) (C x dx:ak) (H H':Hp) (fs:List (Str×V)):Prop where
 st:∀ b o,H b=some o->b≠x->H' b=some o
 ts:aQ K H H'
 at_:H' x=some (.ins C dx fs)
section
variable {K:aA} {C x dx:ak} {H H':Hp} {fs fs':List (Str×V)}
def jy.start (h:H x=some (.ins C dx fs)):jy K C x dx H H fs:=⟨λ Z Z h Z=>h,aQ.refl _,h⟩
def jy.put (B:jy K C x dx H H' fs):jy K C x dx H (upd H' x (.ins C dx fs')) fs':=⟨λ b o h n=>by rw [ar n];exact B.st b o h n,B.ts.trans (bU B.at_ rfl),ag⟩
def jy.new {p:ak} (B:jy K C x dx H H' fs) (a:H' p=none):jy K C x dx H (upd H' p o) fs:=⟨λ b u h n=>by rw [ar (aw (B.st b u h n) a)];exact B.st b u h n,B.ts.trans (aE.ts (al a)),by rw [ar (aw B.at_ a)];exact B.at_⟩
def jy.keep {b:ak} (B:jy K C x dx H H' fs) (h:H' b=some o) (n:b≠x):(upd H' x u) b=some o:=by rw [ar n];exact h
theorem jy.none {p:ak} (B:jy K C x dx H H' fs) (h:H' p=none):H p=Option.none:=by
 cases e:H p with
 | none=>rfl
 | some o =>
   by_cases q:p=x
   . rw [q,B.at_] at h;cases h
   . rw [B.st p o e q] at h;cases h
def jy.ne {p:ak} (B:jy K C x dx H H' fs) (h:H' p=Option.none):p≠x:=λ q=>by rw [q,B.at_] at h;cases h
def C5 {a:Type} {p:a->Prop} (x:a) (h:x∈([]:List a)):p x:=absurd h aaf
def Ig {p d a c:ak} {most de load:Int} (B:jy K C x dx H H' (lI (ap.new most de load) p d a c)) (q:H x=some (.ins C dx fs')) (j:H dx=some (.own x)) (i:H' p=some (.lst [])) (k:H' d=some (.dT [])) (l:H' a=some (.lst [])) (m:H' c=some (.lst [])) (N:H p=none) (r:H d=none) (s:H a=none) (t:H c=none) (E:p≠a) (f:p≠c) (g:a≠c) :
   su K C H x [x,dx] (ap.new most de load) H' [x,dx,p,d,a,c]:=by
 refine ⟨⟨⟨dx,p,d,a,c,[],[],[],[],rfl,B.at_,B.st _ _ j (eL j q nofun),i,k,l,m,E,f,g,rfl,rfl,rfl,λ Z Z=>trivial,ach,C5⟩,rfl,rfl,aaT _,⟨C5,C5,λ Z Z Z h=>(by cases h),C5,λ Z h=>absurd h aaf⟩⟩,?_,B.ts,?_⟩
 . intro b o h n
   simp only [aad,aaf,aaX,abF] at n
   exact B.st b o h n.1
 .
  intro b e
  simp only [aad,aaf,aaX] at e |-
  rcases e with rfl|rfl|rfl|rfl|rfl|rfl
  . exact .inl (.inl rfl)
  . exact .inl (.inr rfl)
  . exact .inr N
  . exact .inr r
  . exact .inr s
  . exact .inr t
end
def lt1000 {n:Nat} (h:Nat.ble (n+1) 1000=true):n<1000:=Nat.le_of_ble_eq_true h
def CY (i j:Int):Int:=reduceHash (Builtin.Tuple.tupleHashOf [hashInt i,hashInt j])
def Fi:∀ i j I J:Fin 4,CY (i.val:Int) (j.val:Int)=CY (I.val:Int) (J.val:Int)->i=I/\j=J:=by decide +kernel
def E6 (i:Nat) (H:i<4) (j:Nat) (c:j<4) (I:Nat) (K:I<4) (J:Nat) (Z:J<4) (h:CY (i:Int) (j:Int)=CY (I:Int) (J:Int)):i=I/\j=J:=by
 obtain ⟨a,b⟩:=Fi ⟨i,H⟩ ⟨j,c⟩ ⟨I,K⟩ ⟨J,Z⟩ h
 exact ⟨abo Fin.val a,abo Fin.val b⟩
def rX.hash {P:bi} {w:aV} {A:List (List Key×V)} (h:rX A):(A.map λ l=>tupleKeyHash (cO P w) l.1).Nodup:=by
 have H:=adn.mp h.1
 refine adn.mpr (H.imp_of_mem λ {a b} d f n e=>?_)
 obtain ⟨i,j,g,k,E⟩:=h.2 a d
 obtain ⟨I,J,K,z,c⟩:=h.2 b f
 rw [E,c] at e
 obtain ⟨m,o⟩:=E6 i g j k I K J z e
 exact n (by rw [E,c,m,o])
def JO:Option Int->V
 | none => .cB
 | some n => .int n
def Bq {U:St} {Q:VK} {t:TE} {k:Nat} {o:Option Int} {d:Int} (a:U[k]?=some (some (JO o))) (b:∀ q:VK,q (.int d) H->t U H q) (h:Q (.int (o.getD d)) H) :
   tIf (HW (LU (λ x y H Q=>y = .cB/\Q (.bl (decide (x = .cB))) H) (zA k) (tC .cB))) t (zA k) U H Q:=by
 refine ⟨_,by rw [a],rfl,_,rfl,?_⟩
 cases o with
 | none=>exact nO rfl (b Q h)
 | some n=>exact jb nofun ⟨_,a,h⟩
def ap.with (m:ap) (x y z:Option Int):ap:={ m with most:=x.getD m.most,de:=y.getD m.de,load:=z.getD m.load }
def ap.U5 (m:ap):Prop:=(0<=m.most/\m.most<=4)/\(0<=m.de/\m.de<=30)/\(0<=m.load/\m.load<=30)
inductive yu (K:aA) (C:ak) (vs:ay) (H:Hp) (Q:VK) (_E:XK):Prop|mk (a fp m x y z:_) (_:vs=[.ref a,JO x,JO y,JO z]) (_:aN K C H a fp m) (_:(m.with x y z).U5) (_:∀ b H' rf,aE H H'->aN K C H' b rf (m.with x y z)->(∀ c∈rf,H c=none)->Q (.ref b) H')
def JP {K:aA} {C:ak} {h:Hp} {a x dx:ak} {U:bw} {m m':ap} {l c L b:ak} {v vs f:ay} {A:List (List Key×V)} {w k p n o:ak} (hh:aN K C H a U m) (ha:H a=some (.ins C w (lI m k p n o))) (X:H k=some (.lst v)) (oG:H p=some (.dT A)) (W:H n=some (.lst vs)) (Y:H o=some (.lst f)) (s:aE H h) (e:m'.rows=m.rows/\m'.dP=m.dP/\m'.bD=m.bD/\m'.bq=m.bq) (B:jy K C x dx h H' (lI m' l c L b)) (jA:H' dx=some (.own x)) (h1:H' l=some (.lst v)) (h2:H' c=some (.dT A)) (h3:H' L=some (.lst vs)) (h4:H' b=some (.lst f)) (N:l≠L) (O:l≠b) (S:L≠b):aN K C H' x [x,dx,l,c,L,b] m':=by
 obtain ⟨⟨AO,Fq,ya,sQ,tH,Q,g,F,J,qg,wn,y,M,mW,zy,E,n1,n2,n3,z,G,I,D,T⟩,q1,q2,q3,q⟩:=hh
 obtain ⟨rfl,rfl,rfl,rfl,rfl⟩:=p8 (wn.symm.trans ha)
 obtain rfl:Q=v:=by
   have:=M.symm.trans X
   injection this with e
   injection e
 obtain rfl:g=vs:=by
   have:=zy.symm.trans W
   injection this with e
   injection e
 obtain rfl:F=f:=by
   have:=E.symm.trans Y
   injection this with e
   injection e
 obtain rfl:J=A:=by
   have:=mW.symm.trans oG
   injection this with e
   injection e
 have t:=(aE.ts (K:=K) s).trans B.ts
 obtain ⟨r,u,R,d⟩:=e
 refine ⟨⟨dx,l,c,L,b,Q,g,F,J,rfl,B.at_,jA,h1,h2,h3,h4,N,O,S,?_,?_,?_,λ i j=>?_,T⟩,?_,?_,?_,⟨?_,?_,?_,?_,?_⟩⟩
 . rw [r];exact ku t z
 . rw [R];exact je t G
 . rw [d];exact gO t I
 . rw [u];exact (D i j).ts t
 . rw [r,R];exact q1
 . rw [r,d];exact q2
 . rw [r];exact q3
 . rw [r];exact q.rows
 . rw [r];exact q.len
 . rw [u];exact q.dP
 . rw [R];exact q.bD
 . rw [d];exact q.bq
structure K3 where
 a:Int
 b:Int
 t:Int
 d:Int
structure K3.Ok (s:K3):Prop where
 a0:1<=s.a
 a1:s.a<=10 ^ 9
 b0:1<=s.b
 b1:s.b<=10 ^ 9
 t0 : -(10 ^ 9)<=s.t
 t1:s.t<=10 ^ 9
 d0:1<=s.d
 d1:s.d<=10 ^ 9
abbrev K3.vs (s:K3):ay:=[.int s.a,.int s.b,.int s.t,.int s.d]
def Sb (n parts:Int) (s:K3):Int:=n * s.a * s.d+parts * s.t * s.b
def Qe (parts:Int) (s:K3):Int:=parts * s.b * s.d
def Il (n parts:Int) (s:K3):ci:=nf (Sb n parts s) (Qe parts s)
structure StI (z:Int×Int×Int×Int):Prop where
 h:0<=z.1/\z.1<=25
 w:0<=z.2.1/\z.2.1<=9
 s:0<=z.2.2.1/\z.2.2.1<=3
 f:0<=z.2.2.2/\z.2.2.2<=3
def dH (H:Hp) (L:bw):Hp:=λ b=>if b∈L then none else H b
section
variable {H H':Hp} {L:bw} {a:ak} {o:HO}
def hZ:aE (dH H L) H:=λ b u h=>by
 unfold dH at h
 split at h
 . cases h
 . exact h
def mv (h:H a=some o) (n:a∉L):dH H L a=some o:=by unfold dH;rw [aaA n];exact h
def mD (h:a∈L):dH (upd H a o) L=dH H L:=by
 funext b
 unfold dH
 split
 . rfl
 . rename_i n
   rw [ar (λ e=>n (by rw [e];exact h))]
def uc (s:aE H H'):aE (dH H L) (dH H' L):=λ b u h=>by
 unfold dH at h |-
 split at h
 . cases h
 . rename_i n
   rw [aaA n]
   exact s b u h
def FW (H:Hp) (L:bw):Prop:=∀ b∈L,∃ o,H b=some o/\Dr o=true
end
structure bH where
 marks:List (List Int)
 tE:List (Int×Int×Int)
 bq:List (Option (Int×Int×Int×Int))
 dP:Nat->Nat->Option Int
 scale:K3
 bounds:Int×Int×Int
abbrev stI:Option (Int×Int×Int×Int)->PyData
 | none => .none
 | some z => .tuple [.int z.1,.int z.2.1,.int z.2.2.1,.int z.2.2.2]
section
variable {m:bH}
def bH.eK (m:bH) (i j:Nat) (k:Int):bH:={ m with dP:=λ a b=>if a=i/\b=j then some k else m.dP a b }
end
def JG (l:List Int):Prop:=∀ i x y,l[i]?=some x->l[i+1]?=some y->x<y
structure PR (n:Nat) (l:List Int):Prop where
 two:2<=l.length
 most:l.length<=if n<=2 then 7 else 5
 ris:JG l
 bd:∀ x∈l,-200<=x/\x<=200
structure bH.Ok (n i:Nat) (m:bH):Prop where
 lm:m.marks.length=i
 ls:m.tE.length=i
 lt:m.bq.length=i
 rows:∀ l∈m.marks,PR n l
 tE:∀ z∈m.tE,(0<=z.1/\z.1<=3)/\(-30<=z.2.1/\z.2.2<=60)/\z.2.1<=z.2.2/\z.2.2<=z.2.1+30
 bq:∀ z,some z∈m.bq->StI z
 dP:∀ a b,a<i->b<n->a≠b->∃ k,m.dP a b=some k/\0<=k/\k<=3
 scale:m.scale.Ok
 bounds:(0<=m.bounds.1/\m.bounds.1<=4)/\(0<=m.bounds.2.1/\m.bounds.2.1<=30)/\(0<=m.bounds.2.2/\m.bounds.2.2<=30)
end L2
namespace Mth
def Ov (W k:Int) (f:Int×Int):Prop:=f.1 * W=k * f.2/\0<f.2
theorem Ov.nf {W k:Int} (h:0<W):Ov W k (nf k W):=by
 have F:=lV (t:=k) h
 exact ⟨F.Do,F.pos⟩
end Mth
namespace L2
open PySem PySem.Spec PyProof.Rows Mth
variable {H:Hp} {elts:List Expr} {ta:TA} {pR:Pos} {x1:Nat}
def p7 {m:ap} {i j a b:Nat} {f:ci}:(m.eK i j f).fe a b=if a=i/\b=j then f else m.fe a b:=by
 unfold ap.fe ap.eK
 by_cases e:a=i/\b=j
 . rw [aaE e]
   show ((if (a:Int)=(i:Int)/\(b:Int)=(j:Int) then some f else m.dP a b)).getD (0,1)=f
   rw [aaE (by lia)];rfl
 . rw [aaA e]
   show ((if (a:Int)=(i:Int)/\(b:Int)=(j:Int) then some f else m.dP a b)).getD (0,1)=_
   rw [aaA (by lia)]
def zm {m:ap} {i a:Nat} {z:ci×ci×ci} (h:i<m.bD.length):(m.fW i z).eU a=if a=i then z.1 else m.eU a:=by
 unfold ap.eU ap.fW
 by_cases e:a=i
 .
  subst e
  rw [aaE rfl]
  show (((m.bD.set a z)[a]?).map (·.1)).getD (0,1)=_
  rw [acd h];rfl
 . rw [aaA e]
   show (((m.bD.set i z)[a]?).map (·.1)).getD (0,1)=_
   rw [acp (λ x=>e x.symm)]
def bH.row (t:bH) (l:List Int):List ci:=l.map λ x=>Il x 1 t.scale
def bH.m1 (t:bH) (k:Nat):ap:=((t.marks.take k).map t.row).foldl ap.eY (ap.new t.bounds.1 t.bounds.2.1 t.bounds.2.2)
def bH.LL (t:bH) (z:Int×Int×Int):ci×ci×ci:=(nf z.1 12,Il z.2.1 1 t.scale,Il z.2.2 1 t.scale)
def bH.Dk (t:bH) (z:Int×Int×Int×Int):ci×Int×Int×Int:=(nf (z.1 * t.scale.a) t.scale.b,z.2.1,z.2.2.1,z.2.2.2)
def bH.JK (t:bH) (m:ap) (i:Nat):ap:=match t.tE[i]? with|some z=>m.fW i (t.LL z)|none=>m
def bH.Ed (t:bH) (m:ap) (i:Nat):ap:=match t.bq[i]? with|some (some z)=>m.d6 i (t.Dk z)|_=>m
def bH.Ie (t:bH) (i:Nat) (m:ap) (j:Nat):ap:=if j=i then m else match t.dP i j with|some k=>m.eK i j (nf k 12)|none=>m
def bH.Jy (t:bH) (i:Nat) (m:ap) (j:Nat):ap:=(List.range j).foldl (t.Ie i) m
def bH.HV (t:bH) (n:Nat) (m:ap) (i:Nat):ap:=t.Jy i (t.Ed (t.JK m i) i) n
def bH.m2 (t:bH) (n k:Nat):ap:=(List.range k).foldl (t.HV n) (t.m1 n)
def su.keep {K:aA} {C:ak} {c d:Hp} {a:ak} {f r:bw} {m':ap} (S:aE c H) (n:∀ b∈f,c b=none) (D:su K C H a f m' d r):aE c d/\∀ b∈r,c b=none:=by
 refine ⟨λ b o h=>D.but b o (S b o h) λ q=>?_,λ b e=>?_⟩
 . rw [n b q] at h;cases h
 . rcases D.own b e with q|q
   . exact n b q
   . exact S.free q
theorem rO {K:aA}:∀ {l:List Int} {w:ay},bC K H (l.map PyData.int) w->w=l.map V.int
 | [],_,h=>h
 | x::l,_,h=>by
   obtain ⟨y,r,rfl,e,t⟩:=h
   have e:y = .int x:=e
   rw [e,rO t];rfl
def oY {a:Type} (l:List a) (g:a->ci):∀ d∈l.map (λ x=>eX (g x)),fN d=true:=λ d h=>by
 obtain ⟨x,Z,rfl⟩:=aaH.mp h
 exact iO _
def Ov.nonneg {W k:Int} {f:ci} (H:0<W) (h:Ov W k f) (a:0<=k):0<=f.1:=by
 have e:=h.1
 have:0<=f.1 * W:=by rw [e];exact abR a (abE h.2)
 exact Int.nonneg_of_mul_nonneg_left this H
def Gv {u:ak} {t b q r:Int} {K:aA} (c:0<b) (F:Fr t b q r) (h:H u=some (.tup [.int q,.int r])):Dn K H (eX (nf t b)) (.ref u):=by
 have e:=F.nf c
 have E:q=(nf t b).1:=abo Prod.fst e
 have a:r=(nf t b).2:=abo Prod.snd e
 rw [E,a] at h
 exact nG (bR.of h)
def M4:Nat->PyData->Prop
 | _,.none=>True
 | _,.bool _=>True
 | _,.int _=>True
 | n+1,.list D=>∀ d∈D,M4 n d
 | n+1,.tuple D=>∀ d∈D,M4 n d
 | _,_=>False
theorem xY {n:Nat} (h:∀ d,M4 n d->PyData.eqv d d=true/\d.canLay0=true/\d.depth<=n):∀ D:List PyData,(∀ d∈D,M4 n d)->PyData.eqvAll D D=true/\PyData.canLayAll0 D=true/\PyData.depthAll D<=n
 | [],_=>by simp [PyData.eqvAll,PyData.canLayAll0,PyData.depthAll]
 | d::D,k=>by
   obtain ⟨a,b,c⟩:=h d (k d aas)
   obtain ⟨A,B,C⟩:=xY h D (λ e H=>k e (aai _ H))
   simp only [PyData.eqvAll,PyData.canLayAll0,PyData.depthAll,a,b,A,B,Bool.and_self,aeg]
   lia
theorem ul:∀ (n:Nat) (d:PyData),M4 n d->PyData.eqv d d=true/\d.canLay0=true/\d.depth<=n
 | n,.none,_=>by simp [PyData.eqv,PyData.canLay0,PyData.depth]
 | n,.bool b,_=>by simp [PyData.eqv,PyData.canLay0,PyData.depth]
 | n,.int i,_=>by simp [PyData.eqv,PyData.canLay0,PyData.depth]
 | n+1,.list D,h=>by
   obtain ⟨a,b,c⟩:=xY (ul n) D h
   simp only [PyData.eqv,PyData.canLay0,PyData.depth,a,b,aeg]
   lia
 | n+1,.tuple D,h=>by
   obtain ⟨a,b,c⟩:=xY (ul n) D h
   simp only [PyData.eqv,PyData.canLay0,PyData.depth,a,b,aeg]
   lia
 | 0,.list _,h=>h.elim
 | 0,.tuple _,h=>h.elim
 | 0,.str _,h=>h.elim
 | _+1,.str _,h=>h.elim
 | 0,.dict _,h=>h.elim
 | _+1,.dict _,h=>h.elim
def ug {n:Nat} {d:PyData} (h:M4 n d) (H:n<=64):SeqAt.shaped d=true:=by
 obtain ⟨Z,b,c⟩:=ul n d h
 unfold SeqAt.shaped
 rw [b,aao (aaz c H)];rfl
def hG {X:Cx} {K:aA} (h:X.K=K):R6 X (Rn K):=by
 subst h
 exact az
theorem tR:∀ {N:List Int} {B:aZ},Vals (N.map V.int) B->∃ ys:List (Int×Tok),B=ys.map (λ p=>Value.int p.1 p.2)/\ys.map (·.1)=N
 | [],B,r=>by cases r;exact ⟨[],rfl,rfl⟩
 | n::N,B,r=>by
   cases r with
   | cons a b =>
     obtain ⟨t,rfl⟩:=a
     obtain ⟨ys,rfl,e⟩:=tR b
     exact ⟨(n,t)::ys,rfl,by rw [aaP,e]⟩
section
variable {X:Cx}
def EU (b:X.calm=true):iI X (.builtin "sum") (λ xs H Q=>∃ (p:ak) (n:List Int),xs=[.ref p]/\bh X.K H p (n.map V.int)/\∀ r:Int,r=n.sum->Q (.int r) H):=by
 intro a s U H xs k Q I r h
 obtain ⟨p,n,rfl,f,q⟩:=h
 obtain ⟨u,rfl,R⟩:=vals1 r
 obtain rfl:u=Value.ref p:=R
 obtain ⟨B,i,g,Z⟩:=I.list f
 obtain ⟨y,rfl,e⟩:=tR i
 have d:s.heap.IsList p (intItems y.toArray):=by have:=g.isList;simpa [intItems] using this
 refine sum_intListG (I.ok.hd b) d λ j T t c=>?_
 refine ⟨.int _,H,I.kept c,⟨t,rfl⟩,q _ ?_⟩
 rw [preSum_eq,abc (by simp),<- e]
end
def D8 {X:Cx} {K:aA} (h:X.K=K):iI X (.builtin "len") (λ xs H Q=>∃ p ys,xs=[.ref p]/\(bh K H p ys\/bR K H p ys)/\∀ r:Int,r=ys.length->Q (.int r) H):=by
 subst h
 exact bv
def N5:bootBuiltins "min" = some (.builtin "min"):=by decide +kernel
def BW:bootBuiltins "max" = some (.builtin "max"):=by decide +kernel
def N4:bootBuiltins "sum" = some (.builtin "sum"):=by decide +kernel
def kE:bootBuiltins "enumerate" = some (.type "enumerate"):=by decide +kernel
def qY (r:List ci) (f g:ci) (b:Nat):Bool:=(!bV g (r.getD b (0,1))) && !bV (r.getD (b+1) (0,1)) f
def kn (r:List ci) (f g:ci) (n:Nat):bj:=(List.range n).filter (qY r f g)
def rh (r:List ci) (f g:ci):bj:=kn r f g (r.length - 1)
def mS (r:List ci) (f g:ci):Bool:=(!bV f (r.getD 0 (0,1))) && !bV (r.getD (r.length - 1) (0,1)) g
def kh (r:List ci) (f g:ci) (n:Nat):kn r f g (n+1)=kn r f g n++if qY r f g n then [n] else []:=by
 unfold kn
 rw [aa2,abm]
 cases h:qY r f g n<;>simp [List.filter,h]
def mr (r:List ci) (f g:ci) (n:Nat):(kn r f g n).length<=n:=by
 have:=aa4 (qY r f g) (List.range n)
 rw [aaq] at this
 exact this
def KU {a:Type} {xs:List a} {x:a} (h0:0<xs.length) (h:xs[xs.length - 1]?=some x):tT xs (-1)=some x:=by
 unfold tT FJ
 rw [aaA (by lia),aaE (by lia)]
 have e:((-1:Int)+(xs.length:Int)).toNat=xs.length - 1:=by lia
 simp only [Option.bind_some]
 first
   | (rw [e];exact h)
   | (have E:((xs.length:Int) + -1).toNat=xs.length - 1:=by lia
      rw [E];exact h)
def jx (n:Nat):PyData:=.int (n:Int)
theorem uJ {K:aA}:∀ l:bj,bC K H (l.map jx) (l.map ao)
 | []=>fu
 | n::l=>bA rfl (uJ l)
def Dm {K:aA} {p:ak} {l:bj} (h:bh K H p (l.map ao)):Dn K H (.list (l.map jx)) (.ref p):=Ha h (uJ l)
def HD:([]:ay).length<=sizeLine:=aaT _
section
variable {P:bi} {w:aV} {A:Around} {E:av->Shared->Prop} {s:Shared}
def A1 {j a:ak} {i:Nat} {b:Array av} {x:av} {Q:av->Shared->Prop} (h:s.heap.IsTupleIter j a i) (H:s.heap.IsTuple a b) (g:b[i]?=some x) (k:∀ h',h'.IsTupleIter j a (i+1)->Heap.SameBut j s.heap h'->Q x { s with heap:=h' }):wpAny (model P w) A (Builtin.SmallTypes.nextOf (.ref j)) Q E s:=by
 obtain ⟨O,e,c,d⟩:=id h
 obtain ⟨o,f,Z,N,D⟩:=H
 unfold Builtin.SmallTypes.nextOf
 refine aaa (abS (name:=Str.ofString "__next__") h.typeIs aca (acy aca h.typeIs ad8 ?_ (ad2 _)))
 refine aaa (m:=field (.ref j) 0) (abD e d (x:=.ref a) rfl ?_)
 have n:¬ ((Value.ref a == Value.none)=true):=aaB
 show wpAny _ _ (if (Value.ref a == Value.none)=true then _ else _) _ _ s
 rw [aaA n]
 refine aaa (m:=field (.ref j) 1) (abD e d (x:=.int i 0) rfl ?_)
 refine aaa (m:=seqItems? (.ref a)) (acs f D ?_)
 simp only [abf,g]
 refine aaa (wpAny_setField e d (by simp) (aan ⟨x,rfl,aan (k _ ⟨_,acx _ e (Obj.isFreed_of_fields (Obj.data_mapFields d _)),(Obj.cls_mapFields ..).trans c,?_⟩ (ady ..))⟩))
 rw [Obj.data_mapFields d]
 simp [rawInt]
def Eb {j a:ak} {i:Nat} {B:Array av} {Q:av->Shared->Prop} (H:A.handled=none) (h:s.heap.IsTupleIter j a i) (g:s.heap.IsTuple a B) (l:B[i]?=none) (k:∀ h' e,Heap.ExtBut j s.heap h'->(∃ o,h'.get? e=some o/\o.cls = .type "StopIteration")->E (.ref e) { s with heap:=h' }):wpAny (model P w) A (Builtin.SmallTypes.nextOf (.ref j)) Q E s:=by
 obtain ⟨p,b,C,d⟩:=id h
 obtain ⟨O,c,Z,N,D⟩:=g
 unfold Builtin.SmallTypes.nextOf
 refine aaa (abS (name:=Str.ofString "__next__") h.typeIs aca (acy aca h.typeIs ad8 ?_ (ad2 _)))
 refine aaa (m:=field (.ref j) 0) (abD b d (x:=.ref a) rfl ?_)
 have n:¬ ((Value.ref a == Value.none)=true):=aaB
 show wpAny _ _ (if (Value.ref a == Value.none)=true then _ else _) _ _ s
 rw [aaA n]
 refine aaa (m:=field (.ref j) 1) (abD b d (x:=.int i 0) rfl ?_)
 refine aaa (m:=seqItems? (.ref a)) (acs c D ?_)
 simp only [abf,l]
 refine aaa (wpAny_rule (aaa (wpAny_setField b d (by simp) (aaa (m:=newExc (.type "StopIteration") []) ?_))))
 simp only [newExc,newTuple]
 refine aaa (abO (aaa (m:=firstArgMember _ _) (wpAny_of_eq (a:=Value.none) (by first|rfl|(simp only [firstArgMember];rfl)) (abO ?_ (by size_fits)))) (by size_fits))
 simp only [raiseNew]
 refine aaa (wpAny_handled ?_)
 have f:A.in1.handled=none:=H
 first|rw [f]|rw [H]
 exact aaa (aan (wpAny_throw (k _ _ (((ady ..).extBut.push _).push _) ⟨_,aaQ _ rfl,rfl⟩)))
end
def Gj {P:bi} {w:aV} {A:Around} (l:A.handled=none) (j a:ak) (n:a≠j) (b:Array av):Draws P w A j [j,a] b.size (λ i v=>b[i]?=some v) (λ i h=>h.IsTupleIter j a i/\h.IsTuple a b) where
 live:=λ Z Z S=>by
   obtain ⟨⟨o,e,Z⟩,Z⟩:=S
   exact ⟨o,e⟩
 frame:=λ Z Z Z S k=>by
   obtain ⟨H,O,f,r⟩:=S
   exact ⟨H.at λ o e=>k j (by simp) o e,O,k a (by simp) O f,r⟩
 item:=λ i s Q E c S q=>A1 S.1 S.2 (x:=b[i]) (by simp [c]) λ g H d=>q _ g s.toks (by simp [c]) ⟨H,S.2.extBut d.extBut n⟩ d
 done:=λ s Q E S q=>Eb l S.1 S.2 (by simp) q
set_option maxHeartbeats 1000000 in
def Fu (a:ak) (o:Obj) (bx:Array av) (n:Nat) (b:o.cls = .type "tuple") (e:o.data = .seq bx n) :
   Meets (Builtin.«enumerate.__new__» ⟨[.type "enumerate",.ref a],[]⟩) (λ _ R s=>s.heap.get? a=some o/\R (.ok (.ret (.ref (s.heap.push { cls:=.type "tuple_iterator",data:=.fields #[.ref a,.int 0 0]}).objs.size)))
     { s with heap:=(s.heap.push { cls:=.type "tuple_iterator",data:=.fields #[.ref a,.int 0 0]}).push { cls:=.type "enumerate",data:=.fields #[.none,.bool false,.ref s.heap.objs.size,rawInt 0,.none,.none]}}):=by
 obtain ⟨C,i,D,sl⟩:=o
 obtain rfl:C = .type "tuple":=b
 obtain rfl:D = .seq bx n:=e
 refine .of_wp λ P w A R s q=>?_
 obtain ⟨f,g,d,t,O⟩:=s
 obtain ⟨h,q⟩:=q
 have E:=sub_enumerate
 have H:Heap.IsTuple (Shared.heap ⟨f,g,d,t,O⟩) a bx:=⟨_,h,rfl,n,rfl⟩
 wp_walk using ac8 h
 refine wpAny_stack_any λ S=>aan ?_
 split
 . rename_i c _ _ _ _ _
   cases (c == Value.type "enumerate")<;>(wp_walk using ac8 h,wpAny_pyIter_tuple H;exact ⟨_,rfl,q⟩)
 . wp_walk using ac8 h,wpAny_pyIter_tuple H
   exact ⟨_,rfl,q⟩
section
variable {P:bi} {w:aV} {A:Around} {E:av->Shared->Prop} {s:Shared}
def uI {a:ak} {B:Array av} {Q:av->Shared->Prop} (c:s.heap.IsTuple a B) (k:∀ h',IsEnum h' (s.heap.objs.size+1) s.heap.objs.size 0 .none->h'.IsTupleIter s.heap.objs.size a 0->(∀ b o,s.heap.get? b=some o->h'.get? b=some o)->Q (.ref (s.heap.objs.size+1)) { s with heap:=h' }) :
   wpAny (model P w) A (call (.type "enumerate") [.ref a]) Q E s:=by
 obtain ⟨g,e,d,n,f⟩:=c
 refine callType_new F.called_enumerate (by decide) (F.typeCall_enumerate_1 _) (F.newCall_enumerate_1 _) (λ O=>F.args_object_init_2 O _) F.entry_enumerate_new (Fu a g B n d f) ⟨e,?_⟩
 have H:(s.heap.push { cls:=.type "tuple_iterator",data:=.fields #[.ref a,.int 0 0]}).objs.size=s.heap.objs.size+1:=act ..
 have h:=aaQ (s.heap.push { cls:=.type "tuple_iterator",data:=.fields #[.ref a,.int 0 0]}) (o:={ cls:=.type "enumerate",data:=.fields #[.none,.bool false,.ref s.heap.objs.size,rawInt 0,.none,.none]}) rfl
 rw [H] at h
 show _/\_
 rw [H]
 exact ⟨⟨_,h,rfl⟩,k _ h ⟨_,aak _ (aaQ _ rfl),rfl,rfl⟩ λ b o x=>aak _ (aak _ x)⟩
end
def FC (sq:Hp->ak->ay->Prop) (a:ak):It :=
 ⟨λ i H=>∃ X x,sq H a X/\X[i]?=some x,
  λ i H v h=>∃ p x,H p=none/\v = .ref p/\h=upd H p (.tup [ao i,x])/\∀ X,sq H a X->X[i]?=some x,
  λ i H=>∃ X,sq H a X/\X.length=i⟩
def EnL (e j a:ak) (i:Nat) (h:aU):Prop:=(∃ o,IsEnum h e j i o)/\h.IsListIter j a i
def EnT (e j a:ak) (i:Nat) (h:aU):Prop:=(∃ o,IsEnum h e j i o)/\h.IsTupleIter j a i
def Av {P:bi} {w:aV} {K:aA} {e j a:ak} (y:e≠j) (ae:a≠e) (L:a≠j):Turn P w K (.Tuple elts x1 pR) (FC (bh K) a) [e,j] e (EnL e j a) where
 mem:=by simp
 obj:=λ i h S c l=>by
   obtain ⟨⟨O,b⟩,oj,e2,Z,d2⟩:=S
   simp only [aad,aaf,aaX] at l
   rcases l with rfl|rfl
   . exact ⟨_,b,λ v q=>by cases q⟩
   . exact ⟨oj,e2,λ v q=>by rw [d2] at q;cases q⟩
 keep:=λ i h z S k=>by
   obtain ⟨⟨O,b⟩,f⟩:=S
   exact ⟨⟨O,k e (by simp) _ b⟩,f.at λ o q=>k j (by simp) o q⟩
 item:=by
   intro X D G C l i m s U H E I n S F
   subst D G C
   obtain ⟨xs,x,r,N⟩:=F
   obtain ⟨B,R,p,hz⟩:=I.list r
   obtain ⟨u,M,ru⟩:=R.get N
   obtain ⟨⟨O,b⟩,f⟩:=S
   have Q:e<s.heap.objs.size:=aat b
   have lj:j<s.heap.objs.size:=by obtain ⟨o,q,Z⟩:=f;exact aat q
   have hi:i<B.toArray.size:=by
     have:=(Ba.mp M).1
     simpa using this
   refine wpAny_pyNext_enum_itemD (Draws.list (A:=X.A.in1) (I.ok.hd l) j a L B.toArray) b ⟨f,p.isList⟩ hi y (by simp [y,ae.symm]) λ v z T t eo W ht ab kk=>?_
   obtain rfl:v=u:=by
     have t:B.toArray[i]?=some v:=t
     rw [ad6,M] at t
     exact (aap t).symm
   refine ⟨.ref s.heap.objs.size,rfl,ad9 (s:={ s with heap:=z,toks:=T+1 }) eo λ g he J=>?_⟩
   have V:∀ c o,c∉[e,j]->s.heap.get? c=some o->g.get? c=some o:=λ c o d q=>by
     simp only [aad,aaf,aaX,abF] at d
     exact J.extBut _ _ d.1 (kk c o d.1 d.2 q)
   have n5:=J.extBut _ _ (ab8 Q) ht
   refine ⟨.ref s.heap.objs.size,upd H s.heap.objs.size (.tup [ao i,x]),I.wX (t':=T+1) V n (aaj _) ⟨by show 2<=sizeLine;decide,[.int i T,v],.cons ⟨T,rfl⟩ (.cons ru .nil),⟨_,n5,rfl,_,rfl⟩⟩,rfl,
     ⟨_,x,I.cM.fresh (aaj _),rfl,rfl,λ ad h=>by rw [I.oS h r];exact N⟩,⟨⟨_,by simpa using he⟩,W.1.extBut J.extBut y.symm⟩,λ c Y=>?_⟩
   have lc:c<s.heap.objs.size:=by
     simp only [aad,aaf,aaX] at Y
     rcases Y with rfl|rfl
     . exact Q
     . exact lj
   rw [ar (aaL lc)]
   exact (n c Y).1
 done:=by
   intro X D G C l i m s U H E I n S F
   subst D G C
   obtain ⟨xs,r,hl⟩:=F
   obtain ⟨B,R,p,hz⟩:=I.list r
   obtain ⟨⟨O,b⟩,f⟩:=S
   have d:i=B.toArray.size:=by rw [aau,<- R.length];exact hl.symm
   subst d
   refine wpAny_pyNext_enum_endD (Draws.list (A:=X.A.in1) (I.ok.hd l) j a L B.toArray) b ⟨f,p.isList⟩ λ z eb=>⟨rfl,I.wT (ch:=[e,j]) (t':=s.toks) (λ c o d q=>?_) n⟩
   simp only [aad,aaf,aaX,abF] at d
   exact eb c o d.2 q
 self:=λ Z Z Z Z Z S h=>by
   obtain ⟨⟨O,b⟩,Z⟩:=S
   exact ab4 b h
def Ay {P:bi} {w:aV} {K:aA} {e j a:ak} (y:e≠j) (ae:a≠e) (L:a≠j):Turn P w K (.Tuple elts x1 pR) (FC (bR K) a) [e,j] e (EnT e j a) where
 mem:=by simp
 obj:=λ i h S c l=>by
   obtain ⟨⟨O,b⟩,oj,e2,Z,d2⟩:=S
   simp only [aad,aaf,aaX] at l
   rcases l with rfl|rfl
   . exact ⟨_,b,λ v q=>by cases q⟩
   . exact ⟨oj,e2,λ v q=>by rw [d2] at q;cases q⟩
 keep:=λ i h z S k=>by
   obtain ⟨⟨O,b⟩,f⟩:=S
   exact ⟨⟨O,k e (by simp) _ b⟩,f.at λ o q=>k j (by simp) o q⟩
 item:=by
   intro X D G C l i m s U H E I n S F
   subst D G C
   obtain ⟨xs,x,r,N⟩:=F
   obtain ⟨B,R,p,hz⟩:=I.tuple r
   obtain ⟨u,M,ru⟩:=R.get N
   obtain ⟨⟨O,b⟩,f⟩:=S
   have Q:e<s.heap.objs.size:=aat b
   have lj:j<s.heap.objs.size:=by obtain ⟨o,q,Z⟩:=f;exact aat q
   have hi:i<B.toArray.size:=by
     have:=(Ba.mp M).1
     simpa using this
   refine wpAny_pyNext_enum_itemD (Gj (A:=X.A.in1) (I.ok.hd l) j a L B.toArray) b ⟨f,p⟩ hi y (by simp [y,ae.symm]) λ v z T t eo W ht ab kk=>?_
   obtain rfl:v=u:=by
     have t:B.toArray[i]?=some v:=t
     rw [ad6,M] at t
     exact (aap t).symm
   refine ⟨.ref s.heap.objs.size,rfl,ad9 (s:={ s with heap:=z,toks:=T+1 }) eo λ g he J=>?_⟩
   have V:∀ c o,c∉[e,j]->s.heap.get? c=some o->g.get? c=some o:=λ c o d q=>by
     simp only [aad,aaf,aaX,abF] at d
     exact J.extBut _ _ d.1 (kk c o d.1 d.2 q)
   have n5:=J.extBut _ _ (ab8 Q) ht
   refine ⟨.ref s.heap.objs.size,upd H s.heap.objs.size (.tup [ao i,x]),I.wX (t':=T+1) V n (aaj _) ⟨by show 2<=sizeLine;decide,[.int i T,v],.cons ⟨T,rfl⟩ (.cons ru .nil),⟨_,n5,rfl,_,rfl⟩⟩,rfl,
     ⟨_,x,I.cM.fresh (aaj _),rfl,rfl,λ ad h=>by rw [I.DV h r];exact N⟩,⟨⟨_,by simpa using he⟩,W.1.extBut J.extBut y.symm⟩,λ c Y=>?_⟩
   have lc:c<s.heap.objs.size:=by
     simp only [aad,aaf,aaX] at Y
     rcases Y with rfl|rfl
     . exact Q
     . exact lj
   rw [ar (aaL lc)]
   exact (n c Y).1
 done:=by
   intro X D G C l i m s U H E I n S F
   subst D G C
   obtain ⟨xs,r,hl⟩:=F
   obtain ⟨B,R,p,hz⟩:=I.tuple r
   obtain ⟨⟨O,b⟩,f⟩:=S
   have d:i=B.toArray.size:=by rw [aau,<- R.length];exact hl.symm
   subst d
   refine wpAny_pyNext_enum_endD (Gj (A:=X.A.in1) (I.ok.hd l) j a L B.toArray) b ⟨f,p⟩ λ z eb=>⟨rfl,I.wT (ch:=[e,j]) (t':=s.toks) (λ c o d q=>?_) n⟩
   simp only [aad,aaf,aaX,abF] at d
   exact eb c o d.2 q
 self:=λ Z Z Z Z Z S h=>by
   obtain ⟨⟨O,b⟩,Z⟩:=S
   exact ab4 b h
section
variable {X:Cx}
def Zk (K:aA) (t:TA):TI:=λ U H R=>t U H λ v h=>∃ a,v=[.ref a]/\(∃ x,bh K h a x)/\R (FC (bh K) a) h
def Vy (K:aA) (t:TA):TI:=λ U H R=>t U H λ v h=>∃ a,v=[.ref a]/\(∃ x,bR K h a x)/\R (FC (bR K) a) h
def M7:("enumerate" : Str) ≠ "__name__":=by decide +kernel
def NA:(("enumerate" : Str) == ("__debug__" : Str))=false:=by decide +kernel
def rj {a:Expr} {p f:Pos} (n:Gl X "enumerate") (o:X.mg "enumerate" = none) (m:PA X [a] ta) (u:starEach [a] X.env=[(false,eval a X.env)]:=by rfl) :
   PI X (.Tuple elts x1 pR) (.Call (.Name "enumerate" p) [a] [] f) (Zk X.K ta):=by
 intro d s U H R I h
 refine Call_ ?_
 refine io I n o kE ?_ M7 NA
 refine aaY ?_ u rfl
 refine cR (m f d s U H _ I h) λ D S ⟨V,k,i,w,Q⟩=>?_
 obtain ⟨a,e,⟨E,t⟩,q⟩:=Q
 subst e
 cases w with
 | cons r x =>
   cases x
   obtain rfl:_=Value.ref a:=r
   obtain ⟨B,C,j,M⟩:=i.list t
   have l:a<S.heap.objs.size:=by obtain ⟨Z,e,Z⟩:=j.isList;exact aat e
   refine call_enumerate_list j.isList λ A z y F v=>ab4 z ?_
   refine ⟨S.heap.objs.size+1,[S.heap.objs.size+1,S.heap.objs.size],_,_,k,rfl,i.kept (t':=S.toks) v,Av (acU _) (aaL (acL l)) (aaL l),⟨⟨_,z⟩,y⟩,λ c g=>?_,q⟩
   have b:S.heap.objs.size<=c:=by
     simp only [aad,aaf,aaX] at g
     rcases g with rfl|rfl
     . exact ace _
     . exact aaj _
   exact i.AG b (i.cM.fresh b)
def MK {a:Expr} {p f:Pos} (n:Gl X "enumerate") (o:X.mg "enumerate" = none) (m:PA X [a] ta) (u:starEach [a] X.env=[(false,eval a X.env)]:=by rfl) :
   PI X (.Tuple elts x1 pR) (.Call (.Name "enumerate" p) [a] [] f) (Vy X.K ta):=by
 intro d s U H R I h
 refine Call_ ?_
 refine io I n o kE ?_ M7 NA
 refine aaY ?_ u rfl
 refine cR (m f d s U H _ I h) λ D S ⟨V,k,i,w,Q⟩=>?_
 obtain ⟨a,e,⟨E,t⟩,q⟩:=Q
 subst e
 cases w with
 | cons r x =>
   cases x
   obtain rfl:_=Value.ref a:=r
   obtain ⟨B,C,j,M⟩:=i.tuple t
   have l:a<S.heap.objs.size:=j.lt
   refine uI j λ A z y v=>ab4 z ?_
   refine ⟨S.heap.objs.size+1,[S.heap.objs.size+1,S.heap.objs.size],_,_,k,rfl,i.kept (t':=S.toks) v,Ay (acU _) (aaL (acL l)) (aaL l),⟨⟨_,z⟩,y⟩,λ c g=>?_,q⟩
   have b:S.heap.objs.size<=c:=by
     simp only [aad,aaf,aaX] at g
     rcases g with rfl|rfl
     . exact ace _
     . exact aaj _
   exact i.AG b (i.cM.fresh b)
end
def jZ {sq:Hp->ak->ay->Prop} {a:ak} {xs:ay} {g:TG} {T:TT} {t:TE} {D:ak} {Q:Hp->Prop} {U:St} (c:Nat->ay->St->Hp->Prop) (h0:c 0 [] U H) (s:∀ i acc U H,i<=xs.length->c i acc U H->sq H a xs) (w:∀ i x p acc U H,xs[i]?=some x->H p=none->c i acc U H->g (.ref p) U (upd H p (.tup [ao i,x])) λ b l=>T b l λ k h =>
     if k=true then t b h λ v j=>j D=some (.lst acc)/\acc.length<sizeLine/\c (i+1) (acc++[v]) b (upd j D (.lst (acc++[v]))) else c (i+1) acc b h) (o:∀ acc U H,c xs.length acc U H->Q H) :
   ∃ W:Nat->Nat->ay->St->Hp->Prop,(∃ m,W 0 m [] U H)/\∀ i m acc f d,W i m acc f d->((FC sq a).stop i d/\Q d) \/
     ((FC sq a).go i d/\∃ N:ay->St->Hp->Prop,(∀ G b h,N G b h->∃ m',m'<m/\W (i+1) m' G b h)/\∀ x n,(FC sq a).IJ i d x n->g x f n λ b l=>T b l λ k h =>
       if k=true then t b h λ y j=>j D=some (.lst acc)/\acc.length<sizeLine/\N (acc++[y]) b (upd j D (.lst (acc++[y]))) else N acc b h):=by
 refine ⟨λ i m acc U H=>m=xs.length - i/\i<=xs.length/\c i acc U H,⟨_,rfl,aaT _,h0⟩,?_⟩
 rintro i m acc U H ⟨rfl,r,p⟩
 have q:=s i acc U H r p
 by_cases M:i<xs.length
 . refine .inr ⟨⟨xs,xs[i],q,by simp [M]⟩,c (i+1),λ G f d z=>⟨xs.length - (i+1),by lia,rfl,M,z⟩,λ v d y=>?_⟩
   obtain ⟨A,x,u,rfl,rfl,E⟩:=y
   exact w i x A acc U H (E xs q) u p
 . have e:i=xs.length:=by lia
   subst e
   exact .inl ⟨⟨xs,q,rfl⟩,o acc U H p⟩
end L2
namespace Tx
open PySem PySem.Builtin PySem.Builtin.Str
def len (a:Str):a.cps.toList.length=a.length:=ab6
def sl:Str:=⟨#[47]⟩
def cases (x:Str):47∉x.cps.toList\/∃ a b:Str,47∉a.cps.toList/\x.cps.toList=a.cps.toList++47::b.cps.toList:=by
 by_cases h:47∈x.cps.toList
 . obtain ⟨as,B,e,n⟩:=List.eq_append_cons_of_mem h
   exact .inr ⟨⟨as.toArray⟩,⟨B.toArray⟩,by simpa using n,by simpa using e⟩
 . exact .inl h
def strN (n:Nat):Str:=Str.ofString (toString ((n:Nat):Int))
def Good (z:Str):Prop:=1<=z.length/\z.length<=30/\NumText.AllDigits z.cps.toList/\¬ (z.cps.toList.head?=some 48/\1<z.length)
def valOf (z:Str):Int:=((NumText.digitsVal z.cps.toList:Nat):Int)
def mi:Str:=⟨#[45]⟩
def Hg (z:Str):Bool:=decide (z.cps.toList.head?=some 45)
def bodyOf (z:Str):Str:=if Hg z=true then Txt.slice z (some 1) none else z
def WG (z:Str):Int:=if Hg z=true then -1 else 1
def Rd (z:Str) (f:Int×Int):Prop :=
 Good (Txt.partition (bodyOf z) sl).1/\(Hg z=true->valOf (Txt.partition (bodyOf z) sl).1≠0)/\f.1=WG z * valOf (Txt.partition (bodyOf z) sl).1 /\
 (((Txt.partition (bodyOf z) sl).2.1=sl/\Good (Txt.partition (bodyOf z) sl).2.2/\2<=valOf (Txt.partition (bodyOf z) sl).2.2 /\
     Int.gcd (valOf (Txt.partition (bodyOf z) sl).1) (valOf (Txt.partition (bodyOf z) sl).2.2)=1/\f.2=valOf (Txt.partition (bodyOf z) sl).2.2) \/
   ((Txt.partition (bodyOf z) sl).2.1≠sl/\f.2=1))
def RM (t:Int):Str:=if t<0 then mi++strN t.natAbs else strN t.natAbs
def afL (t b:Int):Str:=if b=1 then RM t else RM t++sl++strN b.natAbs
end Tx
namespace L2
open PySem PySem.Spec PyProof.Rows Mth
def cdiv {j:Int} (h:0<j) (H:j<2 ^ 100) {i:Int}:Im i j:=⟨by lia,Oa 8999 (by lia) H⟩
section
variable {X:Cx} {x:Str} {p pos:Pos} {e:Expr} {es:List Expr} {t:TA} {k:Nat} {ps:cx} {sp:Sp} {E:XK}
def Hf (D:GK X.prog X.w X.K X.mg X.base x k ps sp) (i:cL k X.A) (j:Passes (Hs X.prog X.w) X E) (h:PA X (e::es) t) (b:Gl X x:=by rfl) (q:wm x:=by decide)
   (a:yN X e es:=by rfl) (g:Dv X es pos:=by rfl):PE X (.Call (.Name x p) (e::es) [] pos) (zU sp [] E t):=by
 obtain ⟨f,l,d,c,H,F⟩:=D
 exact xp F i b d c H .nil j h q a g
end
section
variable {K:aA} {st:Stmt} {f C:ak} {fd:FuncData}
abbrev Yv:aZ:=[.type "ValueError",.type "Exception",.type "BaseException",.type "object"]
def afS (K:aA) (C:ak) (q:Str) (st:Stmt):Prop:=∃ f fd,Vf K C f Yv "ValueError.__new__"/\sH K "__init__" q st .none f fd
end
open PySem.Builtin PySem.Builtin.ObjectAttr
end L2
namespace Ord
open Bit
def DA:∀ W,W<16->parts (rooms W)=(List.range 16).filter (λ o=>decide (o &&& W=o)):=by decide +kernel
structure K5 (n:Nat) (has:Nat->Bool) (wd:Nat->Int) (wt:Nat->Bool) (b:Nat) (most heap:Int) (o:Nat):Prop where
 has:∀ r∈rooms o,r<n/\has r=true
 dI:∀ r,r<n->wt r=true->o.testBit r=b.testBit r
 most:((rooms o).length:Int)<=most
 lK:((rooms o).map wd).sum<=heap
def setOf (n:Nat) (p:Nat->Bool):Nat:=sumOf ((List.range n).filter p)
def iR (n:Nat) (p:Nat->Bool) (k:Nat):(setOf n p).testBit k=(decide (k<n) && p k):=by
 unfold setOf
 rw [mM]
 by_cases h:k<n<;>cases e:p k<;>simp [h,e]
def Cn (n:Nat) (p:Nat->Bool):setOf n p<2 ^ n:=FM λ r h=>aaJ.mp (aa3.mp h).1
def Fs {n:Nat} (p:Nat->Bool) (H:n<=61):rooms (setOf n p)=(List.range n).filter p :=
 Ae (λ r h=>by have:=aaJ.mp (aa3.mp h).1;lia) ((adZ).filter _)
def KW {o k:Nat} (h:o<16) (H:4<=k):o.testBit k=false:=iY (m:=4) h H
structure Np (n:Nat) (has:Nat->Bool) (wd:Nat->Int) (wt:Nat->Bool) (b:Nat) (most heap:Int) (o:Nat):Prop where
 dI:o &&& setOf n wt=b &&& setOf n wt
 most:((rooms o).length:Int)<=most
 lK:((rooms (o &&& setOf n has)).map wd).sum<=heap
section
variable {n:Nat} {has:Nat->Bool} {wd:Nat->Int} {wt:Nat->Bool} {b:Nat} {most heap:Int} {o:Nat}
def DJ (c:o<2 ^ 61):o &&& setOf n has=o↔∀ r∈rooms o,r<n/\has r=true:=by
 constructor
 .
  intro e r d
  have H:=(f7.mp d).2
  rw [<- e,abp,iR] at H
  simp only [aaG,aa1] at H
  exact H.2
 .
  intro h
  refine aco λ k=>?_
  rw [abp,iR]
  by_cases b:k<61
  .
   cases e:o.testBit k with
   | false=>rfl
   | true =>
     obtain ⟨a,H⟩:=h k (f7.mpr ⟨b,e⟩)
     rw [aao a,H];rfl
  . rw [iY c (by lia)];rfl
def zZ:o &&& setOf n wt=b &&& setOf n wt↔∀ r,r<n->wt r=true->o.testBit r=b.testBit r:=by
 constructor
 .
  intro e r a c
  have h:=abo (λ x=>Nat.testBit x r) e
  simp only [abp,iR,aao a,c,Bool.and_true] at h
  exact h
 .
  intro h
  refine aco λ k=>?_
  rw [abp,abp,iR]
  by_cases H:k<n
  . cases e:wt k with
    | false=>simp
    | true=>rw [h k H e]
  . rw [aam H];simp
def Hq (c:o<2 ^ 61):K5 n has wd wt b most heap o↔(o &&& setOf n has=o/\Np n has wd wt b most heap o):=by
 constructor
 . rintro ⟨d,H,a,h⟩
   have e:=(DJ c).mpr d
   exact ⟨e,⟨zZ.mpr H,a,by rw [e];exact h⟩⟩
 . rintro ⟨e,H,a,h⟩
   rw [e] at h
   exact ⟨(DJ c).mp e,zZ.mp H,a,h⟩
end
end Ord
namespace L2
open PySem PySem.Spec PyProof.Rows Mth
variable {H:Hp}
section
variable {prog:bi} {w:aV} {A:Around} {E:av->Shared->Prop} {s:Shared}
def Gz {b n:Nat} (h:b<=n):Builtin.Slice.sliceAdjust none (some (b:Int)) 1 (n:Int)=(0,(b:Int)):=by
 unfold Builtin.Slice.sliceAdjust
 simp only [show ¬ ((1:Int)<0) by lia,show ¬ ((b:Int)<0) by lia,acg]
 congr 1;lia
def HS (b:Nat):Builtin.Slice.slicePlaces 0 (b:Int) 1=b:=by
 unfold Builtin.Slice.slicePlaces
 simp only [show (1:Int) > 0 by lia,acl,Int.ediv_one]
 split<;>lia
def GF {sl:ak} {b n:Nat} {u:Tok} {Q:Int×Int×Nat->Shared->Prop} (c:s.heap.IsSliceOf sl .none (.int b u) .none) (H:b<=n) (h:Q (0,1,b) s) :
   wpAny (model prog w) A (Builtin.Slice.sliceApplied (.ref sl) (pure (n:Int))) Q E s:=by
 obtain ⟨o,R,a,T⟩:=id c
 unfold Builtin.Slice.sliceApplied;unfold Builtin.Slice.sliceFields
 refine aaa (aaa (abD R T (x:=.none) rfl (aaa (abD R T (x:=.int b u) rfl (aaa (abD R T (x:=.none) rfl (aan (aaa (slicePart_none ?_)))))))))
 show wpAny _ _ (if ((1:Int) == 0)=true then _ else _) _ _ s
 rw [aaA (show ¬ (((1:Int) == 0)=true) by decide)]
 refine aaa (slicePart_none (aaa (slicePart_int (aaa (aan ?_)))))
 show wpAny _ _ (match Builtin.Slice.sliceAdjust none (some (b:Int)) 1 (n:Int) with|(lo,hi)=>pure (lo,(1:Int),Builtin.Slice.slicePlaces lo hi 1)) _ _ s
 rw [Gz H]
 show wpAny _ _ (pure ((0:Int),(1:Int),Builtin.Slice.slicePlaces 0 (b:Int) 1)) _ _ s
 rw [HS]
 exact aan h
def DZ (xs:Array av) (b:Nat) (h:b<=xs.size):((List.range b).filterMap λ (k:Nat)=>xs[((0:Int)+(k:Int) * 1).toNat]?).toArray=(xs.toList.take b).toArray:=by
 have e:(λ (k:Nat)=>xs[((0:Int)+(k:Int) * 1).toNat]?)=λ k=>xs[0+k]?:=by
   funext k
   rw [show ((0:Int)+(k:Int) * 1).toNat=0+k by lia]
 have q:=pick_run xs 0 b
 rw [List.filterMap_map] at q
 rw [e]
 refine abo List.toArray (Eq.trans ?_ (q.trans (by rw [List.drop_zero])))
 rfl
def Eh {t sl:ak} {i:Array av} {b:Nat} {u:Tok} {Q:av->Shared->Prop} (H:IsTup s.heap t i) (d:s.heap.IsSliceOf sl .none (.int b u) .none) (c:b<i.size) (h:Q (.ref s.heap.objs.size) { s with heap:=s.heap.push { cls:=.type "tuple",data:=.seq (i.toList.take b).toArray }}) (hsz:i.size<=sizeLine):wpAny (model prog w) A (getItem (.ref t) (.ref sl)) Q E s:=by
 have f:sizeOk (.seq (i.toList.take b).toArray):=by
   show (i.toList.take b).toArray.size<=sizeLine
   rw [aau,aaD,ab6];lia
 obtain ⟨o,R,a,e⟩:=id d
 have T:s.TypeIs (.ref sl) "slice":=⟨o,R,a⟩
 unfold getItem;try with_reducible refine abG ?_
 first|refine aaa (aan ?_)|skip
 refine aaa (wpAny_sequenceKey H.typeIs (by decide) (aaa (abS (name:=Str.ofString "__getitem__") H.typeIs slot_tuple_getitem (acy slot_tuple_getitem H.typeIs entry_tuple_getitem ?_ (args_tuple_getitem _ _)))))
 show wpAny _ _ (Builtin.Tuple.tupleItemsOf (.ref t) >>= _) _ _ s
 refine aaa (tupleItemsOf_ H (aaa (adJ T ?_)))
 rw [aaE (by decide)]
 refine aaa (GF d (abq c) ?_)
 have O:¬ (((0:Int) == 0 && (1:Int) == 1 && b == i.size)=true):=by
   rw [show (b == i.size)=false by rw [abj];lia];simp
 show wpAny _ _ (if ((0:Int) == 0 && (1:Int) == 1 && b == i.size)=true then _ else _) _ _ s
 rw [aaA O,DZ i b (abq c)]
 first
   | exact aaa (m:=Builtin.Tuple.tupleExact _) (abO (aan ⟨_,rfl,aan h⟩) f)
   | exact aaa (m:=Builtin.Tuple.tupleExact _) (abO (aaa (aan (aan ⟨_,rfl,aan h⟩))) f)
   | exact aaa (aaa (m:=Builtin.Tuple.tupleExact _) (abO (aan (aan ⟨_,rfl,aan h⟩)) f))
   | exact aaa (aaa (m:=Builtin.Tuple.tupleExact _) (abO (aan ⟨_,rfl,aan h⟩) f))
end
section
variable {X:Cx}
inductive Sj (K:aA) (x:V) (lo:Option Int) (hi:Option Int) (H:Hp) (Q:VK):Prop|mk (a xs:_) (i:Nat) (_:x = .ref a) (_:bR K H a xs) (_:lo=some (i:Int)) (_:hi=none) (_:1<=i) (_:i<=xs.length) (_:∀ p,H p=none->Q (.ref p) (upd H p (.tup (xs.drop i))))
def mV:Tg X (Sj X.K):=by
 intro p s U H x v V u L m sl Q I R e j k h
 obtain ⟨a,l,i,rfl,f,rfl,rfl,g,t,q⟩:=h
 cases R
 cases k
 cases j
 obtain ⟨B,r,d,n⟩:=I.tuple f
 have c:=r.length
 refine ⟨"tuple",_,slot_tuple_getitem.lookup,d.typeIs,getItem_tuple_from d e g (by rw [aau];lia) ?_ (by rw [aau];lia)⟩
 refine ⟨.ref s.heap.objs.size,_,I.laid (t':=s.toks) (o:=.tup (l.drop i)) (λ b O q=>aak _ q) (aaj _) ?_,rfl,q _ (I.cM.fresh (aaj _))⟩
 refine ⟨by rw [adu];lia,B.drop i,r.drop i,⟨_,aaQ _ rfl,rfl,_,rfl⟩⟩
inductive RX (K:aA) (x:V) (lo:Option Int) (hi:Option Int) (H:Hp) (Q:VK):Prop|mk (a xs:_) (j:Nat) (_:x = .ref a) (_:bR K H a xs) (_:lo=none) (_:hi=some (j:Int)) (_:j<xs.length) (_:∀ p,H p=none->Q (.ref p) (upd H p (.tup (xs.take j))))
def sW:Tg X (RX X.K):=by
 intro p s U H x v V n L l sl Q I R e g i h
 obtain ⟨a,k,j,rfl,f,rfl,rfl,J,q⟩:=h
 cases R
 cases i
 cases g
 obtain ⟨B,r,d,m⟩:=I.tuple f
 have c:=r.length
 refine ⟨"tuple",_,slot_tuple_getitem.lookup,d.typeIs,Eh d e (by rw [aau];lia) ?_ (by rw [aau];lia)⟩
 refine ⟨.ref s.heap.objs.size,_,I.laid (t':=s.toks) (o:=.tup (k.take j)) (λ b O q=>aak _ q) (aaj _) ?_,rfl,q _ (I.cM.fresh (aaj _))⟩
 refine ⟨by rw [aaD];lia,B.take j,r.take j,⟨_,aaQ _ rfl,rfl,_,rfl⟩⟩
end
structure cm where
 bN:bj
 bB:Nat
 cA:bj
 failed:bj
 heap:Nat
def gc (K:aA) (H:Hp) (p:ak) (s:cm):Prop :=
 ∃ a c b,bR K H p [.ref a,ao s.bB,.ref c,.ref b,ao s.heap]/\bR K H a (s.bN.map ao)/\bR K H c (s.cA.map ao)/\bR K H b (s.failed.map ao)
def gc.same {K:aA} {e:Hp} {p:ak} {s:cm} (h:gc K H p s) (q:aE H e):gc K e p s:=by
 obtain ⟨f,i,g,a,b,c,d⟩:=h
 exact ⟨f,i,g,q.tup a,q.tup b,q.tup c,q.tup d⟩
abbrev T7:=ci×Int×Int×Int
def ap.lB (m:ap) (i:Nat):Option T7:=(m.bq[i]?).getD none
def ap.has (m:ap) (i:Nat):Bool:=(m.lB i).isSome
def ap.wd (m:ap) (i:Nat):Int:=((m.lB i).map λ z=>z.2.1).getD 0
def ap.dI (m:ap) (i:Nat):Int:=((m.lB i).map λ z=>z.2.2.1).getD 0
def ap.fails (m:ap) (i:Nat):Int:=((m.lB i).map λ z=>z.2.2.2).getD 0
def mK {m:ap} {i:Nat} (h:i<m.bq.length):m.bq[i]?=some (m.lB i):=by
 unfold ap.lB
 rw [aJ h];rfl
def Ib:Option T7->Bool->Nat->Nat->Prop
 | none,f,w,b=>f=false/\w=0/\b=0
 | some z,f,w,b=>(w:Int)<=z.2.2.1/\(b:Int)<=z.2.2.2/\(b=0\/(f=false/\w=0))
def gN (l:bj) (i:Nat):Nat:=(l[i]?).getD 0
def NC {l:bj} {i:Nat} (h:i<l.length):l[i]?=some (gN l i):=by
 unfold gN
 rw [aJ h];rfl
def DO {l:bj} {i:Nat} (h:i<l.length):tT (l.map ao) (i:Int)=some (ao (gN l i)):=bZ (by rw [aab,NC h];rfl)
structure ff (m:ap) (s:cm):Prop where
 lb:s.bN.length=m.rows.length
 lw:s.cA.length=m.rows.length
 lf:s.failed.length=m.rows.length
 bB:s.bB<2 ^ m.rows.length
 most:((Bit.rooms s.bB).length:Int)<=m.most
 heap:(s.heap:Int)<=m.de
 band:∀ i,i<m.rows.length->gN s.bN i+1<(m.rows.getD i []).length
 bJ:∀ i,i<m.rows.length->Ib (m.lB i) (s.bB.testBit i) (gN s.cA i) (gN s.failed i)
def ap.ws (m:ap):Nat:=Ord.setOf m.rows.length m.has
def cm.wt (s:cm) (i:Nat):Bool:=decide (0<gN s.cA i)
def cm.held (s:cm):Nat:=Ord.setOf s.cA.length s.wt
def ap.lK (m:ap) (b:Nat):Int:=((Bit.rooms (b &&& m.ws)).map m.wd).sum
def ap.IT (m:ap) (o:Nat) (heap:Int):Bool:=decide (((Bit.rooms o).length:Int)<=m.most) && decide (m.lK o<=heap)
def cm.FH (m:ap) (s:cm) (o:Nat):Bool:=decide (o &&& s.held=s.bB &&& s.held) && m.IT o s.heap
def cm.orders (m:ap) (s:cm):bj:=(Bit.parts (Bit.rooms m.ws)).filter (s.FH m)
def ut {m:ap} (h:m.rows.length<=4):m.ws<16:=aax (Ord.Cn _ _) (aa7 (by decide) h:2 ^ m.rows.length<=2 ^ 4)
section
variable (K:aA) (C:ak)
inductive zM (vs:ay) (H:Hp) (Q:VK) (_E:XK):Prop|mk (n:Nat) (_:vs=[ao n]) (_:n<2 ^ 61) (_:∀ H',aE H H'->Q (ao (Bit.rooms n).length) H')
inductive Em (vs:ay) (H:Hp) (Q:VK) (_E:XK):Prop|mk (p l:_) (_:vs=[.ref p]) (_:bh K H p (l.map ao)) (_:(∀ r∈l,r<=1000)) (_:Q (ao (Bit.sumOf l)) H)
inductive zE (vs:ay) (H:Hp) (Q:VK) (_E:XK):Prop|mk (a fp m p s:_) (_:vs=[.ref a,.ref p]) (_:aN K C H a fp m) (_:gc K H p s) (_:ff m s) (_:∀ H',aE H H'->Q (.bl true) H')
inductive vQ (vs:ay) (H:Hp) (Q:VK) (_E:XK):Prop|mk (a fp m p s:_) (_:vs=[.ref a,.ref p]) (_:aN K C H a fp m) (_:gc K H p s) (_:ff m s) (_:∀ H',aE H H'->Q .cB H')
inductive vD (vs:ay) (H:Hp) (Q:VK) (_E:XK):Prop|mk (a fp m:_) (_:vs=[.ref a]) (_:aN K C H a fp m) (_:∀ H',aE H H'->Q (ao m.ws) H')
inductive BV (vs:ay) (H:Hp) (Q:VK) (_E:XK):Prop|mk (a fp m:_) (b:Nat) (_:vs=[.ref a,ao b]) (_:aN K C H a fp m) (_:∀ H',aE H H'->Q (.int (m.lK b)) H')
inductive wK (vs:ay) (H:Hp) (Q:VK) (_E:XK):Prop|mk (p s:_) (_:vs=[.ref p]) (_:gc K H p s) (_:s.cA.length<=4) (_:∀ H',aE H H'->Q (ao s.held) H')
inductive zh (vs:ay) (H:Hp) (Q:VK) (_E:XK):Prop|mk (a fp m:_) (o:Nat) (hp:Int) (_:vs=[.ref a,ao o,.int hp]) (_:aN K C H a fp m) (_:o<2 ^ 61) (_:∀ H',aE H H'->Q (.bl (m.IT o hp)) H')
inductive yy (vs:ay) (H:Hp) (Q:VK) (_E:XK):Prop|mk (a fp m p s:_) (_:vs=[.ref a,.ref p]) (_:aN K C H a fp m) (_:gc K H p s) (_:ff m s) (_:∀ q H',H q=none->aE H H'->H' q=some (.lst ((s.orders m).map ao))->Q (.ref q) H')
end
def Dn.bJ {K:aA} {v:V} {z:T7} (h:Dn K H (iB (some z)) v):∃ p v1,v = .ref p/\bR K H p [v1,.int z.2.1,.int z.2.2.1,.int z.2.2.2]/\Dn K H (eX z.1) v1:=by
 obtain ⟨p,x,rfl,d,t,R,rfl,c,T,i,rfl,e,f,j,rfl,E,g,r,rfl,a,b⟩:=h
 have b:r=[]:=b
 have e:T = .int z.2.1:=e
 have E:f = .int z.2.2.1:=E
 have a:g = .int z.2.2.2:=a
 subst e E a b
 exact ⟨p,t,rfl,d,c⟩
def Bs {l:bj} {x j:Nat} (h:j<l.length):gN (l++[x]) j=gN l j:=by
 unfold gN
 rw [aal h]
def L3 {l:bj} {x:Nat}:gN (l++[x]) l.length=x:=by
 unfold gN
 rw [aaS (aaj _),Nat.sub_self];rfl
end L2
namespace Ord
open Bit
def QJ:∀ x,x<16->∀ y,y<16->x - (x &&& y)=x ^^^ (x &&& y):=by decide +kernel
def off (x y:Nat):Nat:=x - (x &&& y)
def xD {x y:Nat} (h:x<16) (H:y<16) (k:Nat):(off x y).testBit k=(x.testBit k && !y.testBit k):=by
 unfold off
 rw [QJ x h y H,Nat.testBit_xor,abp]
 cases x.testBit k<;>cases y.testBit k<;>rfl
def Ng {x y n:Nat} (h:x<2 ^ n):off x y<2 ^ n:=aav (Nat.sub_le _ _) h
def LF {n x:Nat} (H:n<=4) (h:x<2 ^ n):x<16:=aax h (aa7 (by decide) H:2 ^ n<=2 ^ 4)
theorem less {w:Nat->Int} (h0:∀ r,0<=w r) {p q:Nat->Bool} (h:∀ x,p x=true->q x=true):∀ l:bj,(l.filter p).length<=(l.filter q).length/\((l.filter p).map w).sum<=((l.filter q).map w).sum
 | []=>⟨aaj _,abV _⟩
 | x::l=>by
   obtain ⟨a,b⟩:=less h0 h l
   have:=h0 x
   by_cases H:p x=true
   . rw [acP H,acP (h x H)]
     simp only [aaW,aaP,List.sum_cons]
     lia
   .
    by_cases c:q x=true
    . rw [acQ H,acP c]
      simp only [aaW,aaP,List.sum_cons]
      lia
    . rw [acQ H,acQ c]
      exact ⟨a,b⟩
def Ck {w:Nat->Int} (h0:∀ r,0<=w r) {a b:Nat} (h:∀ x,a.testBit x=true->b.testBit x=true):(rooms a).length<=(rooms b).length/\((rooms a).map w).sum<=((rooms b).map w).sum:=less h0 h _
structure Hd where
 n:Nat
 has:Nat->Bool
 wd:Nat->Int
 wt:Nat->Bool
 b:Nat
 most:Int
 heap:Int
def Hd.ws (h:Hd):Nat:=setOf h.n h.has
def Hd.held (h:Hd):Nat:=setOf h.n h.wt
def Hd.lK (h:Hd) (o:Nat):Int:=((rooms (o &&& h.ws)).map h.wd).sum
def Hd.IT (h:Hd) (o:Nat):Bool:=decide (((rooms o).length:Int)<=h.most) && decide (h.lK o<=h.heap)
def Hd.step (h:Hd) (o r:Nat):Nat:=if h.IT (o ||| 2 ^ r) then o ||| 2 ^ r else o
def Hd.first (h:Hd):Nat:=h.b &&& h.held
def Hd.go (h:Hd) (n:Nat):Nat:=(rooms (off (n &&& h.ws) h.held)).foldl h.step h.first
def Hd.may (h:Hd) (n r:Nat):Bool:=n.testBit r && h.has r && !h.wt r
structure Hd.Ok (h:Hd):Prop where
 n4:h.n<=4
 bB:h.b<2 ^ h.n
 sub:∀ r,h.b.testBit r=true->h.has r=true
 most:((rooms h.b).length:Int)<=h.most
 wd0:∀ r,0<=h.wd r
section
variable {h:Hd} {i r o:Nat}
structure Hd.In (h:Hd) (i o:Nat):Prop where
 sub:∀ r,o.testBit r=true->r<h.n/\h.has r=true
 held:∀ r,r<h.n->h.wt r=true->o.testBit r=h.b.testBit r
 agI:∀ r,i<=r->h.wt r=false->o.testBit r=false
def Hd.Law (h:Hd) (o:Nat):Prop:=K5 h.n h.has h.wd h.wt h.b h.most h.heap o
end
end Ord
namespace L2
open PySem PySem.Spec PyProof.Rows Mth
variable {D:L2.Ends} {H:Hp} {IS a2 a3 a4 a5 a6 a7 a8 a9:TS}
def ox (x y:Nat):Builtin.bitAnd (x:Int) (Builtin.bitNot (y:Int))=((Ord.off x y:Nat):Int):=by
 have e:Builtin.bitNot (Builtin.bitNot (y:Int))=(y:Int):=by unfold Builtin.bitNot;lia
 have n:¬ (0:Int)<=Builtin.bitNot (y:Int):=by unfold Builtin.bitNot;lia
 have p:(0:Int)<=(x:Int):=aa6 _
 unfold Builtin.bitAnd
 rw [aao p,aam n]
 show (x:Int) - _=_
 rw [e,abf,abf]
 have:=Nat.and_le_left (n:=x) (m:=y)
 unfold Ord.off
 lia
def RC (m:ap) (s:cm):Ord.Hd:=⟨m.rows.length,m.has,m.wd,s.wt,s.bB,m.most,s.heap⟩
def cm.may (m:ap) (s:cm) (o:Nat):Nat:=Ord.setOf m.rows.length λ r=>o.testBit r && !s.bB.testBit r && decide ((gN s.failed r:Int)<m.fails r)
def cm.jh (m:ap) (s:cm) (b i:Nat):Nat:=if s.bB.testBit i=b.testBit i then gN s.cA i - 1 else (m.dI i).toNat
def cm.jS (s:cm) (b o i:Nat):Nat:=if o.testBit i then gN s.failed i+1 else if b.testBit i then 0 else gN s.failed i
def cm.kO (m:ap) (s:cm) (b:Nat):Int:=min m.de ((s.heap:Int) - m.lK b+m.load)
def cm.behind (m:ap) (s:cm) (bN:bj) (o O:Nat):cm :=
 ⟨bN,Ord.off o O,(List.range m.rows.length).map (s.jh m (Ord.off o O)),(List.range m.rows.length).map (s.jS (Ord.off o O) O),(s.kO m (Ord.off o O)).toNat⟩
section
variable (K:aA) (C:ak)
inductive AX (vs:ay) (H:Hp) (Q:VK) (_E:XK):Prop|mk (a fp m p s:_) (o:Nat) (_:vs=[.ref a,.ref p,ao o]) (_:aN K C H a fp m) (_:gc K H p s) (_:ff m s) (_:o &&& m.ws=o) (_:∀ H',aE H H'->Q (ao (s.may m o)) H')
inductive uz (vs:ay) (H:Hp) (Q:VK) (_E:XK):Prop|mk (a fp m p s:_) (b i:Nat) (_:vs=[.ref a,.ref p,ao b,ao i]) (_:aN K C H a fp m) (_:gc K H p s) (_:ff m s) (_:i<m.rows.length) (_:(s.bB.testBit i≠b.testBit i->m.has i=true)) (_:0<=m.dI i) (_:Q (ao (s.jh m b i)) H)
inductive qj (vs:ay) (H:Hp) (Q:VK) (_E:XK):Prop|mk (p s:_) (b out i:Nat) (_:vs=[.ref p,ao b,ao out,ao i]) (_:gc K H p s) (_:i<s.failed.length) (_:Q (ao (s.jS b out i)) H)
inductive EV (vs:ay) (H:Hp) (Q:VK) (_E:XK):Prop|mk (a fp m p s:_) (o out:Nat) (_:vs=[.ref a,.ref p,ao o,ao out]) (_:aN K C H a fp m) (_:gc K H p s) (_:ff m s) (_:(∀ i,s.bB.testBit i≠(Ord.off o out).testBit i->m.has i=true)) (_:(∀ i,0<=m.dI i)) (_:0<=s.kO m (Ord.off o out)) (_:∀ q pw pf H',aE H H'->H' q=some (.tup [ao (Ord.off o out),.ref pw,.ref pf,ao (s.kO m (Ord.off o out)).toNat])->H' pw=some (.tup (((List.range m.rows.length).map (s.jh m (Ord.off o out))).map ao))->H' pf=some (.tup (((List.range m.rows.length).map (s.jS (Ord.off o out) out)).map ao))->Q (.ref q) H')
end
def Nw {m:ap} {s:cm} {o:Nat} (b:m.rows.length<=4) (ok:ff m s) (c:o &&& m.ws=o) :
   Bit.sumOf ((Bit.rooms (Ord.off o s.bB)).filter λ r=>decide ((gN s.failed r:Int)<m.fails r))=s.may m o:=by
 have F:o<16:=by rw [<- c];exact aav acV (ut b)
 have V:s.bB<16:=Ord.LF b ok.bB
 have M:o<2 ^ m.rows.length:=by rw [<- c];exact aav acV (Ord.Cn _ _)
 refine aco λ k=>?_
 rw [Bit.mM,cm.may,Ord.iR]
 rw [abI,aa1,aa3,Bit.f7,Ord.xD F V]
 simp only [aaG,aa1]
 constructor
 .
  rintro ⟨⟨Z,h,H⟩,a⟩
  refine ⟨?_,⟨h,H⟩,a⟩
  by_cases q:k<m.rows.length
  . exact q
  . rw [Bit.iY M (by lia)] at h;cases h
 . rintro ⟨d,⟨h,H⟩,a⟩
   exact ⟨⟨by lia,h,H⟩,a⟩
def EX {m:ap} {o r:Nat} (H:o &&& m.ws=o) (h:o.testBit r=true):r<m.rows.length/\m.has r=true:=by
 rw [<- H,abp,ap.ws,Ord.iR] at h
 simp only [aaG,aa1] at h
 exact h.2
def ve {m:ap} {r:Nat} (h:m.has r=true):∃ z,m.lB r=some z:=ab7.mp h
def yS {f:Nat->Nat} {n i:Nat} (h:i<n):gN ((List.range n).map f) i=f i:=by
 unfold gN
 rw [aab,acw h];rfl
structure cu (m:ap) (s:cm) (o out:Nat):Prop where
 h4:m.rows.length<=4
 ok:ff m s
 Ux:(RC m s).Law o
 FE:o<16
 PQ:out<16
 sub:∀ r,out.testBit r=true->o.testBit r=true/\s.bB.testBit r=false/\(gN s.failed r:Int)<m.fails r
 wd0:∀ r,0<=m.wd r
 Lr:∀ r,0<=m.dI r
 Wv:0<=m.de
 QX:0<=m.load
section
variable {m:ap} {s:cm} {o out r:Nat}
def cu.bit (t:cu m s o out) (r:Nat):(Ord.off o out).testBit r=(o.testBit r && !out.testBit r):=Ord.xD t.FE t.PQ r
def cu.Nu (t:cu m s o out) (h:o.testBit r=true):r<m.rows.length/\m.has r=true:=by
 have H:r<61:=by
   by_cases q:r<61
   . exact q
   . rw [Ord.KW t.FE (by lia)] at h;cases h
 exact t.Ux.has r (Bit.f7.mpr ⟨H,h⟩)
def cu.OL (t:cu m s o out) (h:(Ord.off o out).testBit r=true):o.testBit r=true/\out.testBit r=false:=by
 rw [t.bit] at h
 simp only [aaG,acN] at h
 exact h
theorem cu.has (t:cu m s o out) (h:s.bB.testBit r≠(Ord.off o out).testBit r):m.has r=true:=by
 cases a:(Ord.off o out).testBit r with
 | true=>exact (t.Nu (t.OL a).1).2
 | false =>
   rw [a] at h
   have H:s.bB.testBit r=true:=by cases q:s.bB.testBit r with|true=>rfl|false=>exact absurd q h
   have b:r<m.rows.length:=by
     by_cases q:r<m.rows.length
     . exact q
     . rw [Bit.iY t.ok.bB (by lia)] at H;cases H
   have:=t.ok.bJ r b
   unfold ap.has
   cases e:m.lB r with
   | some z=>rfl
   | none=>rw [e] at this;rw [this.1] at H;cases H
def cu.lit (t:cu m s o out) (h:out.testBit r=true):gN s.cA r=0/\(Ord.off o out).testBit r=false:=by
 obtain ⟨H,a,d⟩:=t.sub r h
 have b:=(t.Nu H).1
 constructor
 .
  by_cases w:gN s.cA r=0
  . exact w
  . have c:s.wt r=true:=aao (by lia)
    have e:o.testBit r=s.bB.testBit r:=t.Ux.dI r b c
    rw [H,a] at e;cases e
 . rw [t.bit,h];simp
def cu.fits (t:cu m s o out) (g:r<m.rows.length):Ib (m.lB r) ((Ord.off o out).testBit r) (s.jh m (Ord.off o out) r) (s.jS (Ord.off o out) out r):=by
 have O:=t.ok.bJ r g
 have V:=t.Lr r
 cases e:m.lB r with
 | none =>
   rw [e] at O
   obtain ⟨b,c,a⟩:=O
   have n:m.has r=false:=by unfold ap.has;rw [e];rfl
   have H:(Ord.off o out).testBit r=false:=by
     cases q:(Ord.off o out).testBit r with
     | false=>rfl
     | true=>rw [(t.Nu (t.OL q).1).2] at n;cases n
   have h:out.testBit r=false:=by
     cases q:out.testBit r with
     | false=>rfl
     | true=>rw [(t.Nu (t.sub r q).1).2] at n;cases n
   refine ⟨H,?_,?_⟩
   . unfold cm.jh
     rw [b,H,aaE rfl,c]
   . unfold cm.jS
     rw [h,H,a];rfl
 | some z =>
   rw [e] at O
   obtain ⟨b,c,a⟩:=O
   have f:m.dI r=z.2.2.1:=by unfold ap.dI;rw [e];rfl
   have d:m.fails r=z.2.2.2:=by unfold ap.fails;rw [e];rfl
   refine ⟨?_,?_,?_⟩
   . unfold cm.jh
     split
     . lia
     . rw [ab5 V,f];exact abV _
   .
    unfold cm.jS
    split
    . rename_i h
      have:=(t.sub r h).2.2
      rw [d] at this
      lia
    . split<;>lia
   .
    cases h:out.testBit r with
    | true =>
      obtain ⟨L,l⟩:=t.lit h
      refine .inr ⟨l,?_⟩
      unfold cm.jh
      rw [l,(t.sub r h).2.1,aaE rfl,L]
    | false =>
      cases H:(Ord.off o out).testBit r with
      | true=>exact .inl (by unfold cm.jS;rw [h,H];rfl)
      | false =>
        have E:s.jS (Ord.off o out) out r=gN s.failed r:=by unfold cm.jS;rw [h,H];rfl
        rw [E]
        rcases a with q|⟨Q,i⟩
        . exact .inl q
        . refine .inr ⟨rfl,?_⟩
          unfold cm.jh
          rw [Q,H,aaE rfl,i]
def cu.less (t:cu m s o out):(Bit.rooms (Ord.off o out)).length<=(Bit.rooms o).length/\((Bit.rooms (Ord.off o out)).map m.wd).sum<=((Bit.rooms o).map m.wd).sum :=
 Ord.Ck t.wd0 λ Z h=>(t.OL h).1
def cu.and (t:cu m s o out):Ord.off o out &&& m.ws=Ord.off o out:=by
 refine aco λ k=>?_
 rw [abp,ap.ws,Ord.iR]
 cases e:(Ord.off o out).testBit k with
 | false=>rfl
 | true =>
   obtain ⟨a,b⟩:=t.Nu (t.OL e).1
   rw [aao a,b];rfl
theorem cu.lK (t:cu m s o out):m.lK (Ord.off o out)=((Bit.rooms (Ord.off o out)).map m.wd).sum:=by
 unfold ap.lK
 rw [t.and]
def cu.KD (t:cu m s o out):((Bit.rooms (Ord.off o out)).map m.wd).sum<=(s.heap:Int):=by
 have:=t.less.2
 have q:((Bit.rooms o).map m.wd).sum<=(s.heap:Int):=t.Ux.lK
 lia
def cu.LN (t:cu m s o out):0<=s.kO m (Ord.off o out):=by
 have:=t.KD
 have:=t.Wv
 have:=t.QX
 unfold cm.kO
 rw [t.lK]
 lia
def cu.lt (t:cu m s o out):Ord.off o out<2 ^ m.rows.length:=acF _ λ k h=>by
 cases e:(Ord.off o out).testBit k with
 | false=>rfl
 | true=>have:=(t.Nu (t.OL e).1).1;lia
def cu.next (t:cu m s o out) {bN:bj} (l:bN.length=m.rows.length) (c:∀ i,i<m.rows.length->gN bN i+1<(m.rows.getD i []).length):ff m (s.behind m bN o out):=by
 have H:=t.LN
 refine ⟨l,by simp [cm.behind],by simp [cm.behind],t.lt,?_,?_,c,λ i h=>?_⟩
 .
  have a:=t.less.1
  have b:((Bit.rooms o).length:Int)<=m.most:=t.Ux.most
  show ((Bit.rooms (Ord.off o out)).length:Int)<=m.most
  lia
 .
  show (((s.kO m (Ord.off o out)).toNat:Nat):Int)<=m.de
  rw [ab5 H]
  unfold cm.kO
  lia
 . show Ib (m.lB i) ((Ord.off o out).testBit i) (gN ((List.range m.rows.length).map (s.jh m (Ord.off o out))) i) (gN ((List.range m.rows.length).map (s.jS (Ord.off o out) out)) i)
   rw [yS h,yS h]
   exact t.fits h
end
abbrev Pr:=ci×ci
def f6 (D:List Pr):Int×Int:=D.foldl (λ s d=>(s.1 * (d.1.2 * d.2.2)+d.1.1 * d.2.1 * s.2,s.2 * (d.1.2 * d.2.2))) (0,1)
def u9 (D:List Pr) (d:Pr):f6 (D++[d])=((f6 D).1 * (d.1.2 * d.2.2)+d.1.1 * d.2.1 * (f6 D).2,(f6 D).2 * (d.1.2 * d.2.2)):=by
 unfold f6
 rw [abA];rfl
structure Aw (n k:Nat) (d:Pr):Prop where
 a:fK n d.1
 b:fK k d.2
theorem xB (D:List Pr) (h:∀ d∈D,Aw 900 900 d):∀ j,j<=D.length->Bd (1802 * j+2) (f6 (D.take j)).1/\Bd (1800 * j+1) (f6 (D.take j)).2/\0<(f6 (D.take j)).2
 | 0,_=>⟨by show Int.natAbs 0<_;decide,by show Int.natAbs 1<_;decide,by show (0:Int)<1;decide⟩
 | j+1,f=>by
   obtain ⟨a,b,c⟩:=xB D h j (by lia)
   have H:=h D[j] (aay (by lia))
   have E:D.take (j+1)=D.take j++[D[j]]:=by rw [acG,aJ (by lia)];rfl
   rw [E,u9]
   generalize D[j]=d at H
   generalize f6 (D.take j)=s at a b c
   have B:Bd 1800 (d.1.2 * d.2.2):=(H.a.b.mul H.b.b).mono (by decide)
   have e:Bd 1800 (d.1.1 * d.2.1):=(H.a.t.mul H.b.t).mono (by decide)
   refine ⟨?_,(b.mul B).mono (by lia),abw c (abw H.a.p H.b.p)⟩
   have x:Bd (1802 * j+2+1800) (s.1 * (d.1.2 * d.2.2)):=a.mul B
   have X:Bd (1802 * j+2+1800) (d.1.1 * d.2.1 * s.2):=(e.mul b).mono (by lia)
   exact (x.add X).mono (by lia)
def Ks {D:List Pr} (h:∀ d∈D,Aw 900 900 d):0<(f6 D).2:=by
 have:=(xB D h D.length (aaj _)).2.2
 rw [aaC] at this
 exact this
theorem tp {n:Nat}:∀ (es D:List Pr) {k:Nat},(∀ d∈es,Bd n (d.1.2 * d.2.2))->Bd k (f6 D).2->Bd (k+n * es.length) (f6 (D++es)).2
 | [],D,k,_,h=>by rw [aa9];exact h.mono (by lia)
 | e::es,D,k,H,h=>by
   have E:D++e::es=(D++[e])++es:=by rw [acf];rfl
   rw [E]
   have a:Bd (k+n) (f6 (D++[e])).2:=by
     rw [u9]
     exact h.mul (H e aas)
   have:=tp es (D++[e]) (λ d b=>H d (aai _ b)) a
   refine this.mono ?_
   rw [aaW,Nat.mul_succ]
   lia
abbrev GX (d:Pr):PyData:=.tuple [eX d.1,eX d.2]
def tz (d:Pr):fN (GX d)=true:=by simp [GX,eX,fN]
def tY (D:List Pr):∀ e∈D.map GX,fN e=true:=λ e h=>by
 obtain ⟨d,Z,rfl⟩:=aaH.mp h
 exact tz d
inductive L6 (K:aA) (vs:ay) (H:Hp) (Q:VK) (_E:XK):Prop|mk (p xs ds:_) (_:vs=[.ref p]) (_:bh K H p xs) (_:bC K H (ds.map GX) xs) (_:(∀ d∈ds,Aw 900 900 d)) (_:ds.length<=10) (_:Bd 4000 (f6 ds).2) (_:∀ q H',aE H H'->H' q=some (.tup [.int (nf (f6 ds).1 (f6 ds).2).1,.int (nf (f6 ds).1 (f6 ds).2).2])->Q (.ref q) H')
def fF (m:ap) (i:Nat) (e:List ci):List Pr:=(List.range e.length).map λ j=>(m.share i j,e.getD j (0,1))
def iL (m:ap) (i:Nat) (e:List ci) (w:ci) (fired:Bool):List Pr:=fF m i e++[(m.eU i,w)]++(if fired then [((1,1),((m.bq[i]?).getD none).map (·.1) |>.getD (0,1))] else [])
def oR (m:ap) (i:Nat) (e:List ci) (w:ci) (fired:Bool):ci:=nf (f6 (iL m i e w fired)).1 (f6 (iL m i e w fired)).2
inductive Fa (K:aA) (C:ak) (vs:ay) (H:Hp) (Q:VK) (_E:XK):Prop|mk (a fp m:_) (i:Nat) (pa Pb eG wv w fired:_) (_:vs=[.ref a,ao i,.ref pa,wv,.bl fired]) (_:aN K C H a fp m) (_:i<m.rows.length) (_:bh K H pa Pb) (_:bC K H (eG.map eX) Pb) (_:eG.length=m.rows.length) (_:(∀ f∈eG,fK 120 f)) (_:Dn K H (eX w) wv) (_:fK 120 w) (_:(fired=true->∃ z,m.bq[i]?=some (some z))) (_:∀ q H',aE H H'->H' q=some (.tup [.int (oR m i eG w fired).1,.int (oR m i eG w fired).2])->Q (.ref q) H')
def Gr {m:ap} (w:m.Wf) (h:m.rows.length<=4) (i j:Nat):fK 605 (m.share i j):=by
 unfold ap.share
 split
 . exact (w.gn i _).mono (by lia)
 . exact (w.fe i j).mono (by decide)
def rP {m:ap} {i:Nat} {e:List ci} {w:ci} {fired:Bool} (W:m.Wf) (o:m.rows.length<=4) (L:e.length=m.rows.length) (p:∀ f∈e,fK 120 f) (hw:fK 120 w) (q:fired=true->∃ z,m.bq[i]?=some (some z)) :
   (∀ d∈iL m i e w fired,Aw 900 900 d)/\(iL m i e w fired).length<=10/\Bd 4000 (f6 (iL m i e w fired)).2:=by
 have r:∀ d∈fF m i e,Aw 605 120 d:=λ d H=>by
   obtain ⟨j,c,rfl⟩:=aaH.mp H
   have c:=aaJ.mp c
   refine ⟨Gr W o i j,?_⟩
   show fK 120 (e.getD j (0,1))
   rw [UE,aJ c]
   exact p _ (aay c)
 have t:(fF m i e).length<=4:=by unfold fF;rw [OG,aaq];lia
 have s:Aw 100 120 (m.eU i,w):=⟨W.eU i,hw⟩
 have l:Bd 1 (f6 []).2:=by show Int.natAbs 1<2 ^ 1;decide
 have g:Bd (1+725 * (fF m i e).length) (f6 (fF m i e)).2:=tp (n:=725) (fF m i e) [] (λ d H=>(r d H).a.b.mul (r d H).b.b) l
 have B:Bd (2901+220 * 1) (f6 (fF m i e++[(m.eU i,w)])).2:=tp (n:=220) [(m.eU i,w)] (fF m i e) (λ d H=>by rw [aae.mp H];exact s.a.b.mul s.b.b) (g.mono (by lia))
 unfold iL
 cases fired with
 | false =>
   rw [aaA aaB,aa9]
   refine ⟨λ d H=>?_,by rw [aac];simp only [aaW,ac3];lia,B.mono (by decide)⟩
   rcases aar.mp H with h|h
   . exact ⟨(r d h).a.mono (by decide),(r d h).b.mono (by decide)⟩
   . rw [aae.mp h];exact ⟨s.a.mono (by decide),s.b.mono (by decide)⟩
 | true =>
   obtain ⟨z,E⟩:=q rfl
   rw [aaE rfl,E]
   have O:fK 100 z.1:=W.bq z (aag E)
   have S:Aw 2 100 (((1,1),z.1):Pr):=⟨⟨by show Int.natAbs 1<2 ^ 2;decide,by show Int.natAbs 1<2 ^ 2;decide,by show (0:Int)<1;decide⟩,O⟩
   have k:Bd (3121+102 * 1) (f6 ((fF m i e++[(m.eU i,w)])++[((1,1),z.1)])).2:=tp (n:=102) [((1,1),z.1)] _ (λ d H=>by rw [aae.mp H];exact S.a.b.mul S.b.b) B
   refine ⟨λ d H=>?_,by rw [aac,aac];simp only [aaW,ac3];lia,k.mono (by decide)⟩
   rcases aar.mp H with h|h
   . rcases aar.mp h with h|h
     . exact ⟨(r d h).a.mono (by decide),(r d h).b.mono (by decide)⟩
     . rw [aae.mp h];exact ⟨s.a.mono (by decide),s.b.mono (by decide)⟩
   . rw [aae.mp h];exact ⟨S.a.mono (by decide),S.b.mono (by decide)⟩
def MP (f:Nat->Int):Nat->Int
 | 0=>0
 | t+1=>MP f t+f t
def bH.skT (t:bH) (i:Nat):Int:=((t.tE[i]?).map (·.1)).getD 0
def bH.Z9 (t:bH) (i j:Nat):Int:=if i=j then 0 else (t.dP i j).getD 0
section
variable {X:Cx}
def Wo (K:aA) (t:TA):TI:=λ U H R=>t U H λ v h=>∃ a,v=[.ref a]/\(((∃ x,bh K h a x)/\R (FC (bh K) a) h)\/((∃ x,bR K h a x)/\R (FC (bR K) a) h))
def FX {a:Expr} {t:TA} {p g y:Pos} {E:List Expr} {G:Nat} (v:Gl X "enumerate") (w:X.mg "enumerate" = none) (u:PA X [a] t) (x:starEach [a] X.env=[(false,eval a X.env)]:=by rfl) :
   PI X (.Tuple E G y) (.Call (.Name "enumerate" p) [a] [] g) (Wo X.K t):=by
 intro f s U H R I h
 refine Call_ ?_
 refine io I v w kE ?_ M7 NA
 refine aaY ?_ x rfl
 refine cR (u g f s U H _ I h) λ L S ⟨V,n,i,A,Q⟩=>?_
 obtain ⟨a,e,q⟩:=Q
 subst e
 cases A with
 | cons r C =>
   cases C
   obtain rfl:_=Value.ref a:=r
   have F:∀ c∈[S.heap.objs.size+1,S.heap.objs.size],S.heap.objs.size<=c:=λ c b=>by
     simp only [aad,aaf,aaX] at b
     rcases b with rfl|rfl
     . exact ace _
     . exact aaj _
   rcases q with ⟨⟨J,j⟩,q⟩|⟨⟨J,j⟩,q⟩
   . obtain ⟨B,D,d,M⟩:=i.list j
     have l:a<S.heap.objs.size:=by obtain ⟨Z,e,Z⟩:=d.isList;exact aat e
     refine call_enumerate_list d.isList λ o z m N k=>ab4 z ?_
     exact ⟨S.heap.objs.size+1,[S.heap.objs.size+1,S.heap.objs.size],_,_,n,rfl,i.kept (t':=S.toks) k,Av (acU _) (aaL (acL l)) (aaL l),⟨⟨_,z⟩,m⟩,λ c b=>i.AG (F c b) (i.cM.fresh (F c b)),q⟩
   . obtain ⟨B,D,d,M⟩:=i.tuple j
     have l:a<S.heap.objs.size:=d.lt
     refine uI d λ o z m k=>ab4 z ?_
     exact ⟨S.heap.objs.size+1,[S.heap.objs.size+1,S.heap.objs.size],_,_,n,rfl,i.kept (t':=S.toks) k,Ay (acU _) (aaL (acL l)) (aaL l),⟨⟨_,z⟩,m⟩,λ c b=>i.AG (F c b) (i.cM.fresh (F c b)),q⟩
end
def gD (m:ap) (bs:bj) (d:Nat):List ci:=(List.range bs.length).map λ j=>(m.rows.getD j []).getD (bs.getD j 0+d) (0,1)
def nF (m:ap) (i:Nat):ci×ci×ci:=(m.bD[i]?).getD ((0,1),(0,1),(0,1))
def lF (m:ap) (i:Nat) (bs:bj) (fired:Bool):ci:=oR m i (gD m bs 0) (nF m i).2.1 fired
def lu (m:ap) (i:Nat) (bs:bj) (fired:Bool):ci:=oR m i (gD m bs 1) (nF m i).2.2 fired
inductive Jp (K:aA) (C:ak) (vs:ay) (H:Hp) (Q:VK) (_E:XK):Prop|mk (a fp m:_) (i:Nat) (pb bs fired:_) (_:vs=[.ref a,ao i,.ref pb,.bl fired]) (_:aN K C H a fp m) (_:i<m.rows.length) (_:(bh K H pb (bs.map ao)\/bR K H pb (bs.map ao))) (_:bs.length=m.rows.length) (_:(∀ j,j<m.rows.length->bs.getD j 0+1<(m.rows.getD j []).length)) (_:(fired=true->∃ z,m.bq[i]?=some (some z))) (_:∀ q q1 q2 H',aE H H'->H' q=some (.tup [.ref q1,.ref q2])->H' q1=some (.tup [.int (lF m i bs fired).1,.int (lF m i bs fired).2])->H' q2=some (.tup [.int (lu m i bs fired).1,.int (lu m i bs fired).2])->Q (.ref q) H')
def o4 {m:ap} {bs:bj} (w:m.Wf) (L:bs.length=m.rows.length) (a:∀ j,j<m.rows.length->bs.getD j 0+1<(m.rows.getD j []).length) {d:Nat} (c:d<=1):∀ f∈gD m bs d,fK 120 f:=λ f b=>by
 obtain ⟨j,h,rfl⟩:=aaH.mp b
 have h:=aaJ.mp h
 have q:=a j (by lia)
 have H:j<m.rows.length:=by lia
 rw [UE (l:=m.rows),aJ H] at q |-
 have q:bs.getD j 0+1<m.rows[j].length:=q
 show fK 120 (m.rows[j].getD (bs.getD j 0+d) (0,1))
 rw [UE,aJ (by lia)]
 exact (w.rows m.rows[j] (aay H) _ (aay _)).mono (by decide)
def bH.kT (t:bH) (n i j:Nat):Int:=if j=i then 12 - t.skT i - MP (t.Z9 i) n else t.Z9 i j
def bH.X (t:bH) (n i:Nat) (x:Nat->Int) (a:Int):Int:=MP (λ j=>t.kT n i j * x j) n+t.skT i * a
def bH.Wz (t:bH) (j b:Nat):Int:=(t.marks.getD j []).getD b 0
def bH.xl (t:bH) (bs:bj) (d j:Nat):Int:=t.Wz j (bs.getD j 0+d)
def bH.RG (t:bH) (i:Nat):Int×Int×Int:=(t.tE[i]?).getD (0,0,0)
def bH.VL (t:bH) (i:Nat):Int:=(((t.bq[i]?).getD none).map (·.1)).getD 0
def bH.sX (t:bH) (n i:Nat) (bs:bj) (d:Nat) (x:Int) (fired:Bool):Int:=t.X n i (t.xl bs d) x+(if fired then 12 * t.VL i else 0)
def cV {a:TS} {U:L2.St} (h:let d:L2.Ends:=D;let z:L2.St:=U;let R:TS:=a3;let r:TS:=aY a2 R;aY a r d z H):(aY a (aY a2 (a3))) D U H:=h
def eB {a:TS} {U:L2.St} (h:let d:L2.Ends:=D;let z:L2.St:=U;let b:TS:=a4;let R:TS:=aY a3 b;let r:TS:=aY a2 R;aY a r d z H):(aY a (aY a2 (aY a3 (a4)))) D U H:=h
def As {a:TS} {U:L2.St} (h:let d:L2.Ends:=D;let z:L2.St:=U;let c:TS:=a5;let b:TS:=aY a4 c;let R:TS:=aY a3 b;let r:TS:=aY a2 R;aY a r d z H):(aY a (aY a2 (aY a3 (aY a4 (a5))))) D U H:=h
def pY {a:TS} {U:L2.St} (h:let d:L2.Ends:=D;let z:L2.St:=U;let e:TS:=a6;let c:TS:=aY a5 e;let b:TS:=aY a4 c;let R:TS:=aY a3 b;let r:TS:=aY a2 R;aY a r d z H):(aY a (aY a2 (aY a3 (aY a4 (aY a5 (a6)))))) D U H:=h
def yT {a:TS} {U:L2.St} (h:let d:L2.Ends:=D;let z:L2.St:=U;let f:TS:=a7;let e:TS:=aY a6 f;let c:TS:=aY a5 e;let b:TS:=aY a4 c;let R:TS:=aY a3 b;let r:TS:=aY a2 R;aY a r d z H):(aY a (aY a2 (aY a3 (aY a4 (aY a5 (aY a6 (a7))))))) D U H:=h
def Hh {a:TS} {U:L2.St} (h:let d:L2.Ends:=D;let z:L2.St:=U;let g:TS:=a8;let f:TS:=aY a7 g;let e:TS:=aY a6 f;let c:TS:=aY a5 e;let b:TS:=aY a4 c;let R:TS:=aY a3 b;let r:TS:=aY a2 R;aY a r d z H):(aY a (aY a2 (aY a3 (aY a4 (aY a5 (aY a6 (aY a7 (a8)))))))) D U H:=h
def Ii {a:TS} {U:L2.St} (h:let d:L2.Ends:=D;let z:L2.St:=U;let i:TS:=a9;let g:TS:=aY a8 i;let f:TS:=aY a7 g;let e:TS:=aY a6 f;let c:TS:=aY a5 e;let b:TS:=aY a4 c;let R:TS:=aY a3 b;let r:TS:=aY a2 R;aY a r d z H):(aY a (aY a2 (aY a3 (aY a4 (aY a5 (aY a6 (aY a7 (aY a8 (a9))))))))) D U H:=h
def EA {a:TS} {U:L2.St} (h:let d:L2.Ends:=D;let z:L2.St:=U;let j:TS:=IS;let i:TS:=aY a9 j;let g:TS:=aY a8 i;let f:TS:=aY a7 g;let e:TS:=aY a6 f;let c:TS:=aY a5 e;let b:TS:=aY a4 c;let R:TS:=aY a3 b;let r:TS:=aY a2 R;aY a r d z H):(aY a (aY a2 (aY a3 (aY a4 (aY a5 (aY a6 (aY a7 (aY a8 (aY a9 (IS)))))))))) D U H:=h
def EI {e a Z A b:TS} {U:L2.St} (h:let d:L2.Ends:=D;let z:L2.St:=U;let c:TS:=b;let R:TS:=aY A c;let r:TS:=aY Z R;let u:TS:=aY a r;let o:TS:=aY IS u;let n:TS:=aY a9 o;let m:TS:=aY a8 n;let l:TS:=aY a7 m;let k:TS:=aY a6 l;let j:TS:=aY a5 k;let i:TS:=aY a4 j;let g:TS:=aY a3 i;let f:TS:=aY a2 g;aY e f d z H):(aY e (aY a2 (aY a3 (aY a4 (aY a5 (aY a6 (aY a7 (aY a8 (aY a9 (aY IS (aY a (aY Z (aY A (b)))))))))))))) D U H:=h
@[elab_as_elim] theorem K9 {α:Type} {motive:List α->Prop} {us:List α} (h:us.length=1) (k:∀ a,motive [a]):motive us :=
 dO h λ a _ h=>aaZ h ▸ k a
@[elab_as_elim] theorem Di {α:Type} {motive:List α->Prop} {us:List α} (h:us.length=2) (k:∀ a b,motive [a,b]):motive us :=
 dO h λ a _ h=>dO h λ b _ h=>aaZ h ▸ k a b
@[elab_as_elim] theorem Lv {α:Type} {motive:List α->Prop} {us:List α} (h:us.length=3) (k:∀ a b c,motive [a,b,c]):motive us :=
 dO h λ a _ h=>dO h λ b _ h=>dO h λ c _ h=>aaZ h ▸ k a b c
@[elab_as_elim] theorem Ly {α:Type} {motive:List α->Prop} {us:List α} (h:us.length=4) (k:∀ a b c d,motive [a,b,c,d]):motive us :=
 dO h λ a _ h=>dO h λ b _ h=>dO h λ c _ h=>dO h λ d _ h=>aaZ h ▸ k a b c d
@[elab_as_elim] theorem Lk {α:Type} {motive:List α->Prop} {us:List α} (h:us.length=5) (k:∀ a b c d e,motive [a,b,c,d,e]):motive us :=
 dO h λ a _ h=>dO h λ b _ h=>dO h λ c _ h=>dO h λ d _ h=>dO h λ e _ h=>aaZ h ▸ k a b c d e
@[elab_as_elim] theorem K6 {α:Type} {motive:List α->Prop} {us:List α} (h:us.length=6) (k:∀ a b c d e f,motive [a,b,c,d,e,f]):motive us :=
 dO h λ a _ h=>dO h λ b _ h=>dO h λ c _ h=>dO h λ d _ h=>dO h λ e _ h=>dO h λ f _ h=>aaZ h ▸ k a b c d e f
@[elab_as_elim] theorem Le {α:Type} {motive:List α->Prop} {us:List α} (h:us.length=7) (k:∀ a b c d e f g,motive [a,b,c,d,e,f,g]):motive us :=
 dO h λ a _ h=>dO h λ b _ h=>dO h λ c _ h=>dO h λ d _ h=>dO h λ e _ h=>dO h λ f _ h=>dO h λ g _ h=>aaZ h ▸ k a b c d e f g
def lc {s:Scope} {x:Str} (h:(match s.names.lookup x with|some .local=>true|some .cell=>true|_=>false)=true):Loc s x:=by
 unfold Loc
 split at h
 . rename_i e;exact .inl e
 . rename_i e;exact .inr e
 . cases h
def cL.m {j k:Nat} {A:Around} (r:cL k A) (h:j<=k:=by first|decide|lia):cL j A:=r.mono h
section
variable {P:bi} {w:aV} {K:aA} {mg:cZ} {base:aU} {x qual:Str} {st:Stmt} {N ps:cx} {k:Nat} {sp:Sp} {C:ak}
def gy.cW (h:gy K mg x st) (S:aB N ps (aq st)) (F:∀ (f:ak) (b:av) (A:Around) (outer:List Env) (s:Shared) (H:Hp) (vs:ay) (Q:VK) (E:XK),cL k (A.deeper (envOfC x (aq st) s.heap.objs.size f b))->sp vs H Q E ->
     ∃ t,tF (iQ xR P w K mg base N x (aq st) f b A outer s H E).DY (bK st) t/\t { nx:=λ Z c=>Q .cB c,rt:=Q } (start N vs) H) (len:∀ vs H Q E,sp vs H Q E->vs.length=ps.length:=by intro Z Z Z Z h;first|(cases h;subst_vars;rfl)|(obtain ⟨Z,rfl,Z⟩:=h;rfl)|(obtain ⟨Z,Z,rfl,Z⟩:=h;rfl)|(obtain ⟨Z,Z,Z,rfl,Z⟩:=h;rfl)|(obtain ⟨Z,Z,Z,Z,rfl,Z⟩:=h;rfl)|(obtain ⟨Z,Z,Z,Z,Z,rfl,Z⟩:=h;rfl)) (g:∀ (kV d p:av) (e:Option ak) (b ct:av) (us:aZ),us.length=ps.length->bindArgs (W.fnOf x x (cQ st) (bK st) (aq st) .none kV d p e b ct) ⟨us,[]⟩=pure (ps.zip us):=by intro Z Z Z Z Z Z us a;first|exact K9 a λ Z=>rfl|exact Di a λ Z Z=>rfl|exact Lv a λ Z Z Z=>rfl|exact Ly a λ Z Z Z Z=>rfl|exact Lk a λ Z Z Z Z Z=>rfl|exact K6 a λ Z Z Z Z Z Z=>rfl|exact Le a λ Z Z Z Z Z Z Z=>rfl):Def P w K mg base x (k+1) ps sp:=h.def S len g F
def gb.fS {m:Str} (h:gb K C m qual st .none) (S:aB N ps (aq st)) (F:∀ (f:ak) (b:av) (A:Around) (outer:List Env) (s:Shared) (H:Hp) (vs:ay) (Q:VK) (E:XK),cL k (A.deeper (envOfC qual (aq st) s.heap.objs.size f b))->sp vs H Q E ->
     ∃ t,tF (iQ xR P w K mg base N qual (aq st) f b A outer s H E).DY (bK st) t/\t { nx:=λ Z c=>Q .cB c,rt:=Q } (start N vs) H) (len:∀ vs H Q E,sp vs H Q E->vs.length=ps.length:=by intro Z Z Z Z h;first|(cases h;subst_vars;rfl)|(obtain ⟨Z,rfl,Z⟩:=h;rfl)|(obtain ⟨Z,Z,rfl,Z⟩:=h;rfl)|(obtain ⟨Z,Z,Z,rfl,Z⟩:=h;rfl)|(obtain ⟨Z,Z,Z,Z,rfl,Z⟩:=h;rfl)|(obtain ⟨Z,Z,Z,Z,Z,rfl,Z⟩:=h;rfl)) (g:∀ (kV d p:av) (e:Option ak) (b ct:av) (us:aZ),us.length=ps.length->bindArgs (W.fnOf m qual (cQ st) (bK st) (aq st) .none kV d p e b ct) ⟨us,[]⟩=pure (ps.zip us):=by intro Z Z Z Z Z Z us a;first|exact K9 a λ Z=>rfl|exact Di a λ Z Z=>rfl|exact Lv a λ Z Z Z=>rfl|exact Ly a λ Z Z Z Z=>rfl|exact Lk a λ Z Z Z Z Z=>rfl|exact K6 a λ Z Z Z Z Z Z=>rfl|exact Le a λ Z Z Z Z Z Z Z=>rfl):gM P w K mg base C m (k+1) ps [] sp:=h.Jx S len g F
end
inductive A3 (a b c:Prop):Prop|mk (_:a) (_:b) (_:c)
inductive A4 (a b c d:Prop):Prop|mk (_:a) (_:b) (_:c) (_:d)
inductive A5 (a b c d e:Prop):Prop|mk (_:a) (_:b) (_:c) (_:d) (_:e)
inductive A6 (a b c d e f:Prop):Prop|mk (_:a) (_:b) (_:c) (_:d) (_:e) (_:f)
inductive E2 {a b:Type} (p:a->b->Prop):Prop|mk (x:a) (y:b) (_:p x y)
inductive E3 {a b c:Type} (p:a->b->c->Prop):Prop|mk (x:a) (y:b) (z:c) (_:p x y z)
inductive E4 {a b c d:Type} (p:a->b->c->d->Prop):Prop|mk (x:a) (y:b) (z:c) (u:d) (_:p x y z u)
inductive E5 {a b c d e:Type} (p:a->b->c->d->e->Prop):Prop|mk (x:a) (y:b) (z:c) (u:d) (v:e) (_:p x y z u v)
section
variable {K:aA} {H H':Hp} {s:cm} {g:Int}
def gc.ts {p:ak} (h:gc K H p s) (t:aQ K H H'):gc K H' p s:=by
 obtain ⟨e,g,f,a,b,c,d⟩:=h
 exact ⟨e,g,f,t _ _ a,t _ _ b,t _ _ c,t _ _ d⟩
end
def xK {m:ap} {s:cm} {o:Nat} (h:m.rows.length<=4):s.may m o<16:=aax (Ord.Cn _ _) (aa7 (by decide) h:2 ^ m.rows.length<=2 ^ 4)
def aN.Ex {K:aA} {C:ak} {d:Hp} {a x:ak} {f:bw} {m:ap} (h:aN K C H a f m) (st:∀ b o,H b=some o->b≠x->d b=some o) (t:aQ K H d) (nx:x∉f):aN K C d a f m:=by
 obtain ⟨⟨O,k,p,l,n,V,S,T,A,rfl,w,J,u,I,G,v,N,B,E,q,r,s,D,F⟩,Q,L,M,R⟩:=h
 have g:∀ {c o},H c=some o->c∈[a,O,k,p,l,n]->d c=some o:=λ {c o} e y=>st c o e (λ z=>nx (z ▸ y))
 exact ⟨⟨O,k,p,l,n,V,S,T,A,rfl,g w (by simp),g J (by simp),g u (by simp),g I (by simp),g G (by simp),g v (by simp),N,B,E,ku t q,je t r,gO t s,λ i j=>(D i j).ts t,F⟩,Q,L,M,R⟩
def bH.tch (t:bH) (i:Nat) (z lo h:Int):Prop:=0<=z/\z<((t.marks.getD i []).length:Int) - 1/\12 * t.Wz i z.toNat<=h/\lo<=12 * t.Wz i (z.toNat+1)
instance {t:bH} {i:Nat} {z lo h:Int}:Decidable (t.tch i z lo h):=by unfold bH.tch;infer_instance
def bH.s0 (t:bH) (n i:Nat) (bs:bj) (f:Bool):Int:=t.sX n i bs 0 (t.RG i).2.1 f
def bH.s1 (t:bH) (n i:Nat) (bs:bj) (f:Bool):Int:=t.sX n i bs 1 (t.RG i).2.2 f
theorem aN.some {K:aA} {C:ak} {a:ak} {f:bw} {m:ap} (h:aN K C H a f m):∀ c∈f,∃ o,H c=some o:=by
 obtain ⟨⟨i,k,p,l,n,v,V,q,A,rfl,e,j,G,O,g,d,Z⟩,Z⟩:=h
 intro c b
 simp only [aad,aaf,aaX] at b
 rcases b with rfl|rfl|rfl|rfl|rfl|rfl
 . exact ⟨_,e⟩
 . exact ⟨_,j⟩
 . exact ⟨_,G⟩
 . exact ⟨_,O⟩
 . exact ⟨_,g⟩
 . exact ⟨_,d⟩
def mY (s:cm):PyData:=.tuple [.tuple (s.bN.map jx),jx s.bB,.tuple (s.cA.map jx),.tuple (s.failed.map jx),jx s.heap]
end L2
namespace PySem
open Sem (wp)
mutual
def kd:PyData->Bool
 | .bool _=>true
 | .int _=>true
 | .tuple d=>yM d
 | _=>false
def yM:List PyData->Bool
 | []=>true
 | d::D=>kd d && yM D
end
mutual
def tw:PyData->PyData
 | .bool b => .int (if b then 1 else 0)
 | .tuple D => .tuple (mZ D)
 | d=>d
def mZ:List PyData->List PyData
 | []=>[]
 | d::D=>tw d::mZ D
end
mutual
def vN:PyData->Nat
 | .tuple d=>vC d+1
 | _=>0
def vC:List PyData->Nat
 | []=>0
 | d::D=>max (vN d) (vC D)
end
mutual
def rW:PyData->Int
 | .int i=>hashInt i
 | .bool b=>hashInt (if b then 1 else 0)
 | .tuple d=>reduceHash (Builtin.Tuple.tupleHashOf (lU d))
 | _=>0
def lU:List PyData->List Int
 | []=>[]
 | d::D=>rW d::lU D
end
mutual
def rQ:PyData->Nat
 | .tuple d=>nY d+1
 | _=>1
def nY:List PyData->Nat
 | []=>0
 | d::D=>rQ d+nY D
end
mutual
theorem v9:∀ d,kd d=true->rW (tw d)=rW d
 | .bool b,_=>by simp only [tw,rW]
 | .int i,_=>by simp only [tw,rW]
 | .tuple D,h=>by simp only [tw,rW];rw [ux D h]
 | .none,_ | .str _,_ | .list _,_ | .dict _,_=>by simp only [tw]
theorem ux:∀ D,yM D=true->lU (mZ D)=lU D
 | [],_=>rfl
 | d::D,h=>by
   rw [yM,aaG] at h
   simp only [mZ,lU]
   rw [v9 d h.1,ux D h.2]
end
mutual
theorem wG:∀ d,rQ (tw d)=rQ d
 | .bool b=>by simp only [tw,rQ]
 | .tuple D=>by simp only [tw,rQ];rw [uY D]
 | .int _ | .none | .str _ | .list _ | .dict _=>by simp only [tw]
theorem uY:∀ D,nY (mZ D)=nY D
 | []=>rfl
 | d::D=>by
   simp only [mZ,nY]
   rw [wG d,uY D]
end
mutual
theorem xZ:∀ (d e:PyData),kd d=true->kd e=true->(PyData.eqv d e=true↔tw d=tw e)
 | .bool a,.bool b,_,_=>by cases a<;>cases b<;>simp [PyData.eqv,tw]
 | .bool a,.int j,_,_=>by simp [PyData.eqv,tw]
 | .int i,.bool b,_,_=>by simp [PyData.eqv,tw]
 | .int i,.int j,_,_=>by simp [PyData.eqv,tw]
 | .tuple xs,.tuple ys,h,k=>by
   simp only [PyData.eqv,tw,PyData.tuple.injEq]
   exact yY xs ys h k
 | .bool _,.tuple _,_,_ | .int _,.tuple _,_,_ | .tuple _,.bool _,_,_ | .tuple _,.int _,_,_=>by simp [PyData.eqv,tw]
theorem yY:∀ (D es:List PyData),yM D=true->yM es=true->(PyData.eqvAll D es=true↔mZ D=mZ es)
 | [],[],_,_=>by simp [PyData.eqvAll,mZ]
 | [],_::_,_,_=>by simp [PyData.eqvAll,mZ]
 | _::_,[],_,_=>by simp [PyData.eqvAll,mZ]
 | d::D,e::es,h,k=>by
   rw [yM,aaG] at h k
   simp only [PyData.eqvAll,mZ,aaG,adD]
   rw [xZ d e h.1 k.1,yY D es h.2 k.2]
end
section
variable {prog:bi} {w:aV} {E:av->Shared->Prop}
mutual
theorem uh:∀ (d:PyData) (v:av) (as:bw) (A:Around) (s:Shared) (Q:Int->Shared->Prop),kd d=true->Reads s.heap v d as->A.units+vN d<cLine ->
   Q (rW d) { s with toks:=s.toks+rQ d }->wpAny (model prog w) A (pyHash v) Q E s
 | .int i,_,_,A,s,Q,_,x,_,h=>by cases x;exact wpAny_pyHash_int h
 | .bool b,_,_,A,s,Q,_,x,e,h=>by
   cases x
   refine W.pyHash_slot (T:="bool") rfl F.slot_bool_hash entry_int_hash (args_int_hash _) (beq_builtin_none _) (.inl rfl) ?_
   cases b
   . exact (show wpAny _ _ (do ret (<- mkInt 0)) _ _ s from aaa (wpAny_mkInt (aan ⟨_,_,rfl,h⟩)))
   . exact (show wpAny _ _ (do ret (<- mkInt 1)) _ _ s from aaa (wpAny_mkInt (aan ⟨_,_,rfl,h⟩)))
 | .tuple D,_,_,A,s,Q,H,x,e,h=>by
   cases x with
   | @tuple a o vs n _ _ c g j k =>
     rw [vN] at e
     refine W.pyHash_slot (T:="tuple") ⟨_,c,g⟩ F.slot_tuple_hash F.entry_tuple_hash (F.args_tuple_hash_1 _) (beq_builtin_none _) (.inr (by lia)) ?_
     show wpAny _ _ (Builtin.Tuple.tupleItemsOf (.ref a) >>= _) _ _ s
     refine aaa (wpAny_tupleItemsOf c j ?_)
     refine aaa ?_
     rw [<- acE]
     refine sg D vs.toList _ A.in1 s #[] _ H k (by rw [acz];lia) λ b f=>?_
     show wpAny _ _ (retInt (Builtin.Tuple.tupleHashOf b.toList)) _ _ _
     rw [f]
     exact aaa (wpAny_mkInt (aan ⟨_,_,rfl,h⟩))
 | .none,_,_,_,_,_,H,_,_,_ | .str _,_,_,_,_,_,H,_,_,_ | .list _,_,_,_,_,_,H,_,_,_ | .dict _,_,_,_,_,_,H,_,_,_=>by rw [kd] at H<;>first|cases H|nofun
theorem sg:∀ (D:List PyData) (vs:aZ) (as:bw) (A:Around) (s:Shared) (b:Array Int) (Q:Array Int->Shared->Prop),yM D=true->ReadsAll s.heap vs D as->A.units+vC D<cLine ->
   (∀ B,B.toList=b.toList++lU D->Q B { s with toks:=s.toks+nY D }) ->
   wpAny (model prog w) A (forIn vs b λ x r=>do let h <- pyHash x;pure PUnit.unit;pure (ForInStep.yield (r.push h))) Q E s
 | [],_,_,A,s,b,Q,_,x,_,h=>by cases x;exact aan (h b (by simp [lU]))
 | d::D,_,_,A,s,b,Q,H,x,c,h=>by
   cases x with
   | cons X e =>
     rw [yM,aaG] at H
     rw [vC] at c
     rw [ac5]
     refine aaa (aaa (uh d _ _ A s _ H.1 X (by lia) ?_))
     refine aaa (aan (aan ?_))
     exact sg D _ _ A { s with toks:=s.toks+rQ d } _ Q H.2 e (by lia) λ B a=>by
       have:=h B (by simp [a,lU])
       rw [nY,<- Nat.add_assoc] at this
       exact this
end
theorem sj:∀ (n:Nat) (d:PyData) (v:av) (as:bw) (A:Around) (s:Shared) (Q:Bool->Shared->Prop),kd d=true->vN d<=n->Reads s.heap v d as->Q true s->wpAny (model prog w) A (eqIsQuiet n v) Q E s
 | n,.int i,_,_,A,s,Q,_,_,x,h=>by cases x;rw [eqIsQuiet_byValue n rfl];exact aan h
 | n,.bool i,_,_,A,s,Q,_,_,x,h=>by cases x;rw [eqIsQuiet_byValue n rfl];exact aan h
 | 0,.tuple D,_,_,A,s,Q,_,f,_,_=>by rw [vN] at f;lia
 | n+1,.tuple D,_,_,A,s,Q,H,f,x,h=>by
   cases x with
   | @tuple a o vs m _ _ c j q k =>
     rw [vN] at f
     unfold eqIsQuiet
     refine aaa (adh ⟨_,c,j⟩ F.slot_tuple_eq.lookup ?_)
     show wpAny _ _ (isInstance (.ref a) (.type "tuple") >>= _) _ _ s
     refine aaa (adR ⟨_,c,j⟩ isSubtype_tuple_tuple ?_)
     simp only [adX,abt,acg]
     refine aaa (acs c q ?_)
     refine aaa ?_
     show wpAny _ _ (forIn vs _ _) _ _ s
     rw [<- acE]
     refine wpAny_forIn_list _ (λ rest r s'=>r.1=none/\s'=s/\∃ es V,yM es=true/\vC es<=n/\ReadsAll s.heap rest es V) _ ?_ ?_ _ _ ⟨rfl,rfl,D,_,H,by lia,k⟩
     .
      rintro v rest r s' ⟨k,rfl,es,V,b,l,p⟩
      cases p with
      | @cons _ _ e es _ _ X t =>
        rw [yM,aaG] at b
        rw [vC] at l
        refine aaa (sj n e v _ _ _ _ b.1 (by lia) X ?_)
        simp only [adX,abt,acg]
        exact aan ⟨rfl,rfl,es,_,b.2,by lia,t⟩
     . rintro ⟨R,u⟩ s' ⟨g,rfl,Z⟩
       have g:R=none:=g
       subst g
       exact aan h
 | _,.none,_,_,_,_,_,H,_,_,_|_,.str _,_,_,_,_,_,H,_,_,_|_,.list _,_,_,_,_,_,H,_,_,_|_,.dict _,_,_,_,_,_,H,_,_,_=>by rw [kd] at H<;>first|cases H|nofun
def Ij {a b:ak} {d e:PyData} {as bs:bw} {A:Around} {s:Shared} {Q:Bool->Shared->Prop} (r:Reads s.heap (.ref a) d as) (R:Reads s.heap (.ref b) e bs) (H:SeqAt.shaped d=true) (c:SeqAt.shaped e=true) (k:kd d=true) (K:kd e=true) (f:A.units+64<cLine)
   (h:Q (PyData.eqv d e) s):wpAny (model prog w) A (eqBool (.ref a) (.ref b)) Q E s:=by
 unfold eqBool
 try with_reducible refine abG ?_
 show wpAny _ _ (if (Value.ref a == Value.ref b)=true then _ else _) Q E s
 by_cases U:(Value.ref a == Value.ref b)=true
 .
  rw [aaE U]
  have z:a=b:=by have:=eq_of_beq U;injection this
  subst z
  obtain rfl:=(Reads.unique r _ _ R).1
  rw [(xZ d d k k).mpr rfl] at h
  exact aaa (wpAny_rule (aan h))
 . rw [aaA U]
   exact aaa (show wpAny _ _ (compareOp .Eq (.ref a) (.ref b)) _ _ _ from SeqAt.compareEq_shaped r R H c f (abr h))
end
mutual
theorem oA {h h':aU} (f:∀ b o,h.get? b=some o->∀ n vs,o.data = .seq vs n->h'.get? b=some o):∀ (d:PyData) {v:av} {as:bw},kd d=true->Reads h v d as->Reads h' v d as
 | _,_,_,_,.none => .none
 | _,_,_,_,.bool b => .bool b
 | _,_,_,_,.int i t => .int i t
 | _,_,_,_,.str x t => .str x t
 | _,_,_,k,.tuple a c H e => .tuple (f _ _ a _ _ H) c H (ss f _ k e)
 | _,_,_,k,.list a c H e=>by rw [kd] at k<;>first|cases k|nofun
 | _,_,_,k,.dict a c H e g=>by rw [kd] at k<;>first|cases k|nofun
theorem ss {h h':aU} (H:∀ b o,h.get? b=some o->∀ n vs,o.data = .seq vs n->h'.get? b=some o):∀ (d:List PyData) {vs:aZ} {as:bw},yM d=true->ReadsAll h vs d as->ReadsAll h' vs d as
 | _,_,_,_,.nil => .nil
 | _,_,_,k,.cons a c => .cons (oA H _ (abn.mp k).1 a) (ss H _ (abn.mp k).2 c)
end
noncomputable instance:DecidableEq PyData:=λ a b=>Classical.propDecidable (a=b)
def tN (h:aU) (k:PyData) (a:ak):Prop:=∃ d as,Reads h (.ref a) d as/\kd d=true/\SeqAt.shaped d=true/\vN d<=8/\tw d=k
noncomputable def ib (prog:bi) (w:aV):HeapKind prog w PyData where
 is:=tN
 hash:=rW
 draws:=rQ
 room:=λ A=>A.units+64<cLine
 inj:=λ ⟨d,_,r,_,_,_,e⟩ ⟨D,_,R,_,_,_,i⟩=>by
   obtain rfl:=(Reads.unique r _ _ R).1
   exact e.symm.trans i
 keeps:=λ {h C k a d o B v} x p n t=>by
   obtain ⟨x,as,r,K,f,g,e⟩:=x
   refine ⟨x,as,oA (λ b O q m F l=>?_) x K r,K,f,g,e⟩
   rw [t.2 b λ z=>?_]
   . exact q
   . subst z
     rw [p] at q
     cases q
     rw [n] at l
     cases l
 pyHash:=λ {A E s k a Q} H ⟨d,as,r,K,f,g,e⟩ h=>by
   subst e
   rw [v9 d K,wG d] at h
   exact uh d _ as A s Q K r (by lia) h
 eqBool:=λ {A E s x y a b Q} H ⟨d,as,r,K,f,g,e⟩ ⟨D,V,R,c,j,u,i⟩ h=>by
   subst e i
   refine Ij r R f j K c H ?_
   have q:PyData.eqv d D=decide (tw d=tw D):=by
     rw [abI,decide_eq_true_iff]
     exact xZ d D K c
   rw [q]
   exact h
 quiet:=λ {A E s k a Q} ⟨d,as,r,K,f,g,e⟩ h=>sj 8 d _ as A s Q K g r h
end PySem
namespace L2
open PySem PySem.Spec PyProof.Rows Mth
variable {H H':Hp} {c' cur:Nat} {o:HO} {v:V}
mutual
theorem DE:∀ d:PyData,kd d=true->fN d=true
 | .bool _,_=>by simp [fN]
 | .int _,_=>by simp [fN]
 | .tuple D,h=>k9.mpr (zb D h)
 | .none,h | .str _,h | .list _,h | .dict _,h=>by rw [kd] at h<;>first|cases h|nofun
theorem zb:∀ D:List PyData,yM D=true->∀ d∈D,fN d=true
 | [],_,d,h=>absurd h aaf
 | e::D,h,d,m=>by
   rw [yM,aaG] at h
   rcases aad.mp m with z|z
   . rw [z];exact DE e h.1
   . exact zb D h.2 d z
end
def gH (K:aA) (H:Hp) (k:PyData) (b:ak):Prop:=∃ d,Dn K H d (.ref b)/\kd d=true/\SeqAt.shaped d=true/\vN d<=8/\tw d=k
theorem gH.ts {K:aA} {k:PyData} {b:ak} (s:aQ K H H') (h:gH K H k b):gH K H' k b:=by
 obtain ⟨d,c,a,e,f,g⟩:=h
 exact ⟨d,Dn.ts s d (DE d a) c,a,e,f,g⟩
section
variable {X:Cx} {pins:List (ak×Obj)} {U:St} {H:Hp} {s:Shared}
def gH.is {k:PyData} {b:ak} (I:Inv X pins U H s) (h:gH X.K H k b):tN s.heap k b:=by
 obtain ⟨d,a,c,e,f,g⟩:=h
 obtain ⟨as,r⟩:=I.reads d a rfl
 exact ⟨d,as,r,c,e,f,g⟩
end
abbrev oO:=List (PyData×ak×V)
abbrev XR:oO->List (PyData×ak×av)->Prop:=Paired λ p q=>p.1=q.1/\p.2.1=q.2.1/\RelV p.2.2 q.2.2
def DxP (P:bi) (w:aV) (a:ak) (A:oO) (h:aU):Prop:=A.length<=sizeLine/\(a == sysModules)=false/\∃ x,XR A x /\
 ∃ o e E,h.get? a=some o/\o.ExactDict/\o.data = .dict e E/\e.toList=x.map (entryOfKey (ib P w))/\(x.map (·.1)).Nodup
def kW (P:bi) (w:aV) (a:ak) (A:oO):HO:=.ext (DxP P w a A)
def Gw {P:bi} {w:aV} {h:aU} {a:ak} {A:oO} (x:DxP P w a A h):dF P w H h a (kW P w a A):=by
 refine ⟨x,?_,λ c d ⟨z,y,X,r,o,b,E,e,q⟩ k=>⟨z,y,X,r,o,b,E,k o e,q⟩⟩
 obtain ⟨Z,Z,Z,Z,o,Z,Z,e,Z⟩:=x
 exact ⟨o,e⟩
noncomputable def iq (a:oO) (k:PyData):eE:=(a.find? λ x=>decide (x.1=k)).map (·.2.2)
noncomputable def fQ (a:oO) (k:PyData) (b:ak) (v:V):oO:=if (iq a k).isSome then a.map λ x=>if x.1=k then (x.1,x.2.1,v) else x else a++[(k,b,v)]
def uE {a:oO} {xs:List (PyData×ak×av)} (r:XR a xs) (k:PyData):kS (iq a k) ((atKey xs k).map (·.2)):=by
 induction r with
 | nil=>exact True.intro
 | @cons p q d Q h t i =>
   obtain ⟨H,c,b⟩:=h
   unfold iq atKey at i |-
   rw [aa5,aa5,H]
   by_cases e:q.1=k
   . rw [aao e];exact b
   . rw [aam e];exact i
def Ir {a:oO} {xs:List (PyData×ak×av)} (r:XR a xs) (k:PyData) {b:ak} {u:av} (R:RelV v u):XR (fQ a k b v) (storedH xs k b u):=by
 unfold fQ storedH
 have e:(iq a k).isSome=(atKey xs k).isSome:=by rw [(uE r k).qS,adm]
 rw [e]
 by_cases q:(atKey xs k).isSome=true
 .
  rw [aaE q,aaE q]
  clear e q
  induction r with
  | nil=>exact .nil
  | @cons p q f Q h t i =>
    refine .cons ?_ i
    obtain ⟨H,c,d⟩:=h
    unfold putAt
    dsimp only
    by_cases e:q.1=k
    . rw [aaE e,aaE (H.trans e)];exact ⟨H,c,R⟩
    . rw [aaA e,aaA (λ z=>e (H.symm.trans z))];exact ⟨H,c,d⟩
 . rw [aaA q,aaA q]
   exact acK r ⟨rfl,rfl,R⟩
def tW (a:oO) (k:PyData) (b:ak) (v:V):(fQ a k b v).length<=a.length+1:=by
 unfold fQ
 split<;>simp
def Ik {a:oO} {k:PyData} {b:ak} {e:PyData×ak×V} (h:e∈fQ a k b v):(∃ E∈a,E.1=e.1/\E.2.1=e.2.1)\/e=(k,b,v):=by
 unfold fQ at h
 split at h
 . obtain ⟨x,H,rfl⟩:=aaH.mp h
   refine .inl ⟨x,H,?_⟩
   split<;>exact ⟨rfl,rfl⟩
 . rcases aar.mp h with z|z
   . exact .inl ⟨e,z,rfl,rfl⟩
   . exact .inr (aae.mp z)
def lG (a:oO) (k k':PyData) (b:ak) (v:V):iq (fQ a k b v) k'=if k'=k then some v else iq a k':=by
 unfold fQ
 by_cases q:(iq a k).isSome=true
 .
  rw [aaE q]
  by_cases e:k'=k
  .
   rw [aaE e]
   subst e
   induction a with
   | nil=>simp [iq] at q
   | cons x a i =>
     unfold iq at i q |-
     rw [aaP,aa5]
     by_cases z:x.1=k'
     . rw [aaE z,aao z];rfl
     . rw [aaA z,aam z]
       rw [aa5,aam z] at q
       exact i q
  .
   rw [aaA e]
   clear q
   induction a with
   | nil=>rfl
   | cons x a i =>
     unfold iq at i |-
     rw [aaP,aa5,aa5]
     by_cases z:x.1=k
     . rw [aaE z,aam (λ y:x.1=k'=>e (y.symm.trans z))]
       exact i
     . rw [aaA z]
       by_cases c:x.1=k'
       . rw [aao c]
       . rw [aam c]
         exact i
 .
  rw [aaA q]
  have q:iq a k=none:=by simpa using q
  unfold iq at q |-
  rw [List.find?_append]
  by_cases e:k'=k
  . rw [aaE e,e]
    have z:(a.find? λ x=>decide (x.1=k))=none:=by simpa using q
    rw [z,aa5,aao rfl]
    rfl
  . rw [aaA e,aa5,aam (λ y=>e y.symm),List.find?_nil,Option.or_none]
structure ix (P:bi) (w:aV) (K:aA) (H:Hp) (a:ak) (aC:oO):Prop where
 ob:H a=some (kW P w a aC)
 keys:∀ e∈aC,gH K H e.1 e.2.1
def ix.nil {P:bi} {w:aV} {K:aA} {a:ak} (h:H a=some (kW P w a [])):ix P w K H a []:=⟨h,λ Z h=>absurd h aaf⟩
def ix.dI {P:bi} {w:aV} {K:aA} {a:ak} {aC:oO} (x:ix P w K H a aC) (t:aQ K H H') (e:H' a=H a):ix P w K H' a aC:=⟨e.trans x.ob,λ y h=>(x.keys y h).ts t⟩
def ix.same {P:bi} {w:aV} {K:aA} {a:ak} {aC:oO} (x:ix P w K H a aC) (s:aE H H'):ix P w K H' a aC:=⟨s _ _ x.ob,λ y h=>(x.keys y h).ts s.ts⟩
def ix.put {P:bi} {w:aV} {K:aA} {a b:ak} {A:oO} {k:PyData} (x:ix P w K H a A) (f:gH K H k b):ix P w K (upd H a (kW P w a (fQ A k b v))) a (fQ A k b v):=by
 have t:aQ K H (upd H a (kW P w a (fQ A k b v))):=bU x.ob rfl
 refine ⟨ag,λ e h=>?_⟩
 rcases Ik h with ⟨E,m,c,d⟩|rfl
 . rw [<- c,<- d];exact (x.keys E m).ts t
 . exact f.ts t
section
variable {X:Cx} {pins:List (ak×Obj)} {U:St} {H:Hp} {s:Shared} {a b:ak} {aC:oO} {k:PyData} {v:V}
def ix.dict (I:Inv X pins U H s) (x:ix X.prog X.w X.K H a aC):aC.length<=sizeLine/\(a == sysModules)=false/\∃ xs,XR aC xs/\s.heap.DictOfH (ib X.prog X.w) a xs:=by
 obtain ⟨z,y,xs,r,o,f,E,g,i,j,k,n⟩:=(show dF X.prog X.w H s.heap a (kW X.prog X.w a aC) from I.cM a _ x.ob).1
 refine ⟨z,y,xs,r,o,f,E,g,i,j,k,λ e b=>?_,n⟩
 have all:∀ {l:oO} {m:List (PyData×ak×av)},XR l m->(∀ e∈l,gH X.K H e.1 e.2.1)->∀ x∈m,tN s.heap x.1 x.2.1:=by
   intro l m q
   induction q with
   | nil=>intro Z x h;exact absurd h aaf
   | @cons p q v Q d t u =>
     intro c x h
     rcases aad.mp h with e|h
     . subst e
       rw [<- d.1,<- d.2.1]
       exact (c p aas).is I
     . exact u (λ e b=>c e (aai _ b)) x h
 exact all r x.keys e b
def xP {A:Around} {P:bi} {w:aV} (h:A.units+65<cLine):(ib P w).room A.in1:=by
 show A.in1.units+64<cLine
 rw [acz]
 lia
end
def SC (P:bi) (w:aV) (K:aA) (t ty:TE):TE:=λ U H Q=>t U H λ x c=>ty U c λ y h=>∃ a b A k v,x = .ref a/\y = .ref b/\ix P w K h a A/\gH K h k b/\iq A k=some v/\Q v h
inductive J7 (P:bi) (w:aV) (K:aA) (y:V) (x:V) (H:Hp) (Q:VK):Prop|mk (a b aC k:_) (_:x = .ref a) (_:y = .ref b) (_:ix P w K H a aC) (_:gH K H k b) (_:Q (.bl (!(iq aC k).isSome)) H)
def QO (P:bi) (w:aV) (K:aA) (t ty T:TE):TS:=λ D U H=>T U H λ v c=>t U c λ x d=>ty U d λ y h=>∃ a b A k,x = .ref a/\y = .ref b/\ix P w K h a A/\gH K h k b/\A.length<sizeLine /\
 D.nx U (upd h a (kW P w a (fQ A k b v)))
def Qs (P:bi) (w:aV):TE:=λ Z H Q=>∀ p,H p=none->Q (.ref p) (upd H p (kW P w p []))
def cL.Lm {k:Nat} {A:Around} (r:cL k A):A.units+65<cLine:=by have:=r.un;lia
section
variable {X:Cx} {o i e value:Expr} {pos pos':Pos} {td ty tv:TE} {P:bi} {w:aV} {K:aA}
def CN (b:X.prog=P) (hw:X.w=w):PE X (.Dict [] [] pos) (Qs P w):=by
 subst b hw
 exact λ p s U H Q I h=>wpAny_Dict_empty ⟨.ref s.heap.objs.size,_,I.laid (a:=s.heap.objs.size) (o:=kW X.prog X.w s.heap.objs.size []) (t':=s.toks) (λ Z Z q=>aak _ q) (aaj _)
   (Gw ⟨aaT _,abj.mpr (acv (aaL I.big)),[],.nil,_,#[],0,aaQ _ rfl,⟨rfl,rfl,rfl⟩,rfl,rfl,ach⟩),rfl,h _ (I.cM.fresh (aaj _))⟩
def tj (m:X.prog=P) (hw:X.w=w) (l:X.K=K) (G:X.A.units+65<cLine) (t:PE X o td) (n:PE X i ty) (C:QU i):PE X (.Subscript o i pos) (SC P w K td ty):=by
 subst m hw l
 intro c s U H Q I h
 refine KR PySem.F.slot_dict_getitem.lookup C (cR (t c s U H _ I h) λ u T ⟨x,e,j,R,N⟩=>cR (n c T U e _ j N) λ M s2 ⟨y,f,d,S,a,b,Y,k,v,ex,E,g,q,L,O⟩=>?_)
 subst ex E
 obtain rfl:u=Value.ref a:=R
 obtain rfl:M=Value.ref b:=S
 obtain ⟨z,hd,V,r,D⟩:=g.dict d
 refine ⟨D.typeIs,?_⟩
 obtain ⟨w',hw,J⟩:=kS.some_of (v:=v) (o:=(atKey V k).map (·.2)) (by rw [<- L];exact uE r k)
 obtain ⟨p,B,W⟩:=abb.mp hw
 refine wpAny_getItem_heap (xP G) (q.is d) D B ?_
 rw [W]
 exact ⟨v,f,d.tok _,J,O⟩
def vV (e:X.prog=P) (hw:X.w=w) (c:X.K=K) (j:X.A.units+65<cLine):jn X (compareOp .NotIn) (J7 P w K):=by
 subst e hw c
 intro p s U H x y v u Q I R m h
 obtain ⟨a,b,n,k,rfl,rfl,g,i,l⟩:=h
 obtain rfl:u=Value.ref a:=m
 obtain rfl:v=Value.ref b:=R
 obtain ⟨z,f,o,r,d⟩:=g.dict I
 refine wpAny_notIn_heap (xP j) (i.is I) f d ⟨.bl _,H,I.tok _,?_,l⟩
 have q:=(uE r k).qS
 rw [adm] at q
 rw [q]
 rfl
def CH (O:X.prog=P) (hw:X.w=w) (N:X.K=K) (Y:X.A.units+65<cLine) (W:PE X o td) (S:PE X i ty) (hv:PE X value tv) (d:swapsWith value (some (.Subscript o i pos')) pos.line X.env=pure false) :
   PS X (.Assign [.Subscript o i pos'] value pos) (QO P w K td ty tv):=by
 subst O hw N
 intro p s U H D I h
 refine wpAny_Assign_Subscript (cR (hv p s U H _ I h) λ r s1 ⟨v,j,m,rv,q1⟩=>cR (W p s1 U j _ m q1) λ u s2 ⟨x,l,n,rx,q2⟩=>cR (S p s2 U l _ n q2) λ iv s3 ⟨y,H3,c,ry,a,b,e,k,ex,F,g,T,V,q3⟩=>?_) d
 subst ex F
 obtain rfl:u=Value.ref a:=rx
 obtain rfl:iv=Value.ref b:=ry
 obtain ⟨z,Q,xs,R,B⟩:=g.dict c
 have hz:xs.length<=sizeLine:=by rw [<- abT R];exact z
 have yK:(fQ e k b v).length<=sizeLine:=aaz (tW e k b v) V
 refine wpAny_setItem_heap (hsz:=hz) (xP Y) (T.is c) B λ h' t d=>⟨U,_,?_,q3⟩
 obtain ⟨q,C,E,f,G,J,L,Z,M⟩:=t
 exact wQ c (by rw [g.ob];exact True.intro) d ⟨q,f⟩ (Gw ⟨yK,Q,_,Ir R k rv,q,C,E,f,G,J,L,M⟩)
end
section
variable {X:Cx}
inductive Vp (K:aA) (x:V) (y:V) (H:Hp) (Q:VK):Prop|mk (p xs:_) (_:x = .cB) (_:y = .ref p) (_:bh K H p xs) (_:(∀ v∈xs,v = .cB\/∃ a ys,v = .ref a/\bh K H a ys)) (_:Q (.bl (decide (V.cB∈xs))) H)
theorem HI {s:Shared} {p:List (ak×Obj)} {U:St} (I:Inv X p U H s) (c:X.A.units+1<cLine):∀ {xs:ay} {B:aZ},Vals xs B->(∀ v∈xs,v = .cB\/∃ a ys,v = .ref a/\bh X.K H a ys) ->
   (∀ u∈B,SeqAt.EqAt X.A.in1 s u .none (u == Value.none))/\(B.any λ u=>u == Value.none)=decide (V.cB∈xs)
 | _,_,.nil,_=>⟨λ Z h=>absurd h aaf,rfl⟩
 | x::xs,u::B,.cons r t,h=>by
   obtain ⟨i,g⟩:=HI I c t λ v f=>h v (aai _ f)
   rcases h x aas with rfl|⟨a,ys,rfl,d⟩
   .
    obtain rfl:u=Value.none:=r
    refine ⟨λ w b=>?_,?_⟩
    . rcases aad.mp b with e|b
      . rw [e];exact SeqAt.EqAt.same _
      . exact i w b
    . rw [acR,aao (show V.cB∈V.cB::xs from aas)]
      rfl
   .
    obtain rfl:u=Value.ref a:=r
    obtain ⟨j,Z,k,Z⟩:=I.list d
    refine ⟨λ w b=>?_,?_⟩
    . rcases aad.mp b with e|b
      . rw [e];exact SeqAt.EqAt.list_none k.isList (by rw [acz];exact c)
      . exact i w b
    . rw [acR,g]
      have e:(V.cB∈V.ref a::xs)↔V.cB∈xs:=by simp
      rw [show (Value.ref a == Value.none)=false from rfl,Bool.false_or]
      exact (acS.mpr e).symm
def Mp (f:X.A.units+1<cLine):jn X (compareOp .In) (Vp X.K):=by
 intro a s U H x y v u Q I R k h
 obtain ⟨p,m,rfl,rfl,e,i,q⟩:=h
 obtain rfl:u=Value.ref p:=k
 obtain rfl:v=Value.none:=R
 obtain ⟨b,r,j,l⟩:=I.list e
 obtain ⟨c,d⟩:=HI I f r i
 refine SeqAt.in_listAt (λ u=>u == Value.none) j.isList (λ w g=>c w (by simpa using g)) ⟨.bl _,H,I,rfl,?_⟩
 rw [show (b.toArray.any λ u=>u == Value.none)=(b.any λ u=>u == Value.none) by simp,d]
 exact q
inductive CK (K:aA) (x:V) (y:V) (H:Hp) (Q:VK):Prop|mk (a b xs ys:_) (_:x = .ref a) (_:y = .ref b) (_:bR K H a xs) (_:bR K H b ys) (_:xs.length+ys.length<=sizeLine) (_:∀ q H',aE H H'->bR K H' q (xs++ys)->Q (.ref q) H')
def gZ:jn X (binaryOp .Add) (CK X.K):=by
 intro d s U H x y v u Q I r R h
 obtain ⟨a,b,m,Y,rfl,rfl,f,g,z,q⟩:=h
 by_cases i:m=[]
 .
  cases r
  cases R
  obtain ⟨B,G,C,Z⟩:=I.tuple f
  obtain ⟨O,S,F,Z⟩:=I.tuple g
  obtain ⟨⟨cls,o,data,sl⟩,l,j,n,k⟩:=id C
  obtain ⟨⟨J,L,D,E⟩,N,M,A,c⟩:=id F
  simp only at j k M c
  subst j k M c
  have t:B=[]:=G.tf.mpr i
  refine concat_meets ⟨_,l,rfl⟩ ⟨_,N,rfl⟩ adT seq_tuple_add acW acO (acJ _ _)
    (tuple_addW0 a b B.toArray O.toArray n A o L sl E (by rw [t];rfl)) ⟨l,N,⟨.ref b,H,I,rfl,q b H (aE.refl _) (by rw [i];exact g)⟩⟩
 . exact Jd d s U H _ _ v u Q I r R ⟨a,b,m,Y,rfl,rfl,f,g,i,z,λ e=>q a H (aE.refl _) (by rw [e,aa9];exact f),λ Z p w=>q p _ (al w) (bR.of ag)⟩
def zR {K:aA} (h:X.K=K):jn X (binaryOp .Add) (CK K):=by subst h;exact gZ
end
abbrev rfs (h d:ak):List (Str×V):=[("hold",.ref h),("spreads",.ref d)]
def eI (m:ap) (i:Nat) (bs:bj) (fired:Bool):Option (bj) :=
 if mS (m.rows.getD i []) (lF m i bs fired) (lu m i bs fired)=true then some (rh (m.rows.getD i []) (lF m i bs fired) (lu m i bs fired)) else none
def fD (L:bw) (H:Hp) (v:V):Option (bj)->Prop
 | none=>v = .cB
 | some l=>∃ q,v = .ref q/\q∉L/\H q=some (.lst (l.map ao))
def kR (i:Nat) (bs:bj) (f:Bool):PyData:=.tuple [.int i,.tuple (bs.map jx),.int (if f then 1 else 0)]
theorem uW:∀ l:bj,yM (l.map jx)=true
 | []=>rfl
 | _::l=>by rw [aaP,yM,uW l];rfl
theorem qQ:∀ l:bj,mZ (l.map jx)=l.map jx
 | []=>rfl
 | _::l=>by rw [aaP,mZ,qQ l];rfl
theorem qo:∀ l:bj,vC (l.map jx)=0
 | []=>rfl
 | _::l=>by rw [aaP,vC,qo l];rfl
theorem mj:∀ {l r:bj},l.map jx=r.map jx->l=r
 | [],[],_=>rfl
 | [],_::_,h=>by cases h
 | _::_,[],h=>by cases h
 | a::l,b::r,h=>by
   obtain ⟨H,c⟩:=abN h
   have H:(a:Int)=(b:Int):=acX H
   rw [mj c,adj H]
def G6 {i I:Nat} {bs R:bj} {f F:Bool} (h:kR i bs f=kR I R F):i=I/\bs=R/\f=F:=by
 have h:=acb h
 obtain ⟨H,h⟩:=abN h
 obtain ⟨a,h⟩:=abN h
 obtain ⟨b,Z⟩:=abN h
 refine ⟨adj (acX H),mj (acb a),?_⟩
 cases f<;>cases F<;>first|rfl|(exact absurd (acX b) (by decide))
def pJ {n:Nat} {l:bj}:M4 (n+1) (.tuple (l.map jx)):=by
 intro d h
 obtain ⟨i,Z,rfl⟩:=aaH.mp h
 cases n<;>exact trivial
section
variable {K:aA} {H H':Hp}
def qa {p:ak} {l:bj} (h:bR K H p (l.map ao)):Dn K H (.tuple (l.map jx)) (.ref p):=iE h (uJ l)
def AT {p b:ak} {i:Nat} {bs:bj} {f:Bool} (h:bR K H p [ao i,.ref b,.bl f]) (c:bR K H b (bs.map ao)):gH K H (kR i bs f) p:=by
 refine ⟨.tuple [.int i,.tuple (bs.map jx),.bool f],iE h (bA rfl (bA (qa c) (bA rfl fu))),?_,ug (n:=2) ?_ (by decide),?_,?_⟩
 . simp only [kd,yM,uW];rfl
 .
  intro d a
  simp only [aad,aaf,aaX] at a
  rcases a with rfl|rfl|rfl
  . exact trivial
  . exact pJ
  . exact trivial
 . simp only [vN,vC,qo];decide
 . simp only [tw,mZ,qQ];rfl
def fD.but {L L':bw} {d:ak} {r:Option (bj)} (g:H d=some o) (N:∀ xs,o ≠ .lst xs) (b:∀ c u,H c=some u->c≠d->c∉L->H' c=some u) (f:∀ c∈L',c∈L) (h:fD L H v r):fD L' H' v r:=by
 cases r with
 | none=>exact h
 | some l =>
   obtain ⟨q,e,n,a⟩:=h
   exact ⟨q,e,λ z=>n (f q z),b q _ a (λ z=>by rw [z,g] at a;exact N _ (aap a)) n⟩
def fD.same {L:bw} {r:Option (bj)} (s:aE H H') (h:fD L H v r):fD L H' v r:=by
 cases r with
 | none=>exact h
 | some l =>
   obtain ⟨q,e,n,a⟩:=h
   exact ⟨q,e,n,s _ _ a⟩
def fD.new {L:bw} {D:ak} {r:Option (bj)} (b:H D=none) (h:fD L H v r):fD (D::L) H v r:=by
 cases r with
 | none=>exact h
 | some l =>
   obtain ⟨q,e,n,a⟩:=h
   exact ⟨q,e,λ z=>(aad.mp z).elim (λ z=>by rw [z,b] at a;cases a) n,a⟩
end
def oy {P:bi} {w:aV} {a:ak} {A:oO} (xs:ay):kW P w a A ≠ .lst xs:=λ h=>by cases h
structure eJ (P:bi) (w:aV) (K:aA) (C CR:ak) (L:bw) (H:Hp) (x d a:ak) (fp:bw) (m:ap) (c:Nat):Prop where
 ins:∃ dx,H x=some (.ins CR dx (rfs a d))
 hold:aN K C H a fp m
 nd:d∉fp
 N3:∃ aC,ix P w K H d aC/\aC.length<=c/\∀ i bs f v,iq aC (kR i bs f)=some v->fD L H v (eI m i bs f)
section
variable {P:bi} {w:aV} {K:aA} {C CR:ak} {L L':bw} {H H':Hp} {x d a:ak} {fp:bw} {m:ap} {c:Nat}
theorem eJ.same (r:eJ P w K C CR L H x d a fp m c) (s:aE H H'):eJ P w K C CR L H' x d a fp m c:=by
 obtain ⟨⟨D,l⟩,h,n,A,g,j,k⟩:=r
 exact ⟨⟨D,s _ _ l⟩,h.same s,n,A,g.same s,j,λ i b f v e=>(k i b f v e).same s⟩
def eJ.more (r:eJ P w K C CR L H x d a fp m c) (h:c<=c'):eJ P w K C CR L H x d a fp m c':=by
 obtain ⟨i,b,n,A,e,f,g⟩:=r
 exact ⟨i,b,n,A,e,aaz f h,g⟩
def eJ.less (r:eJ P w K C CR L H x d a fp m c) (h:∀ b∈L',b∈L):eJ P w K C CR L' H x d a fp m c:=by
 obtain ⟨i,j,n,A,g,k,l⟩:=r
 exact ⟨i,j,n,A,g,k,λ i B f v e=>(l i B f v e).but g.ob oy (λ Z Z e Z Z=>e) h⟩
theorem eJ.new (r:eJ P w K C CR L H x d a fp m c) {D:ak} (h:H D=none):eJ P w K C CR (D::L) H x d a fp m c:=by
 obtain ⟨i,g,n,A,j,k,l⟩:=r
 exact ⟨i,g,n,A,j,k,λ i b f v e=>(l i b f v e).new h⟩
def eJ.write (r:eJ P w K C CR L H x d a fp m c) {D:ak} {xs ys:ay} (h:H D=some (.lst xs)) (p:D∈L) (nf:D∉fp):eJ P w K C CR L (upd H D (.lst ys)) x d a fp m c:=by
 obtain ⟨⟨l,j⟩,q,y,A,g,s,u⟩:=r
 have t:aQ K H (upd H D (.lst ys)):=bU h rfl
 have B:∀ b o,H b=some o->b≠D->(upd H D (.lst ys)) b=some o:=λ b o e n=>by rw [ar n];exact e
 have nx:x≠D:=λ z=>by rw [z,h] at j;cases j
 have N:d≠D:=λ z=>by have:=g.ob;rw [z,h] at this;cases this
 exact ⟨⟨l,B _ _ j nx⟩,q.Ex B t nf,y,A,g.dI t (ar N),s,λ i k f v e=>(u i k f v e).but g.ob oy (λ b o e Z n=>B b o e λ z=>n (z ▸ p)) λ Z h=>h⟩
theorem eJ.put (r:eJ P w K C CR L H x d a fp m c) {A:oO} {i:Nat} {bs:bj} {f:Bool} {b:ak} (g:ix P w K H d A) (u:A.length<=c) (y:∀ i bs f v,iq A (kR i bs f)=some v->fD L H v (eI m i bs f)) (p:gH K H (kR i bs f) b) (l:fD L H v (eI m i bs f)) :
   eJ P w K C CR L (upd H d (kW P w d (fQ A (kR i bs f) b v))) x d a fp m (c+1)/\gw [d] H (upd H d (kW P w d (fQ A (kR i bs f) b v)))/\aQ K H (upd H d (kW P w d (fQ A (kR i bs f) b v)))/\fD L (upd H d (kW P w d (fQ A (kR i bs f) b v))) v (eI m i bs f):=by
 obtain ⟨⟨D,k⟩,s,N,Z⟩:=r
 have B:∀ j o,H j=some o->j≠d->(upd H d (kW P w d (fQ A (kR i bs f) b v))) j=some o:=λ c o e n=>by rw [ar n];exact e
 have t:aQ K H (upd H d (kW P w d (fQ A (kR i bs f) b v))):=bU g.ob rfl
 have nx:x≠d:=λ z=>by rw [z,g.ob] at k;cases k
 refine ⟨⟨⟨D,by rw [ar nx];exact k⟩,s.Ex B t N,N,_,g.put p,aaz (tW ..) (abP u),λ I R F V e=>?_⟩,λ c o e n=>B c o e λ z=>n (aae.mpr z),t,l.but g.ob oy (λ c o e n Z=>B c o e n) λ Z h=>h⟩
 rw [lG] at e
 by_cases q:kR I R F=kR i bs f
 .
  rw [aaE q] at e
  obtain ⟨rfl,rfl,rfl⟩:=G6 q
  cases e
  exact l.but g.ob oy (λ c o e n Z=>B c o e n) λ Z h=>h
 . rw [aaA q] at e
   exact (y I R F V e).but g.ob oy (λ c o e n Z=>B c o e n) λ Z h=>h
end
def bE (rows:List (bj)):List (bj):=rows.foldl (λ C r=>C.flatMap λ c=>r.map λ b=>c++[b]) [[]]
def iN (rows:List (bj)) (r:bj):bE (rows++[r])=(bE rows).flatMap λ c=>r.map λ b=>c++[b]:=by
 unfold bE
 rw [abA]
 rfl
theorem fE {b c:Type} {k:Nat} {f:b->List c}:∀ {l:List b},(∀ a,(f a).length<=k)->(l.flatMap f).length<=l.length * k
 | [],_=>by simp
 | a::l,h=>by
   rw [List.flatMap_cons,aac,aaW,Nat.succ_mul]
   have:=fE (l:=l) h
   have:=h a
   lia
theorem jq {rows:List (bj)} (h:∀ r∈rows,r.length<=6):∀ i,(bE (rows.take i)).length<=6 ^ i
 | 0=>by rw [adH];decide
 | i+1=>by
   by_cases H:i<rows.length
   . rw [List.take_succ_eq_append_getElem H,iN]
     refine aaz (fE (k:=6) λ a=>by rw [OG];exact h _ (aay H)) ?_
     rw [acB]
     exact abZ 6 (jq h i)
   . have e:rows.take (i+1)=rows.take i:=by rw [abc (by lia),abc (by lia)]
     rw [e,acB]
     have:=jq h i
     lia
def snoc_ind {b:Type} {p:List b->Prop} (h0:p []) (h:∀ l a,p l->p (l++[a])) (l:List b):p l:=by
 rw [<- List.reverse_reverse l]
 induction l.reverse with
 | nil=>exact h0
 | cons a r i=>rw [List.reverse_cons];exact h _ _ i
def jt {rows:List (bj)}:∀ {c:bj},c∈bE rows↔c.length=rows.length/\∀ i,i<rows.length->c.getD i 0∈rows.getD i []:=by
 refine snoc_ind (p:=λ rows=>∀ {c:bj},c∈bE rows↔c.length=rows.length/\∀ i,i<rows.length->c.getD i 0∈rows.getD i []) ?_ ?_ rows
 .
  intro c
  constructor
  . intro h
    have:c=[]:=by simpa [bE] using h
    rw [this]
    exact ⟨rfl,λ i h=>absurd h (abd _)⟩
  . rintro ⟨h,Z⟩
    rw [abL.mp h]
    simp [bE]
 .
  intro rows r I c
  rw [iN,abu]
  constructor
  .
   rintro ⟨a,d,h⟩
   obtain ⟨b,f,rfl⟩:=aaH.mp h
   obtain ⟨l,H⟩:=I.mp d
   refine ⟨by rw [aac,aac,l];rfl,λ i h=>?_⟩
   rw [aac,aaw] at h
   by_cases e:i<rows.length
   . rw [UE,UE,aal (l₁:=a) (by lia),aal e]
     have:=H i e
     rw [UE,UE] at this
     exact this
   . have e:i=rows.length:=by lia
     subst e
     rw [UE,UE,<- l,aaU,l,aaU]
     exact f
  .
   rintro ⟨l,H⟩
   rw [aac,aaw] at l H
   have n:c≠[]:=λ z=>by rw [z] at l;simp at l
   refine ⟨c.dropLast,I.mpr ⟨by rw [List.length_dropLast,l];rfl,λ i h=>?_⟩,aaH.mpr ⟨c.getLast n,?_,List.dropLast_concat_getLast n⟩⟩
   . have:=H i (by lia)
     rw [UE,UE,aal h] at this
     rw [UE,UE,List.getElem?_dropLast,aaE (by lia)]
     exact this
   .
    have:=H rows.length (by lia)
    rw [UE,UE,aaU] at this
    rw [List.getLast_eq_getElem]
    rw [SN (by lia)] at this
    have e:c.length - 1=rows.length:=by lia
    simp only [e]
    exact this
inductive A7 (a b c d e f g:Prop):Prop|mk (_:a) (_:b) (_:c) (_:d) (_:e) (_:f) (_:g)
inductive A8 (a b c d e f g h:Prop):Prop|mk (_:a) (_:b) (_:c) (_:d) (_:e) (_:f) (_:g) (_:h)
def vR (m:ap) (s:cm) (b i:Nat):Option (bj):=eI m i s.bN (b.testBit i)
def jN (m:ap) (s:cm) (b:Nat):Bool:=(List.range m.rows.length).all λ i=>(vR m s b i).isSome
def gC (m:ap) (s:cm) (b:Nat):List (bj):=(List.range m.rows.length).map λ i=>(vR m s b i).getD []
def iM (m:ap) (s:cm) (o O:Nat):List cm:=(bE (gC m s (Ord.off o O))).map λ c=>s.behind m c o O
def d5 (m:ap) (s:cm) (o:Nat):bj:=Bit.parts (Bit.rooms (s.may m o))
def sR (m:ap) (s:cm) (o:Nat):List cm:=(d5 m s o).flatMap (iM m s o)
def Refs {b:Type} (R:ak->b->Prop) (xs:ay) (l:List b):Prop:=Paired (λ v a=>∃ p,v = .ref p/\R p a) xs l
def Refs.imp {b:Type} {R S:ak->b->Prop} {xs:ay} {l:List b} (h:Refs R xs l) (f:∀ p a,R p a->S p a):Refs S xs l:=Paired.yc h λ Z Z ⟨p,e,r⟩=>⟨p,e,f p _ r⟩
theorem Refs.nil {a:Type} {R:ak->a->Prop}:Refs R [] ([]:List a):=Paired.nil
def Refs.snoc {b:Type} {R:ak->b->Prop} {xs:ay} {l:List b} {p:ak} {a:b} (h:Refs R xs l) (r:R p a):Refs R (xs++[.ref p]) (l++[a]):=acK h ⟨p,rfl,r⟩
theorem Refs.append {b:Type} {R:ak->b->Prop}:∀ {xs ys:ay} {l r:List b},Refs R xs l->Refs R ys r->Refs R (xs++ys) (l++r)
 | _,_,_,_,Paired.nil,h=>h
 | _,_,_,_,Paired.cons a t,h=>Paired.cons a (Refs.append t h)
theorem Refs.length {a:Type} {R:ak->a->Prop} {xs:ay} {l:List a} (h:Refs R xs l):xs.length=l.length:=abT h
theorem Refs.get {b:Type} {R:ak->b->Prop}:∀ {xs:ay} {l:List b} {i:Nat} {v:V},Refs R xs l->xs[i]?=some v->∃ p a,v = .ref p/\l[i]?=some a/\R p a
 | _,_,_,_,Paired.nil,h=>by simp at h
 | _,_,0,_,Paired.cons ⟨p,e,r⟩ _,h=>by simp at h;exact ⟨p,_,by rw [<- h,e],rfl,r⟩
 | _,_,i+1,_,Paired.cons _ t,h=>by
   obtain ⟨p,a,H,c,d⟩:=Refs.get (i:=i) t (by simpa using h)
   exact ⟨p,a,H,by simpa using c,d⟩
abbrev Jz (K:aA) (H:Hp):ay->List (bj)->Prop:=Refs λ t c=>bR K H t (c.map ao)
abbrev nl (K:aA) (H:Hp):ay->List cm->Prop:=Refs (gc K H)
def MQ (m:ap) (s:cm):Prop:=∀ i b,i<m.rows.length->(b=true->m.has i=true)->fK 20000 (lF m i s.bN b)/\fK 20000 (lu m i s.bN b)
section
variable (P:bi) (w:aV) (K:aA) (C CR:ak)
inductive EE (vs:ay) (H:Hp) (Q:VK) (_E:XK):Prop|mk (p1 p2 a b c d:_) (_:vs=[.ref p1,.ref p2]) (_:bR K H p1 [.int a,.int b]) (_:bR K H p2 [.int c,.int d]) (_:Bd 20000 a) (_:Bd 20000 b) (_:Bd 20000 c) (_:Bd 20000 d) (_:Q (.bl (decide (a * d<c * b))) H)
inductive BY (vs:ay) (H:Hp) (Q:VK) (_E:XK):Prop|mk (a fp m:_) (i:Nat) (r v1 v2 f g:_) (_:vs=[.ref a,ao i,v1,v2]) (_:aN K C H a fp m) (_:m.rows[i]?=some r) (_:Dn K H (eX f) v1) (_:Dn K H (eX g) v2) (_:fK 20000 f) (_:fK 20000 g) (_:∀ H',aE H H'->Q (.bl (mS r f g)) H')
inductive EY (vs:ay) (H:Hp) (Q:VK) (_E:XK):Prop|mk (a fp m:_) (i:Nat) (r v1 v2 f g:_) (_:vs=[.ref a,ao i,v1,v2]) (_:aN K C H a fp m) (_:m.rows[i]?=some r) (_:Dn K H (eX f) v1) (_:Dn K H (eX g) v2) (_:fK 20000 f) (_:fK 20000 g) (_:∀ p H',H p=none->aE H H'->H' p=some (.lst ((rh r f g).map ao))->Q (.ref p) H')
inductive BP (vs:ay) (H:Hp) (Q:VK) (_E:XK):Prop|mk (p xs rows:_) (_:vs=[.ref p]) (_:bh K H p xs) (_:Refs (λ q (r:bj)=>bh K H q (r.map ao)) xs rows) (_:rows.length<=4) (_:(∀ r∈rows,r.length<=6)) (_:∀ q ys H',aE H H'->H' q=some (.lst ys)->Jz K H' ys (bE rows)->Q (.ref q) H')
inductive Fe (vs:ay) (H:Hp) (Q:VK) (_E:XK):Prop|mk (x dx a fp m:_) (_:vs=[.ref x,.ref a]) (_:H x=some (.ins CR dx [])) (_:aN K C H a fp m) (_:x∉fp) (_:∀ d H',gw [x] H H'->aQ K H H'->H d=none->eJ P w K C CR [] H' x d a fp m 0->Q .cB H')
inductive Ew (vs:ay) (H:Hp) (Q:VK) (_E:XK):Prop|mk (x d a fp m c:_) (i:Nat) (pb bs f L:_) (_:vs=[.ref x,ao i,.ref pb,.bl f]) (_:eJ P w K C CR L H x d a fp m c) (_:(∀ b∈L,H b≠none)) (_:c<=16000000) (_:i<m.rows.length) (_:bR K H pb (bs.map ao)) (_:bs.length=m.rows.length) (_:(∀ j,j<m.rows.length->bs.getD j 0+1<(m.rows.getD j []).length)) (_:(f=true->∃ z,m.bq[i]?=some (some z))) (_:fK 20000 (lF m i bs f)) (_:fK 20000 (lu m i bs f)) (_:∀ v H',gw [d] H H'->aQ K H H'->eJ P w K C CR L H' x d a fp m (c+1)->fD L H' v (eI m i bs f)->Q v H')
inductive EC (vs:ay) (H:Hp) (Q:VK) (_E:XK):Prop|mk (x d a fp m c p s:_) (o:Nat) (L:_) (_:vs=[.ref x,.ref p,ao o]) (_:eJ P w K C CR L H x d a fp m c) (_:(∀ b∈L,H b≠none)) (_:c<=15000000) (_:gc K H p s) (_:ff m s) (_:o &&& m.ws=o) (_:(∀ out∈d5 m s o,cu m s o out)) (_:MQ m s) (_:((∃ out∈d5 m s o,jN m s (Ord.off o out)=false)->∀ H',gw [d] H H'->aQ K H H'->eJ P w K C CR L H' x d a fp m (c+64)->Q .cB H')) (_:((∀ out∈d5 m s o,jN m s (Ord.off o out)=true)->∀ q xs H',H q=none->gw [d] H H'->aQ K H H'->eJ P w K C CR L H' x d a fp m (c+64)->H' q=some (.lst xs)->nl K H' xs (sR m s o)->Q (.ref q) H'))
end
theorem C0 {L:bw}:∀ {acc:ay} {R:List (Option (bj))},Paired (fD L H) acc R->∀ v∈acc,v = .cB\/∃ a ys,v = .ref a/\H a=some (.lst ys)
 | _,_,Paired.nil,v,h=>absurd h aaf
 | _,r::_,Paired.cons a t,v,h=>by
   rcases aad.mp h with e|h
   . subst e
     cases r with
     | none=>exact .inl a
     | some l=>obtain ⟨q,e,Z,b⟩:=a;exact .inr ⟨q,_,e,b⟩
   . exact C0 t v h
theorem uf {L:bw}:∀ {acc:ay} {R:List (Option (bj))},Paired (fD L H) acc R->(V.cB∈acc↔none∈R)
 | _,_,Paired.nil=>by simp
 | _,r::_,Paired.cons a t=>by
   rw [aad,aad,uf t]
   cases r with
   | none=>have a:_=V.cB:=a;rw [a];simp
   | some l=>obtain ⟨q,e,Z⟩:=a;rw [e];simp
theorem yW {L:bw}:∀ {acc:ay} {R:List (Option (bj))},Paired (fD L H) acc R->none∉R->Refs (λ q (r:bj)=>H q=some (.lst (r.map ao))) acc (R.map λ r=>r.getD [])
 | _,_,Paired.nil,_=>Paired.nil
 | _,r::_,Paired.cons a t,h=>by
   rw [aad,abF] at h
   cases r with
   | none=>exact absurd rfl h.1
   | some l=>obtain ⟨q,e,Z,b⟩:=a;exact Paired.cons ⟨q,e,b⟩ (yW t h.2)
def wD {m:ap} {s:cm} {b:Nat}:none∈(List.range m.rows.length).map (vR m s b)↔jN m s b=false:=by
 unfold jN
 rw [List.all_eq_false,aaH]
 constructor
 . rintro ⟨i,h,e⟩;exact ⟨i,h,by rw [e];decide⟩
 . rintro ⟨i,h,e⟩;exact ⟨i,h,by simpa using e⟩
def JE (m:ap) (s:cm) (b:Nat):((List.range m.rows.length).map (vR m s b)).map (λ r=>r.getD [])=gC m s b:=by
 unfold gC
 rw [abJ]
 rfl
def zX {m:ap} (w:m.Wf) {s:cm} {b:Nat}:∀ r∈gC m s b,r.length<=6:=λ r H=>by
 obtain ⟨i,h,rfl⟩:=aaH.mp H
 have h:=aaJ.mp h
 have a:=w.len _ (aay h)
 unfold vR eI
 rw [UE,aJ h]
 split
 .
  have:=mr m.rows[i] (lF m i s.bN (b.testBit i)) (lu m i s.bN (b.testBit i)) (m.rows[i].length - 1)
  show (rh m.rows[i] _ _).length<=6
  unfold rh
  lia
 . exact aaT _
def jY {m:ap} (w:m.Wf) (h:m.rows.length<=4) {s:cm} {o:Nat} (O:Nat):(iM m s o O).length<=1296:=by
 unfold iM
 rw [OG]
 have l:(gC m s (Ord.off o O)).length=m.rows.length:=by unfold gC;rw [OG,aaq]
 have:=jq (zX w (s:=s) (b:=Ord.off o O)) 4
 rw [abc (by lia)] at this
 exact this
def oX {n:Nat} (h:n<16):(Bit.rooms n).length<=8/\(Bit.parts (Bit.rooms n)).length<=16:=by
 have:∀ b:Fin 16,(Bit.rooms b.val).length<=8/\(Bit.parts (Bit.rooms b.val)).length<=16:=by decide +kernel
 exact this ⟨n,h⟩
def iX {K:aA} {p:ak} {s:cm} (h:gc K H p s):gH K H (mY s) p:=by
 obtain ⟨g,j,i,b,c,e,f⟩:=h
 refine ⟨mY s,iE b (bA (qa c) (bA rfl (bA (qa e) (bA (qa f) (bA rfl fu))))),?_,ug (n:=2) ?_ (by decide),?_,?_⟩
 . simp only [mY,kd,yM,uW];rfl
 .
  intro d a
  simp only [aad,aaf,aaX] at a
  rcases a with rfl|rfl|rfl|rfl|rfl
  . exact pJ
  . exact trivial
  . exact pJ
  . exact pJ
  . exact trivial
 . simp only [mY,vN,vC,qo,jx];decide
 . simp only [mY,tw,mZ,qQ];rfl
def qz {n:Nat} (h:n<16):Bit.parts (Bit.rooms n)≠[]/\∀ o∈Bit.parts (Bit.rooms n),o<16/\o &&& n=o:=by
 have:∀ b:Fin 16,Bit.parts (Bit.rooms b.val)≠[]/\∀ o∈Bit.parts (Bit.rooms b.val),o<16/\o &&& b.val=o:=by decide +kernel
 exact this ⟨n,h⟩
def JY {m:ap} (w:m.Wf) (h:m.rows.length<=4) (s:cm) (o:Nat):(sR m s o).length<=16 * 1296:=by
 unfold sR
 have:=fE (l:=d5 m s o) (k:=1296) (jY w h (s:=s) (o:=o))
 have H:(d5 m s o).length<=16:=(oX (xK (s:=s) (o:=o) h)).2
 lia
inductive A9 (a b c d e f g h i:Prop):Prop|mk (_:a) (_:b) (_:c) (_:d) (_:e) (_:f) (_:g) (_:h) (_:i)
def kX (m:ap) (s:cm) (o:Nat):Option (List cm):=if (d5 m s o).all (λ O=>jN m s (Ord.off o O))=true then some (sR m s o) else none
abbrev bS:=List (Option (bj))
def pC (met:List cm):Option (List cm)->Option (bj)->Prop
 | none,none=>True
 | some l,some J=>Paired (λ j s=>met[j]?=some s) J l
 | _,_=>False
theorem pC.more {met m:List cm}:∀ {a:Option (List cm)} {b:Option (bj)},pC met a b->pC (met++m) a b
 | none,none,_=>trivial
 | some _,some _,h=>Paired.yc h λ j s e=>by rw [aal (Ba.mp e).1];exact e
 | none,some _,h=>h.elim
 | some _,none,h=>h.elim
structure rN where
 met:List cm
 fL:List (bj)
 rows:List bS
structure gu (m:ap) (g:rN):Prop where
 nd:g.met.Nodup
 lo:g.fL.length<=g.met.length
 lr:g.rows.length<=g.met.length
 st:∀ s∈g.met,ff m s
 fL:∀ (i:Nat) (s:cm) (o:bj),g.met[i]?=some s->g.fL[i]?=some o->o=s.orders m
 rows:∀ (i:Nat) (s:cm) (r:bS),g.met[i]?=some s->g.rows[i]?=some r->Paired (λ o b=>pC g.met (kX m s o) b) (s.orders m) r
def rN.add (g:rN) (s:cm):rN:={ g with met:=g.met++[s]}
theorem gu.add {m:ap} {g:rN} {s:cm} (h:gu m g) (S:ff m s) (n:s∉g.met):gu m (g.add s):=by
 have O:∀ {i x},i<g.met.length->(g.met++[s])[i]?=some x->g.met[i]?=some x:=λ {i x} f e=>by
   rw [aal f] at e;exact e
 refine ⟨acM.mpr ⟨h.nd,abK _ _,λ a H b d e=>n (by rw [<- aae.mp d,<- e];exact H)⟩,?_,?_,λ x j=>?_,λ i x o c E=>?_,λ i x r c E=>?_⟩
 .
  show g.fL.length<=(g.met++[s]).length
  rw [aac]
  have:=h.lo
  lia
 .
  show g.rows.length<=(g.met++[s]).length
  rw [aac]
  have:=h.lr
  lia
 . rcases aar.mp j with z|z
   . exact h.st x z
   . rw [aae.mp z];exact S
 . have E:g.fL[i]?=some o:=E
   exact h.fL i x o (O (by have:=(Ba.mp E).1;have:=h.lo;lia) c) E
 . exact Paired.yc (h.rows i x r (O (by have:=(Ba.mp E).1;have:g.rows.length<=g.met.length:=h.lr;have E:g.rows[i]?=some r:=E;have:=(Ba.mp E).1;lia) c) E) λ Z Z q=>q.more
def tV:Option (bj)->PyData
 | none => .none
 | some l => .list (l.map jx)
def rT (r:bS):PyData:=.list (r.map tV)
abbrev Qf (pm po pr pd:ak) (lim:Int):List (Str×V):=[("met",.ref pm),("orders",.ref po),("rows",.ref pr),("places",.ref pd),("limit",.int lim)]
def An (a:oO) (met:List cm):Prop:=(∀ i s,met[i]?=some s->iq a (mY s)=some (ao i))/\∀ s,s∉met->iq a (mY s)=none
structure d8 (P:bi) (w:aV) (K:aA) (CG:ak) (L:bw) (H:Hp) (x pm po pr pd:ak) (lim:Int) (g:rN):Prop where
 ins:∃ dx,H x=some (.ins CG dx (Qf pm po pr pd lim))
 met:∃ vm,H pm=some (.lst vm)/\nl K H vm g.met
 fL:∃ vo,H po=some (.lst vo)/\bC K (dH H (L++[pm,po,pr])) (g.fL.map λ l => .list (l.map jx)) vo
 rows:∃ vr,H pr=some (.lst vr)/\bC K (dH H (L++[pm,po,pr])) (g.rows.map rT) vr
 pls:∃ aC,ix P w K H pd aC/\aC.length<=g.met.length/\An aC g.met
 n1:pm≠po
 n2:pm≠pr
 n3:po≠pr
def wO {s t:cm} (h:mY s=mY t):s=t:=by
 have h:=acb h
 obtain ⟨H,h⟩:=abN h
 obtain ⟨d,h⟩:=abN h
 obtain ⟨f,h⟩:=abN h
 obtain ⟨g,h⟩:=abN h
 obtain ⟨i,Z⟩:=abN h
 cases s
 cases t
 have e:=mj (acb H)
 have E:=adj (acX d)
 have a:=mj (acb f)
 have b:=mj (acb g)
 have c:=adj (acX i)
 simp only at e E a b c
 rw [e,E,a,b,c]
def An.nil:An [] []:=⟨λ i s h=>by simp at h,λ Z Z=>rfl⟩
def An.add {A:oO} {met:List cm} {s:cm} {b:ak} (h:An A met) (n:s∉met):An (fQ A (mY s) b (ao met.length)) (met++[s]):=by
 refine ⟨λ i t e=>?_,λ t a=>?_⟩
 .
  rw [lG]
  by_cases q:mY t=mY s
  .
   rw [aaE q]
   obtain rfl:=wO q
   by_cases H:i<met.length
   . rw [aal H] at e
     exact absurd (aag e) n
   . have:=(Ba.mp e).1
     rw [aac,aaw] at this
     rw [show i=met.length by lia]
  .
   rw [aaA q]
   by_cases H:i<met.length
   . rw [aal H] at e
     exact h.1 i t e
   . rw [aaS (by lia)] at e
     have:=aae.mp (aag e)
     exact absurd (by rw [this]) q
 . rw [aar,aae,abF] at a
   rw [lG,aaA (λ q=>a.2 (wO q))]
   exact h.2 t a.1
section
variable {P:bi} {w:aV} {K:aA} {CG:ak} {L:bw} {H H':Hp} {x pm po pr pd:ak} {lim:Int} {g:rN}
theorem d8.same (h:d8 P w K CG L H x pm po pr pd lim g) (s:aE H H'):d8 P w K CG L H' x pm po pr pd lim g:=by
 obtain ⟨⟨f,i⟩,⟨v,a,A⟩,⟨V,B,c⟩,⟨k,C,d⟩,⟨b,D,e⟩,n,N,j⟩:=h
 exact ⟨⟨f,s _ _ i⟩,⟨v,s _ _ a,A.imp λ p x h=>h.same s⟩,⟨V,s _ _ B,bC.same (uc s) _ c⟩,⟨k,s _ _ C,bC.same (uc s) _ d⟩,⟨b,D.same s,e⟩,n,N,j⟩
end
def ma:HO->Bool
 | .lst _=>false
 | .tup _=>false
 | .Ak _ _=>false
 | _=>true
section
variable {K:aA} {H:Hp} {d:ak}
def yb {a:ak} {u:HO} (b:∀ o,H d=some o->ma o=true) (e:H a=some u) (h:ma u=false):a∉[d]:=λ z=>by
 rw [aae.mp z] at e
 have:=b u e
 rw [h] at this
 cases this
def bh.vA (b:∀ o,H d=some o->ma o=true) {a:ak} {xs:ay} (h:bh K H a xs):bh K (dH H [d]) a xs:=by
 rcases h with (h|⟨o,h⟩)|h
 . exact .inl (.inl (mv h (yb b h rfl)))
 . exact .inl (.inr ⟨o,mv h (yb b h rfl)⟩)
 . exact .inr h
def bR.vA (b:∀ o,H d=some o->ma o=true) {a:ak} {xs:ay} (h:bR K H a xs):bR K (dH H [d]) a xs:=by
 rcases h with (h|⟨o,h⟩)|h
 . exact .inl (.inl (mv h (yb b h rfl)))
 . exact .inl (.inr ⟨o,mv h (yb b h rfl)⟩)
 . exact .inr h
mutual
theorem Dn.vA (b:∀ o,H d=some o->ma o=true):∀ (e:PyData) {v:V},Dn K H e v->Dn K (dH H [d]) e v
 | .none,_,h=>by rw [Dn] at h |-;exact h
 | .bool _,_,h=>by rw [Dn] at h |-;exact h
 | .int _,_,h=>by rw [Dn] at h |-;exact h
 | .str _,_,h=>by rw [Dn] at h |-;exact h
 | .list D,_,h=>by
   rw [Dn] at h |-
   obtain ⟨a,xs,e,q,r⟩:=h
   exact ⟨a,xs,e,q.vA b,bC.vA b D r⟩
 | .tuple D,_,h=>by
   rw [Dn] at h |-
   obtain ⟨a,xs,e,q,r⟩:=h
   exact ⟨a,xs,e,q.vA b,bC.vA b D r⟩
 | .dict _,_,h=>by rw [Dn] at h;exact h.elim
theorem bC.vA (a:∀ o,H d=some o->ma o=true):∀ (D:List PyData) {xs:ay},bC K H D xs->bC K (dH H [d]) D xs
 | [],_,h=>by rw [bC] at h |-;exact h
 | e::D,_,h=>by
   rw [bC] at h |-
   obtain ⟨x,r,E,q,t⟩:=h
   exact ⟨x,r,E,Dn.vA a e q,bC.vA a D t⟩
end
def bC.xz {L:bw} (f:H d=some o) (g:ma o=true) (b:∀ c u,H c=some u->c≠d->c∉L->H' c=some u) {D:List PyData} {xs:ay} (h:bC K (dH H L) D xs):bC K (dH H' L) D xs:=by
 have a:=bC.vA (d:=d) (λ u e=>by
   unfold dH at e
   split at e
   . cases e
   . rw [f] at e;cases e;exact g) D h
 refine bC.same (λ c u e=>?_) D a
 unfold dH at e |-
 split at e
 . cases e
 .
  rename_i n
  split at e
  . cases e
  . rename_i N
    rw [aaA N]
    exact b c u e (λ z=>n (aae.mpr z)) N
def Eo {d:ak} {L:bw} (b:gw [d] H H'):∀ c u,H c=some u->c≠d->c∉L->H' c=some u:=λ c u e n Z=>b c u e λ z=>n (aae.mp z)
end
section
variable {P:bi} {w:aV} {K:aA} {CG:ak} {L:bw} {H H':Hp} {x pm po pr pd:ak} {lim:Int} {g:rN}
def d8.but {d:ak} {kd:oO} (h:d8 P w K CG L H x pm po pr pd lim g) (a:H d=some (kW P w d kd)) (v:d≠pd) (b:gw [d] H H') (t:aQ K H H'):d8 P w K CG L H' x pm po pr pd lim g:=by
 obtain ⟨⟨o,f⟩,⟨V,A,i⟩,⟨y,B,k⟩,⟨E,C,l⟩,⟨j,D,m⟩,q,r,s⟩:=h
 have N:∀ {c u},H c=some u->(∀ F,u ≠ .ext F)->c∉[d]:=λ e n z=>by
   rw [aae.mp z,a] at e
   exact n _ (aap e).symm
 refine ⟨⟨o,b _ _ f (N f nofun)⟩,⟨V,b _ _ A (N A nofun),i.imp λ p x h=>h.ts t⟩,⟨y,b _ _ B (N B nofun),bC.xz a rfl (Eo b) k⟩,⟨E,b _ _ C (N C nofun),bC.xz a rfl (Eo b) l⟩,⟨j,D.dI t ?_,m⟩,q,r,s⟩
 rw [D.ob]
 exact b _ _ D.ob (by simp only [aae];exact acv v)
end
def Bg (m:ap) (L:Int):Prop:=∀ l:List cm,l.Nodup->(∀ s∈l,ff m s)->(l.length:Int)<=L
structure vh (g g':rN):Prop where
 met:∃ more,g'.met=g.met++more
 fL:g'.fL=g.fL
 rows:g'.rows=g.rows
def vh.refl (g:rN):vh g g:=⟨⟨[],(aa9 _).symm⟩,rfl,rfl⟩
theorem vh.trans {a b c:rN} (h:vh a b) (k:vh b c):vh a c:=by
 obtain ⟨⟨m,e⟩,o,r⟩:=h
 obtain ⟨⟨M,E⟩,O,R⟩:=k
 exact ⟨⟨m++M,by rw [E,e,acf]⟩,O.trans o,R.trans r⟩
theorem vh.add (g:rN) (s:cm):vh g (g.add s):=⟨⟨[s],rfl⟩,rfl,rfl⟩
def vh.at {g g':rN} (h:vh g g') {j:Nat} {s:cm} (e:g.met[j]?=some s):g'.met[j]?=some s:=by
 obtain ⟨⟨m,E⟩,Z⟩:=h
 rw [E,aal (Ba.mp e).1]
 exact e
section
variable (P:bi) (w:aV) (K:aA) (CG:ak)
inductive Kv (vs:ay) (H:Hp) (Q:VK) (_E:XK):Prop|mk (x p pm po pr pd lim g m s L:_) (_:vs=[.ref x,.ref p]) (_:d8 P w K CG L H x pm po pr pd lim g) (_:gu m g) (_:Bg m lim) (_:lim<=2000) (_:gc K H p s) (_:ff m s) (_:∀ j g' H',gw [pm,pd] H H'->aQ K H H'->d8 P w K CG L H' x pm po pr pd lim g'->vh g g'->gu m g'->g'.met[j]?=some s->(g'=g\/g'=g.add s)->Q (ao j) H')
inductive Cb (vs:ay) (H:Hp) (Q:VK) (_E:XK):Prop|mk (x v pm po pr pd lim g m L:_) (_:vs=[.ref x,v]) (_:d8 P w K CG L H x pm po pr pd lim g) (_:gu m g) (_:Bg m lim) (_:lim<=2000) (_:((v = .cB/\Q .cB H)\/∃ q xs l,v = .ref q/\H q=some (.lst xs)/\q≠pm/\nl K H xs l/\(∀ s∈l,ff m s)/\l.length<=100000/\∀ D js g' H',H D=none->gw [pm,pd] H H'->aQ K H H'->d8 P w K CG L H' x pm po pr pd lim g'->vh g g'->gu m g'->H' D=some (.lst (js.map ao))->Paired (λ j s=>g'.met[j]?=some s) js l->Q (.ref D) H'))
end
section
variable {P:bi} {w:aV} {K:aA} {CG:ak} {L:bw} {H:Hp} {x pm po pr pd p:ak} {lim:Int} {g:rN} {s:cm} {vm:ay} {aC:oO}
theorem d8.add (h:d8 P w K CG L H x pm po pr pd lim g) (f:H pm=some (.lst vm)) (I:nl K H vm g.met) (a:ix P w K H pd aC) (Y:aC.length<=g.met.length) (Q:An aC g.met) (o:gc K H p s) (n:s∉g.met) :
   d8 P w K CG L (upd (upd H pd (kW P w pd (fQ aC (mY s) p (ao g.met.length)))) pm (.lst (vm++[.ref p]))) x pm po pr pd lim (g.add s)/\gw [pm,pd] H (upd (upd H pd (kW P w pd (fQ aC (mY s) p (ao g.met.length)))) pm (.lst (vm++[.ref p]))) /\
   aQ K H (upd (upd H pd (kW P w pd (fQ aC (mY s) p (ao g.met.length)))) pm (.lst (vm++[.ref p]))):=by
 obtain ⟨⟨D,b⟩,Z,⟨V,i,M⟩,⟨F,C,O⟩,Z,r,y,R⟩:=h
 have m:=iX o
 have A:pm≠pd:=λ z=>by rw [z,a.ob] at f;cases f
 have nx:x≠pd:=λ z=>by rw [z,a.ob] at b;cases b
 have N:x≠pm:=λ z=>by rw [z,f] at b;cases b
 have S:po≠pd:=λ z=>by rw [z,a.ob] at i;cases i
 have U:pr≠pd:=λ z=>by rw [z,a.ob] at C;cases C
 have T:aQ K H (upd H pd (kW P w pd (fQ aC (mY s) p (ao g.met.length)))):=bU a.ob rfl
 have B:gw [pd] H (upd H pd (kW P w pd (fQ aC (mY s) p (ao g.met.length)))):=λ c u e z=>by rw [ar (λ q=>z (aae.mpr q))];exact e
 have W:=a.put (v:=ao g.met.length) m
 have G:(upd H pd (kW P w pd (fQ aC (mY s) p (ao g.met.length)))) pm=some (.lst vm):=by rw [ar A];exact f
 have J:=bC.xz a.ob rfl (Eo B) M
 have k:=bC.xz a.ob rfl (Eo B) O
 have X:(upd H pd (kW P w pd (fQ aC (mY s) p (ao g.met.length)))) x=some (.ins CG D (Qf pm po pr pd lim)):=by rw [ar nx];exact b
 have j:(upd H pd (kW P w pd (fQ aC (mY s) p (ao g.met.length)))) po=some (.lst V):=by rw [ar S];exact i
 have l:(upd H pd (kW P w pd (fQ aC (mY s) p (ao g.met.length)))) pr=some (.lst F):=by rw [ar U];exact C
 generalize upd H pd (kW P w pd (fQ aC (mY s) p (ao g.met.length)))=d at *
 have t:aQ K d (upd d pm (.lst (vm++[.ref p]))):=bU G rfl
 have E:dH (upd d pm (.lst (vm++[.ref p]))) (L++[pm,po,pr])=dH d (L++[pm,po,pr]):=mD (by simp)
 refine ⟨⟨⟨D,by rw [ar N];exact X⟩,⟨_,ag,?_⟩,⟨V,by rw [ar r.symm];exact j,by rw [E];exact J⟩,⟨F,by rw [ar y.symm];exact l,by rw [E];exact k⟩,⟨_,W.dI t (ar A.symm),?_,Q.add n⟩,r,y,R⟩,λ c u e z=>?_,T.trans t⟩
 . exact Refs.snoc (I.imp λ p s h=>h.ts (T.trans t)) (o.ts (T.trans t))
 .
  refine aaz (tW ..) ?_
  show _<=(g.met++[s]).length
  rw [aac,aaw]
  lia
 . simp only [aad,aaf,aaX,abF] at z
   rw [ar z.1]
   exact B c u e (by simp [z.2])
def d8.new (h:d8 P w K CG L H x pm po pr pd lim g) {D:ak} (f:H D=none):d8 P w K CG (D::L) H x pm po pr pd lim g:=by
 obtain ⟨i,m,⟨v,B,a⟩,⟨V,c,C⟩,d,n,N,j⟩:=h
 have S:aE (dH H (L++[pm,po,pr])) (dH H (D::L++[pm,po,pr])):=λ b o e=>by
   unfold dH at e |-
   split at e
   . cases e
   .
    rename_i q
    rw [aaA]
    . exact e
    . intro z
      rcases aad.mp z with z|z
      . rw [z,f] at e;cases e
      . exact q z
 exact ⟨i,m,⟨v,B,bC.same S _ a⟩,⟨V,c,bC.same S _ C⟩,d,n,N,j⟩
def d8.less (h:d8 P w K CG L H x pm po pr pd lim g) {L':bw} (f:∀ b∈L',b∈L):d8 P w K CG L' H x pm po pr pd lim g:=by
 obtain ⟨i,m,⟨v,B,a⟩,⟨V,c,C⟩,d,n,N,j⟩:=h
 have S:aE (dH H (L++[pm,po,pr])) (dH H (L'++[pm,po,pr])):=λ b o e=>by
   unfold dH at e |-
   split at e
   . cases e
   .
    rename_i q
    rw [aaA]
    . exact e
    . intro z
      refine q (aar.mpr ?_)
      rcases aar.mp z with z|z
      . exact .inl (f _ z)
      . exact .inr z
 exact ⟨i,m,⟨v,B,bC.same S _ a⟩,⟨V,c,bC.same S _ C⟩,d,n,N,j⟩
def d8.write (h:d8 P w K CG L H x pm po pr pd lim g) {D:ak} {xs ys:ay} (a:H D=some (.lst xs)) (l:D∈L) (nm:D≠pm) (q:D≠po) (r:D≠pr):d8 P w K CG L (upd H D (.lst ys)) x pm po pr pd lim g:=by
 obtain ⟨⟨k,b⟩,⟨vm,A,c⟩,⟨v,B,f⟩,⟨V,C,i⟩,⟨aC,d,j⟩,n,N,m⟩:=h
 have t:aQ K H (upd H D (.lst ys)):=bU a rfl
 have e:dH (upd H D (.lst ys)) (L++[pm,po,pr])=dH H (L++[pm,po,pr]):=mD (aar.mpr (.inl l))
 have nx:x≠D:=λ z=>by rw [z,a] at b;cases b
 have o:pd≠D:=λ z=>by have:=d.ob;rw [z,a] at this;cases this
 exact ⟨⟨k,by rw [ar nx];exact b⟩,⟨vm,by rw [ar nm.symm];exact A,c.imp λ p x h=>h.ts t⟩,⟨v,by rw [ar q.symm];exact B,by rw [e];exact f⟩,⟨V,by rw [ar r.symm];exact C,by rw [e];exact i⟩,⟨aC,d.dI t (ar o),j⟩,n,N,m⟩
end
structure Lx (m:ap):Prop where
 h4:m.rows.length<=4
 sp:∀ s,ff m s->MQ m s
 tn:∀ s o,ff m s->o∈s.orders m->∀ out∈d5 m s o,cu m s o out
 nx:∀ s o x,ff m s->o∈s.orders m->x∈sR m s o->ff m x
def Lx.ow {m:ap} (h:Lx m) {s:cm} {o:Nat} (H:o∈s.orders m):o &&& m.ws=o:=((qz (ut h.h4)).2 o (aa3.mp H).1).2
def ue {m:ap} (h:m.rows.length<=4) (s:cm):(s.orders m).length<=16:=by
 have:=aa4 (s.FH m) (Bit.parts (Bit.rooms m.ws))
 have:=(oX (ut h)).2
 unfold cm.orders
 lia
def Gx {m:ap} {s:cm} {o:Nat} (h:∀ O∈d5 m s o,jN m s (Ord.off o O)=true):kX m s o=some (sR m s o):=by
 unfold kX
 rw [aaE (abC.mpr h)]
def Gc {m:ap} {s:cm} {o:Nat} (h:∃ O∈d5 m s o,jN m s (Ord.off o O)=false):kX m s o=none:=by
 unfold kX
 rw [aaA]
 intro z
 obtain ⟨O,H,a⟩:=h
 have:=abC.mp z O H
 rw [a] at this
 cases this
def rN.ord (g:rN) (l:bj):rN:={ g with fL:=g.fL++[l]}
def rN.row (g:rN) (r:bS):rN:={ g with rows:=g.rows++[r]}
theorem gu.ord {m:ap} {g:rN} {s:cm} (h:gu m g) (e:g.met[g.fL.length]?=some s):gu m (g.ord (s.orders m)):=by
 have b:=(Ba.mp e).1
 refine ⟨h.nd,?_,h.lr,h.st,λ i x o a E=>?_,h.rows⟩
 . show (g.fL++[s.orders m]).length<=g.met.length
   rw [aac,aaw];lia
 .
  have E:(g.fL++[s.orders m])[i]?=some o:=E
  by_cases H:i<g.fL.length
  . rw [aal H] at E
    exact h.fL i x o a E
  .
   have:=(Ba.mp E).1
   rw [aac,aaw] at this
   obtain rfl:i=g.fL.length:=by lia
   rw [aaU] at E
   have a:g.met[g.fL.length]?=some x:=a
   rw [e] at a
   cases a
   cases E
   rfl
theorem gu.row {m:ap} {g:rN} {s:cm} {r:bS} (h:gu m g) (e:g.met[g.rows.length]?=some s) (c:Paired (λ o b=>pC g.met (kX m s o) b) (s.orders m) r):gu m (g.row r):=by
 have d:=(Ba.mp e).1
 refine ⟨h.nd,h.lo,?_,h.st,h.fL,λ i x r' a E=>?_⟩
 . show (g.rows++[r]).length<=g.met.length
   rw [aac,aaw];lia
 .
  have E:(g.rows++[r])[i]?=some r':=E
  by_cases H:i<g.rows.length
  . rw [aal H] at E
    exact h.rows i x r' a E
  .
   have:=(Ba.mp E).1
   rw [aac,aaw] at this
   obtain rfl:i=g.rows.length:=by lia
   rw [aaU] at E
   have a:g.met[g.rows.length]?=some x:=a
   rw [e] at a
   cases a
   cases E
   exact c
inductive KP (P:bi) (w:aV) (K:aA) (C CG:ak) (vs:ay) (H:Hp) (Q:VK) (_E:XK):Prop|mk (x a pm po pr pd lim g m fp:_) (_:vs=[.ref x,.ref a]) (_:d8 P w K CG [] H x pm po pr pd lim g) (_:gu m g) (_:g.fL.length=g.rows.length) (_:Bg m lim) (_:lim<=2000) (_:Lx m) (_:aN K C H a fp m) (_:pm∉fp) (_:po∉fp) (_:pr∉fp) (_:pd∉fp) (_:∀ g' H',gw [pm,po,pr,pd] H H'->aQ K H H'->d8 P w K CG [] H' x pm po pr pd lim g'->gu m g'->g'.fL.length=g'.rows.length->g'.rows.length=g'.met.length->(∃ more,g'.met=g.met++more)->Q .cB H')
section
variable {P:bi} {w:aV} {K:aA} {CG:ak} {L:bw} {H:Hp} {x pm po pr pd q:ak} {lim:Int} {g:rN}
theorem d8.ord (h:d8 P w K CG L H x pm po pr pd lim g) {v:ay} {l:bj} (a:H po=some (.lst v)) (m:H q=some (.lst (l.map ao))) (s:q∉L++[pm,po,pr]):d8 P w K CG L (upd H po (.lst (v++[.ref q]))) x pm po pr pd lim (g.ord l):=by
 obtain ⟨⟨k,b⟩,⟨V,A,c⟩,⟨u,B,i⟩,⟨y,C,j⟩,⟨f,d,D⟩,n,o,N⟩:=h
 rw [a] at B
 cases B
 have t:aQ K H (upd H po (.lst (v++[.ref q]))):=bU a rfl
 have e:dH (upd H po (.lst (v++[.ref q]))) (L++[pm,po,pr])=dH H (L++[pm,po,pr]):=mD (by simp)
 have nx:x≠po:=λ z=>by rw [z,a] at b;cases b
 have r:pd≠po:=λ z=>by have:=d.ob;rw [z,a] at this;cases this
 refine ⟨⟨k,by rw [ar nx];exact b⟩,⟨V,by rw [ar n];exact A,c.imp λ p x h=>h.ts t⟩,⟨_,ag,?_⟩,⟨y,by rw [ar N.symm];exact C,by rw [e];exact j⟩,⟨f,d.dI t (ar r),D⟩,n,o,N⟩
 rw [e]
 show bC K _ ((g.fL++[l]).map _) _
 rw [aah]
 exact bC.snoc i (Dm (bh.of (mv m s)))
theorem d8.row (h:d8 P w K CG L H x pm po pr pd lim g) {v acc:ay} {r:bS} (a:H pr=some (.lst v)) (l:H q=some (.lst acc)) (u:q∉L++[pm,po,pr]) (s:bC K (dH H (L++[pm,po,pr])) (r.map tV) acc):d8 P w K CG L (upd H pr (.lst (v++[.ref q]))) x pm po pr pd lim (g.row r):=by
 obtain ⟨⟨k,b⟩,⟨V,A,f⟩,⟨y,B,j⟩,⟨E,c,C⟩,⟨i,d,D⟩,m,n,N⟩:=h
 rw [a] at c
 cases c
 have t:aQ K H (upd H pr (.lst (v++[.ref q]))):=bU a rfl
 have e:dH (upd H pr (.lst (v++[.ref q]))) (L++[pm,po,pr])=dH H (L++[pm,po,pr]):=mD (by simp)
 have nx:x≠pr:=λ z=>by rw [z,a] at b;cases b
 have o:pd≠pr:=λ z=>by have:=d.ob;rw [z,a] at this;cases this
 refine ⟨⟨k,by rw [ar nx];exact b⟩,⟨V,by rw [ar n];exact A,f.imp λ p x h=>h.ts t⟩,⟨y,by rw [ar N];exact B,by rw [e];exact j⟩,⟨_,ag,?_⟩,⟨i,d.dI t (ar o),D⟩,m,n,N⟩
 rw [e]
 show bC K _ ((g.rows++[r]).map _) _
 rw [aah]
 exact bC.snoc C (Ha (bh.of (mv l u)) s)
end
section
variable {P:bi} {w:aV} {K:aA} {C CR:ak} {L L':bw} {H H':Hp} {x d a:ak} {fp:bw} {m:ap} {c:Nat}
def Fb (h:aN K C H a fp m) (st:∀ b o,H b=some o->b∈fp->H' b=some o) (t:aQ K H H'):aN K C H' a fp m:=by
 obtain ⟨⟨O,d,p,f,k,V,I,L,A,rfl,u,J,r,y,G,s,N,w,x,l,n,q,D,F⟩,Q,z,B,E⟩:=h
 have g:∀ {c o},H c=some o->c∈[a,O,d,p,f,k]->H' c=some o:=λ {c o} e v=>st c o e v
 exact ⟨⟨O,d,p,f,k,V,I,L,A,rfl,g u (by simp),g J (by simp),g r (by simp),g y (by simp),g G (by simp),g s (by simp),N,w,x,ku t l,je t n,gO t q,λ i j=>(D i j).ts t,F⟩,Q,z,B,E⟩
def eJ.frame (r:eJ P w K C CR L H x d a fp m c) {M:bw} (b:gw M H H') (t:aQ K H H') (nx:x∉M) (G:d∉M) (nf:∀ c∈fp,c∉M) (k:∀ c∈M,c∈L\/∀ xs,H c≠some (.lst xs)):eJ P w K C CR L H' x d a fp m c:=by
 obtain ⟨⟨D,F⟩,p,n,A,g,s,E⟩:=r
 refine ⟨⟨D,b _ _ F nx⟩,Fb p (λ c u e o=>b c u e (nf c o)) t,n,A,g.dI t ?_,s,λ i B f v e=>?_⟩
 . rw [g.ob];exact b _ _ g.ob G
 .
  have:=E i B f v e
  cases z:eI m i B f with
  | none=>rw [z] at this;exact this
  | some l =>
    rw [z] at this
    obtain ⟨q,e,N,j⟩:=this
    exact ⟨q,e,N,b _ _ j λ y=>(k q y).elim N λ h=>h _ j⟩
def eJ.zero (r:eJ P w K C CR L H x d a fp m 0):eJ P w K C CR L' H x d a fp m 0:=by
 obtain ⟨i,b,n,A,c,h,g⟩:=r
 obtain rfl:A=[]:=aaZ (Nat.le_zero.mp h)
 exact ⟨i,b,n,[],c,h,λ i B f v e=>by cases e⟩
end
inductive IA (P:bi) (w:aV) (K:aA) (C CG:ak) (vs:ay) (H:Hp) (Q:VK) (_E:XK):Prop|mk (x dx a q lim fp m xs l:_) (_:vs=[.ref x,.ref a,.ref q,.int lim]) (_:H x=some (.ins CG dx [])) (_:aN K C H a fp m) (_:x∉fp) (_:Lx m) (_:Bg m lim) (_:lim<=2000) (_:H q=some (.lst xs)) (_:nl K H xs l) (_:(∀ s∈l,ff m s)) (_:∀ pm po pr pd g H',gw [x] H H'->aQ K H H'->(∀ b∈[pm,po,pr,pd],H b=none)->d8 P w K CG [] H' x pm po pr pd lim g->gu m g->g.fL.length=g.rows.length->g.rows.length=g.met.length->(∀ s∈l,s∈g.met)->(∀ s r,l=s::r->g.met[0]?=some s)->Q .cB H')
structure jJ where
 bG:List (List (Option Nat))
 dh:bj
 bF:List (Option Nat)
 queue:bj
def nL (rows:List bS):Nat->Nat->Prop
 | 0,p=>rows[p]?=some []
 | k+1,p=>∃ r,rows[p]?=some r/\∀ (c:Nat) (v:Option (bj)),r[c]?=some v->v=none\/∃ J,v=some J/\∃ j∈J,nL rows k j
theorem nL.succ {rows:List bS}:∀ {k p:Nat},nL rows k p->nL rows (k+1) p
 | 0,p,h=>⟨[],h,λ c v e=>by simp at e⟩
 | k+1,p,⟨r,e,h⟩=>⟨r,e,λ c v E=>(h c v E).imp id λ ⟨J,a,j,H,q⟩=>⟨J,a,j,H,q.succ⟩⟩
def nL.mono {rows:List bS} {k n p:Nat} (h:nL rows k p) (l:k<=n):nL rows n p:=by
 obtain ⟨d,rfl⟩:=Nat.exists_eq_add_of_le l
 induction d with
 | zero=>exact h
 | succ d i=>exact (i (abQ _ _)).succ
def tU (rows:List bS) (b:List (Option Nat)) (p c t:Nat):Prop:=∃ r:bS,rows[p]?=some r/\(r[c]?=some none/\t=0\/∃ J,r[c]?=some (some J)/\∃ j∈J,b[j]?=some (some t))
structure ia (rows:List bS) (S:jJ) (cur:Nat):Prop where
 ll:S.bG.length=rows.length
 lg:S.dh.length=rows.length
 lk:S.bF.length=rows.length
 sh:∀ (p:Nat) l r,S.bG[p]?=some l->rows[p]?=some r->l.length=r.length
 go:∀ (p:Nat) l n,S.bG[p]?=some l->S.dh[p]?=some n->n=l.countP Option.isNone
 rk:∀ (p:Nat) n,S.dh[p]?=some n->(n=0↔∃ k,S.bF[p]?=some (some k))
 qu:∀ p,p∈S.queue↔∃ k,S.bF[p]?=some (some k)
 nd:S.queue.Nodup
 z:∀ p:Nat,rows[p]?=some []↔S.bF[p]?=some (some 0)
 lo:∀ (p:Nat) l (c:Nat) t,S.bG[p]?=some l->l[c]?=some (some t)->t<=cur
 ls:∀ (p:Nat) l (c:Nat) t,S.bG[p]?=some l->l[c]?=some (some t)->tU rows S.bF p c t
 top:∀ (p:Nat) t l,S.bF[p]?=some (some (t+1))->S.bG[p]?=some l->(∀ (c:Nat) t',l[c]?=some (some t')->t'<=t)/\∃ c:Nat,l[c]?=some (some t)
 le:∀ (p:Nat) k,S.bF[p]?=some (some k)->k<=cur+1
 Xv:S.queue.Pairwise λ a b=>∀ x y,S.bF[a]?=some (some x)->S.bF[b]?=some (some y)->x<=y
def jJ.fin (S:jJ) (p c t:Nat) (l:List (Option Nat)) (n:Nat):jJ:=⟨S.bG.set p (l.set c (some t)),S.dh.set p (n - 1),if n=1 then S.bF.set p (some (t+1)) else S.bF,if n=1 then S.queue++[p] else S.queue⟩
def cX {b:Type} {l:List b} {i j:Nat} {a x:b}:(l.set i a)[j]?=some x↔(i=j/\i<l.length/\x=a)\/(i≠j/\l[j]?=some x):=by
 rw [List.getElem?_set]
 by_cases h:i=j
 .
  rw [aaE h]
  by_cases H:i<l.length
  . rw [aaE H]
    exact ⟨λ e => .inl ⟨h,H,(aap e).symm⟩,λ e=>e.elim (λ e=>by rw [e.2.2]) λ e=>absurd h e.1⟩
  . rw [aaA H]
    exact ⟨λ e=>by simp at e,λ e=>e.elim (λ e=>absurd e.2.1 H) λ e=>absurd h e.1⟩
 . rw [aaA h]
   exact ⟨λ e => .inr ⟨h,e⟩,λ e=>e.elim (λ e=>absurd e.1 h) λ e=>e.2⟩
theorem ia.fin {rows:List bS} {S:jJ} {p c n:Nat} {l:List (Option Nat)} (h:ia rows S cur) (i:S.bG[p]?=some l) (J:S.dh[p]?=some n) (I:l[c]?=some none) (W:tU rows S.bF p c cur):ia rows (S.fin p c cur l n) cur:=by
 have K:c<l.length:=(Ba.mp I).1
 have T:l[c]=none:=(Ba.mp I).2
 have Y:p<S.bG.length:=(Ba.mp i).1
 have Kl:p<S.dh.length:=(Ba.mp J).1
 have Q:p<S.bF.length:=by rw [h.lk,<- h.ll];exact Y
 have D:=h.go p l n i J
 have n0:n≠0:=λ z=>by
   rw [z] at D
   exact abM.mp D.symm _ (aag I) rfl
 have N:∀ k,S.bF[p]?≠some (some k):=λ k e=>n0 ((h.rk p n J).mpr ⟨k,e⟩)
 have B:p∉S.queue:=λ z=>by obtain ⟨k,e⟩:=(h.qu p).mp z;exact N k e
 have f:∀ j k,(S.fin p c cur l n).bF[j]?=some (some k)↔(n=1/\j=p/\k=cur+1)\/S.bF[j]?=some (some k):=λ j k=>by
   by_cases H:n=1
   .
    simp only [jJ.fin,aaE H,cX]
    constructor
    . rintro (⟨rfl,Z,e⟩|⟨Z,e⟩)
      . exact .inl ⟨H,rfl,aap e⟩
      . exact .inr e
    . rintro (⟨Z,rfl,rfl⟩|e)
      . exact .inl ⟨rfl,Q,rfl⟩
      . exact .inr ⟨λ z=>N k (z ▸ e),e⟩
   . simp only [jJ.fin,aaA H]
     exact ⟨.inr,λ e=>e.elim (λ e=>absurd e.1 H) id⟩
 have U:∀ {j k},S.bF[j]?=some (some k)->(S.fin p c cur l n).bF[j]?=some (some k):=λ e=>(f _ _).mpr (.inr e)
 have X:∀ {M c' t'},tU rows S.bF M c' t'->tU rows (S.fin p c cur l n).bF M c' t':=λ ⟨r,A,q⟩=>⟨r,A,q.imp id λ ⟨js,V,j,hj,e⟩=>⟨js,V,j,hj,U e⟩⟩
 have F:∀ {j L},(S.fin p c cur l n).bG[j]?=some L->(j=p/\L=l.set c (some cur))\/(j≠p/\S.bG[j]?=some L):=λ e=>by
   rcases cX.mp e with ⟨rfl,Z,e⟩|⟨q,e⟩
   . exact .inl ⟨rfl,e⟩
   . exact .inr ⟨λ z=>q z.symm,e⟩
 have G:∀ {j m},(S.fin p c cur l n).dh[j]?=some m->(j=p/\m=n - 1)\/(j≠p/\S.dh[j]?=some m):=λ e=>by
   rcases cX.mp e with ⟨rfl,Z,e⟩|⟨q,e⟩
   . exact .inl ⟨rfl,e⟩
   . exact .inr ⟨λ z=>q z.symm,e⟩
 have qm:∀ j,j∈(S.fin p c cur l n).queue↔(n=1/\j=p)\/j∈S.queue:=λ j=>by
   by_cases H:n=1
   . simp only [jJ.fin,aaE H,aar,aae]
     exact ⟨λ e=>e.elim .inr λ e => .inl ⟨H,e⟩,λ e=>e.elim (λ e => .inr e.2) .inl⟩
   . simp only [jJ.fin,aaA H]
     exact ⟨.inr,λ e=>e.elim (λ e=>absurd e.1 H) id⟩
 have C:(l.set c (some cur)).countP Option.isNone=n - 1:=by
   rw [List.countP_set K,T,D];rfl
 refine ⟨?_,?_,?_,?_,?_,?_,?_,?_,?_,?_,?_,?_,?_,?_⟩
 . show (S.bG.set p _).length=_
   rw [abl];exact h.ll
 . show (S.dh.set p _).length=_
   rw [abl];exact h.lg
 .
  show (if n=1 then S.bF.set p (some (cur+1)) else S.bF).length=_
  split
  . rw [abl];exact h.lk
  . exact h.lk
 .
  intro j L r e A
  rcases F e with ⟨rfl,rfl⟩|⟨Z,e⟩
  . rw [abl];exact h.sh _ _ _ i A
  . exact h.sh _ _ _ e A
 .
  intro j L m e d
  rcases F e with ⟨rfl,rfl⟩|⟨q,e⟩
  . rcases G d with ⟨Z,rfl⟩|⟨q,Z⟩
    . exact C.symm
    . exact absurd rfl q
  . rcases G d with ⟨z,Z⟩|⟨Z,d⟩
    . exact absurd z q
    . exact h.go _ _ _ e d
 .
  intro j m d
  rcases G d with ⟨rfl,rfl⟩|⟨q,d⟩
  . refine ⟨λ z=>⟨cur+1,(f _ _).mpr (.inl ⟨by lia,rfl,rfl⟩)⟩,λ ⟨k,e⟩=>?_⟩
    rcases (f _ _).mp e with ⟨e,Z⟩|e
    . lia
    . exact absurd e (N k)
  . refine (h.rk j m d).trans ⟨λ ⟨k,e⟩=>⟨k,U e⟩,λ ⟨k,e⟩=>?_⟩
    rcases (f _ _).mp e with ⟨Z,e,Z⟩|e
    . exact absurd e q
    . exact ⟨k,e⟩
 .
  intro j
  rw [qm j]
  constructor
  . rintro (⟨w,rfl⟩|e)
    . exact ⟨cur+1,(f _ _).mpr (.inl ⟨w,rfl,rfl⟩)⟩
    . obtain ⟨k,e⟩:=(h.qu j).mp e
      exact ⟨k,U e⟩
  . rintro ⟨k,e⟩
    rcases (f _ _).mp e with ⟨w,E,Z⟩|e
    . exact .inl ⟨w,E⟩
    . exact .inr ((h.qu j).mpr ⟨k,e⟩)
 .
  show (if n=1 then S.queue++[p] else S.queue).Nodup
  split
  . exact acM.mpr ⟨h.nd,abK _ _,λ a u b v e=>B (by rw [<- aae.mp v,<- e];exact u)⟩
  . exact h.nd
 .
  intro j
  refine (h.z j).trans ⟨U,λ e=>?_⟩
  rcases (f _ _).mp e with ⟨Z,Z,e⟩|e
  . lia
  . exact e
 .
  intro j L c' t e E
  rcases F e with ⟨rfl,rfl⟩|⟨Z,e⟩
  . rcases cX.mp E with ⟨Z,Z,E⟩|⟨Z,E⟩
    . rw [aap E];exact aaj _
    . exact h.lo _ _ _ _ i E
  . exact h.lo _ _ _ _ e E
 .
  intro j L c' t e E
  rcases F e with ⟨rfl,rfl⟩|⟨Z,e⟩
  . rcases cX.mp E with ⟨rfl,Z,E⟩|⟨Z,E⟩
    . rw [aap E];exact X W
    . exact X (h.ls _ _ _ _ i E)
  . exact X (h.ls _ _ _ _ e E)
 .
  intro j t L o e
  rcases (f _ _).mp o with ⟨Z,rfl,w⟩|s
  .
   obtain rfl:t=cur:=by lia
   rcases F e with ⟨Z,rfl⟩|⟨q,Z⟩
   . refine ⟨λ c' t' R=>?_,c,cX.mpr (.inl ⟨rfl,K,rfl⟩)⟩
     rcases cX.mp R with ⟨Z,Z,E⟩|⟨Z,E⟩
     . rw [aap E];exact aaj _
     . exact h.lo _ _ _ _ i E
   . exact absurd rfl q
  . rcases F e with ⟨rfl,Z⟩|⟨Z,e⟩
    . exact absurd s (N _)
    . exact h.top _ _ _ s e
 .
  intro j k o
  rcases (f _ _).mp o with ⟨Z,Z,rfl⟩|o
  . exact aaj _
  . exact h.le _ _ o
 .
  have O:S.queue.Pairwise λ a b=>∀ x y,(S.fin p c cur l n).bF[a]?=some (some x)->(S.fin p c cur l n).bF[b]?=some (some y)->x<=y:=by
    refine h.Xv.imp_of_mem λ {a b} u v q x y ex g=>?_
    rcases (f _ _).mp ex with ⟨Z,rfl,Z⟩|ex
    . exact absurd u B
    rcases (f _ _).mp g with ⟨Z,rfl,Z⟩|g
    . exact absurd v B
    exact q x y ex g
  show (if n=1 then S.queue++[p] else S.queue).Pairwise _
  by_cases H:n=1
  .
   rw [aaE H]
   refine ada.mpr ⟨O,abK _ _,λ a u b v x y ex g=>?_⟩
   rw [aae.mp v] at g
   rcases (f _ _).mp ex with ⟨Z,rfl,Z⟩|ex
   . exact absurd u B
   rcases (f _ _).mp g with ⟨Z,Z,rfl⟩|g
   . exact h.le _ _ ex
   . exact absurd g (N _)
  . rw [aaA H];exact O
def fR (rows:List bS) (S:jJ):Prop:=∀ (p:Nat) (r:bS) (c:Nat),rows[p]?=some r->r[c]?=some none->∃ l,S.bG[p]?=some l/\l[c]?=some (some 0)
def yt (rows:List bS) (S:jJ) (j:Nat):Prop:=∀ (p:Nat) (r:bS) (c:Nat) J,rows[p]?=some r->r[c]?=some (some J)->j∈J->∃ l t k,S.bG[p]?=some l/\l[c]?=some (some t)/\S.bF[j]?=some (some k)/\t<=k
def we {S:jJ} {p c t n:Nat} {l:List (Option Nat)} (b:S.bG[p]?=some l) (H:l[c]?=some none) {a:Nat} {L:List (Option Nat)} {t':Nat} (e:S.bG[a]?=some L) (E:L[c']?=some (some t')):∃ d,(S.fin p c t l n).bG[a]?=some d/\d[c']?=some (some t'):=by
 by_cases h:p=a
 .
  subst h
  rw [b] at e
  cases e
  refine ⟨_,cX.mpr (.inl ⟨rfl,(Ba.mp b).1,rfl⟩),cX.mpr (.inr ⟨λ z=>?_,E⟩)⟩
  rw [z,E] at H
  cases H
 . exact ⟨L,cX.mpr (.inr ⟨h,e⟩),E⟩
def ia.EQ {rows:List bS} {S:jJ} {p c n t:Nat} {l:List (Option Nat)} (h:ia rows S cur) (b:S.bG[p]?=some l) (H:S.dh[p]?=some n) (a:l[c]?=some none) {j k:Nat} (e:S.bF[j]?=some (some k)):(S.fin p c t l n).bF[j]?=some (some k):=by
 have N:n≠0:=λ z=>by
   have E:=h.go p l n b H
   rw [z] at E
   exact abM.mp E.symm _ (aag a) rfl
 have q:p≠j:=λ z=>N ((h.rk p n H).mpr ⟨k,z ▸ e⟩)
 show (if n=1 then S.bF.set p (some (t+1)) else S.bF)[j]?=_
 split
 . exact cX.mpr (.inr ⟨q,e⟩)
 . exact e
def ia.sound {rows:List bS} {S:jJ} (h:ia rows S cur):∀ (k p:Nat),S.bF[p]?=some (some k)->nL rows k p:=by
 intro k
 induction k using Nat.strongRecOn with
 | _ k I =>
   intro p e
   cases k with
   | zero=>exact (h.z p).mpr e
   | succ t =>
     have H:p<rows.length:=by rw [<- h.lk];exact (Ba.mp e).1
     have o:p<S.bG.length:=by rw [h.ll];exact H
     have C:p<S.dh.length:=by rw [h.lg];exact H
     have E:=SN o
     have b:=SN H
     have f:=SN C
     have G:=(h.rk p _ f).mpr ⟨_,e⟩
     have i:=(h.go p _ _ E f).symm.trans G
     refine ⟨_,b,λ c v d=>?_⟩
     have g:c<S.bG[p].length:=by rw [h.sh p _ _ E b];exact (Ba.mp d).1
     have a:=SN g
     have n:=abM.mp i _ (aay g)
     cases q:S.bG[p][c] with
     | none=>rw [q] at n;exact absurd rfl n
     | some T =>
       rw [q] at a
       have L:=(h.top p t _ e E).1 c T a
       obtain ⟨r,M,w⟩:=h.ls p _ c T E a
       rw [b] at M
       cases M
       rcases w with ⟨w,Z⟩|⟨J,w,j,m,l⟩
       . rw [d] at w
         exact .inl (aap w)
       . rw [d] at w
         exact .inr ⟨J,aap w,j,m,(I T (by lia) j l).mono L⟩
theorem ia.whole {rows:List bS} {S:jJ} (h:ia rows S cur) (N:fR rows S) (G:∀ j∈S.queue,yt rows S j):∀ (k p:Nat),nL rows k p->∃ K,S.bF[p]?=some (some K)/\K<=k
 | 0,p,e=>⟨0,(h.z p).mp e,aaj _⟩
 | k+1,p,⟨r,g,y⟩=>by
   have u:p<rows.length:=(Ba.mp g).1
   have B:p<S.bG.length:=by rw [h.ll];exact u
   have C:p<S.dh.length:=by rw [h.lg];exact u
   have d:=SN B
   have o:=SN C
   have all:∀ c:Nat,c<S.bG[p].length->∃ t,S.bG[p][c]?=some (some t)/\t<=k:=by
     intro c H
     have M:c<r.length:=by rw [<- h.sh p _ _ d g];exact H
     have f:=SN M
     rcases y c _ f with q|⟨J,q,j,x,i⟩
     . rw [q] at f
       obtain ⟨l,a,E⟩:=N p r c g f
       rw [d] at a
       cases a
       exact ⟨0,E,aaT _⟩
     .
      rw [q] at f
      obtain ⟨K,b,L⟩:=h.whole N G k j i
      obtain ⟨l,t,F,a,E,m,D⟩:=G j ((h.qu j).mpr ⟨K,b⟩) p r c J g f x
      rw [d] at a
      cases a
      rw [b] at m
      cases m
      exact ⟨t,E,by lia⟩
   have w:S.bG[p].countP Option.isNone=0:=abM.mpr λ v A z=>by
     obtain ⟨c,H,rfl⟩:=abg.mp A
     obtain ⟨t,s,Z⟩:=all c H
     rw [SN H] at s
     rw [aap s] at z
     cases z
   obtain ⟨K,b⟩:=(h.rk p _ o).mp ((h.go p _ _ d o).trans w)
   refine ⟨K,b,?_⟩
   cases K with
   | zero=>exact aaT _
   | succ t =>
     obtain ⟨c,n⟩:=(h.top p t _ b d).2
     obtain ⟨T,E,L⟩:=all c (Ba.mp n).1
     rw [n] at E
     cases E
     lia
def ia.up {rows:List bS} {S:jJ} {a b:Nat} (h:ia rows S a) (L:a<=b):ia rows S b :=
 ⟨h.ll,h.lg,h.lk,h.sh,h.go,h.rk,h.qu,h.nd,h.z,λ p l c t e f=>aaz (h.lo p l c t e f) L,h.ls,h.top,λ p k e=>aaz (h.le p k e) (abP L),h.Xv⟩
def Kp (rows:List bS):jJ:=⟨rows.map λ r=>r.map λ Z=>none,rows.map List.length,rows.map λ r=>if r.length=0 then some 0 else none,(List.range rows.length).filter λ p=>rows[p]? == some []⟩
def gi {rows:List bS} {p k:Nat}:(Kp rows).bF[p]?=some (some k)↔rows[p]?=some []/\k=0:=by
 show (rows.map _)[p]?=_↔_
 rw [aab]
 cases e:rows[p]? with
 | none=>simp
 | some r =>
   simp only [acu,Option.some.injEq]
   cases r with
   | nil=>simp [eq_comm]
   | cons a r=>simp
def uL {rows:List bS} {p:Nat} {l:List (Option Nat)} (e:(Kp rows).bG[p]?=some l):∃ r,rows[p]?=some r/\l=r.map λ Z=>none:=by
 have e:(rows.map λ r=>r.map λ Z=>(none:Option Nat))[p]?=some l:=e
 rw [aab] at e
 obtain ⟨r,E,rfl⟩:=abb.mp e
 exact ⟨r,E,rfl⟩
def Ci {rows:List bS} {p c t:Nat} {l:List (Option Nat)} (e:(Kp rows).bG[p]?=some l):l[c]?≠some (some t):=by
 obtain ⟨r,Z,rfl⟩:=uL e
 intro q
 rw [aab] at q
 obtain ⟨Z,Z,z⟩:=abb.mp q
 cases z
def MX (rows:List bS):ia rows (Kp rows) 0:=by
 have C:∀ r:bS,(r.map λ Z=>(none:Option Nat)).countP Option.isNone=r.length:=λ r=>by
   rw [List.countP_map]
   exact List.countP_eq_length.mpr λ a Z=>rfl
 refine ⟨OG ..,OG ..,OG ..,λ p l r e b=>?_,λ p l n e E=>?_,λ p n E=>?_,λ p=>?_,List.nodup_range.filter _,λ p=>?_,λ p l c t e q=>absurd q (Ci e),λ p l c t e q=>absurd q (Ci e),λ p t l e Z=>?_,λ p k e=>?_,?_⟩
 .
  obtain ⟨f,O,rfl⟩:=uL e
  rw [b] at O
  cases O
  exact OG ..
 .
  obtain ⟨r,b,rfl⟩:=uL e
  have E:(rows.map List.length)[p]?=some n:=E
  rw [aab,b] at E
  rw [C]
  exact (aap E).symm
 .
  have E:(rows.map List.length)[p]?=some n:=E
  rw [aab] at E
  obtain ⟨r,b,rfl⟩:=abb.mp E
  refine ⟨λ z=>⟨0,gi.mpr ⟨by rw [b,abL.mp z],rfl⟩⟩,λ ⟨k,e⟩=>?_⟩
  have:=(gi.mp e).1
  rw [b] at this
  rw [aap this];rfl
 .
  show p∈(List.range rows.length).filter _↔_
  rw [aa3,aaJ]
  refine ⟨λ ⟨_,e⟩=>⟨0,gi.mpr ⟨by simpa using e,rfl⟩⟩,λ ⟨k,e⟩=>?_⟩
  have:=(gi.mp e).1
  exact ⟨(Ba.mp this).1,by rw [this];rfl⟩
 . exact ⟨λ e=>gi.mpr ⟨e,rfl⟩,λ e=>(gi.mp e).1⟩
 . have:=(gi.mp e).2
   lia
 . rw [(gi.mp e).2];exact aaT _
 . refine adP (R:=λ Z Z=>True) (λ Z Z Z x y ex d=>?_) (List.pairwise_of_forall λ Z Z=>trivial)
   rw [(gi.mp ex).2];exact aaT _
def vk (m:ap):Nat->cm->Prop
 | 0,s=>s.orders m=[]
 | k+1,s=>∀ o∈s.orders m,kX m s o=none\/∃ l,kX m s o=some l/\∃ t∈l,vk m k t
theorem wS {c d:Type} {F:c->d->Prop}:∀ {l₁:List c} {l₂:List d},Paired F l₁ l₂->∀ a∈l₁,∃ b∈l₂,F a b
 | _,_,.nil,_,h=>absurd h aaf
 | _,_,.cons f q,a,h=>by
   rcases aad.mp h with rfl|h
   . exact ⟨_,aas,f⟩
   . obtain ⟨b,H,e⟩:=wS q a h
     exact ⟨b,aai _ H,e⟩
theorem yA {c d:Type} {F:c->d->Prop}:∀ {l₁:List c} {l₂:List d},Paired F l₁ l₂->∀ b∈l₂,∃ a∈l₁,F a b
 | _,_,.nil,_,h=>absurd h aaf
 | _,_,.cons f q,a,h=>by
   rcases aad.mp h with rfl|h
   . exact ⟨_,aas,f⟩
   . obtain ⟨b,H,e⟩:=yA q a h
     exact ⟨b,aai _ H,e⟩
theorem gu.ill {m:ap} {g:rN} (h:gu m g) (D:g.rows.length=g.met.length):∀ (k p:Nat) (s:cm),g.met[p]?=some s->(nL g.rows k p↔vk m k s):=by
 have a:∀ {p s},g.met[p]?=some s->∃ r,g.rows[p]?=some r/\Paired (λ o b=>pC g.met (kX m s o) b) (s.orders m) r:=λ {p s} e=>by
   have w:p<g.rows.length:=by rw [D];exact (Ba.mp e).1
   exact ⟨_,SN w,h.rows p s _ e (SN w)⟩
 intro k
 induction k with
 | zero =>
   intro p s e
   obtain ⟨r,E,H⟩:=a e
   have L:=H.length
   show g.rows[p]?=some []↔s.orders m=[]
   rw [E]
   refine ⟨λ z=>?_,λ z=>?_⟩
   . rw [aap z] at L
     exact abL.mp L
   . rw [z] at L
     rw [abL.mp L.symm]
 | succ k I =>
   intro p s e
   obtain ⟨r,E,H⟩:=a e
   refine ⟨λ ⟨F,O,q⟩ o n=>?_,λ q=>⟨r,E,λ c v A=>?_⟩⟩
   .
    rw [E] at O
    cases O
    obtain ⟨b,B,R⟩:=wS H o n
    obtain ⟨c,C,x⟩:=abg.mp B
    have:=q c b (by rw [SN C,x])
    cases y:kX m s o with
    | none=>exact .inl rfl
    | some l =>
      rw [y] at R
      cases b with
      | none=>exact R.elim
      | some J =>
        rcases this with z|⟨K,z,j,f,i⟩
        . cases z
        . cases z
          obtain ⟨t,u,d⟩:=wS (show Paired _ J l from R) j f
          exact .inr ⟨l,rfl,t,u,(I j t d).mp i⟩
   .
    obtain ⟨o,n,R⟩:=yA H v (aag A)
    cases v with
    | none=>exact .inl rfl
    | some J =>
      rcases q o n with z|⟨l,z,t,u,i⟩
      . rw [z] at R;exact R.elim
      . rw [z] at R
        obtain ⟨j,f,d⟩:=yA (show Paired _ J l from R) t u
        exact .inr ⟨J,rfl,j,f,(I j t d).mpr i⟩
def fm (m:ap) (s:cm):Option Nat->Prop
 | none=>∀ k,¬vk m k s
 | some k=>vk m k s/\∀ i,i<k->¬vk m i s
def ia.rank {m:ap} {g:rN} {S:jJ} (h:ia g.rows S cur) (n:fR g.rows S) (G:∀ j∈S.queue,yt g.rows S j) (ok:gu m g) (l:g.rows.length=g.met.length) {p:Nat} {s:cm} {v:Option Nat} (e:g.met[p]?=some s) (a:S.bF[p]?=some v):fm m s v:=by
 cases v with
 | none =>
   intro k q
   obtain ⟨K,E,Z⟩:=h.whole n G k p ((ok.ill l k p s e).mpr q)
   rw [a] at E
   cases E
 | some k =>
   refine ⟨(ok.ill l k p s e).mp (h.sound k p a),λ i H q=>?_⟩
   obtain ⟨K,E,L⟩:=h.whole n G i p ((ok.ill l i p s e).mpr q)
   rw [a] at E
   cases E
   lia
def fm.le {m m':ap} {s s':cm} {a b:Option Nat} (h:fm m s a) (h':fm m' s' b) (S:∀ k,vk m' k s'->vk m k s):b=none\/∃ x y,a=some x/\b=some y/\x<=y:=by
 cases b with
 | none=>exact .inl rfl
 | some y =>
   have i:=S y h'.1
   cases a with
   | none=>exact absurd i (h y)
   | some x=>exact .inr ⟨x,y,rfl,rfl,Nat.le_of_not_lt λ z=>h.2 y z i⟩
section
variable {m:ap} {a b c:Int}
def rV {s:cm} {h:Nat} (l:m.most<=a) (L:s.heap<=h) {o:Nat} (g:o∈s.orders m):o∈cm.orders { m with most:=a,de:=b,load:=c } { s with heap:=h }:=by
 obtain ⟨f,d⟩:=aa3.mp g
 refine aa3.mpr ⟨f,?_⟩
 obtain ⟨d,H⟩:=abn.mp d
 refine abn.mpr ⟨d,?_⟩
 obtain ⟨H,e⟩:=abn.mp H
 have H:=abH H
 have e:m.lK o<=(s.heap:Int):=abH e
 refine abn.mpr ⟨aao (abe H l),aao ?_⟩
 show m.lK o<=(h:Int)
 lia
def Gi {s:cm} {h:Nat} {o:Nat}:(kX m s o=none/\kX { m with most:=a,de:=b,load:=c } { s with heap:=h } o=none)\/(kX m s o=some (sR m s o)/\kX { m with most:=a,de:=b,load:=c } { s with heap:=h } o=some (sR { m with most:=a,de:=b,load:=c } { s with heap:=h } o)):=by
 by_cases q:(d5 m s o).all (λ O=>jN m s (Ord.off o O))=true
 . exact .inr ⟨aaE q,aaE (show (d5 { m with most:=a,de:=b,load:=c } { s with heap:=h } o).all (λ O=>jN { m with most:=a,de:=b,load:=c } { s with heap:=h } (Ord.off o O))=true from q)⟩
 . exact .inl ⟨aaA q,aaA (show ¬(d5 { m with most:=a,de:=b,load:=c } { s with heap:=h } o).all (λ O=>jN { m with most:=a,de:=b,load:=c } { s with heap:=h } (Ord.off o O))=true from q)⟩
theorem zC (L:m.most<=a) (j:m.de<=b) (lc:m.load<=c):∀ (k:Nat) (s:cm) (h:Nat),s.heap<=h->vk { m with most:=a,de:=b,load:=c } k { s with heap:=h }->vk m k s
 | 0,s,h,f,q=>List.eq_nil_iff_forall_not_mem.mpr λ o H=>by
   have:=rV (b:=b) (c:=c) L f H
   rw [show cm.orders { m with most:=a,de:=b,load:=c } { s with heap:=h }=[] from q] at this
   exact absurd this aaf
 | k+1,s,h,f,q=>λ o H=>by
   rcases Gi (m:=m) (a:=a) (b:=b) (c:=c) (s:=s) (h:=h) (o:=o) with ⟨e,Z⟩|⟨e,E⟩
   . exact .inl e
   .
    rcases q o (rV L f H) with z|⟨l,z,t,d,i⟩
    . rw [E] at z;cases z
    .
     rw [E] at z
     cases z
     obtain ⟨O,x,d⟩:=abu.mp d
     obtain ⟨B,g,rfl⟩:=aaH.mp d
     refine .inr ⟨_,e,s.behind m B o O,abu.mpr ⟨O,x,aaH.mpr ⟨B,g,rfl⟩⟩,?_⟩
     refine zC L j lc k (s.behind m B o O) _ ?_ (show vk _ k { s.behind m B o O with heap:=(cm.kO { m with most:=a,de:=b,load:=c } { s with heap:=h } (Ord.off o O)).toNat } from i)
     show (s.kO m (Ord.off o O)).toNat<=_
     refine Int.toNat_le_toNat ?_
     show min m.de ((s.heap:Int) - m.lK (Ord.off o O)+m.load)<=min b ((h:Int) - m.lK (Ord.off o O)+c)
     lia
end
section
variable {X:Cx}
inductive Q6 (K:aA) (x:V) (y:V) (H:Hp) (Q:VK):Prop|mk (p xs:_) (i:Nat) (v:_) (_:x = .ref p) (_:y=ao i) (_:bh K H p xs) (_:xs[i]?=some v) (_:Q v H)
def GP:Sq X (Q6 X.K):=by
 intro b s U H x y v u Q I R f h
 obtain ⟨p,m,i,z,rfl,rfl,c,a,q⟩:=h
 cases R
 obtain ⟨t,rfl⟩:=f
 obtain ⟨B,r,d,l⟩:=I.list c
 obtain ⟨w,e,J⟩:=r.get a
 have j:=r.length
 have k:=tO
 have g:=(Ba.mp a).1
 exact wpAny_getItem_list d.isList (aa6 i) (by lia) (by rw [abf];simpa using e) ⟨z,H,I,J,q⟩
end
def jF:Option Nat->V
 | none => .cB
 | some n=>ao n
abbrev O0 (pl pg pk pq:ak):List (Str×V):=[("lasts",.ref pl),("going",.ref pg),("ranks",.ref pk),("queue",.ref pq)]
structure ic (CR:ak) (H:Hp) (x pl pg pk pq:ak) (qs:bw) (S:jJ):Prop where
 ins:∃ dx,H x=some (.ins CR dx (O0 pl pg pk pq))
 ZF:H pl=some (.lst (qs.map .ref))
 len:qs.length=S.bG.length
 CF:∀ (i:Nat) q l,qs[i]?=some q->S.bG[i]?=some l->H q=some (.lst (l.map jF))
 SK:H pg=some (.lst (S.dh.map ao))
 SF:H pk=some (.lst (S.bF.map jF))
 Uo:H pq=some (.lst (S.queue.map ao))
 nd:(pl::pg::pk::pq::qs).Nodup
def map_set {b c:Type} (f:b->c) (l:List b) (i:Nat) (a:b):(l.map f).set i (f a)=(l.set i a).map f:=List.map_set.symm
def ic.fin {CR:ak} {x pl g u v q:ak} {Q:bw} {S:jJ} {p c t n:Nat} {l:List (Option Nat)} (h:ic CR H x pl g u v Q S) (d:Q[p]?=some q) (R:S.bG[p]?=some l) :
   ic CR (upd (upd H q (.lst ((l.map jF).set c (ao t)))) g (.lst ((S.dh.map ao).set p (ao (n - 1))))) x pl g u v Q ⟨S.bG.set p (l.set c (some t)),S.dh.set p (n - 1),S.bF,S.queue⟩:=by
 obtain ⟨⟨I,b⟩,J,K,o,L,M,O,r⟩:=h
 have X:=aag d
 simp only [aaR,aad,abF] at r
 obtain ⟨⟨A,y,F,j⟩,⟨B,k,m⟩,⟨G,C⟩,D,s⟩:=r
 have N:∀ {a},a∉Q->a≠q:=λ n z=>n (z ▸ X)
 have w:=o p q l d R
 refine ⟨⟨I,?_⟩,?_,?_,λ i W V e E=>?_,?_,?_,?_,?_⟩
 . rw [ar (λ z=>by rw [z,L] at b;cases b),ar (λ z=>by rw [z,w] at b;cases b)];exact b
 . rw [ar A,ar (N j)];exact J
 . rw [abl];exact K
 .
  rw [ar (λ z=>m (by rw [<- z];exact aag e))]
  by_cases f:p=i
  .
   subst f
   rw [d] at e
   cases e
   rw [ag]
   rcases cX.mp E with ⟨Z,Z,E⟩|⟨z,Z⟩
   . rw [E]
     exact abo some (abo HO.lst (map_set jF l c (some t)))
   . exact absurd rfl z
  .
   rcases cX.mp E with ⟨z,Z⟩|⟨Z,E⟩
   . exact absurd z f
   rw [ar (λ z=>?_)]
   . exact o i W V e E
   . rw [z] at e
     obtain ⟨Y,T⟩:=Ba.mp d
     obtain ⟨i2,U⟩:=Ba.mp e
     exact f ((adv s).mp (T.trans U.symm))
 . rw [ag,map_set]
 . rw [ar (λ z=>B z.symm),ar (N C)];exact M
 . rw [ar (λ z=>k z.symm),ar (N D)];exact O
 . simp only [aaR,aad,abF]
   exact ⟨⟨A,y,F,j⟩,⟨B,k,m⟩,⟨G,C⟩,D,s⟩
def ic.X8 {CR:ak} {x pl f c d:ak} {q:bw} {S:jJ} {p t:Nat} (h:ic CR H x pl f c d q S) :
   ic CR (upd (upd H c (.lst ((S.bF.map jF).set p (ao (t+1))))) d (.lst (S.queue.map ao++[ao p]))) x pl f c d q ⟨S.bG,S.dh,S.bF.set p (some (t+1)),S.queue++[p]⟩:=by
 obtain ⟨⟨l,a⟩,m,n,o,r,s,u,b⟩:=h
 have N:=b
 simp only [aaR,aad,abF] at b
 obtain ⟨⟨v,A,g,w⟩,⟨B,j,y⟩,⟨C,k⟩,D,Z⟩:=b
 refine ⟨⟨l,?_⟩,?_,n,λ i Q L e E=>?_,?_,?_,?_,N⟩
 . rw [ar (λ z=>by rw [z,u] at a;cases a),ar (λ z=>by rw [z,s] at a;cases a)];exact a
 . rw [ar g,ar A];exact m
 . have:=aag e
   rw [ar (λ z=>D (by rw [<- z];exact this)),ar (λ z=>k (by rw [<- z];exact this))]
   exact o i Q L e E
 . rw [ar j,ar B];exact r
 . rw [ar C,ag]
   exact abo some (abo HO.lst (map_set jF S.bF p (some (t+1))))
 . rw [ag,aah];rfl
inductive Md (CR:ak) (vs:ay) (H:Hp) (Q:VK) (_E:XK):Prop|mk (x pl pg pk pq qs S:_) (p c t n:Nat) (l:_) (_:vs=[.ref x,ao p,ao c,ao t]) (_:ic CR H x pl pg pk pq qs S) (_:S.bG[p]?=some l) (_:c<l.length) (_:S.dh[p]?=some n) (_:n≠0) (_:p<S.bF.length) (_:S.queue.length<=10000) (_:∀ H',gw (pl::pg::pk::pq::qs) H H'->ic CR H' x pl pg pk pq qs (S.fin p c t l n)->Q .cB H')
abbrev GR (pl pg pk pq:ak) (qs:bw):bw:=pl::pg::pk::pq::qs
structure AL (S S1:jJ):Prop where
 qu:∃ more,S1.queue=S.queue++more
 rk:∀ (j k:Nat),S.bF[j]?=some (some k)->S1.bF[j]?=some (some k)
 la:∀ (p:Nat) l (c:Nat) t,S.bG[p]?=some l->l[c]?=some (some t)->∃ l',S1.bG[p]?=some l'/\l'[c]?=some (some t)
def AL.refl (S:jJ):AL S S:=⟨⟨[],(aa9 _).symm⟩,λ Z Z h=>h,λ Z l Z Z h H=>⟨l,h,H⟩⟩
def AL.trans {S s S2:jJ} (a:AL S s) (b:AL s S2):AL S S2:=by
 refine ⟨?_,λ j k h=>b.rk j k (a.rk j k h),λ p l c t h H=>?_⟩
 . obtain ⟨m,e⟩:=a.qu
   obtain ⟨M,E⟩:=b.qu
   exact ⟨m++M,by rw [E,e,acf]⟩
 . obtain ⟨L,d,f⟩:=a.la p l c t h H
   exact b.la p L c t d f
def ia.SS {rows:List bS} {S:jJ} {p c n t:Nat} {l:List (Option Nat)} (h:ia rows S cur) (b:S.bG[p]?=some l) (d:S.dh[p]?=some n) (a:l[c]?=some none):AL S (S.fin p c t l n):=by
 refine ⟨?_,λ j k e=>h.EQ b d a e,λ f L c' T e E=>we b a e E⟩
 by_cases H:n=1
 . exact ⟨[p],aaE H⟩
 . exact ⟨[],(aaA H).trans (aa9 _).symm⟩
def yt.more {rows:List bS} {S s:jJ} {j:Nat} (g:yt rows S j) (x:AL S s):yt rows s j:=λ p r c J f d H=>by
 obtain ⟨l,t,k,e,E,a,b⟩:=g p r c J f d H
 obtain ⟨L,F,h⟩:=x.la p l c t e E
 exact ⟨L,t,k,F,h,x.rk j k a,b⟩
def fR.more {rows:List bS} {S S1:jJ} (g:fR rows S) (x:AL S S1):fR rows S1:=λ p r c b a=>by
 obtain ⟨l,e,E⟩:=g p r c b a
 exact x.la p l c 0 e E
def AL.at {S s:jJ} {i j:Nat} (x:AL S s) (e:S.queue[i]?=some j):s.queue[i]?=some j:=by
 obtain ⟨m,E⟩:=x.qu
 rw [E,aal (Ba.mp e).1]
 exact e
def ia.ql {rows:List bS} {S:jJ} (h:ia rows S cur):S.queue.length<=rows.length:=by
 have:=ads h.nd (l₂:=List.range rows.length) λ p H=>by
   obtain ⟨k,e⟩:=(h.qu p).mp H
   exact aaJ.mpr (by rw [<- h.lk];exact (Ba.mp e).1)
 rw [aaq] at this
 exact this
def GG (K:aA) (H:Hp) (F:bw) (p:ak) (A:List (List (Nat×Nat))):Prop:=∃ v,H p=some (.lst v)/\p∉F/\Refs (λ q l=>q∉F/\∃ V,H q=some (.lst V)/\Refs (λ b (a:Nat×Nat)=>bR K H b [ao a.1,ao a.2]) V l) v A
def GG.but {K:aA} {F:bw} {c:ak} {ah:List (List (Nat×Nat))} (h:GG K H F c ah) (b:gw F H H') (t:aQ K H H'):GG K H' F c ah:=by
 obtain ⟨v,d,a,f⟩:=h
 exact ⟨v,b _ _ d a,a,f.imp λ q l ⟨n,V,e,r⟩=>⟨n,V,b _ _ e n,r.imp λ p g z=>t _ _ z⟩⟩
def N0 (rows:List bS) (a:List (List (Nat×Nat))):Prop:=a.length=rows.length/\∀ (j:Nat) l p c,a[j]?=some l->((p,c)∈l↔∃ r:bS,∃ J,rows[p]?=some r/\r[c]?=some (some J)/\j∈J)
def ic.vb {CR:ak} {x pl p d e:ak} {q:bw} {S:jJ} (h:ic CR H x pl p d e q S):FW H (GR pl p d e q):=λ b a=>by
 simp only [aad] at a
 rcases a with rfl|rfl|rfl|rfl|a
 . exact ⟨_,h.ZF,rfl⟩
 . exact ⟨_,h.SK,rfl⟩
 . exact ⟨_,h.SF,rfl⟩
 . exact ⟨_,h.Uo,rfl⟩
 . obtain ⟨i,c,rfl⟩:=abg.mp a
   have D:i<S.bG.length:=by rw [<- h.len];exact c
   exact ⟨_,h.CF i _ _ (SN c) (SN D),rfl⟩
def C1 {K:aA} {L:bw} (h:FW H L) (b:gw L H H'):aQ K H H':=λ c x q=>by
 have n:∀ u,H c=some u->Dr u=false->c∉L:=λ u e z y=>by
   obtain ⟨o,E,n⟩:=h c y
   rw [e] at E
   cases E
   rw [n] at z
   cases z
 rcases q with (q|⟨O,q⟩)|q
 . exact .inl (.inl (b _ _ q (n _ q rfl)))
 . exact .inl (.inr ⟨O,b _ _ q (n _ q rfl)⟩)
 . exact .inr q
def zW {L:bw} {d H2:Hp} (a:gw L H d) (b:gw L d H2):gw L H H2:=λ c o h n=>b c o (a c o h n) n
inductive D0 (K:aA) (CR:ak) (vs:ay) (H:Hp) (Q:VK) (_E:XK):Prop|mk (x pl pg pk pq qs S pa ah rows:_) (_:vs=[.ref x,.ref pa]) (_:ic CR H x pl pg pk pq qs S) (_:ia rows S 0) (_:fR rows S) (_:GG K H (GR pl pg pk pq qs) pa ah) (_:N0 rows ah) (_:rows.length<=2000) (_:∀ H' S' cur,gw (GR pl pg pk pq qs) H H'->ic CR H' x pl pg pk pq qs S'->ia rows S' cur->fR rows S'->(∀ j∈S'.queue,yt rows S' j)->Q .cB H')
def G1 (K:aA) (t:String):W.kitOne K (.type t) (.type t)=some true:=by
 unfold W.kitOne
 rw [aaE (beq_self_eq_true _)]
def InH (m:ap) (i:Int):Prop:=0<=i/\i<(m.rows.length:Int)
instance (m:ap) (i:Int):Decidable (InH m i):=inferInstanceAs (Decidable (_/\_))
end L2
namespace PySem
open Sem (wp)
end PySem
namespace L2
open PySem PySem.Spec PyProof.Rows Mth
section
variable {X:Cx} {o e f:Expr}
def HF (t:TE):TE:=λ U H Q=>t U H λ x h=>∃ n:Nat,x=ao n/\n<=1000/\∀ l,h l=none->Q (.ref l) (upd h l (.lst ((List.range n).map ao)))
def BK {p1 k N z:Pos} {C:TE} (V:X.calm=true) (W:PE X e C) (D:Gl X "list") (L:X.mg "list" = none) (K:Gl X "range") (M:X.mg "range" = none)
   (B:starEach [e] X.env=[(false,eval e X.env)]:=by rfl)
   (F:starEach [.Call (.Name "range" k) [e] [] z] X.env=[(false,eval (.Call (.Name "range" k) [e] [] z) X.env)]:=by rfl) :
   PE X (.Call (.Name "list" p1) [.Call (.Name "range" k) [e] [] z] [] N) (HF C):=by
 intro p s U H Q I h
 refine abi (io I D L pe ?_ (by decide) (by decide))
 refine aaY ?_ F rfl
 rw [F]
 refine abY ?_
 refine abi (io I K M boot_range ?_ (by decide) (by decide))
 refine aaY ?_ B rfl
 rw [B]
 refine abY (cR (W p s U H _ I h) λ v S ⟨x,J,r,r1,q1⟩=>acr ?_)
 obtain ⟨n,rfl,hn,q⟩:=q1
 obtain ⟨t,rfl⟩:∃ t,v=Value.int (n:Int) t:=r1
 refine call_range_1 ?_
 refine acr ?_
 have w:Inv X p U J { S with heap:=S.heap.push { cls:=.type "range",data:=.fields #[.int 0 S.toks,.int (n:Int) t,.int 1 (S.toks+1)]},toks:=S.toks+1+1 }:=r.kept (t':=S.toks+1+1) λ b o e=>aak _ e
 have i:Builtin.Range.rangeSize 0 (n:Int) 1=(n:Int):=by rw [rangeSize_one];split<;>lia
 refine call_list_range (n:=n) (r.ok.hd V) (IsRange.new ..) (small_one (by lia) (by lia) (by lia) (by lia)) i (by lia) λ h' tk a c Y R y=>?_
 have mX:S.heap.objs.size<(S.heap.push { cls:=.type "range",data:=.fields #[.int 0 S.toks,.int (n:Int) t,.int 1 (S.toks+1)]}).objs.size:=by rw [act];exact acm _
 refine ⟨.ref _,_,w.laid (t':=tk) Y (aaj _) ?_,rfl,q _ (w.cM.fresh (aaj _))⟩
 refine ⟨by rw [OG,aaq];exact abq (aT hn),a.toList,c,?_,by simpa using R⟩
 have A:a.toList.length=n:=by rw [ab6];exact y.1
 have d:∀ (j:Nat) (v:av),a.toList[j]?=some v->∃ t,v=Value.int (j:Int) t:=λ j v g=>by
   obtain ⟨t,E⟩:=y.2 j v (by rw [<- Array.getElem?_toList];exact g)
   exact ⟨t,by rw [E];congr 1;lia⟩
 generalize a.toList=l at A d
 have G:∀ (l:aZ) (m:Nat),(∀ (j:Nat) (v:av),l[j]?=some v->∃ t,v=Value.int ((m+j:Nat):Int) t)->Vals ((List.range' m l.length).map ao) l:=by
   intro l
   induction l with
   | nil=>intro m Z;exact .nil
   | cons v l ih =>
     intro m d
     obtain ⟨t,E⟩:=d 0 v rfl
     refine .cons ⟨t,E⟩ (ih (m+1) λ j u O=>?_)
     obtain ⟨T,f⟩:=d (j+1) u O
     exact ⟨T,by rw [f];congr 1;lia⟩
 have:=G l 0 λ j v g=>by obtain ⟨t,E⟩:=d j v g;exact ⟨t,by rw [E];congr 1;lia⟩
 rw [A,<- List.range_eq_range'] at this
 exact this
end
def xf {sq:Hp->ak->ay->Prop} {a:ak} {xs:ay} {g:TG} {tb:TS} {D:Ends} {U:St} {H:Hp} (b:Nat->St->Hp->Prop) (h0:b 0 U H) (l:∀ i U H,i<=xs.length->b i U H->sq H a xs)
   (o:∀ i x p U H,xs[i]?=some x->H p=none->b i U H->g (.ref p) U (upd H p (.tup [ao i,x])) λ d f=>tb ⟨b (i+1),D.rt,D.nx,b (i+1)⟩ d f) (j:∀ U H,b xs.length U H->D.nx U H) :
   ∃ W:Nat->Nat->St->Hp->Prop,(∃ m,W 0 m U H)/\∀ i m U H,W i m U H ->
     ((FC sq a).stop i H/\D.nx U H)\/((FC sq a).go i H/\∃ N:St->Hp->Prop,(∀ c h,N c h->∃ m',m'<m/\W (i+1) m' c h)/\∀ x h,(FC sq a).IJ i H x h->g x U h λ d f=>tb { D with nx:=N,ct:=N,bk:=D.nx } d f):=by
 refine ⟨λ i m U H=>m=xs.length - i/\i<=xs.length/\b i U H,⟨_,rfl,aaT _,h0⟩,?_⟩
 rintro i m U H ⟨rfl,k,p⟩
 have q:=l i U H k p
 by_cases M:i<xs.length
 . refine .inr ⟨⟨xs,xs[i],q,by simp [M]⟩,b (i+1),λ c h r=>⟨xs.length - (i+1),by lia,rfl,M,r⟩,λ v h y=>?_⟩
   obtain ⟨s,x,n,rfl,rfl,E⟩:=y
   exact o i x s U H (E xs q) n p
 . have e:i=xs.length:=by lia
   subst e
   exact .inl ⟨⟨xs,q,rfl⟩,j U H p⟩
end L2
namespace Mth
def qv (f:Int×Int):Rat:=(f.1:Rat) / (f.2:Rat)
def gL {b:Int} (h:0<b):(b:Rat)≠0:=λ z=>by
 have:b=0:=by exact_mod_cast z
 lia
def o7 {b:Int} (h:0<b):(0:Rat)<(b:Rat):=by exact_mod_cast h
def P6 {f:Int×Int} {t b:Int} (h:0<b) (H:0<f.2) (c:f.1 * b=t * f.2):qv f=(t:Rat) / (b:Rat):=by
 have a:=gL H
 have d:=gL h
 have C:(f.1:Rat) * (b:Rat)=(t:Rat) * (f.2:Rat):=by exact_mod_cast c
 unfold qv
 grind
def CD {t b:Int} (h:0<b):qv (nf t b)=(t:Rat) / (b:Rat):=P6 h (lV h).pos (lV h).Do
def yZ {x y:Int×Int} (h:0<x.2) (H:0<y.2):qv (kB x y)=qv x - qv y:=by
 unfold kB
 rw [CD (abw h H)]
 have a:=gL h
 have b:=gL H
 have e:((x.1 * y.2 - y.1 * x.2:Int):Rat)=(x.1:Rat) * (y.2:Rat) - (y.1:Rat) * (x.2:Rat):=by push_cast;rfl
 have E:((x.2 * y.2:Int):Rat)=(x.2:Rat) * (y.2:Rat):=by push_cast;rfl
 unfold qv
 rw [e,E]
 grind
def DC {x y:Int×Int} (h:0<x.2) (H:0<y.2):qv (nv x y)=qv x+qv y:=by
 unfold nv
 rw [CD (abw h H)]
 have a:=gL h
 have b:=gL H
 have e:((x.1 * y.2+y.1 * x.2:Int):Rat)=(x.1:Rat) * (y.2:Rat)+(y.1:Rat) * (x.2:Rat):=by push_cast;rfl
 have E:((x.2 * y.2:Int):Rat)=(x.2:Rat) * (y.2:Rat):=by push_cast;rfl
 unfold qv
 rw [e,E]
 grind
def zK {x y:Int×Int} (H:0<x.2) (c:0<y.2):bV x y=true↔qv x<qv y:=by
 unfold bV
 rw [aa1]
 have d:=o7 H
 have f:=o7 c
 have ex:qv x * (x.2:Rat)=(x.1:Rat):=by unfold qv;have:=gL H;grind
 have E:qv y * (y.2:Rat)=(y.1:Rat):=by unfold qv;have:=gL c;grind
 have e:(x.1 * y.2<y.1 * x.2)↔(qv x * (x.2:Rat) * (y.2:Rat)<qv y * (y.2:Rat) * (x.2:Rat)):=by
   rw [ex,E]
   constructor
   . intro h;exact_mod_cast h
   . intro h;exact_mod_cast h
 rw [e]
 generalize qv x=a
 generalize qv y=b
 have p:(0:Rat)<(x.2:Rat) * (y.2:Rat):=Rat.mul_pos d f
 have r:a * (x.2:Rat) * (y.2:Rat)=a * ((x.2:Rat) * (y.2:Rat)):=by grind
 have R:b * (y.2:Rat) * (x.2:Rat)=b * ((x.2:Rat) * (y.2:Rat)):=by grind
 rw [r,R]
 exact ac9 p
def zp {x y:Int×Int} (H:0<x.2) (a:0<y.2) (h:qv y<=qv x):bV x y=false:=by
 refine Bool.eq_false_iff.mpr λ z=>?_
 have:=(zK H a).mp z
 grind
def Ls {x:Int×Int} (H:0<x.2):0<=qv x↔0<=x.1:=by
 have c:=o7 H
 have ex:qv x * (x.2:Rat)=(x.1:Rat):=by unfold qv;have:=gL H;grind
 constructor
 . intro h
   have:(0:Rat)<=(x.1:Rat):=by rw [<- ex];exact Rat.mul_nonneg h (ad3 c)
   exact_mod_cast this
 .
  intro h
  have d:(0:Rat)<=(x.1:Rat):=by exact_mod_cast h
  rcases Rat.le_total (a:=0) (b:=qv x) with z|z
  . exact z
  .
   have:qv x * (x.2:Rat)<=0:=by
     have:=adq z (ad3 c)
     grind
   rw [ex] at this
   have e:(x.1:Rat)=0:=by grind
   have:qv x=0:=by
     have n:=gL H
     rw [e] at ex
     grind
   grind
end Mth
namespace L2
open PySem PySem.Spec PyProof.Rows Mth
variable {H H0:Hp}
def Ea (m:ap) (i:Nat):Nat->Rat
 | 0=>0
 | n+1=>Ea m i n+qv (m.fe i n)
theorem Au {m:ap} (w:m.Wf) (i:Nat):∀ n,qv (m.gn i n)=1 - qv (m.eU i) - Ea m i n
 | 0=>by
   have e:m.gn i 0=kB (1,1) (m.eU i):=rfl
   rw [e,yZ (by decide) (w.eU i).p]
   have:qv (1,1)=1:=by unfold qv;grind
   rw [this]
   show _=1 - qv (m.eU i) - 0
   grind
 | n+1=>by
   rw [ap.om,yZ (w.gn i n).p (w.fe i n).p,Au w i n]
   show _=1 - qv (m.eU i) - (Ea m i n+qv (m.fe i n))
   grind
def FV {m:ap} (w:m.Wf) (i:Nat):qv (m.own i)=1 - qv (m.eU i) - Ea m i m.rows.length:=Au w i _
def Qr (f:ci):Prop:=0<=qv f/\4 * qv f<=1
def qr0:Qr (0,1):=by
 have:qv (0,1)=0:=by unfold qv;grind
 unfold Qr
 rw [this]
 constructor<;>grind
structure QH (m:ap):Prop where
 tE:∀ i,Qr (m.eU i)
 fe:∀ i j,Qr (m.fe i j)
 self:∀ i,m.fe i i=(0,1)
def vd (i j:Nat):Nat->Nat
 | 0=>0
 | k+1=>vd i j k+(if k=i\/k=j then 0 else 1)
def Wi:∀ n:Fin 5,∀ i j:Fin 4,i.val<n.val->j.val<n.val->i≠j->vd i.val j.val n.val<=2:=by decide
def Vb:∀ n:Fin 5,∀ i:Fin 4,i.val<n.val->vd i.val i.val n.val<=3:=by decide
theorem yk {m:ap} (h:QH m) (i j:Nat):∀ n,Ea m i n<=(if j<n then qv (m.fe i j) else 0)+(vd i j n:Rat) / 4
 | 0=>by
   rw [aaA (abd j)]
   show (0:Rat)<=0+((0:Nat):Rat) / 4
   have:((0:Nat):Rat)=0:=rfl
   grind
 | n+1=>by
   have I:=yk h i j n
   have Q:=(h.fe i n).2
   have q:=(h.fe i n).1
   show Ea m i n+qv (m.fe i n)<=_+(((vd i j n+(if n=i\/n=j then 0 else 1):Nat)):Rat) / 4
   by_cases a:n=j
   .
    subst a
    rw [aaA (abh _)] at I
    have c:(if n=i\/n=n then 0 else 1)=0:=aaE (Or.inr rfl)
    rw [aaE (acm _),c]
    have e:((vd i n n+0:Nat):Rat)=(vd i n n:Rat):=rfl
    rw [e]
    grind
   .
    have E:(if j<n+1 then qv (m.fe i j) else 0)=(if j<n then qv (m.fe i j) else 0):=by
      by_cases z:j<n
      . rw [aaE z,aaE (by lia)]
      . rw [aaA z,aaA (by lia)]
    rw [E]
    by_cases H:n=i
    .
     subst H
     have c:(if n=n\/n=j then 0 else 1)=0:=aaE (Or.inl rfl)
     rw [c]
     have e:((vd n j n+0:Nat):Rat)=(vd n j n:Rat):=rfl
     have z:qv (m.fe n n)=0:=by rw [h.self];unfold qv;grind
     rw [e,z]
     grind
    . have c:(if n=i\/n=j then 0 else 1)=1:=aaA (λ z=>z.elim H a)
      rw [c]
      have e:((vd i j n+1:Nat):Rat)=(vd i j n:Rat)+1:=by push_cast;rfl
      rw [e]
      grind
section
variable {m:ap} {n i j:Nat} {f:ci}
def Dt {k c:Nat} (h:k<=c):(k:Rat)<=(c:Rat):=by exact_mod_cast h
def QH.FL (h:QH m) (w:m.Wf) (l:m.rows.length<=4) (g:i<m.rows.length) (H:j<m.rows.length) (B:i≠j) (d:0<f.2) (n:4 * qv f<=1):bV (nv (m.own i) (m.fe i j)) f=false:=by
 have a:=(w.gn i m.rows.length).p
 have b:=(w.fe i j).p
 have e:=DC (x:=m.own i) (y:=m.fe i j) a b
 refine zp (lV (abw a b)).pos d ?_
 rw [e,FV w]
 have s:=yk h i j m.rows.length
 rw [aaE H] at s
 have c:=Wi ⟨m.rows.length,by lia⟩ ⟨i,by lia⟩ ⟨j,by lia⟩ g H (λ z=>B (abo Fin.val z))
 have C:=Dt c
 have E:((2:Nat):Rat)=2:=rfl
 have k:=(h.tE i).2
 grind
def QH.Jk (h:QH m) (w:m.Wf) (g:m.rows.length<=4) (H:i<m.rows.length) (d:0<f.2) (j:4 * qv f<=1):bV (nv (m.own i) (m.eU i)) f=false:=by
 have a:=(w.gn i m.rows.length).p
 have b:=(w.eU i).p
 have e:=DC (x:=m.own i) (y:=m.eU i) a b
 refine zp (lV (abw a b)).pos d ?_
 rw [e,FV w]
 have s:=yk h i i m.rows.length
 rw [aaE H] at s
 have c:=Vb ⟨m.rows.length,by lia⟩ ⟨i,by lia⟩ H
 have C:=Dt c
 have E:((3:Nat):Rat)=3:=rfl
 have z:qv (m.fe i i)=0:=by rw [h.self];unfold qv;grind
 have k:=(h.tE i).2
 grind
theorem QH.eK (h:QH m) (B:i≠j) (H:Qr f):QH (m.eK i j f):=by
 refine ⟨h.tE,λ a b=>?_,λ a=>?_⟩
 .
  rw [p7]
  by_cases e:a=i/\b=j
  . rw [aaE e];exact H
  . rw [aaA e];exact h.fe a b
 . rw [p7,aaA (λ z=>B (z.1.symm.trans z.2))];exact h.self a
theorem QH.fW {z:ci×ci×ci} (h:QH m) (b:i<m.bD.length) (H:Qr z.1):QH (m.fW i z):=by
 refine ⟨λ a=>?_,h.fe,h.self⟩
 rw [zm b]
 by_cases e:a=i
 . rw [aaE e];exact H
 . rw [aaA e];exact h.tE a
theorem QH.d6 {z:ci×Int×Int×Int} (h:QH m):QH (m.d6 i z):=⟨h.tE,h.fe,h.self⟩
def Gp {r:List ci} (a:Nat):(m.eY r).eU a=m.eU a:=by
 unfold ap.eU ap.eY
 show (((m.bD++[((0,1),(0,1),(0,1))])[a]?).map (·.1)).getD (0,1)=_
 by_cases e:a<m.bD.length
 . rw [aal e]
 .
  rw [aaS (by lia),ac4 (l:=m.bD) (by lia)]
  by_cases z:a - m.bD.length=0
  . rw [z];rfl
  . rw [ac4 (by show 1<=_;lia)]
theorem QH.eY {r:List ci} (h:QH m):QH (m.eY r):=⟨λ a=>by rw [Gp];exact h.tE a,h.fe,h.self⟩
theorem QH.new {most de load:Int}:QH (ap.new most de load):=⟨λ Z=>qr0,λ Z Z=>qr0,λ Z=>rfl⟩
end
structure eF (m:ap):Prop where
 rise:∀ r∈m.rows,mJ r=true/\r.length<=5
 tE:∀ s∈m.bD,bV s.2.2 s.2.1=false
 bJ:∀ x,some x∈m.bq->0<=x.1.1/\(0<=x.2.1/\x.2.1<=9)/\(0<=x.2.2.1/\x.2.2.1<=3)/\(0<=x.2.2.2/\x.2.2.2<=3)
 KO:m.U5
def My {R:List (List ci)} (h:∀ r∈R,2<=r.length/\r.length<=5):0<=jD R/\jD R<=4 ^ R.length:=by
 have k:∀ (R:List (List ci)) (a:Int),0<=a->(∀ r∈R,2<=r.length/\r.length<=5)->0<=R.foldl (λ p r=>p * ((r.length:Int) - 1)) a/\R.foldl (λ p r=>p * ((r.length:Int) - 1)) a<=a * 4 ^ R.length:=by
   intro R
   induction R with
   | nil=>intro a H Z;exact ⟨H,by show a<=a * 1;lia⟩
   | cons r R i =>
     intro a H b
     have f:=b r (by simp)
     rw [adC]
     have B:0<=a * ((r.length:Int) - 1):=abR H (by lia)
     obtain ⟨x,y⟩:=i (a * ((r.length:Int) - 1)) B λ q c=>b q (by simp [c])
     refine ⟨x,abe y ?_⟩
     have l:a * ((r.length:Int) - 1)<=a * 4:=Int.mul_le_mul_of_nonneg_left (by lia) H
     have d:(0:Int)<=4 ^ R.length:=Int.pow_nonneg (by decide)
     have:=Int.mul_le_mul_of_nonneg_right l d
     rw [aaW,Int.pow_succ]
     have e:a * (4 ^ R.length * 4)=a * 4 * 4 ^ R.length:=by grind
     rw [e]
     exact this
 have:=k R 1 (by decide) h
 rw [Int.one_mul] at this
 exact this
def Hr {R:List (List ci)} (h:∀ r∈R,2<=r.length/\r.length<=5) (H:R.length<=4):jD R<=400:=by
 have a:=(My h).2
 have:(4:Int) ^ R.length<=256:=by
   have:R.length=0\/R.length=1\/R.length=2\/R.length=3\/R.length=4:=by lia
   rcases this with e|e|e|e|e<;>rw [e]<;>decide
 lia
def Gu {X:Cx} {T l:Expr} {t:TE} {K:aA} (h:X.K=K) (H:PE X l t):PI X T l (KY K t):=by subst h;exact bY H
def LL (m:ap) (r:Nat):ci×ci×ci:=(m.bD[r]?).getD ((0,1),(0,1),(0,1))
def Dk (m:ap) (r:Nat):Option (ci×Int×Int×Int):=(m.bq[r]?).getD none
structure AN where
 a:Int
 b:Int
 t:Int
 d:Int
abbrev AN.vs (s:AN):ay:=[.int s.a,.int s.b,.int s.t,.int s.d]
structure AN.Ok (s:AN):Prop where
 a:1<=s.a/\s.a<=10 ^ 9
 b:1<=s.b/\s.b<=10 ^ 9
 t:s.t.natAbs<=10 ^ 9
 d:1<=s.d/\s.d<=10 ^ 9
def d9 (x:Int) (s:AN):ci:=nf (x * s.a * s.d+s.t * s.b) (s.b * s.d)
def Ai {a b:Int} {x y:Nat} (h:a.natAbs<=x) (H:b.natAbs<=y):(a * b).natAbs<=x * y:=by
 rw [acI]
 exact Nat.mul_le_mul h H
def AN.Ok.den {s:AN} (h:s.Ok):0<s.b * s.d/\(s.b * s.d).natAbs<=10 ^ 18:=by
 have H:=h.b
 have a:=h.d
 exact ⟨abw (by lia) (by lia),aaz (Ai (x:=10 ^ 9) (y:=10 ^ 9) (by lia) (by lia)) (by decide)⟩
def AN.Ok.num {s:AN} (h:s.Ok) {x:Int} (H:x.natAbs<=1000):(x * s.a).natAbs<=10 ^ 12/\(x * s.a * s.d).natAbs<=10 ^ 21/\(s.t * s.b).natAbs<=10 ^ 18:=by
 have f:=h.a
 have g:=h.b
 have i:=h.d
 have e:=Ai (x:=1000) (y:=10 ^ 9) H (show s.a.natAbs<=10 ^ 9 by lia)
 have E:=Ai (x:=10 ^ 12) (y:=10 ^ 9) (a:=x * s.a) (by lia) (show s.d.natAbs<=10 ^ 9 by lia)
 have c:=Ai (x:=10 ^ 9) (y:=10 ^ 9) h.t (show s.b.natAbs<=10 ^ 9 by lia)
 exact ⟨by lia,by lia,by lia⟩
def mC {s:AN} (h:s.Ok) {x:Int} (H:x.natAbs<=1000):fK 100 (d9 x s):=by
 obtain ⟨D,c⟩:=h.den
 obtain ⟨n,N,e⟩:=h.num H
 have F:=lV (t:=x * s.a * s.d+s.t * s.b) D
 refine ⟨F.SL (show Int.natAbs _<2 ^ 100 by lia),F.QC (show Int.natAbs _<2 ^ 100 by lia),F.pos⟩
def C6 {s:AN} (h:s.Ok) (x:Int):qv (d9 x s)=(x:Rat) * ((s.a:Rat) / (s.b:Rat))+(s.t:Rat) / (s.d:Rat):=by
 unfold d9
 rw [CD h.den.1]
 have H:=gL (show 0<s.b by have:=h.b;lia)
 have c:=gL (show 0<s.d by have:=h.d;lia)
 have e:((x * s.a * s.d+s.t * s.b:Int):Rat)=(x:Rat) * (s.a:Rat) * (s.d:Rat)+(s.t:Rat) * (s.b:Rat):=by push_cast;rfl
 have E:((s.b * s.d:Int):Rat)=(s.b:Rat) * (s.d:Rat):=by push_cast;rfl
 rw [e,E]
 grind
def zn {s:AN} (h:s.Ok) {x y:Int} (H:x.natAbs<=1000) (f:y.natAbs<=1000):bV (d9 x s) (d9 y s)=decide (x<y):=by
 have A:(0:Rat)<(s.a:Rat) / (s.b:Rat):=by
   have j:=o7 (show 0<s.a by have:=h.a;lia)
   have i:=o7 (show 0<s.b by have:=h.b;lia)
   have e:(s.a:Rat) / (s.b:Rat) * (s.b:Rat)=(s.a:Rat):=by have:=gL (show 0<s.b by have:=h.b;lia);grind
   rcases Rat.le_total (a:=(s.a:Rat) / (s.b:Rat)) (b:=0) with z|z
   . have:=adq z (ad3 i)
     grind
   . have n:(s.a:Rat) / (s.b:Rat)≠0:=λ q=>by rw [q] at e;grind
     grind
 have k:bV (d9 x s) (d9 y s)=true↔x<y:=by
   rw [zK (mC h H).p (mC h f).p,C6 h,C6 h]
   generalize (s.a:Rat) / (s.b:Rat)=c at A
   generalize (s.t:Rat) / (s.d:Rat)=e
   constructor
   . intro l
     have g:(x:Rat) * c<(y:Rat) * c:=by grind
     have:=(ac9 A).mp g
     exact_mod_cast this
   . intro l
     have L:(x:Rat)<(y:Rat):=by exact_mod_cast l
     have:=(ac9 A).mpr L
     grind
 rw [abI,k,aa1]
structure R7 where
 marks:List Int
 share:Int
 low:Int
 high:Int
 bJ:Option (Int×Int×Int×Int)
abbrev IK (r:R7):PyData:=.tuple [.list (r.marks.map PyData.int),.int r.share,.int r.low,.int r.high,stI r.bJ]
structure R7.Ok (r:R7):Prop where
 len:2<=r.marks.length/\r.marks.length<=5
 rise:∀ (i:Nat) (x y:Int),r.marks[i]?=some x->r.marks[i+1]?=some y->x<y
 bd:∀ x∈r.marks,x.natAbs<=200
 sh:1<=r.share/\r.share<=3
 lo:r.low<=r.high
 lb:r.low.natAbs<=300
 hb:r.high.natAbs<=300
 st:∀ z,r.bJ=some z->(0<=z.1/\z.1<=100)/\(0<=z.2.1/\z.2.1<=9)/\(0<=z.2.2.1/\z.2.2.1<=3)/\(0<=z.2.2.2/\z.2.2.2<=3)
section
variable (K:aA) (C:ak)
inductive Fl (vs:ay) (H:Hp) (Q:VK) (_E:XK):Prop|mk (c:Int) (_:vs=[.int c]) (_:∀ p (s:AN) H',s.Ok->aE H H'->H' p=some (.tup s.vs)->Q (.ref p) H')
inductive HC (vs:ay) (H:Hp) (Q:VK) (_E:XK):Prop|mk (x:Int) (p:ak) (s:AN) (_:vs=[.int x,.ref p]) (_:bR K H p s.vs) (_:s.Ok) (_:x.natAbs<=1000) (_:∀ q H',aE H H'->H' q=some (.tup [.int (d9 x s).1,.int (d9 x s).2])->Q (.ref q) H')
end
theorem eF.eY {m:ap} {r:List ci} (h:eF m) (a:mJ r=true) (b:r.length<=5):eF (m.eY r):=by
 refine ⟨λ x H=>?_,λ x H=>?_,λ x H=>?_,h.KO⟩
 . rcases aar.mp H with H|H
   . exact h.rise x H
   . rw [aae.mp H];exact ⟨a,b⟩
 . rcases aar.mp H with H|H
   . exact h.tE x H
   . rw [aae.mp H];decide
 . rcases aar.mp H with H|H
   . exact h.bJ x H
   . cases aae.mp H
theorem eF.fW {m:ap} {i:Nat} {z:ci×ci×ci} (h:eF m) (H:bV z.2.2 z.2.1=false):eF (m.fW i z) :=
 ⟨h.rise,λ x a=>(ab2 a).elim (h.tE x) (λ e=>by rw [e];exact H),h.bJ,h.KO⟩
theorem eF.d6 {m:ap} {i:Nat} {z:ci×Int×Int×Int} (h:eF m) (H:0<=z.1.1/\(0<=z.2.1/\z.2.1<=9)/\(0<=z.2.2.1/\z.2.2.1<=3)/\(0<=z.2.2.2/\z.2.2.2<=3)):eF (m.d6 i z) :=
 ⟨h.rise,h.tE,λ x a=>(ab2 a).elim (h.bJ x) (λ e=>by cases e;exact H),h.KO⟩
theorem eF.eK {m:ap} {i j:Nat} {z:ci} (h:eF m):eF (m.eK i j z):=⟨h.rise,h.tE,h.bJ,h.KO⟩
structure Af (K:aA) (H0 H:Hp) (pa:ak) (as:bw) (ah:List (List (Nat×Nat))):Prop where
 sm:aE H0 H
 fr:∀ b∈pa::as,H0 b=none
 nd:(pa::as).Nodup
 le:as.length=ah.length
 hp:H pa=some (.lst (as.map .ref))
 CF:∀ (j:Nat) b l,as[j]?=some b->ah[j]?=some l->∃ vs,H b=some (.lst vs)/\Refs (λ b (pc:Nat×Nat)=>bR K H b [ao pc.1,ao pc.2]) vs l
def Af.same {K:aA} {a:Hp} {c:ak} {as:bw} {ah:List (List (Nat×Nat))} (h:Af K H0 H c as ah) (s:aE H a):Af K H0 a c as ah :=
 ⟨h.sm.trans s,h.fr,h.nd,h.le,s _ _ h.hp,λ j b l e E=>by
   obtain ⟨v,d,f⟩:=h.CF j b l e E
   exact ⟨v,s _ _ d,f.imp λ p g z=>s.ts _ _ z⟩⟩
def Af.put {K:aA} {k b t:ak} {as:bw} {A:List (List (Nat×Nat))} {j p c:Nat} {l:List (Nat×Nat)} {vs:ay} (h:Af K H0 H k as A) (d:as[j]?=some b) (y:A[j]?=some l) (r:H b=some (.lst vs)) (v:Refs (λ b (a:Nat×Nat)=>bR K H b [ao a.1,ao a.2]) vs l) (s:bR K H t [ao p,ao c]):Af K H0 (upd H b (.lst (vs++[.ref t]))) k as (A.set j (l++[(p,c)])):=by
 have T:aQ K H (upd H b (.lst (vs++[.ref t]))):=bU r rfl
 have g:=aag d
 have n:=aaR.mp h.nd
 refine ⟨λ x u e=>?_,h.fr,h.nd,?_,?_,λ i B L e E=>?_⟩
 .
  rw [ar (λ z=>?_)]
  . exact h.sm x u e
  . rw [z,h.fr b (aai _ g)] at e
    cases e
 . rw [abl];exact h.le
 . rw [ar (λ z=>n.1 (by rw [z];exact g))];exact h.hp
 .
  by_cases f:j=i
  .
   subst f
   rw [d] at e
   cases e
   rcases cX.mp E with ⟨Z,Z,E⟩|⟨z,Z⟩
   . rw [E]
     exact ⟨_,ag,Refs.snoc (v.imp λ p a z=>T _ _ z) (T _ _ s)⟩
   . exact absurd rfl z
  .
   rcases cX.mp E with ⟨z,Z⟩|⟨Z,E⟩
   . exact absurd z f
   obtain ⟨m,o,q⟩:=h.CF i B L e E
   refine ⟨m,?_,q.imp λ p a z=>T _ _ z⟩
   rw [ar (λ z=>?_)]
   . exact o
   . rw [z] at e
     obtain ⟨I,J⟩:=Ba.mp d
     obtain ⟨C,w⟩:=Ba.mp e
     exact f ((adv n.2).mp (J.trans w.symm))
def my (rows:List bS) (i n k:Nat) (a:List (List (Nat×Nat))):Prop:=a.length=rows.length/\(∀ (j:Nat) l,a[j]?=some l->∀ p c,((p,c)∈l↔∃ r:bS,∃ J,rows[p]?=some r/\r[c]?=some (some J)/\((p<i/\j∈J)\/(p=i/\c<n/\j∈J)\/(p=i/\c=n/\j∈J.take k))))
def my.zero (rows:List bS):my rows 0 0 0 (rows.map λ Z=>[]):=by
 refine ⟨OG ..,λ j l e p c=>?_⟩
 rw [aab] at e
 obtain ⟨r,Z,rfl⟩:=abb.mp e
 refine ⟨λ h=>absurd h aaf,λ ⟨r,J,_,_,h⟩=>?_⟩
 rcases h with ⟨h,Z⟩|⟨Z,h,Z⟩|⟨Z,Z,h⟩
 . exact absurd h (abd _)
 . exact absurd h (abd _)
 . simp at h
def my.done {rows:List bS} {ah:List (List (Nat×Nat))} (h:my rows rows.length 0 0 ah):N0 rows ah:=by
 refine ⟨h.1,λ j l p c e=>(h.2 j l e p c).trans ⟨λ ⟨r,J,E,a,q⟩=>⟨r,J,E,a,?_⟩,λ ⟨r,J,E,a,q⟩=>⟨r,J,E,a,.inl ⟨(Ba.mp E).1,q⟩⟩⟩⟩
 rcases q with ⟨Z,q⟩|⟨Z,q,Z⟩|⟨Z,Z,q⟩
 . exact q
 . exact absurd q (abd _)
 . simp at q
def my.Rf {rows:List bS} {i:Nat} {r:bS} {ah:List (List (Nat×Nat))} (b:rows[i]?=some r) (h:my rows i r.length 0 ah):my rows (i+1) 0 0 ah:=by
 refine ⟨h.1,λ j l e p c=>(h.2 j l e p c).trans ⟨λ ⟨R,J,E,a,q⟩=>⟨R,J,E,a,?_⟩,λ ⟨R,J,E,a,q⟩=>⟨R,J,E,a,?_⟩⟩⟩
 .
  rcases q with ⟨q,w⟩|⟨q,Z,w⟩|⟨Z,Z,q⟩
  . exact .inl ⟨by lia,w⟩
  . exact .inl ⟨by lia,w⟩
  . simp at q
 .
  rcases q with ⟨q,w⟩|⟨Z,q,Z⟩|⟨Z,Z,q⟩
  .
   by_cases H:p=i
   . subst H
     rw [b] at E
     cases E
     exact .inr (.inl ⟨rfl,(Ba.mp a).1,w⟩)
   . exact .inl ⟨by lia,w⟩
  . exact absurd q (abd _)
  . simp at q
def my.LW {rows:List bS} {i n k:Nat} {r:bS} {v:Option (bj)} {ah:List (List (Nat×Nat))} (b:rows[i]?=some r) (d:r[n]?=some v) (f:∀ J,v=some J->k=J.length) (h:my rows i n k ah):my rows i (n+1) 0 ah:=by
 refine ⟨h.1,λ j l e p c=>(h.2 j l e p c).trans ⟨λ ⟨R,J,E,a,q⟩=>⟨R,J,E,a,?_⟩,λ ⟨R,J,E,a,q⟩=>⟨R,J,E,a,?_⟩⟩⟩
 .
  rcases q with q|⟨q,Q,w⟩|⟨q,Q,w⟩
  . exact .inl q
  . exact .inr (.inl ⟨q,by lia,w⟩)
  . exact .inr (.inl ⟨q,by lia,List.mem_of_mem_take w⟩)
 .
  rcases q with q|⟨q,Q,w⟩|⟨Z,Z,q⟩
  . exact .inl q
  .
   by_cases H:c=n
   .
    subst q
    subst H
    rw [b] at E
    cases E
    rw [d] at a
    cases a
    rw [f J rfl,aaC]
    exact .inr (.inr ⟨rfl,rfl,w⟩)
   . exact .inr (.inl ⟨q,by lia,w⟩)
  . simp at q
def my.put {rows:List bS} {i n k j:Nat} {r:bS} {J:bj} {l:List (Nat×Nat)} {A:List (List (Nat×Nat))} (f:rows[i]?=some r) (g:r[n]?=some (some J)) (m:J[k]?=some j) (o:A[j]?=some l) (h:my rows i n k A):my rows i n (k+1) (A.set j (l++[(i,n)])):=by
 refine ⟨by rw [abl];exact h.1,λ s L e p c=>?_⟩
 have t:J.take (k+1)=J.take k++[j]:=by
   rw [abz,m];rfl
 rcases cX.mp e with ⟨rfl,Z,rfl⟩|⟨N,e⟩
 .
  rw [aar,aae,h.2 j l o p c]
  constructor
  .
   rintro (⟨R,K,E,a,q⟩|q)
   .
    refine ⟨R,K,E,a,?_⟩
    rcases q with q|q|⟨Q,b,d⟩
    . exact .inl q
    . exact .inr (.inl q)
    . refine .inr (.inr ⟨Q,b,?_⟩)
      rw [abz]
      exact aa8 _ d
   . cases q
     exact ⟨r,J,f,g,.inr (.inr ⟨rfl,rfl,by rw [t];exact aaV _ (aae.mpr rfl)⟩)⟩
  .
   rintro ⟨R,K,E,a,q⟩
   rcases q with q|q|⟨Q,b,d⟩
   . exact .inl ⟨R,K,E,a,.inl q⟩
   . exact .inl ⟨R,K,E,a,.inr (.inl q)⟩
   . exact .inr (by rw [Q,b])
 .
  rw [h.2 s L e p c]
  constructor
  .
   rintro ⟨R,K,E,a,q⟩
   refine ⟨R,K,E,a,?_⟩
   rcases q with q|q|⟨Q,b,d⟩
   . exact .inl q
   . exact .inr (.inl q)
   . refine .inr (.inr ⟨Q,b,?_⟩)
     rw [abz]
     exact aa8 _ d
  .
   rintro ⟨R,K,E,a,q⟩
   refine ⟨R,K,E,a,?_⟩
   rcases q with q|q|⟨Q,b,d⟩
   . exact .inl q
   . exact .inr (.inl q)
   .
    refine .inr (.inr ⟨Q,b,?_⟩)
    subst Q
    subst b
    rw [f] at E
    cases E
    rw [g] at a
    cases a
    rw [t] at d
    rcases aar.mp d with z|z
    . exact z
    . exact absurd (aae.mp z).symm N
def Af.row {K:aA} {c q:ak} {as:bw} {A:List (List (Nat×Nat))} (h:Af K H0 H c as A) (g:H q=none):Af K H0 (upd (upd H q (.lst [])) c (.lst (as.map .ref++[.ref q]))) c (as++[q]) (A++[[]]):=by
 have n:=aaR.mp h.nd
 have Q:q≠c:=(aw h.hp g).symm
 have s:=al (o:=.lst []) g
 have N:q∉as:=λ z=>by
   obtain ⟨i,f,e⟩:=abg.mp z
   have D:i<A.length:=by rw [<- h.le];exact f
   obtain ⟨v,j,Z⟩:=h.CF i q _ (by rw [SN f,e]) (SN D)
   rw [g] at j
   cases j
 have k:(upd H q (.lst [])) c=some (.lst (as.map .ref)):=s _ _ h.hp
 have T:aQ K H (upd (upd H q (.lst [])) c (.lst (as.map .ref++[.ref q]))):=s.ts.trans (bU k rfl)
 refine ⟨λ x u e=>?_,λ b d=>?_,?_,?_,?_,λ i b l e E=>?_⟩
 .
  rw [ar (λ z=>?_)]
  . exact s _ _ (h.sm x u e)
  . rw [z,h.fr c aas] at e
    cases e
 .
  rcases aad.mp d with rfl|d
  . exact h.fr _ aas
  . rcases aar.mp d with z|z
    . exact h.fr _ (aai _ z)
    . rw [aae.mp z];exact h.sm.free g
 .
  refine aaR.mpr ⟨λ z=>?_,acM.mpr ⟨n.2,abK _ _,λ a t b d e=>N (by rw [<- aae.mp d,<- e];exact t)⟩⟩
  rcases aar.mp z with z|z
  . exact n.1 z
  . exact Q (aae.mp z).symm
 . rw [aac,aac,h.le];rfl
 . rw [ag,aah];rfl
 .
  by_cases f:i<as.length
  .
   rw [aal f] at e
   rw [aal (by rw [<- h.le];exact f)] at E
   obtain ⟨v,m,r⟩:=h.CF i b l e E
   refine ⟨v,?_,r.imp λ p w z=>T _ _ z⟩
   rw [ar (λ z=>n.1 (by rw [<- z];exact aag e))]
   exact s _ _ m
  .
   have L:=(Ba.mp e).1
   rw [aac,aaw] at L
   obtain rfl:i=as.length:=by lia
   rw [aaU] at e
   rw [h.le,aaU] at E
   cases e
   cases E
   exact ⟨[],by rw [ar Q,ag],Refs.nil⟩
def xU (b:Nat) (a:List (List (Nat×Nat))):Prop:=∀ (j:Nat) l,a[j]?=some l->l.length<=b
def xU.mono {a b:Nat} {ah:List (List (Nat×Nat))} (h:xU a ah) (L:a<=b):xU b ah:=λ j l e=>aaz (h j l e) L
def xU.put {b j:Nat} {l:List (Nat×Nat)} {x:Nat×Nat} {a:List (List (Nat×Nat))} (h:xU b a) (e:a[j]?=some l):xU (b+1) (a.set j (l++[x])):=λ i L E=>by
 rcases cX.mp E with ⟨Z,Z,rfl⟩|⟨Z,E⟩
 . rw [aac]
   exact abP (h j l e)
 . exact Nat.le_succ_of_le (h i L E)
inductive Gn (K:aA) (vs:ay) (H:Hp) (Q:VK) (_E:XK):Prop|mk (pr vr:_) (rows:List bS) (_:vs=[.ref pr]) (_:H pr=some (.lst vr)) (_:bC K H (rows.map rT) vr) (_:rows.length<=2000) (_:(∀ r∈rows,r.length<=16/\∀ js,some js∈r->js.length<=400/\∀ j∈js,j<rows.length)) (_:∀ pa as ah H',Af K H H' pa as ah->N0 rows ah->Q (.ref pa) H')
theorem wa {K:aA}:∀ {l:bj} {w:ay},bC K H (l.map jx) w->w=l.map ao
 | [],_,h=>h
 | _::_,_,⟨_,_,e,d,r⟩=>by
   rw [e,wa r,show _=_ from d];rfl
end L2
namespace PySem
open PySem.Spec PyProof.Rows
def sF:typeLookup (.type "zip") "__getattr__" = pure none:=by rw [typeLookup_type,builtinLookup_eq_fast];kernel_rfl
def wM:typeLookup (.type "zip") "keys" = pure none:=by rw [typeLookup_type,builtinLookup_eq_fast];kernel_rfl
def Ac:entryFor table "zip.__getattribute__" = some Builtin.«object.__getattribute__» :=
 entryFor_alias (id':="object.__getattribute__") (by kernel_rfl) (by decide +kernel) (by decide +kernel) (by kernel_rfl)
def nH:entryFor table "dict.update.loop" = some Builtin.«dict.update.loop»:=entryFor_of_tree (by kernel_rfl)
def gY:plainId "dict.update.loop" = true:=by decide +kernel
def vJ (a:ak) (xs:Array av) (sl:Array (jk)) (name:Str) (u:Tok) (b:typeLookup (.type "zip") name=pure none) (I:(["__module__","__name__","__qualname__","__doc__","__annotations__"]:cx).contains name=false) (hsz:name.length+100<=sizeLine:=by size_fits) :
   Meets (Builtin.«object.__getattribute__» ⟨[.ref a,.str name u],[]⟩) (λ A R s=>s.heap.get? a=some { cls:=.type "zip",dict:=none,data:=.fields xs,slots:=sl }/\raisesAttr (.ref a) name A R s) :=
 Meets.of_wp λ p w A R s h=>by
   obtain ⟨H,g,d,t,o⟩:=s
   obtain ⟨c,h⟩:=h
   have e:(⟨H,g,d,t,o⟩:Shared).TypeIs (.ref a) "zip":=⟨_,c,rfl⟩
   unfold Builtin.«object.__getattribute__»
   repeat (any_goals (first|assumption|wp_step))
   simp only [I,abt,acg]
   repeat (any_goals (first|assumption|wp_step))
   exact wpAny_raiseAttrError h.1 h.2 (attrMsg_fits (by decide +kernel) hsz)
def Kx {prog:bi} {w:aV} {A:Around} {E:av->Shared->Prop} {s:Shared} {a:ak} {xs:Array av} {Q:jk->Shared->Prop}
   (f:s.heap.get? a=some { cls:=.type "zip",dict:=none,data:=.fields xs,slots:=#[]}) (i:A.handled=none)
   (h:∀ h' T,(∀ b o,s.heap.get? b=some o->h'.get? b=some o)->Q none { s with heap:=h',toks:=T }) :
   wpAny (model prog w) A (getAttr? (.ref a) "keys") Q E s:=by
 obtain ⟨j,g,d,T,O⟩:=s
 have c:∀ t,(⟨j,g,d,t,O⟩:Shared).TypeIs (.ref a) "zip":=λ Z=>⟨_,f,rfl⟩
 have k:=sub_AttributeError
 have l:=F.slot_zip_getattribute.lookup
 have m:=F.slot_zip_getattribute.bind (.ref a)
 have n:=sF
 unfold getAttr? getAttrBy? getAttrBy
 repeat (any_goals (first|assumption|exact c _|((with_reducible show wpAny _ _ (call (Value.builtin "zip.__getattribute__") _ _) _ _ _);refine call_meets F.slot_zip_getattribute (c _) Ac (F.args_zip_getattribute_2 _ _) (vJ a xs #[] "keys" _ wM (by decide +kernel)) ⟨f,i,λ h' t e H=>?_⟩)|wp_step))
 obtain ⟨q,u,p⟩:=H.there
 show wpAny _ _ (getattributeRaised _ _ _ _ _ _ _) _ _ _
 unfold getattributeRaised
 repeat (any_goals (first|assumption|wp_step))
 exact h _ _ H.keeps
end PySem
namespace PySem
open PySem.Spec PyProof.Rows
abbrev nZ (h:aU) (z TI TO T:ak) (b:Bool):Prop :=
 h.get? z=some { cls:=.type "zip",dict:=none,data:=.fields #[rawInt T,.bool b,.bool false,.ref TI,.ref TO],slots:=#[]}
section
variable {prog:bi} {w:aV} {A:Around} {E:av->Shared->Prop} {s:Shared}
def pB {M:Model} {a:ak} {Q:Option Obj->Shared->Prop} (h:Q (s.heap.get? a) s):wpAny M A (loadIfAlive a) Q E s:=λ b p H=>by
 unfold loadIfAlive
 rw [Sem.wp_loadIfAlive]
 exact h
def DK {z TI TO T:ak} {b:Bool} {o:Obj} {Q:Bool->Shared->Prop} (a:nZ s.heap z TI TO T b) (c:s.heap.get? T=some o) (n:T≠z)
   (h:∀ h',nZ h' z TI TO T true->Heap.SameBut z s.heap h'->Q false { s with heap:=h' }) :
   wpAny (model prog w) A (Builtin.SmallTypes.ownedTupleIsFree (.ref z)) Q E s:=by
 unfold Builtin.SmallTypes.ownedTupleIsFree
 refine aaa (abD a rfl (x:=rawInt T) rfl ?_)
 show wpAny _ _ (loadIfAlive _ >>= _) _ _ _
 refine aaa (pB ?_)
 rw [show ((T:Int)).toNat=T from abf T,c]
 simp only [Option.isNone_some,abt,acg]
 refine aaa (abD a rfl (x:=.bool b) rfl ?_)
 cases b with
 | false =>
   rw [aaE (by decide)]
   refine aaa (wpAny_setField_rec a (by simp) λ H t F=>?_)
   exact aan (h H t F)
 | true =>
   rw [aaA (by decide)]
   exact aaa (aan (aan (h _ a (Heap.SameBut.refl ..))))
def xN {z TI TO T i I l g:ak} {b:Bool} {O:Obj} {k1 k2:Nat} {xs ys:Array av} {x y:av} {Q:av->Shared->Prop} (D:ZipApart z TI TO i I l g)
   (k:nZ s.heap z TI TO T b) (J:s.heap.get? T=some O) (N:T≠z/\T≠i/\T≠I) (R:IsPair s.heap TI (.ref i) (.ref I))
   (r:s.heap.IsListIter i l k1) (u:s.heap.IsListIter I g k2) (B:s.heap.IsList l xs) (Y:s.heap.IsList g ys) (K:xs[k1]?=some x) (M:ys[k2]?=some y)
   (G:∀ h',nZ h' z TI TO T true->h'.IsListIter i l (k1+1)->h'.IsListIter I g (k2+1)->IsPair h' s.heap.objs.size x y->h'.objs.size=s.heap.objs.size+1 ->
     (∀ c o,c≠z->c≠i->c≠I->s.heap.get? c=some o->h'.get? c=some o)->Q (.ref s.heap.objs.size) { s with heap:=h' }) :
   wpAny (model prog w) A (Builtin.«zip.__next__» ⟨[.ref z],[]⟩) (λ j s'=>∃ v,j = .done (.ret v)/\Q v s') E s:=by
 show wpAny _ _ (field (.ref z) 2 >>= _) _ _ _
 refine aaa (abD k rfl (x:=.bool false) rfl ?_)
 show wpAny _ _ (field (.ref z) 3 >>= _) _ _ _
 refine aaa (abD k rfl (x:=.ref TI) rfl ?_)
 refine aaa (acs R rfl ?_)
 show wpAny _ _ (Builtin.SmallTypes.ownedTupleIsFree (.ref z) >>= _) _ _ _
 refine aaa (DK k J N.1 λ m t F=>?_)
 simp only [abt,acg]
 refine aaa ?_
 rw [<- acE]
 simp only [ac5,List.forIn_nil]
 refine aaa (aaa (abG ?_))
 show wpAny _ _ (Builtin.SmallTypes.nextOf (.ref i) >>= _) _ _ _
 refine aaa (wpAny_nextOf_list_item (r.extBut F.extBut D.i1z) (B.extBut F.extBut D.l1z) K λ n a L=>aan ?_)
 refine aan ?_
 refine aaa (aaa (abG ?_))
 show wpAny _ _ (Builtin.SmallTypes.nextOf (.ref I) >>= _) _ _ _
 refine aaa (wpAny_nextOf_list_item ((u.extBut F.extBut D.i2z).extBut L.extBut D.i12.symm)
   ((Y.extBut F.extBut D.l2z).extBut L.extBut D.l2i1) M λ h d U=>aan ?_)
 refine aan (aan ?_)
 refine aaa (wpAny_newTuple (hsz:=(show 2<=sizeLine by decide)) ?_)
 have H:h.objs.size=s.heap.objs.size:=by rw [U.1,L.1,F.1]
 have f:nZ h z TI TO T true:=U.extBut _ _ D.i2z.symm (L.extBut _ _ D.i1z.symm t)
 refine aan ⟨_,rfl,?_⟩
 show Q (.ref h.objs.size) _
 rw [H]
 refine G _ (aak _ f) ((a.extBut U.extBut D.i12).at λ o e=>aak _ e) (d.at λ o e=>aak _ e) (by rw [<- H];exact aaQ _ rfl) (by rw [act,H]) λ c o C p q e=>aak _ (U.extBut _ _ q (L.extBut _ _ p (F.extBut _ _ C e)))
def zi {z TI TO T i I l p:ak} {b:Bool} {O:Obj} {k1:Nat} {xs:Array av} {Q:Fin->Shared->Prop} (m:A.handled=none) (D:ZipApart z TI TO i I l p)
   (H:nZ s.heap z TI TO T b) (j:s.heap.get? T=some O) (N:T≠z/\T≠i/\T≠I) (u:IsPair s.heap TI (.ref i) (.ref I))
   (f:s.heap.IsListIter i l k1) (B:s.heap.IsList l xs) (n:xs[k1]?=none)
   (g:∀ h' e,(∀ c o,c≠z->c≠i->s.heap.get? c=some o->h'.get? c=some o)->(∃ o,h'.get? e=some o/\o.cls = .type "StopIteration")->E (.ref e) { s with heap:=h' }) :
   wpAny (model prog w) A (Builtin.«zip.__next__» ⟨[.ref z],[]⟩) Q E s:=by
 show wpAny _ _ (field (.ref z) 2 >>= _) _ _ _
 refine aaa (abD H rfl (x:=.bool false) rfl ?_)
 show wpAny _ _ (field (.ref z) 3 >>= _) _ _ _
 refine aaa (abD H rfl (x:=.ref TI) rfl ?_)
 refine aaa (acs u rfl ?_)
 show wpAny _ _ (Builtin.SmallTypes.ownedTupleIsFree (.ref z) >>= _) _ _ _
 refine aaa (DK H j N.1 λ a t F=>?_)
 simp only [abt,acg]
 refine aaa ?_
 rw [<- acE]
 simp only [ac5,List.forIn_nil]
 refine aaa (aaa (abG ?_))
 show wpAny _ _ (Builtin.SmallTypes.nextOf (.ref i) >>= _) _ _ _
 refine aaa (wpAny_nextOf_list_end m (f.extBut F.extBut D.i1z) (B.extBut F.extBut D.l1z) n λ h e L k=>?_)
 exact g h e (λ c o C d q=>L _ _ d (F.extBut _ _ C q)) k
end
end PySem
namespace PySem
open PySem.Spec PyProof.Rows
noncomputable def vw (l:List (PyData×ak×av)):List (PyData×ak×av):=l.foldl (λ a e=>storedH a e.1 e.2.1 e.2.2) []
def mO (l:List (PyData×ak×av)) (e:PyData×ak×av):vw (l++[e])=storedH (vw l) e.1 e.2.1 e.2.2:=by
 unfold vw
 rw [abA]
 rfl
def zV {xs:List (PyData×ak×av)} {k:PyData} {a:ak} {v:av} {x:PyData×ak×av} (h:x∈storedH xs k a v):(∃ e∈xs,e.1=x.1/\e.2.1=x.2.1)\/x=(k,a,v):=by
 unfold storedH at h
 split at h
 .
  obtain ⟨y,H,rfl⟩:=aaH.mp h
  refine .inl ⟨y,H,?_⟩
  unfold putAt
  split<;>exact ⟨rfl,rfl⟩
 . rcases aar.mp h with z|z
   . exact .inl ⟨x,z,rfl,rfl⟩
   . exact .inr (aae.mp z)
def zB (xs:List (PyData×ak×av)) (k:PyData) (a:ak) (v:av):(storedH xs k a v).length<=xs.length+1:=by
 unfold storedH
 split<;>simp
theorem uA {h:aU} {es:List (PyData×ak×av)} (a:∀ e∈es,tN h e.1 e.2.1):∀ i,∀ x∈vw (es.take i),tN h x.1 x.2.1
 | 0,x,H=>by rw [adH] at H;exact absurd H aaf
 | i+1,x,H=>by
   by_cases b:i<es.length
   . rw [abz,SN b,acA,mO] at H
     rcases zV H with ⟨e,d,E,c⟩|rfl
     . rw [<- E,<- c];exact uA a i e d
     . exact a _ (aay b)
   . rw [abc (by lia),<- abc (i:=i) (l:=es) (by lia)] at H
     exact uA a i x H
theorem uG (es:List (PyData×ak×av)):∀ i,(vw (es.take i)).length<=i
 | 0=>by rw [adH];exact aaj _
 | i+1=>by
   by_cases h:i<es.length
   . rw [abz,SN h,acA,mO]
     exact aaz (zB ..) (abP (uG es i))
   . rw [abc (by lia),<- abc (i:=i) (l:=es) (by lia)]
     exact Nat.le_succ_of_le (uG es i)
def IB (prog:bi) (w:aV) (h:aU) (d:ak) (xs:List (PyData×ak×av)):Prop:=∃ o e E,h.get? d=some o/\o.ExactDict/\o.data = .dict e E/\e.toList=xs.map (entryOfKey (ib prog w))/\(xs.map (·.1)).Nodup
def tN.up {h h':aU} {k:PyData} {a:ak} (x:tN h k a) (H:∀ b o,h.get? b=some o->h'.get? b=some o):tN h' k a:=by
 obtain ⟨x,as,r,K,c,d,e⟩:=x
 exact ⟨x,as,oA (λ b O q Z Z Z=>H b O q) x K r,K,c,d,e⟩
def lC (h:aU) (d z TI TO i I:ak):Prop:=(IsZip h z TI TO .none/\∃ a b,IsPair h TO a b)\/∃ T b o,nZ h z TI TO T b/\h.get? T=some o/\(T≠z/\T≠i/\T≠I)/\T≠d
def lC.at {h h':aU} {d z TI TO i i2:ak} (x:lC h d z TI TO i i2) (N:z≠d) (c:TO≠d) (H:∀ b o,b≠d->h.get? b=some o->h'.get? b=some o):lC h' d z TI TO i i2:=by
 rcases x with ⟨x,a,b,y⟩|⟨T,b,O,x,y,n,m⟩
 . exact .inl ⟨H _ _ N x,a,b,H _ _ c y⟩
 . exact .inr ⟨T,b,O,H _ _ N x,H _ _ m y,n,m⟩
section
variable {prog:bi} {w:aV} {A:Around} {E:av->Shared->Prop} {s:Shared}
def uH {d z TI TO i I l L:ak} {k1:Nat} {xs ys:Array av} {x y:av} {Q:jk->Shared->Prop} (D:ZipApart z TI TO i I l L)
   (h:lC s.heap d z TI TO i I) (q:∃ o,s.heap.get? d=some o) (U:IsPair s.heap TI (.ref i) (.ref I))
   (m:s.heap.IsListIter i l k1) (p:s.heap.IsListIter I L k1) (B:s.heap.IsList l xs) (Y:s.heap.IsList L ys) (C:xs[k1]?=some x) (G:ys[k1]?=some y)
   (u:∀ h',lC h' d z TI TO i I->h'.IsListIter i l (k1+1)->h'.IsListIter I L (k1+1)->IsPair h' s.heap.objs.size x y ->
     (∀ c o,c≠z->c≠TO->c≠i->c≠I->s.heap.get? c=some o->h'.get? c=some o)->Q (some (.ref s.heap.objs.size)) { s with heap:=h' }) :
   wpAny (model prog w) A (pyNext (.ref z)) Q E s:=by
 obtain ⟨od,q⟩:=q
 have W:s.heap.objs.size≠d:=ab8 (aat q)
 rcases h with ⟨h,a,b,J⟩|⟨T,b,X,h,v,n,V⟩
 .
  have S:=aat h
  have r:i<s.heap.objs.size:=by obtain ⟨Z,e,Z⟩:=m;exact aat e
  have t:I<s.heap.objs.size:=by obtain ⟨Z,e,Z⟩:=p;exact aat e
  exact wpAny_pyNext_zip_item D h U J m p B Y C G λ h' g a2 j k f K H=>u h' (.inr ⟨_,false,_,g,f,⟨ab8 S,ab8 r,ab8 t⟩,W⟩) j k f H
 .
  have R:s.TypeIs (.ref z) "zip":=⟨_,h,rfl⟩
  unfold pyNext
  exact aaa (wpAny_attempt (abS (name:=Str.ofString "__next__") R adl
    (acy adl R F.entry_zip_next
      (xN D h v n U m p B Y C G λ h' g j k f K H=>aan (u h' (.inr ⟨T,true,X,g,H _ _ n.1 n.2.1 n.2.2 v,n,V⟩) j k f λ c o M Z N O e=>H c o M N O e)) (F.args_zip_next_1 _))))
def vL {d z TI TO i I l L:ak} {k1:Nat} {xs ys:Array av} {Q:jk->Shared->Prop} (g:A.handled=none) (D:ZipApart z TI TO i I l L)
   (h:lC s.heap d z TI TO i I) (u:IsPair s.heap TI (.ref i) (.ref I))
   (H:s.heap.IsListIter i l k1) (m:s.heap.IsListIter I L k1) (B:s.heap.IsList l xs) (y:s.heap.IsList L ys) (j:xs[k1]?=none)
   (f:∀ h',(∀ c o,c≠z->c≠TO->c≠i->c≠I->s.heap.get? c=some o->h'.get? c=some o)->Q none { s with heap:=h' }) :
   wpAny (model prog w) A (pyNext (.ref z)) Q E s:=by
 rcases h with ⟨h,a,b,G⟩|⟨T,b,O,h,n,N,M⟩
 . exact wpAny_pyNext_zip_end g D h u G H m B y (.inl j) f
 .
  have R:s.TypeIs (.ref z) "zip":=⟨_,h,rfl⟩
  unfold pyNext
  refine aaa (wpAny_attempt (abS (name:=Str.ofString "__next__") R adl
    (acy adl R F.entry_zip_next (zi g D h n N u H B j λ h' e r q=>?_) (F.args_zip_next_1 _))))
  obtain ⟨o,t,p⟩:=q
  refine aaa (adR (T:="StopIteration") (b:=true) ⟨o,t,p⟩ isSubtype_stop ?_)
  exact aan (f _ λ c o C Z k Z e=>r c o C k e)
def Kn {R:Result->Shared->Prop} {d z TI TO I a Q S:ak} {h0:aU} {xs ys:Array av} {es:List (PyData×ak×av)} (D:ZipApart z TI TO I a Q S) (hh:A.handled=none) (hu:(ib prog w).room A.in1)
   (fr:∀ c∈[z,TI,TO,I,a,d],h0.get? c=none) (N:∀ c∈[z,TI,TO,I,a],c≠d) (W:h0.IsList Q xs) (yK:h0.IsList S ys) (hn:xs.size=es.length)
   (yO:∀ (i:Nat) e,es[i]?=some e->xs[i]?=some (.ref e.2.1)/\ys[i]?=some e.2.2) (hk:∀ e∈es,tN h0 e.1 e.2.1) (hsz:es.length<=sizeLine) :
   ∀ (k i:Nat) (s:Shared),es.length - i=k->i<=es.length->(∀ b o,h0.get? b=some o->s.heap.get? b=some o)->lC s.heap d z TI TO I a->IsPair s.heap TI (.ref I) (.ref a) ->
     s.heap.IsListIter I Q i->s.heap.IsListIter a S i->IB prog w s.heap d (vw (es.take i)) ->
     (∀ h' T,(∀ b o,h0.get? b=some o->h'.get? b=some o)->IB prog w h' d (vw es)->R (.ok (.ret .none)) { s with heap:=h',toks:=T }) ->
     codeAny (model prog w) A (.builtin "dict.update.loop" ⟨[.ref d,.ref z,rawInt i,.none],[]⟩) R s:=by
 have J:∀ {b o},h0.get? b=some o->b≠z/\b≠TI/\b≠TO/\b≠I/\b≠a/\b≠d:=λ {b o} e=>by
   refine ⟨?_,?_,?_,?_,?_,?_⟩<;>(rintro rfl;rw [fr _ (by simp)] at e;cases e)
 have X:d≠z:=(N z (by simp)).symm
 have l:d≠TO:=(N TO (by simp)).symm
 have j:d≠I:=(N I (by simp)).symm
 have V:d≠a:=(N a (by simp)).symm
 intro k
 induction k with
 | zero =>
   intro i s G hi ext O u v B U C
   obtain rfl:i=es.length:=by lia
   refine codeAny_builtin nH ?_
   rw [Around.under_plainId gY _]
   show wpAny _ A.in1 (pyNext (.ref z) >>= _) _ _ s
   refine aaa (vL (A:=A.in1) hh D O u v B (W.at λ o e=>ext _ _ e) (yK.at λ o e=>ext _ _ e) (Array.getElem?_eq_none (by lia)) λ h' L=>?_)
   show wpAny _ A.in1 (Builtin.Dict.addKeywords d [] >>= _) _ _ _
   refine aaa (aan (aan ?_))
   rw [aaC] at U
   obtain ⟨o,m,p,g,f⟩:=U
   exact C h' s.toks (λ b o e=>L b o (J e).1 (J e).2.2.1 (J e).2.2.2.1 (J e).2.2.2.2.1 (ext b o e)) ⟨o,m,p,L _ _ X l j V g,f⟩
 | succ k ih =>
   intro i s G hi ext O u v B U C
   have mX:i<es.length:=by lia
   have h:=SN mX
   generalize es[i]=e at h
   obtain ⟨M,hy⟩:=yO i e h
   obtain ⟨od,m,p,g,f⟩:=U
   refine codeAny_builtin nH ?_
   rw [Around.under_plainId gY _]
   show wpAny _ A.in1 (pyNext (.ref z) >>= _) _ _ s
   refine aaa (uH D O ⟨_,g⟩ u v B (W.at λ o e=>ext _ _ e) (yK.at λ o e=>ext _ _ e) M hy λ h' a1 a3 a4 a5 L=>?_)
   have E:∀ b o,h0.get? b=some o->h'.get? b=some o:=λ b o e=>L b o (J e).1 (J e).2.2.1 (J e).2.2.2.1 (J e).2.2.2.2.1 (ext b o e)
   have YU:IsPair h' TI (.ref I) (.ref a):=L _ _ D.TIz D.TITO D.TIi1 D.TIi2 u
   have dd:h'.DictOfH (ib prog w) d (vw (es.take i)):=⟨od,m,p,L _ _ X l j V g,f.1,f.2.1,f.2.2.1,λ x M=>(uA hk i x M).up E,f.2.2.2⟩
   have kk:tN h' e.1 e.2.1:=(hk e (aag h)).up E
   have F:Shared.TypeIs { s with heap:=h' } (.ref s.heap.objs.size) "tuple":=⟨_,a5,rfl⟩
   show wpAny _ A.in1 (holding [Value.ref s.heap.objs.size] _ >>= _) _ _ _
   refine aaa (abG (aaa (wpAny_tryCatch ?_)))
   unfold Builtin.Dict.pairItems
   refine aaa (adJ F ?_)
   rw [aaE (by decide)]
   refine aaa (acs a5 rfl (aan ?_))
   show wpAny _ A.in1 (holding [Value.ref e.2.1,e.2.2] (dictSet d (.ref e.2.1) e.2.2)) _ _ _
   refine abG (wpAny_dictSet_heap (hsz:=aaz (uG es i) (aaz hi hsz)) hu kk dd λ Y IG VZ=>?_)
   have K:∀ b o,b≠d->h'.get? b=some o->Y.get? b=some o:=λ b o n q=>VZ.extBut _ _ n q
   obtain ⟨o3,t,r,q1,q2,q3,q4,q5,q6⟩:=IG
   refine aan ⟨plainId_quiet gY _,?_⟩
   have:=ih (i+1) { s with heap:=Y,toks:=s.toks+(ib prog w).draws e.1 } (by lia) mX (λ b o q=>K b o (J q).2.2.2.2.2 (E b o q)) (a1.at X.symm l.symm K) (K _ _ (N TI (by simp)) YU) (a3.at λ o q=>K _ o j.symm q) (a4.at λ o q=>K _ o V.symm q) (by
     rw [abz,h,acA,mO]
     exact ⟨o3,t,r,q1,q2,q3,q4,q6⟩) λ H T x y=>C H T x y
   exact this
def Ja {l L:ak} {xs ys:Array av} {es:List (PyData×ak×av)} {Q:av->Shared->Prop} (j:A.handled=none) (hu:A.units+70<cLine)
   (B:s.heap.IsList l xs) (Y:s.heap.IsList L ys) (M:xs.size=es.length)
   (V:∀ (i:Nat) e,es[i]?=some e->xs[i]?=some (.ref e.2.1)/\ys[i]?=some e.2.2) (K:∀ e∈es,tN s.heap e.1 e.2.1) (hsz:es.length<=sizeLine)
   (h:∀ h' t d,s.heap.objs.size<=d->(∀ b o,s.heap.get? b=some o->h'.get? b=some o)->IB prog w h' d (vw es)->Q (.ref d) { s with heap:=h',toks:=t }) {z:ak} {H:aU}
   (I:z=s.heap.objs.size+4) (f:IsZip H z (s.heap.objs.size+2) (s.heap.objs.size+3) .none) (X:IsPair H (s.heap.objs.size+2) (.ref s.heap.objs.size) (.ref (s.heap.objs.size+1)))
   (z3:IsPair H (s.heap.objs.size+3) .none .none) (z4:H.IsListIter s.heap.objs.size l 0) (z5:H.IsListIter (s.heap.objs.size+1) L 0) (z6:H.objs.size=s.heap.objs.size+5)
   (N:∀ c o,s.heap.get? c=some o->H.get? c=some o) :
   wpAny (model prog w) A (call (.type "dict") [.ref z]) Q E { s with heap:=H }:=by
 subst I
 have m:∀ {b o},s.heap.get? b=some o->b<s.heap.objs.size:=λ e=>aat e
 have R:l<s.heap.objs.size:=by obtain ⟨Z,e,Z⟩:=B;exact m e
 have T:L<s.heap.objs.size:=by obtain ⟨Z,e,Z⟩:=Y;exact m e
 refine callType_codes (Q₁:=λ O S=>O = .ref H.objs.size/\S={ s with heap:=H.push { cls:=.type "dict",data:=.dict #[]}}) F.kt_called_dict (F.kt_typeCall_dict_1 _) F.entry_dict_init (kt_code_dict_new _ ⟨rfl,rfl⟩) ?_
 rintro O S ⟨rfl,rfl⟩
 have W:(H.push { cls:=.type "dict",data:=.dict #[]}).DictOfH (ib prog w) H.objs.size []:=Heap.DictOfH.new H
 refine ⟨W.typeIs,F.args_dict_init_2 _ _,?_⟩
 unfold Builtin.«dict.__init__»
 refine aaa ?_
 unfold Builtin.Dict.selfAndRest
 refine aaa (wpAny_notOrdered_dict W.typeIs ?_)
 show wpAny _ _ (pure (H.objs.size,[Value.ref (s.heap.objs.size+4)])) _ _ _
 refine aan ?_
 show wpAny _ _ (Builtin.Dict.updateFrom "dict.__init__" H.objs.size (.ref (s.heap.objs.size+4)) [] .none) _ _ _
 unfold Builtin.Dict.updateFrom
 have u:∀ {b o},H.get? b=some o->(H.push { cls:=.type "dict",data:=.dict #[]}).get? b=some o:=λ e=>aak _ e
 have g:Shared.TypeIs { s with heap:=H.push { cls:=.type "dict",data:=.dict #[]}} (.ref (s.heap.objs.size+4)) "zip":=⟨_,u f,rfl⟩
 refine aaa (adJ g ?_)
 rw [aaE (by decide)]
 refine aaa (Kx (A:=A.in1.in1) (u f) j λ h6 U k=>?_)
 simp only [Option.isNone_none,acl]
 refine aaa (wpAny_rule ?_)
 refine aaa (adQ (k _ _ (u f)) ?_)
 refine aan ⟨plainId_quiet gY _,?_⟩
 have J:∀ {c},s.heap.objs.size<=c->s.heap.get? c=none:=λ e=>ado e
 refine Kn (A:=A.in1) (h0:=s.heap) (es:=es) (D:=zipApart_new R T) j (by show A.in1.in1.units+64<cLine;rw [acz,acz];lia) (d:=H.objs.size) (λ c a=>?_) (λ c a=>?_) B Y M V K hsz _ 0 _ rfl (aaT _) (λ b o e=>k _ _ (u (N _ _ e))) (.inl ⟨k _ _ (u f),_,_,k _ _ (u z3)⟩) (k _ _ (u X)) (z4.at λ o e=>k _ _ (u e)) (z5.at λ o e=>k _ _ (u e)) ?_ (λ h' t x y=>⟨rfl,h h' t _ (by lia) x y⟩)
 . refine J ?_
   simp only [aad,aaf,aaX] at a
   rcases a with rfl|rfl|rfl|rfl|rfl|rfl<;>lia
 . simp only [aad,aaf,aaX] at a
   rcases a with rfl|rfl|rfl|rfl|rfl<;>(rw [z6];intro z;exact absurd (show (_:Nat)=_ from z) (by lia))
 . obtain ⟨o,C,G,n,p,q,r,Z,v⟩:=W
   exact ⟨o,C,G,k _ _ n,p,q,r,v⟩
end
end PySem
namespace PySem
theorem wk {es:List (PyData×ak×av)} (H:(es.map (·.1)).Nodup):∀ i,i<=es.length->vw (es.take i)=es.take i
 | 0,_=>rfl
 | i+1,h=>by
   rw [abz,SN h,acA,mO,wk H i (by lia)]
   refine storedH_new (atKey_none_of_get λ j p e=>?_) _ _
   have a:=(Ba.mp e).1
   rw [aaD] at a
   rw [adN (by lia)] at e
   have:=idxH_unique H e (show es[i]?=some (es[i].1,es[i].2) from SN h)
   lia
end PySem
namespace L2
open PySem PySem.Spec PyProof.Rows Mth
variable {H H' H0:Hp} {b2:Int} {l:List Int} {U:St}
def GS (P:bi) (w:aV) (K:aA) (t:TA):TE:=λ U H Q=>t U H λ v h=>∃ q b,∃ a:oO,v=[.ref q,.ref b]/\bh K h q (a.map λ e => .ref e.2.1)/\bh K h b (a.map λ e=>e.2.2) /\
 (a.map (·.1)).Nodup/\(∀ e∈a,gH K h e.1 e.2.1)/\a.length<=sizeLine/\∀ p,h p=none->Q (.ref p) (upd h p (kW P w p a))
def cL.u70 {k:Nat} {A:Around} (r:cL k A):A.units+70<cLine:=by have:=r.un;lia
theorem tM:∀ {a:oO} {us vs:aZ},Vals (a.map λ e => .ref e.2.1) us->Vals (a.map λ e=>e.2.2) vs->∃ es:List (PyData×ak×av),XR a es/\us=es.map (λ e => .ref e.2.1)/\vs=es.map λ e=>e.2.2
 | [],_,_,.nil,.nil=>⟨[],.nil,rfl,rfl⟩
 | e::a,_,_,.cons r t,.cons R t2=>by
   obtain ⟨es,h,H,b⟩:=tM t t2
   exact ⟨(e.1,e.2.1,_)::es,.cons ⟨rfl,rfl,R⟩ h,by rw [H,show _=_ from r];rfl,by rw [b];rfl⟩
def XR.keys {a:oO} {es:List (PyData×ak×av)} (h:XR a es):es.map (·.1)=a.map (·.1):=by
 induction h with
 | nil=>rfl
 | cons r _ i=>rw [aaP,aaP,i,r.1]
def XR.mem {a:oO} {es:List (PyData×ak×av)} (h:XR a es):∀ e∈es,∃ x∈a,x.1=e.1/\x.2.1=e.2.1:=by
 induction h with
 | nil=>exact λ Z h=>absurd h aaf
 | cons r _ i =>
   intro e H
   rcases aad.mp H with rfl|H
   . exact ⟨_,aas,r.1,r.2.1⟩
   . obtain ⟨x,b,q⟩:=i e H
     exact ⟨x,aai _ b,q⟩
section
variable {X:Cx} {P:bi} {w:aV} {K:aA}
def Bv {a b:Expr} {T:TA} {p1 m S z:Pos} (hP:X.prog=P) (hw:X.w=w) (hK:X.K=K) (hu:X.A.units+70<cLine) (hc:X.calm=true) (ha:PA X [a,b] T) (M:Gl X "dict") (R:X.mg "dict" = none) (O:Gl X "zip") (Y:X.mg "zip" = none) (hs:starEach [a,b] X.env=[(false,eval a X.env),(false,eval b X.env)]:=by rfl) (G:starEach [b] X.env=[(false,eval b X.env)]:=by rfl) (F:starEach [.Call (.Name "zip" m) [a,b] [] z] X.env=[(false,eval (.Call (.Name "zip" m) [a,b] [] z) X.env)]:=by rfl) :
   PE X (.Call (.Name "dict" p1) [.Call (.Name "zip" m) [a,b] [] z] [] S) (GS P w K T):=by
 subst hP hw hK
 intro p s U H Q I h
 refine abi (io I M R CJ ?_ (by decide) (by decide))
 refine aaY ?_ F rfl
 rw [F]
 refine abY ?_
 refine abi (io I O Y Hw (aaY (cR (ha z p s U H _ I h) λ us s1 ⟨vs,H1,c,r1,q1⟩=>?_) (by rw [hs,G]) (by rw [G];rfl)) (by decide) (by decide))
 obtain ⟨a,b,t,e,N,yI,nd,hk,J,q⟩:=q1
 subst e
 obtain ⟨u,v,rfl,r,r'⟩:=vals2 r1
 obtain rfl:u=Value.ref a:=r
 obtain rfl:v=Value.ref b:=r'
 obtain ⟨JU,W,f,Mm⟩:=c.list N
 obtain ⟨oJ,V,g,WP⟩:=c.list yI
 obtain ⟨E,j,rfl,rfl⟩:=tM W V
 have le:E.length=t.length:=j.length.symm
 refine call_zip_2 f.isList g.isList λ h' z1 z2 z3 z4 z5 z6 kk=>acr ?_
 refine Ja (es:=E) (c.ok.hd hc) hu f.isList g.isList (by simp) (λ i e y=>⟨by simp [y],by simp [y]⟩) (λ e he=>?_) (by rw [le];exact J) (λ h2 tk d L k2 D=>?_) rfl z1 z2 z3 z4 z5 z6 kk
 . obtain ⟨x,hx,k,l⟩:=j.mem e he
   rw [<- k,<- l]
   exact (hk x hx).is c
 .
  have fr:=c.cM.fresh L
  have n:(E.map (·.1)).Nodup:=by rw [j.keys];exact nd
  have C:=wk n E.length (aaj _)
  rw [aaC] at C
  rw [C] at D
  obtain ⟨o,ea,ep,k,l,e3,e4,e5⟩:=D
  have B:=c.big
  refine ⟨.ref d,_,c.laid (a:=d) (o:=kW X.prog X.w d t) (t':=tk) k2 L (Gw ⟨J,abj.mpr (acv (aaL (aax B L))),E,j,o,ea,ep,k,l,e3,e4,e5⟩),rfl,q d fr⟩
end
structure LY (H0 H:Hp) (D:ak) (qs:bw) (ls:List (List (Option Nat))):Prop where
 sm:aE H0 H
 fr:∀ b∈D::qs,H0 b=none
 nd:(D::qs).Nodup
 le:qs.length=ls.length
 hp:H D=some (.lst (qs.map .ref))
 CF:∀ (i:Nat) q l,qs[i]?=some q->ls[i]?=some l->H q=some (.lst (l.map jF))
def LY.row {D q:ak} {Q:bw} {L:List (List (Option Nat))} {l:List (Option Nat)} (h:LY H0 H D Q L) (f:H q=none):LY H0 (upd (upd H q (.lst (l.map jF))) D (.lst (Q.map .ref++[.ref q]))) D (Q++[q]) (L++[l]):=by
 have n:=aaR.mp h.nd
 have j:q≠D:=(aw h.hp f).symm
 have s:=al (o:=.lst (l.map jF)) f
 have N:q∉Q:=λ z=>by
   obtain ⟨i,d,e⟩:=abg.mp z
   have k:i<L.length:=by rw [<- h.le];exact d
   have g:=h.CF i q _ (by rw [SN d,e]) (SN k)
   rw [f] at g
   cases g
 refine ⟨λ x u e=>?_,λ b c=>?_,?_,?_,?_,λ i b p e E=>?_⟩
 .
  rw [ar (λ z=>?_)]
  . exact s _ _ (h.sm x u e)
  . rw [z,h.fr D aas] at e
    cases e
 .
  rcases aad.mp c with rfl|c
  . exact h.fr _ aas
  . rcases aar.mp c with z|z
    . exact h.fr _ (aai _ z)
    . rw [aae.mp z];exact h.sm.free f
 .
  refine aaR.mpr ⟨λ z=>?_,acM.mpr ⟨n.2,abK _ _,λ a m b c e=>N (by rw [<- aae.mp c,<- e];exact m)⟩⟩
  rcases aar.mp z with z|z
  . exact n.1 z
  . exact j (aae.mp z).symm
 . rw [aac,aac,h.le];rfl
 . rw [ag,aah];rfl
 .
  by_cases d:i<Q.length
  . rw [aal d] at e
    rw [aal (by rw [<- h.le];exact d)] at E
    rw [ar (λ z=>n.1 (by rw [<- z];exact aag e))]
    exact s _ _ (h.CF i b p e E)
  .
   have r:=(Ba.mp e).1
   rw [aac,aaw] at r
   obtain rfl:i=Q.length:=by lia
   rw [aaU] at e
   rw [h.le,aaU] at E
   cases e
   cases E
   rw [ar j,ag]
def GZ (rows:List bS):Prop:=rows.length<=2000/\∀ r∈rows,r.length<=16/\∀ J,some J∈r->J.length<=400/\∀ j∈J,j<rows.length
inductive HZ (P:bi) (w:aV) (K:aA) (CG CR:ak) (vs:ay) (H:Hp) (Q:VK) (_E:XK):Prop|mk (x dx y pm po pr pd lim g:_) (_:vs=[.ref x,.ref y]) (_:H x=some (.ins CR dx [])) (_:d8 P w K CG [] H y pm po pr pd lim g) (_:GZ g.rows) (_:∀ pl pg pk pq qs S cur H',gw [x] H H'->aQ K H H'->ic CR H' x pl pg pk pq qs S->ia g.rows S cur->fR g.rows S->(∀ j∈S.queue,yt g.rows S j)->Q .cB H')
def bh.sm {K:aA} {q:ak} {xs:ay} (S:aE H H') (e:bh K H q xs):bh K H' q xs:=by
 rcases e with (e|⟨o,e⟩)|e
 . exact .inl (.inl (S _ _ e))
 . exact .inl (.inr ⟨o,S _ _ e⟩)
 . exact .inr e
structure Be (K:aA) (C x dx:ak) (H H':Hp) (fs:List (Str×V)) (L:List (ak×HO)):Prop where
 b:jy K C x dx H H' fs
 at_:∀ e∈L,H' e.1=some e.2/\e.1≠x/\H e.1=none
 nd:(L.map (·.1)).Nodup
section
variable {K:aA} {C x dx D:ak} {H H' FD:Hp} {fs fs':List (Str×V)} {L:List (ak×HO)} {o:HO}
theorem Be.put (h:Be K C x dx H H' fs L):Be K C x dx H (upd H' x (.ins C dx fs')) fs' L:=⟨h.b.put,λ e a=>⟨by rw [ar (h.at_ e a).2.1];exact (h.at_ e a).1,(h.at_ e a).2⟩,h.nd⟩
def Be.more (h:Be K C x dx H H' fs L) (s:aE H' FD) (c:H' D=none) (d:FD D=some o):Be K C x dx H FD fs ((D,o)::L):=by
 refine ⟨⟨λ b u e n=>s _ _ (h.b.st b u e n),h.b.ts.trans s.ts,s _ _ h.b.at_⟩,λ e a=>?_,aaR.mpr ⟨λ z=>?_,h.nd⟩⟩
 . rcases aad.mp a with rfl|a
   . exact ⟨d,h.b.ne c,h.b.none c⟩
   . exact ⟨s _ _ (h.at_ e a).1,(h.at_ e a).2⟩
 .
  obtain ⟨e,a,z⟩:=aaH.mp z
  have:=(h.at_ e a).1
  rw [z,c] at this
  cases this
def wE (pl:ak) (q:bw) (L:List (List (Option Nat))):List (ak×HO):=(pl,.lst (q.map .ref))::q.zip (L.map λ l => .lst (l.map jF))
def LY.rkb {pl:ak} {q:bw} {L:List (List (Option Nat))} (h:LY H H' pl q L) (c:H x=some (.ins C dx [])):Be K C x dx H H' [] (wE pl q L):=by
 have nx:∀ b∈pl::q,b≠x:=λ b k z=>by rw [<- z,h.fr b k] at c;cases c
 have n:q.length<=(L.map λ l=>HO.lst (l.map jF)).length:=by rw [OG,h.le];exact aaj _
 refine ⟨⟨λ b o e Z=>h.sm b o e,h.sm.ts,h.sm _ _ c⟩,λ e a=>?_,?_⟩
 .
  rcases aad.mp a with rfl|a
  . exact ⟨h.hp,nx _ aas,h.fr _ aas⟩
  .
   obtain ⟨i,m⟩:=abU.mp a
   obtain ⟨d,f⟩:=acH.mp m
   rw [aab] at f
   obtain ⟨l,j,E⟩:=abb.mp f
   have g:=aai pl (aag d)
   exact ⟨by rw [<- E];exact h.CF i _ l d j,nx _ g,h.fr _ g⟩
 . show (pl::(q.zip _).map (·.1)).Nodup
   rw [List.map_fst_zip n]
   exact h.nd
def Be.rk {pl p a c:ak} {Q:bw} {S:jJ} (h:Be K C x dx H H' (O0 pl p a c) ((c,.lst (S.queue.map ao))::(a,.lst (S.bF.map jF))::(p,.lst (S.dh.map ao))::wE pl Q S.bG)) (L:Q.length=S.bG.length):ic C H' x pl p a c Q S:=by
 have r:Q.length<=(S.bG.map λ l=>HO.lst (l.map jF)).length:=by rw [OG,L];exact aaj _
 refine ⟨⟨dx,h.b.at_⟩,(h.at_ (pl,.lst (Q.map .ref)) (by simp [wE])).1,L,λ i q l e E=>?_,(h.at_ (p,.lst (S.dh.map ao)) (by simp)).1,(h.at_ (a,.lst (S.bF.map jF)) (by simp)).1,(h.at_ (c,.lst (S.queue.map ao)) (by simp)).1,?_⟩
 . exact (h.at_ (q,.lst (l.map jF)) (aai _ (aai _ (aai _ (aai _ (abU.mpr ⟨i,acH.mpr ⟨e,by rw [aab,E];rfl⟩⟩)))))).1
 .
  have n:=h.nd
  unfold wE at n
  rw [aaP,aaP,aaP,aaP,List.map_fst_zip r] at n
  simp only [aaR,aad,abF] at n |-
  obtain ⟨⟨A,d,f,g⟩,⟨B,b2,j⟩,⟨k,m⟩,D,o⟩:=n
  exact ⟨⟨λ z=>k z.symm,λ z=>b2 z.symm,λ z=>f z.symm,D⟩,⟨λ z=>B z.symm,λ z=>d z.symm,m⟩,⟨λ z=>A z.symm,j⟩,g,o⟩
def Be.fr (h:Be K C x dx H H' fs L):gw [x] H H':=λ b u e n=>h.b.st b u e λ z=>n (aae.mpr z)
end
structure m6 (rows:List bS) (S:jJ) (i n:Nat):Prop where
 ok:ia rows S 0
 dn:∀ (p:Nat) (r:bS) (c:Nat),rows[p]?=some r->r[c]?=some none->(p<i\/(p=i/\c<n))->∃ l,S.bG[p]?=some l/\l[c]?=some (some 0)
 un:∀ (p:Nat) l (c:Nat),S.bG[p]?=some l->c<l.length->(i<p\/(p=i/\n<=c))->l[c]?=some none
def m6.zero (rows:List bS):m6 rows (Kp rows) 0 0:=by
 refine ⟨MX rows,λ p r c Z Z h=>?_,λ p l c e H Z=>?_⟩
 . rcases h with h|⟨Z,h⟩<;>exact absurd h (abd _)
 .
  have:=SN H
  cases q:l[c] with
  | none=>rw [this,q]
  | some t=>rw [q] at this;exact absurd this (Ci e)
def m6.skip {rows:List bS} {S:jJ} {i n:Nat} {r:bS} {j:bj} (h:m6 rows S i n) (a:rows[i]?=some r) (b:r[n]?=some (some j)):m6 rows S i (n+1):=by
 refine ⟨h.ok,λ p R c e E q=>?_,λ p l c e H q=>h.un p l c e H (by lia)⟩
 refine h.dn p R c e E ?_
 rcases q with q|⟨q,Q⟩
 . exact .inl q
 .
  refine .inr ⟨q,?_⟩
  by_cases z:c=n
  .
   subst q
   subst z
   rw [a] at e
   cases e
   rw [b] at E
   cases E
  . lia
def m6.step {rows:List bS} {S:jJ} {i n m:Nat} {r:bS} {l:List (Option Nat)} (h:m6 rows S i n) (a:rows[i]?=some r) (b:r[n]?=some none) (E:S.bG[i]?=some l) (k:S.dh[i]?=some m):m6 rows (S.fin i n 0 l m) i (n+1):=by
 have d:n<l.length:=by rw [h.ok.sh i l r E a];exact (Ba.mp b).1
 have o:i<S.bG.length:=(Ba.mp E).1
 have H:=h.un i l n E d (.inr ⟨rfl,aaj _⟩)
 refine ⟨h.ok.fin E k H ⟨r,a,.inl ⟨b,rfl⟩⟩,λ p R c e f q=>?_,λ p L c e y q=>?_⟩
 .
  by_cases z:p=i/\c=n
  . obtain ⟨rfl,rfl⟩:=z
    exact ⟨_,cX.mpr (.inl ⟨rfl,o,rfl⟩),cX.mpr (.inl ⟨rfl,d,rfl⟩)⟩
  . obtain ⟨L,g,j⟩:=h.dn p R c e f (by lia)
    exact we E H g j
 .
  rcases cX.mp (show (S.bG.set i (l.set n (some 0)))[p]?=some L from e) with ⟨z,Z,rfl⟩|⟨z,e⟩
  . rw [abl] at y
    refine cX.mpr (.inr ⟨by lia,h.un i l c E y (by lia)⟩)
  . exact h.un p L c e y (by lia)
def m6.next {rows:List bS} {S:jJ} {i:Nat} {r:bS} (h:m6 rows S i r.length) (a:rows[i]?=some r):m6 rows S (i+1) 0:=by
 refine ⟨h.ok,λ p R c e E q=>h.dn p R c e E ?_,λ p l c e H q=>h.un p l c e H (by lia)⟩
 by_cases z:p=i
 .
  subst z
  rw [a] at e
  cases e
  exact .inr ⟨rfl,(Ba.mp E).1⟩
 . lia
def m6.done {rows:List bS} {S:jJ} (h:m6 rows S rows.length 0):fR rows S:=λ p r c e E=>h.dn p r c e E (.inl (Ba.mp e).1)
def ic.same {CR:ak} {x pl p a b:ak} {Q:bw} {S:jJ} (h:ic CR H x pl p a b Q S) (s:aE H H'):ic CR H' x pl p a b Q S:=by
 obtain ⟨⟨d,o⟩,c,f,g,j,k,m,n⟩:=h
 exact ⟨⟨d,s _ _ o⟩,s _ _ c,f,λ i q l e E=>s _ _ (g i q l e E),s _ _ j,s _ _ k,s _ _ m,n⟩
theorem DM {c:Type} {R:ak->c->Prop}:∀ {as:bw} {l:List c},as.length=l.length->(∀ (i:Nat) b a,as[i]?=some b->l[i]?=some a->R b a)->Refs R (as.map .ref) l
 | [],[],_,_=>Refs.nil
 | b::as,a::l,h,f => .cons ⟨b,rfl,f 0 b a rfl rfl⟩ (DM (ad4 h) λ i b a e E=>f (i+1) b a e E)
def ic.there {CR:ak} {x pl p a c:ak} {q:bw} {S:jJ} (h:ic CR H x pl p a c q S) {b:ak} (d:b∈GR pl p a c q):H b≠none:=by
 obtain ⟨o,e,Z⟩:=h.vb b d
 rw [e]
 exact nofun
def Af.at {K:aA} {CR:ak} {x pl c d f p:ak} {q as:bw} {S:jJ} {ah:List (List (Nat×Nat))} (h:ic CR H x pl c d f q S) (a:Af K H H' p as ah):GG K H' (GR pl c d f q) p ah :=
 ⟨_,a.hp,λ z=>h.there z (a.fr _ aas),DM a.le λ i b l e E=>⟨λ z=>h.there z (a.fr _ (aai _ (aag e))),a.CF i b l e E⟩⟩
def Be.Tf {K:aA} {C x dx pl p e f:ak} {F:List (Str×V)} {q:bw} {l:List (List (Option Nat))} {o O d:HO} (h:Be K C x dx H H' F ((f,o)::(e,O)::(p,d)::wE pl q l)) (L:q.length=l.length):∀ b∈GR pl p e f q,H b=none:=by
 intro b a
 simp only [aad] at a
 rcases a with rfl|rfl|rfl|rfl|a
 . exact (h.at_ (b,.lst (q.map .ref)) (by simp [wE])).2.2
 . exact (h.at_ (b,d) (by simp)).2.2
 . exact (h.at_ (b,O) (by simp)).2.2
 . exact (h.at_ (b,o) (by simp)).2.2
 . obtain ⟨i,c,rfl⟩:=abg.mp a
   have D:i<l.length:=by rw [<- L];exact c
   exact (h.at_ (q[i],.lst (l[i].map jF)) (aai _ (aai _ (aai _ (aai _ (abU.mpr ⟨i,acH.mpr ⟨SN c,by rw [aab,SN D];rfl⟩⟩)))))).2.2
def Db (m:ap):Prop:=∀ s o,ff m s->o∈s.orders m->(sR m s o).length<=400
def NK {K:aA} {V:ay} {met:List cm} (h:nl K H V met):∀ {O:List (Option Nat)},O.length=met.length->∃ a:oO,V=a.map (λ e => .ref e.2.1)/\O.map jF=a.map (λ e=>e.2.2)/\a.map (·.1)=met.map mY/\∀ e∈a,gH K H e.1 e.2.1:=by
 unfold nl Refs at h
 induction h with
 | nil =>
   intro O b
   obtain rfl:=aaZ b
   exact ⟨[],rfl,rfl,rfl,λ Z h=>absurd h aaf⟩
 | @cons v s V met h t I =>
   intro O b
   obtain ⟨p,e,j⟩:=h
   cases O with
   | nil=>cases b
   | cons r O =>
     obtain ⟨a,d,f,g,i⟩:=I (ad4 b)
     refine ⟨(mY s,p,jF r)::a,by rw [e,d];rfl,by rw [aaP,f];rfl,by rw [aaP,g];rfl,λ x c=>?_⟩
     rcases aad.mp c with rfl|c
     . exact iX j
     . exact i x c
theorem Dc:∀ {a:oO} {i:Nat} {e:PyData×ak×V},(a.map (·.1)).Nodup->a[i]?=some e->iq a e.1=some e.2.2
 | [],_,_,_,h=>by simp at h
 | x::a,0,e,_,h=>by
   cases h
   unfold iq
   rw [aa5,aao rfl]
   rfl
 | x::a,i+1,e,H,h=>by
   have H:=aaR.mp H
   have h:a[i]?=some e:=h
   have n:x.1≠e.1:=λ z=>H.1 (aaH.mpr ⟨e,aag h,z.symm⟩)
   have:=Dc H.2 h
   unfold iq at this |-
   rw [aa5,aam n]
   exact this
def gu.MZ {m:ap} {g:rN} (h:gu m g) (G:Lx m) (R:Db m) (l:g.rows.length=g.met.length) (L:g.met.length<=2000):GZ g.rows:=by
 refine ⟨by lia,λ r f=>?_⟩
 obtain ⟨i,c,rfl⟩:=abg.mp f
 have E:=SN c
 have D:i<g.met.length:=by lia
 have b:=SN D
 have a:=h.rows i _ _ b E
 have S:=h.st _ (aay D)
 refine ⟨by rw [<- a.length];exact ue G.h4 _,λ J H=>?_⟩
 obtain ⟨o,d,q⟩:=yA a (some J) H
 have Q:=R _ o S d
 unfold kX at q
 split at q
 .
  have q:Paired (λ j s=>g.met[j]?=some s) J (sR m g.met[i] o):=q
  refine ⟨by rw [q.length];exact Q,λ j H=>?_⟩
  obtain ⟨t,Z,e⟩:=wS q j H
  rw [l]
  exact (Ba.mp e).1
 . exact q.elim
inductive zP (P:bi) (w:aV) (K:aA) (C:ak) (vs:ay) (H:Hp) (Q:VK) (_E:XK):Prop|mk (a q lim fp m xs l:_) (_:vs=[.ref a,.ref q,.int lim]) (_:aN K C H a fp m) (_:Lx m) (_:Bg m lim) (_:lim<=2000) (_:Db m) (_:H q=some (.lst xs)) (_:nl K H xs l) (_:(∀ s∈l,ff m s)) (_:∀ p aC H',aE H H'->ix P w K H' p aC->(∀ s∈l,∃ v,iq aC (mY s)=some (jF v)/\fm m s v)->Q (.ref p) H')
section
variable {m:ap} {s:cm} {o out:Nat}
def Na (a:m.rows.length<=4) (S:ff m s) (c:o∈s.orders m):o<16/\(RC m s).Law o:=by
 obtain ⟨b,h⟩:=aa3.mp c
 obtain ⟨F,O⟩:=(qz (ut a)).2 o b
 obtain ⟨h,H⟩:=abn.mp h
 obtain ⟨H,a⟩:=abn.mp H
 refine ⟨F,(Ord.Hq (aax F (by decide))).mpr ⟨O,⟨?_,abH H,abH a⟩⟩⟩
 have:=abH h
 unfold cm.held at this
 rw [S.lw] at this
 exact this
def C8 (H:m.rows.length<=4) (p:eF m) (S:ff m s) (b:o∈s.orders m) (x:out∈d5 m s o):cu m s o out:=by
 obtain ⟨F,l⟩:=Na H S b
 obtain ⟨u,U⟩:=(qz (xK (s:=s) (o:=o) H)).2 out x
 have a:∀ r,0<=m.wd r/\0<=m.dI r:=λ r=>by
   unfold ap.wd ap.dI ap.lB
   cases e:m.bq[r]? with
   | none=>exact ⟨abV _,abV _⟩
   | some z =>
     cases z with
     | none=>exact ⟨abV _,abV _⟩
     | some z =>
       have:=p.bJ z (aag e)
       exact ⟨this.2.1.1,this.2.2.1.1⟩
 refine ⟨H,S,l,F,u,λ r h=>?_,λ r=>(a r).1,λ r=>(a r).2,p.KO.2.1.1,p.KO.2.2.1⟩
 have:(out &&& s.may m o).testBit r=true:=by rw [U];exact h
 rw [abp] at this
 have:=(aaG _ _ ▸ this:out.testBit r=true/\(s.may m o).testBit r=true).2
 unfold cm.may at this
 rw [Ord.iR] at this
 simp only [aaG,acN,aa1] at this
 exact ⟨this.2.1.1,this.2.1.2,this.2.2⟩
def He {r:List ci} {f g:ci} {x:Nat} (h:x∈rh r f g):x+1<r.length:=by
 have:=aaJ.mp (aa3.mp h).1
 lia
def xi (l:bj) (i:Nat):gN l i=l.getD i 0:=by
 unfold gN
 rw [UE]
def JC {D:List Pr} (h:∀ d∈D,Aw 900 900 d) (H:D.length<=10):fK 20000 (nf (f6 D).1 (f6 D).2):=by
 obtain ⟨a,b,c⟩:=xB D h D.length (aaj _)
 rw [aaC] at a b c
 have F:=lV (t:=(f6 D).1) c
 exact ⟨F.SL (a.mono (by lia)),F.QC (b.mono (by lia)),F.pos⟩
def KJ (W:m.Wf) (f:m.rows.length<=4) (t:m.bD.length=m.rows.length) (S:ff m s):MQ m s:=by
 intro i b l g
 have h:∀ j,j<m.rows.length->s.bN.getD j 0+1<(m.rows.getD j []).length:=λ j n=>by rw [<- xi];exact S.band j n
 have len:∀ d,(gD m s.bN d).length=m.rows.length:=λ d=>by
   unfold gD
   rw [OG,aaq,S.lb]
 have r:b=true->∃ z,m.bq[i]?=some (some z):=λ e=>by
   have:=g e
   unfold ap.has ap.lB at this
   cases q:m.bq[i]? with
   | none=>rw [q] at this;cases this
   | some z =>
     cases z with
     | none=>rw [q] at this;cases this
     | some z=>exact ⟨z,rfl⟩
 have H:i<m.bD.length:=by rw [t];exact l
 have E:nF m i=m.bD[i]:=by unfold nF;rw [SN H];rfl
 have a:=W.bD m.bD[i] (aay H)
 have o:∀ d w,d<=1->fK 120 w->fK 20000 (oR m i (gD m s.bN d) w b):=λ d w k p=>by
   obtain ⟨A,c,Z⟩:=rP (i:=i) (fired:=b) W f (len d) (o4 W S.lb h k) p r
   exact JC A c
 refine ⟨o 0 _ (by decide) ?_,o 1 _ (by decide) ?_⟩
 . rw [E];exact a.2.1.mono (by decide)
 . rw [E];exact a.2.2.mono (by decide)
def MF (w:m.Wf) (h:m.rows.length<=4) (f:m.bD.length=m.rows.length) (p:eF m):Lx m:=by
 refine ⟨h,λ s S=>KJ w h f S,λ s o S H out X=>C8 h p S H X,λ s o x S H a=>?_⟩
 obtain ⟨out,X,a⟩:=abu.mp a
 obtain ⟨c,e,rfl⟩:=aaH.mp a
 obtain ⟨lc,d⟩:=jt.mp e
 have L:(gC m s (Ord.off o out)).length=m.rows.length:=by unfold gC;rw [OG,aaq]
 rw [L] at lc d
 refine (C8 h p S H X).next lc λ i b=>?_
 have:=d i b
 rw [xi]
 unfold gC at this
 rw [UE (l:=List.map _ _),aab,acw b] at this
 have this:c.getD i 0∈(vR m s (Ord.off o out) i).getD []:=this
 unfold vR eI at this
 split at this
 . exact He this
 . exact absurd this aaf
end
structure yz (m:ap):Prop where
 n1:1<=m.rows.length
 n2:m.rows.length<=2
 bd:∀ r∈m.rows,r.length+m.rows.length<=5
 dI:∀ i,m.dI i+m.rows.length<=3
 fails:∀ i,m.fails i<=1
 de:m.de<=4
def iU {k:Nat} (rows:List (bj)):(∀ r∈rows,r.length<=k)->(bE rows).length<=k ^ rows.length:=by
 refine snoc_ind (p:=λ rows=>(∀ r∈rows,r.length<=k)->(bE rows).length<=k ^ rows.length) (λ Z=>aaj _) (λ l r i h=>?_) rows
 rw [iN,aac,aaw,acB]
 refine aaz (fE (k:=k) λ a=>by rw [OG];exact h r (by simp)) (abZ _ (i λ x H=>h x (by simp [H])))
def Ds (m:ap):List cm :=
 (bE ((List.range m.rows.length).map λ i=>List.range ((m.rows.getD i []).length - 1))).flatMap λ b=>(List.range (2 ^ m.rows.length)).flatMap λ u =>
   (bE ((List.range m.rows.length).map λ i=>List.range ((m.dI i).toNat+1))).flatMap λ w=>(bE ((List.range m.rows.length).map λ i=>List.range ((m.fails i).toNat+1))).flatMap λ f =>
     (List.range (m.de.toNat+1)).map λ h=>⟨b,u,w,f,h⟩
def Ni {n i:Nat} {F:Nat->bj} (h:i<n):((List.range n).map F).getD i []=F i:=by
 rw [UE,aab,acw h];rfl
def J1 {m:ap} {s:cm} (S:ff m s):s∈Ds m:=by
 have c:∀ {l:bj} {F:Nat->bj},l.length=m.rows.length->(∀ i,i<m.rows.length->gN l i∈F i)->l∈bE ((List.range m.rows.length).map F):=λ {l F} d b=>by
   refine jt.mpr ⟨by rw [OG,aaq];exact d,λ i h=>?_⟩
   rw [OG,aaq] at h
   rw [Ni h,<- xi]
   exact b i h
 have f:∀ i,i<m.rows.length->(gN s.cA i:Int)<=max 0 (m.dI i)/\(gN s.failed i:Int)<=max 0 (m.fails i):=λ i h=>by
   have:=S.bJ i h
   unfold ap.dI ap.fails
   cases e:m.lB i with
   | none=>rw [e] at this;obtain ⟨Z,H,a⟩:=this;rw [H,a];exact ⟨Int.le_max_left _ _,Int.le_max_left _ _⟩
   | some z=>rw [e] at this;exact ⟨abe this.1 (Int.le_max_right _ _),abe this.2.1 (Int.le_max_right _ _)⟩
 refine abu.mpr ⟨s.bN,c S.lb λ i h=>aaJ.mpr (by have:=S.band i h;lia),abu.mpr ⟨s.bB,aaJ.mpr S.bB,abu.mpr ⟨s.cA,c S.lw λ i h=>aaJ.mpr (by have:=(f i h).1;lia),abu.mpr ⟨s.failed,c S.lf λ i h=>aaJ.mpr (by have:=(f i h).2;lia),aaH.mpr ⟨s.heap,aaJ.mpr (by have:=S.heap;lia),rfl⟩⟩⟩⟩⟩
def Jg {m:ap} {a b c d:Nat} (h:(bE ((List.range m.rows.length).map λ i=>List.range ((m.rows.getD i []).length - 1))).length<=a) (H:(bE ((List.range m.rows.length).map λ i=>List.range ((m.dI i).toNat+1))).length<=b) (e:(bE ((List.range m.rows.length).map λ i=>List.range ((m.fails i).toNat+1))).length<=c) (g:m.de.toNat+1<=d) :
   (Ds m).length<=a * (2 ^ m.rows.length * (b * (c * d))):=by
 unfold Ds
 refine aaz (fE (k:=2 ^ m.rows.length * (b * (c * d))) λ x=>?_) (abZ _ h)
 refine aaz (fE (k:=b * (c * d)) λ y=>?_) (by rw [aaq];exact aaj _)
 refine aaz (fE (k:=c * d) λ w=>?_) (abZ _ H)
 refine aaz (fE (k:=d) λ f=>?_) (abZ _ e)
 rw [OG,aaq]
 exact g
def yz.fin {m:ap} (h:yz m):Bg m 2000:=λ l N g=>by
 have o:=ads N (l₂:=Ds m) λ s n=>J1 (g s n)
 have L:∀ {F:Nat->bj},((List.range m.rows.length).map F).length=m.rows.length:=by intro F;rw [OG,aaq]
 have R:∀ {F:Nat->Nat} {k:Nat},(∀ i,i<m.rows.length->F i<=k)->∀ r∈(List.range m.rows.length).map (λ i=>List.range (F i)),r.length<=k:=λ {F k} f r j=>by
   obtain ⟨i,H,rfl⟩:=aaH.mp j
   rw [aaq]
   exact f i (aaJ.mp H)
 have b:∀ i,i<m.rows.length->(m.rows.getD i []).length+m.rows.length<=5:=λ i H=>by
   rw [UE,SN H]
   exact h.bd _ (aay H)
 have c:=iU (k:=4 - m.rows.length) _ (R (F:=λ i=>(m.rows.getD i []).length - 1) λ i H=>by have:=b i H;lia)
 have C:=iU (k:=4 - m.rows.length) _ (R (F:=λ i=>(m.dI i).toNat+1) λ i H=>by have:=h.dI i;have:=h.n2;lia)
 have a:=iU (k:=2) _ (R (F:=λ i=>(m.fails i).toNat+1) λ i H=>by have:=h.fails i;lia)
 rw [L] at c C a
 have:=Jg (d:=5) c C a (by have:=h.de;lia)
 have p:=h.n1
 have q:=h.n2
 have:m.rows.length=1\/m.rows.length=2:=by lia
 rcases this with e|e
 . rw [e] at this
   lia
 . rw [e] at this
   lia
def yz.res {m:ap} (h:yz m):Db m:=λ s o S d=>by
 have n:=h.n2
 have bl:∀ O,(iM m s o O).length<=9:=λ O=>by
   unfold iM
   rw [OG]
   have L:(gC m s (Ord.off o O)).length=m.rows.length:=by unfold gC;rw [OG,aaq]
   have:=iU (k:=3) (gC m s (Ord.off o O)) λ r a=>by
     obtain ⟨i,H,rfl⟩:=aaH.mp a
     have H:=aaJ.mp H
     unfold vR eI
     split
     . have:=mr (m.rows.getD i []) (lF m i s.bN ((Ord.off o O).testBit i)) (lu m i s.bN ((Ord.off o O).testBit i)) ((m.rows.getD i []).length - 1)
       have b:=h.bd m.rows[i] (aay H)
       have e:m.rows.getD i []=m.rows[i]:=by rw [UE,SN H];rfl
       rw [e] at this |-
       show (kn _ _ _ _).length<=3
       have N:=h.n1
       lia
     . exact aaT _
   rw [L] at this
   exact aaz this (aaz (aa7 (by decide) n) (by decide))
 have:=fE (l:=d5 m s o) (k:=9) bl
 have c:(d5 m s o).length<=16:=(oX (xK (s:=s) (o:=o) (by lia))).2
 show ((d5 m s o).flatMap (iM m s o)).length<=400
 lia
inductive E9 {a b c d e f g h i:Type} (p:a->b->c->d->e->f->g->h->i->Prop):Prop|mk (x:a) (y:b) (z:c) (u:d) (v:e) (w:f) (t:g) (s:h) (r:i) (_:p x y z u v w t s r)
structure DF (n:Nat) (z:Int×Int×Int×Int):Prop where
 s2:z.2.2.1<=2
 s1:2<=n->z.2.2.1<=1
 f:z.2.2.2<=1
structure Cw (n b:Nat) (r:R7):Prop where
 len:r.marks.length<=b+1
 st:∀ z,r.bJ=some z->DF n z
structure nX (rs:List R7) (b0 b1 b2:Int) (p:Nat) (m:ap):Prop where
 most:m.most=b0
 de:m.de=b1
 load:m.load=b2
 rows:∀ (i:Nat) r,m.rows[i]?=some r->∃ q,rs[i]?=some q/\r.length=q.marks.length
 st:∀ (i:Nat) q,i<p->rs[i]?=some q->(m.lB i).map (·.2)=q.bJ.map (·.2)
 no:∀ i,p<=i->m.lB i=none
section
variable {rs:List R7} {b0 b1 b2:Int} {p i j:Nat} {m:ap}
theorem nX.new:nX rs b0 b1 b2 0 (ap.new b0 b1 b2):=⟨rfl,rfl,rfl,λ i r e=>(by have e:([]:List (List ci))[i]?=some r:=e;simp at e),λ Z Z h=>absurd h (abd _),λ Z Z=>rfl⟩
theorem nX.eY {r:List ci} {q:R7} (h:nX rs b0 b1 b2 0 m) (a:rs[m.rows.length]?=some q) (b:r.length=q.marks.length):nX rs b0 b1 b2 0 (m.eY r):=by
 refine ⟨h.most,h.de,h.load,λ i x e=>?_,λ Z Z h=>absurd h (abd _),λ i Z=>?_⟩
 .
  have e:(m.rows++[r])[i]?=some x:=e
  by_cases H:i<m.rows.length
  . rw [aal H] at e
    exact h.rows i x e
  .
   have:=(Ba.mp e).1
   rw [aac,aaw] at this
   obtain rfl:i=m.rows.length:=by lia
   rw [aaU] at e
   cases e
   exact ⟨q,a,b⟩
 .
  have:=h.no i (aaT _)
  unfold ap.lB at this |-
  show ((m.bq++[none])[i]?).getD none=none
  by_cases H:i<m.bq.length
  . rw [aal H];exact this
  . rw [aaS (by lia)]
    by_cases z:i - m.bq.length=0
    . rw [z];rfl
    . rw [ac4 (by show 1<=_;lia)];rfl
theorem nX.fW {z:ci×ci×ci} (h:nX rs b0 b1 b2 p m):nX rs b0 b1 b2 p (m.fW i z):=⟨h.most,h.de,h.load,h.rows,h.st,h.no⟩
theorem nX.eK {f:ci} (h:nX rs b0 b1 b2 p m):nX rs b0 b1 b2 p (m.eK i j f):=⟨h.most,h.de,h.load,h.rows,h.st,h.no⟩
def nX.skip {q:R7} (h:nX rs b0 b1 b2 p m) (a:rs[p]?=some q) (b:q.bJ=none):nX rs b0 b1 b2 (p+1) m:=by
 refine ⟨h.most,h.de,h.load,h.rows,λ i x H e=>?_,λ i H=>h.no i (by lia)⟩
 by_cases z:i=p
 .
  subst z
  rw [a] at e
  cases e
  rw [h.no i (aaj _),b];rfl
 . exact h.st i x (by lia) e
theorem nX.d6 {q:R7} {z:ci×Int×Int×Int} {y:Int×Int×Int×Int} (h:nX rs b0 b1 b2 p m) (a:p<m.bq.length) (b:rs[p]?=some q) (c:q.bJ=some y) (d:z.2=y.2):nX rs b0 b1 b2 (p+1) (m.d6 p z):=by
 have E:∀ i,(m.d6 p z).lB i=if i=p then some z else m.lB i:=λ i=>by
   unfold ap.lB
   show ((m.bq.set p (some z))[i]?).getD none=_
   by_cases e:i=p
   . subst e;rw [aaE rfl,acd a];rfl
   . rw [aaA e,acp (λ q=>e q.symm)]
 refine ⟨h.most,h.de,h.load,h.rows,λ i x H e=>?_,λ i H=>?_⟩
 .
  rw [E]
  by_cases k:i=p
  .
   subst k
   rw [b] at e
   cases e
   rw [aaE rfl,c]
   exact abo some d
  . rw [aaA k];exact h.st i x (by lia) e
 . rw [E,aaA (by lia)];exact h.no i (by lia)
end
def LM:Option (Int×Int×Int×Int)->Bool->Nat->Nat->Prop
 | none,f,w,b=>f=false/\w=0/\b=0
 | some z,f,w,b=>(w:Int)<=z.2.2.1/\(b:Int)<=z.2.2.2/\(b=0\/(f=false/\w=0))
structure nK (rs:List R7) (b0:Int) (i:Nat) (bs ws fs:bj) (b:Nat):Prop where
 lb:bs.length=i
 lw:ws.length=i
 lf:fs.length=i
 bB:b<2 ^ i
 most:((Bit.rooms b).length:Int)<=b0
 band:∀ (j:Nat) q,j<i->rs[j]?=some q->gN bs j+1<q.marks.length
 bJ:∀ (j:Nat) q,j<i->rs[j]?=some q->LM q.bJ (b.testBit j) (gN ws j) (gN fs j)
def nK.zero {r:List R7} {b:Int} (h:0<=b):nK r b 0 [] [] [] 0:=by
 refine ⟨rfl,rfl,rfl,by decide,?_,λ Z Z h=>absurd h (abd _),λ Z Z h=>absurd h (abd _)⟩
 have e:(Bit.rooms 0).length=0:=by decide
 rw [e]
 exact h
def nK.next {R:List R7} {B:Int} {i:Nat} {bs k F:bj} {b x w f:Nat} {lit:Bool} {q:R7} (h:nK R B i bs k F b) (o:i<61) (g:R[i]?=some q) (s:x+1<q.marks.length) (m:LM q.bJ lit w f) (p:lit=true->((Bit.rooms b).length:Int)<B):nK R B (i+1) (bs++[x]) (k++[w]) (F++[f]) (if lit then b+2 ^ i else b)/\(Bit.rooms (if lit then b+2 ^ i else b)).length=(Bit.rooms b).length+(if lit then 1 else 0):=by
 have W:b.testBit i=false:=Bit.iY h.bB (aaj _)
 have d:b+2 ^ i=b ||| 2 ^ i:=by
   have:=adA h.bB 1
   rw [aeb] at this
   rw [acC,this,Nat.or_comm]
 have M:(if lit then b+2 ^ i else b)<2 ^ (i+1):=by
   have:=h.bB
   rw [acB]
   split<;>lia
 have H:(Bit.rooms (if lit then b+2 ^ i else b)).length=(Bit.rooms b).length+(if lit then 1 else 0):=by
   cases lit with
   | false=>rfl
   | true =>
     show (Bit.rooms (b+2 ^ i)).length=_+1
     rw [d,Bit.FT o W]
 have a:∀ j,j<i->(if lit then b+2 ^ i else b).testBit j=b.testBit j:=λ j c=>by
   cases lit with
   | false=>rfl
   | true =>
     show (b+2 ^ i).testBit j=_
     rw [acC]
     exact Nat.testBit_two_pow_add_gt c b
 have t:(if lit then b+2 ^ i else b).testBit i=lit:=by
   cases lit with
   | false=>exact W
   | true =>
     show (b+2 ^ i).testBit i=_
     rw [acC,Nat.testBit_two_pow_add_eq,W];rfl
 have n:∀ {l:bj} {y:Nat},l.length=i->gN (l++[y]) i=y:=λ {l y} e=>by rw [<- e];exact L3
 refine ⟨⟨by rw [aac,h.lb];rfl,by rw [aac,h.lw];rfl,by rw [aac,h.lf];rfl,M,?_,λ j r c E=>?_,λ j r c E=>?_⟩,H⟩
 .
  rw [H]
  have:=h.most
  cases lit with
  | false=>exact this
  | true =>
    have:=p rfl
    show (((Bit.rooms b).length+1:Nat):Int)<=_
    lia
 .
  by_cases e:j<i
  . rw [Bs (by rw [h.lb];exact e)];exact h.band j r e E
  . obtain rfl:j=i:=by lia
    rw [g] at E
    cases E
    rw [n h.lb];exact s
 .
  by_cases e:j<i
  . rw [Bs (by rw [h.lw];exact e),Bs (by rw [h.lf];exact e),a j e];exact h.bJ j r e E
  . obtain rfl:j=i:=by lia
    rw [g] at E
    cases E
    rw [n h.lw,n h.lf,t];exact m
def nK.ok {r:List R7} {b B:Int} {m:ap} {s:cm} (h:nK r b r.length s.bN s.cA s.failed s.bB) (l:nX r b B b2 r.length m) (L:m.rows.length=r.length) (c:(s.heap:Int)<=B):ff m s:=by
 refine ⟨by rw [L];exact h.lb,by rw [L];exact h.lw,by rw [L];exact h.lf,by rw [L];exact h.bB,by rw [l.most];exact h.most,by rw [l.de];exact c,λ i H=>?_,λ i H=>?_⟩
 .
  obtain ⟨q,E,e⟩:=l.rows i _ (SN H)
  rw [UE,SN H]
  show _<m.rows[i].length
  rw [e]
  exact h.band i q (by lia) E
 .
  have D:i<r.length:=by lia
  have E:=SN D
  have:=h.bJ i _ D E
  have e:=l.st i _ D E
  cases q:r[i].bJ with
  | none =>
    rw [q] at this e
    cases z:m.lB i with
    | none=>exact this
    | some a=>rw [z] at e;cases e
  | some y =>
    rw [q] at this e
    cases z:m.lB i with
    | none=>rw [z] at e;cases e
    | some a =>
      rw [z] at e
      have e:a.2=y.2:=aap e
      show (_:Int)<=a.2.2.1/\(_:Int)<=a.2.2.2/\_
      rw [e]
      exact this
def nX.ZD {R:List R7} {g B:Int} {m:ap} (l:nX R g B b2 R.length m) (o:m.rows.length=R.length) (N:1<=R.length) (p:R.length<=2) (d:∀ r∈R,Cw R.length (4 - R.length) r) (j:B<=4):yz m:=by
 have L:∀ i z,m.lB i=some z->∃ y,y.2=z.2/\DF R.length y:=λ i z e=>by
   by_cases H:i<R.length
   .
    have E:=SN H
    have h:=l.st i _ H E
    rw [e] at h
    cases q:R[i].bJ with
    | none=>rw [q] at h;cases h
    | some y =>
      rw [q] at h
      exact ⟨y,(aap h).symm,(d _ (aay H)).st y q⟩
   . rw [l.no i (by lia)] at e;cases e
 refine ⟨by lia,by lia,λ r n=>?_,λ i=>?_,λ i=>?_,by rw [l.de];exact j⟩
 .
  obtain ⟨i,H⟩:=abU.mp n
  obtain ⟨q,E,e⟩:=l.rows i r H
  have:=(d q (aag E)).len
  lia
 .
  unfold ap.dI
  cases e:m.lB i with
  | none=>show (0:Int)+_<=3;lia
  | some z =>
    obtain ⟨y,b,F⟩:=L i z e
    have a:=F.s2
    have c:=F.s1
    rw [b] at c a
    show z.2.2.1+_<=3
    by_cases k:2<=R.length
    . have:=c k;lia
    . lia
 .
  unfold ap.fails
  cases e:m.lB i with
  | none=>show (0:Int)<=1;decide
  | some z =>
    obtain ⟨y,b,F⟩:=L i z e
    have a:=F.f
    rw [b] at a
    exact a
section
variable (K:aA) (C:ak)
inductive Bm (vs:ay) (H:Hp) (Q:VK) (_E:XK):Prop|mk (c:Int) (n b:Nat) (_:vs=[.int c,ao n,ao b]) (_:1<=n) (_:n<=4) (_:1<=b) (_:b<=4) (_:∀ p xs (rs:List R7) H',aE H H'->H' p=some (.lst xs)->bC K H' (rs.map IK) xs->rs.length=n->(∀ r∈rs,r.Ok/\Cw n b r)->Q (.ref p) H')
inductive Fc (vs:ay) (H:Hp) (Q:VK) (_E:XK):Prop|mk (pr:ak) (xs:ay) (rs:List R7) (AR:ak) (s:AN) (pb:ak) (b0 b1 b2:Int) (fl:Int) (_:vs=[.ref pr,.ref AR,.ref pb,.int fl]) (_:bh K H pr xs) (_:bC K H (rs.map IK) xs) (_:1<=rs.length) (_:rs.length<=4) (_:(∀ r∈rs,r.Ok)) (_:bR K H AR s.vs) (_:s.Ok) (_:bR K H pb [.int b0,.int b1,.int b2]) (_:(0<=b0/\b0<=4)) (_:(0<=b1/\b1<=30)) (_:(0<=b2/\b2<=30)) (_:∀ a fp m H',aE H H'->aN K C H' a fp m->(∀ c∈fp,H c=none)->m.rows.length=rs.length->QH m->eF m->nX rs b0 b1 b2 rs.length m->Q (.ref a) H')
inductive Cd (vs:ay) (H:Hp) (Q:VK) (_E:XK):Prop|mk (pr:ak) (xs:ay) (rs:List R7) (pb:ak) (b0 b1 b2 c k:Int) (_:vs=[.ref pr,.ref pb,.int c,.int k]) (_:bh K H pr xs) (_:bC K H (rs.map IK) xs) (_:1<=rs.length) (_:rs.length<=4) (_:(∀ r∈rs,r.Ok)) (_:bR K H pb [.int b0,.int b1,.int b2]) (_:0<=b0) (_:0<=b1) (_:0<=k) (_:k<=100) (_:∀ q st H',aE H H'->gc K H' q st->nK rs b0 rs.length st.bN st.cA st.failed st.bB->(st.heap:Int)<=b1->Q (.ref q) H')
end
structure Xu (m m':ap):Prop where
 ex:∃ a b c,m'={ m with most:=a,de:=b,load:=c }/\m.most<=a/\a<=4/\m.de<=b/\b<=4/\m.load<=c/\c<=30
theorem Xu.le {m m':ap} (h:Xu m m') {s:cm} {H:Nat} {u v:Option Nat} (l:s.heap<=H) (r:fm m s u) (R:fm m' { s with heap:=H } v):v=none\/∃ x y,u=some x/\v=some y/\x<=y:=by
 obtain ⟨a,b,c,rfl,d,g,e,i,f,j⟩:=h.ex
 exact r.le R λ k q=>zC d e f k s H l q
structure mw where
 bN:List Int
 bB:Nat
 cA:List Int
 failed:List Int
 heap:Int
def vq (K:aA) (H:Hp) (p:ak) (g:mw):Prop :=
 ∃ a c b,bR K H p [.ref a,ao g.bB,.ref c,.ref b,.int g.heap]/\bR K H a (g.bN.map V.int)/\bR K H c (g.cA.map V.int)/\bR K H b (g.failed.map V.int)
def vq.same {K:aA} {p:ak} {g:mw} (h:vq K H p g) (q:aE H H'):vq K H' p g:=by
 obtain ⟨e,i,f,a,b,c,d⟩:=h
 exact ⟨e,i,f,q.tup a,q.tup b,q.tup c,q.tup d⟩
def yJ (l:bj):List Int:=l.map Int.ofNat
def mw.of (s:cm):mw:=⟨yJ s.bN,s.bB,yJ s.cA,yJ s.failed,s.heap⟩
def xJ (l:bj):(yJ l).map V.int=l.map ao:=by unfold yJ;rw [abJ];rfl
def gc.gs {K:aA} {p:ak} {s:cm} (h:gc K H p s):vq K H p (.of s):=by
 obtain ⟨e,g,f,a,b,c,d⟩:=h
 exact ⟨e,g,f,a,by show bR K H e ((yJ s.bN).map V.int);rw [xJ];exact b,by show bR K H g ((yJ s.cA).map V.int);rw [xJ];exact c,by show bR K H f ((yJ s.failed).map V.int);rw [xJ];exact d⟩
def TZ (s:Option (Int×Int)) (f:Bool) (w b:Int):Bool :=
 match s with
 | none => !f && (decide (w=0) && decide (b=0))
 | some z=>(decide (0<=w) && decide (w<=z.1)) && ((decide (0<=b) && decide (b<=z.2)) && (decide (b=0) || (!f && decide (w=0))))
def nI (n:Int) (s:Option (Int×Int)) (B:Int) (f:Bool) (w b:Int):Bool:=(decide (0<=B) && decide (B<n)) && TZ s f w b
def TQ (n:Nat) (most de:Int) (N:Nat->Int) (s:Nat->Option (Int×Int)) (g:mw):Bool :=
 (decide (g.bN.length=n) && (decide (g.cA.length=n) && decide (g.failed.length=n))) && ((decide (g.bB<2 ^ n) && decide (((Bit.rooms g.bB).length:Int)<=most)) &&
   ((decide (0<=g.heap) && decide (g.heap<=de)) && (List.range n).all λ i=>nI (N i) (s i) (g.bN.getD i 0) (g.bB.testBit i) (g.cA.getD i 0) (g.failed.getD i 0)))
def ap.nb (m:ap) (i:Nat):Int:=((m.rows.getD i []).length:Int) - 1
def Kg (o:Option T7):Option (Int×Int):=o.map λ z=>(z.2.2.1,z.2.2.2)
def ap.sv (m:ap) (i:Nat):Option (Int×Int):=Kg (m.lB i)
def yw (m:ap) (g:mw):Bool:=TQ m.rows.length m.most m.de m.nb m.sv g
def yn (l:bj) (i:Nat):(yJ l).getD i 0=(gN l i:Int):=by
 unfold yJ gN
 rw [UE,aab]
 cases l[i]? <;> rfl
def qJ (l:bj):(yJ l).length=l.length:=by unfold yJ;rw [OG]
theorem ff.yw {m:ap} {s:cm} (h:ff m s):yw m (.of s)=true:=by
 unfold L2.yw TQ
 simp only [aaG,aa1,abC]
 refine ⟨⟨by show (yJ s.bN).length=_;rw [qJ,h.lb],by show (yJ s.cA).length=_;rw [qJ,h.lw],by show (yJ s.failed).length=_;rw [qJ,h.lf]⟩,⟨h.bB,h.most⟩,⟨aa6 _,h.heap⟩,λ i H=>?_⟩
 have H:=aaJ.mp H
 show nI _ _ ((yJ s.bN).getD i 0) _ ((yJ s.cA).getD i 0) ((yJ s.failed).getD i 0)=true
 rw [yn,yn,yn]
 have g:=h.band i H
 have a:=h.bJ i H
 unfold nI
 rw [aaG,aaG]
 refine ⟨⟨aao (aa6 _),aao (by unfold ap.nb;lia)⟩,?_⟩
 show TZ (Kg (m.lB i)) (s.bB.testBit i) _ _=true
 cases e:m.lB i with
 | none =>
   rw [e] at a
   obtain ⟨b,c,d⟩:=a
   rw [b,c,d];rfl
 | some z =>
   rw [e] at a
   obtain ⟨b,c,d⟩:=a
   show ((decide _ && decide _) && ((decide _ && decide _) && (decide _ || (!_ && decide _))))=true
   simp only [aaG,aa1,Bool.or_eq_true,acN]
   refine ⟨⟨aa6 _,b⟩,⟨aa6 _,c⟩,?_⟩
   rcases d with h|⟨h,f⟩
   . exact .inl (by lia)
   . exact .inr ⟨h,by lia⟩
section
variable (K:aA) (C:ak)
inductive Ht (vs:ay) (H:Hp) (Q:VK) (_E:XK):Prop|mk (v z f:_) (w b:Int) (_:vs=[v,.bl f,.int w,.int b]) (_:Dn K H (iB z) v) (_:∀ H',aE H H'->Q (.bl (TZ (Kg z) f w b)) H')
inductive HB (vs:ay) (H:Hp) (Q:VK) (_E:XK):Prop|mk (a fp m p g:_) (i:Nat) (_:vs=[.ref a,.ref p,ao i]) (_:aN K C H a fp m) (_:vq K H p g) (_:g.bN.length=m.rows.length) (_:g.cA.length=m.rows.length) (_:g.failed.length=m.rows.length) (_:i<m.rows.length) (_:∀ H',aE H H'->Q (.bl (nI (m.nb i) (m.sv i) (g.bN.getD i 0) (g.bB.testBit i) (g.cA.getD i 0) (g.failed.getD i 0))) H')
inductive M0 (vs:ay) (H:Hp) (Q:VK) (_E:XK):Prop|mk (a fp m p g:_) (_:vs=[.ref a,.ref p]) (_:aN K C H a fp m) (_:vq K H p g) (_:g.bB<2 ^ 61) (_:∀ H',aE H H'->Q (.bl (yw m g)) H')
inductive Ms (X:ak) (vs:ay) (H:Hp) (_E:VK) (E:XK):Prop|mk (a fp m p g:_) (_:vs=[.ref a,.ref p]) (_:aN K C H a fp m) (_:vq K H p g) (_:g.bB<2 ^ 61) (_:yw m g=false) (_:∀ H',aE H H'->E (.ref X) none H')
inductive GL (X:ak) (vs:ay) (H:Hp) (Q:VK) (E:XK):Prop|mk (a fp m p g:_) (_:vs=[.ref a,.ref p]) (_:aN K C H a fp m) (_:vq K H p g) (_:g.bB<2 ^ 61) (_:(yw m g=true->∀ H',aE H H'->Q .cB H')) (_:(yw m g=false->∀ H',aE H H'->E (.ref X) none H'))
end
def ub {i:Nat} (h:i<l.length):tT (l.map V.int) (i:Int)=some (.int (l.getD i 0)):=bZ (by rw [aab,UE,aJ h];rfl)
section
variable {X:Cx} {pos:Pos}
def Rt (K:aA) (c:av) (t:(St->XK)->TS) (T:TS):TS:=λ D U H=>t (λ a cls Z h=>W.exmOne K cls c=some true/\T D a h) D U H
def Jq {a:List Stmt} {c:Str} {C:ak} {np Mi:Pos} {d:Stmt} {LP:List Stmt} {t:(St->XK)->TS} {ts:TS} (n:X.stack=X.env::X.outer) (G:X.env.frame=some X.env.locals) (hm:X.mg c=some (.ref C)) (hb:Z7 X a t) (hs:∀ e O,tF (X.held e O) (d::LP) ts) (hg:Gl X c:=by rfl) (qO:(c == ("__debug__" : Str))=false:=by decide) :
   PS X (.Try a [.ExceptHandler (some (.Name c np)) none (d::LP) Mi] [] [] pos) (Rt X.K (.ref C) t ts):=by
 intro p s U H D I h
 refine wpAny_Try_except (aba (hb p s U H D _ I h) (λ f S q=>?_) λ ex S hx=>?_)
 .
  cases f with
  | next=>exact aci q
  | ret v=>exact q
  | brk=>exact q
  | cont=>exact q
 .
  obtain ⟨ad,H1,s0,Y,x,cls,H',rfl,F,_,_,L,hk⟩:=hx
  obtain ⟨a0,B,V⟩:=F.b
  have fr:X.A.frames=some (X.env::X.outer):=n ▸ I.ok.frames
  have r:Heap.FlyingW B (X.env::X.outer) x cls a0 S.heap:=n ▸ V.fl
  refine wpAny_looks_onW fr G r λ h4 l N=>?_
  refine wpAny_landsW l λ h5 j R=>?_
  have m:=V.moved (t2:=S.toks) (n ▸ j) (Heap.UpToSlots.trans N R)
  have I5:=Y.FR m
  obtain ⟨M,ab,k,y,E⟩:=m.obj
  have J5:=I5.held k E m.none
  refine wpAny_handleBy_cons (codeAny_handlers_test (kH (X:=X.held x M) J5 hg hm ?_ qO)) (by intro q;cases q)
  have LT:W.Looks (model X.prog X.w) h5 (typeOf (.ref x)) cls:=y ▸ (W.Looks.ld k).andThen .now
  refine (W.exm_one J5.oP LT L) _ _ _ _ (λ _ _ q=>q) ?_
  refine codeAny_handlers_suite ?_
  refine lands_againW j λ h6 u T=>?_
  have o:=m.moved (t2:=S.toks) (n ▸ u) T
  have I6:=Y.FR o
  obtain ⟨O,vs,he,hc,hd⟩:=o.obj
  have J6:=I6.held he hd o.none
  refine aba (hs x O p _ _ H' D J6 hk) (λ f s8 q=>?_) λ _ _ z=>False.elim z
  have ok:=I.ok
  cases f with
  | next =>
    obtain ⟨i,g,J,Q⟩:=q
    exact ⟨_,g,J.yd ok,Q⟩
  | brk =>
    obtain ⟨i,g,J,Q⟩:=q
    exact ⟨_,g,J.yd ok,Q⟩
  | cont =>
    obtain ⟨i,g,J,Q⟩:=q
    exact ⟨_,g,J.yd ok,Q⟩
  | ret v =>
    obtain ⟨v8,i,g,J,r8,Q⟩:=q
    exact ⟨v8,_,g,J.yd ok,r8,Q⟩
end
def cm.at (s:cm) (h:Nat):cm:={ s with heap:=h }
inductive HU (K:aA) (C:ak) (vs:ay) (H:Hp) (Q:VK) (_E:XK):Prop|mk (a fp m p g:_) (_:vs=[.ref a,.ref p]) (_:aN K C H a fp m) (_:vq K H p g) (_:g.bB<2 ^ 61) (_:yw m g=false) (_:∀ H',aE H H'->Q (.bl true) H')
def hX {m:ap} {g:mw} (h:yw m g=true):g.bN.length=m.rows.length/\g.bB<2 ^ m.rows.length/\0<=g.heap/\g.heap<=m.de/\∀ i,i<m.rows.length->nI (m.nb i) (m.sv i) (g.bN.getD i 0) (g.bB.testBit i) (g.cA.getD i 0) (g.failed.getD i 0)=true:=by
 unfold yw TQ at h
 simp only [aaG,aa1,abC] at h
 exact ⟨h.1.1,h.2.1.1,h.2.2.1.1,h.2.2.1.2,λ i H=>h.2.2.2 i (aaJ.mpr H)⟩
def lQ {m:ap} {g:mw} (h:yw m g=true->False):yw m g=false:=by
 cases e:yw m g with
 | false=>rfl
 | true=>exact (h e).elim
def mF {n B w b:Int} {s:Option (Int×Int)} {f:Bool} (h:nI n s B f w b=true):(0<=B/\B<n)/\(s=none->w=0/\b=0)/\∀ z,s=some z->w<=z.1/\b<=z.2:=by
 unfold nI at h
 rw [aaG,aaG,aa1,aa1] at h
 refine ⟨h.1,λ e=>?_,λ z e=>?_⟩<;>(have H:=h.2;rw [e] at H;simp only [TZ,aaG,aa1] at H)
 . exact H.2
 . exact ⟨H.1.2,H.2.1.2⟩
def xj (l:List Int) (i:Nat) (v:Int):List Int:=l.take i++[v]++l.drop (i+1)
def sZ {i:Nat} {v:Int} (h:i<l.length):(xj l i v).getD i 0=v:=by
 unfold xj
 rw [acf,UE,aaS (by rw [aaD];lia),aaD,Nat.min_eq_left (by lia),Nat.sub_self]
 rfl
abbrev Sv7:=Int×Int×Int×Int
def IU (o:Option Sv7):Sv7:=o.getD (0,0,0,0)
structure UC (K:aA) (m:ap) (st:cm) (H0:Hp) (vs:List (eE)) (i:Nat) (sv:V) (way:Int) (k:Int) (U:St) (H:Hp):Prop where
 ex:∃ pb pw pf g,aE H0 H/\bR K H pb (g.bN.map V.int)/\bR K H pw (g.cA.map V.int)/\bR K H pf (g.failed.map V.int)/\U=vs++[some (.ref pb),some (ao g.bB),some (.ref pw),some (.ref pf),some (.int g.heap),some (ao i),some sv,some (.int way)]/\g.bB<2 ^ 61 /\
   ((way<k/\yw m g=false)\/(k<=way/\g = .of st))
def UC.skip {K:aA} {m:ap} {st:cm} {vs:List (eE)} {i:Nat} {s:V} {w k:Int} (h:UC K m st H0 vs i s w k U H) (n:w≠k):UC K m st H0 vs i s w (k+1) U H:=by
 obtain ⟨p,l,j,g,a,b,c,d,e,f,q⟩:=h.ex
 refine ⟨p,l,j,g,a,b,c,d,e,f,?_⟩
 rcases q with ⟨o,Q⟩|⟨o,Q⟩
 . exact .inl ⟨by lia,Q⟩
 . exact .inr ⟨by lia,Q⟩
section
variable {rs:List R7} {b0 b1 b2:Int} {m:ap} {i:Nat} {q:R7}
theorem nX.nb (L:nX rs b0 b1 b2 rs.length m) (h:i<m.rows.length) (H:rs[i]?=some q):m.nb i=(q.marks.length:Int) - 1:=by
 obtain ⟨Q,e,l⟩:=L.rows i _ (SN h)
 rw [H] at e
 cases e
 unfold ap.nb
 rw [UE,SN h]
 show ((m.rows[i].length:Nat):Int) - 1=_
 rw [l]
theorem nX.sv (l:nX rs b0 b1 b2 rs.length m) (a:i<rs.length) (b:rs[i]?=some q):m.sv i=q.bJ.map λ z=>(z.2.2.1,z.2.2.2):=by
 have e:=l.st i q a b
 unfold ap.sv Kg
 cases H:m.lB i with
 | none =>
   rw [H] at e
   cases h:q.bJ with
   | none=>rfl
   | some z=>rw [h] at e;cases e
 | some y =>
   rw [H] at e
   cases h:q.bJ with
   | none=>rw [h] at e;cases e
   | some z =>
     rw [h] at e
     have e:y.2=z.2:=aap e
     show some (y.2.2.1,y.2.2.2)=some (z.2.2.1,z.2.2.2)
     rw [e]
end
inductive Ix (K:aA) (vs:ay) (H:Hp) (Q:VK) (_E:XK):Prop|mk (q st pr xs rs pb b0 b1 b2 x m:_) (_:vs=[.ref q,.ref pr,.ref pb,.int x]) (_:gc K H q st) (_:bh K H pr xs) (_:bC K H (rs.map IK) xs) (_:1<=rs.length) (_:rs.length<=4) (_:bR K H pb [.int b0,.int b1,.int b2]) (_:m.rows.length=rs.length) (_:nX rs b0 b1 b2 rs.length m) (_:ff m st) (_:∀ p g H',aE H H'->vq K H' p g->g.bB<2 ^ 61->yw m g=false->Q (.ref p) H')
def Xz (j:Int) (h0:0<=j) (h:j<=1000000):Hk 10 j:=⟨h0,h,by decide⟩
def N8 {i:Nat} {v:Int}:(l.map V.int).take i++[V.int v]++(l.map V.int).drop (i+1)=(xj l i v).map V.int:=by
 unfold xj
 rw [aah,aah,List.map_take,List.map_drop]
 rfl
def tG {K:aA} {Q:VK} {a:Nat} {c:ak} {i:Nat} {v:Int} {T:TE} (f:U[a]?=some (some (.ref c))) (e:U[9]?=some (some (ao i))) (g:bR K H c (l.map V.int)) (u:i<l.length) (L:l.length<=900) (w:∀ h q,aE H h->q (.int v) h->T U h q) (k:∀ t H',aE H H'->bR K H' t ((xj l i v).map V.int)->Q (.ref t) H') :
   LU (CK K) (LU (CK K) (VM (RX K) (zA a) xc (IC (zA 9))) (RU (Hv T IF))) (VM (Sj K) (zA a) (IC (LU LH (zA 9) (tC (.int 1)))) xc) U H Q:=by
 refine ⟨_,f,_,e,_,rfl,c,_,i,rfl,g,rfl,rfl,by rw [OG];exact u,λ A z=>?_⟩
 have s:=al (o:=.tup ((l.map V.int).take i)) z
 refine w _ _ s ⟨IP,λ B O=>?_⟩
 have j:=al (o:=.tup [.int v]) O
 refine ⟨A,B,_,_,rfl,rfl,bR.of (j _ _ ag),bR.of ag,abq (aT (by rw [aaD,OG];show _+1<=1000;lia)),λ C G x p=>?_⟩
 have S:=s.trans (j.trans x)
 refine ⟨_,f,_,e,_,_,rfl,rfl,λ r E=>⟨_,rfl,c,_,i+1,rfl,S.tup g,by rw [E];rfl,rfl,by lia,by rw [OG];lia,λ D b=>?_⟩⟩
 have m:=al (o:=.tup ((l.map V.int).drop (i+1))) b
 refine ⟨C,D,_,_,rfl,rfl,m.tup p,bR.of ag,abq (aT (by rw [aac,aaD,adu,OG];show _+1+_<=1000;lia)),λ F n y d=>?_⟩
 rw [N8] at d
 exact k F n (S.trans (m.trans y)) d
section
variable {P:bi} {w:aV} {K:aA} {mg:cZ} {base:aU} {x:Str} {st:Stmt} {ps ks:cx} {k:Nat} {sp:Sp} {gV:ay->ay->ay}
def N7 (P:bi) (w:aV) (K:aA) (m:cZ) (base:aU) (x:Str) (k:Nat) (p a:cx) (G:ay->ay->ay) (s:Sp):Prop :=
 ∃ g f F,m x=some (.ref f)/\W.keepIn K (.ref f)=true/\Cv K F p a g G/\iz P w K m base xR k f F p s
def Nk.WC {T:ak} {z:ay} (h:Nk P w K mg base x st (.ref T) k ps sp) (H:A2 K T z) (c:∀ i:Array av,Vals z i.toList->∃ g:aZ->aZ->aZ,(∀ {vs:ay} {us:aZ} {e:ay} {a:aZ},Vals vs us->Vals e a->Vals (gV vs e) (g us a))/\∀ (kV d p:av) (A:Option ak) (b ct:av) (us a:aZ),(g us a).length=ps.length->∃ k,bindArgs (W.fnOf x x (cQ st) (bK st) (aq st) (.ref T) kV d p A b ct) ⟨us,ks.zip a⟩=seqItems? (.ref T) >>= k/\k (some i)=pure (ps.zip (g us a))) :
   N7 P w K mg base x k ps ks gV sp:=by
 obtain ⟨f,j,M,F,O⟩:=h
 obtain ⟨o,n,i,H,t,u⟩:=H
 obtain ⟨g,q,c⟩:=c i u
 refine ⟨g,f,j,M,F.kp,⟨?_,q⟩,O⟩
 obtain ⟨v,y,kV,d,p,A,b,ct,B,rfl,L,V⟩:=F.ex
 intro s us a X r
 obtain ⟨k,l,m⟩:=c kV d p A b ct us a r
 exact W.binds_K X rfl H t l m
def g62 (a b:V):ay->ay->ay
 | [v],[z]=>[v,a,b,z]
 | _,_=>[]
def Tr (a b:av):aZ->aZ->aZ
 | [v],[z]=>[v,a,b,z]
 | _,_=>[]
def Go {a b:V} {A B:av} (R:RelV a A) (c:RelV b B) {vs:ay} {us:aZ} {z:ay} {w:aZ} (h:Vals vs us) (k:Vals z w):Vals (g62 a b vs z) (Tr A B us w):=by
 cases h with
 | nil=>exact .nil
 | cons r t =>
   cases t with
   | cons d T=>cases k<;>exact .nil
   | nil =>
     cases k with
     | nil=>exact .nil
     | cons s u =>
       cases u with
       | cons S U=>exact .nil
       | nil=>exact .cons r (.cons R (.cons c (.cons s .nil)))
def Ku {a b:av} {us w:aZ} (h:(Tr a b us w).length=4):∃ u z,us=[u]/\w=[z]:=by
 unfold Tr at h
 split at h
 . exact ⟨_,_,rfl,rfl⟩
 . cases h
end
def ET {X:Cx} {x:Str} {p a:Pos} {e:Expr} {es:List Expr} {b:List Keyword} {t T:TA} {k:Nat} {q c:cx} {s:Sp} {G:ay->ay->ay} (D:N7 X.prog X.w X.K X.mg X.base x k q c G s) (o:cL k X.A) (H:PA X (e::es) t) (S:PK X b T) (l:Gl X x:=by rfl) (B:(backToKw a (keywordEach b X.env)).all (·.1.isSome)=true:=by rfl) (d:(backToKw a (keywordEach b X.env)).filterMap (·.1)=c:=by rfl) (Q:wm x:=by decide) (j:yN X e es:=by rfl) (h:((backTo a (starEach (e::es) X.env)).any (·.1) || (backToKw a (keywordEach b X.env)).any (·.1.isNone))=false:=by rfl) :
   PE X (.Call (.Name x p) (e::es) b a) (Ga s G E0 t T):=by
 obtain ⟨g,f,r,n,m,i,F⟩:=D
 exact FZ F o l n m i (λ Z Z Z Z Z Z Z z=>False.elim z) H S B d Q j h
structure wU (n:Nat) (R:Nat->Option Nat->Prop) (v:Option Nat):Prop where
 no:v=none->∀ (i:Nat) w,i<n->R i w->w≠none
 at_:∀ j,v=some j->j<n/\(∀ w,R j w->w=none)/\∀ (i:Nat) w,i<j->R i w->w≠none
def Qn (K:aA) (C:ak) (H:Hp) (xs:ay) (M:Nat->ap):Prop:=∀ (i:Nat) x,xs[i]?=some x->∃ a f,x = .ref a/\aN K C H a f (M i)
structure Mu (st:cm) (m:ap):Prop where
 gm:Lx m
 fs:Bg m 2000
 rl:Db m
 so:ff m st
inductive DW (K:aA) (C:ak) (vs:ay) (H:Hp) (Q:VK) (_E:XK):Prop|mk (a fp m q st:_) (_:vs=[.ref a,.ref q]) (_:aN K C H a fp m) (_:Mu st m) (_:gc K H q st) (_:∀ v H',aE H H'->fm m st v->Q (jF v) H')
def Lq (bs:List Int):Option Nat->V
 | none => .cB
 | some i => .int (bs.getD i 0)
structure Je (st:cm) (n:Nat) (M:Nat->ap):Prop where
 gd:∀ i,i<n->Mu st (M i)
 mono:∀ (i j:Nat) u v,i<=j->j<n->fm (M i) st u->fm (M j) st v->u=none->v=none
inductive NT (K:aA) (C:ak) (vs:ay) (H:Hp) (Q:VK) (_E:XK):Prop|mk (pb bs ph xs M q st:_) (_:vs=[.ref pb,.ref ph,.ref q]) (_:bh K H pb (bs.map V.int)) (_:bh K H ph xs) (_:Qn K C H xs M) (_:xs.length=bs.length) (_:bs.length<=31) (_:Je st bs.length M) (_:gc K H q st) (_:∀ v H',aE H H'->wU bs.length (λ i w=>fm (M i) st w) v->Q (Lq bs v) H')
structure Kt (st:cm) (M:Nat->ap) (n lo hi:Nat):Prop where
 lh:lo<=hi
 hn:hi<=n
 lw:∀ (i:Nat) w,i<lo->fm (M i) st w->w≠none
 up:∀ (i:Nat) w,hi<=i->i<n->fm (M i) st w->w=none
def Kt.fin {st:cm} {M:Nat->ap} {n lo H:Nat} (h:Kt st M n lo H) (e:¬ lo<H):wU n (λ i w=>fm (M i) st w) (if lo<n then some lo else none):=by
 have a:=h.lh
 have b:=h.hn
 by_cases c:lo<n
 .
  rw [aaE c]
  refine ⟨nofun,λ j E=>?_⟩
  cases E
  exact ⟨c,λ w=>h.up lo w (by lia) c,λ i w H=>h.lw i w H⟩
 . rw [aaA c]
   exact ⟨λ Z i w H=>h.lw i w (by lia),nofun⟩
def ap.ld (m:ap) (l:Nat):ap:=m.with none none (some (l:Int))
inductive Ek (K:aA) (C:ak) (vs:ay) (H:Hp) (Q:VK) (_E:XK):Prop|mk (a fp m q st:_) (_:vs=[.ref a,.ref q]) (_:aN K C H a fp m) (_:gc K H q st) (_:ff m st) (_:0<=m.de) (_:m.de<=30) (_:eF m) (_:Je st (m.de+1).toNat m.ld) (_:∀ v H',aE H H'->wU (m.de+1).toNat (λ i w=>fm (m.ld i) st w) v->Q (jF v) H')
inductive DU (K:aA) (C:ak) (vs:ay) (H:Hp) (Q:VK) (_E:XK):Prop|mk (a fp m q st:_) (h:Nat) (_:vs=[.ref a,.ref q,.int (h:Int)]) (_:aN K C H a fp m) (_:eF m) (_:Mu st (m.ld h)) (_:(h:Int)<=30) (_:gc K H q st) (_:∀ v H',aE H H'->fm (m.ld h) st v->Q (.bl v.isNone) H')
inductive Ct (K:aA) (C:ak) (vs:ay) (H:Hp) (Q:VK) (_E:XK):Prop|mk (a fp m q st v:_) (_:vs=[.ref a,.ref q,.int m.de,jF v]) (_:aN K C H a fp m) (_:eF m) (_:Je st (m.de+1).toNat m.ld) (_:gc K H q st) (_:0<=m.de) (_:m.de<=30) (_:wU (m.de+1).toNat (λ i w=>fm (m.ld i) st w) v) (_:∀ H',aE H H'->Q (.bl true) H')
def Bu {m:ap} (p:eF m) {l:Nat} (h:(l:Int)<=30):(m.ld l).U5:=⟨p.KO.1,p.KO.2.1,⟨aa6 l,h⟩⟩
def NU {m:ap} (p:eF m) {l:Nat} (h:(l:Int)<=30):eF (m.ld l):=⟨p.rise,p.tE,p.bJ,Bu p h⟩
def Dz {m:ap} (f:yz m) (l:Nat):yz (m.ld l):=⟨f.n1,f.n2,f.bd,f.dI,f.fails,f.de⟩
def Sv {m:ap} {st:cm} (s:ff m st) (l:Nat):ff (m.ld l) st:=⟨s.lb,s.lw,s.lf,s.bB,s.most,s.heap,s.band,s.bJ⟩
def Sc {K:aA} {C:ak} {a:ak} {F:bw} {m:ap} {st:cm} (h:aN K C H a F m) (p:eF m) (f:yz m) (s:ff m st) (c:0<=m.de) (O:m.de<=30):Je st (m.de+1).toNat m.ld:=by
 refine ⟨λ i b=>⟨MF (m:=m.ld i) ⟨h.wf.rows,h.wf.len,h.wf.dP,h.wf.bD,h.wf.bq⟩ h.mx h.sk (NU p (by lia)),(Dz f i).fin,(Dz f i).res,Sv s i⟩,λ i j u v B d r R E=>?_⟩
 have M:Xu (m.ld i) (m.ld j):=⟨m.most,m.de,(j:Int),rfl,abV _,p.KO.1.2,abV _,f.de,by show (i:Int)<=j;lia,by lia⟩
 rcases M.le (aaj _) r R with e|⟨x,y,e,Z⟩
 . exact e
 . rw [E] at e;cases e
end L2
namespace L2
open PySem PySem.Spec PyProof.Rows Mth
def eV {N Q:cx} {sc:Scope} (a:sc.kind = .function:=by rfl) (b:sc.isCoroutine=false:=by rfl) (c:sc.isGenerator=false:=by rfl) (d:N.Nodup:=by decide +kernel) (e:N.take Q.length=Q:=by rfl) (f:∀ x∈Q,sc.names.lookup x=some .local\/sc.names.lookup x=some .cell:=by decide +kernel) (g:∀ y∈sc.names,y.2 ≠ .free:=by decide +kernel):aB N Q sc:=⟨a,b,c,d,e,f,g⟩
section
variable {X:Cx} {i:Nat} {x:Str} {pos pos':Pos} {e:Expr} {te:TE}
def iJ (h:X.N.Nodup) (a:X.N[i]?=some x:=by rfl) (b:Loc X.env.scope x:=by exact lc rfl) (H:X.fn x=true\/X.env.scope.names.lookup x=some .local:=by first|exact .inl rfl|exact .inr rfl|assumption):PG X (.Name x pos) (uD i):=Da h a b H
def mG (h:X.N.Nodup:=by dsimp only [cF];decide +kernel) (a:X.N[i]?=some x:=by rfl) (b:Loc X.env.scope x:=by exact lc rfl) (H:X.fn x=true\/X.env.scope.names.lookup x=some .local:=by first|exact .inl rfl|exact .inr rfl|assumption):PG X (.Name x pos) (uD i):=Da h a b H
def cT (h:X.N.Nodup) (H:PE X e te) (b:X.N[i]?=some x:=by rfl) (d:Loc X.env.scope x:=by exact lc rfl) (c:swapsWith e (some (.Name x pos')) pos.line X.env=pure false:=by rfl) (a:X.fn x=true\/X.env.scope.names.lookup x=some .local:=by first|exact .inl rfl|exact .inr rfl|assumption):PS X (.Assign [.Name x pos'] e pos) (HG te (uD i)):=Ny h b d H c a
end
end L2
namespace K62
open PySem PySem.Spec PyProof.Rows L2 Mth
seal PE PS tF PPs PA PG On PT Lj PI
def top (i:Nat):Stmt:=PySem.Challenge.pw_stoke_k62_the_least_load.main.body.getD i (.Pass ⟨0,0,0,0⟩)
abbrev oF:Stmt:=top 1
def zS:aB ["bits","room"] ["bits","room"] (aq oF):=eV
abbrev ly:Stmt:=top 2
def wN:aB ["bits","room"] ["bits","room"] (aq ly):=eV
abbrev oi:Stmt:=top 3
def zD:aB ["bits"] ["bits"] (aq oi):=eV
abbrev qi:Stmt:=top 4
def Ca:aB ["bits"] ["bits"] (aq qi):=eV
abbrev rM:Stmt:=top 5
def kg:aB ["bits","parts","room"] ["bits"] (aq rM):=eV
abbrev qI:Stmt:=top 6
def jX:aB ["rooms","bits","room"] ["rooms"] (aq qI):=eV
abbrev CV:Stmt:=inClass (top 17) 0
abbrev BS:Stmt:=inClass (top 18) 0
abbrev nV:Stmt:=top 20
def fo:aB ["hold","state","bands","burning","waits","failed","heap","many"] ["hold","state"] (aq nV):=eV
abbrev kZ:Stmt:=top 21
def fJ:aB ["hold","state","room","bands","burning","waits","failed","heap"] ["hold","state","room"] (aq kZ):=eV
abbrev kF:Stmt:=top 22
def jG:aB ["stove","fired","wait","failed","stay","fails"] ["stove","fired","wait","failed"] (aq kF):=eV
abbrev iw:Stmt:=top 23
def jM:aB ["hold","state"] ["hold","state"] (aq iw):=eV
abbrev kI:Stmt:=top 24
def vB:aB ["hold"] ["hold"] (aq kI):=eV
abbrev qK:Stmt:=top 25
def Ce:aB ["hold","bits"] ["hold","bits"] (aq qK):=eV
abbrev l5:Stmt:=top 26
def xV:aB ["state"] ["state"] (aq l5):=eV
abbrev ou:Stmt:=top 27
def zj:aB ["hold","order","heap"] ["hold","order","heap"] (aq ou):=eV
abbrev lJ:Stmt:=top 28
def kq:aB ["hold","state","held","going_on"] ["hold","state"] (aq lJ):=eV
abbrev rE:Stmt:=top 29
def uS:aB ["hold","state","order","lit"] ["hold","state","order"] (aq rE):=eV
abbrev ik:Stmt:=top 30
def eA:aB ["hold","state","order","out","burning","waits","failed","heap"] ["hold","state","order","out"] (aq ik):=eV
abbrev jI:Stmt:=top 31
def tX:aB ["hold","state","burning","room"] ["hold","state","burning","room"] (aq jI):=eV
abbrev iC:Stmt:=top 32
def rL:aB ["state","burning","out","room"] ["state","burning","out","room"] (aq iC):=eV
abbrev rg:Stmt:=top 36
def gR:aB ["one","other","greater","lesser","rest"] ["one","other"] (aq rg):=eV
abbrev nU:Stmt:=top 37
def lX:aB ["top","bottom","common"] ["top","bottom"] (aq nU):=eV
abbrev Cq:Stmt:=top 38
def Ju:aB ["one","other"] ["one","other"] (aq Cq):=eV
abbrev xa:Stmt:=top 39
def Hz:aB ["one","other"] ["one","other"] (aq xa):=eV
abbrev wY:Stmt:=top 40
def AC:aB ["one","other"] ["one","other"] (aq wY):=eV
abbrev gr:Stmt:=top 42
def bT:aB ["pairs","top","bottom","one","other","below"] ["pairs"] (aq gr):=eV
abbrev lR:Stmt:=top 43
def o9:aB ["hold","room","airs","weather","fired","pairs"] ["hold","room","airs","weather","fired"] (aq lR):=eV
abbrev rB:Stmt:=top 44
def ja:aB ["hold","room","bands","fired","low","high","lows","highs"] ["hold","room","bands","fired"] (aq rB):=eV
abbrev qA:Stmt:=top 45
def uB:aB ["hold","room","least","greatest","marks"] ["hold","room","least","greatest"] (aq qA):=eV
abbrev u7:Stmt:=top 46
def wl:aB ["hold","room","least","greatest","marks"] ["hold","room","least","greatest"] (aq u7):=eV
abbrev jz:Stmt:=top 48
def d7:aB ["rows","choices","row","longer","choice"] ["rows"] (aq jz):=eV
abbrev gS:Stmt:=inClass (top 49) 0
def pH:aB ["self","hold"] ["self","hold"] (aq gS):=eV
abbrev eT:Stmt:=inClass (top 49) 1
def bX:aB ["self","state","order","states","out","burning","rows","stoves"] ["self","state","order"] (aq eT):=eV
abbrev jg:Stmt:=inClass (top 49) 2
def eO:aB ["self","room","bands","fired","key","least","greatest","safe"] ["self","room","bands","fired"] (aq jg):=eV
abbrev jW:Stmt:=top 51
def rY:aB ["hold","states","limit","game"] ["hold","states","limit"] (aq jW):=eV
abbrev rJ:Stmt:=top 52
def BI:aB ["hold","state"] ["hold","state"] (aq rJ):=eV
abbrev ie:Stmt:=inClass (top 53) 0
def gI:aB ["self","hold","states","limit","state"] ["self","hold","states","limit"] (aq ie):=eV
abbrev ky:Stmt:=inClass (top 53) 1
def g8:aB ["self","hold","reach","state","orders"] ["self","hold"] (aq ky):=eV
abbrev il:Stmt:=inClass (top 53) 2
def rp:aB ["self","states"] ["self","states"] (aq il):=eV
abbrev lM:Stmt:=inClass (top 53) 3
def yg:aB ["self","state"] ["self","state"] (aq lM):=eV
abbrev ip:Stmt:=top 54
def cC:aB ["rows","ahead","place","choices","number","row","behind"] ["rows"] (aq ip):=eV
abbrev gX:Stmt:=inClass (top 55) 0
def dM:aB ["self","game","place","choices","number","row"] ["self","game"] (aq gX):=eV
abbrev iA:Stmt:=inClass (top 55) 1
def db:aB ["self","ahead","done","here","place","number"] ["self","ahead"] (aq iA):=eV
abbrev lW:Stmt:=inClass (top 55) 2
def xn:aB ["self","place","number","lasting"] ["self","place","number","lasting"] (aq lW):=eV
abbrev iu:Stmt:=top 67
def qV:aB ["thing","greatest"] ["thing","greatest"] (aq iu):=eV
abbrev lY:Stmt:=top 68
def xE:aB ["marks"] ["marks"] (aq lY):=eV
abbrev gK:Stmt:=top 69
def eZ:aB ["rows","product","marks"] ["rows"] (aq gK):=eV
abbrev fV:Stmt:=inClass (top 70) 0
def qL:aB ["self","most","cap","load"] ["self","most","cap","load"] (aq fV):=eV
abbrev iF:Stmt:=inClass (top 70) 1
def jK:aB ["self","marks","rows"] ["self","marks"] (aq iF):=eV
abbrev ir:Stmt:=inClass (top 70) 2
def qD:aB ["self","into","of","share"] ["self","into","of","share"] (aq ir):=eV
abbrev i8:Stmt:=inClass (top 70) 3
def sL:aB ["self","room","share","low","high"] ["self","room","share","low","high"] (aq i8):=eV
abbrev fH:Stmt:=inClass (top 70) 4
def pW:aB ["self","room","heat","wood","stay","fails"] ["self","room","heat","wood","stay","fails"] (aq fH):=eV
abbrev lS:Stmt:=inClass (top 70) 5
def yE:aB ["self"] ["self"] (aq lS):=eV
abbrev kM:Stmt:=inClass (top 70) 6
def vy:aB ["self","room"] ["self","room"] (aq kM):=eV
abbrev j9:Stmt:=inClass (top 70) 7
def vp:aB ["self","into","of"] ["self","into","of"] (aq j9):=eV
abbrev og:Stmt:=inClass (top 70) 8
def y0:aB ["self","room"] ["self","room"] (aq og):=eV
abbrev ke:Stmt:=inClass (top 70) 9
def vK:aB ["self","room"] ["self","room"] (aq ke):=eV
abbrev gQ:Stmt:=inClass (top 70) 10
def e6:aB ["self","room","rest","other"] ["self","room"] (aq gQ):=eV
abbrev ig:Stmt:=inClass (top 70) 11
def qE:aB ["self","room"] ["self","room"] (aq ig):=eV
abbrev fj:Stmt:=inClass (top 70) 12
def gE:aB ["self","room","share","former","free"] ["self","room","share","former"] (aq fj):=eV
abbrev jo:Stmt:=top 71
def o6:aB ["hold","most","cap","load","like"] ["hold","most","cap","load"] (aq jo):=eV
abbrev kJ:Stmt:=top 73
def jC:aB ["hold","state","loads"] ["hold","state"] (aq kJ):=eV
abbrev fZ:Stmt:=top 74
def cy:aB ["bounds","holds","state","low","high","middle"] ["bounds","holds","state"] (aq fZ):=eV
abbrev jB:Stmt:=top 76
def uF:aB ["_law_script","_law_k"] ["_law_script","_law_k"] (aq jB):=eV
abbrev qG:Stmt:=top 77
def uK:aB ["_law_cell","_law_k","_law_turn","_law_prime"] ["_law_cell","_law_k","_law_turn"] (aq qG):=eV
abbrev oE:Stmt:=top 78
def f9:aB ["_law_top","_law_bottom","_law_one","_law_other","_law_rest"] ["_law_top","_law_bottom"] (aq oE):=eV
abbrev lP:Stmt:=top 79
def kr:aB ["_law_cell","_law_far"] ["_law_cell"] (aq lP):=eV
abbrev oq:Stmt:=top 80
def zL:aB ["_law_steps","_law_scale_here"] ["_law_steps","_law_scale_here"] (aq oq):=eV
abbrev lH:Stmt:=top 81
def bP:aB ["_law_cell","_law_many","_law_bands","_law_rooms_here","_law_k","_law_marks","_law_j","_law_below","_law_share","_law_low","_law_high","_law_heat","_law_stove"] ["_law_cell","_law_many","_law_bands"] (aq lH):=eV
abbrev nW:Stmt:=top 82
def fB:aB ["_law_rooms_here","_law_scale_here","_law_bounds","_law_flows","_law_hold_here","_law_one","_law_k","_law_share","_law_stove","_law_j"] ["_law_rooms_here","_law_scale_here","_law_bounds","_law_flows"] (aq nW):=eV
abbrev mq:Stmt:=top 83
def cp:aB ["_law_rooms_here","_law_bounds","_law_cell","_law_k","_law_bands","_law_waits","_law_failed","_law_burning","_law_lit","_law_j","_law_stove","_law_x"] ["_law_rooms_here","_law_bounds","_law_cell","_law_k"] (aq mq):=eV
abbrev iD:Stmt:=top 84
def aP:aB ["_law_state_here","_law_rooms_here","_law_bounds","_law_x","_law_bands","_law_burning","_law_waits","_law_failed","_law_heap","_law_at","_law_stove","_law_way"] ["_law_state_here","_law_rooms_here","_law_bounds","_law_x"] (aq iD):=eV
abbrev jH:Stmt:=top 85
def i5:aB ["_law_hold_here","_law_state_here","_law_refused_here"] ["_law_hold_here","_law_state_here"] (aq jH):=eV
abbrev oM:Stmt:=top 86
def Aa:aB ["_law_hold_here","_law_state_here","_law_load"] ["_law_hold_here","_law_state_here","_law_load"] (aq oM):=eV
abbrev lT:Stmt:=top 87
def xA:aB ["_law_hold_here","_law_state_here","_law_cap","_law_found"] ["_law_hold_here","_law_state_here","_law_cap","_law_found"] (aq lT):=eV
abbrev C2:Stmt:=top 88
def k7:aB ["_law_script","_law_first","_law_many","_law_bounds","_law_rooms_here","_law_hold_here","_law_k","_law_state_here"] ["_law_script"] (aq C2):=eV
structure Ads where
 aX:ak
 Reach:ak
 cS:ak
 dg:ak
 mE:ak
 ko:ak
 wJ:ak
 ii:ak
 gT:ak
 oh:ak
 lA:ak
structure Txt (K:aA) (mg:cZ) (A:Ads):Prop where
 GI:mg "Hold" = some (.ref A.aX)
 KN:mg "Reach" = some (.ref A.Reach)
 Nb:mg "Game" = some (.ref A.cS)
 JF:mg "Ranks" = some (.ref A.dg)
 wH:mg "NoState" = some (.ref A.mE)
 i6:mg "NOUGHT" = some (.ref A.ko)
 Dp:mg "WHOLE" = some (.ref A.wJ)
 Ev:W.excIn K A.mE [.type "ValueError",.type "Exception",.type "BaseException",.type "object"] "ValueError.__new__" = true
 gs:W.specialIn K (.builtin "object.__class__") "__get__" = some (some (.builtin "getset_descriptor.__get__"))
 ex:W.exmOne K (.ref A.mE) (.ref A.mE)=some true
 vj:∃ t,mg "LEAST_MARKS" = some (.int 2 t)
 xL:∃ t,mg "MOST_BANDS" = some (.int 400 t)
 vc:∃ t,mg "MOST_BURNING" = some (.int 4 t)
 BG:∃ t,mg "MOST_CAP" = some (.int 30 t)
 yl:∃ t,mg "MOST_FAILS" = some (.int 3 t)
 yV:∃ t,mg "MOST_LOAD" = some (.int 30 t)
 ye:∃ t,mg "MOST_MARKS" = some (.int 7 t)
 yD:∃ t,mg "MOST_ROOMS" = some (.int 4 t)
 Al:∃ t,mg "MOST_STAY" = some (.int 3 t)
 zc:∃ t,mg "MOST_WOOD" = some (.int 9 t)
 lO:Bi K A.ko [.int 0,.int 1]
 DN:Bi K A.wJ [.int 1,.int 1]
 aD:zJ K A.aX
 DG:Ec K A.aX
 iP:cY K A.aX "most"
 f8:cY K A.aX "cap"
 iV:cY K A.aX "load"
 cr:cY K A.aX "mark_rows"
 eS:cY K A.aX "flows"
 c8:cY K A.aX "skies"
 eD:cY K A.aX "stoves"
 sS:gb K A.aX "__init__" "Hold.__init__" fV (.ref A.ii)
 sK:A2 K A.ii [.int 4,.int 0,.int 0]
 sy:gb K A.aX "put_room" "Hold.put_room" iF .none
 sD:gb K A.aX "put_flow" "Hold.put_flow" ir .none
 uq:gb K A.aX "put_sky" "Hold.put_sky" i8 .none
 qZ:gb K A.aX "put_stove" "Hold.put_stove" fH (.ref A.gT)
 qX:A2 K A.gT [.int 0,.int 0,.int 0]
 Az:gb K A.aX "many" "Hold.many" lS .none
 yf:gb K A.aX "marks" "Hold.marks" kM .none
 yC:gb K A.aX "share" "Hold.share" j9 .none
 BM:gb K A.aX "sky" "Hold.sky" og .none
 xT:gb K A.aX "stove" "Hold.stove" ke .none
 rC:gb K A.aX "own_share" "Hold.own_share" gQ .none
 sB:gb K A.aX "look_for" "Hold.look_for" ig .none
 lL:gb K A.aX "look_at_share" "Hold.look_at_share" fj .none
 dR:zJ K A.Reach
 HP:Ec K A.Reach
 dW:cY K A.Reach "hold"
 dY:cY K A.Reach "spreads"
 qU:gb K A.Reach "__init__" "Reach.__init__" gS .none
 kU:gb K A.Reach "states_behind" "Reach.states_behind" eT .none
 uw:gb K A.Reach "spread" "Reach.spread" jg .none
 bW:zJ K A.cS
 IV:Ec K A.cS
 fy:cY K A.cS "met"
 mB:cY K A.cS "orders"
 dU:cY K A.cS "rows"
 gf:cY K A.cS "places"
 nJ:cY K A.cS "limit"
 sC:gb K A.cS "__init__" "Game.__init__" ie .none
 xW:gb K A.cS "go_on" "Game.go_on" ky .none
 sI:gb K A.cS "meet_all" "Game.meet_all" il .none
 AK:gb K A.cS "meet" "Game.meet" lM .none
 cq:zJ K A.dg
 HN:Ec K A.dg
 jc:cY K A.dg "lasts"
 gp:cY K A.dg "going"
 fw:cY K A.dg "ranks"
 gt:cY K A.dg "queue"
 qx:gb K A.dg "__init__" "Ranks.__init__" gX .none
 sJ:gb K A.dg "go_back" "Ranks.go_back" iA .none
 ze:gb K A.dg "end" "Ranks.end" lW .none
 Bo:gy K mg "has_room" oF
 zf:gy K mg "with_room" ly
 CB:gy K mg "how_many" oi
 DR:gy K mg "members" qi
 DS:gy K mg "subsets" rM
 D5:gy K mg "bits_of" qI
 AY:gy K mg "is_state" nV
 Ah:gy K mg "fits_room" kZ
 xM:gy K mg "fits_stove" kF
 kQ:gy K mg "look_at_state" iw
 xI:gy K mg "with_stove" kI
 DT:gy K mg "wood_of" qK
 zI:gy K mg "must_stay" l5
 Cr:gy K mg "can_burn" ou
 zg:gy K mg "orders_of" lJ
 EM:gy K mg "failing" rE
 sP:gy K mg "stoves_behind" ik
 vE:gy K mg "wait_behind" jI
 sN:gy K mg "failed_behind" iC
 EZ:gy K mg "divisor" rg
 AS:gy K mg "fraction" nU
 MJ:gy K mg "plus" Cq
 Kr:gy K mg "minus" xa
 CP:gy K mg "under" wY
 pL:gy K mg "sum_of_products" gr
 Ao:gy K mg "warmth_of" lR
 Ei:gy K mg "span_of" rB
 Et:gy K mg "touched" qA
 GB:gy K mg "within" u7
 vI:gy K mg "each_choice" jz
 BZ:Hu K mg "ranks_of" jW (.ref A.oh)
 Cc:A2 K A.oh [.int 2000]
 E8:gy K mg "rank_of" rJ
 sM:gy K mg "choices_ahead" ip
 sU:gy K mg "is_whole_upto" iu
 zN:gy K mg "is_rising" lY
 qk:gy K mg "bands_together" gK
 Ap:Hu K mg "hold_like" jo (.ref A.lA)
 sd:A2 K A.lA [.cB,.cB,.cB]
 pO:gy K mg "least_load" kJ
 n8:gy K mg "least_that_keeps" fZ
 vn:gy K mg "_law_cell_at" jB
 Eu:gy K mg "_law_mix" qG
 Cp:gy K mg "_law_part" oE
 AI:gy K mg "_law_scale" lP
 BX:gy K mg "_law_warm" oq
 za:gy K mg "_law_rooms" lH
 AW:gy K mg "_law_hold" nW
 zk:gy K mg "_law_state" mq
 sT:gy K mg "_law_bad_state" iD
 vM:gy K mg "_law_refused" jH
 CA:gy K mg "_law_kept" oM
 zx:gy K mg "_law_right" lT
 Sa:gy K mg "law" C2
 Gk:mg "abs" = none
 K0:mg "all" = none
 G7:mg "bool" = none
 FU:mg "dict" = none
 dQ:mg "enumerate" = none
 wy:mg "int" = none
 iT:mg "isinstance" = none
 dZ:mg "len" = none
 tJ:mg "list" = none
 Iu:mg "max" = none
 QE:mg "min" = none
 eM:mg "range" = none
 OP:mg "sum" = none
 mR:mg "tuple" = none
 Li:mg "zip" = none
abbrev sV (K:aA) (C:ak) (x y:Str) (s:Stmt) (v:av):Prop:=∃ f b c d e g h i j n,W.findIn K (.ref C) x=some (some (.ref f))/\W.isFn K (.ref f)=true/\K.lookup f=some ⟨b,c,.func (W.fnOf x y (cQ s) (bK s) (aq s) v d e g h i j),n⟩/\W.codeIn K i y=true/\W.keepIn K (.ref f)=true
abbrev g7 (K:aA) (x:Str) (s:Stmt) (v:av):Prop:=∃ f b c d e g h i j n,W.nsIn K mainGlobals x=some (some (.ref f))/\K.lookup f=some ⟨b,c,.func (W.fnOf x x (cQ s) (bK s) (aq s) v d e g h i j),n⟩/\W.codeIn K i x=true/\W.keepIn K (.ref f)=true
def i3 {K:aA} {C:ak} {x y:Str} {s:Stmt} {v:av} (q:sV K C x y s v):gb K C x y s v:=by
 obtain ⟨f,Z,Z,Z,Z,Z,Z,Z,Z,Z,a,b,c,d,e⟩:=q
 exact ⟨f,_,⟨a,b,e⟩,DH (st:=s) c d e⟩
def Qi {K:aA} {h:aU} {m:Str->jk} (X:K.In h) (G:h.Ns mainGlobals m) {x:Str} {s:Stmt} {v:av} (q:g7 K x s v):Hu K m x s v:=by
 obtain ⟨f,Z,Z,Z,Z,Z,Z,Z,Z,Z,a,c,d,e⟩:=q
 exact ⟨f,_,ab1 X G a,DH (st:=s) c d e⟩
def cU {K:aA} {h:aU} {m:Str->jk} (X:K.In h) (G:h.Ns mainGlobals m) {x:Str} {s:Stmt} (q:g7 K x s .none):gy K m x s:=by
 obtain ⟨f,Z,Z,Z,Z,Z,Z,Z,Z,Z,a,c,d,e⟩:=q
 exact ⟨f,_,ab1 X G a,L7 (st:=s) c d e⟩
abbrev kq_ (K:W.Frag) (a:Addr):Prop:=W.keepIn K (.ref a)=true
abbrev kn_ (K:W.Frag) (x:Str) (a:Addr):Prop:=W.nsIn K mainGlobals x=some (some (.ref a))
def txt_mk {K:aA} {h:aU} {mg:cZ} (X:K.In h) (G:h.Ns mainGlobals mg)
 {a d b c e f g i j k l:ak}
 {m n o p q r s t u v w x y z A B C D E F H:Tok}
 {I J L M N O:Option ak}
 {P Q R S T U:Nat}
 {V Y Z aa ab ac:Array (jk)}
 {ad ae af ag:av}
 (ah:kn_ K "Hold" a)
 (ai:kn_ K "Reach" d)
 (aj:kn_ K "Game" b)
 (al:kn_ K "Ranks" c)
 (am:kn_ K "NoState" e)
 (an:kn_ K "NOUGHT" f)
 (ao:kn_ K "WHOLE" g)
 (ap:W.excIn K e [.type "ValueError",.type "Exception",.type "BaseException",.type "object"] "ValueError.__new__" = true)
 (aq:W.specialIn K (.builtin "object.__class__") "__get__" = some (some (.builtin "getset_descriptor.__get__")))
 (ar:W.exmOne K (.ref e) (.ref e)=some true)
 (au:W.nsIn K mainGlobals "LEAST_MARKS" = some (some (.int 2 m)))
 (aw:W.nsIn K mainGlobals "MOST_BANDS" = some (some (.int 400 n)))
 (ax:W.nsIn K mainGlobals "MOST_BURNING" = some (some (.int 4 o)))
 (ay:W.nsIn K mainGlobals "MOST_CAP" = some (some (.int 30 p)))
 (az:W.nsIn K mainGlobals "MOST_FAILS" = some (some (.int 3 q)))
 (aB:W.nsIn K mainGlobals "MOST_LOAD" = some (some (.int 30 r)))
 (aC:W.nsIn K mainGlobals "MOST_MARKS" = some (some (.int 7 s)))
 (aD:W.nsIn K mainGlobals "MOST_ROOMS" = some (some (.int 4 t)))
 (aE:W.nsIn K mainGlobals "MOST_STAY" = some (some (.int 3 u)))
 (aF:W.nsIn K mainGlobals "MOST_WOOD" = some (some (.int 9 v)))
 (aG:K.lookup f=some ⟨.type "tuple",I,.seq #[.int 0 w,.int 1 x] P,V⟩)
 (aH:K.lookup g=some ⟨.type "tuple",J,.seq #[.int 1 y,.int 1 z] Q,Y⟩)
 (aI:W.plainGet K a Str.empty=true)
 (aJ:W.hasDictIn K a=true)
 (aK:W.plainOver K a=true)
 (aL:W.findIn K (.ref a) "__setattr__" = some (some (.builtin "object.__setattr__")))
 (aM:W.makesIn K a=true)
 (aN:kq_ K a)
 (aO:W.findIn K (.ref a) "most" = some none)
 (aP:W.findIn K (.ref a) "cap" = some none)
 (aQ:W.findIn K (.ref a) "load" = some none)
 (aR:W.findIn K (.ref a) "mark_rows" = some none)
 (aS:W.findIn K (.ref a) "flows" = some none)
 (aT:W.findIn K (.ref a) "skies" = some none)
 (aV:W.findIn K (.ref a) "stoves" = some none)
 (aW:sV K a "__init__" "Hold.__init__" fV (.ref i))
 (aX:K.lookup i=some ⟨ad,L,.seq #[.int 4 A,.int 0 B,.int 0 C] R,Z⟩)
 (aY:sV K a "put_room" "Hold.put_room" iF .none)
 (aZ:sV K a "put_flow" "Hold.put_flow" ir .none)
 (a0:sV K a "put_sky" "Hold.put_sky" i8 .none)
 (a1:sV K a "put_stove" "Hold.put_stove" fH (.ref j))
 (a2:K.lookup j=some ⟨ae,M,.seq #[.int 0 D,.int 0 E,.int 0 F] S,aa⟩)
 (a3:sV K a "many" "Hold.many" lS .none)
 (a4:sV K a "marks" "Hold.marks" kM .none)
 (a5:sV K a "share" "Hold.share" j9 .none)
 (a6:sV K a "sky" "Hold.sky" og .none)
 (a7:sV K a "stove" "Hold.stove" ke .none)
 (a8:sV K a "own_share" "Hold.own_share" gQ .none)
 (a9:sV K a "look_for" "Hold.look_for" ig .none)
 (ba:sV K a "look_at_share" "Hold.look_at_share" fj .none)
 (bb:W.plainGet K d Str.empty=true)
 (bc:W.hasDictIn K d=true)
 (bd:W.plainOver K d=true)
 (be:W.findIn K (.ref d) "__setattr__" = some (some (.builtin "object.__setattr__")))
 (bf:W.makesIn K d=true)
 (bg:kq_ K d)
 (bh:W.findIn K (.ref d) "hold" = some none)
 (bi:W.findIn K (.ref d) "spreads" = some none)
 (bj:sV K d "__init__" "Reach.__init__" gS .none)
 (bk:sV K d "states_behind" "Reach.states_behind" eT .none)
 (bl:sV K d "spread" "Reach.spread" jg .none)
 (bm:W.plainGet K b Str.empty=true)
 (bn:W.hasDictIn K b=true)
 (bo:W.plainOver K b=true)
 (bp:W.findIn K (.ref b) "__setattr__" = some (some (.builtin "object.__setattr__")))
 (bq:W.makesIn K b=true)
 (br:kq_ K b)
 (bs:W.findIn K (.ref b) "met" = some none)
 (bt:W.findIn K (.ref b) "orders" = some none)
 (bu:W.findIn K (.ref b) "rows" = some none)
 (bv:W.findIn K (.ref b) "places" = some none)
 (bw:W.findIn K (.ref b) "limit" = some none)
 (bx:sV K b "__init__" "Game.__init__" ie .none)
 (bz:sV K b "go_on" "Game.go_on" ky .none)
 (bA:sV K b "meet_all" "Game.meet_all" il .none)
 (bB:sV K b "meet" "Game.meet" lM .none)
 (bC:W.plainGet K c Str.empty=true)
 (bD:W.hasDictIn K c=true)
 (bE:W.plainOver K c=true)
 (bF:W.findIn K (.ref c) "__setattr__" = some (some (.builtin "object.__setattr__")))
 (bG:W.makesIn K c=true)
 (bH:kq_ K c)
 (bI:W.findIn K (.ref c) "lasts" = some none)
 (bJ:W.findIn K (.ref c) "going" = some none)
 (bK:W.findIn K (.ref c) "ranks" = some none)
 (bL:W.findIn K (.ref c) "queue" = some none)
 (bM:sV K c "__init__" "Ranks.__init__" gX .none)
 (bN:sV K c "go_back" "Ranks.go_back" iA .none)
 (bO:sV K c "end" "Ranks.end" lW .none)
 (bP:g7 K "has_room" oF .none)
 (bQ:g7 K "with_room" ly .none)
 (bR:g7 K "how_many" oi .none)
 (bS:g7 K "members" qi .none)
 (bT:g7 K "subsets" rM .none)
 (bU:g7 K "bits_of" qI .none)
 (bV:g7 K "is_state" nV .none)
 (bW:g7 K "fits_room" kZ .none)
 (bX:g7 K "fits_stove" kF .none)
 (bY:g7 K "look_at_state" iw .none)
 (bZ:g7 K "with_stove" kI .none)
 (b0:g7 K "wood_of" qK .none)
 (b1:g7 K "must_stay" l5 .none)
 (b2:g7 K "can_burn" ou .none)
 (b3:g7 K "orders_of" lJ .none)
 (b4:g7 K "failing" rE .none)
 (b5:g7 K "stoves_behind" ik .none)
 (b6:g7 K "wait_behind" jI .none)
 (b7:g7 K "failed_behind" iC .none)
 (b8:g7 K "divisor" rg .none)
 (b9:g7 K "fraction" nU .none)
 (ca:g7 K "plus" Cq .none)
 (cb:g7 K "minus" xa .none)
 (cc:g7 K "under" wY .none)
 (cd:g7 K "sum_of_products" gr .none)
 (ce:g7 K "warmth_of" lR .none)
 (cf:g7 K "span_of" rB .none)
 (cg:g7 K "touched" qA .none)
 (ch:g7 K "within" u7 .none)
 (ci:g7 K "each_choice" jz .none)
 (cj:g7 K "ranks_of" jW (.ref k))
 (ck:K.lookup k=some ⟨af,N,.seq #[.int 2000 H] T,ab⟩)
 (cl:g7 K "rank_of" rJ .none)
 (cm:g7 K "choices_ahead" ip .none)
 (cn:g7 K "is_whole_upto" iu .none)
 (co:g7 K "is_rising" lY .none)
 (cp:g7 K "bands_together" gK .none)
 (cq:g7 K "hold_like" jo (.ref l))
 (cr:K.lookup l=some ⟨ag,O,.seq #[.none,.none,.none] U,ac⟩)
 (cs:g7 K "least_load" kJ .none)
 (ct:g7 K "least_that_keeps" fZ .none)
 (cu:g7 K "_law_cell_at" jB .none)
 (cv:g7 K "_law_mix" qG .none)
 (cw:g7 K "_law_part" oE .none)
 (cx:g7 K "_law_scale" lP .none)
 (cy:g7 K "_law_warm" oq .none)
 (cz:g7 K "_law_rooms" lH .none)
 (cA:g7 K "_law_hold" nW .none)
 (cB:g7 K "_law_state" mq .none)
 (cC:g7 K "_law_bad_state" iD .none)
 (cD:g7 K "_law_refused" jH .none)
 (cE:g7 K "_law_kept" oM .none)
 (cF:g7 K "_law_right" lT .none)
 (cG:g7 K "law" C2 .none)
 (cH:W.nsIn K mainGlobals "abs" = some none)
 (cI:W.nsIn K mainGlobals "all" = some none)
 (cJ:W.nsIn K mainGlobals "bool" = some none)
 (cK:W.nsIn K mainGlobals "dict" = some none)
 (cL:W.nsIn K mainGlobals "enumerate" = some none)
 (cM:W.nsIn K mainGlobals "int" = some none)
 (cN:W.nsIn K mainGlobals "isinstance" = some none)
 (cO:W.nsIn K mainGlobals "len" = some none)
 (cP:W.nsIn K mainGlobals "list" = some none)
 (cQ:W.nsIn K mainGlobals "max" = some none)
 (cR:W.nsIn K mainGlobals "min" = some none)
 (cS:W.nsIn K mainGlobals "range" = some none)
 (cT:W.nsIn K mainGlobals "sum" = some none)
 (cV:W.nsIn K mainGlobals "tuple" = some none)
 (cW:W.nsIn K mainGlobals "zip" = some none)
 : Txt K mg ⟨a,d,b,c,e,f,g,i,j,k,l⟩ :=
⟨ab1 X G ah,
ab1 X G ai,
ab1 X G aj,
ab1 X G al,
ab1 X G am,
ab1 X G an,
ab1 X G ao,
ap,
aq,
ar,
⟨_,ab1 X G au⟩,
⟨_,ab1 X G aw⟩,
⟨_,ab1 X G ax⟩,
⟨_,ab1 X G ay⟩,
⟨_,ab1 X G az⟩,
⟨_,ab1 X G aB⟩,
⟨_,ab1 X G aC⟩,
⟨_,ab1 X G aD⟩,
⟨_,ab1 X G aE⟩,
⟨_,ab1 X G aF⟩,
Lo aG,
Lo aH,
⟨aI,aJ,aK,aL⟩,
⟨aM,aN⟩,
aO,
aP,
aQ,
aR,
aS,
aT,
aV,
i3 aW,
⟨_,_,_,aX,rfl,(.cons ⟨_,rfl⟩ (.cons ⟨_,rfl⟩ (.cons ⟨_,rfl⟩ .nil)))⟩,
i3 aY,
i3 aZ,
i3 a0,
i3 a1,
⟨_,_,_,a2,rfl,(.cons ⟨_,rfl⟩ (.cons ⟨_,rfl⟩ (.cons ⟨_,rfl⟩ .nil)))⟩,
i3 a3,
i3 a4,
i3 a5,
i3 a6,
i3 a7,
i3 a8,
i3 a9,
i3 ba,
⟨bb,bc,bd,be⟩,
⟨bf,bg⟩,
bh,
bi,
i3 bj,
i3 bk,
i3 bl,
⟨bm,bn,bo,bp⟩,
⟨bq,br⟩,
bs,
bt,
bu,
bv,
bw,
i3 bx,
i3 bz,
i3 bA,
i3 bB,
⟨bC,bD,bE,bF⟩,
⟨bG,bH⟩,
bI,
bJ,
bK,
bL,
i3 bM,
i3 bN,
i3 bO,
cU X G bP,
cU X G bQ,
cU X G bR,
cU X G bS,
cU X G bT,
cU X G bU,
cU X G bV,
cU X G bW,
cU X G bX,
cU X G bY,
cU X G bZ,
cU X G b0,
cU X G b1,
cU X G b2,
cU X G b3,
cU X G b4,
cU X G b5,
cU X G b6,
cU X G b7,
cU X G b8,
cU X G b9,
cU X G ca,
cU X G cb,
cU X G cc,
cU X G cd,
cU X G ce,
cU X G cf,
cU X G cg,
cU X G ch,
cU X G ci,
Qi X G cj,
⟨_,_,_,ck,rfl,(.cons ⟨_,rfl⟩ .nil)⟩,
cU X G cl,
cU X G cm,
cU X G cn,
cU X G co,
cU X G cp,
Qi X G cq,
⟨_,_,_,cr,rfl,(.cons rfl (.cons rfl (.cons rfl .nil)))⟩,
cU X G cs,
cU X G ct,
cU X G cu,
cU X G cv,
cU X G cw,
cU X G cx,
cU X G cy,
cU X G cz,
cU X G cA,
cU X G cB,
cU X G cC,
cU X G cD,
cU X G cE,
cU X G cF,
cU X G cG,
abk X G cH,
abk X G cI,
abk X G cJ,
abk X G cK,
abk X G cL,
abk X G cM,
abk X G cN,
abk X G cO,
abk X G cP,
abk X G cQ,
abk X G cR,
abk X G cS,
abk X G cT,
abk X G cV,
abk X G cW⟩
section
variable {P:bi} {w:aV} {K:aA} {mg:cZ} {base:aU} {Ad:Ads}
def fX {lo:Int} {n:Nat} {g:TG} {tb:TS} {D:Ends} {U:L2.St} {H:Hp} (p:Nat->L2.St->Hp->Prop) (h0:p 0 U H) (c:let G:Nat->L2.St->Hp->Prop:=λ i U H=>g (.int (lo+i)) U H λ a h=>tb { D with nx:=p (i+1),ct:=p (i+1),bk:=D.nx } a h
   ∀ (i:Nat) (U:L2.St) (H:Hp),i<n->p i U H->G i U H) (b:∀ U H,p n U H->D.nx U H):=EG (lo:=lo) (n:=n) (g:=g) (tb:=tb) (D:=D) (U:=U) (H:=H) p h0 c b
def gJ {K:aA} {a:ak} {xs:ay} {g:TG} {tb:TS} {D:Ends} {U:L2.St} {H:Hp} (p:Nat->L2.St->Hp->Prop) (h0:p 0 U H) (d:∀ i U H,i<=xs.length->p i U H->bh K H a xs) (e:let G:Nat->V->L2.St->Hp->Prop:=λ i x U H=>g x U H λ b h=>tb { D with nx:=p (i+1),ct:=p (i+1),bk:=D.nx } b h
   ∀ (i:Nat) (x:V) (U:L2.St) (H:Hp),xs[i]?=some x->p i U H->G i x U H) (c:∀ U H,p xs.length U H->D.nx U H):=jO (K:=K) (a:=a) (xs:=xs) (g:=g) (tb:=tb) (D:=D) (U:=U) (H:=H) p h0 d e c
def BL (T:Txt K mg Ad):Def P w K mg base "divisor" 1 ["one","other"] Od:=by
 refine T.EZ.cW gR λ Z Z Z Z Z H V Q E u h=>?_
 obtain ⟨a,b,rfl,k⟩:=h
 refine ⟨_,(ac (cT (i:=2) gR.nd (aS qW (by rfl) T.Gk Bk (aa (pv 0) af)))
     (ac (cT (i:=3) gR.nd (aS qW (by rfl) T.Gk Bk (aa (pv 1) af)))
     (ac (l7 aaF (aH pM (pv 3) ai (aK _)) (ac (cT (i:=4) gR.nd (ax bo (pv 2) (pv 3)))
     (ac (cT (i:=2) gR.nd (pv 3))
     (am (cT (i:=3) gR.nd (pv 4))))))
     (am (aG (pv 2)))))),?_⟩
 try dsimp only [eQ,aW]
 try (refine eB ?_;intro Z Z Z Z Z)
 refine ⟨_,rfl,_,rfl,λ G o=>⟨_,rfl,_,rfl,λ t p=>?_⟩⟩
 refine ⟨λ m U d=>d=H/\E3 λ (g l:Int) (r:eE)=>A5 (U=[some (.int a),some (.int b),some (.int g),some (.int l),r]) (0<=g) (0<=l) (m=l.toNat) (Int.gcd g l=Int.gcd a b),
   ⟨_,rfl,G,t,none,rfl,by lia,by lia,rfl,by rw [o,p];rfl⟩,?_⟩
 rintro m U d ⟨rfl,g,l,r,rfl,f,s,rfl,e⟩
 refine ⟨_,rfl,rfl,_,rfl,?_⟩
 refine oU (λ h=>?_) (λ h=>?_)
 .
  have L:0<l:=by rw [ce] at h;lia
  refine ⟨λ c F=>F=d/\c=[some (.int a),some (.int b),some (.int l),some (.int (g % l)),some (.int (g % l))],λ c F ⟨j,n⟩=>?_,?_⟩
  . have M:=adE g (by lia:l≠0)
    have v:=acD g L
    exact ⟨(g % l).toNat,by lia,j,l,g % l,_,n,s,M,rfl,(LV f L).trans e⟩
  . refine ⟨_,rfl,_,rfl,_,_,rfl,rfl,L,λ r Z Z q=>?_⟩
    subst q
    exact ⟨_,rfl,_,rfl,rfl,rfl⟩
 .
  have L:l=0:=ce.mp h
  subst L
  refine ⟨_,rfl,k g ?_⟩
  rw [<- e,O5 f]
def lE (T:Txt K mg Ad):Def P w K mg base "fraction" 2 ["top","bottom"] zF:=by
 refine T.AS.cW lX λ Z Z Z Z Z H V Q E x h=>?_
 obtain ⟨t,b,rfl,j,l,k⟩:=h
 refine ⟨_,(ac (br (aH dE (pv 1) ai (aK _)) (am ck) aI)
     (ac (cT (i:=2) lX.nd (au (BL T) x.m (aa (pv 0) (aa (pv 1) af))))
     (ac (eW (br (aH jw (pv 1) ai (aK _)) (am (cT (i:=2) lX.nd (pF qH (pv 2)))) aI))
     (am (aG (cg (aa (ax bI (pv 0) (pv 2)) (aa (ax bI (pv 1) (pv 2)) af)))))))),?_⟩
 try dsimp only [eQ,aW]
 try (refine eB ?_;intro Z Z Z Z Z)
 refine ⟨_,rfl,rfl,_,rfl,?_⟩
 refine jb (λ e=>j (ce.mp e)) ?_
 refine ⟨_,rfl,_,rfl,t,b,rfl,λ c n=>?_⟩
 obtain ⟨y,z,F,fn⟩:=Iv j n
 have B:Bd 8999 c:=(l.le (by lia)).mono (by decide)
 refine ⟨λ a d=>d=H/\∃ C,A4 (C≠0) (Bd 8999 C) (Fr t b (t.fdiv C) (b.fdiv C)) (a=[some (.int t),some (.int b),some (.int C)]),?_,?_⟩
 .
  refine ⟨_,rfl,_,_,rfl,rfl,_,rfl,?_⟩
  refine fP (λ h=>?_) (λ h=>?_)
  . exact ⟨_,rfl,_,rfl,rfl,-c,by lia,B.neg,fn h,rfl⟩
  . exact ⟨rfl,c,by lia,B,F (by lia),rfl⟩
 .
  rintro a d ⟨rfl,C,f,g,u,rfl⟩
  refine ⟨_,rfl,_,rfl,_,_,rfl,rfl,⟨f,g⟩,λ q o=>⟨_,rfl,_,rfl,_,_,rfl,rfl,⟨f,g⟩,λ r s=>⟨Io,λ p v=>?_⟩⟩⟩
  subst o s
  exact k _ _ p _ u (al v) ag
def Jb (T:Txt K mg Ad):Def P w K mg base "plus" 3 ["one","other"] (zu (λ a b c d=>a * d+c * b) K):=by
 refine T.MJ.cW Ju λ Z Z Z Z Z H V Q E r h=>?_
 obtain ⟨s,v,a,b,c,d,rfl,f,g,i,D,j,B,l,e,k⟩:=h
 refine ⟨_,(am (aG (au (lE T) r.m (aa (ax bg (ax bL (aF az (pv 0) ai) (aF az (pv 1) ai)) (ax bL (aF az (pv 1) ai) (aF az (pv 0) ai))) (aa (ax bL (aF az (pv 0) ai) (aF az (pv 1) ai)) af))))),?_⟩
 try dsimp only [eQ,aW]
 refine ⟨_,rfl,_,_,_,_,rfl,rfl,.inr f,rfl,_,rfl,_,_,_,_,rfl,rfl,.inr g,rfl,_,_,rfl,rfl,⟨_,_,j,e,by decide⟩,λ x n=>?_⟩
 refine ⟨_,rfl,_,_,_,_,rfl,rfl,.inr g,rfl,_,rfl,_,_,_,_,rfl,rfl,.inr f,rfl,_,_,rfl,rfl,⟨_,_,l,B,by decide⟩,λ X o=>⟨_,_,rfl,rfl,λ t p=>?_⟩⟩
 refine ⟨_,rfl,_,_,_,_,rfl,rfl,.inr f,rfl,_,rfl,_,_,_,_,rfl,rfl,.inr g,rfl,_,_,rfl,rfl,⟨_,_,B,e,by decide⟩,λ u q=>?_⟩
 subst n o p q
 exact ⟨_,_,rfl,ac7 (abw i D),(B.mul e).mono (by decide),k⟩
def AD (T:Txt K mg Ad):Def P w K mg base "minus" 3 ["one","other"] (zu (λ a b c d=>a * d - c * b) K):=by
 refine T.Kr.cW Hz λ Z Z Z Z Z H V Q E r h=>?_
 obtain ⟨s,v,a,b,c,d,rfl,f,g,i,D,j,B,l,e,k⟩:=h
 refine ⟨_,(am (aG (au (lE T) r.m (aa (ax dS (ax bL (aF az (pv 0) ai) (aF az (pv 1) ai)) (ax bL (aF az (pv 1) ai) (aF az (pv 0) ai))) (aa (ax bL (aF az (pv 0) ai) (aF az (pv 1) ai)) af))))),?_⟩
 try dsimp only [eQ,aW]
 refine ⟨_,rfl,_,_,_,_,rfl,rfl,.inr f,rfl,_,rfl,_,_,_,_,rfl,rfl,.inr g,rfl,_,_,rfl,rfl,⟨_,_,j,e,by decide⟩,λ x n=>?_⟩
 refine ⟨_,rfl,_,_,_,_,rfl,rfl,.inr g,rfl,_,rfl,_,_,_,_,rfl,rfl,.inr f,rfl,_,_,rfl,rfl,⟨_,_,l,B,by decide⟩,λ X o=>⟨_,_,rfl,rfl,λ t p=>?_⟩⟩
 refine ⟨_,rfl,_,_,_,_,rfl,rfl,.inr f,rfl,_,rfl,_,_,_,_,rfl,rfl,.inr g,rfl,_,_,rfl,rfl,⟨_,_,B,e,by decide⟩,λ u q=>?_⟩
 subst n o p q
 exact ⟨_,_,rfl,ac7 (abw i D),(B.mul e).mono (by decide),k⟩
def mh (T:Txt K mg Ad):Def P w K mg base "under" 1 ["one","other"] (GQ K):=by
 refine T.CP.cW AC λ Z Z Z Z Z H v Q E n h=>?_
 obtain ⟨p,o,a,b,c,d,rfl,e,f,B,g,i,j,k⟩:=h
 refine ⟨_,(am (aG (dX jw (ax bL (aF az (pv 0) ai) (aF az (pv 1) ai)) (ax bL (aF az (pv 1) ai) (aF az (pv 0) ai)) (aK _)))),?_⟩
 try dsimp only [eQ,aW]
 refine ⟨_,rfl,_,_,_,_,rfl,rfl,.inr e,rfl,_,rfl,_,_,_,_,rfl,rfl,.inr f,rfl,_,_,rfl,rfl,⟨_,_,B,j,by decide⟩,λ x l=>?_⟩
 refine ⟨_,rfl,_,_,_,_,rfl,rfl,.inr f,rfl,_,rfl,_,_,_,_,rfl,rfl,.inr e,rfl,_,_,rfl,rfl,⟨_,_,i,g,by decide⟩,λ X m=>⟨_,_,rfl,rfl,?_⟩⟩
 subst l m
 exact k
def c9 (T:Txt K mg Ad):Def P w K mg base "is_whole_upto" 1 ["thing","greatest"] KI:=by
 refine T.sU.cW qV λ Z Z Z Z Z H c Q E b h=>?_
 obtain ⟨n,g,rfl,k⟩:=h
 refine ⟨_,(ac (br (PW.pt (nM (cz (aS jp (by rfl) T.iT hU (aa (pv 0) (aa (tu (v:=V.ty "bool") rfl T.G7 CI rfl) af)))) (nP (dG (cz (aS jp (by rfl) T.iT hU (aa (pv 0) (aa (tu (v:=V.ty "int") rfl T.wy rD rfl) af)))))))) (am (aG jv)) aI)
     (am (aG (Hb jr jr ai (pv 0) (pv 1))))),?_⟩
 try dsimp only [eQ,aW]
 refine ⟨_,rfl,_,_,_,_,_,rfl,.int n,rfl,pK K,_,rfl,fc ⟨_,rfl,_,_,_,_,_,rfl,.int n,rfl,rfl,_,rfl,fc ?_⟩⟩
 refine ⟨_,rfl,_,_,rfl,rfl,_,rfl,?_⟩
 by_cases a:(0:Int)<=n
 .
  refine nO a ⟨_,rfl,_,_,rfl,rfl,?_⟩
  have:decide (n<=g)=decide (0<=n/\n<=g):=acS.mpr ⟨λ h=>⟨a,h⟩,λ h=>h.2⟩
  show Q (V.bl (decide (n<=g))) H
  rw [this]
  exact k
 .
  refine jb a ?_
  have:decide (0<=n/\n<=g)=false:=aam λ h=>a h.1
  rw [this] at k
  exact k
def cK (T:Txt K mg Ad):gM P w K mg base Ad.aX "many" 1 ["self"] [] (KH K Ad.aX):=by
 refine T.Az.fS yE λ Z Z Z Z Z H v Q E q h=>?_
 obtain ⟨a,o,m,rfl,f,k⟩:=h
 refine ⟨_,(am (aG (aS bv (by rfl) T.dZ cD (aa (aM (pv 0) rfl) af)))),?_⟩
 try dsimp only [eQ,aW]
 obtain ⟨⟨D,u,t,x,y,V,v,L,A,rfl,c,J,g,O,G,p,N,r,s,d,j,l,i,F⟩,z,B,C,I⟩:=f
 refine ⟨_,rfl,a,_,D,_,_,rfl,c,T.aD,T.cr,pX ..,_,_,rfl,.inl (bh.of g),λ n b=>?_⟩
 have e:n=(m.rows.length:Int):=by rw [b,d.length,OG]
 rw [e]
 exact k
def bQ (T:Txt K mg Ad):gM P w K mg base Ad.aX "look_for" 3 ["self","room"] [] (zO K Ad.aX):=by
 refine T.sB.fS qE λ Z Z Z Z Z H v Q E e h=>?_
 obtain ⟨a,f,m,i,rfl,b,g,k⟩:=h
 refine ⟨_,(am (br (dG (jP jr jw ai (pv 1) (fG (pv 0) T.aD (cK T) .nil e.m))) (am ck) aI)),?_⟩
 try dsimp only [eQ,aW]
 obtain ⟨⟨d,j,p,l,n,V,v,o,A,q,c,Z⟩,Z⟩:=id b
 refine ⟨_,rfl,_,_,rfl,rfl,_,rfl,nO (by lia) ⟨_,rfl,a,d,_,rfl,c,rfl,a,f,m,rfl,b,_,_,rfl,rfl,_,rfl,?_⟩⟩
 exact hV (by lia) k
def o5 (T:Txt K mg Ad):gM P w K mg base Ad.aX "sky" 4 ["self","room"] [] (NH K Ad.aX):=by
 refine T.BM.fS y0 λ Z Z Z Z Z H V Q E n h=>?_
 obtain ⟨a,F,m,i,z,rfl,c,e,k⟩:=h
 refine ⟨_,(ac (bp (aR (pv 0) T.aD (bQ T) .nil n.m (aa (pv 1) af)))
     (am (aG (aF az (aM (pv 0) rfl) (pv 1))))),?_⟩
 try dsimp only [eQ,aW]
 obtain ⟨⟨D,C,B,I,L,W,V,X,A,U,b,J,t,O,G,u,N,x,y,p,f,r,o,s⟩,q,M,R,S⟩:=id c
 have l:i<m.rows.length:=by rw [<- q];exact (Ba.mp e).1
 obtain ⟨v,j,g⟩:=f.get (i:=i) (d:=qe z) (by rw [aab,e];rfl)
 refine ⟨_,rfl,a,D,_,rfl,b,rfl,_,rfl,a,F,m,i,rfl,c,l,?_⟩
 exact ⟨_,rfl,a,_,D,_,_,rfl,b,T.aD,T.c8,iZ ..,_,rfl,_,_,_,_,rfl,rfl,.inl (bh.of G),ed j,k v g⟩
def eC (T:Txt K mg Ad):gM P w K mg base Ad.aX "stove" 4 ["self","room"] [] (HE K Ad.aX):=by
 refine T.xT.fS vK λ Z Z Z Z Z H V Q E n h=>?_
 obtain ⟨a,F,m,i,z,rfl,c,e,k⟩:=h
 refine ⟨_,(ac (bp (aR (pv 0) T.aD (bQ T) .nil n.m (aa (pv 1) af)))
     (am (aG (aF az (aM (pv 0) rfl) (pv 1))))),?_⟩
 try dsimp only [eQ,aW]
 obtain ⟨⟨D,C,B,I,L,W,V,X,A,U,b,J,u,O,t,G,N,x,y,p,r,f,o,s⟩,M,q,R,S⟩:=id c
 have l:i<m.rows.length:=by rw [<- q];exact (Ba.mp e).1
 obtain ⟨v,j,g⟩:=f.get (i:=i) (d:=iB z) (by rw [aab,e];rfl)
 refine ⟨_,rfl,a,D,_,rfl,b,rfl,_,rfl,a,F,m,i,rfl,c,l,?_⟩
 exact ⟨_,rfl,a,_,D,_,_,rfl,b,T.aD,T.eD,kL ..,_,rfl,_,_,_,_,rfl,rfl,.inl (bh.of G),ed j,k v g⟩
def fq (T:Txt K mg Ad):gM P w K mg base Ad.aX "marks" 4 ["self","room"] [] (IE K Ad.aX):=by
 refine T.yf.fS vy λ Z Z Z Z Z H V Q E s h=>?_
 obtain ⟨a,F,m,i,r,rfl,e,f,k⟩:=h
 refine ⟨_,(ac (bp (aR (pv 0) T.aD (bQ T) .nil s.m (aa (pv 1) af)))
     (am (aG (cH iS (by rfl) T.tJ pe (aa (aF az (aM (pv 0) rfl) (pv 1)) af))))),?_⟩
 try dsimp only [eQ,aW]
 obtain ⟨⟨D,R,M,S,U,vm,V,vt,A,qg,c,J,G,O,B,C,N,I,L,g,u,y,t,z⟩,W,X,Y,q4⟩:=id e
 have n:i<m.rows.length:=(Ba.mp f).1
 obtain ⟨v,l,b,x,rfl,q,j⟩:=g.get (i:=i) (d:=vG r) (by rw [aab,f];rfl)
 refine ⟨_,rfl,a,D,_,rfl,c,rfl,_,rfl,a,F,m,i,rfl,e,n,?_⟩
 exact ⟨_,rfl,a,_,D,_,_,rfl,c,T.aD,T.cr,pX ..,_,rfl,_,_,_,_,rfl,rfl,.inl (bh.of G),ed l,b,x,rfl,.inr q,λ p o=>k p x o j⟩
def i4 (T:Txt K mg Ad):gM P w K mg base Ad.aX "own_share" 4 ["self","room"] [] (Nn K Ad.aX):=by
 refine T.rC.fS e6 λ Z Z Z Z Z H vs Q E l h=>?_
 obtain ⟨a,fp,m,i,rfl,G,hi,k⟩:=h
 refine ⟨_,(ac (cT (i:=2) e6.nd (au (AD T) l.m (aa (hJ (v:=V.ref _) rfl T.Dp rfl) (aa (aF az (aF az (aM (pv 0) rfl) (pv 1)) ai) af))))
     (ac (dB aaF rfl (cN rfl T.eM (aa (fG (pv 0) T.aD (cK T) .nil l.m) af)) (iJ (i:=3) e6.nd) (am (cT (i:=2) e6.nd (au (AD T) l.m (aa (pv 2) (aa (zt (CC l) (aM (pv 0) rfl) (cg (aa (pv 1) (aa (pv 3) af))) (hJ (v:=V.ref _) rfl T.i6 rfl) ⟨rfl,rfl,rfl,rfl⟩) af))))))
     (am (aG (pv 2))))),?_⟩
 try dsimp only [eQ,aW]
 try (refine cV ?_;intro Z Z Z Z)
 obtain ⟨⟨z,pm,pf,ps,pt,vm,vs,vt,aC,qg,B,jA,gF,X,gB,gU,n1,n2,n3,dm,ds,dt,df,fk⟩,q1,q2,q3,L⟩:=id G
 have Xn:i<m.bD.length:=by rw [q1];exact hi
 have W:=aJ Xn
 obtain ⟨v,ev,dv⟩:=ds.get (i:=i) (d:=qe m.bD[i]) (by rw [aab,W];rfl)
 obtain ⟨p0,v1,v2,v3,rfl,Cm,d1,d2,d3⟩:=dv.tE
 obtain ⟨p1,rfl,Y⟩:=d1.fr
 have R:m.bD[i].1=m.eU i:=by unfold ap.eU;rw [W];rfl
 have O:fK 100 m.bD[i].1:=R ▸ L.eU i
 refine ⟨_,rfl,a,_,z,_,_,rfl,B,T.aD,T.c8,iZ ..,_,rfl,_,_,_,_,rfl,rfl,.inl (bh.of gB),ed ev,_,_,_,_,rfl,rfl,.inr Cm,rfl,?_⟩
 refine ⟨Ad.wJ,p1,1,1,_,_,rfl,T.DN.at H,Y,by decide,O.p,pV,pV,O.t.mono (by decide),O.b.mono (by decide),λ q r u H1 F M c=>?_⟩
 have e0:(q,r)=m.gn i 0:=by
   have:=F.nf (abw (by decide) O.p)
   rw [this]
   unfold ap.gn kB
   rw [<- R];rfl
 refine ⟨_,rfl,a,z,_,rfl,M _ _ B,rfl,a,fp,m,rfl,aN.same M G,_,rfl,by lia,by lia,?_⟩
 refine fX (lo:=0) (n:=m.rows.length) (λ j U N=>aE H N/\E2 λ (u:ak) (x:eE)=>N u=some (.tup [.int (m.gn i j).1,.int (m.gn i j).2])/\U=[some (.ref a),some (ao i),some (.ref u),x])
   ⟨M,u,none,by rw [<- e0];exact c,rfl⟩ ?_ ?_
 .
  rintro Z j U e hj ⟨s,u,x,c,rfl⟩
  have y:=(L.gn i j).mono (show 201+101 * j<=1000 by lia)
  obtain ⟨of,ot⟩:True/\True:=⟨trivial,trivial⟩
  refine ⟨_,rfl,_,rfl,a,_,z,_,_,rfl,s _ _ B,T.aD,T.eS,mP ..,_,rfl,.inr ⟨_,.inl (s _ _ X)⟩,_,rfl,_,rfl,Io,λ I JV=>?_⟩
  have S:=al (o:=.tup [ao i,.int (0+(j:Int))]) JV
  have Cg:(upd e I (.tup [ao i,.int (0+(j:Int))])) I=some (.tup ((jm i j).map kV)):=by rw [ag,aa0];rfl
  refine ⟨_,EF.t (S _ _ (s _ _ X)) Cg,?_⟩
  have D:Dn K (upd e I (.tup [ao i,.int (0+(j:Int))])) (eX (m.fe i j)) ((gA aC (jm i j)).getD (.ref Ad.ko)):=by
    have:=(aN.same (s.trans S) G).ex
    have q:=df i j
    refine Dn.same (s.trans S) _ (CO q (T.lO.fr (f:=(0,1))))
  obtain ⟨J,A,C⟩:=D.fr
  have g:=L.fe i j
  rw [A]
  refine ⟨u,J,_,_,_,_,rfl,bR.of (S _ _ c),C,y.p,g.p,y.t,y.b,g.t.mono (by decide),g.b.mono (by decide),λ q r u' H4 F s4 V3=>?_⟩
  refine ⟨s.trans (S.trans s4),u',_,?_,rfl⟩
  have:=F.nf (abw y.p g.p)
  rw [V3,ap.om]
  unfold kB
  rw [<- this]
 . rintro U e ⟨s,u,x,c,rfl⟩
   exact ⟨_,rfl,k _ e s (nG (bR.of c))⟩
def lN (T:Txt K mg Ad):gM P w K mg base Ad.aX "share" 5 ["self","into","of"] [] (Gb K Ad.aX):=by
 refine T.yC.fS vp λ Z Z Z Z Z H u Q E g h=>?_
 obtain ⟨a,F,m,i,j,rfl,c,l,r,k⟩:=h
 refine ⟨_,(ac (bp (aR (pv 0) T.aD (bQ T) .nil g.m (aa (pv 1) af)))
     (ac (bp (aR (pv 0) T.aD (bQ T) .nil g.m (aa (pv 2) af)))
     (ac (br (aH dE (pv 1) (pv 2) (aK _)) (am (aG (aR (pv 0) T.aD (i4 T) .nil g.m (aa (pv 1) af)))) aI)
     (am (aG (zt (CC g) (aM (pv 0) rfl) (cg (aa (pv 1) (aa (pv 2) af))) (hJ (v:=V.ref _) rfl T.i6 rfl) ⟨rfl,rfl,rfl,rfl⟩)))))),?_⟩
 try dsimp only [eQ,aW]
 try (refine eB ?_;intro Z Z Z Z Z)
 obtain ⟨⟨d,Y,X,ps,pt,vm,u,vt,A,qg,b,N,L,O,I,M,R,U,W,x,y,z,D,G⟩,q1,q2,q3,q4⟩:=id c
 refine ⟨_,rfl,a,d,_,rfl,b,rfl,_,rfl,a,F,m,i,rfl,c,l,⟨_,rfl,a,d,_,rfl,b,rfl,_,rfl,a,F,m,j,rfl,c,r,?_⟩⟩
 refine ⟨_,rfl,_,rfl,rfl,_,rfl,?_⟩
 by_cases B:i=j
 . subst B
   refine nO rfl ⟨_,rfl,a,d,_,rfl,b,rfl,_,rfl,a,F,m,i,rfl,c,l,λ v p S q=>k v p S ?_⟩
   rw [ap.share,aaE rfl];exact q
 .
  refine jb (λ e=>B (by have:=ce.mp e;lia)) ?_
  refine ⟨_,rfl,a,_,d,_,_,rfl,b,T.aD,T.eS,mP ..,_,rfl,.inr ⟨_,.inl O⟩,_,rfl,_,rfl,Io,λ n J=>?_⟩
  have s:=al (o:=.tup [ao i,ao j]) J
  have C:(upd H n (.tup [ao i,ao j])) n=some (.tup ((jm i j).map kV)):=by rw [ag];rfl
  refine ⟨_,EF.t (s _ _ O) C,k _ _ s ?_⟩
  rw [ap.share,aaA B]
  exact Dn.same s _ (CO (D i j) (T.lO.fr (f:=(0,1))))
def gv (T:Txt K mg Ad):gM P w K mg base Ad.aX "look_at_share" 5 ["self","room","share","former"] [] (KF K Ad.aX):=by
 refine T.lL.fS gE λ Z Z Z Z Z H R Q E c h=>?_
 obtain ⟨a,G,m,i,v1,v2,f,g,rfl,l,J,D,y,d,o,hf,n,k⟩:=h
 refine ⟨_,(ac (cT (i:=4) gE.nd (au (Jb T) c.m (aa (aR (pv 0) T.aD (i4 T) .nil c.m (aa (pv 1) af)) (aa (pv 3) af))))
     (am (br (PW.pt (nM (cz (au (mh T) c.m (aa (pv 2) (aa (hJ (v:=V.ref _) rfl T.i6 rfl) af)))) (nP (cz (au (mh T) c.m (aa (pv 4) (aa (pv 2) af))))))) (am ck) aI))),?_⟩
 try dsimp only [eQ,aW]
 obtain ⟨⟨A,pm,pf,ps,pt,vm,R,vt,aC,qg,I,jA,gF,oG,gB,gU,n1,n2,n3,dm,ds,dt,df,fk⟩,q1,q2,q3,N⟩:=id l
 obtain ⟨x,rfl,j⟩:=D.fr
 obtain ⟨L,rfl,W⟩:=y.fr
 refine ⟨_,rfl,a,A,_,rfl,I,rfl,_,rfl,a,G,m,i,rfl,l,J,λ v X s z=>⟨_,rfl,?_⟩⟩
 obtain ⟨M,rfl,C⟩:=z.fr
 have O:fK 800 (m.own i):=(N.gn i _).mono (by lia)
 refine ⟨M,L,_,_,_,_,rfl,C,s.tup W,O.p,o.p,O.t.mono (by decide),O.b.mono (by decide),o.t.mono (by decide),o.b.mono (by decide),λ q r u Y F S U=>?_⟩
 have B:(q,r)=nv (m.own i) g:=F.nf (abw O.p o.p)
 have e:fK 950 (nv (m.own i) g):=(O.plus o).mono (by decide)
 rw [<- B] at e n
 refine ⟨_,rfl,x,Ad.ko,_,_,_,_,rfl,S.tup (s.tup j),T.lO.at _,d.t.mono (by decide),d.b.mono (by decide),pV,pV,_,rfl,jb (by lia) ?_⟩
 refine ⟨_,rfl,_,rfl,u,x,_,_,_,_,rfl,bR.of U,S.tup (s.tup j),e.t.mono (by decide),e.b.mono (by decide),d.t.mono (by decide),d.b.mono (by decide),_,rfl,jb (aeh n) (k _ (s.trans S))⟩
def pj (T:Txt K mg Ad):gM P w K mg base Ad.aX "put_flow" 6 ["self","into","of","share"] [] (At K Ad.aX):=by
 refine T.sD.fS qD λ Z Z Z Z Z H V Q E g h=>?_
 obtain ⟨a,F,m,i,j,v,f,rfl,c,l,q,B,D,O,A,G,k⟩:=h
 refine ⟨_,(ac (bp (aR (pv 0) T.aD (bQ T) .nil g.m (aa (pv 1) af)))
     (ac (bp (aR (pv 0) T.aD (bQ T) .nil g.m (aa (pv 2) af)))
     (ac (br (aH dE (pv 1) (pv 2) (aK _)) (am ck) aI)
     (ac (bp (aR (pv 0) T.aD (gv T) .nil g.m (aa (pv 1) (aa (pv 3) (aa (aR (pv 0) T.aD (lN T) .nil g.m (aa (pv 1) (aa (pv 2) af))) af)))))
     (am (Jr (CC g) (aM (pv 0) rfl) (cg (aa (pv 1) (aa (pv 2) af))) (pv 3) rfl)))))),?_⟩
 try dsimp only [eQ,aW]
 try (refine As ?_;intro Z Z Z Z Z Z)
 obtain ⟨⟨d,pm,pf,ps,pt,vm,V,vt,R,qg,b,jA,gF,u,gB,gU,n1,n2,n3,W,X,Y,U,y⟩,q1,q2,q3,I⟩:=id c
 refine ⟨_,rfl,a,d,_,rfl,b,rfl,_,rfl,a,F,m,i,rfl,c,l,⟨_,rfl,a,d,_,rfl,b,rfl,_,rfl,a,F,m,j,rfl,c,q,?_⟩⟩
 refine ⟨_,rfl,_,rfl,rfl,_,rfl,jb (λ e=>B (by have:=ce.mp e;lia)) ?_⟩
 refine ⟨_,rfl,a,d,_,rfl,b,rfl,_,rfl,_,rfl,_,rfl,a,d,_,rfl,b,rfl,_,rfl,_,rfl,a,F,m,i,j,rfl,c,l,q,λ z N s p=>?_⟩
 rw [ap.share,aaA B] at p
 refine ⟨a,F,m,i,v,z,f,_,rfl,c.same s,l,Dn.same s _ D,p,O,I.fe i j,A,G,λ x L=>?_⟩
 have n:=s.trans L
 refine ⟨_,rfl,_,rfl,a,_,d,_,_,rfl,n _ _ b,T.aD,T.eS,mP ..,_,rfl,_,rfl,Io,λ r J=>?_⟩
 have M:=al (o:=.tup [ao i,ao j]) J
 have C:(upd x r (.tup [ao i,ao j])) r=some (.tup ((jm i j).map kV)):=by rw [ag];rfl
 have S:=n.trans M
 refine ⟨_,_,rfl,Hn.t (S _ _ u) C (aav y.len (by decide)),k _ F (Ez c S b u (by lia) (by lia) (Dn.same S _ D) O)⟩
def qR (T:Txt K mg Ad):gM P w K mg base Ad.aX "put_sky" 6 ["self","room","share","low","high"] [] (Bf K Ad.aX):=by
 refine T.uq.fS sL λ Z Z Z Z Z H V Q E l h=>?_
 obtain ⟨a,F,m,i,C,v2,v3,f,lo,hi,rfl,e,N,p,q,r,z,O,n,j,S,U,k⟩:=h
 refine ⟨_,(ac (bp (aR (pv 0) T.aD (bQ T) .nil l.m (aa (pv 1) af)))
     (ac (br (cz (au (mh T) l.m (aa (pv 4) (aa (pv 3) af)))) (am ck) aI)
     (ac (bp (aR (pv 0) T.aD (gv T) .nil l.m (aa (pv 1) (aa (pv 2) (aa (aF az (aF az (aM (pv 0) rfl) (pv 1)) ai) af)))))
     (am (iy (cg (aa (pv 2) (aa (pv 3) (aa (pv 4) af)))) (qT (aM (pv 0) rfl) (pv 1) set_list)))))),?_⟩
 try dsimp only [eQ,aW]
 try (refine eB ?_;intro Z Z Z Z Z)
 obtain ⟨⟨D,pm,pf,W,pt,vm,V,vt,aC,qg,c,jA,gF,oG,g,gU,n1,n2,n3,dm,u,dt,df,fk⟩,Y,q2,q3,q4⟩:=id e
 obtain ⟨A,rfl,zd⟩:=q.fr
 obtain ⟨B,rfl,G⟩:=r.fr
 have X:i<m.bD.length:=by rw [Y];exact N
 have y:=aJ X
 obtain ⟨v,R,L⟩:=u.get (i:=i) (d:=qe m.bD[i]) (by rw [aab,y];rfl)
 obtain ⟨p0,w1,w2,w3,rfl,I,x,e2,e3⟩:=L.tE
 have M:m.bD[i].1=m.eU i:=by unfold ap.eU;rw [y];rfl
 rw [M] at x
 refine ⟨_,rfl,a,D,_,rfl,c,rfl,_,rfl,a,F,m,i,rfl,e,N,?_⟩
 refine ⟨_,rfl,_,rfl,B,A,_,_,_,_,rfl,G,zd,n.t.mono (by decide),n.b.mono (by decide),O.t.mono (by decide),O.b.mono (by decide),_,rfl,jb (aeh j) ?_⟩
 refine ⟨_,rfl,a,D,_,rfl,c,rfl,_,rfl,_,rfl,_,rfl,a,_,D,_,_,rfl,c,T.aD,T.c8,iZ ..,_,rfl,_,_,_,_,rfl,rfl,.inl (bh.of g),ed R,_,_,_,_,rfl,rfl,.inr I,rfl,?_⟩
 refine ⟨a,F,m,i,C,w1,f,_,rfl,e,N,p,x,z,q4.eU i,S,U,λ H2 s2=>?_⟩
 refine ⟨_,rfl,_,rfl,_,rfl,Uj,λ kp J=>?_⟩
 have s3:=al (o:=.tup [C,.ref A,.ref B]) J
 have s:=s2.trans s3
 have hl:V.length=m.bD.length:=by rw [u.length,OG]
 refine ⟨_,rfl,a,_,D,_,_,rfl,s _ _ c,T.aD,T.c8,iZ ..,_,rfl,W,V,_,i,rfl,rfl,s _ _ g,kC (by lia),k _ F (G2 e s c g (HH (bR.of ag) (Dn.same s _ p) (Dn.same s _ q) (Dn.same s _ r)) ⟨z,O,n⟩)⟩
def oW (T:Txt K mg Ad):RE P w K mg base Ad.aX "put_stove" "Hold.put_stove" fH (.ref Ad.gT) 4 ["self","room","heat","wood","stay","fails"] (p9 K Ad.aX):=by
 refine T.qZ.mok pW (λ n H Q E h=>?_) (λ f Z Z Z s H n Q E c h=>?_)
 . obtain ⟨a,e,m,i,v,f,W,d,F,rfl,Z⟩:=h
   rfl
 .
  obtain ⟨a,e,m,i,v,f,W,d,F,rfl,j,x,D,O,Y,A,B,r,k⟩:=h
  refine ⟨_,(ac (bp (aR (pv 0) T.aD (bQ T) .nil c.m (aa (pv 1) af)))
    (ac (br (cz (au (mh T) c.m (aa (pv 2) (aa (hJ (v:=V.ref _) rfl T.i6 rfl) af)))) (am ck) aI)
    (ac (br (dG (cz (au (c9 T) c.m (aa (pv 3) (aa (fO rfl T.zc) af))))) (am ck) aI)
    (ac (br (dG (cz (au (c9 T) c.m (aa (pv 4) (aa (fO rfl T.Al) af))))) (am ck) aI)
    (ac (br (dG (cz (au (c9 T) c.m (aa (pv 5) (aa (fO rfl T.yl) af))))) (am ck) aI)
    (am (iy (cg (aa (pv 2) (aa (pv 3) (aa (pv 4) (aa (pv 5) af))))) (qT (aM (pv 0) rfl) (pv 1) set_list)))))))),?_⟩
  try dsimp only [eQ,aW]
  try (refine pY ?_;intro Z Z Z Z Z Z Z)
  obtain ⟨⟨l,pm,pf,ps,C,vm,n,q,I,qg,g,jA,X,oG,U,G,n1,n2,n3,M,N,u,L,R⟩,q1,q2,q3,q4⟩:=id j
  obtain ⟨p,rfl,y⟩:=D.fr
  refine ⟨_,rfl,a,l,_,rfl,g,rfl,_,rfl,a,e,m,i,rfl,j,x,?_⟩
  refine ⟨_,rfl,p,Ad.ko,_,_,_,_,rfl,y,T.lO.at _,O.t.mono (by decide),O.b.mono (by decide),pV,pV,_,rfl,jb (by lia) ?_⟩
  refine ⟨_,rfl,W,9,rfl,_,rfl,hV A ⟨_,rfl,d,3,rfl,_,rfl,hV B ⟨_,rfl,F,3,rfl,_,rfl,hV r ?_⟩⟩⟩
  refine ⟨_,rfl,_,rfl,_,rfl,_,rfl,LD,λ kp J=>?_⟩
  have S:=al (o:=.tup [.ref p,.int W,.int d,.int F]) J
  have hl:q.length=m.bq.length:=by rw [u.length,OG]
  exact ⟨_,rfl,a,_,l,_,_,rfl,S _ _ g,T.aD,T.eD,kL ..,_,rfl,C,q,_,i,rfl,rfl,S _ _ G,kC (by lia),k _ e (Bx (z:=(f,W,d,F)) j S g G (iE (bR.of ag) (bA (Dn.same S _ D) (bA rfl (bA rfl (bA rfl fu))))) O)⟩
def lD (T:Txt K mg Ad):AE P w K mg base Ad.aX "put_stove" 4 ["self","room","heat","wood","stay","fails"] [] (p9 K Ad.aX) :=
 (oW T).Jx T.qX λ i H=>by
   obtain ⟨U,b,c,rfl,r,R,a⟩:=vals3 H
   exact ⟨[],.nil,λ Z Z Z Z Z Z u h=>match u,h with | [_,_,_,_,_,_],_=>⟨_,rfl,rfl⟩⟩
def oV (T:Txt K mg Ad):Def P w K mg base "bands_together" 1 ["rows"] (Hl K):=by
 refine T.qk.cW eZ λ Z Z Z Z Z H V Q E G h=>?_
 obtain ⟨p,X,r,rfl,o,l,F,L,k⟩:=h
 refine ⟨_,(ac (cT (i:=1) eZ.nd ai)
     (ac (dB aaF rfl (bY (pv 0)) (iJ (i:=2) eZ.nd) (am (cT (i:=1) eZ.nd (ax bL (pv 1) (ax dS (aS bv (by rfl) T.dZ cD (aa (pv 2) af)) ai)))))
     (am (aG (pv 1))))),?_⟩
 try dsimp only [eQ,aW]
 try (refine cV ?_;intro Z Z Z Z)
 have O:X.length=r.length:=by rw [l.length,OG]
 refine ⟨_,rfl,p,rfl,⟨X,o⟩,?_⟩
 refine gJ (xs:=X) (λ i U a=>a=H/\∃ (x:eE),Bd (1+3 * i) (jD (r.take i))/\U=[some (.ref p),some (.int (jD (r.take i))),x]) ⟨rfl,none,(by show Bd 1 (jD []);exact pV),rfl⟩ (λ i U a Z e=>by rw [e.1];exact o) ?_ ?_
 .
  rintro Z i x U a q ⟨rfl,y,c,rfl⟩
  have f:i<r.length:=by rw [<- O];exact (Ba.mp q).1
  obtain ⟨v,B,b,C,rfl,Y,D⟩:=l.get (i:=i) (d:=vG r[i]) (by rw [aab,aJ f];rfl)
  obtain rfl:x = .ref b:=aap (q.symm.trans B)
  have m:=L r[i] (aay f)
  have s:C.length=r[i].length:=by rw [D.length,OG]
  refine ⟨_,rfl,_,rfl,_,_,rfl,.inr Y,λ n t=>⟨_,_,rfl,rfl,λ u A=>⟨_,_,rfl,rfl,?_,λ z j=>?_⟩⟩⟩
  . exact ⟨_,3,c,(show u.natAbs<2 ^ 3 by lia),(show 1+3 * i+3<=_ by lia)⟩
  .
   have g:z=jD (r.take (i+1)):=by
     rw [j,A,t,s]
     unfold jD
     rw [acG,aJ f,abA];rfl
   refine ⟨rfl,_,?_,by rw [<- g];rfl⟩
   rw [<- g,j]
   exact (c.mul (show u.natAbs<2 ^ 3 by lia)).mono (by lia)
 .
  rintro U a ⟨rfl,y,c,rfl⟩
  refine ⟨_,rfl,?_⟩
  rw [O,aaC]
  exact k
def xy (T:Txt K mg Ad):Def P w K mg base "is_rising" 2 ["marks"] (Fh K):=by
 refine T.zN.cW xE λ Z Z Z Z Z H vs Q E hr h=>?_
 obtain ⟨p,X,r,rfl,g,f,M,hl,k⟩:=h
 refine ⟨_,(am (aG (aS (ww rfl) (by rfl) T.K0 Hc (aa (fT ["low","high"] [] [] .nil rfl (MD rfl T.Li (aa (pv 0) (aa (eP C7 (pv 0) (fM ai) gk) af))) (λ Z Z Z Z Z=>(dC (K:=K) (n:=2) rfl rfl (aO (mG (i:=0)) (aO (mG (i:=1)) dD)))) (λ Z Z Z Z Z=>cJ) (λ Z Z Z Z Z=>(au (mh T) hr.m (aa (pv 0) (aa (pv 1) af))))) af)))),?_⟩
 try dsimp only [eQ,aW]
 refine ⟨_,rfl,_,rfl,1,rfl,p,X,rfl,g,λ q zd=>?_⟩
 have s:=al (o:=.lst (xG X (some 1) none)) zd
 rw [Gd] at s |-
 have O:X.length=r.length:=by rw [f.length,OG]
 refine ⟨p,q,rfl,⟨X,s.seq g⟩,⟨X.tail,bh.of ag⟩,λ D L=>?_⟩
 have F:min X.length X.tail.length=(List.zipWith bV r r.tail).length:=by rw [aec,adt,adt,O]
 refine Hj (K:=K) (a:=p) (b:=q) (xs:=X) (ys:=X.tail) (λ i A U c=>A4 (aE (upd H q (.lst X.tail)) c) (c D=some (.lst A)) (A=((List.zipWith bV r r.tail).take i).map V.bl) (E2 λ B C=>U=[B,C]))
   ⟨al L,ag,rfl,none,none,rfl⟩ (λ i A U c Z e=>⟨e.1.seq (s.seq g),e.1.seq (bh.of ag)⟩) ?_ ?_
 .
  rintro i x y z A U c hx l tP ⟨S,j,rfl,B,C,rfl⟩
  rw [aem] at l
  have J:i+1<r.length:=by rw [<- O];exact (Ba.mp l).1
  obtain ⟨u,eu,du⟩:=f.get (i:=i) (d:=eX r[i]) (by rw [aab,aJ (by lia)];rfl)
  obtain rfl:x=u:=aap (hx.symm.trans eu)
  obtain ⟨v,ev,dv⟩:=f.get (i:=i+1) (d:=eX r[i+1]) (by rw [aab,aJ J];rfl)
  obtain rfl:y=v:=aap (l.symm.trans ev)
  obtain ⟨G,rfl,g1⟩:=du.fr
  obtain ⟨I,rfl,g2⟩:=dv.fr
  have N:=M r[i] (aay _)
  have R:=M r[i+1] (aay _)
  have W:aE c (upd c z (.tup [.ref G,.ref I])):=al tP
  have Y:=s.trans (S.trans W)
  have nD:D≠z:=aw j tP
  refine ⟨z,_,rfl,bR.of ag,rfl,_,_,rfl,_,_,rfl,rfl,?_⟩
  refine ⟨_,rfl,_,rfl,G,I,_,_,_,_,rfl,Y.tup g1,Y.tup g2,N.t.mono (by decide),N.b.mono (by decide),R.t.mono (by decide),R.b.mono (by decide),?_⟩
  have hb:=uU (aJ (show i<r.length by lia)) (aJ J)
  refine ⟨by rw [ar nD];exact j,?_,aE.put (S.trans W) L,ag,?_,_,_,rfl⟩
  . rw [OG,aaD]
    have:(7:Nat)<sizeLine:=by decide
    rw [<- F]
    lia
  . rw [acG,hb,aah]
    rfl
 . rintro A U c ⟨S,j,rfl,B,C,rfl⟩
   rw [F,aaC] at j
   exact ⟨D,_,rfl,bh.of j,k _ (s.trans S)⟩
def pN (T:Txt K mg Ad):gM P w K mg base Ad.aX "put_room" 3 ["self","marks"] [] (Aj K Ad.aX):=by
 refine T.sy.fS jK λ Z Z Z Z Z H l Q E y h=>?_
 obtain ⟨a,fp,m,p,X,r,rfl,J,h4,M,I,ho,yK,q,RW,hb,k⟩:=h
 refine ⟨_,(ac (br (aH LK (fG (pv 0) T.aD (cK T) .nil y.m) (fO rfl T.yD) (aK _)) (am ck) aI)
     (ac (br (dG (jP jr jr (fO rfl T.vj) (aS bv (by rfl) T.dZ cD (aa (pv 1) af)) (fO rfl T.ye))) (am ck) aI)
     (ac (br (dG (cz (au (xy T) y.m (aa (pv 1) af)))) (am ck) aI)
     (ac (cT (i:=2) jK.nd (ax HR (aM (pv 0) rfl) (dA (aa (cH eR (by rfl) T.mR jR (aa (pv 1) af)) af))))
     (ac (br (aH wg (au (oV T) y.m (aa (pv 2) af)) (fO rfl T.xL) (aK _)) (am ck) aI)
     (ac (di (pv 0) (pv 2) rfl)
     (ac (bp (iG aaI aaN aaM cI (aM (pv 0) rfl) (aa (cg (aa (hJ (v:=V.ref _) rfl T.i6 rfl) (aa (hJ (v:=V.ref _) rfl T.i6 rfl) (aa (hJ (v:=V.ref _) rfl T.i6 rfl) af)))) af)))
     (ac (bp (iG aaI aaN aaM cI (aM (pv 0) rfl) (aa cG af)))
     (am (aG (ax dS (fG (pv 0) T.aD (cK T) .nil y.m) ai))))))))))),?_⟩
 try dsimp only [eQ,aW]
 try (refine Ii ?_;intro Z Z Z Z Z Z Z Z Z Z)
 obtain ⟨⟨d,O,pf,R,S,j,l,vt,aC,qg,g,jA,gF,oG,G,B,n1,n2,n3,dm,ds,dt,df,fk⟩,q1,q2,q3,q4⟩:=id J
 have Ou:X.length=r.length:=by rw [I.length,OG]
 have lm:j.length=m.rows.length:=by rw [dm.length,OG]
 have ls:l.length=m.bD.length:=by rw [ds.length,OG]
 have lt:vt.length=m.bq.length:=by rw [dt.length,OG]
 have ab:(7:Nat)<sizeLine:=by decide
 refine ⟨_,rfl,a,d,_,rfl,g,rfl,a,fp,m,rfl,J,_,_,rfl,rfl,_,rfl,jb (by lia) ?_⟩
 refine ⟨_,rfl,_,_,rfl,.inl M,λ n en=>⟨_,_,rfl,rfl,_,rfl,nO (by lia) ⟨_,_,rfl,rfl,_,rfl,hV (by lia) ?_⟩⟩⟩
 refine ⟨_,rfl,p,X,r,rfl,M,I,ho,q,λ u U=>⟨_,rfl,?_⟩⟩
 rw [RW]
 refine fc ?_
 refine ⟨_,rfl,a,_,d,_,_,rfl,U _ _ g,T.aD,T.cr,pX ..,_,rfl,p,X,rfl,.inl ⟨U.seq M,λ b L=>⟨IP,λ A Z8=>?_⟩⟩⟩
 have s2:=U.trans (al (o:=.tup X) L)
 have W:=s2.trans (al (o:=.lst [.ref b]) Z8)
 refine ⟨O,A,j,[.ref b],rfl,rfl,W _ _ gF,ag,by rw [aaw];lia,λ c C=>?_⟩
 have Y:aE (upd u b (.tup X)) _:=(al (o:=.lst [.ref b]) Z8).trans (al (o:=.lst (j++[.ref b])) C)
 have s:=W.trans (al (o:=.lst (j++[.ref b])) C)
 have dr:Dn K (upd (upd (upd u b (.tup X)) A (.lst [.ref b])) c (.lst (j++[.ref b]))) (vG r) (.ref b):=iE (bR.of (Y _ _ ag)) (bC.same s _ I)
 refine ⟨_,rfl,c,_,m.rows++[r],rfl,bh.of ag,?_,by rw [aac,aaw];lia,?_,_,_,rfl,rfl,_,rfl,jb (by lia) ?_⟩
 . rw [aah]
   exact (bC.same s _ dm).snoc dr
 .
  intro x hx
  rcases aar.mp hx with h|h
  . have:=q4.len x h;lia
  . rw [aae.mp h];lia
 refine ⟨_,rfl,_,rfl,a,_,d,_,rfl,s _ _ g,T.aD,T.cr,lt1000 rfl,?_⟩
 have t:H c=none:=W.free C
 have ad:c≠a:=(aw g t).symm
 refine ⟨_,rfl,a,_,d,_,_,rfl,ag,T.aD,T.c8,iZ ..,?_⟩
 have R3:=eL G g nofun
 have TR:=eL B g nofun
 have g1:=(ar (H:=upd (upd (upd u b (.tup X)) A (.lst [.ref b])) c (.lst (j++[.ref b]))) (o:=.ins Ad.aX d (aL "mark_rows" (.ref c) (lI m O pf R S))) R3).trans (s _ _ G)
 have g2:=(ar (H:=upd (upd (upd u b (.tup X)) A (.lst [.ref b])) c (.lst (j++[.ref b]))) (o:=.ins Ad.aX d (aL "mark_rows" (.ref c) (lI m O pf R S))) TR).trans (s _ _ B)
 refine ⟨.inl ⟨rfl,l,bh.of g1⟩,Uj,λ q0 Cm=>?_⟩
 have s5:=al (o:=.tup [.ref Ad.ko,.ref Ad.ko,.ref Ad.ko]) Cm
 refine ⟨R,l,_,rfl,rfl,s5 _ _ g1,by lia,?_⟩
 have g3:=(ar (o:=.lst (l++[.ref q0])) n3.symm).trans (s5 _ _ g2)
 have g4:=(ar (o:=.lst (l++[.ref q0])) R3.symm).trans (s5 _ _ ag)
 refine ⟨_,rfl,a,_,d,_,_,rfl,g4,T.aD,T.eD,kL ..,.inl ⟨rfl,vt,bh.of g3⟩,S,vt,_,rfl,rfl,g3,by lia,?_⟩
 obtain ⟨rf,D⟩:=Ep (N:=Ad.ko) (r:=r) J s g gF G B t ag dr h4 ho ⟨yK,q⟩ (λ H'=>T.lO.fr (f:=(0,1))) Cm
 obtain ⟨⟨AO,Fq,ya,sQ,tH,Z,Z,Z,Z,Z,F,Z⟩,Z⟩:=id D.at_
 refine ⟨_,rfl,a,AO,_,rfl,F,rfl,a,rf,_,rfl,D.at_,_,_,rfl,rfl,λ z ez=>?_⟩
 have e:z=(m.rows.length:Int):=by
   rw [ez]
   show (((m.rows++[r]).length:Nat):Int) - 1=_
   rw [aac,aaw];lia
 rw [e]
 exact k _ rf D
def qC (T:Txt K mg Ad):RE P w K mg base Ad.aX "__init__" "Hold.__init__" fV (.ref Ad.ii) 2 ["self","most","cap","load"] (C3 K Ad.aX):=by
 refine T.sS.mok qL (λ vs H Q E h=>?_) (λ f Z Z Z s H vs Q E M h=>?_)
 . obtain ⟨x,d,most,de,load,rfl,Z⟩:=h
   rfl
 .
  obtain ⟨x,d,most,de,load,rfl,V,jA,hm,hc,hl,k⟩:=h
  refine ⟨_,(ac (br (dG (cz (au (c9 T) M.m (aa (pv 1) (aa (fO rfl T.vc) af))))) (am ck) aI)
    (ac (br (dG (cz (au (c9 T) M.m (aa (pv 2) (aa (fO rfl T.BG) af))))) (am ck) aI)
    (ac (br (dG (cz (au (c9 T) M.m (aa (pv 3) (aa (fO rfl T.yV) af))))) (am ck) aI)
    (ac (di (pv 0) (pv 1) rfl)
    (ac (di (pv 0) (pv 2) rfl)
    (ac (di (pv 0) (pv 3) rfl)
    (ac (di (pv 0) (dA af) rfl)
    (ac (di (pv 0) Gh rfl)
    (ac (di (pv 0) (dA af) rfl)
    (am (di (pv 0) (dA af) rfl))))))))))),?_⟩
  try dsimp only [eQ,aW]
  try (refine EA ?_;intro Z Z Z Z Z Z Z Z Z Z Z)
  refine ⟨_,rfl,most,4,rfl,_,rfl,hV hm ⟨_,rfl,de,30,rfl,_,rfl,hV hc ⟨_,rfl,load,30,rfl,_,rfl,hV hl ?_⟩⟩⟩
  have O:jy K Ad.aX x d H H []:=.start V
  refine ⟨_,rfl,_,rfl,x,_,d,_,rfl,O.at_,T.aD,T.iP,lt1000 rfl,?_⟩
  have R:=O.put (fs':=aL "most" (.int most) [])
  refine ⟨_,rfl,_,rfl,x,_,d,_,rfl,R.at_,T.aD,T.f8,lt1000 rfl,?_⟩
  have S:=R.put (fs':=aL "cap" (.int de) (aL "most" (.int most) []))
  refine ⟨_,rfl,_,rfl,x,_,d,_,rfl,S.at_,T.aD,T.iV,lt1000 rfl,?_⟩
  have B:=S.put (fs':=aL "load" (.int load) (aL "cap" (.int de) (aL "most" (.int most) [])))
  refine ⟨aaT _,λ p e=>?_⟩
  have z:=B.new (o:=.lst []) e
  refine ⟨_,rfl,x,_,d,_,rfl,z.at_,T.aD,T.cr,lt1000 rfl,λ c g=>?_⟩
  have i:=z.put (fs':=aL "mark_rows" (.ref p) (aL "load" (.int load) (aL "cap" (.int de) (aL "most" (.int most) []))))
  have q:=i.new (o:=.dT []) g
  refine ⟨_,rfl,x,_,d,_,rfl,q.at_,T.aD,T.eS,lt1000 rfl,aaT _,λ v a=>?_⟩
  have r:=q.put (fs':=aL "flows" (.ref c) (aL "mark_rows" (.ref p) (aL "load" (.int load) (aL "cap" (.int de) (aL "most" (.int most) [])))))
  have A:=r.new (o:=.lst []) a
  refine ⟨_,rfl,x,_,d,_,rfl,A.at_,T.aD,T.c8,lt1000 rfl,aaT _,λ W F=>?_⟩
  have C:=A.put (fs':=aL "skies" (.ref v) (aL "flows" (.ref c) (aL "mark_rows" (.ref p) (aL "load" (.int load) (aL "cap" (.int de) (aL "most" (.int most) []))))))
  have Y:=C.new (o:=.lst []) F
  refine ⟨_,rfl,x,_,d,_,rfl,Y.at_,T.aD,T.eD,lt1000 rfl,?_⟩
  have y:=Y.put (fs':=lI (ap.new most de load) p c v W)
  have h1:=z.keep (u:=.ins Ad.aX d (aL "mark_rows" (.ref p) (aL "load" (.int load) (aL "cap" (.int de) (aL "most" (.int most) []))))) ag (B.ne e)
  have j:=q.keep (u:=.ins Ad.aX d (aL "flows" (.ref c) (aL "mark_rows" (.ref p) (aL "load" (.int load) (aL "cap" (.int de) (aL "most" (.int most) [])))))) (al (o:=.dT []) g _ _ h1) (B.ne e)
  have G:=q.keep (u:=.ins Ad.aX d (aL "flows" (.ref c) (aL "mark_rows" (.ref p) (aL "load" (.int load) (aL "cap" (.int de) (aL "most" (.int most) [])))))) ag (i.ne g)
  have N:=λ b o (h:_=some o) (n:b≠x)=>A.keep (b:=b) (u:=.ins Ad.aX d (aL "skies" (.ref v) (aL "flows" (.ref c) (aL "mark_rows" (.ref p) (aL "load" (.int load) (aL "cap" (.int de) (aL "most" (.int most) []))))))) h n
  have U:=N _ _ (al (o:=.lst []) a _ _ j) (B.ne e)
  have X:=N _ _ (al (o:=.lst []) a _ _ G) (i.ne g)
  have l:=N _ _ ag (r.ne a)
  have t:=λ b o (h:_=some o) (n:b≠x)=>Y.keep (b:=b) (u:=.ins Ad.aX d (lI (ap.new most de load) p c v W)) h n
  have D:=t _ _ (al (o:=.lst []) F _ _ U) (B.ne e)
  have I:=t _ _ (al (o:=.lst []) F _ _ X) (i.ne g)
  have J:=t _ _ (al (o:=.lst []) F _ _ l) (r.ne a)
  have L:=t _ _ ag (C.ne F)
  exact k _ _ (Ig y V jA D I J L (B.none e) (i.none g) (r.none a) (C.none F) (aw j a) (aw U F) (aw l F))
def iK (T:Txt K mg Ad):AE P w K mg base Ad.aX "__init__" 2 ["self","most","cap","load"] [] (C3 K Ad.aX) :=
 (qC T).Jx T.sK λ i H=>by
   obtain ⟨U,b,c,rfl,r,R,a⟩:=vals3 H
   exact ⟨[],.nil,λ Z Z Z Z Z Z u h=>match u,h with | [_,_,_,_],_=>⟨_,rfl,rfl⟩⟩
def pP (T:Txt K mg Ad):Nk P w K mg base "hold_like" jo (.ref Ad.lA) 4 ["hold","most","cap","load"] (yu K Ad.aX):=by
 refine T.Ap.dok o6 (λ V H Q E h=>?_) (λ f Z Z Z s H V Q E hr h=>?_)
 . obtain ⟨a,fp,m,x,y,z,rfl,Z⟩:=h
   rfl
 .
  obtain ⟨a,fp,m,O,g,j,rfl,hh,X,k⟩:=h
  refine ⟨_,(ac (cT (i:=4) o6.nd (Ar T.DG (iK T) hr.m T.GI (aa (jf (aH ji (pv 1) cG (aK _)) (aM (pv 0) rfl) (pv 1)) (aa (jf (aH ji (pv 2) cG (aK _)) (aM (pv 0) rfl) (pv 2)) (aa (jf (aH ji (pv 3) cG (aK _)) (aM (pv 0) rfl) (pv 3)) af)))))
    (ac (di (pv 4) (cH iS (by rfl) T.tJ pe (aa (aM (pv 0) rfl) af)) rfl)
    (ac (di (pv 4) (cH vx (by rfl) T.FU CJ (aa (aM (pv 0) rfl) af)) rfl)
    (ac (di (pv 4) (cH iS (by rfl) T.tJ pe (aa (aM (pv 0) rfl) af)) rfl)
    (ac (di (pv 4) (cH iS (by rfl) T.tJ pe (aa (aM (pv 0) rfl) af)) rfl)
    (am (aG (pv 4)))))))),?_⟩
  try dsimp only [eQ,aW]
  try (refine pY ?_;intro Z Z Z Z Z Z Z)
  obtain ⟨⟨t,pm,pf,ps,pt,vm,V,vt,aC,qg,p,jA,gF,oG,gB,gU,n1,n2,n3,dm,ds,dt,df,fk⟩,q1,q2,q3,q4⟩:=id hh
  refine Bq (o:=O) (d:=m.most) rfl (λ Q' h=>⟨_,rfl,a,_,t,_,_,rfl,p,T.aD,T.iP,ui ..,h⟩) ?_
  refine Bq (o:=g) (d:=m.de) rfl (λ Q' h=>⟨_,rfl,a,_,t,_,_,rfl,p,T.aD,T.f8,pQ ..,h⟩) ?_
  refine Bq (o:=j) (d:=m.load) rfl (λ Q' h=>⟨_,rfl,a,_,t,_,_,rfl,p,T.aD,T.iV,ud ..,h⟩) ?_
  intro x dx l Og T0
  have a0:upd H dx (.own x) x=none:=by rw [ar T0.symm];exact l
  have s0:aE H (upd (upd H dx (.own x)) x (.ins Ad.aX dx [])):=(al Og).trans (al a0)
  refine ⟨x,dx,_,_,_,rfl,ag,by rw [ar T0];exact ag,X.1,X.2.1,X.2.2,λ H1 Qg D=>⟨rfl,?_⟩⟩
  have S:aE H H1:=λ b o e=>D.but b o (s0 b o e) λ q=>by
    simp only [aad,aaf,aaX] at q
    rcases q with rfl|rfl
    . rw [l] at e;cases e
    . rw [Og] at e;cases e
  have Yw:∀ b∈Qg,H b=none:=λ b X=>by
    rcases D.own b X with q|q
    . simp only [aad,aaf,aaX] at q
      rcases q with rfl|rfl
      . exact l
      . exact Og
    . exact s0.free q
  obtain ⟨⟨W,g1,g2,U,G,Z,Z,Z,Z,UK,uk,QQ,Z⟩,Z⟩:=D.at_
  have XC:H W=none:=Yw W (by rw [UK];simp)
  have a1:W≠x:=eL QQ uk nofun
  have J:jy K Ad.aX x W H1 H1 (lI (m.with O g j) g1 g2 U G):=.start uk
  refine ⟨_,rfl,a,_,t,_,_,rfl,S _ _ p,T.aD,T.cr,pX ..,pm,vm,rfl,.inl (bh.of (S _ _ gF)),λ r A=>?_⟩
  have B1:=J.new (o:=.lst vm) A
  refine ⟨_,rfl,x,_,W,_,rfl,B1.at_,T.aD,T.cr,lt1000 rfl,?_⟩
  have B:=B1.put (fs':=lI (m.with O g j) r g2 U G)
  have k2:∀ b o,H b=some o->_=some o:=λ b o h=>B.st b o (S b o h) (aw h l)
  have e1:=B1.keep (u:=.ins Ad.aX W (lI (m.with O g j) r g2 U G)) ag (J.ne A)
  refine ⟨_,rfl,a,_,t,_,_,rfl,k2 _ _ p,T.aD,T.eS,mP ..,pf,aC,rfl,k2 _ _ oG,fk.hash,λ I C=>?_⟩
  have B3:=B.new (o:=.dT aC) C
  refine ⟨_,rfl,x,_,W,_,rfl,B3.at_,T.aD,T.eS,lt1000 rfl,?_⟩
  have M:=B3.put (fs':=lI (m.with O g j) r I U G)
  have k4:∀ b o,H b=some o->_=some o:=λ b o h=>M.st b o (S b o h) (aw h l)
  have Y:=λ b o (h:_=some o) (n:b≠x)=>B3.keep (b:=b) (u:=.ins Ad.aX W (lI (m.with O g j) r I U G)) h n
  have N:=Y _ _ (al (o:=.dT aC) C _ _ e1) (J.ne A)
  have ad:=Y _ _ ag (B.ne C)
  refine ⟨_,rfl,a,_,t,_,_,rfl,k4 _ _ p,T.aD,T.c8,iZ ..,ps,V,rfl,.inl (bh.of (k4 _ _ gB)),λ l3 v=>?_⟩
  have B5:=M.new (o:=.lst V) v
  refine ⟨_,rfl,x,_,W,_,rfl,B5.at_,T.aD,T.c8,lt1000 rfl,?_⟩
  have B6:=B5.put (fs':=lI (m.with O g j) r I l3 G)
  have k6:∀ b o,H b=some o->_=some o:=λ b o h=>B6.st b o (S b o h) (aw h l)
  have Vm:=λ b o (h:_=some o) (n:b≠x)=>B5.keep (b:=b) (u:=.ins Ad.aX W (lI (m.with O g j) r I l3 G)) h n
  have ZU:=Vm _ _ (al (o:=.lst V) v _ _ N) (J.ne A)
  have ae:=Vm _ _ (al (o:=.lst V) v _ _ ad) (B.ne C)
  have R:=Vm _ _ ag (M.ne v)
  refine ⟨_,rfl,a,_,t,_,_,rfl,k6 _ _ p,T.aD,T.eD,kL ..,pt,vt,rfl,.inl (bh.of (k6 _ _ gU)),λ l4 F=>?_⟩
  have B7:=B6.new (o:=.lst vt) F
  refine ⟨_,rfl,x,_,W,_,rfl,B7.at_,T.aD,T.eD,lt1000 rfl,?_⟩
  have B8:=B7.put (fs':=lI (m.with O g j) r I l3 l4)
  have k8:∀ b o,H b=some o->_=some o:=λ b o h=>B8.st b o (S b o h) (aw h l)
  have Ut:=λ b o (h:_=some o) (n:b≠x)=>B7.keep (b:=b) (u:=.ins Ad.aX W (lI (m.with O g j) r I l3 l4)) h n
  have ab:=Ut _ _ (al (o:=.lst vt) F _ _ ZU) (J.ne A)
  have ah:=Ut _ _ (al (o:=.lst vt) F _ _ ae) (B.ne C)
  have aj:=Ut _ _ (al (o:=.lst vt) F _ _ R) (M.ne v)
  have an:=Ut _ _ ag (B6.ne F)
  have L:=JP (m':=m.with O g j) hh p gF oG gB gU S ⟨rfl,rfl,rfl,rfl⟩ B8 (B8.st _ _ QQ a1) ab ah aj an (aw N v) (aw ZU F) (aw R F)
  refine ⟨_,rfl,k x _ _ k8 L λ c hc=>?_⟩
  simp only [aad,aaf,aaX] at hc
  rcases hc with rfl|rfl|rfl|rfl|rfl|rfl
  . exact l
  . exact XC
  . exact S.free A
  . exact S.free (B.none C)
  . exact S.free (M.none v)
  . exact S.free (B6.none F)
def tI (T:Txt K mg Ad):Ki P w K mg base "hold_like" 4 ["hold","most","cap","load"] [] (yu K Ad.aX) :=
 (pP T).Rh T.sd λ i H=>by
   obtain ⟨U,b,c,rfl,r,R,a⟩:=vals3 H
   exact ⟨[],.nil,λ Z Z Z Z Z Z u h=>match u,h with | [_,_,_,_],_=>⟨_,rfl,rfl⟩⟩
def fh (T:Txt K mg Ad):Def P w K mg base "has_room" 1 ["bits","room"] AF:=by
 refine T.Bo.cW zS λ Z Z Z Z Z H v Q E b h=>?_
 obtain ⟨n,r,rfl,k⟩:=h
 refine ⟨_,(am (aG (dX dE (ax bo (ax CT (pv 0) (pv 1)) ai) ai (aK _)))),?_⟩
 try dsimp only [eQ,aW]
 refine ⟨_,rfl,_,rfl,_,_,rfl,rfl,aa6 _,λ s a=>⟨_,_,rfl,rfl,by decide,λ m Z Z e=>⟨rfl,?_⟩⟩⟩
 rw [Ky n r a e]
 exact k
def pE (T:Txt K mg Ad):Def P w K mg base "with_room" 1 ["bits","room"] yx:=by
 refine T.zf.cW wN λ Z Z Z Z Z H v Q E c h=>?_
 obtain ⟨n,r,rfl,N,k⟩:=h
 refine ⟨_,(am (aG (ax NN (pv 0) (ax J2 ai (pv 1))))),?_⟩
 try dsimp only [eQ,aW]
 refine ⟨_,rfl,_,rfl,_,_,rfl,rfl,⟨aa6 _,by lia,by decide⟩,λ s b=>⟨_,_,rfl,rfl,λ m a=>?_⟩⟩
 have e:s=((2 ^ r:Nat):Int):=by rw [b,abf,Int.one_mul,Int.natCast_pow];rfl
 rw [a,e,Ej]
 exact k
def kG (T:Txt K mg Ad):Def P w K mg base "members" 2 ["bits"] By:=by
 refine T.DR.cW Ca λ Z Z Z Z Z H V Q E o h=>?_
 obtain ⟨n,rfl,l,k⟩:=h
 refine ⟨_,(am (aG (fT ["room"] ["bits"] [0] (.cons ⟨rfl,rfl,.inl rfl⟩ .nil) rfl (cN rfl T.eM (aa (Mo PySem.F.plainAttrs_int PySem.F.slot_int_bit_length PySem.F.type_int_bit_length Ff (pv 0)) af)) (λ Z Z Z Z Z=>(mG (i:=0))) (λ Z Z Z Z Z=>(kz (cz (au (fh T) o.m (aa (pv 1) (aa (pv 0) af)))))) (λ Z Z Z Z Z=>(pv 0))))),?_⟩
 try dsimp only [eQ,aW]
 refine ⟨_,rfl,rfl,_,rfl,rfl,λ b p=>?_⟩
 have j:Builtin.Int.intBits (n:Int)<=61:=acn.mpr (by simpa using l)
 have f:n<2 ^ Builtin.Int.intBits (n:Int):=by
   have:=acn.mp (aaj (Builtin.Int.intBits (n:Int)))
   simpa using this
 have g:b.toNat=Builtin.Int.intBits (n:Int):=by lia
 refine ⟨b,rfl,by lia,by lia,λ D d=>?_⟩
 refine fY (λ i a U c=>A3 (c=upd H D (.lst a)) (a=((List.range i).filter n.testBit).map ao) (∃ v,U=[v,some (ao n)])) ⟨rfl,rfl,none,rfl⟩ ?_ ?_
 .
  rintro i a U c r ⟨rfl,rfl,v,rfl⟩
  refine ⟨_,rfl,_,rfl,n,i,(by show [_,_]=[_,_];rw [aa0];rfl),_,rfl,?_⟩
  have e:((List.range (i+1)).filter n.testBit).map ao=((List.range i).filter n.testBit).map ao++(if n.testBit i=true then [ao i] else []):=by
    rw [aa2,abm,aah]
    by_cases q:n.testBit i=true<;>simp [q]
  by_cases q:n.testBit i=true
  .
   rw [q]
   refine ge ⟨_,rfl,ag,?_,?_,?_,_,rfl⟩
   . have:=aa4 n.testBit (List.range i)
     rw [aaq] at this
     rw [OG]
     exact aT (by lia)
   . rw [mL]
   . rw [e,aaE q,aa0];rfl
  . rw [Bool.not_eq_true] at q
    rw [q]
    refine fc ⟨rfl,?_,_,rfl⟩
    rw [e,q];simp
 . rintro a U c ⟨rfl,rfl,v,rfl⟩
   refine k D _ d (al d) ?_
   rw [ag,g,Bit.Cu f j]
def u0 (T:Txt K mg Ad):Def P w K mg base "subsets" 3 ["bits"] Bl:=by
 refine T.DS.cW kg λ _ _ _ _ _ H vs Q E B h=>?_
 obtain ⟨n,rfl,X,h8,k⟩:=h
 refine ⟨_,(ac (cT (i:=1) kg.nd (dA (aa ai af)))
     (ac (dB aaF rfl (bY (au (kG T) B.m (aa (pv 0) af))) (iJ (i:=2) kg.nd) (am (cT (i:=1) kg.nd (ax HR (pv 1) (fT ["part"] ["room"] [2] (.cons ⟨rfl,rfl,.inl rfl⟩ .nil) rfl (bY (pv 1)) (λ _ _ _ _ _=>(mG (i:=0))) (λ _ _ _ _ _=>cJ) (λ _ _ _ _ _=>(au (pE T) B.m (aa (pv 0) (aa (pv 1) af)))))))))
     (am (aG (pv 1))))),?_⟩
 try dsimp only [eQ,aW]
 try (refine cV ?_;intro _ _ _ _)
 refine ⟨(by show 1<=sizeLine;decide),λ p0 O=>⟨_,rfl,n,rfl,X,λ F L gF I C=>⟨F,rfl,⟨_,bh.of C⟩,?_⟩⟩⟩
 have S:=(al (o:=.lst [.int 0]) O).trans I
 refine jO (K:=K) (a:=F) (xs:=(Bit.rooms n).map ao) (λ i U d=>aE L d/\E2 λ (b:ak) (v:eE)=>A3 (H b=none) (U=[some (ao n),some (.ref b),v]) (d b=some (.lst ((Bit.parts ((Bit.rooms n).take i)).map ao))))
   ⟨aE.refl _,p0,none,O,rfl,I _ _ ag⟩ (λ i U d _ ⟨s,_⟩=>bh.of (s _ _ C)) ?_ ?_
 .
  rintro i x U d Y ⟨s,b,v,J,rfl,f⟩
  obtain ⟨r,t,rfl⟩:=dJ Y
  have W:i<(Bit.rooms n).length:=(Ba.mp t).1
  have M:r<61:=(Bit.f7.mp (aag t)).1
  have R:(Bit.parts ((Bit.rooms n).take i)).length<=256:=by
    rw [(Km n i).len,aaD]
    exact aaz (aa7 (by decide) (by lia:min i (Bit.rooms n).length<=8)) (by decide)
  have next:Bit.parts ((Bit.rooms n).take (i+1))=Bit.parts ((Bit.rooms n).take i)++(Bit.parts ((Bit.rooms n).take i)).map (· ||| 2 ^ r):=by
    rw [bM t,BU]
  generalize Bit.parts ((Bit.rooms n).take i)=g at *
  refine ⟨_,rfl,_,rfl,b,rfl,⟨_,bh.of f⟩,λ D u=>?_⟩
  have N:b≠D:=aw f u
  refine cE (K:=K) (a:=b) (xs:=g.map ao) (λ j A c l=>A3 (l=upd d D (.lst A)) (A=(g.take j).map (λ p=>ao (p ||| 2 ^ r))) (∃ v,c=[v,some (ao r)])) ⟨rfl,rfl,none,rfl⟩
    (λ j A c l _ ⟨e,_,_⟩=>by subst e;exact bh.of (by rw [ar N];exact f)) ?_ ?_
  .
   rintro j y A c l hy ⟨rfl,rfl,v2,rfl⟩
   obtain ⟨p,V,rfl⟩:=dJ hy
   refine ⟨_,rfl,_,rfl,p,r,rfl,by lia,ag,?_,?_,?_,_,rfl⟩
   . rw [OG,aaD];exact aT (by lia)
   . rw [mL]
   . rw [bM V,aah];rfl
  .
   rintro A c l ⟨rfl,rfl,v2,rfl⟩
   rw [OG,aaC]
   refine ⟨b,D,_,_,rfl,rfl,(by rw [ar N];exact f),ag,?_,λ q z=>?_⟩
   . rw [OG,OG];exact abq (aT (by lia))
   . have G:=al (o:=.lst (g.map λ p=>ao (p ||| 2 ^ r))) u
     have s3:=al (o:=.lst (g.map ao++g.map λ p=>ao (p ||| 2 ^ r))) z
     refine ⟨s.trans (G.trans s3),q,_,S.free (s.free (G.free z)),rfl,?_⟩
     rw [ag,next,aah,abJ];rfl
 . rintro U d ⟨s,b,v,J,rfl,f⟩
   rw [OG,aaC] at f
   exact ⟨_,rfl,k b d J (S.trans s) f⟩
def si (T:Txt K mg Ad):Def P w K mg base "how_many" 3 ["bits"] zM:=by
 refine T.CB.cW zD λ Z Z Z Z Z H v Q E c h=>?_
 obtain ⟨n,rfl,b,k⟩:=h
 refine ⟨_,(am (aG (aS bv (by rfl) T.dZ cD (aa (au (kG T) c.m (aa (pv 0) af)) af)))),?_⟩
 try dsimp only [eQ,aW]
 refine ⟨_,rfl,n,rfl,b,λ p a g s d=>⟨p,_,rfl,.inl (bh.of d),λ y e=>?_⟩⟩
 rw [OG] at e
 rw [e]
 exact k a s
def nS (T:Txt K mg Ad):Def P w K mg base "bits_of" 2 ["rooms"] (Em K):=by
 refine T.D5.cW jX λ Z Z Z Z Z H V Q E j h=>?_
 obtain ⟨p,l,rfl,d,g,k⟩:=h
 refine ⟨_,(ac (cT (i:=1) jX.nd ai)
     (ac (dB aaF rfl (bY (pv 0)) (iJ (i:=2) jX.nd) (am (cT (i:=1) jX.nd (au (pE T) j.m (aa (pv 1) (aa (pv 2) af))))))
     (am (aG (pv 1))))),?_⟩
 try dsimp only [eQ,aW]
 try (refine cV ?_;intro Z Z Z Z)
 refine ⟨_,rfl,p,rfl,⟨_,d⟩,?_⟩
 refine jO (K:=K) (a:=p) (xs:=l.map ao) (λ i U b=>b=H/\∃ v,U=[some (.ref p),some (ao (Bit.sumOf (l.take i))),v]) ⟨rfl,none,rfl⟩ (λ i U b Z e=>by rw [e.1];exact d) ?_ ?_
 .
  rintro i x U b n ⟨rfl,v,rfl⟩
  obtain ⟨r,c,rfl⟩:=dJ n
  have f:Bit.sumOf (l.take (i+1))=Bit.sumOf (l.take i) ||| 2 ^ r:=by
    rw [bM c]
    unfold Bit.sumOf
    rw [abA]
    rfl
  exact ⟨_,rfl,_,rfl,_,r,rfl,g r (aag c),rfl,_,by rw [f];rfl⟩
 . rintro U b ⟨rfl,v,rfl⟩
   rw [OG,aaC]
   exact ⟨_,rfl,k⟩
def pU {i j:Int}:decide (V.int i=V.int j)=decide (i=j):=acS.mpr ce
def uN (T:Txt K mg Ad):Def P w K mg base "fits_stove" 1 ["stove","fired","wait","failed"] (Ht K):=by
 refine T.xM.cW jG λ _ _ _ _ _ H y Q E t h=>?_
 obtain ⟨v,z,f,W,b,rfl,d,k⟩:=h
 refine ⟨_,(ac (br (aH ji (pv 0) cG (aK _)) (am (aG (rm (rF (pv 1)) (rm (dX dE (pv 2) ai (aK _)) (oC (dX dE (pv 3) ai (aK _))))))) aI)
     (ac (iy (eP mV (pv 0) (fM ai) gk) (dC (K:=K) (n:=2) rfl rfl (aO (iJ (i:=4) jG.nd) (aO (iJ (i:=5) jG.nd) dD))))
     (ac (br (PW.pt (nM (dG (jP jr jr ai (pv 2) (pv 4))) (nP (dG (jP jr jr ai (pv 3) (pv 5)))))) (am (aG jv)) aI)
     (am (aG (K1 (dX dE (pv 3) ai (aK _)) (oC (rm (rF (pv 1)) (oC (dX dE (pv 2) ai (aK _))))))))))),?_⟩
 try dsimp only [eQ,aW]
 try (refine eB ?_;intro _ _ _ _ _)
 cases z with
 | none =>
   have d:v = .cB:=d
   subst d
   have F:∀ x:Bool,x=(!f && (decide (W=0) && decide (b=0)))->Q (.bl x) H:=λ x e=>by rw [e];exact k H (aE.refl _)
   refine ⟨_,rfl,rfl,_,rfl,nO rfl ⟨_,rfl,_,rfl,_,rfl,?_⟩⟩
   cases f with
   | true=>exact fc (F _ rfl)
   | false =>
     refine ge ⟨_,rfl,rfl,_,rfl,fP (λ h=>⟨_,rfl,rfl,F _ ?_⟩) (λ h=>F _ ?_)⟩
     . rw [pU,aao (ce.mp h)];rfl
     . rw [aam (λ q=>h (ce.mpr q))];rfl
 | some z =>
   obtain ⟨p,u,rfl,m,_⟩:=d.bJ
   refine ⟨_,rfl,rfl,_,rfl,jb nofun ?_⟩
   refine ⟨_,rfl,2,rfl,p,_,2,rfl,m,rfl,rfl,by decide,(by show 2<=4;decide),λ q r=>?_⟩
   refine ⟨q,_,rfl,bR.of ag,rfl,_,_,rfl,_,_,rfl,rfl,?_⟩
   have s:=al (o:=.tup [V.int z.2.2.1,V.int z.2.2.2]) r
   have F:∀ x:Bool,x=((decide (0<=W) && decide (W<=z.2.2.1)) && ((decide (0<=b) && decide (b<=z.2.2.2)) && (decide (b=0) || (!f && decide (W=0)))))->Q (.bl x) (upd H q (.tup [V.int z.2.2.1,V.int z.2.2.2])):=λ x e=>by rw [e];exact k _ s
   refine ⟨_,rfl,_,_,rfl,rfl,_,rfl,?_⟩
   by_cases a:0<=W
   case neg=>exact jb a ⟨_,rfl,ge (F _ (by rw [aam a];rfl))⟩
   refine nO a ⟨_,rfl,_,_,rfl,rfl,_,rfl,oU (λ g=>F _ (by rw [aam g,aby];rfl)) (λ g=>?_)⟩
   refine ⟨_,rfl,_,_,rfl,rfl,_,rfl,?_⟩
   by_cases c:0<=b
   case neg=>exact jb c ⟨_,rfl,ge (F _ (by rw [aam c,ab3,ab3,aby]))⟩
   refine nO c ⟨_,rfl,_,_,rfl,rfl,_,rfl,oU (λ j=>F _ (by rw [aam j,aby,ab3,aby])) (λ j=>?_)⟩
   rw [aao a,aao g,aao c,aao j] at F
   refine ⟨_,rfl,rfl,_,rfl,fP (λ l=>F _ ?_) (λ l=>?_)⟩
   . rw [aao (ce.mp l)];rfl
   rw [aam (λ q=>l (ce.mpr q))] at F
   refine ⟨_,rfl,_,rfl,_,rfl,?_⟩
   cases f with
   | true=>exact fc (F _ rfl)
   | false=>exact ge ⟨_,rfl,rfl,F _ (by rw [pU];rfl)⟩
def vT (T:Txt K mg Ad):Def P w K mg base "fits_room" 5 ["hold","state","room"] (HB K Ad.aX):=by
 refine T.Ah.cW fJ λ _ _ _ _ _ H vs Q E c h=>?_
 obtain ⟨a,F,m,p,g,i,rfl,q,N,U,W,V,L,k⟩:=h
 refine ⟨_,(ac (iy (pv 1) (dC (K:=K) (n:=5) rfl rfl (aO (iJ (i:=3) fJ.nd) (aO (iJ (i:=4) fJ.nd) (aO (iJ (i:=5) fJ.nd) (aO (iJ (i:=6) fJ.nd) (aO (iJ (i:=7) fJ.nd) dD)))))))
     (ac (br (dG (jP jr jw ai (aF az (pv 3) (pv 2)) (ax dS (aS bv (by rfl) T.dZ cD (aa (aR (pv 0) T.aD (fq T) .nil c.m (aa (pv 2) af)) af)) ai))) (am (aG jv)) aI)
     (am (aG (au (uN T) c.m (aa (aR (pv 0) T.aD (eC T) .nil c.m (aa (pv 2) af)) (aa (au (fh T) c.m (aa (pv 4) (aa (pv 2) af))) (aa (aF az (pv 5) (pv 2)) (aa (aF az (pv 6) (pv 2)) af))))))))),?_⟩
 try dsimp only [eQ,aW]
 try (refine cV ?_;intro _ _ _ _)
 obtain ⟨pb,pw,pf,A,B,G,C⟩:=id N
 obtain ⟨⟨D,_,_,_,_,_,_,_,_,_,r,_⟩,q1,q2,q3,q4⟩:=id q
 have X:=aJ L
 have M:m.rows.getD i []=m.rows[i]:=by rw [UE,X];rfl
 have O:=mK (m:=m) (i:=i) (by lia)
 have d:m.nb i=(m.rows[i].length:Int) - 1:=by unfold ap.nb;rw [M]
 refine ⟨_,rfl,p,_,rfl,A,rfl,_,_,rfl,_,_,rfl,_,_,rfl,_,_,rfl,_,_,rfl,rfl,?_⟩
 refine ⟨_,rfl,_,rfl,_,_,_,_,rfl,rfl,.inr B,ub (by lia),_,_,rfl,rfl,_,rfl,?_⟩
 have f:∀ x:Bool,x=nI (m.nb i) (m.sv i) (g.bN.getD i 0) (g.bB.testBit i) (g.cA.getD i 0) (g.failed.getD i 0)->∀ H',aE H H'->Q (.bl x) H':=λ x e H' S=>by rw [e];exact k H' S
 unfold nI at f
 by_cases b:0<=g.bN.getD i 0
 case neg=>exact jb b ⟨_,rfl,ge (f _ (by rw [aam b];rfl) _ (aE.refl _))⟩
 refine nO b ?_
 refine ⟨_,rfl,a,D,_,rfl,r,rfl,_,rfl,a,F,m,i,_,rfl,q,X,λ R t J Y=>⟨R,t,rfl,.inl (bh.of ag),λ y I=>⟨_,_,rfl,rfl,λ z j=>⟨_,_,rfl,rfl,_,rfl,?_⟩⟩⟩⟩
 have j:z=m.nb i:=by rw [j,I,d,Y.length,OG]
 subst j
 have s:=al (o:=.lst t) J
 refine oU (λ l=>f _ (by rw [aam l,aby];rfl) _ s) (λ l=>?_)
 refine ⟨_,rfl,a,D,_,rfl,s _ _ r,rfl,_,rfl,a,F,m,i,_,rfl,q.same s,O,λ v u=>?_⟩
 refine ⟨_,rfl,_,rfl,g.bB,i,rfl,?_⟩
 refine ⟨_,rfl,_,rfl,_,_,_,_,rfl,rfl,.inr (s.tup G),ub (by lia),?_⟩
 refine ⟨_,rfl,_,rfl,_,_,_,_,rfl,rfl,.inr (s.tup C),ub (by lia),?_⟩
 exact ⟨v,m.lB i,_,_,_,rfl,u,λ H' S=>f _ (by rw [aao b,aao l];rfl) H' (s.trans S)⟩
def pT (T:Txt K mg Ad):Def P w K mg base "is_state" 6 ["hold","state"] (M0 K Ad.aX):=by
 refine T.AY.cW fo λ _ _ _ _ _ H vs Q E I h=>?_
 obtain ⟨a,L,m,p,g,rfl,G,N,W,k⟩:=h
 refine ⟨_,(ac (iy (pv 1) (dC (K:=K) (n:=5) rfl rfl (aO (iJ (i:=2) fo.nd) (aO (iJ (i:=3) fo.nd) (aO (iJ (i:=4) fo.nd) (aO (iJ (i:=5) fo.nd) (aO (iJ (i:=6) fo.nd) dD)))))))
     (ac (cT (i:=7) fo.nd (fG (pv 0) T.aD (cK T) .nil I.m))
     (ac (br (PW.pt (nM (aH pM (aS bv (by rfl) T.dZ cD (aa (pv 2) af)) (pv 7) (aK _)) (nM (aH pM (aS bv (by rfl) T.dZ cD (aa (pv 4) af)) (pv 7) (aK _)) (nP (aH pM (aS bv (by rfl) T.dZ cD (aa (pv 5) af)) (pv 7) (aK _)))))) (am (aG jv)) aI)
     (ac (br (PW.pt (nM (aH pM (ax CT (pv 3) (pv 7)) ai (aK _)) (nP (aH wg (au (si T) I.m (aa (pv 3) af)) (aM (pv 0) rfl) (aK _))))) (am (aG jv)) aI)
     (ac (br (dG (jP jr jr ai (pv 6) (aM (pv 0) rfl))) (am (aG jv)) aI)
     (am (aG (aS (ww rfl) (by rfl) T.K0 Hc (aa (fT ["room"] ["hold","state"] [0,1] (.cons ⟨rfl,rfl,.inl rfl⟩ (.cons ⟨rfl,rfl,.inl rfl⟩ .nil)) rfl (cN rfl T.eM (aa (pv 7) af)) (λ _ _ _ _ _=>(mG (i:=0))) (λ _ _ _ _ _=>cJ) (λ _ _ _ _ _=>(au (vT T) I.m (aa (pv 1) (aa (pv 2) (aa (pv 0) af)))))) af))))))))),?_⟩
 try dsimp only [eQ,aW]
 try (refine pY ?_;intro _ _ _ _ _ _ _)
 obtain ⟨pb,pw,pf,Y,eb,ew,ef⟩:=id N
 obtain ⟨⟨u,pm,KS,Jn,Jw,vm,vs,vt,aC,_,F,_⟩,q1,q2,q3,q4⟩:=id G
 have f:∀ x:Bool,x=yw m g->∀ H',aE H H'->Q (.bl x) H':=λ x e H' s'=>by rw [e];exact k H' s'
 unfold yw TQ at f
 refine ⟨_,rfl,p,_,rfl,Y,rfl,_,_,rfl,_,_,rfl,_,_,rfl,_,_,rfl,_,_,rfl,rfl,?_⟩
 refine ⟨_,rfl,a,u,_,rfl,F,rfl,a,L,m,rfl,G,?_⟩
 refine ⟨_,rfl,pb,_,rfl,.inr eb,λ y b=>⟨_,rfl,rfl,_,rfl,?_⟩⟩
 rw [OG] at b
 by_cases c:g.bN.length=m.rows.length
 case neg=>exact oU (λ _=>f _ (by rw [aam c];rfl) _ (aE.refl _)) (λ q=>absurd (by have:=ce.mp q;lia) c)
 refine hV (by rw [b,c];rfl) ?_
 refine ⟨_,rfl,pw,_,rfl,.inr ew,λ y b=>⟨_,rfl,rfl,_,rfl,?_⟩⟩
 rw [OG] at b
 by_cases C:g.cA.length=m.rows.length
 case neg=>exact oU (λ _=>f _ (by rw [aam C,ab3,aby];rfl) _ (aE.refl _)) (λ q=>absurd (by have:=ce.mp q;lia) C)
 refine hV (by rw [b,C];rfl) ?_
 refine ⟨_,rfl,pf,_,rfl,.inr ef,λ y b=>⟨_,rfl,rfl,_,rfl,?_⟩⟩
 rw [OG] at b
 by_cases d:g.failed.length=m.rows.length
 case neg=>exact oU (λ _=>f _ (by rw [aam d,aby,aby];rfl) _ (aE.refl _)) (λ q=>absurd (by have:=ce.mp q;lia) d)
 refine hV (by rw [b,d];rfl) ?_
 rw [aao c,aao C,aao d] at f
 refine ⟨_,rfl,_,rfl,_,_,rfl,rfl,aa6 _,λ s B=>⟨rfl,_,rfl,?_⟩⟩
 rw [abf] at B
 by_cases o:g.bB<2 ^ m.rows.length
 case neg =>
   refine oU (λ _=>f _ (by rw [aam o];rfl) _ (aE.refl _)) (λ q=>absurd (ce.mp q) ?_)
   rw [B]
   intro z
   refine o ?_
   have hp:(0:Int)<2 ^ m.rows.length:=Int.pow_pos (by decide)
   have e:=Int.emod_def (g.bB:Int) (2 ^ m.rows.length)
   have l:=acD (g.bB:Int) hp
   rw [e,z,Int.mul_zero,Int.sub_zero] at l
   exact_mod_cast l
 refine hV ?_ ?_
 . rw [B]
   have:((g.bB:Nat):Int) / 2 ^ m.rows.length=0:=Int.ediv_eq_zero_of_lt (aa6 _) (by exact_mod_cast o)
   rw [this]
 rw [aao o] at f
 refine ⟨_,rfl,g.bB,rfl,W,λ R S=>⟨_,rfl,a,_,u,_,_,rfl,S _ _ F,T.aD,T.iP,ui ..,_,_,rfl,rfl,_,rfl,fP (λ X=>?_) (λ X=>?_)⟩⟩
 . exact f _ (by rw [aam (by lia:¬ ((Bit.rooms g.bB).length:Int)<=m.most)];rfl) _ S
 rw [aao (by lia:((Bit.rooms g.bB).length:Int)<=m.most)] at f
 refine ⟨_,rfl,_,_,rfl,rfl,_,rfl,?_⟩
 by_cases r:0<=g.heap
 case neg=>exact jb r ⟨_,rfl,ge (f _ (by rw [aam r];rfl) _ S)⟩
 refine nO r ⟨_,rfl,a,_,u,_,_,rfl,S _ _ F,T.aD,T.f8,pQ ..,_,_,rfl,rfl,_,rfl,oU (λ t=>f _ (by rw [aam t,aby];rfl) _ S) (λ t=>?_)⟩
 rw [aao r,aao t] at f
 refine ⟨_,rfl,_,rfl,by lia,by lia,λ D M=>?_⟩
 refine fY (lo:=0) (n:=m.rows.length) (λ i A U H'=>A4 (aE R H') (H' D=some (.lst A)) (A=((List.range i).map λ i=>nI (m.nb i) (m.sv i) (g.bN.getD i 0) (g.bB.testBit i) (g.cA.getD i 0) (g.failed.getD i 0)).map V.bl) (∃ v,U=[v,some (.ref a),some (.ref p)])) ⟨al M,ag,rfl,none,rfl⟩ ?_ ?_
 . rintro i A U H' hi ⟨j,J,rfl,v,rfl⟩
   refine ⟨_,rfl,_,rfl,_,rfl,a,L,m,p,g,i,(by rw [aa0];rfl),G.same (S.trans j),N.same (S.trans j),c,C,d,hi,λ H3 O=>⟨O _ _ J,aT (by rw [OG,OG,aaq];lia),(j.trans O).put M,ag,?_,_,rfl⟩⟩
   rw [aa2,aah,aah];rfl
 .
  rintro A U H' ⟨j,J,rfl,v,rfl⟩
  refine ⟨D,_,rfl,bh.of J,f _ ?_ H' (S.trans j)⟩
  rw [List.all_map]
  rfl
def zo (T:Txt K mg Ad):Def P w K mg base "is_state" 6 ["hold","state"] (zE K Ad.aX) :=
 let ⟨f,F,a,b,c,d⟩:=pT (P:=P) (w:=w) (base:=base) T
 ⟨f,F,a,b,c,d.imp λ Z Z Z Z ⟨a,g,m,p,s,e,h,i,ok,k⟩=>⟨a,g,m,p,.of s,e,h,i.gs,aax ok.bB (aa7 (by decide) (by have:=h.mx;lia)),λ H S=>by rw [ok.yw];exact k H S⟩⟩
def gP (T:Txt K mg Ad):Def P w K mg base "look_at_state" 7 ["hold","state"] (vQ K Ad.aX):=by
 refine T.kQ.cW jM λ Z Z Z Z Z H v Q E d h=>?_
 obtain ⟨a,f,m,p,S,rfl,c,e,ok,k⟩:=h
 refine ⟨_,(am (br (dG (cz (au (zo T) d.m (aa (pv 0) (aa (pv 1) af))))) (am ck) aI)),?_⟩
 try dsimp only [eQ,aW]
 exact ⟨_,rfl,_,rfl,a,f,m,p,S,rfl,c,e,ok,λ b s=>⟨_,rfl,fc (k b s)⟩⟩
def nB (T:Txt K mg Ad):Def P w K mg base "with_stove" 5 ["hold"] (vD K Ad.aX):=by
 refine T.xI.cW vB λ Z Z Z Z Z H V Q E c h=>?_
 obtain ⟨a,F,m,rfl,f,k⟩:=h
 refine ⟨_,(am (aG (au (nS T) c.m (aa (fT ["room"] ["hold"] [0] (.cons ⟨rfl,rfl,.inl rfl⟩ .nil) rfl (cN rfl T.eM (aa (fG (pv 0) T.aD (cK T) .nil c.m) af)) (λ Z Z Z Z Z=>(mG (i:=0))) (λ Z Z Z Z Z=>(kz (aH px (aR (pv 1) T.aD (eC T) .nil c.m (aa (pv 0) af)) cG (aK _)))) (λ Z Z Z Z Z=>(pv 0))) af)))),?_⟩
 try dsimp only [eQ,aW]
 obtain ⟨⟨j,C,x,J,u,S,V,W,y,Z,p,Z⟩,I,M,O,R⟩:=id f
 refine ⟨_,rfl,a,j,_,rfl,p,rfl,a,F,m,rfl,f,_,rfl,by lia,by lia,λ D o=>?_⟩
 refine fY (lo:=0) (n:=m.rows.length) (λ i A U b=>A4 (aE H b) (b D=some (.lst A)) (A=((List.range i).filter m.has).map ao) (∃ v,U=[v,some (.ref a)])) ⟨al o,ag,rfl,none,rfl⟩ ?_ ?_
 .
  rintro i A U b B ⟨s,N,rfl,v,rfl⟩
  have t:=mK (m:=m) (i:=i) (by lia)
  have l:((List.range (i+1)).filter m.has).map ao=((List.range i).filter m.has).map ao++(if m.has i=true then [ao i] else []):=by
    rw [aa2,abm,aah]
    by_cases q:m.has i=true<;>simp [q]
  have L:=aa4 m.has (List.range i)
  rw [aaq] at L
  refine ⟨_,rfl,a,j,_,rfl,s _ _ p,rfl,_,rfl,a,F,m,i,_,(by rw [aa0];rfl),f.same s,t,λ v d=>⟨rfl,_,rfl,?_⟩⟩
  cases e:m.lB i with
  | none =>
    rw [e] at d
    have d:v = .cB:=d
    have g:m.has i=false:=by unfold ap.has;rw [e];rfl
    refine hV d ⟨s,N,?_,_,rfl⟩
    rw [l,g];simp
  | some z =>
    rw [e] at d
    obtain ⟨G,Z,rfl,Z⟩:=d.bJ
    have g:m.has i=true:=by unfold ap.has;rw [e];rfl
    refine QK nofun ⟨_,rfl,N,aT (by rw [OG];lia),s.put o,ag,?_,_,rfl⟩
    rw [l,g,aa0];rfl
 . rintro A U b ⟨s,N,rfl,v,rfl⟩
   exact ⟨D,(List.range m.rows.length).filter m.has,rfl,bh.of N,λ r c=>by have:=aaJ.mp (aa3.mp c).1;lia,k b s⟩
def tS (T:Txt K mg Ad):Def P w K mg base "wood_of" 6 ["hold","bits"] (BV K Ad.aX):=by
 refine T.DT.cW Ce λ Z Z Z Z Z H vs Q E l h=>?_
 obtain ⟨a,F,m,b,rfl,g,k⟩:=h
 refine ⟨_,(am (aG (aS (EU rfl) (by rfl) T.OP N4 (aa (fT ["room"] ["hold"] [0] (.cons ⟨rfl,rfl,.inl rfl⟩ .nil) rfl (bY (au (kG T) l.m (aa (ax mH (pv 1) (au (nB T) l.m (aa (pv 0) af))) af))) (λ Z Z Z Z Z=>(mG (i:=0))) (λ Z Z Z Z Z=>cJ) (λ Z Z Z Z Z=>(aF (hG (K:=K) rfl) (aR (pv 1) T.aD (eC T) .nil l.m (aa (pv 0) af)) ai))) af)))),?_⟩
 try dsimp only [eQ,aW]
 obtain ⟨⟨G,pm,KS,Jn,Jw,vm,vs,vt,aC,Z,M,Z⟩,q1,q2,W,q4⟩:=id g
 refine ⟨_,rfl,_,rfl,a,F,m,rfl,g,λ H1 X=>⟨_,_,rfl,rfl,λ y J=>⟨b &&& m.ws,(by rw [J,oN];rfl),?_,λ p C gW Y n=>⟨p,rfl,⟨_,bh.of n⟩,λ D f=>?_⟩⟩⟩⟩
 . exact aav acV (ac1 (ut W) (by decide))
 have S:=X.trans Y
 have lr:=vU (b &&& m.ws)
 have nD:p≠D:=aw n f
 refine cE (K:=K) (a:=p) (xs:=(Bit.rooms (b &&& m.ws)).map ao) (λ j A U c=>A4 (aE C c) (c D=some (.lst A)) (A=(((Bit.rooms (b &&& m.ws)).take j).map m.wd).map V.int) (∃ v,U=[v,some (.ref a)]))
   ⟨al f,ag,rfl,none,rfl⟩ (λ j A U c Z e=>bh.of (e.1 _ _ n)) ?_ ?_
 .
  rintro j x A U c N ⟨s,I,rfl,v,rfl⟩
  obtain ⟨r,d,rfl⟩:=dJ N
  have t:=(Bit.f7.mp (aag d)).2
  rw [abp,ap.ws,Ord.iR,aaG,aaG,aa1] at t
  obtain ⟨Z,Nc,L⟩:=t
  obtain ⟨z,q⟩:=ab7.mp L
  have O:=mK (m:=m) (i:=r) (by lia)
  have hj:j<(Bit.rooms (b &&& m.ws)).length:=(Ba.mp d).1
  refine ⟨_,rfl,a,G,_,rfl,(S.trans s) _ _ M,rfl,_,rfl,a,F,m,r,_,rfl,g.same (S.trans s),O,λ u o=>?_⟩
  rw [q] at o
  obtain ⟨R,v1,rfl,B,Z⟩:=o.bJ
  refine ⟨R,_,_,_,rfl,rfl,.inr B,rfl,I,aT (by rw [OG,OG,aaD];lia),s.put f,ag,?_,_,rfl⟩
  rw [bM d,aah,aah]
  have:m.wd r=z.2.1:=by unfold ap.wd;rw [q];rfl
  show _=_++[V.int (m.wd r)]
  rw [this]
 .
  rintro A U c ⟨s,I,rfl,v,rfl⟩
  rw [OG,aaC] at I
  refine ⟨D,_,rfl,bh.of I,λ r d=>?_⟩
  rw [d]
  exact k c (S.trans s)
def wV (T:Txt K mg Ad):Def P w K mg base "must_stay" 3 ["state"] (wK K):=by
 refine T.zI.cW xV λ Z Z Z Z Z H X Q E d h=>?_
 obtain ⟨p,s,rfl,z,J,k⟩:=h
 refine ⟨_,(am (aG (au (nS T) d.m (aa (fT ["room","wait"] [] [] .nil rfl (MK rfl T.dQ (aa (aF az (pv 0) ai) af)) (λ Z Z Z Z Z=>(dC (K:=K) (n:=2) rfl rfl (aO (mG (i:=0)) (aO (mG (i:=1)) dD)))) (λ Z Z Z Z Z=>(kz (aH wg (pv 1) ai (aK _)))) (λ Z Z Z Z Z=>(pv 0))) af)))),?_⟩
 try dsimp only [eQ,aW]
 obtain ⟨O,t,R,y,C,o,F⟩:=id z
 refine ⟨_,rfl,p,_,_,_,rfl,rfl,.inr y,rfl,t,rfl,⟨_,o⟩,λ D q=>?_⟩
 refine jZ (sq:=bR K) (a:=t) (xs:=s.cA.map ao) (λ i A U b=>A4 (aE H b) (b D=some (.lst A)) (A=((List.range i).filter s.wt).map ao) (E2 λ v V=>U=[v,V]))
   ⟨al q,ag,rfl,none,none,rfl⟩ (λ i A U b Z e=>e.1.tup o) ?_ ?_
 .
  rintro i x g A U b B u ⟨S,N,rfl,v,V,rfl⟩
  obtain ⟨W,c,rfl⟩:=dJ B
  have G:i<s.cA.length:=(Ba.mp c).1
  have l:gN s.cA i=W:=by unfold gN;rw [c];rfl
  have j:aE b (upd b g (.tup [ao i,ao W])):=al u
  have M:D≠g:=aw N u
  have I:=j _ _ N
  have L:=aa4 s.wt (List.range i)
  rw [aaq] at L
  refine ⟨g,_,rfl,bR.of ag,rfl,_,_,rfl,_,_,rfl,rfl,?_⟩
  refine ⟨_,rfl,_,_,rfl,rfl,_,rfl,fP (λ h=>?_) (λ h=>?_)⟩
  . have f:s.wt i=true:=by unfold cm.wt;rw [l];exact aao (by lia)
    refine ⟨_,rfl,I,aT (by rw [OG];lia),(S.trans j).put q,ag,?_,_,_,rfl⟩
    rw [aa2,abm,aah]
    simp [f]
  . have f:s.wt i=false:=by unfold cm.wt;rw [l];exact aam (by lia)
    refine ⟨S.trans j,I,?_,_,_,rfl⟩
    rw [aa2,abm,aah]
    simp [f]
 . rintro A U b ⟨S,N,rfl,v,V,rfl⟩
   rw [OG] at N
   exact ⟨D,(List.range s.cA.length).filter s.wt,rfl,bh.of N,λ r d=>by have:=aaJ.mp (aa3.mp d).1;lia,k b S⟩
def Aq (T:Txt K mg Ad):Def P w K mg base "can_burn" 7 ["hold","order","heap"] (zh K Ad.aX):=by
 refine T.Cr.cW zj λ Z Z Z Z Z H v Q E d h=>?_
 obtain ⟨a,F,m,o,b,rfl,c,j,k⟩:=h
 refine ⟨_,(am (aG (rm (dX jr (au (si T) d.m (aa (pv 1) af)) (aM (pv 0) rfl) (aK _)) (oC (dX jr (au (tS T) d.m (aa (pv 0) (aa (pv 1) af))) (pv 2) (aK _)))))),?_⟩
 try dsimp only [eQ,aW]
 obtain ⟨⟨D,p,n,J,l,V,v,x,A,Z,i,Z⟩,q,r,t,u⟩:=id c
 refine ⟨_,rfl,o,rfl,j,λ f s=>⟨_,rfl,a,_,D,_,_,rfl,s _ _ i,T.aD,T.iP,ui ..,_,_,rfl,rfl,_,rfl,fP (λ h=>?_) (λ h=>?_)⟩⟩
 .
  refine ⟨_,rfl,_,rfl,a,F,m,o,rfl,c.same s,λ g S=>⟨_,rfl,_,_,rfl,rfl,?_⟩⟩
  have e:m.IT o b=decide (m.lK o<=b):=by unfold ap.IT;rw [aao h,Bool.true_and]
  have:=k g (s.trans S)
  rw [e] at this
  exact this
 .
  have e:m.IT o b=false:=by unfold ap.IT;rw [aam h,ab3]
  have:=k f s
  rw [e] at this
  exact this
def xb (T:Txt K mg Ad):Def P w K mg base "orders_of" 8 ["hold","state"] (yy K Ad.aX):=by
 refine T.zg.cW kq λ Z Z Z Z Z H vs Q E c h=>?_
 obtain ⟨a,F,m,p,s,rfl,l,B,ok,k⟩:=h
 refine ⟨_,(ac (bp (au (gP T) c.m (aa (pv 0) (aa (pv 1) af))))
     (ac (cT (i:=2) kq.nd (au (wV T) c.m (aa (pv 1) af)))
     (ac (cT (i:=3) kq.nd (ax mH (aF az (pv 1) ai) (pv 2)))
     (am (aG (fT ["order"] ["going_on","hold","held","state"] [3,0,2,1] (.cons ⟨rfl,rfl,.inl rfl⟩ (.cons ⟨rfl,rfl,.inl rfl⟩ (.cons ⟨rfl,rfl,.inl rfl⟩ (.cons ⟨rfl,rfl,.inl rfl⟩ .nil)))) rfl (bY (au (u0 T) c.m (aa (au (nB T) c.m (aa (pv 0) af)) af))) (λ Z Z Z Z Z=>(mG (i:=0))) (λ Z Z Z Z Z=>(kz (PW.pt (xC (aH dE (ax mH (pv 0) (pv 3)) (pv 1) (aK _)) (sY (cz (au (Aq T) c.m (aa (pv 2) (aa (pv 0) (aa (aF (hG (K:=K) rfl) (pv 4) ai) af)))))))))) (λ Z Z Z Z Z=>(pv 0)))))))),?_⟩
 try dsimp only [eQ,aW]
 try (refine eB ?_;intro Z Z Z Z Z)
 obtain ⟨pb,pw,pf,I,eb,ew,ef⟩:=id B
 obtain ⟨⟨dx,pm,KS,Jn,Jw,vm,vs,vt,aC,Z,ha,Z⟩,q1,q2,N,q4⟩:=id l
 refine ⟨_,rfl,_,rfl,a,F,m,p,s,rfl,l,B,ok,λ H1 O=>?_⟩
 refine ⟨_,rfl,p,s,rfl,B.same O,by rw [ok.lw];exact N,λ H2 s2=>?_⟩
 have r:=O.trans s2
 refine ⟨_,rfl,p,_,_,_,rfl,rfl,.inr (r.tup I),rfl,_,rfl,_,_,rfl,rfl,λ go t=>?_⟩
 obtain rfl:go=((s.bB &&& s.held:Nat):Int):=by rw [t,oN]
 have M:=ut N
 have W:(Bit.rooms m.ws).length<=8:=by
   rw [ap.ws,Ord.Fs _ (by lia)]
   have:=aa4 m.has (List.range m.rows.length)
   rw [aaq] at this
   lia
 refine ⟨_,rfl,a,F,m,rfl,l.same r,λ H3 s3=>⟨m.ws,rfl,ac1 M (by decide),W,λ L V gW sm G=>⟨L,rfl,⟨_,bh.of G⟩,λ D z=>?_⟩⟩⟩
 have f:=(r.trans s3).trans sm
 have lp:(Bit.parts (Bit.rooms m.ws)).length<=16:=by
   rw [Ord.DA _ M]
   exact aaz (aa4 _ _) (by rw [aaq];decide)
 have R:∀ o∈Bit.parts (Bit.rooms m.ws),o<16:=λ o h=>by
   rw [Ord.DA _ M] at h
   exact aaJ.mp (aa3.mp h).1
 generalize Y:Bit.parts (Bit.rooms m.ws)=d at lp R G
 refine cE (K:=K) (a:=L) (xs:=d.map ao) (λ j A U b=>A4 (aE V b) (b D=some (.lst A)) (A=((d.take j).filter (s.FH m)).map ao) (∃ v,U=[v,some (ao (s.bB &&& s.held)),some (.ref a),some (ao s.held),some (.ref p)]))
   ⟨al z,ag,rfl,none,rfl⟩ (λ j A U b Z e=>bh.of (e.1 _ _ G)) ?_ ?_
 .
  rintro j x A U b hx ⟨S,C,rfl,v,rfl⟩
  obtain ⟨o,J,rfl⟩:=dJ hx
  have ho:=R o (aag J)
  have la:=aa4 (s.FH m) (d.take j)
  rw [aaD] at la
  refine ⟨_,rfl,_,rfl,_,_,rfl,rfl,λ y X=>⟨_,rfl,rfl,_,rfl,?_⟩⟩
  obtain rfl:y=((o &&& s.held:Nat):Int):=by rw [X,oN]
  have u:((d.take (j+1)).filter (s.FH m)).map ao=((d.take j).filter (s.FH m)).map ao++(if s.FH m o=true then [ao o] else []):=by
    rw [bM J,abm,aah]
    cases q:s.FH m o<;>simp [q]
  refine fP (λ h=>?_) (λ h=>?_)
  .
   have h:o &&& s.held=s.bB &&& s.held:=by have:=ce.mp h;lia
   have g:s.FH m o=m.IT o s.heap:=by unfold cm.FH;rw [aao h,Bool.true_and]
   refine ⟨_,rfl,_,rfl,_,rfl,p,_,_,_,rfl,rfl,.inr ((f.trans S).tup I),rfl,a,F,m,o,_,rfl,l.same (f.trans S),ac1 ho (by decide),λ H5 n=>⟨_,rfl,?_⟩⟩
   cases q:m.IT o s.heap with
   | true =>
     refine ge ⟨_,rfl,n _ _ C,aT (by rw [OG];lia),(S.trans n).put z,ag,?_,_,rfl⟩
     rw [u,g,q];rfl
   | false =>
     refine fc ⟨S.trans n,n _ _ C,?_,_,rfl⟩
     rw [u,g,q];simp
  . have h:¬ (o &&& s.held=s.bB &&& s.held):=λ e=>h (by rw [e];rfl)
    have g:s.FH m o=false:=by unfold cm.FH;rw [aam h,ab3]
    refine fc ⟨S,C,?_,_,rfl⟩
    rw [u,g];simp
 .
  rintro A U b ⟨S,C,rfl,v,rfl⟩
  rw [OG,aaC] at C
  refine k D b (f.free z) (f.trans S) ?_
  rw [C,<- Y]
  rfl
def oZ (T:Txt K mg Ad):GK P w K mg base "look_at_state" 7 ["hold","state"] (GL K Ad.aX Ad.mE):=by
 refine T.kQ.Rs jM (λ v H Q E h=>?_) (λ Z Z Z Z Z Z u j=>Di j λ Z Z=>rfl) (λ f Z Z Z s H v Q E k h=>?_)
 . obtain ⟨a,c,m,p,g,rfl,Z⟩:=h
   rfl
 .
  obtain ⟨a,c,m,p,g,rfl,i,l,d,o,n⟩:=h
  refine ⟨_,(am (br (dG (cz (au (pT T) k.m (aa (pv 0) (aa (pv 1) af))))) (am (FQ rfl PySem.F.excBase_ValueError T.wH T.Ev (MI λ Z Z Z z=>z) (aa Nz af))) aI)),?_⟩
  try dsimp only [eQ,aW]
  refine ⟨_,rfl,_,rfl,a,c,m,p,g,rfl,i,l,d,λ b S=>⟨_,rfl,?_⟩⟩
  cases e:yw m g with
  | true=>exact fc (o e b S)
  | false=>exact ge ⟨IP,n e b S⟩
def BA (T:Txt K mg Ad):Def P w K mg base "failing" 5 ["hold","state","order"] (AX K Ad.aX):=by
 refine T.EM.cW uS λ Z Z Z Z Z H vs Q E b h=>?_
 obtain ⟨a,fp,m,p,s,o,rfl,R,hs,ok,g,k⟩:=h
 refine ⟨_,(ac (cT (i:=3) uS.nd (ax mH (pv 2) (pF Cy (aF az (pv 1) ai))))
     (am (aG (au (nS T) b.m (aa (fT ["room"] ["state","hold"] [1,0] (.cons ⟨rfl,rfl,.inl rfl⟩ (.cons ⟨rfl,rfl,.inl rfl⟩ .nil)) rfl (bY (au (kG T) b.m (aa (pv 3) af))) (λ Z Z Z Z Z=>(mG (i:=0))) (λ Z Z Z Z Z=>(kz (aH jw (aF (hG (K:=K) rfl) (aF (hG (K:=K) rfl) (pv 1) ai) (pv 0)) (aF (hG (K:=K) rfl) (aR (pv 2) T.aD (eC T) .nil b.m (aa (pv 0) af)) ai) (aK _)))) (λ Z Z Z Z Z=>(pv 0))) af))))),?_⟩
 try dsimp only [eQ,aW]
 obtain ⟨pb,pw,pf,G,eb,ew,ef⟩:=id hs
 obtain ⟨⟨dx,pm,KS,Jn,Jw,vm,vs,vt,aC,Z,ha,Z⟩,q1,q2,l,q4⟩:=id R
 have F:o<16:=by rw [<- g];exact aav acV (ut l)
 have V4:s.bB<16:=Ord.LF l ok.bB
 refine ⟨_,rfl,_,rfl,p,_,_,_,rfl,rfl,.inr G,rfl,_,rfl,_,_,rfl,rfl,λ y ey=>?_⟩
 obtain rfl:y=((Ord.off o s.bB:Nat):Int):=by rw [ey];exact ox _ _
 have t:Ord.off o s.bB<2 ^ 4:=Ord.Ng (n:=4) F
 have J:=Nw l ok g
 have f:∀ r∈Bit.rooms (Ord.off o s.bB),r<m.rows.length/\m.has r=true:=λ r b=>by
   have:=(Bit.f7.mp b).2
   rw [Ord.xD F V4,aaG] at this
   exact EX g this.1
 generalize Ord.off o s.bB=z at t J f |-
 refine ⟨_,rfl,z,rfl,ac1 t (by decide),λ W Hm gW X V=>⟨W,rfl,⟨_,bh.of V⟩,λ D O=>?_⟩⟩
 refine cE (K:=K) (a:=W) (xs:=(Bit.rooms z).map ao) (λ j A U c=>A4 (aE Hm c) (c D=some (.lst A)) (A=(((Bit.rooms z).take j).filter λ r=>decide ((gN s.failed r:Int)<m.fails r)).map ao) (∃ v,U=[v,some (.ref p),some (.ref a)]))
   ⟨al O,ag,rfl,none,rfl⟩ (λ j A U c Z e=>bh.of (e.1 _ _ V)) ?_ ?_
 .
  rintro j x A U c hx ⟨S,I,rfl,v,rfl⟩
  obtain ⟨r,L,rfl⟩:=dJ hx
  obtain ⟨Nc,LS⟩:=f r (aag L)
  obtain ⟨zz,N⟩:=ve LS
  have hz:=mK (m:=m) (i:=r) (by lia)
  have d:=X.trans S
  have la:=aa4 (λ r=>decide ((gN s.failed r:Int)<m.fails r)) ((Bit.rooms z).take j)
  have lr:=vU z
  rw [aaD] at la
  have B:m.fails r=zz.2.2.2:=by unfold ap.fails;rw [N];rfl
  refine ⟨_,rfl,p,_,_,_,rfl,rfl,.inr (d.tup G),rfl,_,rfl,pf,_,_,_,rfl,rfl,.inr (d.tup ef),DO (by rw [ok.lf];exact Nc),?_⟩
  refine ⟨_,rfl,a,dx,_,rfl,d _ _ ha,rfl,_,rfl,a,fp,m,r,_,rfl,R.same d,hz,λ u C=>?_⟩
  rw [N] at C
  obtain ⟨pz,v1,rfl,Y,Z⟩:=C.bJ
  have M:(((Bit.rooms z).take (j+1)).filter λ r=>decide ((gN s.failed r:Int)<m.fails r)).map ao=(((Bit.rooms z).take j).filter λ r=>decide ((gN s.failed r:Int)<m.fails r)).map ao++(if decide ((gN s.failed r:Int)<m.fails r)=true then [ao r] else []):=by
    rw [bM L,abm,aah]
    by_cases q:(gN s.failed r:Int)<m.fails r<;>simp [q]
  refine ⟨pz,_,_,_,rfl,rfl,.inr Y,rfl,_,_,rfl,rfl,_,rfl,fP (λ h=>?_) (λ h=>?_)⟩
  . refine ⟨_,rfl,I,aT (by rw [OG];lia),S.put O,ag,?_,_,rfl⟩
    rw [M,aao (by rw [B];exact h)];rfl
  . refine ⟨S,I,?_,_,rfl⟩
    rw [M,aam (by rw [B];exact h)];simp
 .
  rintro A U c ⟨S,I,rfl,v,rfl⟩
  rw [OG,aaC] at I
  have:=k c (X.trans S)
  rw [<- J] at this
  exact ⟨D,_,rfl,bh.of I,λ r b=>by have:=(f r (aa3.mp b).1).1;lia,this⟩
def ur (T:Txt K mg Ad):Def P w K mg base "wait_behind" 5 ["hold","state","burning","room"] (uz K Ad.aX):=by
 refine T.vE.cW tX λ Z Z Z Z Z H I Q E f h=>?_
 obtain ⟨a,F,m,p,s,b,i,rfl,l,A,ok,x,B,t,k⟩:=h
 refine ⟨_,(ac (br (aH pM (au (fh T) f.m (aa (aF az (pv 1) ai) (aa (pv 3) af))) (au (fh T) f.m (aa (pv 2) (aa (pv 3) af))) (aK _)) (am (aG (aF az (aR (pv 0) T.aD (eC T) .nil f.m (aa (pv 3) af)) ai))) aI)
     (am (aG (aS (qB rfl) (by rfl) T.Iu BW (aa ai (aa (ax dS (aF az (aF az (pv 1) ai) (pv 3)) ai) af)))))),?_⟩
 try dsimp only [eQ,aW]
 obtain ⟨X,C,Y,g,S,r,U⟩:=id A
 obtain ⟨⟨o,pm,N,L,M,vm,I,vt,R,Z,v,Z⟩,q1,q2,q3,q4⟩:=id l
 refine ⟨_,rfl,p,_,_,_,rfl,rfl,.inr g,rfl,_,rfl,s.bB,i,rfl,?_⟩
 refine ⟨_,rfl,_,rfl,b,i,rfl,rfl,_,rfl,oU (λ O=>?_) (λ c=>?_)⟩
 .
  have O:¬ s.bB.testBit i=b.testBit i:=λ e=>O (by rw [e])
  obtain ⟨z,j⟩:=ve (B O)
  have J:=mK (m:=m) (i:=i) (by lia)
  refine ⟨_,rfl,a,o,_,rfl,v,rfl,_,rfl,a,F,m,i,_,rfl,l,J,λ u D=>?_⟩
  rw [j] at D
  obtain ⟨G,v1,rfl,n,Z⟩:=D.bJ
  have q:m.dI i=z.2.2.1:=by unfold ap.dI;rw [j];rfl
  have d:ao (s.jh m b i) = .int z.2.2.1:=by
    unfold cm.jh
    rw [aaA O,<- q]
    show V.int _=_
    rw [ab5 t]
  rw [d] at k
  exact ⟨G,_,_,_,rfl,rfl,.inr n,rfl,k⟩
 .
  have c:s.bB.testBit i=b.testBit i:=by injection c
  refine ⟨_,rfl,p,_,_,_,rfl,rfl,.inr g,rfl,_,rfl,C,_,_,_,rfl,rfl,.inr r,DO (by rw [ok.lw];exact x),_,_,rfl,rfl,λ y W=>?_⟩
  refine ⟨0,y,rfl,?_⟩
  have d:(if y > 0 then y else 0)=((s.jh m b i:Nat):Int):=by
    unfold cm.jh
    rw [aaE c]
    split<;>lia
  rw [d]
  exact k
def qM (T:Txt K mg Ad):Def P w K mg base "failed_behind" 2 ["state","burning","out","room"] (qj K):=by
 refine T.sN.cW rL λ Z Z Z Z Z H v Q E g h=>?_
 obtain ⟨p,S,b,o,i,rfl,n,f,k⟩:=h
 refine ⟨_,(ac (br (cz (au (fh T) g.m (aa (pv 2) (aa (pv 3) af)))) (am (aG (ax bg (aF az (aF az (pv 0) ai) (pv 3)) ai))) aI)
     (ac (br (cz (au (fh T) g.m (aa (pv 1) (aa (pv 3) af)))) (am (aG ai)) aI)
     (am (aG (aF az (aF az (pv 0) ai) (pv 3)))))),?_⟩
 try dsimp only [eQ,aW]
 try (refine cV ?_;intro Z Z Z Z)
 obtain ⟨s,t,j,e,q,r,a⟩:=id n
 unfold cm.jS at k
 refine ⟨_,rfl,_,rfl,o,i,rfl,_,rfl,?_⟩
 cases c:o.testBit i with
 | true =>
   rw [c] at k
   refine ge ⟨_,rfl,p,_,_,_,rfl,rfl,.inr e,rfl,_,rfl,j,_,_,_,rfl,rfl,.inr a,DO f,_,_,rfl,rfl,λ y l=>?_⟩
   rw [l]
   exact k
 | false =>
   rw [c] at k
   refine fc ⟨_,rfl,_,rfl,b,i,rfl,_,rfl,?_⟩
   cases d:b.testBit i with
   | true =>
     rw [d] at k
     exact ge k
   | false =>
     rw [d] at k
     exact fc ⟨_,rfl,p,_,_,_,rfl,rfl,.inr e,rfl,_,rfl,j,_,_,_,rfl,rfl,.inr a,DO f,k⟩
def rA (T:Txt K mg Ad):Def P w K mg base "stoves_behind" 7 ["hold","state","order","out"] (EV K Ad.aX):=by
 refine T.sP.cW eA λ Z Z Z Z Z H vs Q E e h=>?_
 obtain ⟨a,F,m,p,S,o,O,rfl,d,x,ok,M,h0,G,k⟩:=h
 refine ⟨_,(ac (cT (i:=4) eA.nd (ax mH (pv 2) (pF Cy (pv 3))))
     (ac (uR (yi:=5) ["room"] ["hold","state","burning"] [0,1,4] (.cons ⟨rfl,rfl,.inl rfl⟩ (.cons ⟨rfl,rfl,.inl rfl⟩ (.cons ⟨rfl,rfl,.inl rfl⟩ .nil))) rfl (cN rfl T.eM (aa (fG (pv 0) T.aD (cK T) .nil e.m) af)) (λ Z Z Z Z Z=>(mG (i:=0))) (λ Z Z Z Z Z=>cJ) (λ Z Z Z Z Z=>(au (ur T) e.m (aa (pv 1) (aa (pv 2) (aa (pv 3) (aa (pv 0) af)))))) eA.nd (lc rfl))
     (ac (uR (yi:=6) ["room"] ["state","burning","out"] [1,4,3] (.cons ⟨rfl,rfl,.inl rfl⟩ (.cons ⟨rfl,rfl,.inl rfl⟩ (.cons ⟨rfl,rfl,.inl rfl⟩ .nil))) rfl (cN rfl T.eM (aa (fG (pv 0) T.aD (cK T) .nil e.m) af)) (λ Z Z Z Z Z=>(mG (i:=0))) (λ Z Z Z Z Z=>cJ) (λ Z Z Z Z Z=>(au (qM T) e.m (aa (pv 1) (aa (pv 2) (aa (pv 3) (aa (pv 0) af)))))) eA.nd (lc rfl))
     (ac (cT (i:=7) eA.nd (aS (DQ rfl) (by rfl) T.QE N5 (aa (aM (pv 0) rfl) (aa (ax bg (ax dS (aF az (pv 1) ai) (au (tS T) e.m (aa (pv 0) (aa (pv 4) af)))) (aM (pv 0) rfl)) af))))
     (am (aG (cg (aa (pv 4) (aa (cH eR (by rfl) T.mR jR (aa (pv 5) af)) (aa (cH eR (by rfl) T.mR jR (aa (pv 6) af)) (aa (pv 7) af))))))))))),?_⟩
 try dsimp only [eQ,aW]
 try (refine As ?_;intro Z Z Z Z Z Z)
 obtain ⟨pb,pw,pf,e0,eb,ew,ef⟩:=id x
 obtain ⟨⟨l,pm,KS,Jn,Jw,vm,vs,vt,aC,Z,r,Z⟩,q1,q2,q3,q4⟩:=id d
 refine ⟨_,rfl,_,rfl,_,rfl,_,_,rfl,rfl,λ y ey=>?_⟩
 obtain rfl:y=((Ord.off o O:Nat):Int):=by rw [ey];exact ox _ _
 generalize Ord.off o O=b at M G k |-
 refine ⟨_,rfl,a,l,_,rfl,r,rfl,a,F,m,rfl,d,_,rfl,by lia,by lia,λ D L=>?_⟩
 refine fY (lo:=0) (n:=m.rows.length) (λ j A U c=>A4 (aE H c) (c D=some (.lst A)) (A=((List.range j).map (S.jh m b)).map ao) (∃ v,U=[v,some (.ref a),some (.ref p),some (ao b)])) ⟨al L,ag,rfl,none,rfl⟩ ?_ ?_
 . rintro j A U c t ⟨s,N,rfl,v,rfl⟩
   refine ⟨_,rfl,_,rfl,_,rfl,_,rfl,a,F,m,p,S,b,j,(by rw [aa0];rfl),d.same s,x.same s,ok,t,M j,h0 j,N,aT (by rw [OG,OG,aaq];lia),s.put L,ag,?_,_,rfl⟩
   rw [aa2,aah,aah];rfl
 rintro A U H1 ⟨s,N,rfl,v,rfl⟩
 refine ⟨_,rfl,a,l,_,rfl,s _ _ r,rfl,a,F,m,rfl,d.same s,_,rfl,by lia,by lia,λ C R=>?_⟩
 refine fY (lo:=0) (n:=m.rows.length) (λ j A U c=>A4 (aE H1 c) (c C=some (.lst A)) (A=((List.range j).map (S.jS b O)).map ao) (∃ v,U=[v,some (.ref p),some (ao b),some (ao O)])) ⟨al R,ag,rfl,none,rfl⟩ ?_ ?_
 . rintro j A U c t ⟨f,J,rfl,v,rfl⟩
   refine ⟨_,rfl,_,rfl,_,rfl,_,rfl,p,S,b,O,j,(by rw [aa0];rfl),x.same (s.trans f),by rw [ok.lf];exact t,J,aT (by rw [OG,OG,aaq];lia),f.put R,ag,?_,_,rfl⟩
   rw [aa2,aah,aah];rfl
 rintro A U H2 ⟨f,J,rfl,v,rfl⟩
 have g:=s.trans f
 refine ⟨_,rfl,a,_,l,_,_,rfl,g _ _ r,T.aD,T.f8,pQ ..,?_⟩
 refine ⟨_,rfl,p,_,_,_,rfl,rfl,.inr (g.tup e0),rfl,?_⟩
 refine ⟨_,rfl,_,rfl,a,F,m,b,rfl,d.same g,λ H3 z=>?_⟩
 have I:=g.trans z
 refine ⟨_,_,rfl,rfl,λ x1 g1=>⟨_,rfl,a,_,l,_,_,rfl,I _ _ r,T.aD,T.iV,ud ..,_,_,rfl,rfl,λ X g2=>⟨_,X,rfl,?_⟩⟩⟩
 have e2:(if X<m.de then X else m.de)=(((S.kO m b).toNat:Nat):Int):=by
   rw [ab5 G]
   unfold cm.kO
   split<;>lia
 rw [e2]
 refine ⟨_,rfl,_,rfl,D,_,rfl,.inl ⟨bh.of ((f.trans z) _ _ N),λ W Sl=>?_⟩⟩
 have Y:aE _ _:=al (o:=.tup (((List.range m.rows.length).map (S.jh m b)).map ao)) Sl
 refine ⟨_,rfl,C,_,rfl,.inl ⟨bh.of (Y _ _ (z _ _ J)),λ V u=>?_⟩⟩
 have u2:aE _ _:=al (o:=.tup (((List.range m.rows.length).map (S.jS b O)).map ao)) u
 refine ⟨_,rfl,LD,λ q hq=>?_⟩
 have B:aE _ _:=al (o:=.tup [ao b,.ref W,.ref V,ao (S.kO m b).toNat]) hq
 exact k q W V _ (((I.trans Y).trans u2).trans B) ag (B _ _ (u2 _ _ ag)) (B _ _ ag)
def EL {t u:L2.TE} {a b:Bool} {U:L2.St} {H:Hp} {Q:VK} (c:∀ Q:VK,Q (.bl a) H->t U H Q) (d:∀ Q:VK,Q (.bl b) H->u U H Q) (h:Q (.bl (a && b)) H):Ih t u U H Q:=by
 refine c _ ⟨a,rfl,?_⟩
 cases a with
 | true=>exact ge (d Q h)
 | false=>exact fc h
def nQ (T:Txt K mg Ad):Def P w K mg base "sum_of_products" 3 ["pairs"] (L6 K):=by
 refine T.pL.cW bT λ Z Z Z Z Z H vs Q E hr h=>?_
 obtain ⟨p,X,D,rfl,N,c,z,hl,hB,k⟩:=h
 refine ⟨_,(ac (cT (i:=1) bT.nd ai)
     (ac (cT (i:=2) bT.nd ai)
     (ac (dB aaF rfl (bY (pv 0)) (dC (K:=K) (n:=2) rfl rfl (aO (iJ (i:=3) bT.nd) (aO (iJ (i:=4) bT.nd) dD))) (ac (cT (i:=5) bT.nd (ax bL (aF az (pv 3) ai) (aF az (pv 4) ai)))
     (ac (cT (i:=1) bT.nd (ax bg (ax bL (pv 1) (pv 5)) (ax bL (ax bL (aF az (pv 3) ai) (aF az (pv 4) ai)) (pv 2))))
     (am (cT (i:=2) bT.nd (ax bL (pv 2) (pv 5)))))))
     (am (aG (au (lE T) hr.m (aa (pv 1) (aa (pv 2) af)))))))),?_⟩
 try dsimp only [eQ,aW]
 try (refine eB ?_;intro Z Z Z Z Z)
 have R:X.length=D.length:=by rw [c.length,OG]
 refine ⟨_,rfl,p,rfl,⟨_,N⟩,?_⟩
 refine jO (K:=K) (a:=p) (xs:=X) (λ i U g=>g=H/\E3 λ (V G I:eE)=>U=[some (.ref p),some (.int (f6 (D.take i)).1),some (.int (f6 (D.take i)).2),V,G,I]) ⟨rfl,none,none,none,rfl⟩ (λ i U g Z e=>by rw [e.1];exact N) ?_ ?_
 .
  rintro i x U g O ⟨rfl,V,G,I,rfl⟩
  have v:i<D.length:=by rw [<- R];exact (Ba.mp O).1
  obtain ⟨J,B,b3⟩:=xB D z i (by lia)
  have et:D.take (i+1)=D.take i++[D[i]]:=by rw [acG,aJ v];rfl
  obtain ⟨y,ey,pq,ws,rfl,Y,j⟩:=c.get (i:=i) (d:=GX D[i]) (by rw [aab,aJ v];rfl)
  obtain rfl:x = .ref pq:=aap (O.symm.trans ey)
  have c:=z D[i] (aay v)
  obtain ⟨w1,r1,rfl,d1,w2,r2,rfl,d2,f⟩:=j
  have f:r2=[]:=f
  subst f
  obtain ⟨A,rfl,l⟩:=Dn.fr d1
  obtain ⟨C,rfl,o⟩:=Dn.fr d2
  rw [et,u9]
  generalize D[i]=d at c l o |-
  generalize f6 (D.take i)=s at J B b3 |-
  refine ⟨pq,_,rfl,Y,rfl,_,_,rfl,_,_,rfl,rfl,?_⟩
  refine ⟨_,rfl,A,_,_,_,rfl,rfl,.inr l,rfl,_,rfl,C,_,_,_,rfl,rfl,.inr o,rfl,_,_,rfl,rfl,⟨900,900,c.a.b,c.b.b,by decide⟩,λ be W=>?_⟩
  have W:be=d.1.2 * d.2.2:=W
  have L:Bd 1800 (d.1.2 * d.2.2):=c.a.b.mul c.b.b
  subst W
  have sm:1802 * i+2+1800<=100000:=by lia
  refine ⟨_,rfl,_,rfl,_,_,rfl,rfl,⟨1802 * i+2,1800,J,L,by lia⟩,λ x1 e1=>?_⟩
  refine ⟨_,rfl,A,_,_,_,rfl,rfl,.inr l,rfl,_,rfl,C,_,_,_,rfl,rfl,.inr o,rfl,_,_,rfl,rfl,⟨900,900,c.a.t,c.b.t,by decide⟩,λ x2 M=>?_⟩
  have bt:Bd 1800 x2:=by rw [M];exact c.a.t.mul c.b.t
  refine ⟨_,rfl,_,_,rfl,rfl,⟨1800,1800 * i+1,bt,B,by lia⟩,λ x3 f=>⟨_,_,rfl,rfl,λ x4 e4=>?_⟩⟩
  refine ⟨_,rfl,_,rfl,_,_,rfl,rfl,⟨1800 * i+1,1800,B,L,by lia⟩,λ x5 e5=>⟨rfl,some (.ref A),some (.ref C),some (.int (d.1.2 * d.2.2)),?_⟩⟩
  have f4:x4=s.1 * (d.1.2 * d.2.2)+d.1.1 * d.2.1 * s.2:=by rw [e4,e1,f,M]
  have f5:x5=s.2 * (d.1.2 * d.2.2):=e5
  rw [f4,f5]
  rfl
 .
  rintro U g ⟨rfl,V,G,I,rfl⟩
  rw [R,aaC]
  have Mi:=Ks z
  refine ⟨_,rfl,_,rfl,_,_,rfl,by lia,hB,λ q r u S F s2 hu=>k u S s2 ?_⟩
  have:=F.nf Mi
  rw [hu,<- this]
def pG (T:Txt K mg Ad):Def P w K mg base "warmth_of" 6 ["hold","room","airs","weather","fired"] (Fa K Ad.aX):=by
 refine T.Ao.cW o9 λ Z Z Z Z Z H vs Q E Y h=>?_
 obtain ⟨a,fp,m,i,pa,Pb,c,W,wf,F,rfl,R,hi,Ue,da,la,oa,dw,ow,hz,k⟩:=h
 refine ⟨_,(ac (uR (yi:=5) ["of","air"] ["room","hold"] [1,0] (.cons ⟨rfl,rfl,.inl rfl⟩ (.cons ⟨rfl,rfl,.inl rfl⟩ .nil)) rfl (rj rfl T.dQ (aa (pv 2) af)) (λ Z Z Z Z Z=>(dC (K:=K) (n:=2) rfl rfl (aO (mG (i:=0)) (aO (mG (i:=1)) dD)))) (λ Z Z Z Z Z=>cJ) (λ Z Z Z Z Z=>(cg (aa (aR (pv 3) T.aD (lN T) .nil Y.m (aa (pv 2) (aa (pv 0) af))) (aa (pv 1) af)))) o9.nd (lc rfl))
     (ac (bp (iG aaI aaN aaM cI (pv 5) (aa (cg (aa (aF az (aR (pv 0) T.aD (o5 T) .nil Y.m (aa (pv 1) af)) ai) (aa (pv 3) af))) af)))
     (ac (eW (br (cz (pv 4)) (am (bp (iG aaI aaN aaM cI (pv 5) (aa (cg (aa (hJ (v:=V.ref _) rfl T.Dp rfl) (aa (aF az (aR (pv 0) T.aD (eC T) .nil Y.m (aa (pv 1) af)) ai) af))) af)))) aI))
     (am (aG (au (nQ T) Y.m (aa (pv 5) af))))))),?_⟩
 try dsimp only [eQ,aW]
 try (refine eB ?_;intro Z Z Z Z Z)
 obtain ⟨⟨dx,pm,KS,Jn,Jw,vm,vs,vt,aC,qg,ha,Z⟩,q1,q2,q3,q4⟩:=id R
 obtain ⟨ah,Vc,ae⟩:=rP (i:=i) (fired:=F) q4 q3 la oa ow hz
 have L:Pb.length=c.length:=by rw [da.length,OG]
 refine ⟨_,rfl,pa,rfl,⟨_,Ue⟩,λ D O=>?_⟩
 refine jZ (sq:=bh K) (a:=pa) (xs:=Pb) (λ j acc U b=>A4 (aE H b) (b D=some (.lst acc)) (bC K b (((List.range j).map λ j=>((m.share i j,c.getD j (0,1)):Pr)).map GX) acc) (E2 λ v0 v1=>U=[v0,v1,some (ao i),some (.ref a)]))
   ⟨al O,ag,rfl,none,none,rfl⟩ (λ j acc U b Z e=>e.1.seq Ue) ?_ ?_
 .
  rintro j x pp acc U b hx tP ⟨t,N,o,v0,v1,rfl⟩
  have hj:j<c.length:=by rw [<- L];exact (Ba.mp hx).1
  obtain ⟨y,ey,dy⟩:=da.get (i:=j) (d:=eX c[j]) (by rw [aab,aJ hj];rfl)
  obtain rfl:x=y:=aap (hx.symm.trans ey)
  have s:aE b (upd b pp (.tup [ao j,x])):=al tP
  have nD:D≠pp:=aw N tP
  have S2:=t.trans s
  refine ⟨pp,_,rfl,bR.of ag,rfl,_,_,rfl,_,_,rfl,rfl,?_⟩
  refine ⟨_,rfl,a,dx,_,rfl,S2 _ _ ha,rfl,_,rfl,_,rfl,a,fp,m,i,j,rfl,R.same S2,hi,by lia,λ v l s3 dv=>?_⟩
  have r:=S2.trans s3
  refine ⟨_,rfl,Io,λ p gU=>?_⟩
  have S:aE l (upd l p (.tup [v,x])):=al gU
  have J:=r.trans S
  have C:=S _ _ (s3 _ _ (s _ _ N))
  have A:aQ K (upd l p (.tup [v,x])) (upd (upd l p (.tup [v,x])) D (.lst (acc++[.ref p]))):=bU C rfl
  have D3:acc.length=j:=by rw [o.length,OG,OG,aaq]
  refine ⟨C,aT (by lia),(J).put O,ag,?_,_,_,rfl⟩
  rw [aa2,aah,aah]
  refine (bC.ts ((aE.ts ((s.trans s3).trans S)).trans A) _ (tY _) o).snoc (Dn.ts A _ (tz _) ?_)
  have ea:c.getD j (0,1)=c[j]:=by rw [UE,aJ hj];rfl
  show Dn K _ (GX (m.share i j,c.getD j (0,1))) _
  rw [ea]
  exact iE (bR.of ag) (bA (Dn.same S _ dv) (bA (Dn.same J _ dy) fu))
 .
  rintro acc U g ⟨t,N,o,v0,v1,rfl⟩
  rw [L] at o
  have o:bC K g ((fF m i c).map GX) acc:=o
  have D3:acc.length<=4:=by rw [o.length,OG];unfold fF;rw [OG,aaq];lia
  have TM:i<m.bD.length:=by lia
  have Pk:=aJ TM
  have Oz:m.eU i=m.bD[i].1:=by unfold ap.eU;rw [Pk];rfl
  refine ⟨_,rfl,.inl ⟨rfl,_,bh.of N⟩,_,rfl,a,dx,_,rfl,t _ _ ha,rfl,_,rfl,a,fp,m,i,_,rfl,R.same t,Pk,λ v dv=>?_⟩
  obtain ⟨p0,I,Uz,UH,rfl,Cm,ab,L4,aj⟩:=dv.tE
  refine ⟨p0,_,_,_,rfl,rfl,.inr Cm,rfl,_,rfl,Io,λ p gU=>?_⟩
  have s:aE g (upd g p (.tup [I,W])):=al gU
  have iW:=s _ _ N
  refine ⟨D,_,_,rfl,rfl,iW,aT (by lia),?_⟩
  have A:aQ K (upd g p (.tup [I,W])) (upd (upd g p (.tup [I,W])) D (.lst (acc++[.ref p]))):=bU iW rfl
  have jU:(upd (upd g p (.tup [I,W])) D (.lst (acc++[.ref p]))) D=some (.lst (acc++[.ref p])):=ag
  have r:aE H (upd (upd g p (.tup [I,W])) D (.lst (acc++[.ref p]))):=(t.trans s).put O
  have d3:bC K (upd (upd g p (.tup [I,W])) D (.lst (acc++[.ref p]))) ((fF m i c++[(m.eU i,wf)]).map GX) (acc++[.ref p]):=by
    rw [aah]
    refine (bC.ts ((aE.ts s).trans A) _ (tY _) o).snoc (Dn.ts A _ (tz _) ?_)
    refine iE (bR.of ag) (bA (Dn.same s _ ?_) (bA (Dn.same (t.trans s) _ dw) fu))
    rw [Oz];exact ab
  generalize (upd (upd g p (.tup [I,W])) D (.lst (acc++[.ref p])))=l at jU r d3 |-
  refine ⟨λ G b=>aE H b/\∃ X,A3 (b D=some (.lst X)) (bC K b ((iL m i c wf F).map GX) X) (G=[some (.ref a),some (ao i),some (.ref pa),some W,some (.bl F),some (.ref D)]),?_,?_⟩
  .
   refine ⟨_,rfl,_,rfl,?_⟩
   cases F with
   | false =>
     refine fc ⟨r,_,jU,?_,rfl⟩
     unfold iL
     rw [aaA aaB,aa9]
     exact d3
   | true =>
     obtain ⟨z,ez⟩:=hz rfl
     refine ge ⟨_,rfl,.inl ⟨rfl,_,bh.of jU⟩,?_⟩
     refine ⟨_,rfl,a,dx,_,rfl,r _ _ ha,rfl,_,rfl,a,fp,m,i,_,rfl,R.same r,ez,λ u du=>?_⟩
     obtain ⟨pz,zs,rfl,Dj,t1,r1,rfl,e1,Z⟩:=du
     refine ⟨pz,_,_,_,rfl,rfl,.inr Dj,bZ (j:=0) rfl,Io,λ M V6=>?_⟩
     have S:aE l (upd l M (.tup [.ref Ad.wJ,t1])):=al V6
     have C:=S _ _ jU
     refine ⟨D,_,_,rfl,rfl,C,aT (by rw [aac];simp only [aaW,ac3];lia),(r.trans S).put O,_,ag,?_,rfl⟩
     have B:aQ K (upd l M (.tup [.ref Ad.wJ,t1])) (upd (upd l M (.tup [.ref Ad.wJ,t1])) D (.lst ((acc++[.ref p])++[.ref M]))):=bU C rfl
     have ad:(((m.bq[i]?).getD none).map (·.1)).getD (0,1)=z.1:=by rw [ez];rfl
     unfold iL
     rw [aaE rfl,aah]
     refine (bC.ts ((aE.ts S).trans B) _ (tY _) d3).snoc (Dn.ts B _ (tz _) ?_)
     show Dn K _ (GX ((1,1),(((m.bq[i]?).getD none).map (·.1)).getD (0,1))) _
     rw [ad]
     exact iE (bR.of ag) (bA (T.DN.fr (f:=(1,1))) (bA (Dn.same S _ e1) fu))
  . rintro G H4 ⟨J,X,C,d4,rfl⟩
    exact ⟨_,rfl,D,X,_,rfl,bh.of C,d4,ah,Vc,ae,λ q H5 s5 Ji=>k q H5 (J.trans s5) Ji⟩
def AV (T:Txt K mg Ad):Def P w K mg base "span_of" 7 ["hold","room","bands","fired"] (Jp K Ad.aX):=by
 refine T.Ei.cW ja λ Z Z Z Z Z H vs Q E f h=>?_
 obtain ⟨a,O,m,i,R,B,F,rfl,L,hi,u,lb,Y,hz,k⟩:=h
 refine ⟨_,(ac (iy (eP mV (aR (pv 0) T.aD (o5 T) .nil f.m (aa (pv 1) af)) (fM ai) gk) (dC (K:=K) (n:=2) rfl rfl (aO (iJ (i:=4) ja.nd) (aO (iJ (i:=5) ja.nd) dD))))
     (ac (uR (yi:=6) ["of","band"] ["hold"] [0] (.cons ⟨rfl,rfl,.inl rfl⟩ .nil) rfl (FX rfl T.dQ (aa (pv 2) af)) (λ Z Z Z Z Z=>(dC (K:=K) (n:=2) rfl rfl (aO (mG (i:=0)) (aO (mG (i:=1)) dD)))) (λ Z Z Z Z Z=>cJ) (λ Z Z Z Z Z=>(aF (hG (K:=K) rfl) (aR (pv 2) T.aD (fq T) .nil f.m (aa (pv 0) af)) (pv 1))) ja.nd (lc rfl))
     (ac (uR (yi:=7) ["of","band"] ["hold"] [0] (.cons ⟨rfl,rfl,.inl rfl⟩ .nil) rfl (FX rfl T.dQ (aa (pv 2) af)) (λ Z Z Z Z Z=>(dC (K:=K) (n:=2) rfl rfl (aO (mG (i:=0)) (aO (mG (i:=1)) dD)))) (λ Z Z Z Z Z=>cJ) (λ Z Z Z Z Z=>(aF (hG (K:=K) rfl) (aR (pv 2) T.aD (fq T) .nil f.m (aa (pv 0) af)) (ax bg (pv 1) ai))) ja.nd (lc rfl))
     (am (aG (cg (aa (au (pG T) f.m (aa (pv 0) (aa (pv 1) (aa (pv 6) (aa (pv 4) (aa (pv 3) af)))))) (aa (au (pG T) f.m (aa (pv 0) (aa (pv 1) (aa (pv 7) (aa (pv 5) (aa (pv 3) af)))))) af)))))))),?_⟩
 try dsimp only [eQ,aW]
 try (refine eB ?_;intro Z Z Z Z Z)
 obtain ⟨⟨dx,g,KS,Jn,Jw,vm,vs,vt,aC,qg,ha,Z⟩,q1,q2,q3,q4⟩:=id L
 have TM:i<m.bD.length:=by lia
 have Pk:=aJ TM
 have Oz:nF m i=m.bD[i]:=by unfold nF;rw [Pk];rfl
 have AQ:=q4.bD m.bD[i] (aay TM)
 have ZX:fK 120 (nF m i).2.1:=by rw [Oz];exact AQ.2.1.mono (by decide)
 have ah:fK 120 (nF m i).2.2:=by rw [Oz];exact AQ.2.2.mono (by decide)
 have PV:(gD m B 0).length=m.rows.length:=by unfold gD;rw [OG,aaq,lb]
 have ae:(gD m B 1).length=m.rows.length:=by unfold gD;rw [OG,aaq,lb]
 refine ⟨_,rfl,a,dx,_,rfl,ha,rfl,_,rfl,a,O,m,i,_,rfl,L,Pk,λ v dv=>?_⟩
 obtain ⟨p0,IN,Uz,UH,rfl,Cm,an,L4,aj⟩:=dv.tE
 refine ⟨1,rfl,p0,_,1,rfl,Cm,rfl,rfl,by decide,(by show 1<=3;decide),λ q0 hq=>?_⟩
 refine ⟨q0,_,rfl,bR.of ag,rfl,_,_,rfl,_,_,rfl,rfl,?_⟩
 have M:aE H (upd H q0 (.tup ([IN,Uz,UH].drop 1))):=al hq
 generalize upd H q0 (.tup ([IN,Uz,UH].drop 1))=H0 at M |-
 have ad:Dn K H0 (eX (nF m i).2.1) Uz:=by rw [Oz];exact Dn.same M _ L4
 have ab:Dn K H0 (eX (nF m i).2.2) UH:=by rw [Oz];exact Dn.same M _ aj
 rcases u with u|u
 .
  have u:=M.seq u
  refine ⟨_,rfl,R,rfl,.inl ⟨⟨_,u⟩,λ D hD=>?_⟩⟩
  refine jZ (sq:=bh K) (a:=R) (xs:=B.map ao) (λ j acc U c=>A4 (aE H0 c) (c D=some (.lst acc)) (bC K c (((List.range j).map λ j=>(m.rows.getD j []).getD (B.getD j 0+0) (0,1)).map eX) acc) (E2 λ V t=>U=[V,t,some (.ref a)]))
    ⟨al hD,ag,rfl,none,none,rfl⟩ (λ j acc U c Z e=>e.1.seq u) ?_ ?_
  .
   rintro j x p acc U c hx tP ⟨r,nu,o,V,t,rfl⟩
   obtain ⟨b,A,rfl⟩:=dJ hx
   have hj:j<B.length:=(Ba.mp A).1
   have f:j<m.rows.length:=by lia
   have C:B.getD j 0=b:=by rw [UE,A];rfl
   have s:aE c (upd c p (.tup [ao j,ao b])):=al tP
   have l:=M.trans (r.trans s)
   have G:m.rows.getD j []=m.rows[j]:=by rw [UE,aJ f];rfl
   have q:=Y j f
   rw [G,C] at q
   refine ⟨p,_,rfl,bR.of ag,rfl,_,_,rfl,_,_,rfl,rfl,?_⟩
   refine ⟨_,rfl,a,dx,_,rfl,l _ _ ha,rfl,_,rfl,a,O,m,j,_,rfl,L.same l,aJ f,λ g X gF yL=>?_⟩
   have S:aE (upd c p (.tup [ao j,ao b])) (upd (upd c p (.tup [ao j,ao b])) g (.lst X)):=al gF
   obtain ⟨y,ey,dy⟩:=yL.get (i:=b) (d:=eX m.rows[j][b]) (by rw [aab,aJ (by lia)];rfl)
   have J:=S _ _ (s _ _ nu)
   have I:aQ K (upd (upd c p (.tup [ao j,ao b])) g (.lst X)) (upd (upd (upd c p (.tup [ao j,ao b])) g (.lst X)) D (.lst (acc++[y]))):=bU J rfl
   have D3:acc.length=j:=by rw [o.length,OG,OG,aaq]
   refine ⟨_,rfl,g,_,_,_,rfl,rfl,.inl (bh.of ag),bZ ey,J,aT (by lia),(r.trans (s.trans S)).put hD,ag,?_,_,_,rfl⟩
   rw [aa2,aah,aah]
   refine (bC.ts ((aE.ts (s.trans S)).trans I) _ (oY _ id) (by simpa using o)).snoc (Dn.ts I _ (iO _) ?_)
   show Dn K _ (eX ((m.rows.getD j []).getD (B.getD j 0+0) (0,1))) y
   rw [G,C,ad5,UE,aJ (by lia:b<m.rows[j].length)]
   exact Dn.same S _ dy
  rintro acc U H1 ⟨r,nu,o,V,t,rfl⟩
  rw [OG] at o
  have o:bC K H1 ((gD m B 0).map eX) acc:=o
  have FI:=r.seq u
  have S1:=M.trans r
  refine ⟨_,rfl,R,rfl,.inl ⟨⟨_,FI⟩,λ W iW=>?_⟩⟩
  refine jZ (sq:=bh K) (a:=R) (xs:=B.map ao) (λ j acc U c=>A4 (aE H1 c) (c W=some (.lst acc)) (bC K c (((List.range j).map λ j=>(m.rows.getD j []).getD (B.getD j 0+1) (0,1)).map eX) acc) (E2 λ V t=>U=[V,t,some (.ref a)]))
    ⟨al iW,ag,rfl,none,none,rfl⟩ (λ j acc U c Z e=>e.1.seq FI) ?_ ?_
  .
   rintro j x p i7 U c hx tP ⟨Q2,NB,PP,V,t,rfl⟩
   obtain ⟨b,A,rfl⟩:=dJ hx
   have hj:j<B.length:=(Ba.mp A).1
   have f:j<m.rows.length:=by lia
   have C:B.getD j 0=b:=by rw [UE,A];rfl
   have s:aE c (upd c p (.tup [ao j,ao b])):=al tP
   have l:=S1.trans (Q2.trans s)
   have G:m.rows.getD j []=m.rows[j]:=by rw [UE,aJ f];rfl
   have q:=Y j f
   rw [G,C] at q
   refine ⟨p,_,rfl,bR.of ag,rfl,_,_,rfl,_,_,rfl,rfl,?_⟩
   refine ⟨_,rfl,a,dx,_,rfl,l _ _ ha,rfl,_,rfl,a,O,m,j,_,rfl,L.same l,aJ f,λ g X gF yL=>?_⟩
   have S:aE (upd c p (.tup [ao j,ao b])) (upd (upd c p (.tup [ao j,ao b])) g (.lst X)):=al gF
   obtain ⟨y,ey,dy⟩:=yL.get (i:=b+1) (d:=eX m.rows[j][b+1]) (by rw [aab,aJ (by lia)];rfl)
   have J:=S _ _ (s _ _ NB)
   have I:aQ K (upd (upd c p (.tup [ao j,ao b])) g (.lst X)) (upd (upd (upd c p (.tup [ao j,ao b])) g (.lst X)) W (.lst (i7++[y]))):=bU J rfl
   have D3:i7.length=j:=by rw [PP.length,OG,OG,aaq]
   refine ⟨_,rfl,_,_,rfl,rfl,λ z ez=>?_⟩
   obtain rfl:z=((b+1:Nat):Int):=by rw [ez];push_cast;rfl
   refine ⟨g,_,_,_,rfl,rfl,.inl (bh.of ag),bZ ey,J,aT (by lia),(Q2.trans (s.trans S)).put iW,ag,?_,_,_,rfl⟩
   rw [aa2,aah,aah]
   refine (bC.ts ((aE.ts (s.trans S)).trans I) _ (oY _ id) (by simpa using PP)).snoc (Dn.ts I _ (iO _) ?_)
   show Dn K _ (eX ((m.rows.getD j []).getD (B.getD j 0+1) (0,1))) y
   rw [G,C,UE,aJ (by lia:b+1<m.rows[j].length)]
   exact Dn.same S _ dy
  rintro i7 U H2 ⟨s,J,N,V,t,rfl⟩
  rw [OG] at N
  have N:bC K H2 ((gD m B 1).map eX) i7:=N
  have l:=S1.trans s
  refine ⟨_,rfl,_,rfl,_,rfl,_,rfl,_,rfl,a,O,m,i,D,acc,gD m B 0,_,_,F,rfl,L.same l,hi,bh.of (s _ _ nu),bC.same s _ o,PV,o4 q4 lb Y (by decide),Dn.same ((r.trans s)) _ ad,ZX,hz,λ w1 H3 S WL=>?_⟩
  have S3:=l.trans S
  refine ⟨_,rfl,_,rfl,_,rfl,_,rfl,_,rfl,a,O,m,i,W,i7,gD m B 1,_,_,F,rfl,L.same S3,hi,bh.of (S _ _ J),bC.same S _ N,ae,o4 q4 lb Y (by decide),Dn.same ((r.trans s).trans S) _ ab,ah,hz,λ w2 H4 s4 XT=>⟨Io,λ q hq=>?_⟩⟩
  have s5:aE H4 (upd H4 q (.tup [.ref w1,.ref w2])):=al hq
  exact k q w1 w2 _ ((S3.trans s4).trans s5) ag (s5 _ _ (s4 _ _ WL)) (s5 _ _ XT)
 .
  have u:=M.tup u
  refine ⟨_,rfl,R,rfl,.inr ⟨⟨_,u⟩,λ D hD=>?_⟩⟩
  refine jZ (sq:=bR K) (a:=R) (xs:=B.map ao) (λ j acc U c=>A4 (aE H0 c) (c D=some (.lst acc)) (bC K c (((List.range j).map λ j=>(m.rows.getD j []).getD (B.getD j 0+0) (0,1)).map eX) acc) (E2 λ V t=>U=[V,t,some (.ref a)]))
    ⟨al hD,ag,rfl,none,none,rfl⟩ (λ j acc U c Z e=>e.1.tup u) ?_ ?_
  .
   rintro j x p acc U c hx tP ⟨r,nu,o,V,t,rfl⟩
   obtain ⟨b,A,rfl⟩:=dJ hx
   have hj:j<B.length:=(Ba.mp A).1
   have f:j<m.rows.length:=by lia
   have C:B.getD j 0=b:=by rw [UE,A];rfl
   have s:aE c (upd c p (.tup [ao j,ao b])):=al tP
   have l:=M.trans (r.trans s)
   have G:m.rows.getD j []=m.rows[j]:=by rw [UE,aJ f];rfl
   have q:=Y j f
   rw [G,C] at q
   refine ⟨p,_,rfl,bR.of ag,rfl,_,_,rfl,_,_,rfl,rfl,?_⟩
   refine ⟨_,rfl,a,dx,_,rfl,l _ _ ha,rfl,_,rfl,a,O,m,j,_,rfl,L.same l,aJ f,λ g X gF yL=>?_⟩
   have S:aE (upd c p (.tup [ao j,ao b])) (upd (upd c p (.tup [ao j,ao b])) g (.lst X)):=al gF
   obtain ⟨y,ey,dy⟩:=yL.get (i:=b) (d:=eX m.rows[j][b]) (by rw [aab,aJ (by lia)];rfl)
   have J:=S _ _ (s _ _ nu)
   have I:aQ K (upd (upd c p (.tup [ao j,ao b])) g (.lst X)) (upd (upd (upd c p (.tup [ao j,ao b])) g (.lst X)) D (.lst (acc++[y]))):=bU J rfl
   have D3:acc.length=j:=by rw [o.length,OG,OG,aaq]
   refine ⟨_,rfl,g,_,_,_,rfl,rfl,.inl (bh.of ag),bZ ey,J,aT (by lia),(r.trans (s.trans S)).put hD,ag,?_,_,_,rfl⟩
   rw [aa2,aah,aah]
   refine (bC.ts ((aE.ts (s.trans S)).trans I) _ (oY _ id) (by simpa using o)).snoc (Dn.ts I _ (iO _) ?_)
   show Dn K _ (eX ((m.rows.getD j []).getD (B.getD j 0+0) (0,1))) y
   rw [G,C,ad5,UE,aJ (by lia:b<m.rows[j].length)]
   exact Dn.same S _ dy
  rintro acc U H1 ⟨r,nu,o,V,t,rfl⟩
  rw [OG] at o
  have o:bC K H1 ((gD m B 0).map eX) acc:=o
  have FI:=r.tup u
  have S1:=M.trans r
  refine ⟨_,rfl,R,rfl,.inr ⟨⟨_,FI⟩,λ W iW=>?_⟩⟩
  refine jZ (sq:=bR K) (a:=R) (xs:=B.map ao) (λ j acc U c=>A4 (aE H1 c) (c W=some (.lst acc)) (bC K c (((List.range j).map λ j=>(m.rows.getD j []).getD (B.getD j 0+1) (0,1)).map eX) acc) (E2 λ V t=>U=[V,t,some (.ref a)]))
    ⟨al iW,ag,rfl,none,none,rfl⟩ (λ j acc U c Z e=>e.1.tup FI) ?_ ?_
  .
   rintro j x p i7 U c hx tP ⟨Q2,NB,PP,V,t,rfl⟩
   obtain ⟨b,A,rfl⟩:=dJ hx
   have hj:j<B.length:=(Ba.mp A).1
   have f:j<m.rows.length:=by lia
   have C:B.getD j 0=b:=by rw [UE,A];rfl
   have s:aE c (upd c p (.tup [ao j,ao b])):=al tP
   have l:=S1.trans (Q2.trans s)
   have G:m.rows.getD j []=m.rows[j]:=by rw [UE,aJ f];rfl
   have q:=Y j f
   rw [G,C] at q
   refine ⟨p,_,rfl,bR.of ag,rfl,_,_,rfl,_,_,rfl,rfl,?_⟩
   refine ⟨_,rfl,a,dx,_,rfl,l _ _ ha,rfl,_,rfl,a,O,m,j,_,rfl,L.same l,aJ f,λ g X gF yL=>?_⟩
   have S:aE (upd c p (.tup [ao j,ao b])) (upd (upd c p (.tup [ao j,ao b])) g (.lst X)):=al gF
   obtain ⟨y,ey,dy⟩:=yL.get (i:=b+1) (d:=eX m.rows[j][b+1]) (by rw [aab,aJ (by lia)];rfl)
   have J:=S _ _ (s _ _ NB)
   have I:aQ K (upd (upd c p (.tup [ao j,ao b])) g (.lst X)) (upd (upd (upd c p (.tup [ao j,ao b])) g (.lst X)) W (.lst (i7++[y]))):=bU J rfl
   have D3:i7.length=j:=by rw [PP.length,OG,OG,aaq]
   refine ⟨_,rfl,_,_,rfl,rfl,λ z ez=>?_⟩
   obtain rfl:z=((b+1:Nat):Int):=by rw [ez];push_cast;rfl
   refine ⟨g,_,_,_,rfl,rfl,.inl (bh.of ag),bZ ey,J,aT (by lia),(Q2.trans (s.trans S)).put iW,ag,?_,_,_,rfl⟩
   rw [aa2,aah,aah]
   refine (bC.ts ((aE.ts (s.trans S)).trans I) _ (oY _ id) (by simpa using PP)).snoc (Dn.ts I _ (iO _) ?_)
   show Dn K _ (eX ((m.rows.getD j []).getD (B.getD j 0+1) (0,1))) y
   rw [G,C,UE,aJ (by lia:b+1<m.rows[j].length)]
   exact Dn.same S _ dy
  rintro i7 U H2 ⟨s,J,N,V,t,rfl⟩
  rw [OG] at N
  have N:bC K H2 ((gD m B 1).map eX) i7:=N
  have l:=S1.trans s
  refine ⟨_,rfl,_,rfl,_,rfl,_,rfl,_,rfl,a,O,m,i,D,acc,gD m B 0,_,_,F,rfl,L.same l,hi,bh.of (s _ _ nu),bC.same s _ o,PV,o4 q4 lb Y (by decide),Dn.same ((r.trans s)) _ ad,ZX,hz,λ w1 H3 S WL=>?_⟩
  have S3:=l.trans S
  refine ⟨_,rfl,_,rfl,_,rfl,_,rfl,_,rfl,a,O,m,i,W,i7,gD m B 1,_,_,F,rfl,L.same S3,hi,bh.of (S _ _ J),bC.same S _ N,ae,o4 q4 lb Y (by decide),Dn.same ((r.trans s).trans S) _ ab,ah,hz,λ w2 H4 s4 XT=>⟨Io,λ q hq=>?_⟩⟩
  have s5:aE H4 (upd H4 q (.tup [.ref w1,.ref w2])):=al hq
  exact k q w1 w2 _ ((S3.trans s4).trans s5) ag (s5 _ _ (s4 _ _ WL)) (s5 _ _ XT)
def mU (T:Txt K mg Ad):Def P w K mg base "under" 1 ["one","other"] (EE K):=by
 refine T.CP.cW AC λ Z Z Z Z Z H v Q E n h=>?_
 obtain ⟨p,o,a,b,c,d,rfl,e,f,B,g,i,j,k⟩:=h
 refine ⟨_,(am (aG (dX jw (ax bL (aF az (pv 0) ai) (aF az (pv 1) ai)) (ax bL (aF az (pv 1) ai) (aF az (pv 0) ai)) (aK _)))),?_⟩
 try dsimp only [eQ,aW]
 refine ⟨_,rfl,_,_,_,_,rfl,rfl,.inr e,rfl,_,rfl,_,_,_,_,rfl,rfl,.inr f,rfl,_,_,rfl,rfl,⟨_,_,B,j,by decide⟩,λ x l=>?_⟩
 refine ⟨_,rfl,_,_,_,_,rfl,rfl,.inr f,rfl,_,rfl,_,_,_,_,rfl,rfl,.inr e,rfl,_,_,rfl,rfl,⟨_,_,i,g,by decide⟩,λ X m=>⟨_,_,rfl,rfl,?_⟩⟩
 subst l m
 exact k
def Br (T:Txt K mg Ad):Def P w K mg base "touched" 5 ["hold","room","least","greatest"] (EY K Ad.aX):=by
 refine T.Et.cW uB λ Z Z Z Z Z H vs Q E u h=>?_
 obtain ⟨a,fp,m,i,r,v1,v2,f,F,rfl,hh,N,d1,d2,o1,o2,k⟩:=h
 refine ⟨_,(ac (cT (i:=4) uB.nd (aR (pv 0) T.aD (fq T) .nil u.m (aa (pv 1) af)))
     (am (aG (fT ["band"] ["greatest","least","marks"] [3,2,4] (.cons ⟨rfl,rfl,.inl rfl⟩ (.cons ⟨rfl,rfl,.inl rfl⟩ (.cons ⟨rfl,rfl,.inl rfl⟩ .nil))) rfl (cN rfl T.eM (aa (ax dS (aS bv (by rfl) T.dZ cD (aa (pv 4) af)) ai) af)) (λ Z Z Z Z Z=>(mG (i:=0))) (λ Z Z Z Z Z=>(kz (PW.pt (xC (dG (cz (au (mU T) u.m (aa (pv 1) (aa (aF (hG (K:=K) rfl) (pv 3) (pv 0)) af))))) (sY (dG (cz (au (mU T) u.m (aa (aF (hG (K:=K) rfl) (pv 3) (ax bg (pv 0) ai)) (aa (pv 2) af)))))))))) (λ Z Z Z Z Z=>(pv 0)))))),?_⟩
 try dsimp only [eQ,aW]
 obtain ⟨⟨dx,pm,pf,ps,pt,vm,vs,vt,aC,qg,ha,Z⟩,ab,lst,l4,wf⟩:=id hh
 have O:r∈m.rows:=aag N
 have hl:=wf.len r O
 have yG:=wf.rows r O
 refine ⟨_,rfl,a,dx,_,rfl,ha,rfl,_,rfl,a,fp,m,i,r,rfl,hh,N,λ p X hp yL=>?_⟩
 have S:aE H (upd H p (.lst X)):=al hp
 have B:(upd H p (.lst X)) p=some (.lst X):=ag
 have l:=bC.same S _ yL
 have W:=Dn.same S _ d1
 have Y:=Dn.same S _ d2
 generalize upd H p (.lst X)=H1 at S B l W Y |-
 have lx:X.length=r.length:=by rw [yL.length,OG]
 obtain ⟨p1,rfl,q1⟩:=W.fr
 obtain ⟨p2,rfl,q2⟩:=Y.fr
 refine ⟨_,rfl,_,_,rfl,.inl (bh.of B),λ y ey=>?_⟩
 have hn:2<=r.length/\r.length<=7:=hl
 refine ⟨_,_,rfl,rfl,λ z ez=>⟨_,rfl,by lia,by lia,λ D q=>?_⟩⟩
 obtain ⟨n,en⟩:∃ n:Nat,z=(n:Int)/\n+1=r.length:=⟨r.length - 1,by lia,by lia⟩
 obtain ⟨rfl,en⟩:=en
 refine fY (lo:=0) (n:=n) (λ j A U c=>A4 (aE H1 c) (c D=some (.lst A)) (A=(kn r f F j).map ao) (∃ v,U=[v,some (.ref p2),some (.ref p1),some (.ref p)]))
   ⟨al q,ag,rfl,none,rfl⟩ ?_ ?_
 .
  rintro j A U c hj ⟨s,I,rfl,v,rfl⟩
  have R:j<r.length:=by lia
  have M:j+1<r.length:=by lia
  obtain ⟨x,ex,yU⟩:=(bC.same s _ l).get (i:=j) (d:=eX r[j]) (by rw [aab,aJ R];rfl)
  obtain ⟨x',Th,wu⟩:=(bC.same s _ l).get (i:=j+1) (d:=eX r[j+1]) (by rw [aab,aJ M];rfl)
  obtain ⟨u1,rfl,w1⟩:=yU.fr
  obtain ⟨u2,rfl,w2⟩:=wu.fr
  have yR:=(yG r[j] (aay R)).mono (n:=20000) (by decide)
  have L:=(yG r[j+1] (aay M)).mono (n:=20000) (by decide)
  have G:=s.tup q1
  have J:=s.tup q2
  have g:=s _ _ B
  have o:qY r f F j=((!bV F r[j]) && !bV r[j+1] f):=by
    unfold qY
    rw [UE,UE,aJ R,aJ M];rfl
  have la:=mr r f F j
  refine ⟨_,rfl,_,rfl,_,rfl,_,_,_,_,rfl,rfl,.inl (bh.of g),by rw [aa0];exact bZ ex,p2,u1,_,_,_,_,rfl,J,w1,o2.t,o2.b,yR.t,yR.b,_,rfl,?_⟩
  show if (!bV F r[j])=true then _ else _
  cases C:bV F r[j] with
  | true =>
    refine fc (fc ⟨s,I,?_,_,rfl⟩)
    rw [kh,o,C];simp
  | false =>
    refine ge ⟨_,rfl,_,rfl,_,_,rfl,rfl,λ y1 YC=>⟨_,_,_,_,rfl,rfl,.inl (bh.of g),by rw [YC,aa0];exact bZ (j:=j+1) Th,_,rfl,u2,p1,_,_,_,_,rfl,w2,G,L.t,L.b,o1.t,o1.b,_,rfl,?_⟩⟩
    show if (!bV r[j+1] f)=true then _ else _
    cases V:bV r[j+1] f with
    | true =>
      refine fc ⟨s,I,?_,_,rfl⟩
      rw [kh,o,C,V];simp
    | false =>
      refine ge ⟨_,rfl,I,aT (by rw [OG];lia),s.put q,ag,?_,_,rfl⟩
      rw [kh,o,C,V,aah,aa0];rfl
 .
  rintro A U c ⟨s,I,rfl,v,rfl⟩
  have e:n=r.length - 1:=by lia
  rw [e] at I
  exact k D c (S.free q) (S.trans s) I
def EB (T:Txt K mg Ad):Def P w K mg base "within" 5 ["hold","room","least","greatest"] (BY K Ad.aX):=by
 refine T.GB.cW wl λ Z Z Z Z Z H vs Q E l h=>?_
 obtain ⟨a,U,m,i,r,v1,v2,f,F,rfl,v,N,G,J,O,y,k⟩:=h
 refine ⟨_,(ac (cT (i:=4) wl.nd (aR (pv 0) T.aD (fq T) .nil l.m (aa (pv 1) af)))
     (am (aG (rm (rF (au (mU T) l.m (aa (pv 2) (aa (aF az (pv 4) ai) af)))) (oC (rF (au (mU T) l.m (aa (aF az (pv 4) (pF qH ai)) (aa (pv 3) af))))))))),?_⟩
 try dsimp only [eQ,aW]
 obtain ⟨⟨L,pm,pf,ps,pt,vm,vs,vt,aC,qg,V,Z⟩,ab,lst,l4,W⟩:=id v
 have R:r∈m.rows:=aag N
 have hl:=W.len r R
 have Y:=W.rows r R
 refine ⟨_,rfl,a,L,_,rfl,V,rfl,_,rfl,a,U,m,i,r,rfl,v,N,λ p X hp z=>?_⟩
 have S:aE H (upd H p (.lst X)):=al hp
 have o:(upd H p (.lst X)) p=some (.lst X):=ag
 have D:=bC.same S _ z
 have s:=Dn.same S _ G
 have u:=Dn.same S _ J
 generalize upd H p (.lst X)=q at S o D s u |-
 have lx:X.length=r.length:=by rw [z.length,OG]
 obtain ⟨p1,rfl,q1⟩:=s.fr
 obtain ⟨p2,rfl,q2⟩:=u.fr
 have e:0<r.length:=by lia
 have g:r.length - 1<r.length:=by lia
 obtain ⟨x,ex,yU⟩:=D.get (i:=0) (d:=eX r[0]) (by rw [aab,aJ e];rfl)
 obtain ⟨x',B,wu⟩:=D.get (i:=r.length - 1) (d:=eX r[r.length - 1]) (by rw [aab,aJ g];rfl)
 obtain ⟨u1,rfl,w1⟩:=yU.fr
 obtain ⟨u2,rfl,w2⟩:=wu.fr
 have A:=(Y r[0] (aay e)).mono (n:=20000) (by decide)
 have I:=(Y r[r.length - 1] (aay g)).mono (n:=20000) (by decide)
 have M:mS r f F=((!bV f r[0]) && !bV r[r.length - 1] F):=by
   unfold mS
   rw [UE,UE,aJ e,aJ g];rfl
 have c:=k q S
 rw [M] at c
 refine ⟨_,rfl,_,rfl,_,_,_,_,rfl,rfl,.inl (bh.of o),bZ (j:=0) ex,p1,u1,_,_,_,_,rfl,q1,w1,O.t,O.b,A.t,A.b,_,rfl,_,rfl,?_⟩
 show if (!bV f r[0])=true then _ else _
 cases C:bV f r[0] with
 | true =>
   rw [C] at c
   exact fc c
 | false =>
   rw [C] at c
   refine ge ⟨_,rfl,_,rfl,_,_,_,_,rfl,rfl,.inl (bh.of o),KU (by lia) (by rw [lx];exact B),_,rfl,u2,p2,_,_,_,_,rfl,w2,q2,I.t,I.b,y.t,y.b,_,rfl,?_⟩
   show Q (.bl (!bV r[r.length - 1] F)) q
   exact c
def um (T:Txt K mg Ad):Def P w K mg base "each_choice" 1 ["rows"] (BP K):=by
 refine T.vI.cW d7 λ Z Z Z Z Z H vs Q E hr h=>?_
 obtain ⟨p,xs,rows,rfl,hp,m,l4,l6,k⟩:=h
 refine ⟨_,(ac (cT (i:=1) d7.nd (dA (aa (cg af) af)))
     (ac (dB aaF rfl (bY (pv 0)) (iJ (i:=2) d7.nd) (ac (cT (i:=3) d7.nd (dA af))
     (ac (dB aaF rfl (bY (pv 1)) (iJ (i:=4) d7.nd) (am (bp (iG aaI adM adL wI (pv 3) (aa (fT ["band"] ["choice"] [4] (.cons ⟨rfl,rfl,.inl rfl⟩ .nil) rfl (bY (pv 2)) (λ Z Z Z Z Z=>(mG (i:=0))) (λ Z Z Z Z Z=>cJ) (λ Z Z Z Z Z=>(ax (zR (K:=K) rfl) (pv 1) (cg (aa (pv 0) af))))) af)))))
     (am (cT (i:=1) d7.nd (pv 3))))))
     (am (aG (pv 1))))),?_⟩
 try dsimp only [eQ,aW]
 try (refine cV ?_;intro Z Z Z Z)
 refine ⟨HD,λ t0 ae=>⟨IP,λ pc ab=>?_⟩⟩
 have s0:=al (o:=.tup []) ae
 have s1:=al (o:=.lst [.ref t0]) ab
 refine ⟨_,rfl,p,rfl,⟨_,(s0.trans s1).seq hp⟩,?_⟩
 have lx:=m.length
 refine jO (K:=K) (a:=p) (xs:=xs) (λ i U d=>aE H d/\E2 λ q Y=>A3 (d q=some (.lst Y)) (Jz K d Y (bE (rows.take i))) (E3 λ (v2 v3 V:eE)=>U=[some (.ref p),some (.ref q),v2,v3,V]))
   ⟨s0.trans s1,pc,[.ref t0],ag,Refs.snoc .nil (bR.of (s1 _ _ ag)),none,none,none,rfl⟩ (λ i U d Z ⟨W,_⟩=>W.seq hp) ?_ ?_
 .
  rintro i x U H1 hx ⟨G,q,Y,I,l,v2,v3,V,rfl⟩
  obtain ⟨O,r,rfl,er,ad⟩:=m.get hx
  have hi:i<rows.length:=(Ba.mp er).1
  have r6:=l6 r (aag er)
  have lc:=jq l6 i
  have p6:6 ^ i<=216:=by
    have:=aa7 (n:=6) (by decide) (show i<=3 by lia)
    lia
  have Zn:bE (rows.take (i+1))=(bE (rows.take i)).flatMap λ c=>r.map λ b=>c++[b]:=by
    rw [bM er,iN]
  have L:∀ c∈bE (rows.take i),c.length<=4:=λ c h=>by
    have:=(jt.mp h).1
    rw [aaD] at this
    lia
  generalize bE (rows.take i)=cs at l lc Zn L
  rw [Zn]
  clear Zn
  refine ⟨HD,λ u gW=>?_⟩
  have W:=al (o:=.lst []) gW
  refine ⟨_,rfl,q,rfl,⟨_,bh.of (W _ _ I)⟩,?_⟩
  refine jO (K:=K) (a:=q) (xs:=Y) (λ j U d=>aE H1 d/\∃ e,A3 (d u=some (.lst e)) (Jz K d e ((cs.take j).flatMap λ c=>r.map λ b=>c++[b])) (∃ (V:eE),U=[some (.ref p),some (.ref q),some (.ref O),some (.ref u),V]))
    ⟨W,[],ag,.nil,V,rfl⟩ (λ j U d Z ⟨s,_⟩=>bh.of (s _ _ I)) ?_ ?_
  .
   rintro j y U F hy ⟨S,e,J,R,V,rfl⟩
   obtain ⟨tc,c,rfl,ec,V1⟩:=l.get hy
   have hj:j<cs.length:=(Ba.mp ec).1
   have LS:bh K F O (r.map ao):=(G.trans S).seq ad
   have O2:bR K F tc (c.map ao):=S.tup V1
   have lz:e.length<=216 * 6:=by
     rw [R.length]
     refine aaz (fE (k:=6) λ a=>by rw [OG];exact r6) ?_
     rw [aaD]
     lia
   rw [bM ec,aed,ad0]
   refine ⟨_,rfl,.inl ⟨rfl,_,bh.of J⟩,_,rfl,O,rfl,⟨_,LS⟩,λ D hD=>?_⟩
   refine cE (K:=K) (a:=O) (xs:=r.map ao) (λ b A f g=>A4 (aE F g) (g D=some (.lst A)) (Jz K g A ((r.take b).map λ x=>c++[x])) (∃ v,f=[v,some (.ref tc)]))
     ⟨al hD,ag,.nil,none,rfl⟩ (λ b A f g Z ⟨s,_,_,_⟩=>s.seq LS) ?_ ?_
   .
    rintro b z A f g hb ⟨s,M,N,v,rfl⟩
    obtain ⟨bn,eb,rfl⟩:=dJ hb
    have ah:b<r.length:=(Ba.mp eb).1
    have la:A.length<=6:=by rw [N.length,OG,aaD];lia
    refine ⟨_,rfl,_,rfl,IP,λ tb Zl=>?_⟩
    have B:=al (o:=.tup [ao bn]) Zl
    refine ⟨tc,tb,_,_,rfl,rfl,(s.trans B).tup O2,bR.of ag,?_,λ t5 H5 X h5=>?_⟩
    . have:=L c (aag ec)
      exact abq (aT (by rw [OG,aaw];lia))
    . refine ⟨X _ _ (B _ _ M),aav la (by decide),((s.trans B).trans X).put hD,ag,?_,_,rfl⟩
      rw [bM eb,aah]
      have C:aQ K H5 (upd H5 D (.lst (A++[.ref t5]))):=bU (X _ _ (B _ _ M)) rfl
      refine Refs.snoc (N.imp λ p a h=>C _ _ ((B.trans X).tup h)) (C _ _ ?_)
      rw [aah]
      exact h5
   .
    rintro A f g ⟨s,M,N,v,rfl⟩
    rw [OG,aaC] at N
    have la:A.length<=6:=by rw [N.length,OG];exact r6
    have t:=s _ _ J
    refine ⟨u,D,e,A,rfl,rfl,t,M,abq (aav (show e.length+A.length<=1302 by lia) (by decide)),?_⟩
    have C:aQ K g (upd g u (.lst (e++A))):=bU t rfl
    exact ⟨(S.trans s).put gW,_,ag,Refs.append (R.imp λ p a h=>C _ _ (s.tup h)) (N.imp λ p a h=>C _ _ h),_,rfl⟩
  . rintro U F ⟨S,e,J,R,V,rfl⟩
    rw [l.length,aaC] at R
    exact ⟨_,rfl,G.trans S,u,e,J,R,_,_,_,rfl⟩
 . rintro U H1 ⟨G,q,Y,I,l,v2,v3,V,rfl⟩
   rw [abc (by lia)] at l
   exact ⟨_,rfl,k q Y H1 G I l⟩
def n6 (T:Txt K mg Ad):gM P w K mg base Ad.Reach "__init__" 1 ["self","hold"] [] (Fe P w K Ad.aX Ad.Reach):=by
 refine T.qU.fS pH λ Z Z Z Z Z H V Q E A h=>?_
 obtain ⟨x,D,a,F,m,rfl,t,q,nx,k⟩:=h
 refine ⟨_,(ac (di (pv 0) (pv 1) rfl)
     (am (di (pv 0) (CN (P:=P) (w:=w) rfl rfl) rfl))),?_⟩
 try dsimp only [eQ,aW]
 have l:jy K Ad.Reach x D H H []:=.start t
 refine ⟨_,rfl,_,rfl,x,_,D,_,rfl,l.at_,T.dR,T.dW,lt1000 rfl,?_⟩
 have g:=l.put (fs':=aL "hold" (.ref a) [])
 intro d j
 have p:=g.new (o:=kW P w d []) j
 refine ⟨_,rfl,x,_,D,_,rfl,p.at_,T.dR,T.dY,lt1000 rfl,?_⟩
 have B:=p.put (fs':=aL "spreads" (.ref d) (aL "hold" (.ref a) []))
 have N:d≠x:=g.ne j
 have b:H d=none:=g.none j
 refine k d _ (λ c u s n=>B.st c u s λ z=>n (aae.mpr z)) B.ts b ⟨⟨D,B.at_⟩,q.Ex B.st B.ts nx,λ z=>?_,[],ix.nil (by rw [ar N];exact ag),aaj _,λ i y f v e=>by cases e⟩
 obtain ⟨o,r⟩:=q.some d z
 rw [b] at r
 cases r
def qh (T:Txt K mg Ad):gM P w K mg base Ad.Reach "spread" 8 ["self","room","bands","fired"] [] (Ew P w K Ad.aX Ad.Reach):=by
 refine T.uw.fS eO λ Z Z Z Z Z H vs Q E p h=>?_
 obtain ⟨x,d,a,G,m,c,i,C,B,b,L,rfl,NL,hL,hc,hi,E7,lb,hb,hf,UJ,TW,k⟩:=h
 refine ⟨_,(ac (cT (i:=4) eO.nd (cg (aa (pv 1) (aa (pv 2) (aa (pv 3) af)))))
     (ac (eW (br (aH (vV (P:=P) (w:=w) (K:=K) rfl rfl rfl p.Lm) (pv 4) (aM (pv 0) rfl) (by with_unfolding_all rfl)) (ac (iy (au (AV T) p.m (aa (aM (pv 0) rfl) (aa (pv 1) (aa (pv 2) (aa (pv 3) af))))) (dC (K:=K) (n:=2) rfl rfl (aO (iJ (i:=5) eO.nd) (aO (iJ (i:=6) eO.nd) dD))))
     (ac (cT (i:=7) eO.nd (au (EB T) p.m (aa (aM (pv 0) rfl) (aa (pv 1) (aa (pv 5) (aa (pv 6) af))))))
     (am (CH (P:=P) (w:=w) (K:=K) rfl rfl rfl p.Lm (aM (pv 0) rfl) (pv 4) (jf (cz (pv 7)) (au (Br T) p.m (aa (aM (pv 0) rfl) (aa (pv 1) (aa (pv 5) (aa (pv 6) af))))) cG) rfl)))) aI))
     (am (aG (tj (P:=P) (w:=w) (K:=K) rfl rfl rfl p.Lm (aM (pv 0) rfl) (pv 4) (λ Z Z=>rfl)))))),?_⟩
 try dsimp only [eQ,aW]
 try (refine cV ?_;intro Z Z Z Z)
 refine ⟨_,rfl,_,rfl,_,rfl,Uj,λ tk TU=>?_⟩
 have g:=al (o:=.tup [ao i,.ref C,.bl b]) TU
 have r:=NL.same g
 have u:gH K (upd H tk (.tup [ao i,.ref C,.bl b])) (kR i B b) tk:=AT (bR.of ag) (g.tup E7)
 generalize upd H tk (.tup [ao i,.ref C,.bl b])=H1 at g r u |-
 obtain ⟨⟨D,t⟩,O,nd,A,l,I,R⟩:=id r
 refine ⟨λ F j=>(E2 λ A v=>A7 (gw [d] H1 j) (aQ K H1 j) (eJ P w K Ad.aX Ad.Reach L j x d a G m (c+1)) (ix P w K j d A) (gH K j (kR i B b) tk) (iq A (kR i B b)=some v) (fD L j v (eI m i B b)))/\E3 λ (v5 v6 v7:eE)=>F=[some (.ref x),some (ao i),some (.ref C),some (.bl b),some (.ref tk),v5,v6,v7],?_,?_⟩
 .
  refine ⟨_,rfl,_,rfl,x,_,D,_,_,rfl,t,T.dR,T.dY,rfl,d,tk,A,_,rfl,rfl,l,u,_,rfl,?_⟩
  cases e:iq A (kR i B b) with
  | some v=>exact fc ⟨⟨A,v,λ Z Z h Z=>h,aQ.refl _,r.more (ace _),l,u,e,R i B b v e⟩,none,none,none,rfl⟩
  | none =>
    refine ge ?_
    refine ⟨_,rfl,x,_,D,_,_,rfl,t,T.dR,T.dW,rfl,_,rfl,_,rfl,_,rfl,a,G,m,i,C,B,b,rfl,O,hi,.inr (g.tup E7),lb,hb,hf,λ q q1 q2 H2 Y e0 e1 e2=>?_⟩
    refine ⟨q,_,rfl,bR.of e0,rfl,_,_,rfl,_,_,rfl,rfl,?_⟩
    have N:=Y _ _ t
    have xH:=aJ hi
    have MB:m.rows.getD i []=m.rows[i]:=by rw [UE,xH];rfl
    refine ⟨_,rfl,x,_,D,_,_,rfl,N,T.dR,T.dW,rfl,_,rfl,_,rfl,_,rfl,a,G,m,i,m.rows[i],.ref q1,.ref q2,_,_,rfl,O.same Y,xH,nG (bR.of e1),nG (bR.of e2),UJ,TW,λ H3 s3=>?_⟩
    have S:=Y.trans s3
    have P7:=S _ _ t
    have J:eI m i B b=if mS m.rows[i] (lF m i B b) (lu m i B b)=true then some (rh m.rows[i] (lF m i B b) (lu m i B b)) else none:=by unfold eI;rw [MB]
    cases ew:mS m.rows[i] (lF m i B b) (lu m i B b) with
    | true =>
      rw [ew,aaE rfl] at J
      refine ⟨_,rfl,_,rfl,ge ⟨_,rfl,x,_,D,_,_,rfl,P7,T.dR,T.dW,rfl,_,rfl,_,rfl,_,rfl,a,G,m,i,m.rows[i],.ref q1,.ref q2,_,_,rfl,O.same S,xH,nG (bR.of (s3 _ _ e1)),nG (bR.of (s3 _ _ e2)),UJ,TW,λ M H4 nt s4 ht=>?_⟩⟩
      have s:=S.trans s4
      have V:fD L H4 (.ref M) (eI m i B b):=by rw [J];exact ⟨M,rfl,λ z=>hL M z ((g.trans S).free nt),ht⟩
      obtain ⟨U,W,y,X⟩:=(r.same s).put (l.same s) I (λ i B f v e=>(R i B f v e).same s) (u.ts s.ts) V
      exact ⟨_,rfl,x,_,D,_,_,rfl,s _ _ t,T.dR,T.dY,rfl,_,rfl,d,tk,A,_,rfl,rfl,l.same s,u.ts s.ts,aav (aaz I hc) (by decide),⟨_,.ref M,λ c o e n=>W c o (s c o e) n,s.ts.trans y,U,(l.same s).put (u.ts s.ts),(u.ts s.ts).ts y,by rw [lG,aaE rfl],X⟩,_,_,_,rfl⟩
    | false =>
      rw [ew,aaA aaB] at J
      have V:fD L H3 .cB (eI m i B b):=by rw [J];rfl
      obtain ⟨U,W,y,X⟩:=(r.same S).put (l.same S) I (λ i B f v e=>(R i B f v e).same S) (u.ts S.ts) V
      exact ⟨_,rfl,_,rfl,fc ⟨_,rfl,x,_,D,_,_,rfl,P7,T.dR,T.dY,rfl,_,rfl,d,tk,A,_,rfl,rfl,l.same S,u.ts S.ts,aav (aaz I hc) (by decide),⟨_,.cB,λ c o e n=>W c o (S c o e) n,S.ts.trans y,U,(l.same S).put (u.ts S.ts),(u.ts S.ts).ts y,by rw [lG,aaE rfl],X⟩,_,_,_,rfl⟩⟩
 .
  rintro F H2 ⟨⟨Bb,v,b2,t2,Tb,Qw,Pw,ev,Fv⟩,v5,v6,v7,rfl⟩
  obtain ⟨wu,N⟩:=Tb.ins
  refine ⟨_,rfl,x,_,wu,_,_,rfl,N,T.dR,T.dY,rfl,_,rfl,d,tk,Bb,_,v,rfl,rfl,Qw,Pw,ev,?_⟩
  exact k v H2 (λ c o e n=>b2 c o (g c o e) n) (g.ts.trans t2) Tb Fv
def jT (T:Txt K mg Ad):gM P w K mg base Ad.Reach "states_behind" 9 ["self","state","order"] [] (EC P w K Ad.aX Ad.Reach):=by
 refine T.kU.fS bX λ Z Z Z Z Z H vs Q E J h=>?_
 obtain ⟨x,d,a,F,m,c,p,st,o,L,rfl,NL,hL,hc,hs,so,ow,tn,A0,k1,k2⟩:=h
 refine ⟨_,(ac (cT (i:=3) bX.nd (dA af))
     (ac (dB aaF rfl (bY (au (u0 T) J.m (aa (au (BA T) J.m (aa (aM (pv 0) rfl) (aa (pv 1) (aa (pv 2) af)))) af))) (iJ (i:=4) bX.nd) (ac (cT (i:=5) bX.nd (ax mH (pv 2) (pF Cy (pv 4))))
     (ac (uR (yi:=6) ["room"] ["self","state","burning"] [0,1,5] (.cons ⟨rfl,rfl,.inl rfl⟩ (.cons ⟨rfl,rfl,.inl rfl⟩ (.cons ⟨rfl,rfl,.inl rfl⟩ .nil))) rfl (cN rfl T.eM (aa (fG (aM (pv 0) rfl) T.aD (cK T) .nil J.m) af)) (λ Z Z Z Z Z=>(mG (i:=0))) (λ Z Z Z Z Z=>cJ) (λ Z Z Z Z Z=>(aR (pv 1) T.dR (qh (P:=P) (w:=w) T) .nil J.m (aa (pv 0) (aa (aF (hG (K:=K) rfl) (pv 2) ai) (aa (au (fh T) J.m (aa (pv 3) (aa (pv 0) af))) af))))) bX.nd (lc rfl))
     (ac (br (aH (Mp (CC J)) cG (pv 6) (by with_unfolding_all rfl)) (am (aG cG)) aI)
     (ac (cT (i:=7) bX.nd (au (rA T) J.m (aa (aM (pv 0) rfl) (aa (pv 1) (aa (pv 2) (aa (pv 4) af))))))
     (am (bp (iG aaI adM adL wI (pv 3) (aa (fT ["bands"] ["stoves"] [7] (.cons ⟨rfl,rfl,.inl rfl⟩ .nil) rfl (bY (au (um T) J.m (aa (pv 6) af))) (λ Z Z Z Z Z=>(mG (i:=0))) (λ Z Z Z Z Z=>cJ) (λ Z Z Z Z Z=>(ax (zR (K:=K) rfl) (cg (aa (pv 0) af)) (pv 1)))) af)))))))))
     (am (aG (pv 3))))),?_⟩
 try dsimp only [eQ,aW]
 try (refine cV ?_;intro Z Z Z Z)
 obtain ⟨Z,Z,Z,q3,q4⟩:=id NL.hold
 refine ⟨HD,λ f R=>?_⟩
 have s1:=al (o:=.lst []) R
 have e1:(upd H f (.lst [])) f=some (.lst []):=ag
 generalize upd H f (.lst [])=H1 at s1 e1 |-
 obtain ⟨dx,hx⟩:=NL.ins
 refine ⟨_,rfl,x,_,dx,_,_,rfl,s1 _ _ hx,T.dR,T.dW,rfl,_,rfl,_,rfl,a,F,m,p,st,o,rfl,NL.hold.same s1,hs.same s1,so,ow,λ H2 s2=>?_⟩
 have S2:=s1.trans s2
 have aj:st.may m o<16:=xK q3
 have ol:=oX aj
 refine ⟨st.may m o,rfl,by lia,ol.1,λ pl H3 gW s3 W=>⟨pl,rfl,⟨_,bh.of W⟩,?_⟩⟩
 have S:=S2.trans s3
 have e3:H3 f=some (.lst []):=s3 _ _ (s2 _ _ e1)
 have aC:pl≠f:=(aw (s2 _ _ e1) gW).symm
 have Wd:f∉F:=λ z=>by
   obtain ⟨u,hu⟩:=NL.hold.some f z
   rw [R] at hu;cases hu
 have Rk:eJ P w K Ad.aX Ad.Reach (f::L) H3 x d a F m c:=(NL.new R).same S
 obtain ⟨a3,O3,Z⟩:=Rk.N3
 have UG:pl≠d:=λ z=>by rw [z,O3.ob] at W;cases W
 have ab:f≠d:=λ z=>by rw [z,O3.ob] at e3;cases e3
 have Gs:=hs.same S
 have lo:(d5 m st o).length<=16:=ol.2
 have W:H3 pl=some (.lst ((d5 m st o).map ao)):=W
 unfold sR at k2
 generalize d5 m st o=O at W lo tn k1 k2
 refine gJ (K:=K) (a:=pl) (xs:=O.map ao) (λ i U H'=>A6 (gw [d,f] H3 H') (aQ K H3 H') (eJ P w K Ad.aX Ad.Reach (f::L) H' x d a F m (c+4 * i)) (∃ X,H' f=some (.lst X)/\nl K H' X ((O.take i).flatMap (iM m st o))) (∀ out∈O.take i,jN m st (Ord.off o out)=true) (E4 λ (v4 v5 v6 v7:eE)=>U=[some (.ref x),some (.ref p),some (ao o),some (.ref f),v4,v5,v6,v7]))
   ⟨λ Z Z h Z=>h,aQ.refl _,Rk,⟨[],e3,Refs.nil⟩,λ Z h=>absurd h (by simp),none,none,none,none,rfl⟩ (λ i U H' Z ⟨b,_,_,_,_,_⟩=>bh.of (b _ _ W (by simp [UG,aC]))) ?_ ?_
 .
  rintro Z i v U H4 hv ⟨b4,t4,C,⟨X,JQ,yO⟩,DB,v4,v5,v6,v7,rfl⟩
  obtain ⟨out,eo,rfl⟩:=dJ hv
  have hi:i<O.length:=(Ba.mp eo).1
  have So:=tn out (aag eo)
  have G:∀ i,(Ord.off o out).testBit i=true->m.has i=true:=λ i h=>(So.Nu (So.OL h).1).2
  refine ⟨_,rfl,_,rfl,_,rfl,_,_,rfl,rfl,λ y ey=>?_⟩
  obtain rfl:y=((Ord.off o out:Nat):Int):=by rw [ey];exact ox _ _
  obtain ⟨Zi,U6⟩:=C.ins
  obtain ⟨⟨ae,Z,Z,Z,Z,Z,Z,Z,Z,Z,YK,Z⟩,Z⟩:=id C.hold
  refine ⟨_,rfl,x,_,Zi,_,_,rfl,U6,T.dR,T.dW,rfl,a,ae,_,rfl,YK,rfl,a,F,m,rfl,C.hold,_,rfl,by lia,by lia,λ D V=>?_⟩
  have QV:gc K H4 p st:=Gs.ts t4
  obtain ⟨pb,pw,pf,h0,Oi,a2,a1⟩:=id QV
  obtain ⟨a4,Zf,Z⟩:=C.N3
  have nD:D≠d:=(aw Zf.ob V).symm
  have an:D∉F:=λ z=>by
    obtain ⟨u,hu⟩:=C.hold.some D z
    rw [V] at hu;cases hu
  refine fY (lo:=0) (n:=m.rows.length) (λ j A g H5=>A6 (gw [d] H4 H5) (aQ K H4 H5) (eJ P w K Ad.aX Ad.Reach (D::f::L) H5 x d a F m (c+4 * i+j)) (H5 D=some (.lst A)) (Paired (fD (D::f::L) H5) A ((List.range j).map (vR m st (Ord.off o out)))) (∃ v,g=[v,some (.ref x),some (.ref p),some (ao (Ord.off o out))]))
    ⟨λ b u h Z=>al V b u h,(al V).ts,(C.new V).same (al V),ag,.nil,none,rfl⟩ ?_ ?_
  .
   rintro j A g H5 hj ⟨N,M,l,QR,Y,v,rfl⟩
   obtain ⟨Qb,Qq⟩:=l.ins
   obtain ⟨a5,Rj,Z⟩:=l.N3
   have la:A.length=j:=by rw [abT Y,OG,aaq]
   have JB:=N _ _ JQ (by simp [ab])
   obtain ⟨UJ,TW⟩:=A0 j ((Ord.off o out).testBit j) hj (G j)
   refine ⟨_,rfl,x,Qb,_,rfl,Qq,rfl,_,rfl,_,rfl,p,_,_,_,rfl,rfl,.inr (M _ _ h0),rfl,_,rfl,_,rfl,Ord.off o out,j,by rw [aa0];rfl,?_⟩
   refine ⟨x,d,a,F,m,c+4 * i+j,j,pb,st.bN,(Ord.off o out).testBit j,D::f::L,by rw [aa0];rfl,l,?_,by lia,hj,M _ _ Oi,so.lb,λ j hj=>by have:=so.band j hj;unfold gN at this;rw [UE];exact this,λ z=>?_,UJ,TW,λ v6 H6 b6 t6 ad ZM=>?_⟩
   .
    intro b hb
    rcases aad.mp hb with rfl|hb
    . rw [QR];exact nofun
    rcases aad.mp hb with rfl|hb
    . rw [JB];exact nofun
    . by_cases z:b=d
      . rw [z,Rj.ob];exact nofun
      . cases e:H b with
        | none=>exact absurd e (hL b hb)
        | some u=>rw [N b u (b4 b u (S b u e) (by simp only [aad,aaf,aaX,abF];exact ⟨z,aw e R⟩)) (by simp [z])];exact nofun
   . obtain ⟨z',ez⟩:=ve (G j z)
     exact ⟨z',by rw [mK (by lia),ez]⟩
   .
    have JL:=b6 _ _ QR (by simp [nD])
    obtain ⟨a6,ZK,Z⟩:=ad.N3
    have ks:∀ {v r},fD (D::f::L) H6 v r->fD (D::f::L) (upd H6 D (.lst (A++[v6]))) v r:=λ h=>h.but ZK.ob oy (λ c u e Z n=>by rw [ar (λ z=>n (by simp [z]))];exact e) λ Z h=>h
    refine ⟨JL,aT (by lia),λ b u h n=>by rw [ar (aw h V)];exact b6 b u (N b u h n) n,M.trans (t6.trans (bU JL rfl)),ad.write JL (by simp) an,ag,?_,_,rfl⟩
    rw [aa2,aah]
    exact acK (Paired.yc Y λ a r h=>ks (h.but Rj.ob oy (λ c u e n Z=>b6 c u e (by simp [n])) λ Z h=>h)) (ks ZM)
  .
   rintro A g H5 ⟨N,M,l,QR,Y,v,rfl⟩
   have Bh:∀ v∈A,v = .cB\/∃ a ys,v = .ref a/\bh K H5 a ys:=λ v hv=>(C0 Y v hv).imp id λ ⟨q,ys,e,h⟩=>⟨q,ys,e,bh.of h⟩
   have JB:=N _ _ JQ (by simp [ab])
   obtain ⟨Qb,Qq⟩:=l.ins
   have B5:gw [d] H H5:=λ b u h n=>N b u (b4 b u (S b u h) (by
     simp only [aad,aaf,aaX,abF] at n |-
     exact ⟨n,aw h R⟩)) n
   have T5:aQ K H H5:=S.ts.trans (t4.trans M)
   refine ⟨_,rfl,D,A,rfl,rfl,bh.of QR,Bh,_,rfl,fP (λ hn=>?_) (λ hn=>?_)⟩
   . exact k1 ⟨out,aag eo,wD.mp ((uf Y).mp hn)⟩ H5 B5 T5 ((l.less λ b h=>aai _ (aai _ h)).more (by lia))
   have nn:none∉(List.range m.rows.length).map (vR m st (Ord.off o out)):=λ z=>hn ((uf Y).mpr z)
   have xH:=yW Y nn
   rw [JE] at xH
   have sf:jN m st (Ord.off o out)=true:=by
     cases e:jN m st (Ord.off o out) with
     | true=>rfl
     | false=>exact absurd (wD.mpr e) nn
   refine ⟨_,rfl,x,_,Qb,_,_,rfl,Qq,T.dR,T.dW,rfl,_,rfl,_,rfl,_,rfl,a,F,m,p,st,o,out,rfl,l.hold,QV.ts M,so,λ i h=>So.has h,So.Lr,So.LN,λ qt a0 ya H6 s6 g1 g2 g3=>?_⟩
   have lr:(gC m st (Ord.off o out)).length=m.rows.length:=by unfold gC;rw [OG,aaq]
   refine ⟨_,rfl,.inl ⟨rfl,_,bh.of (s6 _ _ JB)⟩,_,rfl,D,A,gC m st (Ord.off o out),rfl,bh.of (s6 _ _ QR),xH.imp λ q r h=>bh.of (s6 _ _ h),by lia,zX q4,λ qc ys H7 s7 ZY xQ=>⟨qc,rfl,⟨_,bh.of ZY⟩,λ D2 iW=>?_⟩⟩
   have bl:=jY q4 q3 (s:=st) (o:=o) out
   unfold iM at bl
   rw [OG] at bl
   have eb:iM m st o out=(bE (gC m st (Ord.off o out))).map λ c=>st.behind m c o out:=rfl
   have l4:∀ c∈bE (gC m st (Ord.off o out)),c.length<=4:=λ c h=>by have:=(jt.mp h).1;lia
   generalize bE (gC m st (Ord.off o out))=cs at xQ bl eb l4
   refine cE (K:=K) (a:=qc) (xs:=ys) (λ j I g B=>A4 (aE H7 B) (B D2=some (.lst I)) (nl K B I ((cs.take j).map λ c=>st.behind m c o out)) (∃ v,g=[v,some (.ref qt)]))
     ⟨al iW,ag,Refs.nil,none,rfl⟩ (λ j I g B Z ⟨s8,_,_,_⟩=>bh.of (s8 _ _ ZY)) ?_ ?_
   .
    rintro j z I g B hz ⟨s8,La,uj,v,rfl⟩
    obtain ⟨tc,cc,rfl,ec,V1⟩:=xQ.get hz
    have hj:j<cs.length:=(Ba.mp ec).1
    have la:I.length<=1296:=by rw [uj.length,OG,aaD];lia
    have ND:=s7.trans s8
    refine ⟨_,rfl,IP,λ tb Zl=>?_⟩
    have s9:=al (o:=.tup [.ref tc]) Zl
    refine ⟨_,rfl,tb,qt,_,_,rfl,rfl,bR.of ag,bR.of (s9 _ _ (ND _ _ g1)),(by show 1+4<=sizeLine;decide),λ tq IM BH ah=>?_⟩
    have Pl:=BH _ _ (s9 _ _ La)
    have t:aQ K IM (upd IM D2 (.lst (I++[.ref tq]))):=bU Pl rfl
    have Ho:=s9.trans BH
    refine ⟨Pl,aav la (by decide),(s8.trans Ho).put iW,ag,?_,_,rfl⟩
    rw [bM ec,aah]
    refine Refs.snoc (uj.imp λ p a h=>(h.same Ho).ts t) ?_
    exact ⟨tc,a0,ya,t _ _ ah,t _ _ ((s8.trans Ho).tup V1),t _ _ ((ND.trans Ho).tup (bR.of g2)),t _ _ ((ND.trans Ho).tup (bR.of g3))⟩
   .
    rintro I g B ⟨s8,La,uj,v,rfl⟩
    rw [xQ.length,aaC] at uj
    rw [<- eb] at uj
    have S8:=(s6.trans s7).trans s8
    have Mx:=S8 _ _ JB
    have lx:X.length<=16 * 1296:=by
      rw [yO.length]
      refine aaz (fE (k:=1296) (jY q4 q3)) ?_
      rw [aaD]
      lia
    have la:I.length<=1296:=by rw [uj.length];exact jY q4 q3 out
    refine ⟨f,D2,X,I,rfl,rfl,Mx,La,abq (aav (show X.length+I.length<=22032 by lia) (by decide)),?_⟩
    have t:aQ K B (upd B f (.lst (X++I))):=bU Mx rfl
    refine ⟨λ b u h n=>?_,t4.trans (M.trans (S8.ts.trans t)),(((l.less λ b h=>aai _ h).same S8).write Mx (by simp) Wd).more (by lia),⟨_,ag,?_⟩,λ XF h'=>?_,_,_,_,_,rfl⟩
    . have n':=n
      simp only [aad,aaf,aaX,abF] at n'
      rw [ar n'.2]
      exact S8 _ _ (N _ _ (b4 b u h n) (by simp [n'.1]))
    . rw [bM eo,aed,ad0]
      exact Refs.append (yO.imp λ p a h=>(((h.ts M).same S8).ts t)) (uj.imp λ p a h=>h.ts t)
    . rw [bM eo] at h'
      rcases aar.mp h' with z|z
      . exact DB XF z
      . rw [aae.mp z];exact sf
 .
  rintro U H4 ⟨b4,t4,C,⟨X,JQ,yO⟩,DB,v4,v5,v6,v7,rfl⟩
  rw [OG,aaC] at yO DB
  refine ⟨_,rfl,k2 DB f X H4 R (λ b u h n=>b4 b u (S b u h) ?_) (S.ts.trans t4) ((C.less λ b h=>aai _ h).more (by rw [OG];lia)) JQ yO⟩
  simp only [aad,aaf,aaX,abF] at n |-
  exact ⟨n,aw h R⟩
def nN (T:Txt K mg Ad):gM P w K mg base Ad.cS "meet" 1 ["self","state"] [] (Kv P w K Ad.cS):=by
 refine T.AK.fS yg λ Z Z Z Z Z H vs Q E C h=>?_
 obtain ⟨x,p,c,R,S,a,l,g,m,st,L,rfl,B,ok,F,l2,D,so,k⟩:=h
 refine ⟨_,(ac (eW (br (aH (vV (P:=P) (w:=w) (K:=K) rfl rfl rfl C.Lm) (pv 1) (aM (pv 0) rfl) (by with_unfolding_all rfl)) (ac (br (aH LK (aS bv (by rfl) T.dZ cD (aa (aM (pv 0) rfl) af)) (aM (pv 0) rfl) (aK _)) (am ck) aI)
     (ac (CH (P:=P) (w:=w) (K:=K) rfl rfl rfl C.Lm (aM (pv 0) rfl) (pv 1) (aS bv (by rfl) T.dZ cD (aa (aM (pv 0) rfl) af)) rfl)
     (am (bp (iG aaI aaN aaM cI (aM (pv 0) rfl) (aa (pv 1) af)))))) aI))
     (am (aG (tj (P:=P) (w:=w) (K:=K) rfl rfl rfl C.Lm (aM (pv 0) rfl) (pv 1) (λ Z Z=>rfl))))),?_⟩
 try dsimp only [eQ,aW]
 obtain ⟨⟨d,b⟩,⟨v,i,I⟩,Z,Z,⟨A,f,hl,r⟩,Z,Z,Z⟩:=id B
 have n:=iX D
 refine ⟨λ o q=>(E3 λ j G J=>A9 (gw [c,a] H q) (aQ K H q) (d8 P w K Ad.cS L q x c R S a l G) (vh g G) (gu m G) (G.met[j]?=some st) (ix P w K q a J) (iq J (mY st)=some (ao j)) (G=g\/G=g.add st))/\o=[some (.ref x),some (.ref p)],?_,?_⟩
 .
  refine ⟨_,rfl,_,rfl,x,_,d,_,_,rfl,b,T.bW,T.gf,rfl,a,p,A,mY st,rfl,rfl,f,n,_,rfl,?_⟩
  by_cases V:st∈g.met
  . obtain ⟨j,e⟩:=abU.mp V
    rw [r.1 j st e]
    exact fc ⟨⟨j,g,A,λ Z Z h Z=>h,aQ.refl _,B,vh.refl g,ok,e,f,r.1 j st e,.inl rfl⟩,rfl⟩
  .
   rw [r.2 st V]
   have s:=ok.add so V
   have ll:((g.met++[st]).length:Int)<=l:=F _ s.nd s.st
   rw [aac,aaw] at ll
   have lv:=I.length
   refine ge ⟨_,rfl,x,_,d,_,_,rfl,b,T.bW,T.fy,rfl,c,v,rfl,.inl (bh.of i),λ y ey=>⟨_,rfl,x,_,d,_,_,rfl,b,T.bW,T.nJ,rfl,_,_,rfl,rfl,_,rfl,fP (λ h=>?_) (λ h=>?_)⟩⟩
   . exfalso;lia
   refine ⟨_,rfl,x,_,d,_,_,rfl,b,T.bW,T.fy,rfl,c,v,rfl,.inl (bh.of i),λ y2 u=>?_⟩
   obtain rfl:y2=((g.met.length:Nat):Int):=by rw [u,lv]
   refine ⟨_,rfl,x,_,d,_,_,rfl,b,T.bW,T.gf,rfl,_,rfl,a,p,A,mY st,rfl,rfl,f,n,aav (show A.length<=2000 by lia) (by decide),?_⟩
   obtain ⟨O,b1,t1⟩:=B.add i I f hl r D V
   have nm:c≠a:=λ z=>by rw [z,f.ob] at i;cases i
   have nx:x≠a:=λ z=>by rw [z,f.ob] at b;cases b
   have N:(upd H a (kW P w a (fQ A (mY st) p (ao g.met.length)))) c=some (.lst v):=by rw [ar nm];exact i
   have uk:(upd H a (kW P w a (fQ A (mY st) p (ao g.met.length)))) x=some (.ins Ad.cS d (Qf c R S a l)):=by rw [ar nx];exact b
   obtain ⟨W,t,Z,zd⟩:=O.pls
   have e:(g.add st).met[g.met.length]?=some st:=aaU
   exact ⟨_,rfl,x,_,d,_,_,rfl,uk,T.bW,T.fy,rfl,.inl ⟨rfl,_,bh.of N⟩,_,rfl,c,v,_,rfl,rfl,N,aav (show v.length<=2000 by lia) (by decide),⟨g.met.length,g.add st,W,b1,t1,O,vh.add g st,s,e,t,zd.1 _ _ e,.inr rfl⟩,rfl⟩
 . rintro o X ⟨⟨j,G,J,b2,U,M,gx,Y,e,t,ev,wh⟩,rfl⟩
   obtain ⟨wu,Ps⟩:=M.ins
   exact ⟨_,rfl,x,_,wu,_,_,rfl,Ps,T.bW,T.gf,rfl,_,rfl,a,p,J,mY st,ao j,rfl,rfl,t,iX (D.ts U),ev,k j G X b2 U M gx Y e wh⟩
def pi (T:Txt K mg Ad):gM P w K mg base Ad.cS "meet_all" 2 ["self","states"] [] (Cb P w K Ad.cS):=by
 refine T.sI.fS rp λ Z Z Z Z Z H vs Q E hr h=>?_
 obtain ⟨x,v,M,Y,pr,B,t,g,m,L,rfl,hg,ok,U,l2,h⟩:=h
 refine ⟨_,(am (aG (jf (aH ji (pv 1) cG (aK _)) cG (fT ["state"] ["self"] [0] (.cons ⟨rfl,rfl,.inl rfl⟩ .nil) rfl (bY (pv 1)) (λ Z Z Z Z Z=>(mG (i:=0))) (λ Z Z Z Z Z=>cJ) (λ Z Z Z Z Z=>(aR (pv 1) T.bW (nN (P:=P) (w:=w) T) .nil hr.m (aa (pv 0) af))))))),?_⟩
 try dsimp only [eQ,aW]
 rcases h with ⟨rfl,k⟩|⟨q,xs,l,rfl,I,nq,yO,OB,ll,k⟩
 . exact ⟨_,rfl,rfl,_,rfl,ge k⟩
 refine ⟨_,rfl,rfl,_,rfl,fP (λ h=>nomatch h) λ Z=>?_⟩
 refine ⟨_,rfl,q,rfl,⟨_,bh.of I⟩,λ D d=>?_⟩
 obtain ⟨⟨dx,hx⟩,⟨vm,hm,Z⟩,⟨vo,ho,Z⟩,⟨vr,N2,Z⟩,⟨aC,hk,Z⟩,Z,Z,Z⟩:=id hg
 have Oy:D≠M:=(aw hm d).symm
 have Ub:D≠Y:=(aw ho d).symm
 have Ta:D≠pr:=(aw N2 d).symm
 have Tc:D≠B:=(aw hk.ob d).symm
 have YI:q≠B:=λ z=>by rw [z,hk.ob] at I;cases I
 have lx:=yO.length
 have s0:=al (o:=.lst []) d
 refine cE (K:=K) (a:=q) (xs:=xs) (λ i A c r=>A5 (gw [M,B] H r) (aQ K H r) (r D=some (.lst A)) (E2 λ F J=>A5 (d8 P w K Ad.cS (D::L) r x M Y pr B t F) (vh g F) (gu m F) (A=J.map ao) (Paired (λ j s=>F.met[j]?=some s) J (l.take i))) (∃ v,c=[v,some (.ref x)]))
   ⟨λ b u h Z=>s0 b u h,s0.ts,ag,⟨g,[],(hg.new d).same s0,vh.refl g,ok,rfl,.nil⟩,none,rfl⟩ (λ i A c r Z ⟨b,_,_,_,_⟩=>bh.of (b _ _ I (by simp [nq,YI]))) ?_ ?_
 .
  rintro i y A c H1 hy ⟨R,N,X,⟨V,J,C,O,yR,rfl,f⟩,v,rfl⟩
  obtain ⟨p,st,rfl,S,jj⟩:=yO.get hy
  have hi:i<l.length:=(Ba.mp S).1
  have lj:J.length<=100000:=by rw [abT f,aaD];lia
  obtain ⟨yU,uk⟩:=C.ins
  refine ⟨_,rfl,x,yU,_,rfl,uk,rfl,_,rfl,x,p,M,Y,pr,B,t,V,m,st,D::L,rfl,C,yR,U,l2,jj.ts N,OB st (aag S),λ j g2 H2 b2 t2 K2 G IW ej Z=>?_⟩
  have W:=b2 _ _ X (by simp [Oy,Tc])
  refine ⟨W,aav (show (J.map ao).length<=100000 by rw [OG];exact lj) (by decide),λ b u h n=>?_,N.trans (t2.trans (bU W rfl)),ag,⟨g2,J++[j],K2.write W (by simp) Oy Ub Ta,O.trans G,IW,by rw [aah];rfl,?_⟩,_,rfl⟩
  . rw [ar (aw h d)]
    exact b2 b u (R b u h n) n
  . rw [bM S]
    exact acK (Paired.yc f λ j s e=>G.at e) ej
 . rintro A c H1 ⟨R,N,X,⟨V,J,C,O,yR,rfl,f⟩,v,rfl⟩
   rw [lx,aaC] at f
   exact k D J V H1 d R N (C.less λ b h=>aai _ h) O yR X f
def uT (T:Txt K mg Ad):gM P w K mg base Ad.cS "go_on" 10 ["self","hold"] [] (KP P w K Ad.aX Ad.cS):=by
 refine T.xW.fS g8 λ _ _ _ _ _ H vs Q E hr h=>?_
 obtain ⟨x,a,l,f,A,F,L,g0,m,S,rfl,Z5,Wc,bs,ab,l2,hm,hh,f1,f2,f3,f4,k⟩:=h
 refine ⟨_,(ac (cT (i:=2) g8.nd (pS T.HP (n6 (P:=P) (w:=w) T) .nil hr.m T.KN (aa (pv 1) af)))
     (am (l7 aaF (aH jw (aS bv (by rfl) T.dZ cD (aa (aM (pv 0) rfl) af)) (aS bv (by rfl) T.dZ cD (aa (aM (pv 0) rfl) af)) (aK _)) (ac (cT (i:=3) g8.nd (aF az (aM (pv 0) rfl) (aS bv (by rfl) T.dZ cD (aa (aM (pv 0) rfl) af))))
     (ac (cT (i:=4) g8.nd (au (xb T) hr.m (aa (pv 1) (aa (pv 3) af))))
     (ac (bp (iG aaI aaN aaM cI (aM (pv 0) rfl) (aa (pv 4) af)))
     (am (bp (iG aaI aaN aaM cI (aM (pv 0) rfl) (aa (fT ["order"] ["self","state","reach"] [0,3,2] (.cons ⟨rfl,rfl,.inl rfl⟩ (.cons ⟨rfl,rfl,.inl rfl⟩ (.cons ⟨rfl,rfl,.inl rfl⟩ .nil))) rfl (bY (pv 4)) (λ _ _ _ _ _=>(mG (i:=0))) (λ _ _ _ _ _=>cJ) (λ _ _ _ _ _=>(aR (pv 1) T.bW (pi (P:=P) (w:=w) T) .nil hr.m (aa (aR (pv 3) T.dR (jT (P:=P) (w:=w) T) .nil hr.m (aa (pv 2) (aa (pv 0) af))) af)))) af)))))))))),?_⟩
 try dsimp only [eQ,aW]
 refine ⟨_,rfl,λ X K8 Qu jA n=>?_⟩
 have s1:aE H (upd (upd H K8 (.own X)) X (.ins Ad.Reach K8 [])):=(al jA).trans (al (by first|(rw [ar n];exact Qu)|(rw [ar n.symm];exact Qu)))
 have uk:(upd (upd H K8 (.own X)) X (.ins Ad.Reach K8 [])) X=some (.ins Ad.Reach K8 []):=ag
 generalize upd (upd H K8 (.own X)) X (.ins Ad.Reach K8 [])=H1 at s1 uk |-
 have xS:∀ {b},H b=none->b∉S:=λ e z=>by
   obtain ⟨u,hu⟩:=hh.some _ z
   rw [e] at hu;cases hu
 refine ⟨X,K8,a,S,m,rfl,uk,hh.same s1,xS Qu,λ d H2 b2 t2 hd Tb=>⟨rfl,?_⟩⟩
 have dn:H d=none:=s1.free hd
 have S2:aE H H2:=λ b u e=>b2 b u (s1 b u e) (by simp only [aae];exact aw e Qu)
 obtain ⟨_,⟨cq,a8,_⟩,⟨cv,bb,_⟩,⟨cW,bf,_⟩,⟨cc,Tu,_⟩,n1,n2,n3⟩:=id Z5
 have ex:∀ {b u},H b=some u->b≠d/\b≠X:=λ e=>⟨aw e dn,aw e Qu⟩
 obtain ⟨dm,xm⟩:=ex a8
 obtain ⟨b9,xo⟩:=ex bb
 obtain ⟨dr,c2⟩:=ex bf
 obtain ⟨dd,xd⟩:=ex Tu.ob
 refine ⟨λ mz U R=>A4 (gw [l,f,A,F] H R) (aQ K H R) (∃ g,A6 (d8 P w K Ad.cS [] R x l f A F L g) (gu m g) (g.fL.length=g.rows.length) (∃ B,g.met=g0.met++B) (eJ P w K Ad.aX Ad.Reach [l,f,A] R X d a S m (1024 * g.rows.length)) (mz=2000 - g.rows.length)) (E2 λ (v3 v4:eE)=>U=[some (.ref x),some (.ref a),some (.ref X),v3,v4]),
   ⟨_,λ b u h _=>S2 b u h,S2.ts,⟨g0,Z5.same S2,Wc,bs,⟨[],(aa9 _).symm⟩,Tb.zero.more (aaT _),rfl⟩,none,none,rfl⟩,?_⟩
 rintro mz U H3 ⟨b3,t3,⟨g,hg,ok,lo,aj,re,rfl⟩,v3,v4,rfl⟩
 obtain ⟨⟨dx,hx⟩,⟨vm,IR,an⟩,⟨O,ae,a3⟩,⟨vr,TJ,a4⟩,⟨aC,hk,_⟩,_,_,_⟩:=id hg
 have bt:vr.length=g.rows.length:=by rw [a4.length,OG]
 have co:O.length=g.fL.length:=by rw [a3.length,OG]
 have cn:=an.length
 have b4:(g.met.length:Int)<=L:=ab g.met ok.nd ok.st
 refine ⟨_,rfl,x,_,dx,_,_,rfl,hx,T.bW,T.dU,rfl,A,vr,rfl,.inl (bh.of TJ),λ y1 e1=>⟨_,rfl,x,_,dx,_,_,rfl,hx,T.bW,T.fy,rfl,l,vm,rfl,.inl (bh.of IR),λ y2 e2=>⟨_,_,rfl,rfl,_,rfl,fP (λ h=>?_) (λ h=>?_)⟩⟩⟩
 .
  have hi:g.rows.length<g.met.length:=by lia
  refine ⟨λ I R=>A4 (gw [l,f,A,F] H R) (aQ K H R) (∃ G,A6 (d8 P w K Ad.cS [] R x l f A F L G) (gu m G) (G.fL.length=G.rows.length) (∃ B,G.met=g0.met++B) (eJ P w K Ad.aX Ad.Reach [l,f,A] R X d a S m (1024 * G.rows.length)) (G.rows.length=g.rows.length+1)) (E2 λ (v3 v4:eE)=>I=[some (.ref x),some (.ref a),some (.ref X),v3,v4]),
    λ I R ⟨b,t,⟨G,h1,h2,h3,h4,h5,h6⟩,w3,w4,e⟩=>⟨2000 - G.rows.length,by lia,b,t,⟨G,h1,h2,h3,h4,h5,rfl⟩,w3,w4,e⟩,?_⟩
  obtain ⟨p,st,ep,es,jj⟩:=an.get (aJ (show g.rows.length<vm.length by lia))
  have so:=ok.st st (aag es)
  have a0:tT vm ((g.rows.length:Nat):Int)=some (.ref p):=ed (by rw [aJ (show g.rows.length<vm.length by lia),ep])
  refine ⟨_,rfl,x,_,dx,_,_,rfl,hx,T.bW,T.fy,rfl,_,rfl,x,_,dx,_,_,rfl,hx,T.bW,T.dU,rfl,A,vr,rfl,.inl (bh.of TJ),λ y3 e3=>⟨l,_,_,_,rfl,rfl,.inl (bh.of IR),(by rw [e3,bt];exact a0:tT vm y3=some (.ref p)),?_⟩⟩
  refine ⟨_,rfl,_,rfl,a,S,m,p,st,rfl,re.hold,jj,so,λ q H4 nq s4 hq=>?_⟩
  have Ge:=s4 _ _ ae
  refine ⟨_,rfl,x,_,dx,_,_,rfl,s4 _ _ hx,T.bW,T.mB,rfl,.inl ⟨rfl,_,bh.of Ge⟩,_,rfl,f,O,_,rfl,rfl,Ge,aav (show O.length<=2000 by lia) (by decide),?_⟩
  have ah:q≠l:=(aw IR nq).symm
  have ZZ:q≠f:=(aw ae nq).symm
  have bD:q≠A:=(aw TJ nq).symm
  have VO:=(hg.same s4).ord Ge hq (by simp [ah,ZZ,bD])
  have DL:=(re.same s4).write (ys:=O++[.ref q]) Ge (by simp) f2
  have aD:aQ K H4 (upd H4 f (.lst (O++[.ref q]))):=bU Ge rfl
  have Ji:(upd H4 f (.lst (O++[.ref q]))) q=some (.lst ((st.orders m).map ao)):=by rw [ar ZZ];exact hq
  have D6:(upd H4 f (.lst (O++[.ref q]))) A=some (.lst vr):=by rw [ar n3.symm];exact s4 _ _ TJ
  have b5:gw [l,f,A,F] H (upd H4 f (.lst (O++[.ref q]))):=λ b u h z=>by
    have:=b3 b u h z
    simp only [aad,aaf,aaX,abF] at z
    rw [ar z.2.1]
    exact s4 _ _ this
  have T5:aQ K H (upd H4 f (.lst (O++[.ref q]))):=t3.trans (s4.ts.trans aD)
  have P0:gc K (upd H4 f (.lst (O++[.ref q]))) p st:=(jj.same s4).ts aD
  have bF:=ok.ord (s:=st) (by rw [lo];exact es)
  have cl:=ue hm.h4 st
  generalize upd H4 f (.lst (O++[.ref q]))=H5 at VO DL Ji D6 b5 T5 P0 |-
  obtain ⟨⟨Qb,Qq⟩,⟨cr,a9,_⟩,⟨cw,bc,_⟩,_,⟨cd,Yf,_⟩,_,_,_⟩:=id VO
  refine ⟨_,rfl,x,_,Qb,_,_,rfl,Qq,T.bW,T.dU,rfl,.inl ⟨rfl,_,bh.of D6⟩,_,rfl,q,rfl,⟨_,bh.of Ji⟩,λ D W=>?_⟩
  have YI:q≠d:=λ z=>by
    obtain ⟨cj,a7,_⟩:=DL.N3
    rw [z,a7.ob] at Ji;cases Ji
  have bB:q≠F:=λ z=>by rw [z,Yf.ob] at Ji;cases Ji
  have Oy:D≠l:=(aw a9 W).symm
  have Ub:D≠f:=(aw bc W).symm
  have Ta:D≠A:=(aw D6 W).symm
  have bx:D≠F:=(aw Yf.ob W).symm
  have bu:D∉S:=λ z=>by
    obtain ⟨u,hu⟩:=DL.hold.some D z
    rw [W] at hu;cases hu
  obtain ⟨b0,YS,_⟩:=DL.N3
  have Tc:D≠d:=(aw YS.ob W).symm
  have s5:=al (o:=.lst []) W
  refine cE (K:=K) (a:=q) (xs:=(st.orders m).map ao) (λ j acc I N=>A5 (gw [l,F,d] H5 N) (aQ K H5 N) (N D=some (.lst acc)) (E2 λ G r=>A6 (d8 P w K Ad.cS [D] N x l f A F L G) (vh (g.ord (st.orders m)) G) (gu m G) (eJ P w K Ad.aX Ad.Reach [D,l,f,A] N X d a S m (1024 * g.rows.length+64 * j)) (bC K (dH N ([D]++[l,f,A])) ((r:bS).map tV) acc) (Paired (λ o b=>pC G.met (kX m st o) b) ((st.orders m).take j) r)) (∃ v,I=[v,some (.ref x),some (.ref p),some (.ref X)]))
    ⟨λ b u h _=>s5 b u h,s5.ts,ag,⟨_,[],(VO.new W).same s5,vh.refl _,bF,(DL.new W).same s5,fu,.nil⟩,none,rfl⟩ (λ j acc I N _ ⟨b,_,_,_,_⟩=>bh.of (b _ _ Ji (by simp [ah,bB,YI]))) ?_ ?_
  .
   rintro j y acc I N hy ⟨b6,t6,JL,⟨J,r,BB,II,yR,OF,RA,OT⟩,v,rfl⟩
   obtain ⟨o,eo,rfl⟩:=dJ hy
   have ho:=aag eo
   have hj:j<(st.orders m).length:=(Ba.mp eo).1
   have D3:acc.length<=16:=by rw [RA.length,OG,<- abT OT,aaD];lia
   obtain ⟨a5,bq⟩:=BB.ins
   obtain ⟨U3,Vn⟩:=OF.ins
   obtain ⟨_,⟨cs,Of,_⟩,⟨cA,bd,_⟩,⟨c0,bk,_⟩,⟨cf,cb,_⟩,_,_,_⟩:=id BB
   obtain ⟨b1,KQ,_⟩:=OF.N3
   have Qc:∀ (Y:V) (b':Option (bj)) (g2:rN) (C:Hp),gw [l,F,d] N C->aQ K N C->d8 P w K Ad.cS [D] C x l f A F L g2->vh J g2->gu m g2->eJ P w K Ad.aX Ad.Reach [D,l,f,A] C X d a S m (1024 * g.rows.length+64 * j+64)->bC K (dH C ([D]++[l,f,A])) (r.map tV) acc->Dn K (dH C ([D]++[l,f,A])) (tV b') Y->pC g2.met (kX m st o) b' ->
       C D=some (.lst acc)/\acc.length<sizeLine/\(gw [l,F,d] H5 (upd C D (.lst (acc++[Y])))/\aQ K H5 (upd C D (.lst (acc++[Y])))/\(upd C D (.lst (acc++[Y]))) D=some (.lst (acc++[Y]))/\(∃ G r,d8 P w K Ad.cS [D] (upd C D (.lst (acc++[Y]))) x l f A F L G/\vh (g.ord (st.orders m)) G/\gu m G/\eJ P w K Ad.aX Ad.Reach [D,l,f,A] (upd C D (.lst (acc++[Y]))) X d a S m (1024 * g.rows.length+64 * (j+1))/\bC K (dH (upd C D (.lst (acc++[Y]))) ([D]++[l,f,A])) ((r:bS).map tV) (acc++[Y])/\Paired (λ o b=>pC G.met (kX m st o) b) ((st.orders m).take (j+1)) r)):=by
     intro Y b' g2 C b8 t8 UR TV Y6 UQ Us a2 ri
     have La:=b8 _ _ JL (by simp [Oy,bx,Tc])
     refine ⟨La,aT (by lia),λ b u h n=>?_,t6.trans (t8.trans (bU La rfl)),ag,g2,r++[b'],UR.write La (by simp) Oy Ub Ta,II.trans TV,Y6,(UQ.write La (by simp) bu).more (by lia),?_,?_⟩
     . rw [ar (aw h W)]
       exact b8 b u (b6 b u h n) n
     . rw [mD (by simp),aah]
       exact bC.snoc Us a2
     . rw [bM eo]
       obtain ⟨⟨B,em⟩,_⟩:=TV
       exact acK (Paired.yc OT λ o b q=>by rw [em];exact q.more) ri
   have VR:∀ b∈[D,l,f,A],N b≠none:=by
     intro b hb
     simp only [aad,aaf,aaX] at hb
     rcases hb with rfl|rfl|rfl|rfl
     . rw [JL];exact nofun
     . rw [Of];exact nofun
     . rw [bd];exact nofun
     . rw [bk];exact nofun
   refine ⟨_,rfl,x,a5,_,rfl,bq,rfl,_,rfl,X,U3,_,rfl,Vn,rfl,_,rfl,_,rfl,X,d,a,S,m,_,p,st,o,[D,l,f,A],rfl,OF,VR,by lia,P0.ts t6,so,hm.ow ho,hm.tn st o so ho,hm.sp st so,λ hu H7 b7 t7 Yn=>?_,λ bn q2 bJ H7 bz b7 t7 Yn yI Vj=>?_⟩
   . have N1:=BB.but KQ.ob dd.symm b7 t7
     refine ⟨x,.cB,l,f,A,F,L,J,m,[D],rfl,N1,yR,ab,l2,.inl ⟨rfl,?_⟩⟩
     obtain ⟨z1,z2,z3,z4,z5,g9,r9,y1,y2,y3,y4,y5,y6⟩:=Qc .cB none J H7 (λ b u h n=>b7 b u h (by simp only [aad,aaf,aaX,abF] at n;simp [n.2.2])) t7 N1 (vh.refl J) yR Yn (bC.xz KQ.ob rfl (Eo b7) RA) rfl (by rw [Gc hu];trivial)
     exact ⟨z1,z2,z3,z4,z5,⟨g9,r9,y1,y2,y3,y4,y5,y6⟩,_,rfl⟩
   .
    have N1:=BB.but KQ.ob dd.symm b7 t7
    have bN:=JY (id OF.hold).5 hm.h4 st o
    refine ⟨x,.ref q2,l,f,A,F,L,J,m,[D],rfl,N1,yR,ab,l2,.inr ⟨q2,bJ,sR m st o,rfl,yI,(aw Of bz).symm,Vj,λ s' h'=>hm.nx st o s' so ho h',by lia,λ D2 js g2 C iW b8 t8 UR TV Y6 X5 DP=>?_⟩⟩
    obtain ⟨_,⟨ct,ba,_⟩,⟨cM,be,_⟩,⟨c1,bm,_⟩,⟨ch,ad,_⟩,_,_,_⟩:=id N1
    have a6:=b7 _ _ JL (by simp [Tc])
    have UQ:=Yn.frame (M:=[l,F]) b8 t8 (by simp [xm.symm,xd.symm]) (by simp [dm.symm,dd.symm]) (λ c hc z=>by
      simp only [aad,aaf,aaX] at z
      rcases z with rfl|rfl
      . exact f1 hc
      . exact f4 hc) (λ c hc=>by
      simp only [aad,aaf,aaX] at hc
      rcases hc with rfl|rfl
      . exact .inl (by simp)
      . exact .inr λ xs z=>by rw [ad.ob] at z;cases z)
    have a1:bC K (dH H7 ([D]++[l,f,A])) (r.map tV) acc:=bC.xz KQ.ob rfl (Eo b7) RA
    have Us:bC K (dH C ([D]++[l,f,A])) (r.map tV) acc:=bC.xz ad.ob rfl (λ c u e n1 n2=>b8 c u e (by
      simp only [adx,ac2,aad,aaf,aaX,abF] at n2 |-
      exact ⟨n2.2.1,n1⟩)) a1
    obtain ⟨z1,z2,z3,z4,z5,g9,r9,y1,y2,y3,y4,y5,y6⟩:=Qc (.ref D2) (some js) g2 C (λ b u h n=>by
      simp only [aad,aaf,aaX,abF] at n
      exact b8 b u (b7 b u h (by simp [n.2.2])) (by simp [n.1,n.2.1])) (t7.trans t8) UR TV Y6 UQ Us (Dm (bh.of (mv X5 (by
      simp only [adx,ac2,aad,aaf,aaX,abF]
      exact ⟨(aw a6 iW).symm,(aw ba iW).symm,(aw be iW).symm,(aw bm iW).symm⟩)))) (by rw [Gx bn];exact DP)
    exact ⟨z1,z2,z3,z4,z5,⟨g9,r9,y1,y2,y3,y4,y5,y6⟩,_,rfl⟩
  .
   rintro acc I N ⟨b6,t6,JL,⟨J,r,BB,II,yR,OF,RA,OT⟩,v,rfl⟩
   rw [OG,aaC] at OT
   have IX:=b6 _ _ D6 (by
     simp only [aad,aaf,aaX,abF]
     exact ⟨n2.symm,(λ z=>by rw [z,Yf.ob] at D6;cases D6),dr⟩)
   have er:J.rows=g.rows:=II.rows
   have eo:J.fL=g.fL++[st.orders m]:=II.fL
   have Zc:bC K (dH N ([]++[l,f,A])) (r.map tV) acc:=bC.same (λ b u e=>by
     unfold dH at e |-
     split at e
     . cases e
     . rename_i z
       rw [aaA (show b∉[]++[l,f,A] from λ y=>z (aar.mpr (.inr y)))]
       exact e) _ RA
   have N1:=(BB.less (L':=[]) λ b h=>absurd h aaf).row IX JL (by simp [Oy,Ub,Ta]) Zc
   have bG:=yR.row (s:=st) (r:=r) (by rw [er];exact II.at (show (g.ord (st.orders m)).met[g.rows.length]?=some st from es)) OT
   refine ⟨A,vr,_,rfl,rfl,IX,aav (show vr.length<=2000 by lia) (by decide),λ b u h z=>?_,T5.trans (t6.trans (bU IX rfl)),⟨J.row r,N1,bG,?_,?_,?_,?_⟩,_,_,rfl⟩
   . have:=b5 b u h z
     simp only [aad,aaf,aaX,abF] at z
     rw [ar z.2.2.1]
     exact b6 _ _ this (by simp only [aad,aaf,aaX,abF];exact ⟨z.1,z.2.2.2,aw h dn⟩)
   . show J.fL.length=(J.rows++[r]).length
     rw [eo,er,aac,aac,lo]
     rfl
   . obtain ⟨⟨B,em⟩,_⟩:=II
     obtain ⟨QZ,XS⟩:=aj
     exact ⟨QZ++B,by show J.met=_;rw [em];show g.met++B=_;rw [XS,acf]⟩
   . refine ((OF.less λ b h=>aai _ h).write IX (by simp) f3).more ?_
     show _<=1024 * (J.rows++[r]).length
     rw [er,aac,aaw,OG]
     lia
   . show (J.rows++[r]).length=_
     rw [er,aac];rfl
 . exact k g H3 b3 t3 hg ok lo (by have:=ok.lr;lia) aj
def pA (T:Txt K mg Ad):gM P w K mg base Ad.cS "__init__" 11 ["self","hold","states","limit"] [] (IA P w K Ad.aX Ad.cS):=by
 refine T.sC.fS gI λ Z Z Z Z Z H vs Q E hr h=>?_
 obtain ⟨x,D,a,q,L,fp,m,xs,l,rfl,hx,hh,nx,hm,G,l2,C,yO,OB,k⟩:=h
 refine ⟨_,(ac (dB aaF rfl (bY (pv 2)) (iJ (i:=4) gI.nd) (am (bp (au (gP T) hr.m (aa (pv 1) (aa (pv 4) af))))))
     (ac (di (pv 0) (dA af) rfl)
     (ac (di (pv 0) (dA af) rfl)
     (ac (di (pv 0) (dA af) rfl)
     (ac (di (pv 0) (CN (P:=P) (w:=w) rfl rfl) rfl)
     (ac (di (pv 0) (pv 3) rfl)
     (ac (dB aaF rfl (bY (pv 2)) (iJ (i:=4) gI.nd) (am (bp (aR (pv 0) T.bW (nN (P:=P) (w:=w) T) .nil hr.m (aa (pv 4) af)))))
     (am (bp (aR (pv 0) T.bW (uT (P:=P) (w:=w) T) .nil hr.m (aa (pv 1) af))))))))))),?_⟩
 try dsimp only [eQ,aW]
 try (refine Hh ?_;intro Z Z Z Z Z Z Z Z Z)
 have lx:=yO.length
 refine ⟨_,rfl,q,rfl,⟨_,bh.of C⟩,?_⟩
 refine gJ (K:=K) (a:=q) (xs:=xs) (λ i U A=>aE H A/\∃ (v:eE),U=[some (.ref x),some (.ref a),some (.ref q),some (.int L),v]) ⟨aE.refl _,none,rfl⟩ (λ i U A Z ⟨S,_⟩=>bh.of (S _ _ C)) ?_ ?_
 . rintro Z i v U y hv ⟨S,v4,rfl⟩
   obtain ⟨p,W,rfl,B,jj⟩:=yO.get hv
   exact ⟨_,rfl,_,rfl,a,fp,m,p,W,rfl,hh.same S,jj.same S,OB W (aag B),λ H2 s2=>⟨S.trans s2,_,rfl⟩⟩
 rintro U y ⟨S,v4,rfl⟩
 have B0:jy K Ad.cS x D y y []:=.start (S _ _ hx)
 refine ⟨HD,λ c gF=>?_⟩
 have B1:=B0.new (o:=.lst []) gF
 refine ⟨_,rfl,x,_,D,_,rfl,B1.at_,T.bW,T.fy,lt1000 rfl,?_⟩
 have X:=B1.put (fs':=aL "met" (.ref c) [])
 have Ol:=B0.ne gF
 have E1:(upd (upd y c (.lst [])) x (.ins Ad.cS D (aL "met" (.ref c) []))) c=some (.lst []):=by rw [ar Ol];exact ag
 have mn:y c=none:=gF
 generalize upd (upd y c (.lst [])) x (.ins Ad.cS D (aL "met" (.ref c) []))=H2 at X E1 |-
 refine ⟨HD,λ d No=>?_⟩
 have B3:=X.new (o:=.lst []) No
 refine ⟨_,rfl,x,_,D,_,rfl,B3.at_,T.bW,T.mB,lt1000 rfl,?_⟩
 have Y:=B3.put (fs':=aL "orders" (.ref d) (aL "met" (.ref c) []))
 have V7:=X.ne No
 have on:y d=none:=X.none No
 have N:c≠d:=aw E1 No
 have MW:(upd (upd H2 d (.lst [])) x (.ins Ad.cS D (aL "orders" (.ref d) (aL "met" (.ref c) [])))) d=some (.lst []):=by rw [ar V7];exact ag
 have MV:(upd (upd H2 d (.lst [])) x (.ins Ad.cS D (aL "orders" (.ref d) (aL "met" (.ref c) [])))) c=some (.lst []):=by rw [ar Ol,ar N];exact E1
 generalize upd (upd H2 d (.lst [])) x (.ins Ad.cS D (aL "orders" (.ref d) (aL "met" (.ref c) [])))=H4 at Y MW MV |-
 refine ⟨HD,λ f V=>?_⟩
 have B5:=Y.new (o:=.lst []) V
 refine ⟨_,rfl,x,_,D,_,rfl,B5.at_,T.bW,T.dU,lt1000 rfl,?_⟩
 have B6:=B5.put (fs':=aL "rows" (.ref f) (aL "orders" (.ref d) (aL "met" (.ref c) [])))
 have R:=Y.ne V
 have rn:y f=none:=Y.none V
 have J:c≠f:=aw MV V
 have O:d≠f:=aw MW V
 have Rw:(upd (upd H4 f (.lst [])) x (.ins Ad.cS D (aL "rows" (.ref f) (aL "orders" (.ref d) (aL "met" (.ref c) []))))) f=some (.lst []):=by rw [ar R];exact ag
 have Qm:(upd (upd H4 f (.lst [])) x (.ins Ad.cS D (aL "rows" (.ref f) (aL "orders" (.ref d) (aL "met" (.ref c) []))))) d=some (.lst []):=by rw [ar V7,ar O];exact MW
 have QI:(upd (upd H4 f (.lst [])) x (.ins Ad.cS D (aL "rows" (.ref f) (aL "orders" (.ref d) (aL "met" (.ref c) []))))) c=some (.lst []):=by rw [ar Ol,ar J];exact MV
 generalize upd (upd H4 f (.lst [])) x (.ins Ad.cS D (aL "rows" (.ref f) (aL "orders" (.ref d) (aL "met" (.ref c) []))))=H6 at B6 Rw Qm QI |-
 refine λ t UI=>?_
 have B7:=B6.new (o:=kW P w t []) UI
 refine ⟨_,rfl,x,_,D,_,rfl,B7.at_,T.bW,T.gf,lt1000 rfl,?_⟩
 have B8:=B7.put (fs':=aL "places" (.ref t) (aL "rows" (.ref f) (aL "orders" (.ref d) (aL "met" (.ref c) []))))
 have UG:=B6.ne UI
 have dn:y t=none:=B6.none UI
 refine ⟨_,rfl,_,rfl,x,_,D,_,rfl,B8.at_,T.bW,T.nJ,lt1000 rfl,?_⟩
 have B9:=B8.put (fs':=aL "limit" (.int L) (aL "places" (.ref t) (aL "rows" (.ref f) (aL "orders" (.ref d) (aL "met" (.ref c) [])))))
 have kp:∀ {b o o1 o2 o3},H6 b=some o->b≠x->(upd (upd (upd H6 t o1) x o2) x o3) b=some o:=λ e n=>by rw [ar n,ar n,ar (aw e UI)];exact e
 have Xp:(upd (upd (upd H6 t (kW P w t [])) x (.ins Ad.cS D (aL "places" (.ref t) (aL "rows" (.ref f) (aL "orders" (.ref d) (aL "met" (.ref c) [])))))) x (.ins Ad.cS D (aL "limit" (.int L) (aL "places" (.ref t) (aL "rows" (.ref f) (aL "orders" (.ref d) (aL "met" (.ref c) []))))))) t=some (kW P w t []):=by rw [ar UG,ar UG];exact ag
 have g9:d8 P w K Ad.cS [] _ x c d f t L ⟨[],[],[]⟩:=⟨⟨D,B9.at_⟩,⟨[],kp QI Ol,Refs.nil⟩,⟨[],kp Qm V7,fu⟩,⟨[],kp Rw R,fu⟩,⟨[],ix.nil Xp,aaj _,An.nil⟩,N,J,O⟩
 generalize upd (upd (upd H6 t (kW P w t [])) x (.ins Ad.cS D (aL "places" (.ref t) (aL "rows" (.ref f) (aL "orders" (.ref d) (aL "met" (.ref c) [])))))) x (.ins Ad.cS D (aL "limit" (.int L) (aL "places" (.ref t) (aL "rows" (.ref f) (aL "orders" (.ref d) (aL "met" (.ref c) []))))))=H9 at B9 g9 |-
 have b9:gw [x] H H9:=λ b u e n=>B9.st b u (S b u e) λ z=>n (aae.mpr z)
 have T9:aQ K H H9:=S.ts.trans B9.ts
 have Z4:q∉[x]:=λ z=>by rw [aae.mp z,hx] at C;cases C
 have fr:∀ b∈[c,d,f,t],H b=none:=by
   intro b hb
   simp only [aad,aaf,aaX] at hb
   rcases hb with rfl|rfl|rfl|rfl
   . exact S.free mn
   . exact S.free on
   . exact S.free rn
   . exact S.free dn
 have ex:∀ {b u},H b=some u->b∉[x]->b∉[c,d,f,t]:=λ e Z z=>by rw [fr _ z] at e;cases e
 refine ⟨_,rfl,q,rfl,⟨_,bh.of (b9 _ _ C Z4)⟩,?_⟩
 refine gJ (K:=K) (a:=q) (xs:=xs) (λ i U A=>A4 (gw [x] H A) (aQ K H A) (∃ g,A7 (d8 P w K Ad.cS [] A x c d f t L g) (gu m g) (g.fL=[]) (g.rows=[]) (∀ s∈l.take i,s∈g.met) (∀ s r,l=s::r->0<i->g.met[0]?=some s) (i=0->g.met=[])) (∃ (v:eE),U=[some (.ref x),some (.ref a),some (.ref q),some (.int L),v]))
   ⟨b9,T9,⟨_,g9,⟨ach,aaj _,aaj _,λ Z h=>absurd h aaf,λ i s o e=>by simp at e,λ i s o e=>by simp at e⟩,rfl,rfl,λ s h=>absurd h (by simp),λ Z Z Z h=>absurd h (abh _),λ Z=>rfl⟩,_,rfl⟩ (λ i U A Z ⟨b,_,_,_⟩=>bh.of (b _ _ C Z4)) ?_ ?_
 .
  rintro Z i v U IM hv ⟨Kk,F,⟨g,I,ok,o0,r0,vW,hz,VE⟩,v5,rfl⟩
  obtain ⟨p,W,rfl,B,jj⟩:=yO.get hv
  obtain ⟨M6,M8⟩:=I.ins
  refine ⟨_,rfl,x,M6,_,rfl,M8,rfl,_,rfl,x,p,c,d,f,t,L,g,m,W,[],rfl,I,ok,G,l2,jj.ts F,OB W (aag B),λ j g' Ef GO MH Mz gx Bj ej wh=>⟨λ b u e n=>GO b u (Kk b u e n) (λ z=>ex e n (by
    simp only [aad,aaf,aaX] at z |-
    rcases z with z|z
    . exact .inl z
    . exact .inr (.inr (.inr z)))),F.trans MH,⟨g',Mz,Bj,gx.fL.trans o0,gx.rows.trans r0,λ s hs=>?_,λ s r e Z=>?_,λ e=>absurd e (Nat.succ_ne_zero _)⟩,_,rfl⟩⟩
  .
   rw [bM B] at hs
   rcases aar.mp hs with z|z
   . obtain ⟨⟨M,em⟩,Z⟩:=gx
     rw [em]
     exact aa8 _ (vW s z)
   . rw [aae.mp z];exact aag ej
  .
   by_cases h0:0<i
   . exact gx.at (hz s r e h0)
   .
    obtain rfl:i=0:=by lia
    rw [e] at B
    cases B
    rcases wh with rfl|rfl
    . rw [VE rfl] at ej;simp at ej
    . show (g.met++_)[0]?=_
      rw [VE rfl];rfl
 .
  rintro U IM ⟨Kk,F,⟨g,I,ok,o0,r0,vW,hz,VE⟩,v5,rfl⟩
  rw [lx,aaC] at vW
  obtain ⟨M6,M8⟩:=I.ins
  have nf:∀ {b},b∈[c,d,f,t]->b∉fp:=λ hb z=>by
    obtain ⟨u,hu⟩:=hh.some _ z
    rw [fr _ hb] at hu;cases hu
  refine ⟨_,rfl,x,M6,_,rfl,M8,rfl,_,rfl,x,a,c,d,f,t,L,g,m,fp,rfl,I,ok,by rw [o0,r0];rfl,G,l2,hm,hh.Ex (λ b u e n=>Kk b u e λ z=>n (aae.mp z)) F nx,nf (by simp),nf (by simp),nf (by simp),nf (by simp),λ g' Ef GO MH Mz Bj Yt ZR ⟨M,em⟩=>?_⟩
  refine k c d f t g' Ef (λ b u e n=>GO b u (Kk b u e n) (ex e n)) (F.trans MH) fr Mz Bj Yt ZR (λ s hs=>by rw [em];exact aa8 _ (vW s hs)) λ s r e=>?_
  have:=hz s r e (by rw [lx,e];exact Nat.succ_pos _)
  rw [em,aal (Ba.mp this).1]
  exact this
def nE (T:Txt K mg Ad):gM P w K mg base Ad.dg "end" 1 ["self","place","number","lasting"] [] (Md Ad.dg):=by
 refine T.ze.fS xn λ Z Z Z Z Z H vs Q E hr h=>?_
 obtain ⟨x,A,d,i,m,q,S,p,c,t,n,l,rfl,a,y,hc,en,n0,hp,hz,k⟩:=h
 refine ⟨_,(ac (iy (pv 3) (qT (aF az (aM (pv 0) rfl) (pv 1)) (pv 2) set_list))
     (ac (Jo (aM (pv 0) rfl) (pv 1) GP ai N6 set_list)
     (am (br (aH dE (aF az (aM (pv 0) rfl) (pv 1)) ai (aK _)) (ac (iy (ax bg (pv 3) ai) (qT (aM (pv 0) rfl) (pv 1) set_list))
     (am (bp (iG aaI aaN aaM cI (aM (pv 0) rfl) (aa (pv 1) af))))) aI)))),?_⟩
 try dsimp only [eQ,aW]
 try (refine cV ?_;intro Z Z Z Z)
 obtain ⟨D,g⟩:=a.ins
 have gW:p<q.length:=by rw [a.len];exact (Ba.mp y).1
 have j:q[p]?=some q[p]:=SN gW
 have B:=a.CF p _ l j y
 have I:=a.nd
 simp only [aaR,aad,abF] at I
 obtain ⟨⟨a1,a2,a3,a4⟩,⟨b1,b2,W⟩,⟨c1,c2⟩,d1,Z⟩:=I
 have J:=aag j
 have F:(S.dh.map ao)[p]?=some (ao n):=by rw [aab,en];rfl
 have s:p<(S.dh.map ao).length:=(Ba.mp F).1
 refine ⟨_,rfl,_,rfl,x,_,D,_,_,rfl,g,T.cq,T.jc,rfl,_,rfl,A,_,_,_,rfl,rfl,.inl (bh.of a.ZF),bZ (by rw [aab,j];rfl),_,rfl,q[p],_,_,c,rfl,rfl,B,?_,?_⟩
 . exact kC (by rw [OG];exact hc)
 have G:d≠q[p]:=λ z=>W (z ▸ J)
 have xq:x≠q[p]:=λ z=>by rw [z,B] at g;cases g
 have xg:x≠d:=λ z=>by rw [z,a.SK] at g;cases g
 refine ⟨_,rfl,x,_,D,_,_,rfl,(ar xq).trans g,T.cq,T.gp,rfl,_,rfl,d,_,p,_,rfl,rfl,bh.of ((ar G).trans a.SK),F,_,_,rfl,rfl,d,_,_,p,rfl,rfl,(ar G).trans a.SK,kC s,?_⟩
 have f:=a.fin (c:=c) (t:=t) (n:=n) j y
 have ez:(V.int ((n:Int) - 1))=ao (n - 1):=by
   show V.int _=V.int _
   rw [show ((n:Int) - 1)=((n - 1:Nat):Int) by lia]
 rw [ez]
 have X:gw (A::d::i::m::q) H (upd (upd H q[p] (.lst ((l.map jF).set c (ao t)))) d (.lst ((S.dh.map ao).set p (ao (n - 1))))):=λ b u e N=>by
   simp only [aad,abF] at N
   rw [ar N.2.1,ar (λ z=>N.2.2.2.2 (by rw [z];exact J))]
   exact e
 generalize upd (upd H q[p] (.lst ((l.map jF).set c (ao t)))) d (.lst ((S.dh.map ao).set p (ao (n - 1))))=C at f X |-
 obtain ⟨Y,U⟩:=f.ins
 have v:((S.dh.set p (n - 1)).map ao)[p]?=some (ao (n - 1)):=by
   rw [aab,cX.mpr (.inl ⟨rfl,by rw [OG] at s;exact s,rfl⟩)];rfl
 refine ⟨_,rfl,x,_,Y,_,_,rfl,U,T.cq,T.gp,rfl,_,rfl,d,_,_,_,rfl,rfl,.inl (bh.of f.SK),bZ v,?_⟩
 refine ⟨rfl,_,rfl,?_⟩
 by_cases O:n=1
 .
  rw [show decide (ao (n - 1)=V.int 0)=true from aao (by rw [O];rfl)]
  have M:p<(S.bF.map jF).length:=by rw [OG];exact hp
  have xk:x≠i:=λ z=>by rw [z,f.SF] at U;cases U
  have h2:=f.X8 (p:=p) (t:=t)
  have R:gw (A::d::i::m::q) H (upd (upd C i (.lst ((S.bF.map jF).set p (ao (t+1))))) m (.lst (S.queue.map ao++[ao p]))):=λ b u e N=>by
    have:=X b u e N
    simp only [aad,abF] at N
    rw [ar N.2.2.2.1,ar N.2.2.1]
    exact this
  refine ge ⟨_,rfl,_,_,rfl,rfl,λ r er=>?_⟩
  obtain rfl:r=((t+1:Nat):Int):=er
  refine ⟨_,rfl,x,_,Y,_,_,rfl,U,T.cq,T.fw,rfl,_,rfl,i,_,_,p,rfl,rfl,f.SF,kC M,?_⟩
  have L:=(ar (o:=.lst ((S.bF.map jF).set p (ao (t+1)))) (λ z=>c1 z.symm)).trans f.Uo
  refine ⟨_,rfl,x,_,Y,_,_,rfl,(ar xk).trans U,T.cq,T.gt,rfl,.inl ⟨rfl,_,bh.of L⟩,_,rfl,m,_,_,rfl,rfl,L,aav (show (S.queue.map ao).length<=10000 by rw [OG];exact hz) (by decide),k _ R ?_⟩
  unfold jJ.fin
  rw [aaE O,aaE O]
  exact h2
 .
  rw [show decide (ao (n - 1)=V.int 0)=false from aam (λ z=>O (by have:=V.int.inj z;lia))]
  refine fc (k C X ?_)
  unfold jJ.fin
  rw [aaA O,aaA O]
  exact f
def pZ (T:Txt K mg Ad):gM P w K mg base Ad.dg "go_back" 2 ["self","ahead"] [] (D0 K Ad.dg):=by
 refine T.sJ.fS db λ Z Z Z Z Z H vs Q E hr h=>?_
 obtain ⟨x,D,I,C,u,B,S0,pa,ah,rows,rfl,Tu,Wc,a1,aC,R1,lr,k⟩:=h
 refine ⟨_,(ac (cT (i:=2) db.nd ai)
     (am (l7 aaF (aH jw (pv 2) (aS bv (by rfl) T.dZ cD (aa (aM (pv 0) rfl) af)) (aK _)) (ac (cT (i:=3) db.nd (aF az (aM (pv 0) rfl) (pv 2)))
     (ac (dB aaF rfl (bY (aF az (pv 1) (pv 3))) (dC (K:=K) (n:=2) rfl rfl (aO (iJ (i:=4) db.nd) (aO (iJ (i:=5) db.nd) dD))) (am (br (aH ji (aF az (aF az (aM (pv 0) rfl) (pv 4)) (pv 5)) cG (aK _)) (am (bp (aR (pv 0) T.cq (nE (P:=P) (w:=w) T) .nil hr.m (aa (pv 4) (aa (pv 5) (aa (aF az (aM (pv 0) rfl) (pv 3)) af)))))) aI)))
     (am (L0 (i:=2) db.nd rfl (lc rfl) ai NJ))))))),?_⟩
 try dsimp only [eQ,aW]
 refine ⟨λ mz U f=>(E3 λ S F d=>A8 (gw (GR D I C u B) H f) (ic Ad.dg f x D I C u B S) (ia rows S F) (fR rows S) (∀ i j,i<d->S.queue[i]?=some j->yt rows S j) (∀ i j k,d<=i->S.queue[i]?=some j->S.bF[j]?=some (some k)->F<=k) (mz=2000 - d) (E3 λ (v3 W Y:eE)=>U=[some (.ref x),some (.ref pa),some (ao d),v3,W,Y])),
   ⟨_,S0,0,0,λ Z Z h Z=>h,Tu,Wc,a1,λ i j h=>absurd h (abd _),λ Z Z Z Z Z Z=>aaT _,rfl,none,none,none,rfl⟩,?_⟩
 rintro mz U H1 ⟨S,F,d,b1,V,ok,nd,gd,lo,rfl,v3,W,Y,rfl⟩
 obtain ⟨dx,hx⟩:=V.ins
 have ql:=ok.ql
 refine ⟨_,rfl,_,rfl,x,_,dx,_,_,rfl,hx,T.cq,T.gt,rfl,u,_,rfl,.inl (bh.of V.Uo),λ y ey=>⟨_,_,rfl,rfl,_,rfl,fP (λ h=>?_) (λ h=>?_)⟩⟩
 .
  rw [OG] at ey
  have hi:d<S.queue.length:=by lia
  have R:S.queue[d]?=some S.queue[d]:=SN hi
  generalize S.queue[d]=j at R
  obtain ⟨kk,ek⟩:=(ok.qu j).mp (aag R)
  have yR:=ok.up (lo d j kk (aaj _) R ek)
  have hj:j<ah.length:=by rw [R1.1,<- ok.lk];exact (Ba.mp ek).1
  have ea:ah[j]?=some ah[j]:=SN hj
  generalize ah[j]=l at ea
  refine ⟨λ an f=>∃ s,A6 (gw (GR D I C u B) H f) (ic Ad.dg f x D I C u B s) (ia rows s kk) (AL S s) (yt rows s j) (E3 λ (v3 W Y:eE)=>an=[some (.ref x),some (.ref pa),some (ao (d+1)),v3,W,Y]),
    λ an f ⟨s,b',LI,Ll,X,gj,w3,w4,w5,e⟩=>⟨2000 - (d+1),by lia,s,kk,d+1,b',LI,Ll,nd.more X,λ i a hi e=>?_,λ i a k hi e N=>?_,rfl,w3,w4,w5,e⟩,?_⟩
  .
   by_cases q:i=d
   . rw [q,X.at R] at e
     cases e
     exact gj
   . have hq:i<S.queue.length:=by lia
     have G:=X.at (SN hq)
     rw [e] at G
     cases G
     exact (gd i _ (by lia) (SN hq)).more X
  .
   obtain ⟨i1,O⟩:=Ba.mp (X.at R)
   obtain ⟨i2,G⟩:=Ba.mp e
   have:=List.pairwise_iff_getElem.mp Ll.Xv d i i1 i2 (by lia)
   rw [O,G] at this
   exact this kk k (X.rk _ _ ek) N
  obtain ⟨va,Ue,a3,ad⟩:=aC.but b1 (C1 Tu.vb b1)
  obtain ⟨q,Cm⟩:∃ q,va[j]?=some (.ref q)/\q∉GR D I C u B/\∃ vs,H1 q=some (.lst vs)/\Refs (λ b (pc:Nat×Nat)=>bR K H1 b [ao pc.1,ao pc.2]) vs l:=by
    have hv:j<va.length:=by rw [ad.length];exact hj
    obtain ⟨q,l',eq,o,z⟩:=ad.get (SN hv)
    rw [ea] at o
    cases o
    exact ⟨q,by rw [SN hv,eq],z⟩
  obtain ⟨eq,nq,vs,hq,ae⟩:=Cm
  refine ⟨_,rfl,x,_,dx,_,_,rfl,hx,T.cq,T.gt,rfl,_,rfl,u,_,_,_,rfl,rfl,.inl (bh.of V.Uo),bZ (by rw [aab,R];rfl),?_⟩
  refine ⟨_,rfl,_,rfl,pa,_,_,_,rfl,rfl,.inl (bh.of Ue),bZ eq,q,rfl,⟨_,bh.of hq⟩,?_⟩
  refine gJ (K:=K) (a:=q) (xs:=vs) (λ i U f=>∃ s,A7 (gw (GR D I C u B) H f) (gw (GR D I C u B) H1 f) (ic Ad.dg f x D I C u B s) (ia rows s kk) (AL S s) (∀ p c,(p,c)∈l.take i->∃ t L,s.bG[p]?=some L/\L[c]?=some (some t)) (E2 λ (W Y:eE)=>U=[some (.ref x),some (.ref pa),some (ao d),some (ao j),W,Y])) ⟨S,b1,λ Z Z h Z=>h,V,yR,AL.refl S,λ p c h=>by simp at h,_,_,rfl⟩ (λ i U f Z ⟨_,_,b,_,_,_,_,_⟩=>bh.of (b _ _ hq nq)) ?_ ?_
  .
   rintro Z i v U H2 hv ⟨g,b2,Lc,J,A,X,tk,w4,w5,rfl⟩
   obtain ⟨b,⟨p,c⟩,rfl,es,aX⟩:=ae.get hv
   obtain ⟨r,js,N,ec,DP⟩:=(R1.2 j l p c ea).mp (aag es)
   have hp:p<rows.length:=(Ba.mp N).1
   have Ee:p<g.bG.length:=by rw [A.ll];exact hp
   have zd:p<g.dh.length:=by rw [A.lg];exact hp
   have Ch:p<B.length:=by rw [J.len];exact Ee
   have o:=SN Ee
   have eg:=SN zd
   have ab:=SN Ch
   have hc:c<g.bG[p].length:=by rw [A.sh p _ _ o N];exact (Ba.mp ec).1
   have M:=SN hc
   have vW:=J.CF p _ _ ab o
   obtain ⟨yU,uk⟩:=J.ins
   have T2:aQ K H1 H2:=C1 V.vb Lc
   refine ⟨b,_,rfl,T2 _ _ aX,rfl,_,_,rfl,_,_,rfl,rfl,?_⟩
   refine ⟨_,rfl,x,_,yU,_,_,rfl,uk,T.cq,T.jc,rfl,_,rfl,D,_,_,_,rfl,rfl,.inl (bh.of J.ZF),bZ (by rw [aab,ab];rfl),_,rfl,B[p],_,_,_,rfl,rfl,.inl (bh.of vW),bZ (by rw [aab,M];rfl),rfl,_,rfl,?_⟩
   have aj:∀ {S2:jJ},AL g S2->(∃ t L,S2.bG[p]?=some L/\L[c]?=some (some t))->∀ p' c',(p',c')∈l.take (i+1)->∃ t L,S2.bG[p']?=some L/\L[c']?=some (some t):=λ x2 hh p' c' hm=>by
     rw [bM es] at hm
     rcases aar.mp hm with z|z
     . obtain ⟨t,L,O,G⟩:=tk p' c' z
       obtain ⟨a0,f1,f2⟩:=x2.la _ _ _ _ O G
       exact ⟨t,a0,f1,f2⟩
     . cases aae.mp z
       exact hh
   cases q0:g.bG[p][c] with
   | some t =>
     rw [q0] at M
     refine fc ⟨g,b2,Lc,J,A,X,aj (AL.refl _) ⟨t,_,o,M⟩,_,_,rfl⟩
   | none =>
     rw [q0] at M
     have en:=A.go p _ _ o eg
     have n0:g.dh[p]≠0:=λ z=>by
       rw [z] at en
       exact abM.mp en.symm _ (aag M) rfl
     have Qv:=X.rk _ _ ek
     have a2:tU rows g.bF p c kk:=⟨r,N,.inr ⟨js,ec,j,DP,Qv⟩⟩
     refine ge ⟨_,rfl,x,yU,_,rfl,uk,rfl,_,rfl,_,rfl,_,rfl,x,_,yU,_,_,rfl,uk,T.cq,T.fw,rfl,_,rfl,C,_,_,_,rfl,rfl,.inl (bh.of J.SF),bZ (by rw [aab,Qv];rfl),x,D,I,C,u,B,g,p,c,kk,_,_,rfl,J,o,hc,eg,n0,by rw [A.lk];exact hp,aaz A.ql (aaz lr (by decide)),λ H3 b3 aD=>?_⟩
     refine ⟨_,zW b2 b3,zW Lc b3,aD,A.fin o eg M a2,X.trans (A.SS o eg M),aj (A.SS o eg M) ⟨kk,_,cX.mpr (.inl ⟨rfl,Ee,rfl⟩),cX.mpr (.inl ⟨rfl,hc,rfl⟩)⟩,_,_,rfl⟩
  .
   rintro U H2 ⟨g,b2,Lc,J,A,X,tk,w4,w5,rfl⟩
   rw [ae.length,aaC] at tk
   refine ⟨_,rfl,_,_,rfl,rfl,g,b2,J,A,X,λ p r c js N ec DP=>?_,_,_,_,rfl⟩
   obtain ⟨t,L,O,G⟩:=tk p c ((R1.2 j l p c ea).mpr ⟨r,js,N,ec,DP⟩)
   exact ⟨L,t,kk,O,G,X.rk _ _ ek,A.lo _ _ _ _ O G⟩
 .
  rw [OG] at ey
  refine k H1 S F b1 V ok nd λ j hj=>?_
  obtain ⟨i,hi,rfl⟩:=abg.mp hj
  exact gd i _ (by lia) (SN hi)
def rG (T:Txt K mg Ad):Def P w K mg base "choices_ahead" 1 ["rows"] (Gn K):=by
 refine T.sM.cW cC λ Z Z Z Z Z H vs Q E hr h=>?_
 obtain ⟨G,vr,rows,rfl,oQ,dr,lr,hb,k⟩:=h
 refine ⟨_,(ac (uR (yi:=1) ["row"] [] [] .nil rfl (bY (pv 0)) (λ Z Z Z Z Z=>(mG (i:=0))) (λ Z Z Z Z Z=>cJ) (λ Z Z Z Z Z=>(dA af)) cC.nd (lc rfl))
     (ac (dB aaF rfl (rj rfl T.dQ (aa (pv 0) af)) (dC (K:=K) (n:=2) rfl rfl (aO (iJ (i:=2) cC.nd) (aO (iJ (i:=3) cC.nd) dD))) (am (dB aaF rfl (rj rfl T.dQ (aa (pv 3) af)) (dC (K:=K) (n:=2) rfl rfl (aO (iJ (i:=4) cC.nd) (aO (iJ (i:=5) cC.nd) dD))) (am (br (aH px (pv 5) cG (aK _)) (am (dB aaF rfl (bY (pv 5)) (iJ (i:=6) cC.nd) (am (bp (iG aaI aaN aaM cI (aF az (pv 1) (pv 6)) (aa (cg (aa (pv 2) (aa (pv 4) af))) af)))))) aI)))))
     (am (aG (pv 1))))),?_⟩
 try dsimp only [eQ,aW]
 try (refine cV ?_;intro Z Z Z Z)
 have lv:vr.length=rows.length:=by rw [dr.length,OG]
 refine ⟨_,rfl,G,rfl,⟨_,bh.of oQ⟩,λ D hD=>?_⟩
 have s0:=al (o:=.lst []) hD
 have a0:Af K H (upd H D (.lst [])) D [] []:=⟨s0,λ b hb=>by rw [aae.mp hb];exact hD,aaR.mpr ⟨aaf,ach⟩,rfl,ag,λ j b l e=>by simp at e⟩
 refine cE (K:=K) (a:=G) (xs:=vr) (λ i f g c=>∃ as,A3 (Af K H c D as ((rows.take i).map λ Z=>[])) (f=as.map .ref) (∃ v,g=[v])) ⟨[],a0,rfl,none,rfl⟩ (λ i f g c Z ⟨_,h,_,_⟩=>bh.of (h.sm _ _ oQ)) ?_ ?_
 .
  rintro i y f g H1 hy ⟨as,m,rfl,v,rfl⟩
  have hi:i<rows.length:=by rw [<- lv];exact (Ba.mp hy).1
  have la:=m.le
  rw [OG,aaD] at la
  refine ⟨HD,λ q M=>⟨al M _ _ m.hp,aav (show (as.map V.ref).length<=100000 by rw [OG];lia) (by decide),as++[q],?_,by rw [aah];rfl,_,rfl⟩⟩
  rw [bM (SN hi),aah]
  exact m.row M
 rintro f g H1 ⟨as,m,rfl,v,rfl⟩
 rw [lv,aaC] at m
 have I:∀ {FD q xs},aE H FD->bh K H q xs->bh K FD q xs:=λ S e=>by
   rcases e with (e|⟨o,e⟩)|e
   . exact .inl (.inl (S _ _ e))
   . exact .inl (.inr ⟨o,S _ _ e⟩)
   . exact .inr e
 refine ⟨_,rfl,G,rfl,⟨_,bh.of (m.sm _ _ oQ)⟩,?_⟩
 refine xf (sq:=bh K) (xs:=vr) (λ i U c=>∃ A,A4 (Af K H c D as A) (my rows i 0 0 A) (xU (i * 16 * 400) A) (E5 λ (v2 v3 Y v5 u:eE)=>U=[some (.ref G),some (.ref D),v2,v3,Y,v5,u])) ⟨_,m,my.zero rows,λ j l e=>?_,none,none,none,none,none,rfl⟩ (λ i U c Z ⟨_,h,_,_,_⟩=>bh.of (h.sm _ _ oQ)) ?_ ?_
 . rw [aab] at e
   obtain ⟨r,Z,rfl⟩:=abb.mp e
   exact aaT _
 .
  rintro i x pp U H2 hx tP ⟨A,a2,t2,l2,v2,v3,Y,v5,u,rfl⟩
  have hi:i<rows.length:=by rw [<- lv];exact (Ba.mp hx).1
  have s:=SN hi
  generalize rows[i]=r at s
  obtain ⟨x',ex,dx⟩:=dr.get (d:=rT r) (by rw [aab,s];rfl)
  rw [hx] at ex
  cases ex
  obtain ⟨q,xs,rfl,M,dq⟩:=dx
  have lq:xs.length=r.length:=by rw [dq.length,OG]
  have bd:=hb r (aag s)
  refine ⟨pp,_,rfl,bR.of ag,rfl,_,_,rfl,_,_,rfl,rfl,?_⟩
  have a3:=a2.same (al (o:=.tup [ao i,.ref q]) tP)
  generalize upd H2 pp (.tup [ao i,.ref q])=H3 at a3 |-
  refine ⟨_,rfl,q,rfl,⟨_,I a3.sm M⟩,?_⟩
  refine xf (sq:=bh K) (xs:=xs) (λ n U c=>∃ A,A4 (Af K H c D as A) (my rows i n 0 A) (xU ((i * 16+n) * 400) A) (E3 λ (Y v5 u:eE)=>U=[some (.ref G),some (.ref D),some (ao i),some (.ref q),Y,v5,u])) ⟨_,a3,t2,l2,_,_,_,rfl⟩ (λ i U c Z ⟨_,h,_,_,_⟩=>I h.sm M) ?_ ?_
  .
   rintro n y OW U H4 hy LZ ⟨TX,a4,W,O,w4,w5,w6,rfl⟩
   have hn:n<r.length:=by rw [<- lq];exact (Ba.mp hy).1
   have F:=SN hn
   generalize r[n]=vv at F
   obtain ⟨y',ey,dy⟩:=dq.get (d:=tV vv) (by rw [aab,F];rfl)
   rw [hy] at ey
   cases ey
   refine ⟨OW,_,rfl,bR.of ag,rfl,_,_,rfl,_,_,rfl,rfl,?_⟩
   have a5:=a4.same (al (o:=.tup [ao n,y]) LZ)
   generalize upd H4 OW (.tup [ao n,y])=H5 at a5 |-
   cases vv with
   | none =>
     obtain rfl:y = .cB:=dy
     exact ⟨_,rfl,rfl,_,rfl,fc ⟨TX,a5,W.LW s F (λ Z z=>by cases z),O.mono (by lia),_,_,_,rfl⟩⟩
   | some js =>
     obtain ⟨q2,ys,rfl,yI,ab⟩:=dy
     obtain rfl:=wa ab
     obtain ⟨lj,hj⟩:=bd.2 js (aag F)
     refine ⟨_,rfl,rfl,_,rfl,ge ?_⟩
     refine ⟨_,rfl,q2,rfl,⟨_,I a5.sm yI⟩,?_⟩
     refine gJ (K:=K) (a:=q2) (xs:=js.map ao) (λ kx U c=>∃ A,A4 (Af K H c D as A) (my rows i n kx A) (xU ((i * 16+n) * 400+kx) A) (∃ (u:eE),U=[some (.ref G),some (.ref D),some (ao i),some (.ref q),some (ao n),some (.ref q2),u])) ⟨TX,a5,W,by rw [ad5];exact O,_,rfl⟩ (λ i U c Z ⟨_,h,_,_,_⟩=>I h.sm yI) ?_ ?_
     .
      rintro Z kx z U H6 hz ⟨UA,B,X,R,u6,rfl⟩
      rw [aab] at hz
      obtain ⟨j,ej,rfl⟩:=abb.mp hz
      have Rv:=hj j (aag ej)
      have L:j<UA.length:=by rw [X.1];exact Rv
      have DP:j<as.length:=by rw [B.le];exact L
      have C:=SN L
      have eb:=SN DP
      have hk:kx<js.length:=(Ba.mp ej).1
      generalize UA[j]=la at C
      generalize as[j]=b at eb
      refine ⟨_,rfl,_,rfl,D,_,_,_,rfl,rfl,.inl (bh.of B.hp),bZ (by rw [aab,eb];rfl),?_⟩
      obtain ⟨vs,J,Pj⟩:=B.CF j b la eb C
      refine ⟨.inl ⟨rfl,_,bh.of J⟩,_,rfl,_,rfl,Io,λ t ht=>?_⟩
      have st:=al (o:=.tup [ao i,ao n]) ht
      have a7:=B.same st
      have W3:=st _ _ J
      have Zq:=Pj.imp λ p (pc:Nat×Nat) z=>st.ts (K:=K) _ _ z
      have N:bR K (upd H6 t (.tup [ao i,ao n])) t [ao i,ao n]:=bR.of ag
      generalize upd H6 t (.tup [ao i,ao n])=H7 at a7 W3 Zq N |-
      have le:=R j la C
      refine ⟨b,vs,_,rfl,rfl,W3,aav (show vs.length<=14000000 by rw [Zq.length];lia) (by decide),_,a7.put eb C W3 Zq N,X.put s F ej C,by rw [<- Nat.add_assoc];exact R.put C,_,rfl⟩
     . rintro U H6 ⟨UA,B,X,R,u6,rfl⟩
       rw [OG] at X R
       exact ⟨UA,B,X.LW s F (λ Z z=>by cases z;rfl),R.mono (by lia),_,_,_,rfl⟩
  . rintro U H4 ⟨TX,a4,W,O,w4,w5,w6,rfl⟩
    rw [lq] at W O
    exact ⟨TX,a4,W.Rf s,O.mono (by have:=bd.1;lia),_,_,_,_,_,rfl⟩
 . rintro U H2 ⟨A,a2,t2,l2,v2,v3,Y,v5,u,rfl⟩
   rw [lv] at t2
   exact ⟨_,rfl,k D as A H2 a2 t2.done⟩
def n9 (T:Txt K mg Ad):gM P w K mg base Ad.dg "__init__" 3 ["self","game"] [] (HZ P w K Ad.cS Ad.dg):=by
 refine T.qx.fS dM λ Z Z Z Z Z H vs Q E hr h=>?_
 obtain ⟨x,J,y,pm,po,W,pd,aj,g,rfl,hx,hg,N,k⟩:=h
 refine ⟨_,(ac (di (pv 0) (fT ["choices"] [] [] .nil rfl (bY (aM (pv 1) rfl)) (λ Z Z Z Z Z=>(mG (i:=0))) (λ Z Z Z Z Z=>cJ) (λ Z Z Z Z Z=>(fT ["row"] [] [] .nil rfl (Gu (K:=K) rfl (pv 0)) (λ Z Z Z Z Z=>(mG (i:=0))) (λ Z Z Z Z Z=>cJ) (λ Z Z Z Z Z=>cG)))) rfl)
     (ac (di (pv 0) (fT ["choices"] [] [] .nil rfl (bY (aM (pv 1) rfl)) (λ Z Z Z Z Z=>(mG (i:=0))) (λ Z Z Z Z Z=>cJ) (λ Z Z Z Z Z=>(aS (D8 (K:=K) rfl) (by rfl) T.dZ cD (aa (pv 0) af)))) rfl)
     (ac (di (pv 0) (fT ["many"] [] [] .nil rfl (bY (aM (pv 0) rfl)) (λ Z Z Z Z Z=>(mG (i:=0))) (λ Z Z Z Z Z=>cJ) (λ Z Z Z Z Z=>(jf (aH dE (pv 0) ai (aK _)) ai cG))) rfl)
     (ac (di (pv 0) (fT ["place","rank"] [] [] .nil rfl (rj rfl T.dQ (aa (aM (pv 0) rfl) af)) (λ Z Z Z Z Z=>(dC (K:=K) (n:=2) rfl rfl (aO (mG (i:=0)) (aO (mG (i:=1)) dD)))) (λ Z Z Z Z Z=>(kz (aH dE (pv 1) ai (aK _)))) (λ Z Z Z Z Z=>(pv 0))) rfl)
     (ac (dB aaF rfl (rj rfl T.dQ (aa (aM (pv 1) rfl) af)) (dC (K:=K) (n:=2) rfl rfl (aO (iJ (i:=2) dM.nd) (aO (iJ (i:=3) dM.nd) dD))) (am (dB aaF rfl (rj rfl T.dQ (aa (pv 3) af)) (dC (K:=K) (n:=2) rfl rfl (aO (iJ (i:=4) dM.nd) (aO (iJ (i:=5) dM.nd) dD))) (am (br (aH ji (pv 5) cG (aK _)) (am (bp (aR (pv 0) T.cq (nE (P:=P) (w:=w) T) .nil hr.m (aa (pv 2) (aa (pv 4) (aa ai af)))))) aI)))))
     (am (bp (aR (pv 0) T.cq (pZ (P:=P) (w:=w) T) .nil hr.m (aa (au (rG T) hr.m (aa (aM (pv 1) rfl) af)) af))))))))),?_⟩
 try dsimp only [eQ,aW]
 try (refine pY ?_;intro Z Z Z Z Z Z Z)
 obtain ⟨dy,hy⟩:=hg.ins
 obtain ⟨vr,oQ,dr⟩:=hg.rows
 have Zc:=bC.same hZ _ dr
 have lv:vr.length=g.rows.length:=by rw [dr.length,OG]
 refine ⟨_,rfl,y,_,dy,_,_,rfl,hy,T.bW,T.dU,rfl,W,rfl,⟨_,bh.of oQ⟩,λ C gW=>?_⟩
 have s0:=al (o:=.lst []) gW
 have a0:LY H (upd H C (.lst [])) C [] []:=⟨s0,λ b N=>by rw [aae.mp N];exact gW,aaR.mpr ⟨aaf,ach⟩,rfl,ag,λ j b l e=>by simp at e⟩
 refine cE (K:=K) (a:=W) (xs:=vr) (λ i A f s=>∃ O,A3 (LY H s C O ((g.rows.take i).map λ r=>r.map λ Z=>none)) (A=O.map .ref) (∃ v,f=[v])) ⟨[],a0,rfl,none,rfl⟩ (λ i A f s Z ⟨_,h,_,_⟩=>bh.of (h.sm _ _ oQ)) ?_ ?_
 .
  rintro i v A f H1 F ⟨O,X,rfl,v0,rfl⟩
  have M:i<g.rows.length:=by rw [<- lv];exact (Ba.mp F).1
  have t:=SN M
  obtain ⟨v',ev,dv⟩:=Zc.get (d:=rT g.rows[i]) (by rw [aab,t];rfl)
  rw [F] at ev
  cases ev
  obtain ⟨q,xs,rfl,hq,dq⟩:=dv
  have lq:xs.length=g.rows[i].length:=by rw [dq.length,OG]
  have lb:=(N.2 _ (aay M)).1
  have la:=X.le
  rw [OG,aaD] at la
  refine ⟨_,rfl,q,rfl,⟨_,hq.sm X.sm⟩,λ D hD=>?_⟩
  refine cE (K:=K) (a:=q) (xs:=xs) (λ j gz ab s=>s=upd H1 D (.lst gz)/\gz=List.replicate j .cB/\∃ v,ab=[v]) ⟨rfl,rfl,none,rfl⟩ (λ j gz ab s Z ⟨e,_,_⟩=>by rw [e];exact (hq.sm X.sm).sm (al hD)) ?_ ?_
  . rintro j u gz ab H2 hu ⟨rfl,rfl,v2,rfl⟩
    have hj:j<xs.length:=(Ba.mp hu).1
    exact ⟨ag,aav (show (List.replicate j V.cB).length<=100000 by rw [ack];lia) (by decide),mL,List.replicate_succ'.symm,_,rfl⟩
  .
   rintro gz ab H2 ⟨rfl,rfl,v2,rfl⟩
   have en:List.replicate xs.length V.cB=(g.rows[i].map λ Z=>(none:Option Nat)).map jF:=by
     rw [lq,abJ]
     exact (List.map_const' ..).symm
   refine ⟨al hD _ _ X.hp,aav (show (O.map V.ref).length<=100000 by rw [OG];have:=N.1;lia) (by decide),O++[D],?_,by rw [aah];rfl,_,rfl⟩
   rw [bM t,aah,en]
   exact X.row hD
 rintro A f H1 ⟨O,X,rfl,v,rfl⟩
 rw [lv,aaC] at X
 have la:=X.le
 rw [OG] at la
 have B0:=X.rkb (K:=K) hx
 generalize Z2:(g.rows.map λ r=>r.map λ Z=>(none:Option Nat))=a4 at B0
 refine ⟨_,rfl,x,_,J,_,rfl,B0.b.at_,T.cq,T.jc,lt1000 rfl,?_⟩
 have B1:=B0.put (fs':=aL "lasts" (.ref C) [])
 have ny:y≠x:=λ z=>by rw [z,hx] at hy;injection hy with h;injection h with _ _ h;cases h
 have nr:W≠x:=λ z=>by rw [z,hx] at oQ;cases oQ
 have rd:∀ {s fs L},Be K Ad.dg x J H s fs L->s y=some (.ins Ad.cS dy (Qf pm po W pd aj))/\s W=some (.lst vr)/\bC K s (g.rows.map rT) vr:=λ B=>⟨B.b.st _ _ hy ny,B.b.st _ _ oQ nr,bC.same hZ _ (bC.xz hx rfl (λ c u e n Z=>B.b.st c u e n) dr)⟩
 generalize upd H1 x (.ins Ad.dg J (aL "lasts" (.ref C) []))=H2 at B1 |-
 obtain ⟨UT,PJ,aD⟩:=rd B1
 refine ⟨_,rfl,y,_,dy,_,_,rfl,UT,T.bW,T.dU,rfl,W,rfl,⟨_,bh.of PJ⟩,λ G Kl=>?_⟩
 refine cE (K:=K) (a:=W) (xs:=vr) (λ i A f s=>A3 (s=upd H2 G (.lst A)) (A=(g.rows.take i).map (λ r:bS=>ao r.length)) (∃ v,f=[v])) ⟨rfl,rfl,none,rfl⟩ (λ i A f s Z ⟨e,_,_⟩=>by rw [e];exact bh.of (al Kl _ _ PJ)) ?_ ?_
 .
  rintro i v A f H3 F ⟨rfl,rfl,v0,rfl⟩
  have M:i<g.rows.length:=by rw [<- lv];exact (Ba.mp F).1
  have t:=SN M
  obtain ⟨v',ev,dv⟩:=aD.get (d:=rT g.rows[i]) (by rw [aab,t];rfl)
  rw [F] at ev
  cases ev
  obtain ⟨q,xs,rfl,hq,dq⟩:=dv
  have lq:xs.length=g.rows[i].length:=by rw [dq.length,OG]
  refine ⟨_,rfl,q,xs,rfl,.inl (hq.sm (al Kl)),λ r Mf=>⟨ag,aav (show _<=100000 by rw [OG,aaD];have:=N.1;lia) (by decide),mL,?_,_,rfl⟩⟩
  rw [bM t,aah,Mf,lq]
  rfl
 rintro A f H3 ⟨rfl,rfl,v0,rfl⟩
 rw [lv,aaC]
 have B2:=B1.more (al (o:=.lst (g.rows.map λ r:bS=>ao r.length)) Kl) Kl ag
 refine ⟨_,rfl,x,_,J,_,rfl,B2.b.at_,T.cq,T.gp,lt1000 rfl,?_⟩
 have B3:=B2.put (fs':=aL "going" (.ref G) (aL "lasts" (.ref C) []))
 generalize upd (upd H2 G (.lst (g.rows.map λ r:bS=>ao r.length))) x (.ins Ad.dg J (aL "going" (.ref G) (aL "lasts" (.ref C) [])))=H4 at B3 |-
 have Rq:=(B3.at_ _ aas).1
 have lg:(g.rows.map λ r:bS=>ao r.length).length=g.rows.length:=OG ..
 refine ⟨_,rfl,x,_,J,_,_,rfl,B3.b.at_,T.cq,T.gp,rfl,G,rfl,⟨_,bh.of Rq⟩,λ I QT=>?_⟩
 refine cE (K:=K) (a:=G) (xs:=g.rows.map λ r:bS=>ao r.length) (λ i A f s=>A3 (s=upd H4 I (.lst A)) (A=(g.rows.take i).map (λ r:bS=>jF (if r.length=0 then some 0 else none))) (∃ v,f=[v])) ⟨rfl,rfl,none,rfl⟩ (λ i A f s Z ⟨e,_,_⟩=>by rw [e];exact bh.of (al QT _ _ Rq)) ?_ ?_
 .
  rintro i v A f H5 F ⟨rfl,rfl,v0,rfl⟩
  have M:i<g.rows.length:=by rw [<- lg];exact (Ba.mp F).1
  have t:=SN M
  rw [aab,t] at F
  cases F
  have nx:(upd H4 I (.lst ((g.rows.take i).map (λ r:bS=>jF (if r.length=0 then some 0 else none))))) I=some (.lst ((g.rows.take i).map (λ r:bS=>jF (if r.length=0 then some 0 else none))))/\((g.rows.take i).map (λ r:bS=>jF (if r.length=0 then some 0 else none))).length<sizeLine:=⟨ag,aav (show _<=100000 by rw [OG,aaD];have:=N.1;lia) (by decide)⟩
  refine ⟨_,rfl,rfl,_,rfl,?_⟩
  by_cases Y:g.rows[i].length=0
  . rw [show decide (ao g.rows[i].length=V.int 0)=true from aao (by rw [Y];rfl)]
    refine ge ⟨nx.1,nx.2,mL,?_,_,rfl⟩
    rw [bM t,aah,aek,aaE Y]
    rfl
  . rw [show decide (ao g.rows[i].length=V.int 0)=false from aam (λ z=>Y (by have:=V.int.inj z;lia))]
    refine fc ⟨nx.1,nx.2,mL,?_,_,rfl⟩
    rw [bM t,aah,aek,aaA Y]
    rfl
 rintro A f H5 ⟨rfl,rfl,v0,rfl⟩
 rw [lg,aaC]
 have B4:=B3.more (al (o:=.lst (g.rows.map λ r:bS=>jF (if r.length=0 then some 0 else none))) QT) QT ag
 refine ⟨_,rfl,x,_,J,_,rfl,B4.b.at_,T.cq,T.fw,lt1000 rfl,?_⟩
 have B5:=B4.put (fs':=aL "ranks" (.ref I) (aL "going" (.ref G) (aL "lasts" (.ref C) [])))
 generalize upd (upd H4 I (.lst (g.rows.map λ r:bS=>jF (if r.length=0 then some 0 else none)))) x (.ins Ad.dg J (aL "ranks" (.ref I) (aL "going" (.ref G) (aL "lasts" (.ref C) []))))=H6 at B5 |-
 have RP:=(B5.at_ _ aas).1
 have lk:(g.rows.map λ r:bS=>jF (if r.length=0 then some 0 else none)).length=g.rows.length:=OG ..
 refine ⟨_,rfl,x,_,J,_,_,rfl,B5.b.at_,T.cq,T.fw,rfl,I,rfl,⟨_,bh.of RP⟩,λ pq HY=>?_⟩
 refine jZ (sq:=bh K) (a:=I) (xs:=g.rows.map λ r:bS=>jF (if r.length=0 then some 0 else none)) (λ i A f s=>A4 (aE H6 s) (s pq=some (.lst A)) (A=((List.range i).filter λ p=>g.rows[p]? == some []).map ao) (E2 λ v w=>f=[v,w])) ⟨al HY,ag,rfl,none,none,rfl⟩ (λ i A f s Z ⟨e,_,_,_⟩=>bh.of (e _ _ RP)) ?_ ?_
 .
  rintro i v p A f H7 F hp ⟨s7,TL,rfl,v0,w0,rfl⟩
  have M:i<g.rows.length:=by rw [<- lk];exact (Ba.mp F).1
  have t:=SN M
  rw [aab,t] at F
  obtain rfl:v=jF (if g.rows[i].length=0 then some 0 else none):=(aap F).symm
  have s8:=al (o:=.tup [ao i,jF (if g.rows[i].length=0 then some 0 else none)]) hp
  refine ⟨p,_,rfl,bR.of ag,rfl,_,_,rfl,_,_,rfl,rfl,?_⟩
  have ZC:=s8 _ _ TL
  have ND:=s7.trans s8
  generalize upd H7 p (.tup [ao i,jF (if g.rows[i].length=0 then some 0 else none)])=H8 at ZC ND |-
  have lf:(((List.range i).filter λ p=>g.rows[p]? == some []).map ao).length<=100000:=by
    rw [OG]
    have:=aa4 (λ p=>g.rows[p]? == some []) (List.range i)
    rw [aaq] at this
    have:=N.1
    lia
  have rs:(List.range (i+1)).filter (λ p=>g.rows[p]? == some [])=(List.range i).filter (λ p=>g.rows[p]? == some [])++[i].filter (λ p=>g.rows[p]? == some []):=by
    rw [aa2,abm]
  by_cases Y:g.rows[i].length=0
  .
   have e1:[i].filter (λ p=>g.rows[p]? == some [])=[i]:=by
     have:=abL.mp Y
     simp [t,this]
   rw [aaE Y]
   refine ⟨_,rfl,rfl,_,rfl,ge ⟨_,rfl,ZC,aav lf (by decide),λ b u e=>?_,ag,?_,_,_,rfl⟩⟩
   . rw [ar (aw e HY)];exact ND b u e
   . rw [rs,e1,aah];rfl
  .
   have e1:[i].filter (λ p=>g.rows[p]? == some [])=[]:=by
     have:g.rows[i]≠[]:=λ z=>Y (by rw [z];rfl)
     simp [t,this]
   rw [aaA Y]
   refine ⟨_,rfl,rfl,_,rfl,fc ⟨ND,ZC,?_,_,_,rfl⟩⟩
   rw [rs,e1,aa9]
 rintro A f H7 ⟨s7,TL,rfl,v0,w0,rfl⟩
 rw [lk] at TL
 have B6:=B5.more s7 HY TL
 refine ⟨_,rfl,x,_,J,_,rfl,B6.b.at_,T.cq,T.gt,lt1000 rfl,?_⟩
 have B7:=B6.put (fs':=aL "queue" (.ref pq) (aL "ranks" (.ref I) (aL "going" (.ref G) (aL "lasts" (.ref C) []))))
 generalize upd H7 x (.ins Ad.dg J (aL "queue" (.ref pq) (aL "ranks" (.ref I) (aL "going" (.ref G) (aL "lasts" (.ref C) [])))))=H8 at B7 |-
 have R8:ic Ad.dg H8 x C G I pq O (Kp g.rows):=by
   refine Be.rk (K:=K) (dx:=J) (H:=H) ?_ (by rw [la];exact (OG ..).symm)
   rw [show (Kp g.rows).bF.map jF=g.rows.map (λ r:bS=>jF (if r.length=0 then some 0 else none)) from abJ,show (Kp g.rows).dh.map ao=g.rows.map (λ r:bS=>ao r.length) from abJ,show (Kp g.rows).bG=a4 from Z2]
   exact B7
 have Tf:=B7.Tf (by rw [la,<- Z2];exact (OG ..).symm)
 have b8:=B7.fr
 have t8:=B7.b.ts
 clear B0 B1 B2 B3 B4 B5 B6 B7
 have WK:∀ {s},gw [x] H s->s y=some (.ins Ad.cS dy (Qf pm po W pd aj))/\s W=some (.lst vr)/\bC K s (g.rows.map rT) vr:=λ b=>⟨b _ _ hy (by simp [ny]),b _ _ oQ (by simp [nr]),bC.same hZ _ (bC.xz hx rfl (λ c u e n Z=>b c u e (by simp [n])) dr)⟩
 obtain ⟨a2,VQ,Us⟩:=WK b8
 refine ⟨_,rfl,y,_,dy,_,_,rfl,a2,T.bW,T.dU,rfl,W,rfl,⟨_,bh.of VQ⟩,?_⟩
 refine xf (sq:=bh K) (xs:=vr) (λ i U s=>∃ S,A5 (gw [x] H s) (aQ K H s) (ic Ad.dg s x C G I pq O S) (m6 g.rows S i 0) (E4 λ (v2 v3 v4 v5:eE)=>U=[some (.ref x),some (.ref y),v2,v3,v4,v5])) ⟨_,b8,t8,R8,m6.zero _,none,none,none,none,rfl⟩ (λ i U s Z ⟨_,b,_,_,_,_⟩=>bh.of (WK b).2.1) ?_ ?_
 .
  rintro i v pp U H9 F tP ⟨S,b9,t9,R9,RR,v2,v3,v4,v5,rfl⟩
  have M:i<g.rows.length:=by rw [<- lv];exact (Ba.mp F).1
  have t:=SN M
  generalize g.rows[i]=r at t
  have bd:=N.2 r (aag t)
  have BH:=al (o:=.tup [ao i,v]) tP
  refine ⟨pp,_,rfl,bR.of ag,rfl,_,_,rfl,_,_,rfl,rfl,?_⟩
  have Kk:gw [x] H _:=λ c u e n=>BH c u (b9 c u e n)
  have K7:=t9.trans BH.ts
  have Z0:=R9.same BH
  generalize upd H9 pp (.tup [ao i,v])=IM at Kk K7 Z0 |-
  obtain ⟨v',ev,dv⟩:=dr.get (d:=rT r) (by rw [aab,t];rfl)
  rw [F] at ev
  cases ev
  obtain ⟨q,xs,rfl,hq,dq⟩:=dv
  have lq:xs.length=r.length:=by rw [dq.length,OG]
  have ae:∀ {s},gw [x] H s->bh K s q xs:=λ b=>by
    have nx:∀ {u},H q=some u->ma u=false->q∉[x]:=λ e n z=>by
      rw [aae.mp z,hx] at e
      cases e
      cases n
    rcases hq with (e|⟨o,e⟩)|e
    . exact .inl (.inl (b _ _ (hZ _ _ e) (nx (hZ _ _ e) rfl)))
    . exact .inl (.inr ⟨o,b _ _ (hZ _ _ e) (nx (hZ _ _ e) rfl)⟩)
    . exact .inr e
  refine ⟨_,rfl,q,rfl,⟨_,ae Kk⟩,?_⟩
  refine xf (sq:=bh K) (xs:=xs) (λ n U s=>∃ S,A5 (gw [x] H s) (aQ K H s) (ic Ad.dg s x C G I pq O S) (m6 g.rows S i n) (E2 λ (v4 v5:eE)=>U=[some (.ref x),some (.ref y),some (ao i),some (.ref q),v4,v5])) ⟨_,Kk,K7,Z0,RR,_,_,rfl⟩ (λ i U s Z ⟨_,b,_,_,_,_⟩=>ae b) ?_ ?_
  .
   rintro n u OW U Ef hu LZ ⟨S1,GO,MH,OS,R,w4,w5,rfl⟩
   have hn:n<r.length:=by rw [<- lq];exact (Ba.mp hu).1
   have ec:=SN hn
   generalize r[n]=vv at ec
   obtain ⟨u',eu,du⟩:=dq.get (d:=tV vv) (by rw [aab,ec];rfl)
   rw [hu] at eu
   cases eu
   have FA:=al (o:=.tup [ao n,u]) LZ
   refine ⟨OW,_,rfl,bR.of ag,rfl,_,_,rfl,_,_,rfl,rfl,?_⟩
   have Lc:gw [x] H _:=λ c z e m=>FA c z (GO c z e m)
   have PL:=MH.trans FA.ts
   have Sw:=OS.same FA
   generalize upd Ef OW (.tup [ao n,u])=a5 at Lc PL Sw |-
   cases vv with
   | some js =>
     obtain ⟨q2,ys,rfl,Z,Z⟩:=du
     exact ⟨_,rfl,rfl,_,rfl,fc ⟨S1,Lc,PL,Sw,R.skip t ec,_,_,rfl⟩⟩
   | none =>
     obtain rfl:u = .cB:=du
     have Ee:i<S1.bG.length:=by rw [R.ok.ll];exact M
     have zd:i<S1.dh.length:=by rw [R.ok.lg];exact M
     have el:=SN Ee
     have eg:=SN zd
     generalize S1.bG[i]=l at el
     generalize S1.dh[i]=m at eg
     have hc:n<l.length:=by rw [R.ok.sh i l r el t];exact hn
     have Fz:=R.un i l n el hc (.inr ⟨rfl,aaj _⟩)
     have en:=R.ok.go i _ _ el eg
     have n0:m≠0:=λ z=>by
       rw [z] at en
       exact abM.mp en.symm _ (aag Fz) rfl
     obtain ⟨yU,uk⟩:=Sw.ins
     refine ⟨_,rfl,rfl,_,rfl,ge ⟨_,rfl,x,yU,_,rfl,uk,rfl,_,rfl,_,rfl,x,C,G,I,pq,O,S1,i,n,0,m,l,rfl,Sw,el,hc,eg,n0,by rw [R.ok.lk];exact M,aaz R.ok.ql (aaz N.1 (by decide)),λ UD ad an=>?_⟩⟩
     refine ⟨_,λ c z e mx=>ad c z (Lc c z e mx) λ y=>?_,PL.trans (C1 Sw.vb ad),an,R.step t ec el eg,_,_,rfl⟩
     rw [Tf c y] at e
     cases e
  . rintro U Ef ⟨S1,GO,MH,OS,R,w4,w5,rfl⟩
    rw [lq] at R
    exact ⟨S1,GO,MH,OS,R.next t,_,_,_,_,rfl⟩
 .
  rintro U H9 ⟨S,b9,t9,R9,RR,v2,v3,v4,v5,rfl⟩
  rw [lv] at RR
  obtain ⟨Yb,XG⟩:=R9.ins
  obtain ⟨a3,Wy,aX⟩:=WK b9
  refine ⟨_,rfl,x,Yb,_,rfl,XG,rfl,_,rfl,y,_,dy,_,_,rfl,a3,T.bW,T.dU,rfl,W,vr,g.rows,rfl,Wy,aX,N.1,N.2,λ pa as ah IM IS R1=>?_⟩
  refine ⟨x,C,G,I,pq,O,S,pa,ah,g.rows,rfl,R9.same IS.sm,RR.ok,RR.done,IS.at R9,R1,N.1,λ Ef S' aC GO OS Bj Yp XV=>?_⟩
  exact k C G I pq O S' aC Ef (λ c z e mx=>GO c z (IS.sm c z (b9 c z e mx)) λ y=>by rw [Tf c y] at e;cases e) ((t9.trans IS.sm.ts).trans (C1 (R9.same IS.sm).vb GO)) OS Bj Yp XV
def Am (T:Txt K mg Ad):Nk P w K mg base "ranks_of" jW (.ref Ad.oh) 13 ["hold","states","limit"] (zP P w K Ad.aX):=by
 refine T.BZ.dok rY (λ vs H Q E h=>?_) (λ f Z Z Z s H vs Q E M h=>?_)
 . obtain ⟨a,q,L,fp,m,xs,l,rfl,Z⟩:=h
   rfl
 .
  obtain ⟨a,q,L,fp,m,xs,l,rfl,hh,gh,F,l2,rl,hq,yO,OB,k⟩:=h
  refine ⟨_,(ac (cT (i:=3) rY.nd (pS T.IV (pA (P:=P) (w:=w) T) .nil M.m T.Nb (aa (pv 0) (aa (pv 1) (aa (pv 2) af)))))
    (am (aG (Bv (P:=P) (w:=w) (K:=K) rfl rfl rfl M.u70 rfl (aa (aM (pv 3) rfl) (aa (aM (pS T.HN (n9 (P:=P) (w:=w) T) .nil M.m T.JF (aa (pv 3) af)) rfl) af)) rfl T.FU rfl T.Li)))),?_⟩
  try dsimp only [eQ,aW]
  refine ⟨_,rfl,_,rfl,_,rfl,λ y D j B n=>?_⟩
  have c:aE H (upd (upd H D (.own y)) y (.ins Ad.cS D [])):=(al B).trans (al (by first|(rw [ar n];exact j)|(rw [ar n.symm];exact j)))
  have X:(upd (upd H D (.own y)) y (.ins Ad.cS D [])) y=some (.ins Ad.cS D []):=ag
  generalize upd (upd H D (.own y)) y (.ins Ad.cS D [])=H1 at c X |-
  refine ⟨y,D,a,q,L,fp,m,xs,l,rfl,X,hh.same c,λ z=>?_,gh,F,l2,c _ _ hq,yO.imp (λ Z Z z=>z.same c),OB,λ pm po pr pd g H2 b2 t2 fr C ok lo U vW Z=>⟨rfl,?_⟩⟩
  . obtain ⟨u,hu⟩:=hh.some y z
    rw [j] at hu;cases hu
  have s2:aE H H2:=λ b u e=>b2 b u (c b u e) (by simp only [aae];exact aw e j)
  obtain ⟨r,UT⟩:=C.ins
  have lm:g.met.length<=2000:=by
    have:=F g.met ok.nd ok.st
    lia
  have hb:=ok.MZ gh rl U lm
  refine ⟨_,rfl,y,_,r,_,_,rfl,UT,T.bW,T.fy,rfl,_,rfl,λ x d O jA n2=>?_⟩
  have V:aE H2 (upd (upd H2 d (.own x)) x (.ins Ad.dg d [])):=(al jA).trans (al (by first|(rw [ar n2];exact O)|(rw [ar n2.symm];exact O)))
  have W:(upd (upd H2 d (.own x)) x (.ins Ad.dg d [])) x=some (.ins Ad.dg d []):=ag
  generalize upd (upd H2 d (.own x)) x (.ins Ad.dg d [])=H3 at V W |-
  refine ⟨x,d,y,pm,po,pr,pd,L,g,rfl,W,C.same V,hb,λ pl pg pk pq qs S ab H4 b4 t4 hk rk nd gd=>⟨rfl,?_⟩⟩
  have s4:aE H2 H4:=λ b u e=>b4 b u (V b u e) (by simp only [aae];exact aw e O)
  obtain ⟨Zi,U6⟩:=hk.ins
  obtain ⟨vm,gF,IR⟩:=(C.same s4).met
  have lk:S.bF.length=g.met.length:=by rw [rk.lk,U]
  obtain ⟨A,e1,Y,t,e4⟩:=NK IR lk
  have N:(A.map (·.1)).Nodup:=by
    rw [t]
    exact List.Pairwise.map mY (λ a b h z=>h (wO z)) ok.nd
  have R:A.length=g.met.length:=by rw [<- OG (·.1),t,OG]
  refine ⟨x,_,Zi,_,_,rfl,U6,T.cq,T.fw,rfl,pm,pk,A,rfl,by rw [<- e1];exact bh.of gF,by rw [<- Y];exact bh.of hk.SF,N,e4,aaz (show _<=2000 by lia) (by decide),λ p hp=>?_⟩
  have s5:=al (o:=kW P w p A) hp
  refine k p A _ ((s2.trans s4).trans s5) ⟨ag,λ e he=>(e4 e he).ts s5.ts⟩ λ st jj=>?_
  obtain ⟨i,G,ei⟩:=abg.mp (vW st jj)
  have I:i<A.length:=by rw [R];exact G
  have J:i<S.bF.length:=by rw [lk];exact G
  have v:=SN I
  have er:=SN J
  have em:g.met[i]?=some st:=by rw [SN G,ei]
  have k1:(A.map (·.1))[i]?=some A[i].1:=by rw [aab,v];rfl
  rw [t,aab,em] at k1
  have k2:(A.map (λ e=>e.2.2))[i]?=some A[i].2.2:=by rw [aab,v];rfl
  rw [<- Y,aab,er] at k2
  refine ⟨S.bF[i],?_,rk.rank nd gd ok U em er⟩
  rw [show mY st=A[i].1 from aap k1,Dc N v]
  exact k2.symm
def nA (T:Txt K mg Ad):Ki P w K mg base "ranks_of" 13 ["hold","states","limit"] [.int 2000] (zP P w K Ad.aX) :=
 (Am T).Rh T.Cc λ i H=>by
   obtain ⟨u,e,r⟩:=vals1 H
   obtain rfl:i=#[u]:=by
     obtain ⟨l⟩:=i
     exact abo _ e
   exact ⟨[u],.cons r .nil,λ Z Z Z Z Z Z U h=>match U,(by simpa using h:U.length=2) with | [_,_],_=>⟨_,rfl,rfl⟩⟩
inductive NR (vs:ay) (H:Hp) (Q:VK) (_E:XK):Prop|mk (c k t:Int) (_:vs=[.int c,.int k,.int t]) (_:0<=k) (_:k<=1000) (_:0<=t) (_:t<=7) (_:∀ H' r,aE H H'->0<=r->r<=65537->Q (.int r) H')
def Fg {t:Int} (h0:0<=t) (h:t<=7):∃ p:Int,tT ([.int 65537,.int 65521,.int 65519,.int 65497,.int 65479,.int 65449,.int 65447,.int 65437]:ay) t=some (.int p)/\65437<=p/\p<=65537:=by
 have:t=0\/t=1\/t=2\/t=3\/t=4\/t=5\/t=6\/t=7:=by lia
 rcases this with rfl|rfl|rfl|rfl|rfl|rfl|rfl|rfl<;>exact ⟨_,rfl,by decide,by decide⟩
def bO (T:Txt K mg Ad):Def P w K mg base "_law_mix" 1 ["_law_cell","_law_k","_law_turn"] NR:=by
 refine T.Eu.cW uK λ Z Z Z Z Z H V Q E z h=>?_
 obtain ⟨c,k,t,rfl,b,f,v,x,q⟩:=h
 refine ⟨_,(ac (cT (i:=3) uK.nd (aF az (dA (aa ai (aa ai (aa ai (aa ai (aa ai (aa ai (aa ai (aa ai af))))))))) (pv 2)))
     (am (aG (ax bo (ax bL (ax bg (ax bo (pv 0) ai) ai) (ax bg (ax bg (ax bL (pv 1) (pv 1)) ai) (ax bL ai (pv 2)))) (pv 3))))),?_⟩
 try dsimp only [eQ,aW]
 obtain ⟨F,e,B,C⟩:=Fg v x
 refine ⟨(by show 8<=sizeLine;decide),λ u G=>⟨_,rfl,u,_,_,_,rfl,rfl,.inl (bh.of ag),e,?_⟩⟩
 refine ⟨_,rfl,_,_,rfl,rfl,by decide,λ m M A Z=>⟨_,_,rfl,rfl,λ a y=>⟨_,rfl,_,rfl,_,_,rfl,rfl,⟨100,100,Oa 100 (by lia) (by lia),Oa 100 (by lia) (by lia),by decide⟩,λ g d=>?_⟩⟩⟩
 have p:0<=g:=by rw [d];exact abR b b
 have s:g<=1000 * 1000:=by rw [d];exact adb f f b (by decide)
 refine ⟨_,_,rfl,rfl,λ S l=>⟨_,rfl,_,_,rfl,rfl,⟨100,100,Oa 100 (by lia) (by lia),Oa 100 (by lia) (by lia),by decide⟩,λ L o=>⟨_,_,rfl,rfl,λ J n=>?_⟩⟩⟩
 refine ⟨_,_,rfl,rfl,⟨100,100,Oa 100 (by lia) (by lia),Oa 100 (by lia) (by lia),by decide⟩,λ D j=>⟨_,rfl,_,_,rfl,rfl,by lia,λ r R I Z=>?_⟩⟩
 exact q _ r (al G) R (by lia)
def ju (T:Txt K mg Ad):Def P w K mg base "_law_part" 1 ["_law_top","_law_bottom"] G4:=by
 refine T.Cp.cW f9 λ Z Z Z Z Z H V Q E I h=>?_
 obtain ⟨t,b,rfl,y,j,k⟩:=h
 refine ⟨_,(ac (cT (i:=2) f9.nd (aS qW (by rfl) T.Gk Bk (aa (pv 0) af)))
     (ac (cT (i:=3) f9.nd (pv 1))
     (ac (l7 aaF (aH wg (pv 3) ai (aK _)) (ac (cT (i:=4) f9.nd (ax bo (pv 2) (pv 3)))
     (ac (cT (i:=2) f9.nd (pv 3))
     (am (cT (i:=3) f9.nd (pv 4))))))
     (am (aG (cg (aa (ax bI (pv 0) (pv 2)) (aa (ax bI (pv 1) (pv 2)) af)))))))),?_⟩
 try dsimp only [eQ,aW]
 try (refine eB ?_;intro Z Z Z Z Z)
 refine ⟨_,rfl,_,rfl,λ G u=>⟨_,rfl,?_⟩⟩
 refine ⟨λ m U c=>c=H/\E3 λ (g l:Int) (r:eE)=>A5 (U=[some (.int t),some (.int b),some (.int g),some (.int l),r]) (0<=g) (0<=l) (m=l.toNat) (Int.gcd g l=Int.gcd t b),
   ⟨_,rfl,G,b,none,rfl,by lia,by lia,rfl,by rw [u];rfl⟩,?_⟩
 rintro m U c ⟨rfl,g,l,r,rfl,f,z,rfl,e⟩
 refine ⟨_,rfl,_,_,rfl,rfl,_,rfl,?_⟩
 refine fP (λ h=>?_) (λ h=>?_)
 .
  have L:0<l:=h
  refine ⟨λ a F=>F=c/\a=[some (.int t),some (.int b),some (.int l),some (.int (g % l)),some (.int (g % l))],λ a F ⟨n,o⟩=>?_,?_⟩
  . have M:=adE g (by lia:l≠0)
    have J:=acD g L
    exact ⟨(g % l).toNat,by lia,n,l,g % l,_,o,z,M,rfl,(LV f L).trans e⟩
  . refine ⟨_,rfl,_,rfl,_,_,rfl,rfl,L,λ r Z Z d=>?_⟩
    subst d
    exact ⟨_,rfl,_,rfl,rfl,rfl⟩
 .
  have L:l=0:=by lia
  subst L
  have s:g=((Int.gcd t b:Nat):Int):=by rw [<- e,O5 f]
  obtain ⟨C,D,x,fn⟩:=Iv (by lia:b≠0) s
  have B:Bd 8999 g:=(j.le (by lia)).mono (by decide)
  refine ⟨_,rfl,_,rfl,_,_,rfl,rfl,⟨by lia,B⟩,λ q v=>⟨_,rfl,_,rfl,_,_,rfl,rfl,⟨by lia,B⟩,λ r d=>⟨Io,λ p A=>?_⟩⟩⟩
  subst v d
  exact k _ _ p _ (x y) (al A) ag
def yo (T:Txt K mg Ad):Def P w K mg base "_law_scale" 1 ["_law_cell"] Fl:=by
 refine T.AI.cW kr λ Z Z Z Z Z H V Q E I h=>?_
 obtain ⟨c,rfl,k⟩:=h
 refine ⟨_,(ac (cT (i:=1) kr.nd (ax yp ai ai))
     (ac (eW (br (aH dE (ax bo (pv 0) ai) ai (aK _)) (am (cT (i:=1) kr.nd (ax yp ai ai))) aI))
     (am (aG (cg (aa (ax bg ai (ax bo (ax bI (pv 0) ai) (pv 1))) (aa (ax bg ai (ax bo (ax bI (pv 0) ai) (pv 1))) (aa (ax dS (ax bo (ax bI (pv 0) ai) (ax bg (ax bL ai (pv 1)) ai)) (pv 1)) (aa (ax bg ai (ax bo (ax bI (pv 0) ai) (pv 1))) af))))))))),?_⟩
 try dsimp only [eQ,aW]
 try (refine cV ?_;intro Z Z Z Z)
 refine ⟨_,_,rfl,rfl,⟨by decide,by decide,by decide⟩,λ g O=>?_⟩
 have O:g=10000:=by rw [O];rfl
 subst O
 refine ⟨λ a e=>e=H/\∃ (OH:Int),A3 (1<=OH) (OH<=10 ^ 9) (a=[some (.int c),some (.int OH)]),?_,?_⟩
 .
  refine ⟨_,rfl,_,_,rfl,rfl,by decide,λ r Z Z Z=>⟨rfl,_,rfl,fP (λ Z=>⟨_,_,rfl,rfl,⟨by decide,by decide,by decide⟩,λ j Y=>?_⟩) (λ Z=>⟨rfl,10000,by decide,by decide,rfl⟩)⟩⟩
  have Y:j=1000000000:=by rw [Y];rfl
  subst Y
  exact ⟨rfl,_,by decide,by decide,rfl⟩
 rintro a e ⟨rfl,OH,F,G,rfl⟩
 have B:Bd 40 OH:=show OH.natAbs<2 ^ 40 by lia
 refine ⟨_,rfl,_,_,rfl,rfl,⟨by decide,pV⟩,λ N Z=>⟨_,rfl,_,_,rfl,rfl,by lia,λ R A t Z=>⟨_,_,rfl,rfl,λ z m=>?_⟩⟩⟩
 refine ⟨_,rfl,_,_,rfl,rfl,⟨by decide,pV⟩,λ S Z=>⟨_,rfl,_,_,rfl,rfl,by lia,λ J u v Z=>⟨_,_,rfl,rfl,λ b n=>?_⟩⟩⟩
 refine ⟨_,rfl,_,_,rfl,rfl,⟨by decide,pV⟩,λ W Z=>⟨_,rfl,_,_,rfl,rfl,⟨2,40,pV,B,by decide⟩,λ X U=>⟨_,_,rfl,rfl,λ y5 l=>⟨_,_,rfl,rfl,by lia,λ L C x Z=>⟨_,rfl,_,_,rfl,rfl,λ f o=>?_⟩⟩⟩⟩⟩
 refine ⟨_,rfl,_,_,rfl,rfl,⟨by decide,pV⟩,λ y6 Z=>⟨_,rfl,_,_,rfl,rfl,by lia,λ M D y Z=>⟨_,_,rfl,rfl,λ d q=>⟨LD,λ p s=>?_⟩⟩⟩⟩
 exact k p ⟨z,b,f,d⟩ _ ⟨by show 1<=z/\z<=10 ^ 9;lia,by show 1<=b/\b<=10 ^ 9;lia,by show f.natAbs<=10 ^ 9;lia,by show 1<=d/\d<=10 ^ 9;lia⟩ (al s) ag
def mm (T:Txt K mg Ad):Def P w K mg base "_law_warm" 2 ["_law_steps","_law_scale_here"] (HC K):=by
 refine T.BX.cW zL λ Z Z Z Z Z H V Q E v h=>?_
 obtain ⟨x,p,s,rfl,c,ok,A,k⟩:=h
 refine ⟨_,(am (aG (au (ju T) v.m (aa (ax bg (ax bL (ax bL (pv 0) (aF az (pv 1) ai)) (aF az (pv 1) ai)) (ax bL (aF az (pv 1) ai) (aF az (pv 1) ai))) (aa (ax bL (aF az (pv 1) ai) (aF az (pv 1) ai)) af))))),?_⟩
 try dsimp only [eQ,aW]
 obtain ⟨D,C⟩:=ok.den
 obtain ⟨N,G,I⟩:=ok.num A
 have O:=ok.a
 have J:=ok.b
 have M:=ok.t
 have L:=ok.d
 have B:∀ {y:Int},y.natAbs<=10 ^ 12->Bd 60 y:=λ {y} h=>show y.natAbs<2 ^ 60 by lia
 refine ⟨_,rfl,_,rfl,p,_,_,_,rfl,rfl,.inr c,rfl,_,_,rfl,rfl,⟨60,60,B (by lia),B (by lia),by decide⟩,λ Y f=>?_⟩
 refine ⟨_,rfl,p,_,_,_,rfl,rfl,.inr c,rfl,_,_,rfl,rfl,⟨60,60,B (by rw [f];exact N),B (by lia),by decide⟩,λ R j=>?_⟩
 refine ⟨_,rfl,p,_,_,_,rfl,rfl,.inr c,rfl,_,rfl,p,_,_,_,rfl,rfl,.inr c,rfl,_,_,rfl,rfl,⟨60,60,B (by lia),B (by lia),by decide⟩,λ U l=>⟨_,_,rfl,rfl,λ W n=>?_⟩⟩
 refine ⟨_,rfl,p,_,_,_,rfl,rfl,.inr c,rfl,_,rfl,p,_,_,_,rfl,rfl,.inr c,rfl,_,_,rfl,rfl,⟨60,60,B (by lia),B (by lia),by decide⟩,λ X o=>?_⟩
 subst f j l n o
 have i:Bd 4000 (s.b * s.d):=by
   have:Bd 100 (s.b * s.d):=show Int.natAbs _<2 ^ 100 by lia
   exact this.mono (by decide)
 refine ⟨_,_,rfl,D,i,λ q r u g F S z=>k u g S ?_⟩
 have e:=F.nf D
 rw [z]
 unfold d9
 rw [<- e]
def gt1 {n:Nat} (h:2<=n):(n:Int) > 1:=by lia
def JT {x:Int} (a:0<=x) (b:x<8):x.natAbs<2 ^ 3:=by lia
def RV {x:Int} (h : -30<=x/\x<=86):x.natAbs<=200:=by lia
theorem AH {H:Hp}:∀ l:List Int,bC K H (l.map PyData.int) (l.map V.int)
 | []=>fu
 | x::l=>bA rfl (AH l)
def wL (T:Txt K mg Ad):Def P w K mg base "_law_rooms" 2 ["_law_cell","_law_many","_law_bands"] (Bm K):=by
 refine T.za.cW bP λ Z Z Z Z Z H vs Q E s h=>?_
 obtain ⟨c,n,O,rfl,n1,n4,b1,b4,k⟩:=h
 refine ⟨_,(ac (cT (i:=3) bP.nd (dA af))
     (ac (dB aaF rfl (cN rfl T.eM (aa (pv 1) af)) (iJ (i:=4) bP.nd) (ac (cT (i:=5) bP.nd (dA (aa (ax dS (ax bo (au (bO T) s.m (aa (pv 0) (aa ai (aa ai af)))) ai) ai) af)))
     (ac (dB aaF rfl (cN rfl T.eM (aa (ax bg ai (ax bo (au (bO T) s.m (aa (pv 0) (aa (pv 4) (aa ai af)))) (pv 2))) af)) (iJ (i:=6) bP.nd) (am (bp (iG aaI aaN aaM cI (pv 5) (aa (ax bg (ax bg (aF az (pv 5) (pF qH ai)) ai) (ax bo (au (bO T) s.m (aa (pv 0) (aa (ax bg (pv 4) (ax bL ai (pv 6))) (aa ai af)))) ai)) af)))))
     (ac (cT (i:=7) bP.nd (aS (qB rfl) (by rfl) T.Iu BW (aa ai (aa (ax dS (ax bo (au (bO T) s.m (aa (pv 0) (aa (pv 4) (aa ai af)))) ai) ai) af))))
     (ac (cT (i:=8) bP.nd (ax bg ai (ax bo (ax bI (au (bO T) s.m (aa (pv 0) (aa (pv 4) (aa ai af)))) ai) ai)))
     (ac (cT (i:=9) bP.nd (ax dS (aF az (pv 5) ai) (pv 7)))
     (ac (cT (i:=10) bP.nd (aS (qB rfl) (by rfl) T.Iu BW (aa (pv 9) (aa (ax bg (ax dS (aF az (pv 5) (pF qH ai)) (ax bo (au (bO T) s.m (aa (pv 0) (aa (pv 4) (aa ai af)))) ai)) (cH mI (by rfl) T.wy rD (aa (dX dE (ax bo (ax bI (au (bO T) s.m (aa (pv 0) (aa (pv 4) (aa ai af)))) ai) ai) ai (aK _)) af))) af))))
     (ac (cT (i:=11) bP.nd (ax bg (ax bI (ax bg (ax bL (pv 8) (pv 7)) ai) ai) (ax bo (au (bO T) s.m (aa (pv 0) (aa (pv 4) (aa ai af)))) ai)))
     (ac (eW (br (aH dE (ax bo (ax bI (au (bO T) s.m (aa (pv 0) (aa (pv 4) (aa ai af)))) ai) ai) ai (aK _)) (am (cT (i:=11) bP.nd (ax bo (ax bI (au (bO T) s.m (aa (pv 0) (aa (pv 4) (aa ai af)))) ai) ai))) aI))
     (ac (cT (i:=12) bP.nd (cg (aa (pv 11) (aa (ax bo (au (bO T) s.m (aa (pv 0) (aa (pv 4) (aa ai af)))) ai) (aa (ax bo (ax bI (au (bO T) s.m (aa (pv 0) (aa (pv 4) (aa ai af)))) ai) ai) (aa (ax bo (au (bO T) s.m (aa (pv 0) (aa (pv 4) (aa ai af)))) ai) af))))))
     (ac (eW (br (aH wg (pv 1) ai (aK _)) (am (cT (i:=12) bP.nd (cg (aa (pv 11) (aa (ax bo (aF az (pv 12) ai) ai) (aa (ax bL (ax bo (aF az (pv 12) ai) ai) (cH mI (by rfl) T.wy rD (aa (dX dE (pv 1) ai (aK _)) af))) (aa (ax bL (aF az (pv 12) ai) (cH mI (by rfl) T.wy rD (aa (rm (dX dE (pv 1) ai (aK _)) (oC (dX dE (pv 4) ai (aK _)))) af))) af))))))) aI))
     (ac (eW (br (aH dE (ax bo (ax bI (au (bO T) s.m (aa (pv 0) (aa (pv 4) (aa ai af)))) ai) ai) ai (aK _)) (am (cT (i:=12) bP.nd cG)) aI))
     (am (bp (iG aaI aaN aaM cI (pv 3) (aa (cg (aa (pv 5) (aa (pv 8) (aa (pv 9) (aa (pv 10) (aa (pv 12) af)))))) af))))))))))))))))
     (am (aG (pv 3))))),?_⟩
 try dsimp only [eQ,aW]
 try (refine cV ?_;intro Z Z Z Z)
 refine ⟨HD,λ v No=>⟨_,rfl,_,rfl,by lia,by lia,?_⟩⟩
 refine fX (lo:=0) (n:=n) (λ i U d=>A3 (aE H d) (E2 λ (xs:ay) (rs:List R7)=>A4 (d v=some (.lst xs)) (bC K (dH d [v]) (rs.map IK) xs) (rs.length=i) (∀ r∈rs,r.Ok/\Cw n O r)) (E9 λ x4 x5 x6 x7 x8 x9 LG Lu RQ=>U=[some (.int c),some (ao n),some (ao O),some (.ref v),x4,x5,x6,x7,x8,x9,LG,Lu,RQ]))
   ⟨al No,⟨[],[],ag,fu,rfl,λ Z h=>absurd h aaf⟩,none,none,none,none,none,none,none,none,none,rfl⟩ ?_ ?_
 .
  rintro Z i U W hi ⟨S1,⟨xs,rs,JA,yL,lr,yG⟩,x4,x5,x6,x7,x8,x9,LG,Lu,RQ,rfl⟩
  have I:(0:Int)<=0+(i:Int):=by rw [aa0];exact aa6 i
  have B:0+(i:Int)<=1000:=by lia
  refine ⟨_,rfl,c,0,0,rfl,by decide,by decide,by decide,by decide,λ H2 r0 s2 Z Z=>⟨_,_,rfl,rfl,by decide,λ m0 bN bW XS=>⟨_,_,rfl,rfl,λ f0 a8=>⟨IP,λ p gF=>?_⟩⟩⟩⟩
  clear XS
  have bu : -30<=f0/\f0<=30:=by lia
  clear bN bW a8
  have MO:W p=none:=s2.free gF
  have T2:=s2.trans (al (o:=.lst [.int f0]) gF)
  have E1:(upd H2 p (.lst [.int f0])) p=some (.lst [.int f0]):=ag
  generalize upd H2 p (.lst [.int f0])=co at T2 E1 |-
  refine ⟨_,rfl,_,rfl,c,0+(i:Int),1,rfl,I,B,by decide,by decide,λ H3 r1 s3 Z Z=>⟨_,rfl,_,_,rfl,rfl,by lia,λ m1 b2 b3 bf=>⟨_,_,rfl,rfl,λ cn a7=>?_⟩⟩⟩
  clear bf
  obtain ⟨C,rfl⟩:∃ x:Nat,cn=(x:Int):=⟨cn.toNat,by lia⟩
  have ah:1<=C/\C<=4:=by lia
  have bt:C<=O:=by lia
  clear b2 b3 a7
  refine ⟨_,rfl,by lia,by lia,?_⟩
  refine fX (lo:=0) (n:=C) (λ j U d=>A3 (aE W d) (∃ (M:List Int),A4 (d p=some (.lst (M.map V.int))) (M.length=j+1) (∀ (a:Nat) (x y:Int),M[a]?=some x->M[a+1]?=some y->x<y) (∀ x∈M,-30<=x/\x<=30+14 * (j:Int))) (∃ x6,U=[some (.int c),some (ao n),some (ao O),some (.ref v),some (.int (0+(i:Int))),some (.ref p),x6,x7,x8,x9,LG,Lu,RQ]))
    ⟨T2.trans s3,⟨[f0],s3 _ _ E1,rfl,λ a x y h1 R=>?_,λ x A=>?_⟩,_,rfl⟩ ?_ ?_
  . have:=(Ba.mp R).1
    have:a+1<1:=this
    lia
  . rw [aae.mp A];exact bu
  .
   rintro Z j U d hj ⟨T3,⟨M,Sn,N,TB,L⟩,x6,rfl⟩
   have hl:(M.map V.int).length=j+1:=by rw [OG,N]
   have Lh:M[j]?=some M[j]:=aJ (by lia)
   refine ⟨_,rfl,.inl ⟨rfl,_,bh.of Sn⟩,_,rfl,_,rfl,p,_,_,.int M[j],rfl,rfl,.inl (bh.of Sn),?_,?_⟩
   . refine GH ?_
     rw [hl,aab,aei,Lh];rfl
   refine ⟨_,_,rfl,rfl,λ y1 e1=>⟨_,rfl,_,rfl,_,rfl,_,_,rfl,rfl,⟨3,5,pV,(show Int.natAbs _<2 ^ 5 by lia),by decide⟩,λ y2 e2=>⟨_,_,rfl,rfl,λ Y e3=>?_⟩⟩⟩
   have e2:y2=3 * (0+(j:Int)):=e2
   have Ur:0<=Y/\Y<=1000:=by lia
   refine ⟨c,Y,2,rfl,Ur.1,Ur.2,by decide,by decide,λ H4 r s4 Z Z=>⟨_,_,rfl,rfl,by decide,λ q D F G=>⟨_,_,rfl,rfl,λ y4 e4=>?_⟩⟩⟩
   clear G e3 e2 Ur
   have h4:M[j]<y4/\y4<=M[j]+14:=by lia
   clear e4 e1 D F
   refine ⟨p,_,_,rfl,rfl,s4 _ _ Sn,aT (by lia),(T3.trans s4).put MO,⟨M++[y4],by rw [aah];exact ag,by rw [aac,N];rfl,λ a x y A J=>?_,λ x A=>?_⟩,_,rfl⟩
   .
    by_cases ha:a+1<M.length
    . rw [aal ha] at J
      rw [aal (by lia)] at A
      exact TB a x y A J
    .
     have bG:=(Ba.mp J).1
     rw [aac,aaw] at bG
     have a6:a=j:=by lia
     subst a6
     rw [aal (by lia),Lh] at A
     rw [aaS (by lia),show a+1 - M.length=0 by lia] at J
     cases A
     have J:some y4=some y:=J
     cases J
     exact h4.1
   . have cq:=L M[j] (aay _)
     rcases aar.mp A with h|h
     . have:=L x h;lia
     . rw [aae.mp h];lia
  rintro U H4 ⟨T4,⟨M,Sn,N,TB,L⟩,Zy,rfl⟩
  have hl:(M.map V.int).length=C+1:=by rw [OG,N]
  have L:∀ x∈M,-30<=x/\x<=86:=λ x A=>⟨(L x A).1,abe (L x A).2 (by lia)⟩
  have l0:0<M.length:=by rw [N];exact Nat.succ_pos _
  have lc:C<M.length:=by rw [N];exact acm _
  have g0:M[0]?=some M[0]:=aJ l0
  have gl:M[C]?=some M[C]:=aJ lc
  have b0:=L M[0] (aay _)
  have bl:=L M[C] (aay _)
  have PV:M[0]<=M[C]:=by
    have bJ:∀ t (h:t<M.length),M[0]<=M[t]:=λ t=>by
      induction t with
      | zero=>intro h;exact abV _
      | succ t ih =>
        intro h
        have h':=Nat.lt_of_succ_lt h
        exact abe (ih h') (abE (TB t M[t] M[t+1] (aJ h') (aJ h)))
    exact bJ C lc
  generalize cr:M[0]=mf at g0 b0 PV
  generalize VX:M[C]=ml at gl bl PV
  refine ⟨_,rfl,_,rfl,c,0+(i:Int),3,rfl,I,B,by decide,by decide,λ H5 r s5 Z Z=>⟨_,_,rfl,rfl,by decide,λ q D F G=>⟨_,_,rfl,rfl,λ y ey=>⟨_,_,rfl,?_⟩⟩⟩⟩
  clear G
  have J:y<=12:=by lia
  clear ey D F
  have FF:0<=(if y > 0 then y else 0)/\(if y > 0 then y else 0)<=12:=by split<;>lia
  generalize (if y > 0 then y else 0)=be at FF |-
  clear J
  refine ⟨_,rfl,_,rfl,c,0+(i:Int),3,rfl,I,B,by decide,by decide,λ H6 r s6 Z Z=>⟨_,_,rfl,rfl,⟨by decide,pV⟩,λ y ey=>⟨_,_,rfl,rfl,by decide,λ q D F G=>⟨_,_,rfl,rfl,λ S bk=>?_⟩⟩⟩⟩
  clear G ey
  have Su:1<=S/\S<=3:=by lia
  clear bk D F
  have T6:=(T4.trans s5).trans s6
  have Of:H6 p=some (.lst (M.map V.int)):=(s5.trans s6) _ _ Sn
  refine ⟨_,rfl,p,_,_,.int mf,rfl,rfl,.inl (bh.of Of),bZ (by rw [aab,g0];rfl),_,rfl,_,_,rfl,rfl,λ l ba=>?_⟩
  have W7:l<=86/\l.natAbs<=300/\l<=mf:=by lia
  clear ba
  refine ⟨_,rfl,_,rfl,_,rfl,p,_,_,.int ml,rfl,rfl,.inl (bh.of Of),GH (by rw [hl,aab,aei,gl];rfl),?_⟩
  refine ⟨_,rfl,_,rfl,c,0+(i:Int),4,rfl,I,B,by decide,by decide,λ H7 r s7 Z Z=>⟨_,_,rfl,rfl,by decide,λ q D F G=>⟨_,_,rfl,rfl,λ y1 YC=>?_⟩⟩⟩
  clear G
  have WI:y1<=86:=by lia
  clear YC D F
  refine ⟨_,rfl,_,rfl,c,0+(i:Int),4,rfl,I,B,by decide,by decide,λ H8 r s8 Z Z=>⟨_,_,rfl,rfl,⟨by decide,pV⟩,λ y2 Z=>⟨_,_,rfl,rfl,by decide,λ q2 Z Z Z=>⟨rfl,.inr ⟨_,rfl,⟨_,_,rfl,rfl,λ Y ad=>⟨_,_,rfl,?_⟩⟩⟩⟩⟩⟩⟩
  have Vh:l<=(if Y > l then Y else l)/\(if Y > l then Y else l).natAbs<=300:=by
    have Ur:Y<=87:=by rw [ad];split<;>lia
    clear ad
    split
    . lia
    . exact ⟨abV _,W7.2.1⟩
  generalize (if Y > l then Y else l)=X at Vh |-
  have T8:=(T6.trans s7).trans s8
  have bx:H8 p=some (.lst (M.map V.int)):=(s7.trans s8) _ _ Of
  refine ⟨_,rfl,_,rfl,_,_,rfl,rfl,⟨3,5,(show Int.natAbs _<2 ^ 3 by lia),(show Int.natAbs _<2 ^ 5 by lia),by decide⟩,λ y4 UO=>⟨_,_,rfl,rfl,λ y5 bq=>⟨_,_,rfl,rfl,⟨by decide,pV⟩,λ y6 ae=>?_⟩⟩⟩
  have bD:0<=y4/\y4<=36:=by
    rw [UO]
    exact ⟨abR (abe (by decide) Su.1) FF.1,adb Su.2 FF.2 FF.1 (by decide)⟩
  rw [abX _ (by decide)] at ae
  have bF:0<=y6/\y6<=4:=by lia
  clear UO bq ae bD
  refine ⟨_,rfl,_,rfl,c,0+(i:Int),5,rfl,I,B,by decide,by decide,λ H9 r s9 Z Z=>⟨_,_,rfl,rfl,by decide,λ q D F G=>⟨_,_,rfl,rfl,λ f a9=>?_⟩⟩⟩
  clear G
  have Sm:0<=f/\f<=100:=by lia
  clear a9 D F bF
  have T9:=T8.trans s9
  have aj:=s9 _ _ bx
  refine ⟨λ g d=>(aE W d/\d p=some (.lst (M.map V.int)))/\∃ (f:Int),(0<=f/\f<=100)/\g=[some (.int c),some (ao n),some (ao O),some (.ref v),some (.int (0+(i:Int))),some (.ref p),Zy,some (.int be),some (.int S),some (.int l),some (.int X),some (.int f),RQ],?_,?_⟩
  . refine ⟨_,rfl,_,rfl,c,0+(i:Int),5,rfl,I,B,by decide,by decide,λ IM r BH Z Z=>⟨_,_,rfl,rfl,⟨by decide,pV⟩,λ y Z=>⟨_,_,rfl,rfl,by decide,λ q Z Z Z=>⟨rfl,_,rfl,fP (λ Z=>?_) (λ Z=>⟨⟨T9.trans BH,BH _ _ aj⟩,f,Sm,rfl⟩)⟩⟩⟩⟩
    exact ⟨_,rfl,_,rfl,c,0+(i:Int),5,rfl,I,B,by decide,by decide,λ Ef r Lp Z Z=>⟨_,_,rfl,rfl,⟨by decide,pV⟩,λ y Z=>⟨_,_,rfl,rfl,by decide,λ q D F Z=>⟨⟨(T9.trans BH).trans Lp,(BH.trans Lp) _ _ aj⟩,q,⟨D,abe (abE F) (by decide)⟩,rfl⟩⟩⟩⟩
  clear Sm
  rintro g IM ⟨⟨a5,Zm⟩,f,Sm,rfl⟩
  refine ⟨_,rfl,_,rfl,_,rfl,c,0+(i:Int),6,rfl,I,B,by decide,by decide,λ Ef r Lp Z Z=>⟨_,_,rfl,rfl,by decide,λ w1 cc cd Z=>?_⟩⟩
  refine ⟨_,rfl,_,rfl,c,0+(i:Int),6,rfl,I,B,by decide,by decide,λ ch r FA Z Z=>⟨_,_,rfl,rfl,⟨by decide,pV⟩,λ y Z=>⟨_,_,rfl,rfl,by decide,λ w2 cf a0 Z=>?_⟩⟩⟩
  refine ⟨_,rfl,_,rfl,c,0+(i:Int),7,rfl,I,B,by decide,by decide,λ UD r Z6 Z Z=>⟨_,_,rfl,rfl,by decide,λ w3 VF Ug Z=>⟨LD,λ u gU=>?_⟩⟩⟩
  have an:=al (o:=.tup [.int f,.int w1,.int w2,.int w3]) gU
  have YO:=((a5.trans Lp).trans (FA.trans Z6)).trans an
  have M9:=((Lp.trans (FA.trans Z6)).trans an) _ _ Zm
  refine ⟨λ g d=>(aE W d/\d p=some (.lst (M.map V.int)))/\E2 λ (u:ak) (z:Int×Int×Int×Int)=>A4 (d u=some (.tup [.int z.1,.int z.2.1,.int z.2.2.1,.int z.2.2.2])) (A4 (0<=z.1/\z.1<=100) (0<=z.2.1/\z.2.1<=9) (0<=z.2.2.1/\z.2.2.1<=3) (0<=z.2.2.2/\z.2.2.2<=3)) (DF n z) (g=[some (.int c),some (ao n),some (ao O),some (.ref v),some (.int (0+(i:Int))),some (.ref p),Zy,some (.int be),some (.int S),some (.int l),some (.int X),some (.int f),some (.ref u)]),?_,?_⟩
  .
   have Dx:(upd UD u (.tup [.int f,.int w1,.int w2,.int w3])) u=some (.tup [.int f,.int w1,.int w2,.int w3]):=ag
   refine ⟨_,rfl,_,_,rfl,rfl,_,rfl,fP (λ Z=>?_) (λ bz=>⟨⟨YO,M9⟩,u,(f,w1,w2,w3),ag,⟨Sm,⟨cc,abe (abE cd) (by decide)⟩,⟨cf,abe (abE a0) (by decide)⟩,⟨VF,abe (abE Ug) (by decide)⟩⟩,⟨acq a0,λ Tl=>absurd (gt1 Tl) bz,acq Ug⟩,rfl⟩)⟩
   generalize upd UD u (.tup [.int f,.int w1,.int w2,.int w3])=cj at YO M9 Dx |-
   refine ⟨_,rfl,_,rfl,u,_,_,.int w1,rfl,rfl,.inr (bR.of Dx),rfl,_,_,rfl,rfl,by decide,λ u1 b9 cb Z=>?_⟩
   refine ⟨_,rfl,u,_,_,.int w2,rfl,rfl,.inr (bR.of Dx),rfl,_,_,rfl,rfl,by decide,λ u2 aD aX Z=>⟨_,rfl,rfl,.inr ⟨_,rfl,?_⟩⟩⟩
   have Ko:∀ b:Bool,0<=(if b=true then (1:Int) else 0)/\(if b=true then (1:Int) else 0)<=1:=λ b=>by cases b<;>decide
   have R:=Ko (decide (ao n=V.int 2))
   generalize (if decide (ao n=V.int 2)=true then (1:Int) else 0)=bb at R |-
   refine ⟨_,_,rfl,rfl,⟨3,3,JT aD (Int.lt_trans aX (by decide)),JT R.1 (aen R.2 (by decide)),by decide⟩,λ u3 bm=>?_⟩
   have Td:0<=u3/\u3<=1:=by
     rw [bm]
     exact ⟨abR aD R.1,abe (adb (acq aX:u2<=1) R.2 R.1 (by decide)) (by decide)⟩
   refine ⟨_,rfl,u,_,_,.int w3,rfl,rfl,.inr (bR.of Dx),rfl,?_⟩
   refine (show Ih _ _ _ _ _ from EL (a:=decide (ao n=V.int 2)) (b:=decide (V.int (0+(i:Int))=V.int 0)) (λ Q' q=>⟨_,rfl,rfl,q⟩) (λ Q' q=>⟨_,rfl,rfl,q⟩) ?_)
   refine .inr ⟨_,rfl,?_⟩
   have h3:=Ko (decide (ao n=V.int 2) && decide (V.int (0+(i:Int))=V.int 0))
   generalize (if (decide (ao n=V.int 2) && decide (V.int (0+(i:Int))=V.int 0))=true then (1:Int) else 0)=bc at h3 |-
   refine ⟨_,_,rfl,rfl,⟨3,3,JT VF (Int.lt_trans Ug (by decide)),JT h3.1 (aen h3.2 (by decide)),by decide⟩,λ u4 bn=>⟨LD,λ p5 VI=>?_⟩⟩
   have Ws:0<=u4/\u4<=1:=by
     rw [bn]
     exact ⟨abR VF h3.1,abe (adb (acq Ug:w3<=1) h3.2 h3.1 (by decide)) (by decide)⟩
   have aC:=al (o:=.tup [.int f,.int u1,.int u3,.int u4]) VI
   exact ⟨⟨YO.trans aC,aC _ _ M9⟩,p5,(f,u1,u3,u4),ag,⟨Sm,⟨b9,abe (abE cb) (by decide)⟩,⟨Td.1,abe Td.2 (by decide)⟩,⟨Ws.1,abe Ws.2 (by decide)⟩⟩,⟨abe Td.2 (by decide),λ Z=>Td.2,Ws.2⟩,rfl⟩
  rintro g cl ⟨⟨ab,Qx⟩,p5,z5,VI,b8,fz,rfl⟩
  refine ⟨λ g d=>(aE W d/\d p=some (.lst (M.map V.int)))/\E2 λ (sv:V) (t:Option (Int×Int×Int×Int))=>A4 ((t=none/\sv = .cB)\/∃ (u:ak) (z:Int×Int×Int×Int),t=some z/\sv = .ref u/\d u=some (.tup [.int z.1,.int z.2.1,.int z.2.2.1,.int z.2.2.2])) (∀ z,t=some z->(0<=z.1/\z.1<=100)/\(0<=z.2.1/\z.2.1<=9)/\(0<=z.2.2.1/\z.2.2.1<=3)/\(0<=z.2.2.2/\z.2.2.2<=3)) (∀ z,t=some z->DF n z) (g=[some (.int c),some (ao n),some (ao O),some (.ref v),some (.int (0+(i:Int))),some (.ref p),Zy,some (.int be),some (.int S),some (.int l),some (.int X),some (.int f),some sv]),?_,?_⟩
  . exact ⟨_,rfl,_,rfl,c,0+(i:Int),7,rfl,I,B,by decide,by decide,λ Y9 r ON Z Z=>⟨_,_,rfl,rfl,⟨by decide,pV⟩,λ y Z=>⟨_,_,rfl,rfl,by decide,λ q Z Z Z=>⟨rfl,_,rfl,fP (λ Z=>⟨⟨ab.trans ON,ON _ _ Qx⟩,.cB,none,.inl ⟨rfl,rfl⟩,nofun,nofun,rfl⟩) (λ Z=>⟨⟨ab.trans ON,ON _ _ Qx⟩,.ref p5,some z5,.inr ⟨p5,z5,rfl,rfl,ON _ _ VI⟩,λ z e=>by cases e;obtain ⟨a1,a2,a3,a4⟩:=b8;exact ⟨a1,a2,a3,a4⟩,λ z e=>by cases e;exact fz,rfl⟩)⟩⟩⟩⟩
  rintro g Y9 ⟨⟨XY,Yd⟩,sv,t,bB,b7,bs,rfl⟩
  have Dg:=XY _ _ JA
  have Ol:p≠v:=λ z=>by rw [z,JA] at MO;cases MO
  refine ⟨_,rfl,.inl ⟨rfl,_,bh.of Dg⟩,_,rfl,_,rfl,_,rfl,_,rfl,_,rfl,(by show 5<=sizeLine;decide),λ pq HY=>?_⟩
  have P9:=al (o:=.tup [.ref p,.int S,.int l,.int X,sv]) HY
  have P5:=P9 _ _ Dg
  have lx:xs.length=i:=by rw [yL.length,OG,lr]
  refine ⟨v,xs,_,rfl,rfl,P5,aT (by lia),(((S1.trans XY).trans P9).put No),⟨_,rs++[⟨M,S,l,X,t⟩],ag,?_,by rw [aac,lr];rfl,λ r s=>?_⟩,_,_,_,_,_,_,_,_,_,rfl⟩
  .
   rw [mD (by simp),aah]
   have b5:pq≠v:=λ z=>by rw [z,Dg] at HY;cases HY
   have ZI:∀ {x:ak} {o:HO},(upd Y9 pq (.tup [.ref p,.int S,.int l,.int X,sv])) x=some o->x≠v->dH (upd Y9 pq (.tup [.ref p,.int S,.int l,.int X,sv])) [v] x=some o:=λ h n=>mv h (by simpa using n)
   refine (bC.same (uc (XY.trans P9)) _ yL).snoc ?_
   refine iE (bR.of (ZI ag b5)) (bA ⟨p,_,rfl,bh.of (ZI (P9 _ _ Yd) Ol),?_⟩ (bA rfl (bA rfl (bA rfl (bA ?_ fu)))))
   . exact AH M
   . rcases bB with ⟨rfl,rfl⟩|⟨u,z,rfl,rfl,gU⟩
     . rfl
     . have b6:u≠v:=λ q=>by rw [q,Dg] at gU;cases gU
       exact iE (bR.of (ZI (P9 _ _ gU) b6)) (bA rfl (bA rfl (bA rfl (bA rfl fu))))
  . rcases aar.mp s with h|h
    . exact yG r h
    . rw [aae.mp h]
      exact ⟨⟨by show 2<=M.length/\M.length<=5;rw [N];exact ⟨abP ah.1,abP ah.2⟩,TB,λ x A=>RV (L x A),Su,Vh.1,W7.2.1,Vh.2,b7⟩,⟨by show M.length<=O+1;rw [N];exact abP bt,bs⟩⟩
 . rintro U W ⟨S1,⟨xs,rs,JA,yL,lr,yG⟩,x4,x5,x6,x7,x8,x9,LG,Lu,RQ,rfl⟩
   exact ⟨_,rfl,k v xs rs W S1 JA (bC.same hZ _ yL) lr yG⟩
def NX (j:Nat) (h:j<4):∃ g:Int,tT [V.int 1,V.int 4,V.int 16,V.int 64] (j:Int)=some (.int g)/\1<=g/\g<=64:=by
 have:j=0\/j=1\/j=2\/j=3:=by lia
 rcases this with rfl|rfl|rfl|rfl
 . exact ⟨1,bZ rfl,by decide,by decide⟩
 . exact ⟨4,bZ rfl,by decide,by decide⟩
 . exact ⟨16,bZ rfl,by decide,by decide⟩
 . exact ⟨64,bZ rfl,by decide,by decide⟩
def ym {H:Hp} {r:R7} {v:V} (h:Dn K H (IK r) v):∃ p a sv,v = .ref p/\bR K H p [.ref a,.int r.share,.int r.low,.int r.high,sv]/\bh K H a (r.marks.map V.int)/\Dn K H (stI r.bJ) sv:=by
 obtain ⟨p,w,rfl,j,s,m,rfl,e,t,n,rfl,g,T,o,rfl,G,k,q,rfl,b,l,R,rfl,f,c⟩:=h
 have c:R=[]:=c
 have g:t = .int r.share:=g
 have G:T = .int r.low:=G
 have b:k = .int r.high:=b
 subst g G b c
 obtain ⟨a,u,rfl,i,d⟩:=e
 obtain rfl:=rO d
 exact ⟨p,a,l,rfl,j,i,f⟩
def wP {H:Hp} {z:Int×Int×Int×Int} {v:V} (h:Dn K H (stI (some z)) v):∃ p,v = .ref p/\bR K H p [.int z.1,.int z.2.1,.int z.2.2.1,.int z.2.2.2]:=by
 obtain ⟨p,w,rfl,d,t,R,rfl,g,T,i,rfl,G,e,j,rfl,a,f,r,rfl,b,c⟩:=h
 have c:r=[]:=c
 have g:t = .int z.1:=g
 have G:T = .int z.2.1:=G
 have a:e = .int z.2.2.1:=a
 have b:f = .int z.2.2.2:=b
 subst g G a b c
 exact ⟨p,rfl,d⟩
def Fj {r:List ci} (h:∀ (i:Nat) (x y:ci),r[i]?=some x->r[i+1]?=some y->bV x y=true):mJ r=true:=by
 refine abC.mpr λ b a=>?_
 obtain ⟨i,H⟩:=List.getElem?_of_mem a
 have c:=(Ba.mp H).1
 rw [aec,adt] at c
 have g:=uU (aJ (show i<r.length by lia)) (aJ (show i+1<r.length by lia))
 rw [g] at H
 cases H
 exact h i _ _ (aJ (by lia)) (aJ (by lia))
def LO {s:AN} (ok:s.Ok) {r:R7} (c:r.Ok):mJ (r.marks.map λ x=>d9 x s)=true:=by
 refine Fj λ i x y h H=>?_
 rw [aab] at h H
 cases e:r.marks[i]? with
 | none=>rw [e] at h;cases h
 | some a =>
   cases E:r.marks[i+1]? with
   | none=>rw [E] at H;cases H
   | some b =>
     rw [e] at h
     rw [E] at H
     cases h
     cases H
     have d:=c.bd a (aag e)
     have f:=c.bd b (aag E)
     rw [zn ok (by lia) (by lia)]
     exact aao (c.rise i a b e E)
def OY {k:Int} (h0:0<=k) (h:k<=3):Qr (nf k 12):=by
 unfold Qr
 rw [CD (by decide)]
 have a:(0:Rat)<=(k:Rat):=by exact_mod_cast h0
 have b:(k:Rat)<=3:=by exact_mod_cast h
 have e:((12:Int):Rat)=12:=rfl
 rw [e]
 constructor<;>grind
def V0 {k b:Int} (h:0<b) (B:b.natAbs<=10 ^ 25) (H:k.natAbs<=10 ^ 25):fK 100 (nf k b):=by
 have F:=lV (t:=k) h
 exact ⟨F.SL (show Int.natAbs _<2 ^ 100 by lia),F.QC (show Int.natAbs _<2 ^ 100 by lia),F.pos⟩
def LC {k b:Int} (h:0<b) (H:0<=k):0<=(nf k b).1:=Ov.nonneg h (Ov.nf h) H
def AB (T:Txt K mg Ad):Def P w K mg base "_law_hold" 7 ["_law_rooms_here","_law_scale_here","_law_bounds","_law_flows"] (Fc K Ad.aX):=by
 refine T.AW.cW fB λ Z Z Z Z Z H vs Q E C h=>?_
 obtain ⟨G,xs,R,I,s,pb,b0,b1,b2,fl,rfl,O,dr,n1,n4,yG,PD,A,E7,Oi,FI,Ko,k⟩:=h
 refine ⟨_,(ac (cT (i:=4) fB.nd (Ar T.DG (iK T) C.m T.GI (aa (aF az (pv 2) ai) (aa (aF az (pv 2) ai) (aa (aF az (pv 2) ai) af)))))
     (ac (dB aaF rfl (bY (pv 0)) (iJ (i:=5) fB.nd) (am (bp (aR (pv 4) T.aD (pN T) .nil C.m (aa (fT ["_law_mark"] ["_law_scale_here"] [1] (.cons ⟨rfl,rfl,.inl rfl⟩ .nil) rfl (bY (aF az (pv 5) ai)) (λ Z Z Z Z Z=>(mG (i:=0))) (λ Z Z Z Z Z=>cJ) (λ Z Z Z Z Z=>(au (mm T) C.m (aa (pv 0) (aa (pv 1) af))))) af)))))
     (ac (dB aaF rfl (cN rfl T.eM (aa (aS bv (by rfl) T.dZ cD (aa (pv 0) af)) af)) (iJ (i:=6) fB.nd) (ac (cT (i:=7) fB.nd (au (ju T) C.m (aa (aF az (aF az (pv 0) (pv 6)) ai) (aa ai af))))
     (ac (bp (aR (pv 4) T.aD (qR T) .nil C.m (aa (pv 6) (aa (pv 7) (aa (au (mm T) C.m (aa (aF az (aF az (pv 0) (pv 6)) ai) (aa (pv 1) af))) (aa (au (mm T) C.m (aa (aF az (aF az (pv 0) (pv 6)) ai) (aa (pv 1) af))) af))))))
     (ac (cT (i:=8) fB.nd (aF az (aF az (pv 0) (pv 6)) ai))
     (ac (eW (br (aH px (pv 8) cG (aK _)) (am (bp (Gm (pv 4) T.aD (lD T) C.m (aa (pv 6) (aa (au (ju T) C.m (aa (ax bL (aF az (pv 8) ai) (aF az (pv 1) ai)) (aa (aF az (pv 1) ai) af))) (aa (aF az (pv 8) ai) (aa (aF az (pv 8) ai) (aa (aF az (pv 8) ai) af)))))))) aI))
     (am (dB aaF rfl (cN rfl T.eM (aa (aS bv (by rfl) T.dZ cD (aa (pv 0) af)) af)) (iJ (i:=9) fB.nd) (am (br (aH pM (pv 9) (pv 6) (aK _)) (am (bp (aR (pv 4) T.aD (pj T) .nil C.m (aa (pv 6) (aa (pv 9) (aa (au (ju T) C.m (aa (ax bo (ax bI (pv 3) (aF az (dA (aa ai (aa ai (aa ai (aa ai af))))) (pv 9))) ai) (aa ai af))) af)))))) aI)))))))))
     (am (aG (pv 4)))))),?_⟩
 try dsimp only [eQ,aW]
 try (refine eB ?_;intro Z Z Z Z Z)
 have lx:xs.length=R.length:=by rw [dr.length,OG]
 refine ⟨_,rfl,pb,_,_,_,rfl,rfl,.inr E7,rfl,_,rfl,pb,_,_,_,rfl,rfl,.inr E7,rfl,_,rfl,pb,_,_,_,rfl,rfl,.inr E7,rfl,λ a Fm fa Og T0=>?_⟩
 have s0:aE H (upd (upd H Fm (.own a)) a (.ins Ad.aX Fm [])):=λ c o hc=>by
   rw [ar (aw hc fa),ar (aw hc Og)]
   exact hc
 refine ⟨a,Fm,b0,b1,b2,rfl,ag,by rw [ar T0];exact ag,Oi,FI,Ko,λ H1 Qg D1=>⟨rfl,?_⟩⟩
 obtain ⟨S1,F1⟩:=D1.keep s0 (λ c hc=>by
   simp only [aad,aaf,aaX] at hc
   rcases hc with rfl|rfl
   . exact fa
   . exact Og)
 refine ⟨_,rfl,G,rfl,⟨_,S1.seq O⟩,?_⟩
 refine gJ (xs:=xs) (λ i U t=>A3 (aE H t) (E2 λ B m=>A6 (aN K Ad.aX t a B m) (∀ c∈B,H c=none) (m.rows.length=i) (QH m) (eF m) (nX R b0 b1 b2 0 m)) (∃ x5,U=[some (.ref G),some (.ref I),some (.ref pb),some (.int fl),some (.ref a),x5,none,none,none,none]))
   ⟨S1,⟨Qg,_,D1.at_,F1,rfl,QH.new,⟨λ Z h=>absurd h aaf,λ Z h=>absurd h aaf,λ Z h=>absurd h aaf,⟨Oi,FI,Ko⟩⟩,nX.new⟩,none,rfl⟩ (λ i U t Z e=>e.1.seq O) ?_ ?_
 .
  rintro Z i x U H2 hx ⟨S,⟨Xg,m2,h2,F2,l2,q2,Tp,VU⟩,x5,rfl⟩
  have Y:i<R.length:=by rw [<- lx];exact (Ba.mp hx).1
  obtain ⟨v,ev,dv⟩:=dr.get (i:=i) (d:=IK R[i]) (by rw [aab,aJ Y];rfl)
  obtain rfl:x=v:=aap (hx.symm.trans ev)
  obtain ⟨pq,pm,sv,rfl,M,hm,Z⟩:=ym dv
  have J:=yG R[i] (aay Y)
  have Fy:=SN Y
  generalize R[i]=r at M hm J dv Fy
  obtain ⟨⟨WO,Z,Z,Z,Z,Z,Z,Z,Z,Z,Xa,Z⟩,Z,Z,Z,w2⟩:=id h2
  refine ⟨_,rfl,a,WO,_,rfl,Xa,rfl,_,rfl,pq,_,_,_,rfl,rfl,.inr (S.tup M),rfl,pm,rfl,⟨_,S.seq hm⟩,λ Dl hD=>?_⟩
  refine cE (K:=K) (a:=pm) (xs:=r.marks.map V.int) (λ j acc U L=>A4 (aE H2 L) (L Dl=some (.lst acc)) (bC K L ((r.marks.take j).map λ x=>eX (d9 x s)) acc) (∃ v,U=[v,some (.ref I)]))
    ⟨al hD,ag,fu,none,rfl⟩ (λ j acc U L Z e=>(S.trans e.1).seq hm) ?_ ?_
  .
   rintro j y acc U L l ⟨s3,jU,d3,v,rfl⟩
   obtain ⟨z,ez,rfl⟩:∃ z,r.marks[j]?=some z/\V.int z=y:=by
     rw [aab] at l
     cases e:r.marks[j]? with
     | none=>rw [e] at l;cases l
     | some r=>rw [e] at l;cases l;exact ⟨r,rfl,rfl⟩
   have hz:=J.bd z (aag ez)
   have bm:=(Ba.mp ez).1
   have la:acc.length=j:=by rw [d3.length,OG,aaD];lia
   refine ⟨_,rfl,_,rfl,z,I,s,rfl,(S.trans s3).tup PD,A,by lia,λ q H4 N h4=>?_⟩
   have Um:aQ K H4 (upd H4 Dl (.lst (acc++[.ref q]))):=bU (N _ _ jU) rfl
   refine ⟨N _ _ jU,aT (by have:=J.len;lia),(s3.trans N).put hD,ag,?_,_,rfl⟩
   rw [acG,ez,aah]
   exact (bC.ts ((aE.ts N).trans Um) _ (oY _ _) d3).snoc (Dn.ts Um _ (iO _) (nG (bR.of h4)))
  .
   rintro acc U L ⟨s3,jU,d3,v,rfl⟩
   rw [OG,aaC] at d3
   have lr:(r.marks.map λ x=>d9 x s).length=r.marks.length:=OG ..
   have a3:bC K L ((r.marks.map λ x=>d9 x s).map eX) acc:=by rw [abJ];exact d3
   have ol:=J.len
   refine ⟨a,Xg,m2,Dl,acc,r.marks.map λ x=>d9 x s,rfl,h2.same s3,by lia,bh.of jU,a3,λ f hf=>?_,by lia,by lia,LO A J,Hr (λ y l=>?_) (by rw [aac,aaw];lia),λ H4 Tq D4=>?_⟩
   . obtain ⟨z,hz,rfl⟩:=aaH.mp hf
     have:=J.bd z hz
     exact mC A (by lia)
   . rcases aar.mp l with l|l
     . exact ⟨(w2.len y l).1,(Tp.rise y l).2⟩
     . rw [aae.mp l,lr];exact ol
   . obtain ⟨S4,F4⟩:=D4.keep (S.trans s3) F2
     exact ⟨S4,⟨Tq,_,D4.at_,F4,by show (m2.rows++[_]).length=_;rw [aac,l2];rfl,q2.eY,Tp.eY (LO A J) (by lia),VU.eY (by rw [l2];exact Fy) lr⟩,_,rfl⟩
 rintro U H2 ⟨S,⟨Xg,m2,h2,F2,l2,q2,Tp,VU⟩,x5,rfl⟩
 refine ⟨_,rfl,G,_,rfl,.inl (S.seq O),λ n en=>⟨_,rfl,by lia,by lia,?_⟩⟩
 rw [lx] at en l2
 subst en
 refine fX (lo:=0) (n:=R.length) (λ i U t=>A3 (aE H t) (E2 λ B m=>A6 (aN K Ad.aX t a B m) (∀ c∈B,H c=none) (m.rows.length=R.length) (QH m) (eF m) (nX R b0 b1 b2 i m)) (E4 λ x6 x7 x8 x9=>U=[some (.ref G),some (.ref I),some (.ref pb),some (.int fl),some (.ref a),x5,x6,x7,x8,x9]))
   ⟨S,⟨Xg,m2,h2,F2,l2,q2,Tp,VU⟩,none,none,none,none,rfl⟩ ?_ ?_
 .
  rintro Z i U L Y ⟨S3,⟨Y8,m3,h3,F3,l3,q3,ZP,X4⟩,x6,x7,x8,x9,rfl⟩
  obtain ⟨v,ev,dv⟩:=dr.get (i:=i) (d:=IK R[i]) (by rw [aab,aJ Y];rfl)
  obtain ⟨pq,pm,sv,rfl,M,hm,D⟩:=ym dv
  have J:=yG R[i] (aay Y)
  have Fy:=SN Y
  generalize R[i]=r at M hm J dv D Fy
  have NE:tT xs (0+(i:Int))=some (.ref pq):=by rw [aa0];exact ed ev
  obtain ⟨⟨WO,Z,Z,Z,Z,Z,Z,Z,Z,Z,Xa,Z⟩,k1,k2,k3,w3⟩:=id h3
  have bn:=J.sh
  refine ⟨_,rfl,_,rfl,G,_,_,_,rfl,rfl,.inl (S3.seq O),NE,pq,_,_,_,rfl,rfl,.inr (S3.tup M),rfl,_,_,rfl,by decide,pV,λ q r' u H4 F N hu=>?_⟩
  have e4:=Gv (K:=K) (by decide) F hu
  have S4:=S3.trans N
  refine ⟨_,rfl,a,WO,_,rfl,N _ _ Xa,rfl,_,rfl,_,rfl,_,rfl,_,rfl,G,_,_,_,rfl,rfl,.inl (S4.seq O),NE,pq,_,_,_,rfl,rfl,.inr (S4.tup M),rfl,_,rfl,r.low,I,s,rfl,S4.tup PD,A,by have:=J.lb;lia,λ q5 H5 s5 h5=>?_⟩
  have S5:=S4.trans s5
  refine ⟨_,rfl,_,rfl,G,_,_,_,rfl,rfl,.inl (S5.seq O),NE,pq,_,_,_,rfl,rfl,.inr (S5.tup M),rfl,_,rfl,r.high,I,s,rfl,S5.tup PD,A,by have:=J.hb;lia,λ q6 H6 s6 h6=>?_⟩
  have S6:=S5.trans s6
  have Qz:bV (d9 r.high s) (d9 r.low s)=false:=by
    rw [zn A (by have:=J.hb;lia) (by have:=J.lb;lia)]
    exact aam (by have:=J.lo;lia)
  have YZ:fK 100 (nf r.share 12):=V0 (by decide) (by decide) (by lia)
  have WB:=OY (show 0<=r.share by lia) (by lia)
  refine ⟨a,Y8,m3,i,.ref u,.ref q5,.ref q6,nf r.share 12,d9 r.low s,d9 r.high s,by rw [aa0];rfl,h3.same ((N.trans s5).trans s6),by lia,Dn.same (s5.trans s6) _ e4,Dn.same s6 _ (nG (bR.of h5)),nG (bR.of h6),YZ,mC A (by have:=J.lb;lia),mC A (by have:=J.hb;lia),Qz,(Ls YZ.p).mp WB.1,q3.Jk w3 k3 (by lia) YZ.p WB.2,λ H7 ad D7=>?_⟩
  obtain ⟨W,F7⟩:=D7.keep S6 F3
  have aC:=q3.fW (i:=i) (z:=(nf r.share 12,d9 r.low s,d9 r.high s)) (by lia) WB
  have ae:=X4.fW (i:=i) (z:=(nf r.share 12,d9 r.low s,d9 r.high s))
  have aj:=ZP.fW (i:=i) (z:=(nf r.share 12,d9 r.low s,d9 r.high s)) Qz
  refine ⟨_,rfl,_,rfl,G,_,_,_,rfl,rfl,.inl (W.seq O),NE,pq,_,_,_,rfl,rfl,.inr (W.tup M),rfl,?_⟩
  refine ⟨λ a0 t=>A3 (aE H t) (E2 λ B m=>A6 (aN K Ad.aX t a B m) (∀ c∈B,H c=none) (m.rows.length=R.length) (QH m) (eF m) (nX R b0 b1 b2 (i+1) m)) (E2 λ x7 x8=>a0=[some (.ref G),some (.ref I),some (.ref pb),some (.int fl),some (.ref a),x5,some (.int (0+(i:Int))),x7,x8,x9]),?_,?_⟩
  .
   refine ⟨_,rfl,rfl,_,rfl,?_⟩
   cases jj:r.bJ with
   | none =>
     rw [jj] at D
     have D:sv = .cB:=D
     subst D
     exact hV rfl ⟨W,⟨ad,_,D7.at_,F7,l3,aC,aj,ae.skip Fy jj⟩,_,_,rfl⟩
   | some z =>
     rw [jj] at D
     obtain ⟨pz,rfl,Dj⟩:=wP D
     obtain ⟨z1,z2,z3,z4⟩:=J.st z jj
     refine oU (λ Z=>?_) (λ q=>nomatch q)
     obtain ⟨⟨a4,Z,Z,Z,Z,Z,Z,Z,Z,Z,a7,Z⟩,Z⟩:=id D7.at_
     have oa:=A.a
     have ob:=A.b
     refine ⟨_,rfl,a,a4,_,rfl,a7,rfl,_,rfl,_,rfl,pz,_,_,_,rfl,rfl,.inr (W.tup Dj),rfl,_,rfl,I,_,_,_,rfl,rfl,.inr (W.tup PD),rfl,_,_,rfl,rfl,⟨10,40,(show Int.natAbs _<2 ^ 10 by lia),(show Int.natAbs _<2 ^ 40 by lia),by decide⟩,λ y ey=>?_⟩
     refine ⟨_,rfl,I,_,_,_,rfl,rfl,.inr (W.tup PD),rfl,_,_,rfl,by lia,(show Bd 40 s.b from (show s.b.natAbs<2 ^ 40 by lia)).mono (by decide),λ q r' u8 H8 F8 s8 ba=>?_⟩
     have e8:=Gv (K:=K) (by lia) F8 ba
     have X:=W.trans s8
     have l:0<=y/\y.natAbs<=10 ^ 12:=by
       rw [ey]
       refine ⟨abR z1.1 (by lia),?_⟩
       have:=Ai (x:=100) (y:=10 ^ 9) (a:=z.1) (b:=s.a) (by lia) (by lia)
       lia
     have o8:fK 100 (nf y s.b):=V0 (by lia) (by lia) (by lia)
     refine ⟨_,rfl,pz,_,_,_,rfl,rfl,.inr (X.tup Dj),rfl,_,rfl,pz,_,_,_,rfl,rfl,.inr (X.tup Dj),rfl,_,rfl,pz,_,_,_,rfl,rfl,.inr (X.tup Dj),rfl,a,ad,_,i,.ref u8,nf y s.b,z.2.1,z.2.2.1,z.2.2.2,by rw [aa0];rfl,D7.at_.same s8,by show i<m3.rows.length;lia,e8,o8,LC (by lia) l.1,z2,z3,z4,λ H9 Tz D9=>?_⟩
     obtain ⟨S9,F9⟩:=D9.keep X F7
     exact ⟨S9,⟨Tz,_,D9.at_,F9,l3,aC.d6,aj.d6 (z:=(nf y s.b,z.2.1,z.2.2.1,z.2.2.2)) ⟨LC (by lia) l.1,z2,z3,z4⟩,ae.d6 (by have:=D7.at_.st;have e7:(m3.fW i (nf r.share 12,d9 r.low s,d9 r.high s)).rows.length=m3.rows.length:=rfl;lia) Fy jj rfl⟩,_,_,rfl⟩
  rintro a0 H8 ⟨X,⟨a6,m8,h8,F8,l8,q8,bc,bb⟩,be,bf,rfl⟩
  refine ⟨_,rfl,G,_,rfl,.inl (X.seq O),λ n en=>⟨_,rfl,by lia,by lia,?_⟩⟩
  rw [lx] at en
  subst en
  refine fX (lo:=0) (n:=R.length) (λ j U t=>A3 (aE H t) (E2 λ B m=>A6 (aN K Ad.aX t a B m) (∀ c∈B,H c=none) (m.rows.length=R.length) (QH m) (eF m) (nX R b0 b1 b2 (i+1) m)) (∃ x9,U=[some (.ref G),some (.ref I),some (.ref pb),some (.int fl),some (.ref a),x5,some (.int (0+(i:Int))),be,bf,x9]))
    ⟨X,⟨a6,m8,h8,F8,l8,q8,bc,bb⟩,_,rfl⟩ ?_ ?_
  .
   rintro Z j U H9 hj ⟨S9,⟨Tz,m9,h9,F9,l9,q9,an,ah⟩,bk,rfl⟩
   refine ⟨_,rfl,_,rfl,rfl,_,rfl,oU (λ ne=>?_) (λ Z=>⟨S9,⟨Tz,m9,h9,F9,l9,q9,an,ah⟩,_,rfl⟩)⟩
   have Bc:i≠j:=λ z=>ne (by rw [z])
   obtain ⟨⟨Yb,Z,Z,Z,Z,Z,Z,Z,Z,Z,a8,Z⟩,o1,o2,o3,w9⟩:=id h9
   refine ⟨_,rfl,a,Yb,_,rfl,a8,rfl,_,rfl,_,rfl,_,rfl,LD,λ p4 a9=>⟨_,rfl,?_⟩⟩
   have BH:=al (o:=.lst [.int 1,.int 4,.int 16,.int 64]) a9
   have XA:∃ g:Int,tT [V.int 1,V.int 4,V.int 16,V.int 64] (0+(j:Int))=some (.int g)/\1<=g/\g<=64:=by
     rw [aa0]
     exact NX j (by lia)
   obtain ⟨g,hg,g1,g2⟩:=XA
   refine ⟨p4,_,_,_,rfl,rfl,.inl (bh.of ag),hg,_,_,rfl,rfl,⟨by lia,(show Bd 10 g from (show g.natAbs<2 ^ 10 by lia)).mono (by decide)⟩,λ y ey=>⟨_,_,rfl,rfl,by decide,λ q q0 q1 Z=>?_⟩⟩
   refine ⟨_,_,rfl,by decide,pV,λ qq r' u Ef a1 Lp hu=>?_⟩
   have a5:=Gv (K:=K) (by decide) a1 hu
   have Me:=OY q0 (by lia)
   have Nq:fK 100 (nf q 12):=V0 (by decide) (by decide) (by lia)
   have FA:=BH.trans Lp
   refine ⟨a,Tz,m9,i,j,.ref u,nf q 12,by rw [aa0,aa0];rfl,h9.same FA,by lia,by lia,Bc,a5,Nq,(Ls Nq.p).mp Me.1,q9.FL w9 o3 (by lia) (by lia) Bc Nq.p Me.2,λ UD YJ ab=>?_⟩
   obtain ⟨TH,a2⟩:=ab.keep (S9.trans FA) F9
   exact ⟨TH,⟨YJ,_,ab.at_,a2,l9,q9.eK Bc Me,an.eK,ah.eK⟩,_,rfl⟩
  . rintro U H9 ⟨S9,XG,bk,rfl⟩
    exact ⟨S9,XG,_,_,_,_,rfl⟩
 . rintro U L ⟨S3,⟨Y8,m3,h3,F3,l3,q3,ZP,X4⟩,x6,x7,x8,x9,rfl⟩
   exact ⟨_,rfl,k a Y8 m3 L S3 h3 F3 l3 q3 ZP X4⟩
def MG (i:Nat) (h:i<4):tT [V.int 1,V.int 2,V.int 4,V.int 8] (i:Int)=some (.int ((2 ^ i:Nat):Int)):=by
 have:i=0\/i=1\/i=2\/i=3:=by lia
 rcases this with rfl|rfl|rfl|rfl<;>exact bZ rfl
def yB (T:Txt K mg Ad):Def P w K mg base "_law_state" 2 ["_law_rooms_here","_law_bounds","_law_cell","_law_k"] (Cd K):=by
 refine T.zk.cW cp λ Z Z Z Z Z H vs Q E hr h=>?_
 obtain ⟨pr,xs,R,Wl,b0,b1,b2,c,kk,rfl,oQ,dr,n1,n4,yG,E7,Oi,FI,k0,k1,k⟩:=h
 refine ⟨_,(ac (cT (i:=4) cp.nd (dA af))
     (ac (cT (i:=5) cp.nd (dA af))
     (ac (cT (i:=6) cp.nd (dA af))
     (ac (cT (i:=7) cp.nd ai)
     (ac (cT (i:=8) cp.nd ai)
     (ac (dB aaF rfl (cN rfl T.eM (aa (aS bv (by rfl) T.dZ cD (aa (pv 0) af)) af)) (iJ (i:=9) cp.nd) (ac (cT (i:=10) cp.nd (aF az (aF az (pv 0) (pv 9)) ai))
     (ac (bp (iG aaI aaN aaM cI (pv 4) (aa (ax bo (au (bO T) hr.m (aa (pv 2) (aa (ax bg (pv 3) (pv 9)) (aa ai af)))) (ax dS (aS bv (by rfl) T.dZ cD (aa (aF az (aF az (pv 0) (pv 9)) ai) af)) ai)) af)))
     (ac (bp (iG aaI aaN aaM cI (pv 5) (aa ai af)))
     (ac (bp (iG aaI aaN aaM cI (pv 6) (aa ai af)))
     (ac (cT (i:=11) cp.nd (au (bO T) hr.m (aa (pv 2) (aa (ax bg (pv 3) (ax bL ai (pv 9))) (aa ai af)))))
     (am (br (PW.pt (xC (aH px (pv 10) cG (aK _)) (sY (aH jw (ax bo (pv 11) ai) ai (aK _))))) (ac (iy (ax bo (ax bI (pv 11) ai) (ax bg (aF az (pv 10) ai) ai)) (qT (pv 5) (pv 9) set_list))
     (am (br (PW.pt (xC (aH dE (ax bo (pv 11) ai) ai (aK _)) (sY (aH jw (pv 8) (aF az (pv 1) ai) (aK _))))) (ac (cT (i:=7) cp.nd (ax bg (pv 7) (aF az (dA (aa ai (aa ai (aa ai (aa ai af))))) (pv 9))))
     (am (cT (i:=8) cp.nd (ax bg (pv 8) ai)))) aI))) (am (br (aH px (pv 10) cG (aK _)) (am (iy (ax bo (ax bI (pv 11) ai) (ax bg (aF az (pv 10) ai) ai)) (qT (pv 6) (pv 9) set_list))) aI))))))))))
     (am (aG (cg (aa (cH eR (by rfl) T.mR jR (aa (pv 4) af)) (aa (pv 7) (aa (cH eR (by rfl) T.mR jR (aa (pv 5) af)) (aa (cH eR (by rfl) T.mR jR (aa (pv 6) af)) (aa (ax bo (au (bO T) hr.m (aa (pv 2) (aa (pv 3) (aa ai af)))) (ax bg (aF az (pv 1) ai) ai)) af)))))))))))))),?_⟩
 try dsimp only [eQ,aW]
 try (refine yT ?_;intro Z Z Z Z Z Z Z Z)
 have lx:xs.length=R.length:=by rw [dr.length,OG]
 refine ⟨HD,λ s hb=>⟨HD,λ p hw=>⟨HD,λ j L=>?_⟩⟩⟩
 have sb:=al (o:=.lst []) hb
 have sw:=al (o:=.lst []) hw
 have sf:=al (o:=.lst []) L
 have ae:=(sw.trans sf) _ _ (ag (H:=H) (a:=s) (o:=.lst []))
 have aj:=sf _ _ (ag (H:=upd H s (.lst [])) (a:=p) (o:=.lst []))
 have Tt:s≠p:=λ z=>by rw [<- z,ag] at hw;cases hw
 have TF:s≠j:=λ z=>by rw [<- z] at L;rw [sw _ _ ag] at L;cases L
 have Y:p≠j:=λ z=>by rw [<- z,ag] at L;cases L
 have ah:(upd (upd (upd H s (.lst [])) p (.lst [])) j (.lst [])) j=some (.lst []):=ag
 have S0:=(sb.trans sw).trans sf
 have aX:H p=none:=sb.free hw
 have aD:H j=none:=(sb.trans sw).free L
 generalize upd (upd (upd H s (.lst [])) p (.lst [])) j (.lst [])=H0 at ae aj ah S0 |-
 refine ⟨_,rfl,pr,_,rfl,.inl (S0.seq oQ),λ n en=>⟨_,rfl,by lia,by lia,?_⟩⟩
 rw [lx] at en
 subst en
 refine fX (lo:=0) (n:=R.length) (λ i U H'=>aE H H'/\E4 λ (B g F:bj) (t:Nat)=>A5 (H' s=some (.lst (B.map ao))) (H' p=some (.lst (g.map ao))) (H' j=some (.lst (F.map ao))) (nK R b0 i B g F t) (E3 λ (x9 LG Lu:eE)=>U=[some (.ref pr),some (.ref Wl),some (.int c),some (.int kk),some (.ref s),some (.ref p),some (.ref j),some (ao t),some (ao (Bit.rooms t).length),x9,LG,Lu]))
   ⟨S0,[],[],[],0,ae,aj,ah,nK.zero Oi,none,none,none,rfl⟩ ?_ ?_
 .
  rintro Z i U H1 hi ⟨S1,B,g,F,t,Mr,X1,Wk,u,x9,LG,Lu,rfl⟩
  obtain ⟨v,ev,dv⟩:=dr.get (i:=i) (d:=IK R[i]) (by rw [aab,aJ hi];rfl)
  obtain ⟨pq,pm,sv,rfl,hq,hm,D⟩:=ym dv
  have jl:=yG R[i] (aay hi)
  have X:=SN hi
  generalize R[i]=r at hq hm jl dv D X
  have lb:=u.lb
  have lw:=u.lw
  have lf:=u.lf
  have MC:i<61:=by lia
  have NE:tT xs (0+(i:Int))=some (.ref pq):=by rw [aa0];exact ed ev
  have ol:=jl.len
  refine ⟨_,rfl,_,rfl,pr,_,_,_,rfl,rfl,.inl (S1.seq oQ),NE,pq,_,_,_,rfl,rfl,.inr (S1.tup hq),rfl,?_⟩
  refine ⟨_,rfl,.inl ⟨rfl,_,bh.of Mr⟩,_,rfl,_,rfl,_,rfl,_,_,rfl,rfl,λ y1 e1=>⟨c,y1,0,rfl,by lia,by lia,by decide,by decide,λ G r2 S Z Z=>?_⟩⟩
  have S2:=S1.trans S
  refine ⟨_,rfl,_,rfl,pr,_,_,_,rfl,rfl,.inl (S2.seq oQ),NE,pq,_,_,_,rfl,rfl,.inr (S2.tup hq),rfl,pm,_,rfl,.inl (S2.seq hm),λ y2 e2=>⟨_,_,rfl,rfl,λ y3 e3=>⟨_,_,rfl,rfl,by rw [OG] at e2;lia,λ q q0 q1 Z=>?_⟩⟩⟩
  obtain ⟨q,rfl⟩:∃ x:Nat,q=(x:Int):=⟨q.toNat,by lia⟩
  have Tj:q+1<r.marks.length:=by rw [OG] at e2;lia
  have YW:=S _ _ Mr
  have aC:=S _ _ X1
  have an:=S _ _ Wk
  refine ⟨s,_,_,rfl,rfl,YW,aT (by rw [OG];lia),?_⟩
  refine ⟨_,rfl,.inl ⟨rfl,_,bh.of (by rw [ar Tt.symm];exact aC)⟩,p,_,_,rfl,rfl,by rw [ar Tt.symm];exact aC,aT (by rw [OG];lia),?_⟩
  refine ⟨_,rfl,.inl ⟨rfl,_,bh.of (by rw [ar Y.symm,ar TF.symm];exact an)⟩,j,_,_,rfl,rfl,by rw [ar Y.symm,ar TF.symm];exact an,aT (by rw [OG];lia),?_⟩
  have S3:aE H (upd (upd (upd G s (.lst (B.map ao++[.int (q:Int)]))) p (.lst (g.map ao++[.int 0]))) j (.lst (F.map ao++[.int 0]))):=((S2.put hb).put aX).put aD
  have ab:(upd (upd (upd G s (.lst (B.map ao++[.int (q:Int)]))) p (.lst (g.map ao++[.int 0]))) j (.lst (F.map ao++[.int 0]))) s=some (.lst ((B++[q]).map ao)):=by rw [ar TF,ar Tt,ag,aah];rfl
  have Z3:(upd (upd (upd G s (.lst (B.map ao++[.int (q:Int)]))) p (.lst (g.map ao++[.int 0]))) j (.lst (F.map ao++[.int 0]))) p=some (.lst ((g++[0]).map ao)):=by rw [ar Y,ag,aah];rfl
  have ad:(upd (upd (upd G s (.lst (B.map ao++[.int (q:Int)]))) p (.lst (g.map ao++[.int 0]))) j (.lst (F.map ao++[.int 0]))) j=some (.lst ((F++[0]).map ao)):=by rw [ag,aah];rfl
  generalize upd (upd (upd G s (.lst (B.map ao++[.int (q:Int)]))) p (.lst (g.map ao++[.int 0]))) j (.lst (F.map ao++[.int 0]))=H3 at S3 ab Z3 ad |-
  refine ⟨_,rfl,_,rfl,_,rfl,_,_,rfl,rfl,⟨3,5,pV,(show Int.natAbs _<2 ^ 5 by lia),by decide⟩,λ y4 e4=>⟨_,_,rfl,rfl,λ y5 e5=>?_⟩⟩
  have e4:y4=7 * (0+(i:Int)):=e4
  refine ⟨c,y5,1,rfl,by lia,by lia,by decide,by decide,λ I xv A a9 Z=>?_⟩
  have J:=S3.trans A
  have Wj:=A _ _ ab
  have XO:=A _ _ Z3
  have WV:=A _ _ ad
  have sl:∀ {l:bj} {a b:Nat},l.length=i->(l++[a]).set i b=l++[b]:=λ {l a b} e=>by subst e;simp
  cases M:r.bJ with
  | none =>
    rw [M] at D
    have D:sv = .cB:=D
    subst D
    exact ⟨_,rfl,rfl,_,rfl,hV rfl ⟨_,rfl,rfl,_,rfl,hV rfl ⟨J,_,_,_,t,Wj,XO,WV,(u.next (w:=0) (f:=0) (lit:=false) MC X Tj (by rw [M];exact ⟨rfl,rfl,rfl⟩) nofun).1,_,_,_,rfl⟩⟩⟩
  | some z =>
    rw [M] at D
    obtain ⟨pz,rfl,Dj⟩:=wP D
    obtain ⟨z1,z2,z3,z4⟩:=jl.st z M
    have RD:=J.tup Dj
    refine ⟨_,rfl,rfl,_,rfl,oU (λ Z=>?_) (λ q=>nomatch q)⟩
    refine ⟨_,rfl,_,_,rfl,rfl,by decide,λ m4 a7 a8 a6=>⟨_,_,rfl,rfl,_,rfl,fP (λ Z=>?_) (λ Z=>?_)⟩⟩
    .
     refine ⟨_,rfl,_,_,rfl,rfl,⟨by decide,pV⟩,λ y6 Z=>⟨_,rfl,pz,_,_,_,rfl,rfl,.inr RD,rfl,_,_,rfl,rfl,λ y7 e7=>⟨_,_,rfl,rfl,by lia,λ W a4 a5 Z=>?_⟩⟩⟩
     obtain ⟨W,rfl⟩:∃ x:Nat,W=(x:Int):=⟨W.toNat,by lia⟩
     have Uh:(W:Int)<=z.2.2.1:=by lia
     refine ⟨_,rfl,_,rfl,p,_,_,i,rfl,rfl,XO,(by rw [aa0];exact kC (by rw [OG,aac];show i<g.length+1;lia)),?_⟩
     have S5:aE H (upd I p (.lst (((g++[0]).map ao).set i (.int (W:Int))))):=J.put aX
     have Tw:(upd I p (.lst (((g++[0]).map ao).set i (.int (W:Int))))) p=some (.lst ((g++[W]).map ao)):=by rw [ag,show V.int (W:Int)=ao W from rfl,<- adr,sl lw]
     have Uu:(upd I p (.lst (((g++[0]).map ao).set i (.int (W:Int))))) s=some (.lst ((B++[q]).map ao)):=by rw [ar Tt];exact Wj
     have O:(upd I p (.lst (((g++[0]).map ao).set i (.int (W:Int))))) j=some (.lst ((F++[0]).map ao)):=by rw [ar Y.symm];exact WV
     generalize upd I p (.lst (((g++[0]).map ao).set i (.int (W:Int))))=H5 at S5 Tw Uu O |-
     have KZ:=(u.next (w:=W) (f:=0) (lit:=false) MC X Tj (by rw [M];exact ⟨Uh,z4.1,.inl rfl⟩) nofun).1
     refine ⟨_,rfl,_,_,rfl,rfl,by decide,λ m5 Z Z Z=>⟨rfl,_,rfl,fP (λ Z=>?_) (λ Z=>⟨S5,_,_,_,t,Uu,Tw,O,KZ,_,_,_,rfl⟩)⟩⟩
     refine ⟨_,rfl,_,rfl,Wl,_,_,_,rfl,rfl,.inr (S5.tup E7),rfl,_,_,rfl,rfl,_,rfl,fP (λ mX=>?_) (λ Z=>⟨S5,_,_,_,t,Uu,Tw,O,KZ,_,_,_,rfl⟩)⟩
     refine ⟨_,rfl,LD,λ p6 a0=>⟨_,rfl,?_⟩⟩
     have C:=al (o:=.lst [.int 1,.int 2,.int 4,.int 8]) a0
     have XA:tT [V.int 1,V.int 2,V.int 4,V.int 8] (0+(i:Int))=some (.int ((2 ^ i:Nat):Int)):=by
       rw [aa0]
       exact MG i (by lia)
     refine ⟨p6,_,_,_,rfl,rfl,.inl (bh.of ag),XA,_,_,rfl,rfl,λ y8 e8=>⟨_,rfl,_,_,rfl,rfl,λ y9 e9=>?_⟩⟩
     obtain rfl:y8=((t+2 ^ i:Nat):Int):=by rw [e8];push_cast;rfl
     obtain ⟨a3,Ze⟩:=u.next (w:=W) (f:=0) (lit:=true) MC X Tj (by rw [M];exact ⟨Uh,z4.1,.inl rfl⟩) (λ Z=>mX)
     have Ze:(Bit.rooms (t+2 ^ i)).length=(Bit.rooms t).length+1:=Ze
     obtain rfl:y9=(((Bit.rooms (t+2 ^ i)).length:Nat):Int):=by rw [e9,Ze];push_cast;rfl
     exact ⟨S5.trans C,_,_,_,t+2 ^ i,C _ _ Uu,C _ _ Tw,C _ _ O,a3,_,_,_,rfl⟩
    .
     refine ⟨_,rfl,rfl,_,rfl,oU (λ Z=>?_) (λ q=>nomatch q)⟩
     refine ⟨_,rfl,_,_,rfl,rfl,⟨by decide,pV⟩,λ y6 Z=>⟨_,rfl,pz,_,_,_,rfl,rfl,.inr RD,rfl,_,_,rfl,rfl,λ y7 e7=>⟨_,_,rfl,rfl,by lia,λ W a4 a5 Z=>?_⟩⟩⟩
     obtain ⟨W,rfl⟩:∃ x:Nat,W=(x:Int):=⟨W.toNat,by lia⟩
     have Uh:(W:Int)<=z.2.2.2:=by lia
     refine ⟨_,rfl,_,rfl,j,_,_,i,rfl,rfl,WV,(by rw [aa0];exact kC (by rw [OG,aac];show i<F.length+1;lia)),?_⟩
     have O:(upd I j (.lst (((F++[0]).map ao).set i (.int (W:Int))))) j=some (.lst ((F++[W]).map ao)):=by rw [ag,show V.int (W:Int)=ao W from rfl,<- adr,sl lf]
     exact ⟨J.put aD,_,_,_,t,by rw [ar TF];exact Wj,by rw [ar Y];exact XO,O,(u.next (w:=0) (f:=W) (lit:=false) MC X Tj (by rw [M];exact ⟨z3.1,Uh,.inr ⟨rfl,rfl⟩⟩) nofun).1,_,_,_,rfl⟩
 .
  rintro U H1 ⟨S1,B,g,F,t,Mr,X1,Wk,u,x9,LG,Lu,rfl⟩
  refine ⟨_,rfl,s,_,rfl,.inl ⟨bh.of Mr,λ t1 ZH=>?_⟩⟩
  have S:=al (o:=.tup (B.map ao)) ZH
  have e2:(upd H1 t1 (.tup (B.map ao))) t1=some (.tup (B.map ao)):=ag
  generalize upd H1 t1 (.tup (B.map ao))=G at S e2 |-
  refine ⟨_,rfl,_,rfl,p,_,rfl,.inl ⟨bh.of (S _ _ X1),λ t2 O2=>?_⟩⟩
  have s3:=al (o:=.tup (g.map ao)) O2
  have e3:(upd G t2 (.tup (g.map ao))) t2=some (.tup (g.map ao)):=ag
  generalize upd G t2 (.tup (g.map ao))=H3 at s3 e3 |-
  refine ⟨_,rfl,j,_,rfl,.inl ⟨bh.of ((S.trans s3) _ _ Wk),λ t3 a2=>?_⟩⟩
  have A:=al (o:=.tup (F.map ao)) a2
  have e4:(upd H3 t3 (.tup (F.map ao))) t3=some (.tup (F.map ao)):=ag
  generalize upd H3 t3 (.tup (F.map ao))=I at A e4 |-
  refine ⟨_,rfl,_,rfl,c,kk,2,rfl,k0,by lia,by decide,by decide,λ H5 r5 s5 Z Z=>?_⟩
  have J:=((S1.trans S).trans s3).trans A
  refine ⟨_,rfl,Wl,_,_,_,rfl,rfl,.inr ((J.trans s5).tup E7),rfl,_,_,rfl,rfl,λ y e=>⟨_,_,rfl,rfl,by lia,λ N Oj Ee Z=>⟨(by show 5<=sizeLine;decide),λ qt a1=>?_⟩⟩⟩
  obtain ⟨N,rfl⟩:∃ x:Nat,N=(x:Int):=⟨N.toNat,by lia⟩
  have C:=al (o:=.tup [.ref t1,ao t,.ref t2,.ref t3,ao N]) a1
  refine k qt ⟨B,t,g,F,N⟩ _ ((J.trans s5).trans C) ⟨t1,t2,t3,bR.of ag,bR.of (((s3.trans A).trans (s5.trans C)) _ _ e2),bR.of ((A.trans (s5.trans C)) _ _ e3),bR.of ((s5.trans C) _ _ e4)⟩ u (by show (N:Int)<=b1;lia)
def fA (T:Txt K mg Ad):Def P w K mg base "_law_cell_at" 1 ["_law_script","_law_k"] (Cz K):=by
 refine T.vn.cW uF λ Z Z Z Z Z H v Q E i h=>?_
 obtain ⟨a,N,z,rfl,d,g,k⟩:=h
 refine ⟨_,(ac (br (aH jw (pv 1) (aS bv (by rfl) T.dZ cD (aa (pv 0) af)) (aK _)) (am (aG (aF az (pv 0) (pv 1)))) aI)
     (am (aG ai))),?_⟩
 try dsimp only [eQ,aW]
 refine ⟨_,rfl,_,rfl,_,_,rfl,.inl d,λ n f=>⟨_,_,rfl,rfl,_,rfl,?_⟩⟩
 rw [OG] at f
 refine fP (λ h=>?_) (λ h=>?_)
 .
  have b:z.toNat<N.length:=by lia
  have e:(N.map V.int)[z.toNat]?=some (.int (N[z.toNat]'b)):=by simp [b]
  have c:=bZ e
  rw [ab5 g] at c
  refine ⟨_,rfl,_,rfl,_,_,_,_,rfl,rfl,.inl d,c,k _ (.inl (aay b))⟩
 . exact k 0 (.inr rfl)
def qN (T:Txt K mg Ad):Def P w K mg base "_law_bad_state" 1 ["_law_state_here","_law_rooms_here","_law_bounds","_law_x"] (Ix K):=by
 refine T.sT.cW aP λ Z Z Z Z Z H vs Q E hr h=>?_
 obtain ⟨q,S,V,xs,R,pb,b0,b1,b2,x,m,rfl,hs,hp,dx,n1,n4,hb,lr,lk,so,k⟩:=h
 refine ⟨_,(ac (iy (pv 0) (dC (K:=K) (n:=5) rfl rfl (aO (iJ (i:=4) aP.nd) (aO (iJ (i:=5) aP.nd) (aO (iJ (i:=6) aP.nd) (aO (iJ (i:=7) aP.nd) (aO (iJ (i:=8) aP.nd) dD)))))))
     (ac (cT (i:=9) aP.nd (ax bo (ax bI (pv 3) ai) (aS bv (by rfl) T.dZ cD (aa (pv 1) af))))
     (ac (cT (i:=10) aP.nd (aF az (aF az (pv 1) (pv 9)) ai))
     (ac (eW (br (aH ji (pv 10) cG (aK _)) (am (cT (i:=10) aP.nd (cg (aa ai (aa ai (aa ai (aa ai af))))))) aI))
     (ac (cT (i:=11) aP.nd (ax bo (pv 3) ai))
     (ac (eW (br (aH dE (pv 11) ai (aK _)) (am (cT (i:=8) aP.nd (ax dS (pF qH ai) (ax bo (ax bI (pv 3) ai) (ax yp ai ai))))) aI))
     (ac (eW (br (aH dE (pv 11) ai (aK _)) (am (cT (i:=8) aP.nd (ax bg (aF az (pv 2) ai) ai))) aI))
     (ac (eW (br (aH dE (pv 11) ai (aK _)) (am (cT (i:=4) aP.nd (ax gZ (ax gZ (eP sW (pv 4) gk (fM (pv 9))) (cg (aa (ax dS (aS bv (by rfl) T.dZ cD (aa (aF az (aF az (pv 1) (pv 9)) ai) af)) ai) af))) (eP mV (pv 4) (fM (ax bg (pv 9) ai)) gk)))) aI))
     (ac (eW (br (aH dE (pv 11) ai (aK _)) (am (cT (i:=4) aP.nd (ax gZ (ax gZ (eP sW (pv 4) gk (fM (pv 9))) (cg (aa (pF qH ai) af))) (eP mV (pv 4) (fM (ax bg (pv 9) ai)) gk)))) aI))
     (ac (eW (br (aH dE (pv 11) ai (aK _)) (am (cT (i:=6) aP.nd (ax gZ (ax gZ (eP sW (pv 6) gk (fM (pv 9))) (cg (aa (ax bg (aF az (pv 10) ai) ai) af))) (eP mV (pv 6) (fM (ax bg (pv 9) ai)) gk)))) aI))
     (ac (eW (br (aH dE (pv 11) ai (aK _)) (am (cT (i:=7) aP.nd (ax gZ (ax gZ (eP sW (pv 7) gk (fM (pv 9))) (cg (aa (ax bg (aF az (pv 10) ai) ai) af))) (eP mV (pv 7) (fM (ax bg (pv 9) ai)) gk)))) aI))
     (ac (eW (br (aH dE (pv 11) ai (aK _)) (am (cT (i:=5) aP.nd (ax bg (pv 5) (aF az (dA (aa ai (aa ai (aa ai (aa ai (aa ai af)))))) (aS bv (by rfl) T.dZ cD (aa (pv 1) af)))))) aI))
     (ac (eW (br (aH dE (pv 11) ai (aK _)) (am (cT (i:=4) aP.nd (ax gZ (pv 4) (cg (aa ai af))))) aI))
     (am (aG (cg (aa (pv 4) (aa (pv 5) (aa (pv 6) (aa (pv 7) (aa (pv 8) af))))))))))))))))))))),?_⟩
 try dsimp only [eQ,aW]
 try (refine EI ?_;intro Z Z Z Z Z Z Z Z Z Z Z Z Z Z Z)
 obtain ⟨qb,qw,qf,g0,g1,g2,g3⟩:=hs.gs
 refine ⟨_,rfl,q,_,rfl,g0,rfl,_,_,rfl,_,_,rfl,_,_,rfl,_,_,rfl,_,_,rfl,rfl,?_⟩
 have lx:xs.length=R.length:=by rw [dx.length,OG]
 refine ⟨_,rfl,_,_,rfl,rfl,cdiv (by decide) (by decide),λ y Z=>⟨_,rfl,V,_,rfl,.inl hp,λ n en=>⟨_,_,rfl,rfl,by lia,λ a' a0 a1 Z=>?_⟩⟩⟩
 obtain ⟨i,rfl⟩:=abx a0
 have hi:i<R.length:=by lia
 have hq:=SN hi
 generalize R[i]=r at hq
 obtain ⟨v,ev,dv⟩:=dx.get (i:=i) (d:=IK r) (by rw [aab,hq];rfl)
 obtain ⟨p5,pm,sv,rfl,h5,hm,ds⟩:=ym dv
 refine ⟨_,rfl,_,rfl,V,_,_,_,rfl,rfl,.inl hp,ed ev,p5,_,_,_,rfl,rfl,.inr h5,rfl,?_⟩
 refine ⟨λ ae H'=>aE H H'/\∃ L,bR K H' L [.int (IU r.bJ).1,.int (IU r.bJ).2.1,.int (IU r.bJ).2.2.1,.int (IU r.bJ).2.2.2]/\ae=[some (.ref q),some (.ref V),some (.ref pb),some (.int x),some (.ref qb),some (ao (mw.of S).bB),some (.ref qw),some (.ref qf),some (.int (mw.of S).heap),some (ao i),some (.ref L),none],?_,?_⟩
 .
  refine ⟨_,rfl,rfl,_,rfl,?_⟩
  cases e:r.bJ with
  | none =>
    rw [e] at ds
    exact nO ds ⟨LD,λ L gB=>⟨al gB,L,bR.of ag,rfl⟩⟩
  | some z =>
    rw [e] at ds
    obtain ⟨L,rfl,hz⟩:=wP ds
    exact jb nofun ⟨aE.refl _,L,hz,rfl⟩
 rintro ae H1 ⟨G,L,hz,rfl⟩
 refine ⟨_,rfl,_,_,rfl,rfl,by decide,λ ad w0 w7 Z=>?_⟩
 have an:(mw.of S).bN.length=m.rows.length:=(qJ _).trans so.lb
 have aD:(mw.of S).cA.length=m.rows.length:=(qJ _).trans so.lw
 have aC:(mw.of S).failed.length=m.rows.length:=(qJ _).trans so.lf
 have MC:(mw.of S).bB<2 ^ 61:=aax so.bB (aa7 (by decide) (by lia))
 have Y:i<m.rows.length:=by lia
 let J:=UC K m S H1 [some (.ref q),some (.ref V),some (.ref pb),some (.int x)] i (.ref L) ad
 have j0:J 0 ([some (.ref q),some (.ref V),some (.ref pb),some (.int x)]++[some (.ref qb),some (ao (mw.of S).bB),some (.ref qw),some (.ref qf),some (.int (mw.of S).heap),some (ao i),some (.ref L),some (.int ad)]) H1:=⟨qb,qw,qf,.of S,aE.refl _,G.tup g1,G.tup g2,G.tup g3,rfl,MC,.inr ⟨w0,rfl⟩⟩
 refine ⟨J 1,?_,λ a3 H2 j1=>?_⟩
 .
  refine ⟨_,rfl,rfl,_,rfl,fP (λ e=>?_) λ e=>j0.skip λ z=>e (by rw [z])⟩
  have O:=ce.mp e
  refine ⟨1,rfl,_,rfl,_,_,rfl,rfl,cdiv (by decide) (by decide),λ y2 Z=>⟨_,_,rfl,rfl,Xz 30 (by decide) (by decide),λ w1 ab=>?_⟩⟩
  have ab:w1=1000000000000000000000000000000:=ab
  refine ⟨_,_,rfl,rfl,by lia,λ r2 aX a2 Z=>⟨_,_,rfl,rfl,λ X ah=>?_⟩⟩
  refine ⟨qb,qw,qf,{ mw.of S with heap:=X },aE.refl _,G.tup g1,G.tup g2,G.tup g3,rfl,MC,.inl ⟨by lia,lQ λ z=>?_⟩⟩
  have:0<=X:=(hX z).2.2.1
  lia
 refine ⟨J 2,?_,λ a4 H3 j2=>?_⟩
 .
  obtain ⟨A,f,C,g,b,U,j,p,rfl,D,u⟩:=j1.ex
  refine ⟨_,rfl,rfl,_,rfl,fP (λ e=>?_) λ e=>j1.skip λ z=>e (by rw [z])⟩
  have O:=ce.mp e
  rcases u with u|⟨Z,rfl⟩
  . lia
  refine ⟨_,rfl,pb,_,_,_,rfl,rfl,.inr ((G.trans b).tup hb),rfl,_,_,rfl,rfl,λ X ah=>?_⟩
  refine ⟨A,f,C,{ mw.of S with heap:=X },b,U,j,p,rfl,D,.inl ⟨by lia,lQ λ z=>?_⟩⟩
  have:X<=m.de:=(hX z).2.2.2.1
  rw [lk.de] at this
  lia
 refine ⟨J 3,?_,λ a5 M j3=>?_⟩
 .
  obtain ⟨A,f,C,g,b,U,j,p,rfl,D,u⟩:=j2.ex
  refine ⟨_,rfl,rfl,_,rfl,fP (λ e=>?_) λ e=>j2.skip λ z=>e (by rw [z])⟩
  have O:=ce.mp e
  rcases u with u|⟨Z,rfl⟩
  . lia
  refine tG (a:=4) (v:=(r.marks.length:Int) - 1) rfl rfl U (by lia) (by lia) (λ M Q1 s W=>?_) λ t M s B=>?_
  . exact ⟨_,rfl,_,rfl,V,_,_,_,rfl,rfl,.inl ((G.trans (b.trans s)).seq hp),ed ev,p5,_,_,_,rfl,rfl,.inr ((G.trans (b.trans s)).tup h5),rfl,pm,_,rfl,.inl ((G.trans (b.trans s)).seq hm),λ n en=>⟨_,_,rfl,rfl,λ r' N=>by rw [N,en,OG];exact W⟩⟩
  refine ⟨t,f,C,{ mw.of S with bN:=xj (mw.of S).bN i ((r.marks.length:Int) - 1)},b.trans s,B,s.tup j,s.tup p,rfl,D,.inl ⟨by lia,lQ λ z=>?_⟩⟩
  obtain ⟨⟨Z,z⟩,Z⟩:=mF ((hX z).2.2.2.2 i Y)
  rw [lk.nb Y hq,sZ (by lia)] at z
  lia
 refine ⟨J 4,?_,λ a6 H5 j4=>?_⟩
 .
  obtain ⟨A,f,C,g,b,U,j,p,rfl,D,u⟩:=j3.ex
  refine ⟨_,rfl,rfl,_,rfl,fP (λ e=>?_) λ e=>j3.skip λ z=>e (by rw [z])⟩
  have O:=ce.mp e
  rcases u with u|⟨Z,rfl⟩
  . lia
  refine tG (a:=4) (v:=-1) rfl rfl U (by lia) (by lia) (λ M Q1 s W=>⟨1,rfl,W⟩) λ t M s B=>?_
  refine ⟨t,f,C,{ mw.of S with bN:=xj (mw.of S).bN i (-1)},b.trans s,B,s.tup j,s.tup p,rfl,D,.inl ⟨by lia,lQ λ z=>?_⟩⟩
  obtain ⟨⟨z,Z⟩,Z⟩:=mF ((hX z).2.2.2.2 i Y)
  rw [sZ (by lia)] at z
  lia
 refine ⟨J 5,?_,λ a7 H6 j5=>?_⟩
 .
  obtain ⟨A,f,C,g,b,U,j,p,rfl,D,u⟩:=j4.ex
  refine ⟨_,rfl,rfl,_,rfl,fP (λ e=>?_) λ e=>j4.skip λ z=>e (by rw [z])⟩
  have O:=ce.mp e
  rcases u with u|⟨Z,rfl⟩
  . lia
  refine tG (a:=6) (v:=(IU r.bJ).2.2.1+1) rfl rfl j (by lia) (by lia) (λ M Q1 s W=>⟨_,rfl,L,_,_,_,rfl,rfl,.inr ((b.trans s).tup hz),rfl,_,_,rfl,rfl,λ r' N=>by rw [N];exact W⟩) λ t M s B=>?_
  refine ⟨A,t,C,{ mw.of S with cA:=xj (mw.of S).cA i ((IU r.bJ).2.2.1+1)},b.trans s,s.tup U,B,s.tup p,rfl,D,.inl ⟨by lia,lQ λ z=>?_⟩⟩
  obtain ⟨Z,z1,z2⟩:=mF ((hX z).2.2.2.2 i Y)
  rw [lk.sv hi hq] at z1 z2
  have F:=sZ (i:=i) (l:=(mw.of S).cA) (v:=(IU r.bJ).2.2.1+1) (by lia)
  cases I:r.bJ with
  | none =>
    have:=(z1 (by rw [I];rfl)).1
    rw [I] at F
    have F:_=(0:Int)+1:=F
    rw [I] at this
    lia
  | some y =>
    have:=(z2 _ (by rw [I];rfl)).1
    rw [I] at F this
    have F:_=y.2.2.1+1:=F
    lia
 refine ⟨J 6,?_,λ a8 H7 j6=>?_⟩
 .
  obtain ⟨A,f,C,g,b,U,j,p,rfl,D,u⟩:=j5.ex
  refine ⟨_,rfl,rfl,_,rfl,fP (λ e=>?_) λ e=>j5.skip λ z=>e (by rw [z])⟩
  have O:=ce.mp e
  rcases u with u|⟨Z,rfl⟩
  . lia
  refine tG (a:=7) (v:=(IU r.bJ).2.2.2+1) rfl rfl p (by lia) (by lia) (λ M Q1 s W=>⟨_,rfl,L,_,_,_,rfl,rfl,.inr ((b.trans s).tup hz),rfl,_,_,rfl,rfl,λ r' N=>by rw [N];exact W⟩) λ t M s B=>?_
  refine ⟨A,f,t,{ mw.of S with failed:=xj (mw.of S).failed i ((IU r.bJ).2.2.2+1)},b.trans s,s.tup U,s.tup j,B,rfl,D,.inl ⟨by lia,lQ λ z=>?_⟩⟩
  obtain ⟨Z,z1,z2⟩:=mF ((hX z).2.2.2.2 i Y)
  rw [lk.sv hi hq] at z1 z2
  have F:=sZ (i:=i) (l:=(mw.of S).failed) (v:=(IU r.bJ).2.2.2+1) (by lia)
  cases I:r.bJ with
  | none =>
    have:=(z1 (by rw [I];rfl)).2
    rw [I] at F
    have F:_=(0:Int)+1:=F
    rw [I] at this
    lia
  | some y =>
    have:=(z2 _ (by rw [I];rfl)).2
    rw [I] at F this
    have F:_=y.2.2.2+1:=F
    lia
 refine ⟨J 7,?_,λ a9 H8 j7=>?_⟩
 .
  obtain ⟨A,f,C,g,b,U,j,p,rfl,D,u⟩:=j6.ex
  refine ⟨_,rfl,rfl,_,rfl,fP (λ e=>?_) λ e=>j6.skip λ z=>e (by rw [z])⟩
  have O:=ce.mp e
  rcases u with u|⟨Z,rfl⟩
  . lia
  have e8:([.int 1,.int 2,.int 4,.int 8,.int 16]:ay)[R.length]?=some (.int ((2 ^ R.length:Nat):Int)):=by
    have c:R.length=1\/R.length=2\/R.length=3\/R.length=4:=by lia
    rcases c with c|c|c|c<;>rw [c]<;>rfl
  refine ⟨_,rfl,(show 5<=sizeLine by decide),λ t B=>⟨_,rfl,V,_,rfl,.inl ((G.trans (b.trans (al B))).seq hp),λ n en=>⟨t,_,_,.int ((2 ^ R.length:Nat):Int),rfl,rfl,.inl (bh.of ag),?_,?_⟩⟩⟩
  . rw [en,lx]
    exact ed e8
  have s:=al (o:=.lst [.int 1,.int 2,.int 4,.int 8,.int 16]) B
  refine ⟨_,_,rfl,rfl,λ r' N=>?_⟩
  obtain rfl:r'=(((mw.of S).bB+2 ^ R.length:Nat):Int):=by rw [N];push_cast;rfl
  have p4:2 ^ R.length<=2 ^ 4:=aa7 (by decide) n4
  have aj:=so.bB
  rw [lr] at aj
  refine ⟨A,f,C,{ mw.of S with bB:=(mw.of S).bB+2 ^ R.length },b.trans s,s.tup U,s.tup j,s.tup p,rfl,?_,.inl ⟨by lia,lQ λ z=>?_⟩⟩
  . show S.bB+2 ^ R.length<2 ^ 61
    lia
  . have:S.bB+2 ^ R.length<2 ^ m.rows.length:=(hX z).2.1
    rw [lr] at this
    lia
 refine ⟨J 8,?_,λ ba H9 j8=>?_⟩
 .
  obtain ⟨A,f,C,g,b,U,j,p,rfl,D,u⟩:=j7.ex
  refine ⟨_,rfl,rfl,_,rfl,fP (λ e=>?_) λ e=>j7.skip λ z=>e (by rw [z])⟩
  have O:=ce.mp e
  rcases u with u|⟨Z,rfl⟩
  . lia
  refine ⟨_,rfl,IP,λ t B=>?_⟩
  have s:=al (o:=.tup [.int 0]) B
  refine ⟨A,t,_,_,rfl,rfl,s.tup U,bR.of ag,abq (aT (by rw [OG];show _+1<=1000;lia)),λ t2 M s5 h5=>?_⟩
  refine ⟨t2,f,C,{ mw.of S with bN:=(mw.of S).bN++[0]},b.trans (s.trans s5),by rw [aah];exact h5,(s.trans s5).tup j,(s.trans s5).tup p,rfl,D,.inl ⟨by lia,lQ λ z=>?_⟩⟩
  have:((mw.of S).bN++[0]).length=m.rows.length:=(hX z).1
  rw [aac] at this
  have:(mw.of S).bN.length+1=m.rows.length:=this
  lia
 obtain ⟨A,f,C,g,b,U,j,p,rfl,D,u⟩:=j8.ex
 refine ⟨_,rfl,_,rfl,_,rfl,_,rfl,_,rfl,(show 5<=sizeLine by decide),λ t B=>?_⟩
 have s:=al (o:=.tup [.ref A,ao g.bB,.ref f,.ref C,.int g.heap]) B
 refine k t g _ (G.trans (b.trans s)) ⟨A,f,C,bR.of ag,s.tup U,s.tup j,s.tup p⟩ D ?_
 rcases u with ⟨Z,u⟩|⟨u,Z⟩
 . exact u
 . lia
def oH (T:Txt K mg Ad):N7 P w K mg base "hold_like" 4 ["hold","most","cap","load"] ["load"] (g62 .cB .cB) (yu K Ad.aX) :=
 (pP T).WC T.sd λ i a=>by
   obtain ⟨U,b,d,rfl,r,R,c⟩:=vals3 a
   refine ⟨Tr U b,λ h k=>Go r R h k,λ Z Z Z Z Z Z e W H=>?_⟩
   obtain ⟨u,z,rfl,rfl⟩:=Ku H
   exact ⟨_,rfl,rfl⟩
def AZ (T:Txt K mg Ad):Def P w K mg base "rank_of" 14 ["hold","state"] (DW K Ad.aX):=by
 refine T.E8.cW BI λ Z Z Z Z Z H V Q E c h=>?_
 obtain ⟨a,f,m,q,t,rfl,i,g,b,k⟩:=h
 refine ⟨_,(am (aG (tj (P:=P) (w:=w) (K:=K) rfl rfl rfl c.Lm (tK (nA (P:=P) (w:=w) T) c.m (aa (pv 0) (aa (dA (aa (pv 1) af)) af))) (pv 1) (λ Z Z=>rfl)))),?_⟩
 try dsimp only [eQ,aW]
 refine ⟨_,rfl,_,rfl,IP,λ l G=>?_⟩
 have sl:=al (o:=.lst [.ref q]) G
 refine ⟨a,l,2000,f,m,[.ref q],[t],rfl,i.same sl,g.gm,g.fs,by decide,g.rl,ag,.cons ⟨q,rfl,b.same sl⟩ .nil,λ s b=>by rw [aae.mp b];exact g.so,λ j B d n W p=>?_⟩
 obtain ⟨v,e,r⟩:=p _ (aae.mpr rfl)
 have S:=sl.trans n
 exact ⟨_,rfl,j,q,B,_,_,rfl,rfl,W,iX (b.same S),e,k v d S r⟩
def nc (T:Txt K mg Ad):Def P w K mg base "least_that_keeps" 15 ["bounds","holds","state"] (NT K Ad.aX):=by
 refine T.n8.cW cy λ Z Z Z Z Z H vs Q E hr h=>?_
 obtain ⟨o,B,J,xs,M,q,L,rfl,G,hp,hd,lx,ab,I,hs,k⟩:=h
 refine ⟨_,(ac (cT (i:=3) cy.nd ai)
     (ac (cT (i:=4) cy.nd (aS bv (by rfl) T.dZ cD (aa (pv 0) af)))
     (ac (l7 aaF (aH jw (pv 3) (pv 4) (aK _)) (ac (cT (i:=5) cy.nd (ax bI (ax bg (pv 3) (pv 4)) ai))
     (am (br (aH ji (au (AZ T) hr.m (aa (aF az (pv 1) (pv 5)) (aa (pv 2) af))) cG (aK _)) (am (cT (i:=4) cy.nd (pv 5))) (am (cT (i:=3) cy.nd (ax bg (pv 5) ai)))))))
     (am (aG (jf (aH jw (pv 3) (aS bv (by rfl) T.dZ cD (aa (pv 0) af)) (aK _)) (aF az (pv 0) (pv 3)) cG)))))),?_⟩
 try dsimp only [eQ,aW]
 try (refine eB ?_;intro Z Z Z Z Z)
 refine ⟨_,rfl,o,_,rfl,.inl G,λ n j=>?_⟩
 rw [OG] at j
 subst j
 refine ⟨λ W U x=>aE H x/\E3 λ l d v=>A3 (Kt L M B.length l d) (W=d - l) (U=[some (.ref o),some (.ref J),some (.ref q),some (ao l),some (ao d),v]),⟨_,aE.refl _,0,B.length,none,⟨aaT _,aaj _,λ i w d=>absurd d (abd _),λ i w A D=>absurd D (by lia)⟩,rfl,rfl⟩,?_⟩
 rintro W U N ⟨S,l,d,v,s,rfl,rfl⟩
 have lh:=s.lh
 have hn:=s.hn
 refine ⟨_,rfl,_,rfl,_,_,rfl,rfl,_,rfl,fP (λ c=>?_) λ c=>?_⟩
 .
  have c:(l:Int)<(d:Int):=c
  refine ⟨λ u x=>aE H x/\E3 λ p f v=>A3 (Kt L M B.length p f) (f - p<d - l) (u=[some (.ref o),some (.ref J),some (.ref q),some (ao p),some (ao f),v]),λ u x ⟨X,p,f,v,Y,e3,e4⟩=>⟨_,e3,X,p,f,v,Y,rfl,e4⟩,?_⟩
  refine ⟨_,rfl,_,rfl,_,_,rfl,rfl,λ t et=>⟨_,_,rfl,rfl,cdiv (by decide) (by decide),λ md g=>?_⟩⟩
  obtain ⟨b,rfl⟩:=abx (show 0<=md by rw [g,abX _ (by decide)];lia)
  rw [abX _ (by decide)] at g
  have m1:l<=b/\b<d:=by lia
  have R:b<xs.length:=by lia
  obtain ⟨a,fp,ex,hh⟩:=hd b _ (SN R)
  refine ⟨_,rfl,_,rfl,J,_,_,_,rfl,rfl,.inl (S.seq hp),ed (by rw [SN R,ex]),_,rfl,a,fp,M b,q,L,rfl,hh.same S,I.gd b (by lia),hs.same S,λ v2 H2 O V=>⟨rfl,_,rfl,?_⟩⟩
  cases v2 with
  | none =>
    refine nO rfl ⟨_,rfl,S.trans O,l,b,_,⟨m1.1,by lia,s.lw,λ i w A D z=>I.mono b i none w A D V z rfl⟩,by lia,rfl⟩
  | some y =>
    refine jb nofun ⟨_,rfl,_,_,rfl,rfl,λ r er=>?_⟩
    obtain rfl:r=((b+1:Nat):Int):=by rw [er];push_cast;rfl
    refine ⟨S.trans O,b+1,d,_,⟨by lia,hn,λ i w A z e=>?_,s.up⟩,by lia,rfl⟩
    rw [e] at z
    cases I.mono i b none (some y) (by lia) (by lia) z V rfl
 .
  have c:¬ (l:Int)<(d:Int):=c
  have F:=s.fin (by lia)
  refine ⟨_,rfl,_,rfl,o,_,rfl,.inl (S.seq G),λ n j=>⟨_,_,rfl,rfl,_,rfl,fP (λ C=>?_) λ C=>?_⟩⟩
  .
   rw [OG] at j
   have C:(l:Int)<n:=C
   rw [aaE (by lia)] at F
   have:=k _ N S F
   refine ⟨_,rfl,_,rfl,o,_,_,_,rfl,rfl,.inl (S.seq G),ed (v:=.int (B.getD l 0)) ?_,this⟩
   rw [aab,UE,SN (by lia)]
   rfl
  . rw [OG] at j
    have C:¬ (l:Int)<n:=C
    rw [aaA (by lia)] at F
    exact k _ N S F
def uu (T:Txt K mg Ad):GK P w K mg base "least_load" 16 ["hold","state"] (Ms K Ad.aX Ad.mE):=by
 refine T.pO.Rs jC (λ v H Q E h=>?_) (λ Z Z Z Z Z Z u j=>Di j λ Z Z=>rfl) (λ f Z Z Z s H v Q E l h=>?_)
 . obtain ⟨a,F,m,p,g,rfl,Z⟩:=h
   rfl
 .
  obtain ⟨a,F,m,p,g,rfl,i,n,c,d,k⟩:=h
  refine ⟨_,(ac (bp (Hf (oZ T) l.m (IY λ Z Z Z z=>z) (aa (pv 0) (aa (pv 1) af))))
    (ac ck
    (am ck))),?_⟩
  try dsimp only [eQ,aW]
  try (refine cV ?_;intro Z Z Z Z)
  exact ⟨_,rfl,_,rfl,a,F,m,p,g,rfl,i,n,c,λ e=>absurd e (by rw [d];nofun),λ Z b S=>k b S⟩
def vH (T:Txt K mg Ad):Def P w K mg base "least_load" 16 ["hold","state"] (Ek K Ad.aX):=by
 refine T.pO.cW jC λ Z Z Z Z Z H vs Q E O h=>?_
 obtain ⟨a,f,m,q,st,rfl,hh,hs,so,c0,OI,pk,kp,k⟩:=h
 refine ⟨_,(ac (bp (au (gP T) O.m (aa (pv 0) (aa (pv 1) af))))
     (ac (cT (i:=2) jC.nd (BK rfl (ax bg (aM (pv 0) rfl) ai) rfl T.tJ rfl T.eM))
     (am (aG (au (nc T) O.m (aa (pv 2) (aa (fT ["load"] ["hold"] [0] (.cons ⟨rfl,rfl,.inl rfl⟩ .nil) rfl (bY (pv 2)) (λ Z Z Z Z Z=>(mG (i:=0))) (λ Z Z Z Z Z=>cJ) (λ Z Z Z Z Z=>(ET (oH T) O.m (aa (pv 1) af) (Ke (pv 0) Mw)))) (aa (pv 1) af)))))))),?_⟩
 try dsimp only [eQ,aW]
 try (refine cV ?_;intro Z Z Z Z)
 refine ⟨_,rfl,_,rfl,a,f,m,q,st,rfl,hh,hs,so,λ H1 X=>?_⟩
 have d:=hh.same X
 obtain ⟨⟨dx,Z,Z,Z,Z,Z,Z,Z,Z,Z,ha,Z⟩,Z⟩:=id d
 refine ⟨_,rfl,a,_,dx,_,_,rfl,ha,T.aD,T.f8,pQ ..,_,_,rfl,rfl,λ c ec=>?_⟩
 obtain ⟨n,rfl⟩:=abx (show 0<=c by lia)
 have en:(m.de+1).toNat=n:=by lia
 rw [en] at kp k
 refine ⟨n,rfl,by lia,λ p E7=>?_⟩
 have eb:(List.range n).map ao=((List.range n).map Int.ofNat).map V.int:=by rw [abJ];rfl
 rw [eb]
 have Y:=al (o:=.lst (((List.range n).map Int.ofNat).map V.int)) E7
 have C:(upd H1 p (.lst (((List.range n).map Int.ofNat).map V.int))) p=some (.lst (((List.range n).map Int.ofNat).map V.int)):=ag
 generalize upd H1 p (.lst (((List.range n).map Int.ofNat).map V.int))=H2 at Y C |-
 have M:=d.same Y
 have l:((List.range n).map Int.ofNat).length=n:=by rw [OG,aaq]
 refine ⟨_,rfl,_,rfl,p,rfl,⟨_,bh.of C⟩,λ D hD=>?_⟩
 refine cE (K:=K) (a:=p) (xs:=((List.range n).map Int.ofNat).map V.int) (λ i A U r=>A5 (aE H2 r) (r D=some (.lst A)) (A.length=i) (∀ (j:Nat) x,A[j]?=some x->∃ a f,x = .ref a/\aN K Ad.aX r a f (m.ld j)/\D∉f) (∃ v,U=[v,some (.ref a)])) ⟨al hD,ag,rfl,λ j x e=>by simp at e,none,rfl⟩ (λ i A U r Z e=>by obtain ⟨e,Z⟩:=e;exact bh.of (e _ _ C)) ?_ ?_
 .
  rintro i x A U H3 hx ⟨S,y,L,G,v,rfl⟩
  rw [aab,aab,Option.map_map] at hx
  obtain ⟨j,u,rfl⟩:=abb.mp hx
  obtain ⟨N,u⟩:=Ba.mp u
  rw [List.getElem_range] at u
  subst u
  rw [aaq] at N
  refine ⟨_,rfl,_,rfl,a,f,m,none,none,some (i:Int),rfl,M.same S,Bu pk (by lia),λ b t Tq s Vz f4=>?_⟩
  have g:=s _ _ y
  have nD:D∉Tq:=λ z=>by have:=f4 D z;rw [y] at this;cases this
  have ts:=bU (K:=K) (o':=.lst (A++[.ref b])) g rfl
  have un:∀ B o,t B=some o->B≠D->(upd t D (.lst (A++[.ref b]))) B=some o:=λ B o e n=>by rw [ar n];exact e
  refine ⟨g,aT (by lia),(S.trans s).put hD,ag,by rw [aac,L];rfl,λ j x e=>?_,_,rfl⟩
  by_cases c:j<A.length
  . rw [aal c] at e
    obtain ⟨F,W,I,J,e3⟩:=G j x e
    exact ⟨F,W,I,(J.same s).Ex un ts e3,e3⟩
  .
   rw [aaS (by lia)] at e
   have e0:j - A.length=0:=by have:=(Ba.mp e).1;simp only [aaw] at this;lia
   rw [e0] at e
   cases e
   have:j=i:=by lia
   subst this
   exact ⟨b,Tq,rfl,Vz.Ex un ts nD,nD⟩
 .
  rintro A U H3 ⟨S,y,L,G,v,rfl⟩
  rw [OG,l] at L
  have TH:=Y.trans S
  refine ⟨_,rfl,p,_,D,A,m.ld,q,st,rfl,bh.of (S _ _ C),bh.of y,λ j x e=>?_,by rw [L,l],by rw [l];lia,by rw [l];exact kp,(hs.same X).same TH,λ v2 t s R=>?_⟩
  . obtain ⟨F,W,I,J,Z⟩:=G j x e
    exact ⟨F,W,I,J⟩
  rw [l] at R
  have e:Lq ((List.range n).map Int.ofNat) v2=jF v2:=by
    cases v2 with
    | none=>rfl
    | some j =>
      have N:=(R.at_ j rfl).1
      show V.int (((List.range n).map Int.ofNat).getD j 0)=ao j
      rw [UE,aab,acw N]
      rfl
  rw [e]
  exact k v2 t (X.trans (TH.trans s)) R
def lZ (T:Txt K mg Ad):Def P w K mg base "_law_kept" 14 ["_law_hold_here","_law_state_here","_law_load"] (DU K Ad.aX):=by
 refine T.CA.cW Aa λ Z Z Z Z Z H I Q E f h=>?_
 obtain ⟨a,F,m,q,C,h,rfl,u,y,g,d,c,k⟩:=h
 refine ⟨_,(am (aG (dX ji (tj (P:=P) (w:=w) (K:=K) rfl rfl rfl f.Lm (tK (nA (P:=P) (w:=w) T) f.m (aa (tK (tI T) f.m (aa (pv 0) (aa cG (aa cG (aa (pv 2) af))))) (aa (dA (aa (pv 1) af)) af))) (pv 1) (λ Z Z=>rfl)) cG (aK _)))),?_⟩
 try dsimp only [eQ,aW]
 refine ⟨_,rfl,_,rfl,a,F,m,none,none,some (h:Int),rfl,u,Bu y d,λ b D l i t Z=>?_⟩
 refine ⟨_,rfl,IP,λ z G=>?_⟩
 have sl:=al (o:=.lst [.ref q]) G
 refine ⟨b,z,2000,l,m.ld h,[.ref q],[C],rfl,t.same sl,g.gm,g.fs,by decide,g.rl,ag,.cons ⟨q,rfl,(c.same i).same sl⟩ .nil,λ s c=>by rw [aae.mp c];exact g.so,λ x B j A W p=>?_⟩
 obtain ⟨v,r,R⟩:=p _ (aae.mpr rfl)
 have S:=i.trans (sl.trans A)
 have e:decide (jF v=V.cB)=v.isNone:=by
   cases v with
   | none=>exact aao rfl
   | some n=>exact aam nofun
 refine ⟨_,rfl,x,q,B,_,_,rfl,rfl,W,iX (c.same S),r,rfl,?_⟩
 rw [e]
 exact k v j S R
def xh (T:Txt K mg Ad):Def P w K mg base "_law_right" 15 ["_law_hold_here","_law_state_here","_law_cap","_law_found"] (Ct K Ad.aX):=by
 refine T.zx.cW xA λ Z Z Z Z Z H F Q E g h=>?_
 obtain ⟨a,f,m,q,s,v,rfl,d,p,j,i,C,O,N,k⟩:=h
 refine ⟨_,(ac (br (aH ji (pv 3) cG (aK _)) (am (aG (rF (au (lZ T) g.m (aa (pv 0) (aa (pv 1) (aa (pv 2) af))))))) aI)
     (ac (br (PW.pt (nM (dG (cz (aS jp (by rfl) T.iT hU (aa (pv 3) (aa (tu (v:=V.ty "int") rfl T.wy rD rfl) af))))) (nM (cz (aS jp (by rfl) T.iT hU (aa (pv 3) (aa (tu (v:=V.ty "bool") rfl T.G7 CI rfl) af)))) (nM (aH jw (pv 3) ai (aK _)) (nP (aH wg (pv 3) (pv 2) (aK _))))))) (am (aG jv)) aI)
     (ac (br (dG (cz (au (lZ T) g.m (aa (pv 0) (aa (pv 1) (aa (pv 3) af)))))) (am (aG jv)) aI)
     (am (aG (K1 (dX dE (pv 3) ai (aK _)) (oC (rF (au (lZ T) g.m (aa (pv 0) (aa (pv 1) (aa (ax dS (pv 3) ai) af)))))))))))),?_⟩
 try dsimp only [eQ,aW]
 try (refine eB ?_;intro Z Z Z Z Z)
 refine ⟨_,rfl,rfl,_,rfl,?_⟩
 cases v with
 | none =>
   obtain ⟨c,y⟩:=abx C
   refine nO rfl ⟨_,rfl,_,rfl,_,rfl,a,f,m,q,s,c,by rw [y];rfl,d,p,j.gd c (by lia),by lia,i,λ v b S R=>?_⟩
   have:=N.no rfl c v (by lia) R
   cases v with
   | none=>exact absurd rfl this
   | some n=>exact ⟨_,rfl,k b S⟩
 | some n =>
   obtain ⟨z,A,B⟩:=N.at_ n rfl
   refine jb nofun ?_
   refine ⟨_,rfl,_,_,_,_,_,rfl,.int _,rfl,G1 K "int",_,rfl,fc ?_⟩
   refine ⟨_,rfl,_,_,_,_,_,rfl,.int _,rfl,pK K,_,rfl,fc ?_⟩
   refine ⟨_,rfl,_,_,rfl,rfl,_,rfl,jb (by lia) ?_⟩
   refine ⟨_,rfl,_,rfl,_,_,rfl,rfl,_,rfl,jb (by lia) ?_⟩
   refine ⟨_,rfl,_,rfl,_,rfl,a,f,m,q,s,n,rfl,d,p,j.gd n z,by lia,i,λ v b S R=>⟨_,rfl,?_⟩⟩
   rw [A v R]
   refine fc ?_
   refine ⟨_,rfl,rfl,_,rfl,?_⟩
   by_cases o:n=0
   . exact nO (by rw [o];rfl) (k b S)
   .
    refine jb (λ e=>o (by have:=ce.mp e;lia)) ?_
    refine ⟨_,rfl,_,rfl,_,rfl,_,_,rfl,rfl,λ r D=>?_⟩
    obtain rfl:r=((n - 1:Nat):Int):=by lia
    refine ⟨a,f,m,q,s,n - 1,rfl,d.same S,p,j.gd (n - 1) (by lia),by lia,i.same S,λ t u x l=>?_⟩
    have:=B (n - 1) t (by lia) l
    cases t with
    | none=>exact absurd rfl this
    | some n=>exact ⟨_,rfl,k u (S.trans x)⟩
def uM (T:Txt K mg Ad):Def P w K mg base "_law_refused" 17 ["_law_hold_here","_law_state_here"] (HU K Ad.aX):=by
 refine T.vM.cW i5 λ Z Z Z Z Z H v Q E j h=>?_
 obtain ⟨a,f,m,p,g,rfl,e,l,c,d,k⟩:=h
 refine ⟨_,(ac (cT (i:=2) i5.nd jv)
     (ac (Jq rfl rfl T.wH (Iz (GU (uu T) j.m (aa (pv 0) (aa (pv 1) af)))) (λ Z Z=>(am (cT (i:=2) i5.nd jv))))
     (am (aG (pv 2))))),?_⟩
 try dsimp only [eQ,aW]
 try (refine cV ?_;intro Z Z Z Z)
 refine ⟨_,rfl,_,rfl,a,f,m,p,g,rfl,e,l,c,d,λ b S=>?_⟩
 exact ⟨T.ex,⟨_,rfl,k b S⟩⟩
def MS {f:ak} {fd:FuncData} (F:Ip K "law" "law" C2 f fd) (T:Txt K mg Ad):iz P w K mg base xR 18 f fd ["_law_script"] (Gg K):=by
 refine F.ok k7 (λ vs H Q E h=>?_) (λ bz A outer s H vs Q E c h=>?_)
 . obtain ⟨a,N,rfl,Z⟩:=h
   rfl
 .
  obtain ⟨j,N,rfl,y,aj,Dy,k⟩:=h
  refine ⟨_,(ac (cT (i:=1) k7.nd (au (fA T) c.m (aa (pv 0) (aa ai af))))
    (ac (cT (i:=2) k7.nd (ax bg ai (cH mI (by rfl) T.wy rD (aa (dX dE (ax bo (pv 1) ai) ai (aK _)) af))))
    (ac (cT (i:=3) k7.nd (cg (aa (ax bo (ax bI (pv 1) ai) ai) (aa (ax bo (ax bI (pv 1) ai) ai) (aa (ax bo (ax bI (pv 1) ai) ai) af)))))
    (ac (cT (i:=4) k7.nd (au (wL T) c.m (aa (au (fA T) c.m (aa (pv 0) (aa ai af))) (aa (pv 2) (aa (ax dS ai (pv 2)) af)))))
    (ac (cT (i:=5) k7.nd (au (AB T) c.m (aa (pv 4) (aa (au (yo T) c.m (aa (au (fA T) c.m (aa (pv 0) (aa ai af))) af)) (aa (pv 3) (aa (ax bo (ax bI (pv 1) ai) ai) af))))))
    (ac (dB aaF rfl (cN rfl T.eM (aa (ax bg ai (aS bv (by rfl) T.dZ cD (aa (eP C7 (pv 0) (fM ai) (fM ai)) af))) af)) (iJ (i:=6) k7.nd) (ac (cT (i:=7) k7.nd (au (yB T) c.m (aa (pv 4) (aa (pv 3) (aa (au (fA T) c.m (aa (pv 0) (aa (ax bg ai (pv 6)) af))) (aa (pv 6) af))))))
    (ac (br (dG (cz (au (xh T) c.m (aa (pv 5) (aa (pv 7) (aa (aF az (pv 3) ai) (aa (au (vH T) c.m (aa (pv 5) (aa (pv 7) af))) af))))))) (am (aG jv)) aI)
    (ac (br (PW.pt (nM (aH pM (aM (pv 5) rfl) (aF az (pv 3) ai) (aK _)) (nP (aH pM (aM (pv 5) rfl) (aF az (pv 3) ai) (aK _))))) (am (aG jv)) aI)
    (am (br (dG (cz (au (uM T) c.m (aa (pv 5) (aa (au (qN T) c.m (aa (pv 7) (aa (pv 4) (aa (pv 3) (aa (au (bO T) c.m (aa (au (fA T) c.m (aa (pv 0) (aa (ax bg ai (pv 6)) af))) (aa (pv 6) (aa ai af)))) af))))) af))))) (am (aG jv)) aI))))))
    (am (aG jv)))))))),?_⟩
  try dsimp only [eQ,aW]
  try (refine yT ?_;intro Z Z Z Z Z Z Z Z)
  refine ⟨_,rfl,j,N,0,rfl,y,by decide,λ fi Z=>?_⟩
  refine ⟨_,rfl,_,_,rfl,rfl,by decide,λ r r0 r1 Z=>⟨rfl,.inr ⟨_,rfl,⟨_,_,rfl,rfl,λ mn D=>?_⟩⟩⟩⟩
  obtain ⟨n,rfl⟩:∃ n:Nat,mn=(n:Int):=⟨mn.toNat,by rw [D];split<;>rfl⟩
  have hn:1<=n/\n<=2:=by split at D<;>lia
  refine ⟨_,rfl,_,_,rfl,rfl,⟨by decide,pV⟩,λ y1 Z=>⟨_,_,rfl,rfl,by decide,λ B a0 a1 Z=>?_⟩⟩
  refine ⟨_,rfl,_,_,rfl,rfl,⟨by decide,pV⟩,λ y2 Z=>⟨_,_,rfl,rfl,by decide,λ d Kk GO Z=>?_⟩⟩
  refine ⟨_,rfl,_,_,rfl,rfl,⟨by decide,pV⟩,λ y3 Z=>⟨_,_,rfl,rfl,by decide,λ e a2 a3 Z=>⟨Uj,λ p E7=>?_⟩⟩⟩
  have Y:=al (o:=.tup [.int B,.int d,.int e]) E7
  have e1:(upd H p (.tup [.int B,.int d,.int e])) p=some (.tup [.int B,.int d,.int e]):=ag
  generalize upd H p (.tup [.int B,.int d,.int e])=H1 at Y e1 |-
  refine ⟨_,rfl,j,N,1,rfl,Y.seq y,by decide,λ c1 Z=>⟨_,rfl,_,rfl,_,_,rfl,rfl,λ bd a4=>?_⟩⟩
  obtain ⟨b,rfl⟩:∃ b:Nat,bd=(b:Int):=⟨bd.toNat,by lia⟩
  have Vz:b=4 - n:=by lia
  refine ⟨c1,n,b,rfl,by lia,by lia,by lia,by lia,λ J xs rs H2 s2 h2 d2 lr yG=>?_⟩
  have S2:=Y.trans s2
  refine ⟨_,rfl,_,rfl,j,N,2,rfl,S2.seq y,by decide,λ c2 Z=>⟨c2,rfl,λ AR sc H3 A0 S h3=>?_⟩⟩
  have S3:=S2.trans S
  have Ym:=(s2.trans S) _ _ e1
  refine ⟨_,rfl,_,rfl,_,_,rfl,rfl,⟨by decide,pV⟩,λ y4 Z=>⟨_,_,rfl,rfl,by decide,λ fl Z Z Z=>?_⟩⟩
  refine ⟨J,xs,rs,AR,sc,p,B,d,e,fl,rfl,bh.of (S _ _ h2),bC.same S _ d2,by lia,by lia,λ r c=>(yG r c).1,bR.of h3,A0,bR.of Ym,by lia,by lia,by lia,λ a fp m H4 M hh F0 l0 a9 Xb l=>?_⟩
  have S4:=S3.trans M
  have SZ:H4 p=some (.tup [.int B,.int d,.int e]):=M _ _ Ym
  have WJ:yz m:=l.ZD l0 (by lia) (by lia) (λ r c=>by have:=(yG r c).2;rw [Vz,<- lr] at this;exact this) (by lia)
  refine ⟨_,rfl,3,rfl,4,rfl,j,_,rfl,S4.seq y,λ pq HY=>⟨pq,_,rfl,.inl (bh.of ag),λ n0 a5=>⟨_,_,rfl,rfl,λ n1 a6=>?_⟩⟩⟩
  have t:=al (o:=.lst (xG (N.map V.int) (some 3) (some 4))) HY
  have lc:=rR (N.map V.int) (some 3) (some 4)
  rw [OG] at lc
  have z:=hh.same t
  have S5:=S4.trans t
  have XX:bh K _ J xs:=bh.of ((S.trans (M.trans t)) _ _ h2)
  have ZS:=bC.same (S.trans (M.trans t)) _ d2
  have O:bR K _ p [.int B,.int d,.int e]:=bR.of (t _ _ SZ)
  generalize upd H4 pq (.lst (xG (N.map V.int) (some 3) (some 4)))=H5 at t z S5 XX ZS O |-
  clear Y s2 S M t S2 S3 S4 h2 d2 h3 e1 Ym SZ F0
  have c0:0<=m.de:=by rw [l.de];lia
  have OI:m.de<=30:=by rw [l.de];lia
  refine ⟨n1,rfl,by lia,by lia,?_⟩
  refine fX (lo:=0) (n:=n1.toNat) (λ i U H'=>aE H5 H'/\E2 λ v6 v7=>U=[some (.ref j),some (.int fi),some (.int (n:Int)),some (.ref p),some (.ref J),some (.ref a),v6,v7]) ⟨aE.refl _,none,none,rfl⟩ ?_ ?_
  .
   rintro Z i U H6 hi ⟨u,v6,v7,rfl⟩
   have ab:=S5.trans u
   refine ⟨_,rfl,_,rfl,_,rfl,_,rfl,_,_,rfl,rfl,λ r3 a7=>⟨j,N,r3,rfl,ab.seq y,by lia,λ c3 Z=>⟨_,rfl,?_⟩⟩⟩
   refine ⟨J,xs,rs,p,B,d,e,c3,_,rfl,u.seq XX,bC.same u _ ZS,by lia,by lia,λ r c=>(yG r c).1,u.tup O,by lia,by lia,by lia,by lia,λ q st H7 s7 jj I hp=>?_⟩
   have so:ff m st:=I.ok l l0 hp
   have W:=u.trans s7
   have kp:=Sc (z.same W) Xb WJ so c0 OI
   refine ⟨_,rfl,_,rfl,_,rfl,p,_,_,_,rfl,rfl,.inr (W.tup O),rfl,_,rfl,_,rfl,a,fp,m,q,st,rfl,z.same W,jj,so,c0,OI,Xb,kp,λ v H8 s8 nd=>?_⟩
   have C:=W.trans s8
   have R0:=jj.same s8
   have G:=z.same C
   refine ⟨a,fp,m,q,st,v,by rw [l.de];rfl,G,Xb,kp,R0,c0,OI,nd,λ H9 s9=>⟨_,rfl,fc ?_⟩⟩
   have X:=C.trans s9
   obtain ⟨⟨dx,Z,Z,Z,Z,Z,Z,Z,Z,Z,ha,Z⟩,Z⟩:=id (G.same s9)
   refine ⟨_,rfl,a,_,dx,_,_,rfl,ha,T.aD,T.iV,ud ..,_,rfl,p,_,_,_,rfl,rfl,.inr (X.tup O),rfl,rfl,_,rfl,?_⟩
   rw [l.load,aao rfl]
   refine fc ⟨_,rfl,a,_,dx,_,_,rfl,ha,T.aD,T.f8,pQ ..,_,rfl,p,_,_,_,rfl,rfl,.inr (X.tup O),rfl,rfl,_,rfl,?_⟩
   rw [l.de,aao rfl]
   refine fc ?_
   refine ⟨_,rfl,_,rfl,_,rfl,_,rfl,_,rfl,_,rfl,_,_,rfl,rfl,λ r4 a8=>⟨j,N,r4,rfl,(S5.trans X).seq y,by lia,λ c4 Z=>⟨_,rfl,c4,_,3,rfl,by lia,by lia,by decide,by decide,λ an x L Z Z=>?_⟩⟩⟩
   have R:=X.trans L
   refine ⟨q,st,J,xs,rs,p,B,d,e,x,m,rfl,R0.same (s9.trans L),R.seq XX,bC.same R _ ZS,by lia,by lia,R.tup O,l0,l,so,λ pg g aC ae hg ad no=>?_⟩
   have Pf:=R.trans ae
   exact ⟨a,fp,m,pg,g,rfl,z.same Pf,hg,ad,no,λ aX ah=>⟨_,rfl,fc ⟨Pf.trans ah,_,_,rfl⟩⟩⟩
  . rintro U H6 ⟨u,v6,v7,rfl⟩
    exact k _
end
def walk {l:W.OpenLaw} {q:bi} {L:cx} {X:(cZ)->aU->Prop} {Y:aV->aU->Prop} {d:DefRec} {K:Params->aA} (j:l.most=some 63) (p:d.params.defaults=[]) (I:d.name = "law")
   (H:∀ (w:aV) (h:aU),Y w h->(K w.params).In h)
   (F:∀ (w:aV) (m:cZ) (h:aU),(K w.params).In h->h.Ns mainGlobals m->∃ A,Txt (K w.params) m A) :
   W.WalkO q L X Y l.row.toRowW d [] (λ f vs=>PySem.call f vs) :=
 L2.GM (k:=18) (x:="_law_script") j p ⟨rfl,by decide,by decide⟩ H
   (λ w m n h c G O=>by
     obtain ⟨Z,T⟩:=F w m h c G
     obtain ⟨f,g,i,a⟩:=id T.Sa
     rw [I] at O
     have e:=O.symm.trans i
     cases e
     exact ⟨g,a.M1 (λ Z Z Z Z Z Z Z=>rfl),λ b Z Z=>MS a T⟩)
end K62
namespace PySem.W.Fast
abbrev q:=True
def tw3343821724217079018:=q
def tw15424500788158222201:=q
def tw2564399605886591450:=q
def tw2092068051584161890:=q
def tw2906170648044129949:=q
def tw17442004928028230258:=q
def tw15830798550270287924:=q
def tw17920050696176809044:=q
def tw8702760368589828388:=q
def tw3463282131433430277:=q
def tw10617529836434499553:=q
def tw13574782987076426859:=q
def tw16580507988492140194:=q
def tw5051895114953796550:=q
def tw17104376387124515521:=q
def tw9432118496446232773:=q
def tw13719102108514273518:=q
def tw3406252663036003721:=q
def tw2715842691729187441:=q
def tw14759380674383337314:=q
def tw9056979792190749182:=q
def tw17805197255271771786:=q
def tw13374560916962300054:=q
def tw4309932477965585012:=q
def tw15939414209900071848:=q
def tw17965806580417593580:=q
def tw16832603697291958584:=q
def tw3979840773983388696:=q
def tw6745582832621756921:=q
def tw16978510023198327942:=q
def tw13383466403823150504:=q
def tw6554057472194278602:=q
def tw965878702543695950:=q
def tw8180139339313771737:=q
def tw12088473049826867585:=q
def tw2586536327176748410:=q
def tw256031153162886757:=q
def tw9793641194916427567:=q
def tw6583275172254180387:=q
def tw10214158983821346766:=q
def tw4555104383667460304:=q
def tw12774307043674890386:=q
def tw8028745759111238011:=q
def tw3641111655086358942:=q
def tw14057581541953106414:=q
def tw11619510906025860821:=q
def tw13207719588146294337:=q
def tw13671402294777854404:=q
def tw17199141663233968723:=q
def tw7521467708948203936:=q
def tw18221036318722455168:=q
def tw3052734270288018424:=q
def tw12577985891376857748:=q
def tw10510294269844457701:=q
def tw9564664400434265060:=q
def tw16077698705199775041:=q
def tw11885294468642929000:=q
def tw3315051277391532930:=q
def tw17109073796172154387:=q
def tw15438941288497306601:=q
def tw6356804681552464882:=q
def tw675020252153254364:=q
def tw13678115763321433744:=q
def tw6696010375698711517:=q
def tw18368002241011465109:=q
def tw4045159506556848197:=q
def tw14087252468348640837:=q
def tw7061154192027593453:=q
def tw16537996826845503077:=q
def tw4846931865585090003:=q
def tw17217473445201126724:=q
def tw1316638405329437753:=q
def tw15964282746564671952:=q
def tw15364236902917114168:=q
def tw12328785089989679037:=q
def tw9568864922372668364:=q
def tw17147017591884047576:=q
def tw16879916493410330931:=q
def tw6834455940045897026:=q
def tw16507906458589781443:=q
def tw12471642469876331364:=q
def tw9167983063319207788:=q
def tw7930990519623416763:=q
def tw955896639240676463:=q
def tw2170280186293409351:=q
def tw14465979421825171343:=q
def tw12246699698687045703:=q
def tw6842093592452773193:=q
def tw15915013238489220484:=q
def tw6135089405410985797:=q
def tw12879588999946559066:=q
def tw1580955288922221363:=q
def tw11001245504213734383:=q
def tw7179274124004322426:=q
def tw4488836496970787309:=q
def tw785565124602198764:=q
def tw11989450450496659816:=q
def tw10897577868656179697:=q
def tw572315570560280260:=q
def tw11694074766159835977:=q
def tw4522660123346521191:=q
def tw13152168049812235167:=q
def tw8864712312425046298:=q
def tw7095484496622394057:=q
def tw18245210007742624518:=q
def tw16590660809346622882:=q
def tw6086674440667550505:=q
def tw14956713690116159847:=q
def tw5497871204279508536:=q
def tw18056072477118869157:=q
def tw5019371499099565636:=q
def tw1806985655237534679:=q
def tw13369286923151978286:=q
def tw16681586346062744876:=q
def tw15302896127510497897:=q
def tw8912953716156258178:=q
def tw13255890943931010045:=q
def tw5904693171078799807:=q
def tw17970067908267145802:=q
def tw5392098364559890028:=q
def tw17036442948293931757:=q
def tw13913228864248618014:=q
def tw8583284586251159410:=q
def tw5474615560305413197:=q
def tw9754038012312214773:=q
def tw9279661674732658571:=q
def tw5705528975786737852:=q
def tw8532670754259150571:=q
def tw15989614549272864411:=q
def tw8702293212929974613:=q
def tw7292356183497122916:=q
def tw14719061288481988259:=q
def tw14118654516651952558:=q
def tw1311885626776378629:=q
def tw7731744772560619925:=q
def tw11327131662501296472:=q
def tw13833177113494075984:=q
def tw8859505187508060421:=q
def tw2718245995013605832:=q
def tw6232160898931952293:=q
def tw2638676264801890674:=q
def tw15283379537835698858:=q
def tw6786670218503995528:=q
def tw6318896466440851742:=q
def tw17174277279680881320:=q
def tw3739119910116717780:=q
def tw7588881498744919487:=q
def tw10842560683250915405:=q
def tw10692264306747748051:=q
def tw16239366041549178298:=q
def tw3350933626253737424:=q
def tw2207800109669926163:=q
def tw5588909294464285539:=q
def tw13243253060235804885:=q
def tw4949455882282145104:=q
def tw13986304895592588382:=q
def tw585027785431406122:=q
def tw10730743909794123871:=q
def tw1047917304755725184:=q
def tw15259188644221946444:=q
def tw11779975170484604466:=q
def tw3980927065298343134:=q
def tw2477903625288547434:=q
def tw10733482416628515076:=q
def tw4925193511570855399:=q
def tw3323085663347803411:=q
def tw11018806883276027712:=q
def tw16792279883779151592:=q
def tw14355157026821173977:=q
def tw16787978039828714320:=q
def tw12024119032920029606:=q
def tw6116446876112264529:=q
def tw4652710077813396179:=q
def tw3531538188399624131:=q
def tw8233110352037757755:=q
def tw15977546026757163420:=q
def tw15605237215805428906:=q
def tw4220899042327518022:=q
def tw928963992623886386:=q
def tw17724843316934778457:=q
def tw16887443540777313314:=q
def tw15205041376729314119:=q
def tw445154597924844178:=q
def tw8727217430202822677:=q
def tw10343486992520318545:=q
def tw9438859998337709096:=q
def tw7752734661336719172:=q
def tw9058557260497510957:=q
def tw456731571946647472:=q
def tw14363431745654064043:=q
def tw5683793959774028804:=q
def tw5215259216589041529:=q
def tw1946423387746917017:=q
def tw13495590828139143612:=q
def tw1390190064316320724:=q
def tw3916641383627242288:=q
def tw17574960515222966741:=q
def tw8846977809172650197:=q
def tw14441520924424368174:=q
def tw9598884876309129745:=q
def tw9532097420897191635:=q
def tw8362691227114395632:=q
def tw8021947388768910651:=q
def tw15694419811462178252:=q
def tw11207204766894762032:=q
def tw776113231861413203:=q
def tw10876399842144148326:=q
def tw12826607198393796004:=q
def tw17916892606019233721:=q
def tw14716112178628860761:=q
def tw14342765815761090807:=q
def tw14936045925534677820:=q
def tw7483596904327828312:=q
def tw294547658903110384:=q
def tw13190255749752457351:=q
def tw6440714494818316197:=q
def tw6860489555906105611:=q
def tw13689012343685447298:=q
def tw7913920805849878856:=q
def tw1983372946390507566:=q
def tw9790251450110777668:=q
def tw4046172910927436660:=q
def tw18413577294289385569:=q
def tw14773721971174659615:=q
def tw1068793672800774102:=q
def tw3355606676362722405:=q
def tw9812954748514811108:=q
def tw16002026927006375645:=q
def tw16864361165661104502:=q
def tw9314764149466124559:=q
def tw128908457452081459:=q
def tw7084011538996085246:=q
def tw15001336765144843364:=q
def tw16219236671536223249:=q
def tw4490933368039655036:=q
def tw11495416987133711002:=q
def tw9538038120949722541:=q
def tw15409942770152846191:=q
def tw18312385988747520546:=q
def tw14160120977419309482:=q
def tw13348879683294641287:=q
def tw11210007154064797180:=q
def tw16988609796063976717:=q
def tw18001969346232221702:=q
def tw4101266054818383953:=q
def tw12608639871630331682:=q
def tw8994775918910539451:=q
def tw6650559068554772840:=q
def tw15989400689289856519:=q
def tw14480433867161566107:=q
def tw16445732996640306077:=q
def tw1575785514761957404:=q
def tw13023880130249779473:=q
def tw2732042263471090447:=q
def tw14547572142116958567:=q
def tw14144199776915331022:=q
def tw4689800041224416429:=q
def tw12677149017747175787:=q
def tw9674216237724611333:=q
def tw3310528556200539221:=q
def tw18278124143050544933:=q
def tw17548166223781492333:=q
def tw16742209484528575854:=q
def tw12890390278146945963:=q
def tw10937312445524992884:=q
def tw10015830997596260882:=q
def tw4275352131105587839:=q
def tw1520003089232719774:=q
def tw12030279239607578393:=q
def tw18218441501465129264:=q
def tw14403154552021067748:=q
def tw16206867519174868856:=q
def tw5908023888343909137:=q
def tw3231409059597885007:=q
def tw6786166474965243916:=q
def tw1246349509472639457:=q
def tw9487225483076678700:=q
def tw5989511884203548789:=q
def tw16111613811705383323:=q
def tw6720250219701592771:=q
def tw3576772000376057884:=q
def tw4747370769009371706:=q
def tw4448581821895585206:=q
def tw4067270535926379518:=q
def tw10595829054623360901:=q
def tw6666849264134433167:=q
def tw7829816258569167834:=q
def tw3916394325903708573:=q
def tw13325668597602511814:=q
def tw9333394488218806171:=q
def tw5780709716411248786:=q
def tw10606875878249880096:=q
def tw7434710369741193980:=q
def tw6810457227896700510:=q
def tw5439972533060403533:=q
def tw18155484019020954795:=q
def tw6796602519030300376:=q
def tw15958934419596696357:=q
def tw16629265842107755081:=q
def tw14120468265998626347:=q
def tw8162012409781320522:=q
def tw6557650595345765818:=q
def tw11652170645246675882:=q
def tw912009516792045323:=q
def tw751490175237674560:=q
def tw6203703356840250432:=q
def tw544457320048584355:=q
def tw2620883328539812532:=q
def tw3634184422369822204:=q
def tw304736323349439019:=q
def tw2843453026860770009:=q
def tw784460025342397147:=q
def tw5776597583983344481:=q
def tw17994648920963658879:=q
def tw12978535382960021176:=q
def tw12002320146409390017:=q
def tw10737346392481387673:=q
def tw2162554099318343455:=q
def tw7818595790410884249:=q
def tw7670097662324627707:=q
def tw17678771520890408985:=q
def tw14929956489703488449:=q
def tw6945163614252491603:=q
def tw4312407624838157466:=q
def tw8969416178781827040:=q
def tw4471295408490869659:=q
def tw17408377242518514731:=q
def tw15895793907576050631:=q
def tw12472716310623891243:=q
def tw10929576935204581114:=q
def tw18011336840535299148:=q
def tw1166554754359498005:=q
def tw13888149224641912085:=q
def tw1750330145158028353:=q
def tw16558514084219859318:=q
def tw16580298612384328508:=q
def tw5077053529474685887:=q
def tw14116776614348438990:=q
def tw1251614128902259193:=q
def tw13412271437612831918:=q
def tw7407129402472632245:=q
def tw13626839340561187561:=q
def tw6838906651638945231:=q
def tw15137312620871233876:=q
def tw4741568329082333887:=q
def tw12874416578598442322:=q
def tw11016264189302291496:=q
def tw508916978732579623:=q
def tw16559681384704843047:=q
def tw14647971066669117334:=q
def tw11839701564869220639:=q
def tw279488925161858502:=q
def tw13674899283648306794:=q
def tw6072551038291623525:=q
def tw7806702192852415770:=q
def tw6522329367411310783:=q
def tw1434846683036877975:=q
def tw13969901202824410259:=q
def tw4667236094954660205:=q
def tw9936714882030931787:=q
def tw8981971370808446939:=q
def tw7675117003038634093:=q
def tw13217646094669359800:=q
def tw1614760661016729628:=q
def tw1595996570744712733:=q
def tw10818754396622467581:=q
def tw16966700340505376279:=q
def tw11549641931267294534:=q
def tw11646362121557812060:=q
def tw7474284091700629351:=q
def tw14943649304478755350:=q
def tw5469128379022672389:=q
def tw5013977890880058874:=q
def tw14648240735529265544:=q
def tw11717057626296025349:=q
def tw16265979441931463046:=q
def tw3701661491485030599:=q
def tw6191633382936657490:=q
def tw8956424719926332626:=q
def tw7363214838397890836:=q
def tw17841117371717806549:=q
def tw1290061472868034084:=q
def tw13320415009576826180:=q
def tw5116009014101879503:=q
def tw3854885979334497545:=q
def tw2567435848092133813:=q
def tw15059922992196402059:=q
def tw16830084226086641978:=q
def tw6174059777209253203:=q
def tw4855408045502886844:=q
def tw1515593008194214698:=q
def tw17575749814161702292:=q
def tw17313889013233921213:=q
def tw11300308528376918029:=q
def tw6759193758572045337:=q
def tw13250266357903715229:=q
def tw11073490790037122060:=q
def tw11016797573460979386:=q
def tw5955949738270115557:=q
def tw13882584725322796522:=q
def tw3738652256634345383:=q
def tw2025140865503271375:=q
def tw9850445106318280765:=q
def tw18392045049479638406:=q
def tw12531005928130466898:=q
def tw10608905497752005879:=q
def tw7536814787652248053:=q
def tw14570099632926435952:=q
def tw13502922122467976835:=q
def tw11222244929059467240:=q
def tw10368827476625051003:=q
def tw10721000532396862193:=q
def tw17238403264904763035:=q
def tw15031047368679331532:=q
def tw15754091805068596889:=q
def tw14923745277201144649:=q
def tw11651431884589936925:=q
def tw12357242128772104731:=q
def tw6901568756100202890:=q
def tw4484702556120230631:=q
def tw9496053362489755677:=q
def tw10355018258507436090:=q
def tw8222785168563752044:=q
def tw15880587184782151056:=q
def tw11216032353638152107:=q
def tw844850471154098616:=q
def tw1537881943216543342:=q
def tw13639344864184381311:=q
def tw16037624259331479656:=q
def tw12173386878176730214:=q
def tw4061272712847590270:=q
def tw17194661343104327220:=q
def tw1180932560860832865:=q
def tw7009026908090171437:=q
def tw18033217361102392846:=q
def tw11038656486118097833:=q
def tw9037249140452454339:=q
def tw1029769885053166896:=q
def tw8165977472350017311:=q
def tw472220474703186833:=q
def tw1026520021443396574:=q
def tw3309112633695965677:=q
def tw11225044213405814316:=q
def tw3940925856651916782:=q
def tw3600419975891718830:=q
def tw5073614327177381946:=q
def tw5170280945111079199:=q
def tw3934416639101335034:=q
def tw3808030545008591207:=q
def tw17841216641247831262:=q
def tw4169371119110705631:=q
def tw17622776578795716737:=q
def tw3815999109459784117:=q
def tw17761181466940864144:=q
def tw16103412190512258516:=q
def tw8864230771168649491:=q
def tw8598344800584541908:=q
def tw16390282104410465929:=q
def tw12671457010814919732:=q
def tw12637987026564217032:=q
def tw9411559834303590010:=q
def tw7682841208721594212:=q
def tw6887792373715524773:=q
def tw5823322297184340114:=q
def tw4462598505103243095:=q
def tw3598281950494734990:=q
def tw17837506733309066999:=q
def tw15698569414878129872:=q
def tw14718447112750222432:=q
def tw12349458947915940470:=q
def tw12301818930138656996:=q
def tw11920722725356748618:=q
def tw4769896016718679111:=q
def tw8864555282177778333:=q
def tw5773575507780545541:=q
def tw10122710585709346045:=q
def tw8535881035994040711:=q
def tw6742526608613173897:=q
def tw6551561848185641663:=q
def tw5470928680364777678:=q
def tw1951810471950952462:=q
def tw3915678472780366749:=q
def tw9503950711408191850:=q
def tw6053965958506499388:=q
def tw1779761436222428335:=q
def tw16576668743374108131:=q
def tw13262916028700217534:=q
def tw1273224689122759395:=q
def tw11094511535023459183:=q
def tw10636363047330220074:=q
def tw10109588889984337807:=q
def tw16625826973728252218:=q
def tw14525460406230696924:=q
def tw10368667827058400633:=q
def tw17744910523681027715:=q
def tw15551502130158664709:=q
def tw11931761241127871407:=q
def tw11878932208965213422:=q
def tw2532545024328293124:=q
def tw12787154144496540484:=q
def tw9729959096015761559:=q
def tw9554306860676666953:=q
def tw9371906406328886500:=q
def tw9310311310861030224:=q
def tw8581374254352196196:=q
def tw8359041206359805044:=q
def tw7677959591408213529:=q
def tw3847134234564153412:=q
def tw3363085846015137463:=q
def tw2783976097346626612:=q
def tw2126167138159982505:=q
def tw2060796970564777549:=q
def tw15004629536967672666:=q
def tw12621812565550629508:=q
def tw123814197131602631:=q
def tw11442203949039213690:=q
def tw10180969211460896314:=q
def tw8931733197462706998:=q
def tw7072700104390561814:=q
def tw3570827408030837312:=q
def tw293133926198410566:=q
def tw18324795700657112947:=q
def tw17291626892207509303:=q
def tw17213997548190619151:=q
def tw15767867002924853773:=q
def tw15572304627743896508:=q
def tw15127352879924792832:=q
def tw14412315961509950145:=q
def tw14127350981532679607:=q
def tw13014882668499342303:=q
def tw12036483795903817920:=q
def tw11102258395115509860:=q
def tw15099167354392709288:=q
def tw12363621012466245641:=q
def tw15021214767733907434:=q
def tw3684275817153181627:=q
def tw14213174194315056040:=q
def tw12632917641244060365:=q
def tw3450861507738390165:=q
def tw6721492696533137523:=q
def tw9983385094553488618:=q
def tw8135062644560978889:=q
def tw7429377807180490509:=q
def tw2216144455993107436:=q
def tw16724940113729841118:=q
def tw14355863865915083739:=q
def tw13482518378789741507:=q
def tw11626174771086252531:=q
def tw10944697078012778820:=q
def tw10209387168998389211:=q
def tw99300179177516454:=q
def tw9609594024872303123:=q
def tw8667448285708570877:=q
def tw8510157006377168713:=q
def tw8487558705439809988:=q
def tw8009723468363701834:=q
def tw6011981746183342192:=q
def tw3728557185885346479:=q
def tw3696608599463300742:=q
def tw2586836305027953017:=q
def tw14665839861734187278:=q
def tw14653170104192098113:=q
def tw14221410839773482322:=q
def tw12640579075618242377:=q
def tw1242130220160086187:=q
def tw12182483554003197478:=q
def tw9986812629850769128:=q
def tw9924922099172380327:=q
def tw9849588277845944036:=q
def tw9731482886254761776:=q
def tw9480976734100791500:=q
def tw94577154435250872:=q
def tw9384588173803480659:=q
def tw9276264079734786288:=q
def tw9134568637123072162:=q
def tw9043161074765667896:=q
def tw8994421232836125425:=q
def tw8959945333430417108:=q
def tw8952094691787027286:=q
def tw8822149978613606999:=q
def tw8546945584343586056:=q
def tw8457584977583784089:=q
def tw8423643360506773979:=q
def tw8354330257005692452:=q
def tw8194721726283375275:=q
def tw8113455698548653590:=q
def tw8096960186129710280:=q
def tw7965885347993792760:=q
def tw7951870019273795413:=q
def tw7886010183621830197:=q
def tw7884272980920276793:=q
def tw7860724423338725656:=q
def tw785230667802756130:=q
def tw7553981023065800892:=q
def tw7374366830204337210:=q
def tw7361875104509954727:=q
def tw6974693156709741502:=q
def tw6944604333592591014:=q
def tw6781356680777726876:=q
def tw6670558463301429542:=q
def tw6630077389694290296:=q
def tw6561087731576877345:=q
def tw6552103730595003748:=q
def tw6512388437337719548:=q
def tw6490442103646174117:=q
def tw6352607765771413008:=q
def tw6273229654611318349:=q
def tw5896243565381060432:=q
def tw5866340804356191833:=q
def tw5827268588116519423:=q
def tw5704111973108369271:=q
def tw5447965960177505139:=q
def tw5416088066923135834:=q
def tw5393729381442161104:=q
def tw5340241252748883527:=q
def tw5151739964447601119:=q
def tw511222126145038415:=q
def tw4950919099205381938:=q
def tw4829896413953933023:=q
def tw4700284499584776221:=q
def tw4650268242575177547:=q
def tw4629311896345716667:=q
def tw4618447505240983965:=q
def tw450257234578147779:=q
def tw4404869825035045278:=q
def tw4325497614810360294:=q
def tw400082630655870105:=q
def tw3957569297647447590:=q
def tw3946769460625481930:=q
def tw3938287964472837014:=q
def tw3930167707812706276:=q
def tw3911071729355308230:=q
def tw3843980971188207964:=q
def tw3841227454716080522:=q
def tw3818120908189965064:=q
def tw3638868662405639428:=q
def tw3599900445206749094:=q
def tw3414760622025198416:=q
def tw3407416370793299705:=q
def tw3219522354904994827:=q
def tw3180700371714042391:=q
def tw317040578227667886:=q
def tw2771816688303376840:=q
def tw2660800246951680300:=q
def tw2557138879112529088:=q
def tw2465637151915803691:=q
def tw2409849952166084994:=q
def tw2353025214975082745:=q
def tw2287976823647752558:=q
def tw2251802888563317440:=q
def tw2178053440206028144:=q
def tw21650217511007729:=q
def tw2066285903952061708:=q
def tw2059350539749703253:=q
def tw2053676140450301237:=q
def tw187940948684895672:=q
def tw184029503124782584:=q
def tw18237602929137801746:=q
def tw18169429430751898155:=q
def tw18159210208261810458:=q
def tw18096356085842867123:=q
def tw17992881155417005985:=q
def tw17981331867619743844:=q
def tw17796475565763807321:=q
def tw17712976999055336164:=q
def tw17623464209677650363:=q
def tw17419080645631803734:=q
def tw17386653691413770643:=q
def tw1717009726478997237:=q
def tw1709395298202826857:=q
def tw16847030564711016641:=q
def tw16756386719571575722:=q
def tw16714035829620430047:=q
def tw1668703130972449950:=q
def tw1651101028652453917:=q
def tw16395059709378749448:=q
def tw16385184125713295072:=q
def tw16275510548594025394:=q
def tw16080569894061691227:=q
def tw1604578765317750470:=q
def tw16030014342909152097:=q
def tw16015641566737909842:=q
def tw15811111742063518126:=q
def tw1581022506385030190:=q
def tw15754156759628461825:=q
def tw15741266425482496065:=q
def tw15713588966739407985:=q
def tw15684095551439291501:=q
def tw15631438003589258266:=q
def tw15526883268156375831:=q
def tw15489562920978406777:=q
def tw15458067485998341903:=q
def tw15415341745637625649:=q
def tw15364669096294759122:=q
def tw15318372712777480006:=q
def tw15126254961129867567:=q
def tw15046056874855908923:=q
def tw15035647598227591053:=q
def tw14715342903951791286:=q
def tw1454236597303028287:=q
def tw14489624352709078764:=q
def tw14478149034642394188:=q
def tw14462198183684880525:=q
def tw14377219021222253795:=q
def tw14179018120135411974:=q
def tw13988435113069858843:=q
def tw13818081584296401227:=q
def tw13733494865723508654:=q
def tw13506682240389298724:=q
def tw13270484170403491807:=q
def tw13266575361430969255:=q
def tw1312675636997599304:=q
def tw13110387904807360503:=q
def tw12699011709161633839:=q
def tw12668306839056132009:=q
def tw12507917950082317462:=q
def tw12507533129905078319:=q
def tw12491209045857380023:=q
def tw12144134922226129684:=q
def tw12142393728202728497:=q
def tw12084083504470864915:=q
def tw12013794217225273429:=q
def tw1199423888040617609:=q
def tw11890834438441631603:=q
def tw1179209102658879288:=q
def tw1155313880596317511:=q
def tw11539867560712741188:=q
def tw11250911424460496810:=q
def tw11074500263002704936:=q
def tw11033575260480284014:=q
def tw11024484534752580002:=q
def tw1099805012789918658:=q
def tw10984603381227850921:=q
def tw10955360244158099215:=q
def tw10942679036563878242:=q
def tw10918527696220596900:=q
def tw10860955893603411094:=q
def tw1070960591509730374:=q
def tw1068240092515933800:=q
def tw1063867490674838498:=q
def tw10609776335360589666:=q
def tw10563495244900467290:=q
def tw10546560807675376121:=q
def tw10522649641583204409:=q
def tw10492412665652621860:=q
def tw10429102661932962880:=q
def tw10217856668337292581:=q
def tw10196105750575168441:=q
def tw10183394899420529705:=q
def tw10181879947000569963:=q
def tw10126710923990911169:=q
end PySem.W.Fast
open PySem PySem.W PyProof.Rows
set_option maxRecDepth 100000 in
set_option maxHeartbeats 0 in
theorem PySem.Challenge.cw_stoke_k62_the_least_load_holds : PySem.Challenge.rw_stoke_k62_the_least_load.Holds := by
 w_on; o_law; k_head; (case hw => w_witness2)
 k_fill
 refine K62.walk (l:=PySem.Challenge.rw_stoke_k62_the_least_load) rfl rfl rfl (fun w h Y => PySem.W.kIn_of Y) ?F
 case F =>
   intro w mg h KX G
   refine' ⟨_,K62.txt_mk KX G ..⟩
   iterate 2 (all_goals try first | exact ⟨_,_,_,_,_,_,_,_,_,_,by k_is,by k_is,by k_is,by k_is,by k_is⟩ | exact ⟨_,_,_,_,_,_,_,_,_,_,by k_is,by k_is,by k_is,by k_is⟩ | ((try delta K62.kq_); (try delta K62.kc_); (try delta K62.kf_); (try delta K62.kn_); (try delta K62.kg_); first | k_is | k_exc | kernel_rfl | kts_exm))
