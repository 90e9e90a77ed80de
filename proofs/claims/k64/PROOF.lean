import PyProof.Rows.All
import Wide.All
import OpenK.AllK
import Wide.FinOn
import Lean
import PyProof.EqAt
import PyProof.EqKinds
import PyProof.TupleCall
import PySem.Challenge.RW_stoke_k64_whole_more_never_hurts
set_option Elab.async false
set_option linter.all false
set_option maxRecDepth 100000
def zN:=@List.length_map
def Mq:=@List.getElem?_eq_getElem
def P5:=@PySem.wpAny_bind
def UZ:=@List.getD_eq_getElem?_getD
def aat:=@List.getElem?_map
def aaE:=@List.length_append
def aaI:=@List.not_mem_nil
def aaK:=@List.mem_of_getElem?
def aaN:=@List.map_append
def aaS:=@List.mem_cons_of_mem
def aaU:=@Nat.le_refl
def aa1:=@List.mem_cons
def abA:=@PySem.Heap.get?_push_of_some
def abG:=@Option.some.inj
def abM:=@List.getElem?_append_left
def abN:=@PySem.wpAny_pure
def abQ:=@List.mem_cons_self
def abU:=@List.length_range
def abY:=@List.size_toArray
def abZ:=@PySem.Heap.lt_size
def ab2:=@Nat.lt_of_le_of_lt
def acx:=@List.getElem_mem
def acG:=@List.length_singleton
def acK:=@Nat.lt_of_lt_of_le
def acS:=@Nat.le_trans
def ac7:=@decide_eq_false
def ac8:=@Bool.false_ne_true
def ac9:=@if_neg
def adc:=@List.take_length
def ads:=@PySem.F.plainAttrs_list
def ady:=@if_pos
def adD:=@decide_eq_true
def adG:=@PySem.PassesOwn.never
def adH:=@PySem.F.type_list_append
def adL:=@PySem.F.slot_list_append
def adS:=@List.length_take
def ad8:=@Nat.ne_of_lt
def ael:=@List.map_cons
def aep:=@PySem.Heap.get?_push_size
def aex:=@List.getElem?_concat_length
def aeD:=@PySem.W.mg_of
def aeR:=@List.length_cons
def aeU:=@Nat.zero_le
def afj:=@or_false
def afr:=@List.eq_nil_of_length_eq_zero
def afw:=@List.getElem?_append_right
def af2:=@List.mem_append_right
def af8:=@Int.zero_add
def aga:=@Bool.and_eq_true
def agg:=@List.length_filter_le
def agv:=@List.find?_cons
def agB:=@PyProof.Rows.callWith_type1
def agC:=@List.range_succ
def agD:=@List.take_of_length_le
def ag7:=@Int.toNat_natCast
def ahb:=@Nat.pow_le_pow_right
def ahi:=@Nat.not_lt_zero
def ahk:=@PySem.W.mg_none_of
def aho:=@List.length_set
def ahz:=@List.filter_append
def ahG:=@List.append_nil
def ahM:=@List.mem_append_left
def ahP:=@congrArg
def ah4:=@Nat.lt_irrefl
def ah6:=@Nat.testBit_and
def ail:=@PySem.wpAny_truthy_bool
def aiq:=@PySem.wpAny_mono
def ai3:=@Bool.false_eq_true
def ajd:=@List.lookup_cons
def ajk:=@Int.mul_pos
def ajC:=@decide_eq_true_eq
def ajQ:=@List.take_add_one
def ajV:=@List.foldl_append
def aj8:=@PySem.mem_of_lookup
def akb:=@Int.le_refl
def akf:=@PySem.wpAny_field
def akp:=@List.mem_singleton
def akt:=@Int.natCast_nonneg
def akH:=@not_or
def akI:=@PySem.wpAny_holding
def akM:=@of_decide_eq_true
def akN:=@Bool.eq_iff_iff
def akO:=@List.pairwise_singleton
def akP:=@List.cons.inj
def akQ:=@PySem.wpAny_newObj_type
def akR:=@Nat.le_add_right
def akS:=@Int.mul_nonneg
def akT:=@PySem.wpAny_callSpecial?_slot
def akU:=@PySem.Paired.length
def akV:=@Nat.le_of_lt
def akW:=@List.length_replicate
def akX:=@PySem.wpAny_Call_Name_kw
def akY:=@Nat.mul_le_mul_right
def akZ:=@PySem.wpAny_passesOwn
def ak0:=@List.mem_or_eq_of_mem_set
def ak1:=@PySem.wpAny_pyIter_enum
def ak2:=@Nat.le_succ
def ak3:=@Int.toNat_of_nonneg
def ak4:=@Nat.ne_of_gt
def ak5:=@List.map_map
def ak6:=@Int.mul_fdiv_cancel_left
def ak7:=@Int.le_trans
def ak8:=@PySem.F.slot_tuple_iterator_next
def ak9:=@List.nodup_cons
def ala:=@PySem.PyData.tuple.inj
def alb:=@List.getElem?_set_self
def alc:=@if_false
def ald:=@List.nodup_nil
def ale:=@PySem.W.kia_one
def alf:=@if_true
def alg:=@Nat.eq_of_testBit_eq
def alh:=@List.getElem?_set_ne
def ali:=@PySem.wpAny_seqItems
def alj:=@Option.map_some
def alk:=@Ne.symm
def alm:=@Array.length_toList
def aln:=@PySem.wpAny_call_entry
def alo:=@PySem.Around.in1_units
def alp:=@Option.toList_some
def alq:=@Nat.pow_succ
def alr:=@Nat.add_comm
def als:=@Array.forIn_toList
def alt:=@Nat.lt_pow_two_of_testBit
def alu:=@List.take_succ
def alv:=@Int.natAbs_mul
def alw:=@PySem.F.args_tuple_add_2
def aly:=@PySem.Paired.snoc
def alz:=@Nat.lt_succ_of_lt
def alA:=@List.append_assoc
def alB:=@PySem.F.entry_tuple_add
def alC:=@List.filter_cons_of_pos
def alD:=@List.filter_cons_of_neg
def alE:=@List.any_cons
def alF:=@Nat.succ_ne_self
def alG:=@Nat.succ_le_succ
def alH:=@Nat.and_le_right
def alI:=@List.all_eq_true
def alJ:=@PySem.Calls.spliced_cons
def alK:=@PySem.F.slot_tuple_add
def alL:=@PySem.PyData.int.inj
def alM:=@PySem.Heap.size_push
def alN:=@PySem.wpAny_dictEntries
def alO:=@PySem.F.slot_dict_get
def alP:=@Nat.lt_trans
def alQ:=@List.nil_append
def alR:=@List.length_nil
def alS:=@List.getElem?_eq_none
def alT:=@List.forIn_cons
def alU:=@Int.ne_of_gt
def alV:=@Int.le_of_lt
def alW:=@PySem.AutoSeq1.wpAny_loadPart'
def alX:=@Rat.mul_lt_mul_right
def alY:=@Int.mul_le_mul
def alZ:=@Nat.testBit_two_pow
def al0:=@List.getElem?_range
def al1:=@List.filterMap_cons
def al2:=@PySem.Calls.callWith_builtin
def al3:=@PySem.wpAny_specialOf
def al4:=@PySem.wpAny_execs_nil
def al5:=@Int.ofNat.inj
def al6:=@Int.mul_right_comm
def al7:=@Int.emod_lt_of_pos
def al8:=@PySem.Heap.get?_update_self
def al9:=@PySem.F.slot_zip_next
def ama:=@Option.isSome_map
def amb:=@PySem.Heap.get?_none_of_le
def amc:=@Rat.mul_le_mul_of_nonneg_right
def amd:=@List.map_set
def ame:=@List.Nodup.length_le_of_subset
def amf:=@Nat.lt_succ_self
def amg:=@List.length_tail
def amh:=@List.getElem_inj
def ami:=@List.filter_cons
def amj:=@List.cons_append
def aml:=@PySem.Heap.SameBut.update
def amm:=@Nat.two_pow_add_eq_or_of_lt
def amn:=@List.of_mem_zip
def amo:=@List.mem_filter
def amp:=@List.mem_append
def amq:=@List.foldl_cons
def amr:=@List.cons.injEq
def ams:=@Int.emod_nonneg
def amt:=@Int.fdiv_eq_ediv_of_nonneg
def amu:=@Int.eq_of_mul_eq_mul_right
def amv:=@Nat.testBit_or
def amw:=@List.take_zero
def amx:=@PySem.Calls.spliced_nil
def amy:=@Bool.not_false
def amz:=@Bool.false_and
def amA:=@PySem.wpAny_typeOf
def amB:=@PySem.codeAny_mono
def amC:=@PySem.F.type_list_extend
def amD:=@PySem.F.slot_list_extend
def amE:=@List.getElem?_take_of_lt
def amF:=@List.Pairwise.imp_of_mem
def amG:=@PySem.wpAny_pyIter_zip
def amH:=@PySem.wpAny_isInstance
def amI:=@PySem.noFill_tuple_add
def amJ:=@PySem.F.args_dict_get_3
def amK:=@Nat.add_sub_cancel_left
def amL:=@List.getElem?_replicate
def amM:=@Int.eq_ofNat_of_zero_le
def amN:=@Bool.not_true
def amO:=@PySem.F.entry_dict_get
def amP:=@List.pairwise_lt_range
def amQ:=@List.flatMap_singleton
def amR:=@List.filter_eq_nil_iff
def amT:=@PySem.F.args_tuple_iterator_next_1
def amU:=@Rat.le_of_lt
def amV:=@Nat.succ.inj
def amW:=@Nat.add_zero
def amX:=@List.getElem?_toArray
def amY:=@PySem.F.entry_tuple_iterator_next
def amZ:=@PySem.wpAny_letOwnedTupleGo_enum
def am0:=@PySem.Calls.Name_function_global
def am1:=@Nat.mul_one
def am2:=@List.length_zipWith
def am3:=@List.flatMap_append
def am4:=@Int.mul_neg
def am5:=@true_and
def am6:=@of_decide_eq_false
def am7:=@List.map_singleton
def am8:=@List.getElem?_tail
namespace L2
open PySem PySem.Spec PyProof.Rows
variable {C dx it:Addr} {H:Hp} {Q:VK} {ch fp:List Addr} {es:List Expr} {g:TG} {o:HO} {pins:List (Addr×Obj)} {pos':Pos} {qual:Str} {s':Shared} {t':Nat} {tb:TS} {te ti to:TE} {tg:Expr} {u:Value} {us:List Value} {v:V} {xs:List V} {U:St}
abbrev Key:=Sum Int Str
def tW:Key->Value->Bool
 | .inl k,v=>Value.isInt k v
 | .inr x,v=>Value.isStrOf x v
def abw (w:World):Key->Int
 | .inl k=>hashInt k
 | .inr x=>hashStr w x
theorem c5:∀ {k:Key} {v:Value},tW k v=true->(∃ i t,k=Sum.inl i/\v=Value.int i t)∨(∃ x t,k=Sum.inr x/\v=Value.str x t)
 | .inl i,v,h=>by
   obtain ⟨t,e⟩:=Value.isInt_shape (k:=i) (v:=v) h
   exact .inl ⟨i,t,rfl,e⟩
 | .inr x,v,h=>by
   obtain ⟨t,e⟩:=Value.isStrOf_shape (x:=x) (v:=v) h
   exact .inr ⟨x,t,rfl,e⟩
theorem CQ (i:Int) (t:Tok):tW (.inl i) (.int i t)=true:=by simp [tW,Value.isInt]
theorem Cf (x:Str) (t:Tok):tW (.inr x) (.str x t)=true:=by simp [tW,Value.isStrOf]
theorem KE (a b:Int):decide ((Sum.inl a:Key)=Sum.inl b)=(a == b):=by
 by_cases e:a=b
 . subst e;simp
 . have h:¬ (Sum.inl a:Key)=Sum.inl b:=λ q=>e (Sum.inl.inj q)
   rw [ac7 h]
   exact (beq_eq_false_iff_ne.mpr e).symm
theorem Ll (a b:Str):decide ((Sum.inr a:Key)=Sum.inr b)=decide (a=b):=by
 by_cases e:a=b
 . subst e;simp
 . have h:¬ (Sum.inr a:Key)=Sum.inr b:=λ q=>e (Sum.inr.inj q)
   rw [ac7 h,ac7 e]
theorem K9 (a:Int) (b:Str):decide ((Sum.inl a:Key)=Sum.inr b)=false:=ac7 (λ q=>nomatch q)
theorem KS (a:Str) (b:Int):decide ((Sum.inr a:Key)=Sum.inl b)=false:=ac7 (λ q=>nomatch q)
def cq (prog:Program) (w:World):PySem.KeyKind prog w Key where
 is:=tW
 hash:=abw w
 inj:=λ v a b ha hb=>by
   rcases c5 ha with ⟨i,t,rfl,rfl⟩|⟨x,t,rfl,rfl⟩
   . rcases c5 hb with ⟨j,u,rfl,e⟩|⟨y,u,rfl,e⟩
     . injection e with e1 _;rw [e1]
     . exact nomatch e
   . rcases c5 hb with ⟨j,u,rfl,e⟩|⟨y,u,rfl,e⟩
     . exact nomatch e
     . injection e with e1 _;rw [e1]
 byValue:=λ k v h=>by
   rcases c5 h with ⟨i,t,rfl,rfl⟩|⟨x,t,rfl,rfl⟩<;>rfl
 pyHash:=λ hv h=>by
   rcases c5 hv with ⟨i,t,rfl,rfl⟩|⟨x,t,rfl,rfl⟩
   . exact wpAny_pyHash_int h
   . exact wpAny_pyHash_str h
 eqBool:=λ hu hv h=>by
   rcases c5 hu with ⟨i,t,rfl,rfl⟩|⟨x,t,rfl,rfl⟩
   . rcases c5 hv with ⟨j,u,rfl,rfl⟩|⟨y,u,rfl,rfl⟩
     . rw [KE] at h;exact wpAny_eqBool_int h
     . rw [K9] at h;exact SeqAt.EqAt.int_str i t y u _ _ _ _ h
   . rcases c5 hv with ⟨j,u,rfl,rfl⟩|⟨y,u,rfl,rfl⟩
     . rw [KS] at h;exact SeqAt.EqAt.str_int x t j u _ _ _ _ h
     . rw [Ll] at h;exact wpAny_eqBool_str h
 «strs»:=λ k x t v h=>by
   rcases c5 h with ⟨i,u,rfl,e⟩|⟨y,u,rfl,e⟩
   . exact nomatch e
   . injection e with e1 _
     subst e1
     cases v<;>rfl
theorem wU (prog:Program) (w:World) (i:Int) (t:Tok):(cq prog w).is (.inl i) (.int i t)=true:=CQ i t
theorem wR (prog:Program) (w:World) (x:Str) (t:Tok):(cq prog w).is (.inr x) (.str x t)=true:=Cf x t
inductive V where
 | cf|bl (b:Bool)|int (i:Int)|str (x:Str)|C4 (b:Array UInt8)|JN (b:UInt64)|ref (a:Addr)|ty (n:String)
 deriving DecidableEq
def RelV:V->Value->Prop
 | .cf,u=>u=Value.none
 | .bl b,u=>u=Value.bool b
 | .int i,u=>∃ t,u=Value.int i t
 | .str x,u=>∃ t,u=Value.str x t
 | .C4 b,u=>∃ t,u=Value.bytes b t
 | .JN b,u=>∃ t,u=Value.float b t
 | .ref a,u=>u=Value.ref a
 | .ty n,u=>u=Value.type n
abbrev Vals:List V->List Value->Prop:=Paired RelV
theorem Vals.length (r:Vals xs us):xs.length=us.length:=akU r
theorem Vals.get:∀ {xs:List V} {us:List Value} {i:Nat} {x:V},Vals xs us->xs[i]?=some x->∃ u,us[i]?=some u/\RelV x u
 | _,_,_,_,.nil,e=>by simp at e
 | _,_,0,_,.cons r _,e=>by simp at e;subst e;exact ⟨_,rfl,r⟩
 | _,_,i+1,x,.cons _ t,e=>by
   obtain ⟨u,h1,h2⟩:=Vals.get (i:=i) (x:=x) t (by simpa using e)
   exact ⟨u,by simpa using h1,h2⟩
theorem Vals.set {x:V} (r:RelV x u):∀ {xs:List V} {us:List Value} (i:Nat),Vals xs us->Vals (xs.set i x) (us.set i u)
 | _,_,_,.nil => .nil
 | _,_,0,.cons _ t => .cons r t
 | _,_,i+1,.cons q t => .cons q (Vals.set r i t)
theorem Vals.append:∀ {xs ys:List V} {us ws:List Value},Vals xs us->Vals ys ws->Vals (xs++ys) (us++ws)
 | _,_,_,_,.nil,s=>s
 | _,_,_,_,.cons r t,s => .cons r (Vals.append t s)
theorem Vals.take:∀ {xs:List V} {us:List Value} (n:Nat),Vals xs us->Vals (xs.take n) (us.take n)
 | _,_,0,_ => .nil
 | _,_,_+1,.nil => .nil
 | _,_,n+1,.cons r t => .cons r (Vals.take n t)
theorem Vals.drop:∀ {xs:List V} {us:List Value} (n:Nat),Vals xs us->Vals (xs.drop n) (us.drop n)
 | _,_,0,r=>r
 | _,_,_+1,.nil => .nil
 | _,_,n+1,.cons _ t=>Vals.drop n t
def jY:Option V->Option Value->Prop
 | some v,some u=>RelV v u
 | none,none=>True
 | _,_=>False
def KV {κ:Type}:List (κ×V)->List (κ×Value)->Prop:=Paired λ (p:κ×V) (q:κ×Value)=>p.1=q.1/\RelV p.2 q.2
def kV:Key->V
 | .inl i => .int i
 | .inr x => .str x
inductive HO where
 | lst (xs:List V)
 | tup (xs:List V)
 | dK (ax:List (Key×V))|dT (ax:List (List Key×V))
 | set (S:Int->Bool) (n:Nat)
 | ins (C dx:Addr) (fs:List (Str×V))
 | own (x:Addr)
 | xd (fs:List (Str×V))
 | met (f x:Addr)
 | rng (lo hi:Int)
 | yG (o:Obj) (u:HO)
 | LD (ps:Array Value)
 | ext (φ:Heap->Prop)
abbrev Hp:=Addr->Option HO
def upd (H:Hp) (a:Addr) (o:HO):Hp:=λ b=>if b=a then some o else H b
theorem af {a:Addr}:upd H a o a=some o:=by unfold upd;rw [ady rfl]
theorem aq {a b:Addr} (h:b≠a):upd H a o b=H b:=by unfold upd;rw [ac9 h]
theorem kZ {a:Addr} {u:HO}:upd (upd H a o) a u=upd H a u:=by
 funext b;unfold upd;split<;>rfl
theorem Qc {a b:Addr} {u:HO} (h:H a=some o) (h':H b=some u) (d:o≠u):a≠b:=by
 intro e;subst e;rw [h] at h';exact d (abG h')
theorem au {a b:Addr} (h:H a=some o) (h':H b=none):a≠b:=by
 intro e;subst e;rw [h] at h';cases h'
section
variable (P:Program) (w:World)
def cO (H:Hp) (h:Heap) (a:Addr):HO->Prop
 | .lst xs=>xs.length<=sizeLine/\∃ (bg:List Value) (n:Nat),Vals xs bg/\h.get? a=some { cls:=.type "list",data:=.seq bg.toArray n }
 | .tup xs=>xs.length<=sizeLine/\∃ bg:List Value,Vals xs bg/\IsTup h a bg.toArray
 | .dK ax=>ax.length<=sizeLine/\(a == sysModules)=false/\∃ vs,KV ax vs/\h.DictOf (cq P w) a vs
 | .dT ax=>ax.length<=sizeLine/\(a == sysModules)=false/\∃ xs:List (List Key×Addr×Value),
     Paired (λ (p:List Key×V) (q:List Key×Addr×Value)=>p.1=q.1/\H q.2.1=some (.tup (p.1.map kV))/\RelV p.2 q.2.2) ax xs /\
     ∃ o es ep,h.get? a=some o/\o.ExactDict/\o.data = .dict es ep/\es.toList=xs.map (entryOfKey (tupleKind (cq P w)))/\(xs.map (·.1)).Nodup
 | .set S n=>h.SetOf (intKind P w) a S n
 | .ins C dx fs=>H dx=some (.own a)/\fs.length<=1000/\dx≠a/\h.get? a=some (W.instObj C dx) /\
     ∃ mA,h.Ns1 dx mA/\(∀ f,jY (fs.lookup f) (mA f))/\PySem.Within mA (fs.map (·.1))
 | .own _=>∃ o,h.get? a=some o
 | .xd fs=>∃ mA,h.Ns1 a mA/\∀ f,jY (fs.lookup f) (mA f)
 | .rng lo hi=>∃ t u v,h.get? a=some { cls:=.type "range",data:=.fields #[.int lo t,.int hi u,.int 1 v]}
 | .yG o u=>h.get? a=some o/\cO H h a u
 | .LD ps=>h.get? a=some { cls:=.none,data:=.fields ps }
 | .met f x=>h.get? a=some (W.methodObj (.ref f) (.ref x))
 | .ext φ=>φ h/\(∃ o,h.get? a=some o)/\∀ h1 h2:Heap,φ h1->(∀ o,h1.get? a=some o->h2.get? a=some o)->φ h2
def mP (H:Hp) (h:Heap):Prop:=∀ a o,H a=some o->cO P w H h a o
end
section
variable {P:Program} {w:World} {H H':Hp} {h h':Heap} {a:Addr} {o:HO}
theorem cO.lt (x:cO P w H h a o):a<h.objs.size:=by
 cases o with
 | lst xs=>obtain ⟨_,_,_,_,e⟩:=x;exact abZ e
 | tup xs=>obtain ⟨_,_,_,p⟩:=x;exact p.lt
 | dK ax=>obtain ⟨_,_,_,_,o,_,_,e,_⟩:=x;exact abZ e
 | dT ax=>obtain ⟨_,_,_,_,o,_,_,e,_⟩:=x;exact abZ e
 | set S n=>obtain ⟨o,_,_,_,e,_⟩:=x;exact abZ e
 | ins C dx fs=>obtain ⟨_,_,_,e,_⟩:=x;exact abZ e
 | own y=>obtain ⟨_,e⟩:=x;exact abZ e
 | xd fs=>obtain ⟨_,⟨_,_,_,e,_⟩,_⟩:=x;exact abZ e
 | rng lo hi=>obtain ⟨_,_,_,e⟩:=x;exact abZ e
 | yG ob u=>obtain ⟨e,_⟩:=x;exact abZ e
 | LD ps=>exact abZ (show h.get? a=some _ from x)
 | met f y=>exact abZ (show h.get? a=some _ from x)
 | ext φ=>obtain ⟨_,⟨_,e⟩,_⟩:=x;exact abZ e
theorem Paired.vW {α β:Type} {F G:α->β->Prop}:∀ {l₁:List α} {l₂:List β},Paired F l₁ l₂->(∀ a b,F a b->G a b)->Paired G l₁ l₂
 | _,_,.nil,_ => .nil
 | _,_,.cons r t,f => .cons (f _ _ r) (Paired.vW t f)
theorem cO.dI (x:cO P w H h a o) (k:∀ b u,(b=a∨H b=some (.own a))->h.get? b=some u->h'.get? b=some u) (ho:∀ b,H b=some (.own a)->H' b=some (.own a)) (ht:∀ b xs,H b=some (.tup xs)->H' b=some (.tup xs)):cO P w H' h' a o:=by
 induction o with
 | lst xs=>obtain ⟨z,bg,n,r,e⟩:=x;exact ⟨z,bg,n,r,k _ _ (.inl rfl) e⟩
 | tup xs=>obtain ⟨z,bg,r,ob,e,c⟩:=x;exact ⟨z,bg,r,ob,k _ _ (.inl rfl) e,c⟩
 | dK ax=>obtain ⟨z,y,vs,r,ob,es,ep,e,c⟩:=x;exact ⟨z,y,vs,r,ob,es,ep,k _ _ (.inl rfl) e,c⟩
 | dT ax =>
   obtain ⟨z,y,xs,r,ob,es,ep,e,c⟩:=x
   exact ⟨z,y,xs,Paired.vW r λ p q z=>⟨z.1,ht _ _ z.2.1,z.2.2⟩,ob,es,ep,k _ _ (.inl rfl) e,c⟩
 | set S n=>obtain ⟨ob,es,ep,t,e,c⟩:=x;exact ⟨ob,es,ep,t,k _ _ (.inl rfl) e,c⟩
 | ins C dx fs =>
   obtain ⟨d,z,ne,e,mA,⟨od,es,ep,e2,c⟩,r⟩:=x
   exact ⟨ho _ d,z,ne,k _ _ (.inl rfl) e,mA,⟨od,es,ep,k _ _ (.inr d) e2,c⟩,r⟩
 | own y=>obtain ⟨ob,e⟩:=x;exact ⟨ob,k _ _ (.inl rfl) e⟩
 | xd fs=>obtain ⟨mA,⟨od,es,ep,e,c⟩,r⟩:=x;exact ⟨mA,⟨od,es,ep,k _ _ (.inl rfl) e,c⟩,r⟩
 | rng lo hi=>obtain ⟨t,u,v,e⟩:=x;exact ⟨t,u,v,k _ _ (.inl rfl) e⟩
 | yG ob u ih=>obtain ⟨e,q⟩:=x;exact ⟨k _ _ (.inl rfl) e,ih q⟩
 | LD ps =>
   have e:h.get? a=some { cls:=.none,data:=.fields ps }:=x
   show h'.get? a=some { cls:=.none,data:=.fields ps }
   exact k a _ (.inl rfl) e
 | met f y =>
   have e:h.get? a=some (W.methodObj (.ref f) (.ref y)):=x
   show h'.get? a=some (W.methodObj (.ref f) (.ref y))
   exact k a _ (.inl rfl) e
 | ext φ=>obtain ⟨p,⟨o,e⟩,st⟩:=x;exact ⟨st _ _ p λ o q=>k _ _ (.inl rfl) q,⟨o,k _ _ (.inl rfl) e⟩,st⟩
theorem mP.lt (x:mP P w H h) (e:H a=some o):a<h.objs.size:=(x a o e).lt
theorem mP.fresh (x:mP P w H h) (e:h.objs.size<=a):H a=none:=by
 cases q:H a with
 | none=>rfl
 | some u=>exact absurd (acK (x.lt q) e) (ah4 _)
theorem mP.kept (x:mP P w H h) (k:∀ b u,h.get? b=some u->h'.get? b=some u):mP P w H h':=λ a o e =>
 (x a o e).dI (λ b u _ q=>k b u q) (λ _ q=>q) λ _ _ q=>q
theorem mP.laid (x:mP P w H h) (k:∀ b u,h.get? b=some u->h'.get? b=some u) (hp:h.objs.size<=a) (new:cO P w (upd H a o) h' a o):mP P w (upd H a o) h':=λ b u e=>by
 have hn:=x.fresh hp
 by_cases hb:b=a
 . subst hb;rw [af] at e;cases e;exact new
 . rw [aq hb] at e
   exact (x b u e).dI (λ c v _ q=>k c v q) (λ c q=>by rw [aq (au q hn)];exact q) λ c xs q=>by rw [aq (au q hn)];exact q
end
def Rd (H:Hp) (a:Addr) (u:HO):Prop:=H a=some u∨∃ o,H a=some (.yG o u)
theorem Rd.ok {P:Program} {w:World} {h:Heap} {a:Addr} {u:HO} (r:Rd H a u) (x:mP P w H h):cO P w H h a u:=by
 rcases r with r|⟨o,r⟩
 . exact x a u r
 . obtain ⟨_,q⟩:=x a _ r
   exact q
def Qh:Option HO->Prop
 | some (.lst _)=>True
 | some (.dK _)=>True
 | some (.dT _)=>True
 | some (.set _ _)=>True
 | some (.ins _ _ _)=>True
 | some (.ext _)=>True
 | _=>False
section
variable {P:Program} {w:World} {H:Hp} {h h':Heap} {x e:Addr} {o':HO}
theorem mP.write (ok:mP P w H h) (mu:Qh (H x)) (he:e=x∨H e=some (.own x)) (k:∀ b u,b≠e->h.get? b=some u->h'.get? b=some u) (Au:∃ u,h'.get? e=some u) (new:cO P w (upd H x o') h' x o'):mP P w (upd H x o') h':=λ b u q=>by
 have Ny:∀ c y,H c=some (.own y)->c≠x:=λ c y r z=>by subst z;rw [r] at mu;exact mu
 have agp:∀ c xs,H c=some (.tup xs)->c≠x:=λ c xs r z=>by subst z;rw [r] at mu;exact mu
 by_cases hb:b=x
 . subst hb;rw [af] at q;cases q;exact new
 .
  rw [aq hb] at q
  by_cases Db:b=e
  .
   have q':H b=some (.own x):=by
     rcases he with z|z
     . exact absurd (Db.trans z) hb
     . rw [Db];exact z
   rw [q] at q';cases q'
   obtain ⟨v,hv⟩:=Au
   exact ⟨v,by rw [Db];exact hv⟩
  .
   refine (ok b u q).dI (λ c v hc r=>k c v ?_ r) (λ c r=>by rw [aq (Ny c b r)];exact r) λ c xs r=>by rw [aq (agp c xs r)];exact r
   rcases hc with rfl|hc
   . exact Db
   . rintro rfl
     rcases he with z|z
     . exact Ny c b hc z
     . rw [hc] at z;cases z;exact hb rfl
end
structure Un (fs ex:List Addr) (H H':Hp) (h h':Heap):Prop where
 keep:∀ b o,h.get? b=some o->H b=none->b∉fs->b∉ex->h'.get? b=some o
 slot:∀ b o,h.get? b=some o->H b=none->b∈fs->b∉ex->∃ sl,h'.get? b=some { o with slots:=sl }
 free:∀ b o,h.get? b=some o->H b=none->b∉ex->H' b=none
 there:∀ b o,h.get? b=some o->b∉ex->∃ o',h'.get? b=some o'
 xj:∀ b xs,H b=some (.tup xs)->H' b=some (.tup xs)
 uI:∀ b o u,H b=some (.yG o u)->H' b=some (.yG o u)
 xT:∀ b ps,H b=some (.LD ps)->∃ more,H' b=some (.LD (ps++more))
section
variable {fs fs' ex Ub:List Addr} {H H1 H2:Hp} {h h1 h2 h':Heap} {a x e:Addr} {o:HO}
theorem Un.any (u:Un fs ex H H1 h h1) {b:Addr} {ob:Obj} (q:h.get? b=some ob) (n:H b=none) (hx:b∉ex):∃ sl,h1.get? b=some { ob with slots:=sl }:=by
 by_cases hb:b∈fs
 . exact u.slot b ob q n hb hx
 . exact ⟨ob.slots,u.keep b ob q n hb hx⟩
theorem Un.kept (k:∀ b u,h.get? b=some u->h'.get? b=some u):Un fs ex H H h h' :=
 ⟨λ b ob q _ _ _=>k b ob q,λ b ob q _ _ _=>⟨ob.slots,k b ob q⟩,λ _ _ _ n _=>n,λ b ob q _=>⟨ob,k b ob q⟩,λ _ _ q=>q,λ _ _ _ q=>q,λ _ ps q=>⟨#[],by rw [q];simp⟩⟩
theorem Un.refl:Un fs ex H H h h:=Un.kept λ _ _ q=>q
theorem Un.laid (k:∀ b u,h.get? b=some u->h'.get? b=some u) (hp:h.objs.size<=a) (hn:H a=none):Un fs ex H (upd H a o) h h' where
 keep:=λ b u q _ _ _=>k b u q
 slot:=λ b u q _ _ _=>⟨u.slots,k b u q⟩
 free:=λ b u q n _=>by rw [aq (ad8 (acK (abZ q) hp))];exact n
 there:=λ b u q _=>⟨u,k b u q⟩
 xj:=λ b xs q=>by rw [aq (au q hn)];exact q
 uI:=λ b u xs q=>by rw [aq (au q hn)];exact q
 xT:=λ b ps q=>⟨#[],by rw [aq (au q hn),q];simp⟩
theorem Un.write (mu:Qh (H x)) (he:e=x∨H e=some (.own x)) (k:∀ b u,b≠e->h.get? b=some u->h'.get? b=some u) (Au:∃ u,h'.get? e=some u):Un fs ex H (upd H x o) h h':=by
 have hx:∀ b,H b=none->b≠x:=λ b n z=>by subst z;rw [n] at mu;exact mu
 have hb:∀ b,H b=none->b≠e:=λ b n z=>by
   subst z
   rcases he with r|r
   . exact hx b n r
   . rw [n] at r;cases r
 have hm:∀ b u,H b=some u->¬ Qh (some u)->b≠x:=λ b u q nm z=>by subst z;rw [q] at mu;exact nm mu
 refine ⟨λ b u q n _ _=>k b u (hb b n) q,λ b u q n _ _=>⟨u.slots,k b u (hb b n) q⟩,λ b u q n _=>by rw [aq (hx b n)];exact n,λ b u q _=>?_,
   λ b xs q=>by rw [aq (hm b _ q λ z=>z)];exact q,λ b u xs q=>by rw [aq (hm b _ q λ z=>z)];exact q,λ b ps q=>⟨#[],by rw [aq (hm b _ q λ z=>z),q];simp⟩⟩
 by_cases Db:b=e
 . subst Db;exact Au
 . exact ⟨u,k b u Db q⟩
end
def UB (h:Heap) (H:Hp):List Addr:=(List.range h.objs.size).filter λ a=>(H a).isSome
def vx (h:Heap) (H:Hp):Heap:=W.hideAll h (UB h H)
theorem BC (h:Heap) (H:Hp):(vx h H).objs.size=h.objs.size:=W.hideAll_size _ _
theorem Ex {h:Heap} {b:Addr} {o:Obj} (e:h.get? b=some o) (n:H b=none):(vx h H).get? b=some o :=
 W.hideAll_get _ e λ hm=>by
   have q:(H b).isSome=true:=(List.mem_filter.mp hm).2
   rw [n] at q;simp at q
theorem GB {h:Heap} {b:Addr} {o:Obj} (e:(vx h H).get? b=some o):h.get? b=some o/\H b=none:=by
 have e':h.get? b=some o:=W.of_hideAll (UB h H) e
 refine ⟨e',?_⟩
 cases q:H b with
 | none=>rfl
 | some x =>
   have hm:b∈UB h H:=List.mem_filter.mpr ⟨List.mem_range.mpr (abZ e'),by simp [q]⟩
   have z:(vx h H).get? b=none:=W.hideAll_none (UB h H) hm
   rw [z] at e;cases e
def Hw (g h:Heap) (L:Addr):List (Addr×Obj):=(List.range h.objs.size).filterMap λ a=>if a=L∨(g.get? a).isSome=true then none else (h.get? a).map λ o=>(a,o)
def rest (g h:Heap) (L d:Addr):List (Addr×Obj):=(Hw g h L).filter λ p=>decide (p.1≠d)
structure Mod (K:W.Frag) (mg:Str->Option Value) (base:Heap):Prop where
 Q3:K.In base
 glob:base.Ns mainGlobals mg
 blt:∃ mb,base.Ns builtinsNs mb/\∀ x:Str,x ≠ "__name__"->mb x=bootBuiltins x
 nolimit:base.NoLimit
structure Cx where
 prog:Program
 w:World
 K:W.Frag
 mg:Str->Option Value
 base:Heap
 A:Around
 N:List Str
 s₀:Shared
 H₀:Hp
 env:Env
 outer:List Env
 stack:List Env
 ex:List Addr
 fn:Str->Bool
 calm:Bool
 pn:List (Addr×Obj)
 xe:Value->Shared->Prop
def Dd (l:List Env):List Addr:=l.filterMap (·.frame)
abbrev Cx.fs (X:Cx):List Addr:=Dd X.outer
def QC (sc:Scope) (x:Str):Prop:=sc.names.lookup x=some .local∨sc.names.lookup x=some .cell∨sc.names.lookup x=some .free
def Loc (sc:Scope) (x:Str):Prop:=sc.names.lookup x=some .local∨sc.names.lookup x=some .cell
def Look (env:Env) (h:Heap) (m:Str->Option Value) (x:Str) (u:Value):Prop :=
 (env.kindOf x=some .local/\m x=some u)∨((env.kindOf x=some .cell∨env.kindOf x=some .free)/\∃ c,env.cells.lookup x=some c/\h.IsCell c (some u))
structure Cx.Ok (X:Cx):Prop where
 mod:Mod X.K X.mg X.base
 kind:X.env.scope.kind = .function
 glob:X.env.globals=mainGlobals
 blt:X.env.builtins=builtinsNs
 above:X.s₀.heap.objs.size<=X.env.locals
 inj:∀ x y c,X.env.cells.lookup x=some c->X.env.cells.lookup y=some c->x=y
 has:∀ x,(X.env.kindOf x=some .cell∨X.env.kindOf x=some .free)->∃ c,X.env.cells.lookup x=some c
 NE:∀ x c,X.fn x=true->X.env.cells.lookup x=some c->X.s₀.heap.objs.size<=c
 hd:X.calm=true->X.A.handled=none
 frames:X.A.frames=some X.stack
 UT:X.stack=X.outer∨(X.stack=X.env::X.outer/\X.env.frame=some X.env.locals)
 exf:∀ b∈X.ex,b≠X.env.locals/\∀ x c,X.env.cells.lookup x=some c->c≠b
 bs:∀ b o,X.base.get? b=some o->X.s₀.heap.get? b=some o/\X.H₀ b=none
 Jp:X.base.objs.size<=X.s₀.heap.objs.size
 DF:∀ b o,X.base.get? b=some o->b∉X.ex
 GK:∀ b∈X.ex,b∉X.fs
 p9:X.s₀.heap.FunFrames X.base X.outer
 Ma:∀ b∈X.fs,X.H₀ b=none
structure Inv (X:Cx) (pins:List (Addr×Obj)) (U:List (Option V)) (H:Hp) (s:Shared):Prop where
 ok:X.Ok
 os:s.os=X.s₀.os
 bare:AllBare s.gens
 base:Un X.fs X.ex X.H₀ H X.s₀.heap s.heap
 loc:∃ m,s.heap.Ns X.env.locals m/\∀ (i:Nat) (x:Str) (v:V),X.N[i]?=some x->U[i]?=some (some v)->QC X.env.scope x->∃ u,RelV v u/\Look X.env s.heap m x u
 cell:∀ x c,X.env.cells.lookup x=some c->∃ v,s.heap.IsCell c v
 free:H X.env.locals=none
 lQ:∀ x c,X.env.cells.lookup x=some c->H c=none
 pin:∀ p∈X.pn++pins,s.heap.get? p.1=some p.2/\H p.1=none/\p.1≠X.env.locals/\p.1∉X.fs/\∀ v,p.2.data ≠ .cell v
 cQ:mP X.prog X.w H s.heap
 len:U.length=X.N.length
section
variable {X:Cx} {pins:List (Addr×Obj)} {U:List (Option V)} {H H':Hp} {s:Shared} {h':Heap}
theorem Cx.Ok.Z2 (ok:X.Ok) {b:Addr} {o:Obj} (e:X.base.get? b=some o):b∉X.fs:=λ hb=>by
 have:=(ok.p9.mem hb).1
 rw [e] at this;cases this
theorem Inv.bs (I:Inv X pins U H s):∀ b o,X.base.get? b=some o->s.heap.get? b=some o/\H b=none:=λ b o e =>
 ⟨I.base.keep b o (I.ok.bs b o e).1 (I.ok.bs b o e).2 (I.ok.Z2 e) (I.ok.DF b o e),I.base.free b o (I.ok.bs b o e).1 (I.ok.bs b o e).2 (I.ok.DF b o e)⟩
theorem Inv.bk (I:Inv X pins U H s):∀ b o,X.base.get? b=some o->s.heap.get? b=some o:=λ b o e=>(I.bs b o e).1
theorem Inv.mod (I:Inv X pins U H s):Mod X.K X.mg X.base:=I.ok.mod
theorem Inv.pP (I:Inv X pins U H s):X.K.In s.heap:=I.ok.mod.Q3.keeps I.bk
theorem Inv.lt (I:Inv X pins U H s):X.env.locals<s.heap.objs.size:=let ⟨_,hn,_⟩:=I.loc;hn.lt
theorem Inv.sz (I:Inv X pins U H s):X.s₀.heap.objs.size<=s.heap.objs.size:=acS I.ok.above (akV I.lt)
theorem Inv.afe (I:Inv X pins U H s) {a:Addr} (h:s.heap.objs.size<=a):a∉X.fs:=λ hb=>by
 obtain ⟨_,o,ho,_⟩:=I.ok.p9.mem hb
 exact absurd (acK (abZ ho) (acS I.sz h)) (ah4 _)
theorem Inv.KF (I:Inv X pins U H s):∀ x c,X.env.cells.lookup x=some c->c≠X.env.locals:=λ x c e z=>by
 obtain ⟨v,o,ho,hd⟩:=I.cell x c e
 obtain ⟨m,⟨o',es,ep,yC,N9,_⟩,_⟩:=I.loc
 rw [z,yC] at ho;cases ho;rw [N9] at hd;cases hd
theorem Inv.p9 (I:Inv X pins U H s):s.heap.FunFrames X.base X.outer:=by
 have all:∀ (l:List Env),(∀ b∈Dd l,b∈X.fs)->X.s₀.heap.FunFrames X.base l->s.heap.FunFrames X.base l:=by
   intro l
   induction l with
   | nil=>intro _ _;trivial
   | cons env r ih =>
     intro hs hl
     obtain ⟨hk,⟨L,o,hf,hn,ho,hd⟩,hr⟩:=hl
     have hL:L∈X.fs:=hs L (by unfold Dd;rw [al1,hf];exact abQ)
     obtain ⟨sl,e⟩:=I.base.slot L o ho (I.ok.Ma L hL) hL λ z=>I.ok.GK L z hL
     exact ⟨hk,⟨L,_,hf,hn,e,hd⟩,ih (λ b hb=>hs b (by unfold Dd;rw [al1,hf];exact aaS _ hb)) hr⟩
 exact all X.outer (λ _ hb=>hb) I.ok.p9
theorem Inv.stack (I:Inv X pins U H s):s.heap.FunFrames X.base X.stack:=by
 rcases I.ok.UT with e|⟨e,hf⟩
 . rw [e];exact I.p9
 .
  rw [e]
  obtain ⟨m,hn,_⟩:=I.loc
  refine .cons (by rw [I.ok.kind];decide) hf hn ?_ I.p9
  exact amb (acS I.ok.Jp I.ok.above)
theorem Inv.yJ (I:Inv X pins U H s):∀ b∈Dd X.stack,b∈X.env.locals::X.fs:=λ b hb=>by
 rcases I.ok.UT with e|⟨e,hf⟩
 . rw [e] at hb;exact aaS _ hb
 .
  rw [e] at hb
  unfold Dd at hb
  rw [al1,hf] at hb
  exact hb
theorem Inv.AH (I:Inv X pins U H s):∀ b∈Dd X.stack,H b=none:=λ b hb=>by
 rcases List.mem_cons.mp (I.yJ b hb) with e|hb
 . rw [e];exact I.free
 . obtain ⟨_,o,ho,_⟩:=I.ok.p9.mem hb
   exact I.base.free b o ho (I.ok.Ma b hb) λ z=>I.ok.GK b z hb
theorem Inv.step {g':Array GenState} {t':Nat} {d':Drawn} (I:Inv X pins U H s) (vk:∀ b∈ch,(b∈X.ex∨X.s₀.heap.objs.size<=b)/\b≠X.env.locals/\(∀ x c,X.env.cells.lookup x=some c->c≠b)/\∀ p∈X.pn++pins,p.1≠b) (keep:∀ b o,b≠X.env.locals->b∉X.fs->b∉ch->s.heap.get? b=some o->H b=none->h'.get? b=some o) (slot:∀ b o,b≠X.env.locals->b∈X.fs->b∉ch->s.heap.get? b=some o->H b=none->∃ sl,h'.get? b=some { o with slots:=sl }) (free:∀ b o,b∉ch->s.heap.get? b=some o->H b=none->H' b=none) (there:∀ b o,b∉ch->s.heap.get? b=some o->∃ o',h'.get? b=some o') (xj:∀ b xs,H b=some (.tup xs)->H' b=some (.tup xs)) (uI:∀ b o u,H b=some (.yG o u)->H' b=some (.yG o u)) (xT:∀ b ps,H b=some (.LD ps)->∃ more,H' b=some (.LD (ps++more))) (ns:∀ m,s.heap.Ns X.env.locals m->h'.Ns X.env.locals m) (cQ:mP X.prog X.w H' h') (hg:AllBare g') :
   Inv X pins U H' { s with heap:=h',gens:=g',drawn:=d',toks:=t' }:=by
 have neL:∀ b o,X.s₀.heap.get? b=some o->b≠X.env.locals:=λ b o e=>ad8 (acK (abZ e) I.ok.above)
 have T7:∀ b o,X.s₀.heap.get? b=some o->b∉X.ex->b∉ch:=λ b o e hx hb=>by
   rcases (vk b hb).1 with z|z
   . exact hx z
   . exact absurd (acK (abZ e) z) (ah4 _)
 have cellK:∀ x c,X.env.cells.lookup x=some c->∀ v,s.heap.IsCell c v->h'.IsCell c v:=λ x c e v ⟨o,ho,hd⟩=>by
   have Sd:c∉ch:=λ z=>(vk c z).2.2.1 x c e rfl
   by_cases hc:c∈X.fs
   . obtain ⟨sl,q⟩:=slot c o (I.KF x c e) hc Sd ho (I.lQ x c e)
     exact ⟨_,q,hd⟩
   . exact ⟨o,keep c o (I.KF x c e) hc Sd ho (I.lQ x c e),hd⟩
 refine ⟨I.ok,I.os,hg,⟨λ b o e n hb hx=>?_,λ b o e n hb hx=>?_,λ b o e n hx=>?_,λ b o e hx=>?_,λ b xs e=>xj b xs (I.base.xj b xs e),λ b o xs e=>uI b o xs (I.base.uI b o xs e),λ b ps e=>?_⟩,?_,λ x c e=>?_,?_,λ x c e=>?_,λ p hp=>?_,cQ,I.len⟩
 . exact keep b o (neL b o e) hb (T7 b o e hx) (I.base.keep b o e n hb hx) (I.base.free b o e n hx)
 . obtain ⟨sl,e1⟩:=I.base.slot b o e n hb hx
   obtain ⟨sl',e2⟩:=slot b _ (neL b o e) hb (T7 b o e hx) e1 (I.base.free b o e n hx)
   exact ⟨sl',e2⟩
 . obtain ⟨o',e1⟩:=I.base.there b o e hx
   exact free b o' (T7 b o e hx) e1 (I.base.free b o e n hx)
 . obtain ⟨o',e1⟩:=I.base.there b o e hx
   exact there b o' (T7 b o e hx) e1
 . obtain ⟨m1,e1⟩:=I.base.xT b ps e
   obtain ⟨m2,e2⟩:=xT b _ e1
   exact ⟨m1++m2,by rw [e2,Array.append_assoc]⟩
 .
  obtain ⟨m,hn,hl⟩:=I.loc
  refine ⟨m,ns m hn,λ i x v e1 e2 e3=>?_⟩
  obtain ⟨u,r,l⟩:=hl i x v e1 e2 e3
  refine ⟨u,r,?_⟩
  rcases l with l|⟨k,c,e,z⟩
  . exact .inl l
  . exact .inr ⟨k,c,e,cellK x c e _ z⟩
 . obtain ⟨v,z⟩:=I.cell x c e
   exact ⟨v,cellK x c e v z⟩
 . obtain ⟨m,⟨o,_,_,ho,_⟩,_⟩:=I.loc
   exact free _ o (λ z=>(vk _ z).2.1 rfl) ho I.free
 . obtain ⟨v,o,ho,hd⟩:=I.cell x c e
   exact free c o (λ z=>(vk c z).2.2.1 x c e rfl) ho (I.lQ x c e)
 . obtain ⟨e,n,ne,nf,d⟩:=I.pin p hp
   have Sd:p.1∉ch:=λ z=>(vk p.1 z).2.2.2 p hp rfl
   exact ⟨keep p.1 p.2 ne nf Sd e n,free p.1 p.2 Sd e n,ne,nf,d⟩
theorem Inv.un {t':Nat} (I:Inv X pins U H s) (u:Un X.fs [] H H' s.heap h') (cQ:mP X.prog X.w H' h'):Inv X pins U H' { s with heap:=h',toks:=t' }:=by
 obtain ⟨m,⟨o,es,ep,ho,r⟩,_⟩:=id I.loc
 obtain ⟨sl,hL⟩:=u.any ho I.free (by simp)
 exact I.step (g':=s.gens) (d':=s.drawn) (ch:=[]) (λ _ z=>nomatch z) (λ b o _ hb _ e n=>u.keep b o e n hb (by simp)) (λ b o _ hb _ e n=>u.slot b o e n hb (by simp)) (λ b o _ e n=>u.free b o e n (by simp)) (λ b o _ e=>u.there b o e (by simp)) u.xj u.uI u.xT (λ m' hm=>by
   obtain ⟨o',es',ep',yC,r'⟩:=hm
   rw [ho] at yC;cases yC
   exact ⟨_,es',ep',hL,r'⟩) cQ I.bare
theorem Inv.call {g':Array GenState} {t':Nat} {d':Drawn} (I:Inv X pins U H s) (u:Un (Dd X.stack) ch H H' s.heap h') (cQ:mP X.prog X.w H' h') (hg:AllBare g') (vk:∀ b∈ch,(b∈X.ex∨X.s₀.heap.objs.size<=b)/\b≠X.env.locals/\(∀ x c,X.env.cells.lookup x=some c->c≠b)/\∀ p∈X.pn++pins,p.1≠b) :
   Inv X pins U H' { s with heap:=h',gens:=g',drawn:=d',toks:=t' }:=by
 obtain ⟨m,⟨o,es,ep,ho,r⟩,_⟩:=id I.loc
 obtain ⟨sl,hL⟩:=u.any ho I.free λ z=>(vk _ z).2.1 rfl
 exact I.step (ch:=ch) vk (λ b o hL hb hc e n=>u.keep b o e n (λ z=>(List.mem_cons.mp (I.yJ b z)).elim hL hb) hc) (λ b o _ _ hc e n=>u.any e n hc) (λ b o hc e n=>u.free b o e n hc) (λ b o hc e=>u.there b o e hc) u.xj u.uI u.xT (λ m' hm=>by
   obtain ⟨o',es',ep',yC,r'⟩:=hm
   rw [ho] at yC;cases yC
   exact ⟨_,es',ep',hL,r'⟩) cQ hg
theorem Inv.turned {t':Nat} (I:Inv X pins U H s) (k:∀ b o,b≠it->s.heap.get? b=some o->h'.get? b=some o) (hn:H it=none) (hL:it≠X.env.locals) (h1:it∈X.ex∨X.s₀.heap.objs.size<=it) (h2:∀ x c,X.env.cells.lookup x=some c->c≠it) (h3:∀ p∈X.pn++pins,p.1≠it):Inv X pins U H { s with heap:=h',toks:=t' }:=by
 have nit:∀ b u,H b=some u->b≠it:=λ b u e z=>by rw [z,hn] at e;cases e
 refine I.step (g':=s.gens) (d':=s.drawn) (ch:=[it]) (λ b hb=>?_) (λ b o _ _ hc e _=>k b o (λ z=>hc (by simp [z])) e) (λ b o _ _ hc e _=>⟨o.slots,k b o (λ z=>hc (by simp [z])) e⟩) (λ _ _ _ _ n=>n)
   (λ b o hc e=>⟨o,k b o (λ z=>hc (by simp [z])) e⟩) (λ _ _ e=>e) (λ _ _ _ e=>e) (λ b ps e=>⟨#[],by rw [e];simp⟩) (λ m hm=>?_) (λ b u e=>?_) I.bare
 . have e:b=it:=by simpa using hb
   subst e
   exact ⟨h1,hL,h2,h3⟩
 . obtain ⟨o,es,ep,ho,r⟩:=hm
   exact ⟨o,es,ep,k _ o (alk hL) ho,r⟩
 .
  refine (I.cQ b u e).dI (λ c v hc q=>k c v ?_ q) (λ _ q=>q) λ _ _ q=>q
  rcases hc with z|z
  . rw [z];exact nit b u e
  . exact nit c _ z
theorem Inv.tok (I:Inv X pins U H s) (t:Nat):Inv X pins U H { s with toks:=t }:=I.un (h':=s.heap) (t':=t) Un.refl I.cQ
theorem Inv.kept {t':Nat} (I:Inv X pins U H s) (k:∀ b u,s.heap.get? b=some u->h'.get? b=some u):Inv X pins U H { s with heap:=h',toks:=t' }:=I.un (Un.kept k) (I.cQ.kept k)
theorem Inv.laid {a:Addr} {t':Nat} (I:Inv X pins U H s) (k:∀ b u,s.heap.get? b=some u->h'.get? b=some u) (hp:s.heap.objs.size<=a) (new:cO X.prog X.w (upd H a o) h' a o) :
   Inv X pins U (upd H a o) { s with heap:=h',toks:=t' }:=I.un (Un.laid k hp (I.cQ.fresh hp)) (I.cQ.laid k hp new)
theorem Inv.write {x e:Addr} {t':Nat} (I:Inv X pins U H s) (mu:Qh (H x)) (he:e=x∨H e=some (.own x)) (k:∀ b u,b≠e->s.heap.get? b=some u->h'.get? b=some u) (Au:∃ u,h'.get? e=some u) (new:cO X.prog X.w (upd H x o) h' x o):Inv X pins U (upd H x o) { s with heap:=h',toks:=t' }:=I.un (Un.write mu he k Au) (I.cQ.write mu he k Au new)
theorem Inv.Am {Jt:List (Addr×Obj)} (I:Inv X pins U H s) (h:∀ p∈Jt,s.heap.get? p.1=some p.2/\H p.1=none/\p.1≠X.env.locals/\p.1∉X.fs/\∀ v,p.2.data ≠ .cell v):Inv X Jt U H s :=
 ⟨I.ok,I.os,I.bare,I.base,I.loc,I.cell,I.free,I.lQ,λ p hp=>(List.mem_append.mp hp).elim (λ z=>I.pin p (ahM _ z)) (h p),I.cQ,I.len⟩
theorem wQ {N:List Str} (hN:N.Nodup) {i j:Nat} {x:Str} (a:N[i]?=some x) (b:N[j]?=some x):i=j:=by
 obtain ⟨h1,e1⟩:=List.getElem?_eq_some_iff.mp a
 obtain ⟨h2,e2⟩:=List.getElem?_eq_some_iff.mp b
 exact (amh hN).mp (e1.trans e2.symm)
theorem uw {M:Model} {A:Around} {E:Value->Shared->Prop} {i:Nat} {x:Str} {Q:Unit->Shared->Prop} (I:Inv X pins U H s) (hN:X.N.Nodup) (hi:X.N[i]?=some x) (hx:Loc X.env.scope x) (r:RelV v u) (h:∀ s',Inv X pins (U.set i (some v)) H s'->(∃ a,Heap.SameBut a s.heap s'.heap/\(a=X.env.locals∨X.env.cells.lookup x=some a))->Q () s') (hf:X.fn x=true∨X.env.scope.names.lookup x=some .local:=by first|exact .inl rfl|exact .inr rfl|assumption):wpAny M A (storeName X.env x u) Q E s:=by
 obtain ⟨m,hn,hl⟩:=id I.loc
 have ajj:(X.env.scope.kind == .class || (X.env.scope.kind == .module && X.env.locals != X.env.globals))=false:=by rw [I.ok.kind];rfl
 have hiσ:i<U.length:=by rw [I.len];exact (List.getElem?_eq_some_iff.mp hi).1
 have KF:=I.KF
 have tracked:∀ {a:Addr} {h':Heap},(∃ o,s.heap.get? a=some o/\H a=none)->Heap.SameBut a s.heap h'->mP X.prog X.w H h':=λ {a h'} ha hs b ob e=>by
   obtain ⟨_,_,jf⟩:=ha
   refine (I.cQ b ob e).dI (λ c w' hc q=>(hs.2 c ?_).trans q) (λ _ q=>q) λ _ _ q=>q
   rintro rfl
   rcases hc with rfl|hc
   . rw [jf] at e;cases e
   . rw [jf] at hc;cases hc
 rcases hx with hk|hk
 .
  refine wpAny_storeName_local hk hn (λ h' hn' hs=>?_) ajj
  obtain ⟨oL,_,_,hoL,_⟩:=id hn
  refine h _ ⟨I.ok,I.os,I.bare,⟨λ b o e n hb hx=>?_,λ b o e n hb hx=>?_,I.base.free,λ b o e hx=>?_,I.base.xj,I.base.uI,I.base.xT⟩,⟨_,hn',λ j y v' e1 e2 e3=>?_⟩,λ y c e=>?_,I.free,I.lQ,λ p hp=>?_,tracked ⟨oL,hoL,I.free⟩ hs,by simpa using I.len⟩ ⟨_,hs,.inl rfl⟩
  . exact (hs.2 b (ad8 (acK (abZ e) I.ok.above))).trans (I.base.keep b o e n hb hx)
  . obtain ⟨sl,e1⟩:=I.base.slot b o e n hb hx
    exact ⟨sl,(hs.2 b (ad8 (acK (abZ e) I.ok.above))).trans e1⟩
  . obtain ⟨o',e1⟩:=I.base.there b o e hx
    exact ⟨o',(hs.2 b (ad8 (acK (abZ e) I.ok.above))).trans e1⟩
  .
   by_cases hj:j=i
   . subst hj
     rw [hi] at e1;cases e1
     rw [alb hiσ] at e2
     cases e2
     exact ⟨u,r,.inl ⟨hk,by simp⟩⟩
   .
    rw [alh (alk hj)] at e2
    obtain ⟨u',r',q⟩:=hl j y v' e1 e2 e3
    refine ⟨u',r',?_⟩
    rcases q with ⟨k,e⟩|⟨k,c,e,z⟩
    . refine .inl ⟨k,?_⟩
      have:y≠x:=λ e=>hj (wQ hN e1 (e ▸ hi))
      simp [this,e]
    . exact .inr ⟨k,c,e,z.sameBut hs (KF y c e)⟩
  . obtain ⟨w',z⟩:=I.cell y c e
    exact ⟨w',z.sameBut hs (KF y c e)⟩
  . obtain ⟨e,n,ne,nf,d⟩:=I.pin p hp
    exact ⟨(hs.2 p.1 ne).trans e,n,ne,nf,d⟩
 .
  have Z5:X.fn x=true:=by
    rcases hf with z|z
    . exact z
    . rw [z] at hk;cases hk
  obtain ⟨c,hc⟩:=I.ok.has x (.inl hk)
  obtain ⟨w',z⟩:=I.cell x c hc
  refine wpAny_storeName_cell I.ok.kind hk hc z (λ h' uU hs=>?_)
  obtain ⟨oc,hoc,aix⟩:=id z
  refine h { s with heap:=h' } ⟨I.ok,I.os,I.bare,⟨λ b o e n hb hx=>?_,λ b o e n hb hx=>?_,I.base.free,λ b o e hx=>?_,I.base.xj,I.base.uI,I.base.xT⟩,⟨m,hn.sameBut hs (alk (KF x c hc)),λ j y v' e1 e2 e3=>?_⟩,λ y c' e=>?_,I.free,I.lQ,λ p hp=>?_,tracked ⟨oc,hoc,I.lQ x c hc⟩ hs,by simpa using I.len⟩ ⟨c,hs,.inr hc⟩
  . exact (hs.2 b (ad8 (acK (abZ e) (I.ok.NE x c Z5 hc)))).trans (I.base.keep b o e n hb hx)
  . obtain ⟨sl,e1⟩:=I.base.slot b o e n hb hx
    exact ⟨sl,(hs.2 b (ad8 (acK (abZ e) (I.ok.NE x c Z5 hc)))).trans e1⟩
  . obtain ⟨o',e1⟩:=I.base.there b o e hx
    exact ⟨o',(hs.2 b (ad8 (acK (abZ e) (I.ok.NE x c Z5 hc)))).trans e1⟩
  .
   by_cases hj:j=i
   . subst hj
     rw [hi] at e1;cases e1
     rw [alb hiσ] at e2
     cases e2
     exact ⟨u,r,.inr ⟨.inl hk,c,hc,uU⟩⟩
   .
    rw [alh (alk hj)] at e2
    obtain ⟨u',r',q⟩:=hl j y v' e1 e2 e3
    refine ⟨u',r',?_⟩
    rcases q with q|⟨k,c',e,z'⟩
    . exact .inl q
    . refine .inr ⟨k,c',e,z'.sameBut hs ?_⟩
      rintro rfl
      exact hj (wQ hN e1 (I.ok.inj _ _ _ e hc ▸ hi))
  . by_cases hcc:c'=c
    . subst hcc;exact ⟨_,uU⟩
    . obtain ⟨w2,z2⟩:=I.cell y c' e
      exact ⟨w2,z2.sameBut hs hcc⟩
  .
   obtain ⟨e,n,ne,nf,d⟩:=I.pin p hp
   refine ⟨(hs.2 p.1 ?_).trans e,n,ne,nf,d⟩
   intro q
   rw [q,hoc] at e
   have q':oc=p.2:=abG e
   exact d w' (by rw [← q'];exact aix)
theorem qW {M:Model} {A:Around} {E:Value->Shared->Prop} {i:Nat} {x:Str} {Q:Unit->Shared->Prop} (I:Inv X pins U H s) (hN:X.N.Nodup) (hi:X.N[i]?=some x) (hx:Loc X.env.scope x) (r:RelV v u) (h:∀ s',Inv X pins (U.set i (some v)) H s'->Q () s') (hf:X.fn x=true∨X.env.scope.names.lookup x=some .local:=by first|exact .inl rfl|exact .inr rfl|assumption):wpAny M A (storeName X.env x u) Q E s :=
 uw I hN hi hx r (λ s' I' _=>h s' I') hf
theorem Inv.Nx (I:Inv X pins U H s) (ho:s'.os=s.os) (u:Un (Dd X.stack) ch H H' s.heap s'.heap) (cQ:mP X.prog X.w H' s'.heap) (hg:AllBare s'.gens) (vk:∀ b∈ch,(b∈X.ex∨X.s₀.heap.objs.size<=b)/\b≠X.env.locals/\(∀ x c,X.env.cells.lookup x=some c->c≠b)/\∀ p∈X.pn++pins,p.1≠b):Inv X pins U H' s':=by
 obtain ⟨h',g',d',t',o'⟩:=s'
 have e:o'=s.os:=ho
 subst e
 exact I.call (g':=g') (t':=t') (d':=d') u cQ hg vk
end
abbrev XK:=Value->Option Addr->Hp->Prop
abbrev St:=List (Option V)
abbrev VK:=V->Hp->Prop
abbrev TE:=St->Hp->VK->Prop
abbrev TT:=St->Hp->(Bool->Hp->Prop)->Prop
abbrev TA:=St->Hp->(List V->Hp->Prop)->Prop
structure Ends where
 nx:St->Hp->Prop
 rt:VK
 bk:St->Hp->Prop:=λ _ _=>False
 ct:St->Hp->Prop:=λ _ _=>False
abbrev TS:=Ends->St->Hp->Prop
inductive EP (X:Cx) (pins:List (Addr×Obj)) (U:St) (Q:VK) (u:Value) (s':Shared):Prop
 | mk (v:V) (H':Hp) (_:Inv X pins U H' s') (_:RelV v u) (_:Q v H')
def TP (X:Cx) (pins:List (Addr×Obj)) (U:St) (Q:Bool->Hp->Prop) (b:Bool) (s':Shared):Prop:=∃ H',Inv X pins U H' s'/\Q b H'
inductive AP (X:Cx) (pins:List (Addr×Obj)) (U:St) (Q:List V->Hp->Prop) (us:List Value) (s':Shared):Prop
 | mk (vs:List V) (H':Hp) (_:Inv X pins U H' s') (_:Vals vs us) (_:Q vs H')
def SP (X:Cx) (pins:List (Addr×Obj)) (D:Ends) (f:Flow) (s':Shared):Prop :=
 match f with
 | .next=>∃ σ' H',Inv X pins σ' H' s'/\D.nx σ' H'
 | .brk=>∃ σ' H',Inv X pins σ' H' s'/\D.bk σ' H'
 | .cont=>∃ σ' H',Inv X pins σ' H' s'/\D.ct σ' H'
 | .ret u=>∃ v σ' H',Inv X pins σ' H' s'/\RelV v u/\D.rt v H'
def PE (X:Cx) (e:Expr) (t:TE):Prop :=
 ∀ (pins:List (Addr×Obj)) (s:Shared) (U:St) (H:Hp) (Q:VK),Inv X pins U H s->t U H Q->wpAny (model X.prog X.w) X.A (eval e X.env) (EP X pins U Q) X.xe s
def PT (X:Cx) (e:Expr) (t:TT):Prop :=
 ∀ (pins:List (Addr×Obj)) (s:Shared) (U:St) (H:Hp) (Q:Bool->Hp->Prop),Inv X pins U H s->t U H Q->wpAny (model X.prog X.w) X.A (isTrue e X.env (eval e X.env)) (TP X pins U Q) X.xe s
def PW (X:Cx) (e:Expr) (t:TT):Prop :=
 ∀ (whole:Sem Value) (pins:List (Addr×Obj)) (s:Shared) (U:St) (H:Hp) (Q:Bool->Hp->Prop),Inv X pins U H s->t U H Q->wpAny (model X.prog X.w) X.A (isTrue e X.env whole) (TP X pins U Q) X.xe s
theorem PW.pt {X:Cx} {e:Expr} {t:TT} (h:PW X e t):PT X e t:=h _
def PA (X:Cx) (es:List Expr) (t:TA):Prop :=
 ∀ (pos:Pos) (pins:List (Addr×Obj)) (s:Shared) (U:St) (H:Hp) (Q:List V->Hp->Prop),Inv X pins U H s->t U H Q->wpAny (model X.prog X.w) X.A (spliced (backTo pos (starEach es X.env))) (AP X pins U Q) X.xe s
def PS (X:Cx) (st:Stmt) (t:TS):Prop :=
 ∀ (pins:List (Addr×Obj)) (s:Shared) (U:St) (H:Hp) (D:Ends),Inv X pins U H s->t D U H->wpAny (model X.prog X.w) X.A (exec st X.env) (SP X pins D) X.xe s
def tK (X:Cx) (st:List Stmt) (t:TS):Prop :=
 ∀ (pins:List (Addr×Obj)) (s:Shared) (U:St) (H:Hp) (D:Ends),Inv X pins U H s->t D U H->wpAny (model X.prog X.w) X.A (execs st X.env) (SP X pins D) X.xe s
theorem cD {α:Type} {t:Sem α} {Q Q':α->Shared->Prop} {M:Model} {A:Around} {E:Value->Shared->Prop} {s:Shared} (h:wpAny M A t Q E s) (hQ:∀ a s,Q a s->Q' a s):wpAny M A t Q' E s:=aiq h hQ λ _ _ x=>x
section
variable {X:Cx}
inductive IG (i:Nat) (U:St) (H:Hp) (Q:VK):Prop
 | mk (v:_) (_:U[i]?=some (some v)) (_:Q v H)
def tC (v:V):TE:=λ _ H Q=>Q v H
theorem K8 {i:Nat} {x:Str} {pos:Pos} (hN:X.N[i]?=some x) (hv:QC X.env.scope x) (hd:(x == ("__debug__" : Str))=false:=by decide) (vi:(x == ("__classdict__" : Str))=false:=by decide):PE X (.Name x pos) (IG i):=by
 intro pins s U H Q I h
 obtain ⟨v,e,h⟩:=h
 obtain ⟨m,hn,hl⟩:=I.loc
 obtain ⟨u,r,l⟩:=hl i x v hN e hv
 have fin:EP X pins U Q u s:=⟨v,H,I,r,h⟩
 rcases l with ⟨hk,hm⟩|⟨hk,c,hc,gk⟩
 . exact wpAny_Name (wpAny_loadName_local I.ok.kind hk hn hm fin) hd
 . rcases hk with hk|hk
   . exact wpAny_Name (wpAny_loadName_cell I.ok.kind hk hc gk fin) hd
   . exact wpAny_Name (wpAny_loadName_free I.ok.kind hk hc gk fin vi) hd
theorem ai {i j pos}:PE X (.Constant (.int i) j pos) (tC (.int i)):=λ _ _ _ H _ I h=>wpAny_Constant_int ⟨.int i,H,I.tok _,⟨_,rfl⟩,h⟩
theorem mX {b j pos}:PE X (.Constant (.bool b) j pos) (tC (.bl b)):=λ _ _ _ H _ I h=>Constant_bool ⟨.bl b,H,I,rfl,h⟩
theorem cy {j pos}:PE X (.Constant .none j pos) (tC .cf):=λ _ _ _ H _ I h=>Constant_none ⟨.cf,H,I,rfl,h⟩
def Gl (X:Cx) (x:Str):Prop:=X.env.kindOf x=some .globalImplicit
theorem vg {E:Value->Shared->Prop} {s:Shared} {x:Str} {pos:Pos} {Q:Value->Shared->Prop} (I:Inv X pins U H s) (hg:Gl X x) (hm:X.mg x=some u) (h:Q u s) (hd:(x == ("__debug__" : Str))=false:=by decide):wpAny (model X.prog X.w) X.A (eval (.Name x pos) X.env) Q E s :=
 am0 I.ok.kind hg (Calls.loadGlobal_global (by rw [I.ok.glob];exact I.mod.glob.keeps I.bk) hm h) hd
theorem i3 {E:Value->Shared->Prop} {s:Shared} {x:Str} {pos:Pos} {Q:Value->Shared->Prop} (I:Inv X pins U H s) (hg:Gl X x) (hm:X.mg x=none) (hv:bootBuiltins x=some u) (h:Q u s) (hn:x ≠ "__name__":=by decide) (hd:(x == ("__debug__" : Str))=false:=by decide):wpAny (model X.prog X.w) X.A (eval (.Name x pos) X.env) Q E s:=by
 obtain ⟨mb,h1,h2⟩:=I.mod.blt
 exact am0 I.ok.kind hg (Calls.loadGlobal_builtin (by rw [I.ok.glob];exact I.mod.glob.keeps I.bk) hm (by rw [I.ok.blt];exact h1.keeps I.bk) ((h2 x hn).trans hv) h) hd
theorem gI {x:Str} {pos:Pos} (hg:Gl X x) (hm:X.mg x=some u) (r:RelV v u) (hd:(x == ("__debug__" : Str))=false:=by decide):PE X (.Name x pos) (tC v) :=
 λ _ _ _ H _ I h=>vg I hg hm ⟨v,H,I,r,h⟩ hd
theorem Be {x:Str} {pos:Pos} (hg:Gl X x) (hm:X.mg x=none) (hv:bootBuiltins x=some u) (r:RelV v u) (hn:x ≠ "__name__":=by decide) (hd:(x == ("__debug__" : Str))=false:=by decide):PE X (.Name x pos) (tC v) :=
 λ _ _ _ H _ I h=>i3 I hg hm hv ⟨v,H,I,r,h⟩ hn hd
variable {a b:Expr} {ta tb:TE} {pos:Pos}
def tB (t:TE):TT:=λ U H Q=>t U H λ x H1=>∃ c,x = .bl c/\Q c H1
theorem cC {e:Expr} {t:TE} (h:PE X e t) (he:∀ whole,isTrue e X.env whole=(do let v ← whole;standAt e.pos;holding [v] (truthy v)):=by intro _;rfl):PT X e (tB t):=by
 intro pins s U H Q I hw
 refine isTrue_plain (cD (h pins s U H _ I hw) λ v s1 ⟨x,H1,I1,r1,q1⟩=>?_) (he _)
 obtain ⟨d,rfl,q⟩:=q1
 cases r1
 exact ail ⟨H1,I1,q⟩
variable {tA Ui:TT} {rest:List Expr}
def aiA (t u:TT):TT:=λ U H Q=>t U H λ c H1=>if c=true then u U H1 Q else Q false H1
def tOr (t u:TT):TT:=λ U H Q=>t U H λ c H1=>if c=true then Q true H1 else u U H1 Q
def Wp (t:TT):TT:=λ U H Q=>t U H λ c H1=>Q (!c) H1
theorem qE (ha:PT X a tA):PW X (.BoolOp .And [a] pos) tA:=by
 intro wh pins s U H Q I h
 refine isTrue_and (cD (ha pins s U H Q I h) λ c s1 e=>?_)
 cases c with
 | true=>exact isTrue_and_nil e
 | false=>exact e
theorem rS (ha:PT X a tA):PW X (.BoolOp .Or [a] pos) tA:=by
 intro wh pins s U H Q I h
 refine isTrue_or (cD (ha pins s U H Q I h) λ c s1 e=>?_)
 cases c with
 | false=>exact isTrue_or_nil e
 | true=>exact e
theorem uL (ha:PT X a tA) (hb:PW X (.BoolOp .And (b::rest) pos) Ui):PW X (.BoolOp .And (a::b::rest) pos) (aiA tA Ui):=by
 intro wh pins s U H Q I h
 refine isTrue_and (cD (ha pins s U H _ I h) λ c s1 ⟨H1,I1,q1⟩=>?_)
 cases c with
 | true=>exact hb wh pins s1 U H1 Q I1 q1
 | false=>exact ⟨H1,I1,q1⟩
theorem ub (ha:PT X a tA) (hb:PW X (.BoolOp .Or (b::rest) pos) Ui):PW X (.BoolOp .Or (a::b::rest) pos) (tOr tA Ui):=by
 intro wh pins s U H Q I h
 refine isTrue_or (cD (ha pins s U H _ I h) λ c s1 ⟨H1,I1,q1⟩=>?_)
 cases c with
 | true=>exact ⟨H1,I1,q1⟩
 | false=>exact hb wh pins s1 U H1 Q I1 q1
theorem dJ (ha:PT X a tA):PT X (.UnaryOp .Not a pos) (Wp tA):=by
 intro pins s U H Q I h
 exact isTrue_not (ha pins s U H (λ c H1=>Q (!c) H1) I h)
def E6 (ta tb:TE):TE:=λ U H Q=>ta U H λ x H1=>∃ c,x = .bl c/\if c=true then tb U H1 Q else Q (.bl false) H1
def ach (ta tb:TE):TE:=λ U H Q=>ta U H λ x H1=>∃ c,x = .bl c/\if c=true then Q (.bl true) H1 else tb U H1 Q
def PR (ta:TE):TE:=λ U H Q=>ta U H λ x H1=>∃ c,x = .bl c/\Q (.bl (!c)) H1
theorem mH {op} {t:TE} (h:PE X a t):PE X (.BoolOp op [a] pos) t:=λ pins s U H Q I hw=>BoolOp_one (h pins s U H Q I hw)
theorem mJ (ha:PE X a ta) (hb:PE X (.BoolOp .And (b::rest) pos) tb):PE X (.BoolOp .And (a::b::rest) pos) (E6 ta tb):=by
 intro pins s U H Q I h
 refine BoolOp_and (cD (ha pins s U H _ I h) λ v s1 ⟨x,H1,I1,r1,q1⟩=>?_)
 obtain ⟨c,rfl,q1⟩:=q1
 cases r1
 refine ail ?_
 cases c with
 | true=>exact hb pins s1 U H1 Q I1 q1
 | false=>exact ⟨.bl false,H1,I1,rfl,q1⟩
theorem OJ (ha:PE X a ta) (hb:PE X (.BoolOp .Or (b::rest) pos) tb):PE X (.BoolOp .Or (a::b::rest) pos) (ach ta tb):=by
 intro pins s U H Q I h
 refine BoolOp_or (cD (ha pins s U H _ I h) λ v s1 ⟨x,H1,I1,r1,q1⟩=>?_)
 obtain ⟨c,rfl,q1⟩:=q1
 cases r1
 refine ail ?_
 cases c with
 | false=>exact hb pins s1 U H1 Q I1 q1
 | true=>exact ⟨.bl true,H1,I1,rfl,q1⟩
theorem uT (ha:PE X a ta):PE X (.UnaryOp .Not a pos) (PR ta):=by
 intro pins s U H Q I h
 refine UnaryOp_ (cD (ha pins s U H _ I h) λ v s1 ⟨x,H1,I1,r1,q1⟩=>?_)
 obtain ⟨c,rfl,q1⟩:=q1
 cases r1
 exact not_of (ail ⟨.bl (!c),H1,I1,rfl,q1⟩)
def tIf (t:TT) (ta tb:TE):TE:=λ U H Q=>t U H λ c H1=>if c=true then ta U H1 Q else tb U H1 Q
theorem jg {c:Expr} (hc:PT X c tA) (ha:PE X a ta) (hb:PE X b tb):PE X (.IfExp c a b pos) (tIf tA ta tb):=by
 intro pins s U H Q I h
 refine wpAny_IfExp (cD (hc pins s U H _ I h) λ d s1 ⟨H1,I1,q1⟩=>?_)
 cases d with
 | true=>exact ha pins s1 U H1 Q I1 q1
 | false=>exact hb pins s1 U H1 Q I1 q1
end
def aR (K:W.Frag) (H:Hp) (a:Addr) (xs:List V):Prop :=
 Rd H a (.lst xs) ∨
   ∃ (o:Obj) (bg:Array Value) (n:Nat),K.lookup a=some o/\o.cls = .type "list"/\o.dict=none/\o.data = .seq bg n/\bg.size<=sizeLine/\Vals xs bg.toList
def bO (K:W.Frag) (H:Hp) (a:Addr) (xs:List V):Prop :=
 Rd H a (.tup xs) ∨
   ∃ (o:Obj) (bg:Array Value) (n:Nat),K.lookup a=some o/\o.cls = .type "tuple"/\o.data = .seq bg n/\bg.size<=sizeLine/\Vals xs bg.toList
def YY:Value->Option V
 | .none=>some .cf
 | .bool b=>some (.bl b)
 | .int i _=>some (.int i)
 | .str x _=>some (.str x)
 | .bytes b _=>some (.C4 b)
 | .float b _=>some (.JN b)
 | .ref a=>some (.ref a)
 | .type n=>some (.ty n)
 | _=>none
theorem RelV.abs {x:V} (r:RelV x u):YY u=some x:=by
 cases x with
 | cf=>cases r;rfl
 | bl _=>cases r;rfl
 | int _=>obtain ⟨t,rfl⟩:=r;rfl
 | str _=>obtain ⟨t,rfl⟩:=r;rfl
 | C4 _=>obtain ⟨t,rfl⟩:=r;rfl
 | JN _=>obtain ⟨t,rfl⟩:=r;rfl
 | ref _=>cases r;rfl
 | ty _=>cases r;rfl
theorem RelV.inj {x y:V} (r:RelV x u) (q:RelV y u):x=y:=abG (r.abs.symm.trans q.abs)
theorem Vals.inj:∀ {xs ys:List V} {us:List Value},Vals xs us->Vals ys us->xs=ys
 | _,_,_,.nil,.nil=>rfl
 | _,_,_,.cons r t,.cons r' t'=>by rw [r.inj r',Vals.inj t t']
section
variable {X:Cx} {pins:List (Addr×Obj)} {U:St} {H:Hp} {s:Shared} {a:Addr} {xs ys:List V}
theorem aR.of {K:W.Frag} (h:H a=some (.lst xs)):aR K H a xs:=.inl (.inl h)
theorem bO.of {K:W.Frag} (h:H a=some (.tup xs)):bO K H a xs:=.inl (.inl h)
theorem Inv.list (I:Inv X pins U H s) (h:aR X.K H a xs):∃ bg:List Value,Vals xs bg/\PlainL s.heap a bg.toArray/\xs.length<=sizeLine:=by
 rcases h with h|⟨o,bg,n,hk,hc,hd,hs,hz,r⟩
 . obtain ⟨z,bg,n,r,e⟩:=h.ok I.cQ
   exact ⟨bg,r,⟨_,n,e,rfl,rfl,rfl⟩,z⟩
 .
  refine ⟨bg.toList,r,⟨o,n,I.pP a o hk,hc,hd,by simpa using hs⟩,?_⟩
  have e:=r.length
  simp only [alm] at e
  lia
theorem Inv.tuple (I:Inv X pins U H s) (h:bO X.K H a xs):∃ bg:List Value,Vals xs bg/\IsTup s.heap a bg.toArray/\xs.length<=sizeLine:=by
 rcases h with h|⟨o,bg,n,hk,hc,hs,hz,r⟩
 . obtain ⟨z,bg,r,p⟩:=h.ok I.cQ
   exact ⟨bg,r,p,z⟩
 .
  refine ⟨bg.toList,r,⟨o,I.pP a o hk,hc,n,by simpa using hs⟩,?_⟩
  have e:=r.length
  simp only [alm] at e
  lia
theorem Inv.nS (I:Inv X pins U H s) (h:aR X.K H a xs) (h':aR X.K H a ys):xs=ys:=by
 obtain ⟨bg,r,⟨o,n,e,_,_,d⟩,_⟩:=I.list h
 obtain ⟨its',r',⟨o',n',e',_,_,d'⟩,_⟩:=I.list h'
 rw [e] at e';cases e'
 rw [d] at d'
 injection d' with d1 _
 have:bg=its':=by simpa using ahP Array.toList d1
 subst this
 exact r.inj r'
theorem Inv.CM (I:Inv X pins U H s) (h:bO X.K H a xs) (h':bO X.K H a ys):xs=ys:=by
 obtain ⟨bg,r,⟨o,e,_,n,d⟩,_⟩:=I.tuple h
 obtain ⟨its',r',⟨o',e',_,n',d'⟩,_⟩:=I.tuple h'
 rw [e] at e';cases e'
 rw [d] at d'
 injection d' with d1 _
 have:bg=its':=by simpa using ahP Array.toList d1
 subst this
 exact r.inj r'
end
abbrev Cx.mI (X:Cx) (E:Value->Shared->Prop):Cx:={ X with xe:=E }
abbrev Cx.Dj (X:Cx):Cx:=X.mI λ _ _=>False
theorem Cx.Ok.mI {X:Cx} (ok:X.Ok) (E:Value->Shared->Prop):(X.mI E).Ok :=
 ⟨ok.mod,ok.kind,ok.glob,ok.blt,ok.above,ok.inj,ok.has,ok.NE,ok.hd,ok.frames,ok.UT,ok.exf,ok.bs,ok.Jp,ok.DF,ok.GK,ok.p9,ok.Ma⟩
theorem Cx.Ok.kM {X:Cx} {E:Value->Shared->Prop} (ok:(X.mI E).Ok):X.Ok :=
 ⟨ok.mod,ok.kind,ok.glob,ok.blt,ok.above,ok.inj,ok.has,ok.NE,ok.hd,ok.frames,ok.UT,ok.exf,ok.bs,ok.Jp,ok.DF,ok.GK,ok.p9,ok.Ma⟩
section
variable {X:Cx} {pins:List (Addr×Obj)} {U:St} {H:Hp} {s:Shared} {E:Value->Shared->Prop}
theorem Inv.mI (I:Inv X pins U H s) (E:Value->Shared->Prop):Inv (X.mI E) pins U H s:=⟨I.ok.mI E,I.os,I.bare,I.base,I.loc,I.cell,I.free,I.lQ,I.pin,I.cQ,I.len⟩
theorem Inv.kM (I:Inv (X.mI E) pins U H s):Inv X pins U H s:=⟨I.ok.kM,I.os,I.bare,I.base,I.loc,I.cell,I.free,I.lQ,I.pin,I.cQ,I.len⟩
theorem SP.kM {D:Ends} {f:Flow} (h:SP (X.mI E) pins D f s'):SP X pins D f s':=by
 cases f with
 | next=>obtain ⟨σ',H',I,q⟩:=h;exact ⟨σ',H',I.kM,q⟩
 | brk=>obtain ⟨σ',H',I,q⟩:=h;exact ⟨σ',H',I.kM,q⟩
 | cont=>obtain ⟨σ',H',I,q⟩:=h;exact ⟨σ',H',I.kM,q⟩
 | ret u=>obtain ⟨v,σ',H',I,r,q⟩:=h;exact ⟨v,σ',H',I.kM,r,q⟩
theorem tK.Dj {st:List Stmt} {t:TS} (h:tK X.Dj st t):tK X st t:=λ pins s U H D I hw =>
 aiq (h pins s U H D (I.mI _) hw) (λ _ _ q=>q.kM) λ _ _ z=>False.elim z
end
section
variable {X:Cx} {st:Stmt} {rest:List Stmt} {t u:TS} {e:Expr} {te:TE} {pos:Pos}
def RV:TS:=λ D U H=>D.nx U H
def aP (t u:TS):TS:=λ D U H=>t { D with nx:=u D } U H
theorem aJ:tK X [] RV:=λ _ _ U H _ I h=>al4 ⟨U,H,I,h⟩
theorem ag (h1:PS X st t) (h2:tK X rest u):tK X (st::rest) (aP t u):=by
 intro pins s U H D I h
 refine wpAny_execs_cons (cD (h1 pins s U H { D with nx:=u D } I h) λ f s1 q=>?_)
 cases f with
 | next =>
   obtain ⟨σ',H',I',q⟩:=q
   exact h2 pins s1 σ' H' D I' q
 | ret v=>exact q
 | brk=>exact q
 | cont=>exact q
theorem am (h1:PS X st t):tK X [st] t:=by
 intro pins s U H D I h
 refine wpAny_execs_cons (cD (h1 pins s U H D I h) λ f s1 q=>?_)
 cases f with
 | next=>exact al4 q
 | ret v=>exact q
 | brk=>exact q
 | cont=>exact q
theorem Inv.quiet {s:Shared} (I:Inv X pins U H s):interactive X.env=false:=by simp [interactive,I.ok.kind]
def Td (te:TE):TS:=λ D U H=>te U H λ _ H1=>D.nx U H1
theorem aW (he:PE X e te) (hs:swapsWith e none pos.line X.env=pure false:=by rfl):PS X (.Expr e pos) (Td te):=by
 intro pins s U H D I h
 exact wpAny_Expr_any (cD (he pins s U H _ I h) λ v s1 ⟨x,H1,I1,r1,q1⟩=>⟨U,H1,I1,q1⟩) I.quiet hs
def ZL (te:TE):TS:=λ D U H=>te U H D.rt
theorem aF (he:PE X e te):PS X (.Return (some e) pos) (ZL te):=by
 intro pins s U H D I h
 exact wpAny_Return_some (cD (he pins s U H _ I h) λ v s1 ⟨x,H1,I1,r1,q1⟩=>⟨x,U,H1,I1,r1,q1⟩)
def Wk (c:TT) (t u:TS):TS:=λ D U H=>c U H λ b H1=>if b=true then t D U H1 else u D U H1
theorem bv {c:Expr} {a b:List Stmt} {tc:TT} (hc:PT X c tc) (ha:tK X a t) (hb:tK X b u):PS X (.If c a b pos) (Wk tc t u):=by
 intro pins s U H D I h
 refine wpAny_If (cD (hc pins s U H _ I h) λ d s1 ⟨H1,I1,q1⟩=>?_)
 cases d with
 | true=>exact ha pins s1 U H1 D I1 q1
 | false=>exact hb pins s1 U H1 D I1 q1
def Lo:TS:=λ _ _ _=>False
theorem bY:PS X st Lo:=λ _ _ _ _ _ _ h=>h.elim
end
abbrev TG:=V->St->Hp->(St->Hp->Prop)->Prop
abbrev KU:=List V->St->Hp->(St->Hp->Prop)->Prop
def PG (X:Cx) (target:Expr) (t:TG):Prop :=
 ∀ (pins:List (Addr×Obj)) (s:Shared) (U:St) (H:Hp) (v:V) (u:Value) (Q:St->Hp->Prop),Inv X pins U H s->RelV v u->t v U H Q ->
   wpAny (model X.prog X.w) X.A (assign target X.env u) (λ _ s'=>∃ σ' H',Inv X pins σ' H' s'/\Q σ' H') X.xe s
def MG (X:Cx) (ts:List Expr) (t:KU):Prop :=
 ∀ (pins:List (Addr×Obj)) (s:Shared) (U:St) (H:Hp) (vs:List V) (us:List Value) (Q:St->Hp->Prop),Inv X pins U H s->Vals vs us->t vs U H Q ->
   wpAny (model X.prog X.w) X.A (assignInOrder ((assignEach ts X.env).map (·.2)) us) (λ _ s'=>∃ σ' H',Inv X pins σ' H' s'/\Q σ' H') X.xe s
abbrev Fm:=V->V->V->Hp->(Hp->Prop)->Prop
def Mi (X:Cx) (t:Fm):Prop :=
 ∀ (pins:List (Addr×Obj)) (s:Shared) (U:St) (H:Hp) (o i v:V) (ov iv u:Value) (Q:Hp->Prop),Inv X pins U H s->RelV o ov->RelV i iv->RelV v u->t o i v H Q ->
   wpAny (model X.prog X.w) X.A (setItem ov iv u) (λ _ s'=>∃ H',Inv X pins U H' s'/\Q H') X.xe s
abbrev MB:=V->V->Hp->VK->Prop
def Ut (X:Cx) (op:Operator) (t:MB):Prop :=
 ∀ (pins:List (Addr×Obj)) (s:Shared) (U:St) (H:Hp) (x y:V) (v u:Value) (Q:VK),Inv X pins U H s->RelV x v->RelV y u->t x y H Q ->
   wpAny (model X.prog X.w) X.A (inplaceOp op v u) (EP X pins U Q) X.xe s
section
variable {X:Cx} {pos:Pos}
def Ao (i:Nat):TG:=λ v U H Q=>Q (U.set i (some v)) H
theorem aA {i:Nat} {x:Str} (hN:X.N.Nodup) (hi:X.N[i]?=some x) (hx:Loc X.env.scope x) (hf:X.fn x=true∨X.env.scope.names.lookup x=some .local:=by first|exact .inl rfl|exact .inr rfl|assumption):PG X (.Name x pos) (Ao i):=by
 intro pins s U H v u Q I r h
 exact wpAny_assign_Name (qW I hN hi hx r (λ s' I'=>⟨_,H,I',h⟩) hf)
def WQ:KU:=λ vs U H Q=>vs=[]/\Q U H
inductive Sl (t:TG) (u:KU) (vs:List V) (U:St) (H:Hp) (Q:(St->Hp->Prop)):Prop
 | mk (v r:_) (_:vs=v::r) (_:t v U H λ σ' H'=>u r σ' H' Q)
theorem cV:MG X [] WQ:=by
 intro pins s U H vs us Q I r h
 obtain ⟨e,h⟩:=h
 subst e
 cases r
 exact assignInOrder_nil ⟨U,H,I,h⟩
theorem aN {e:Expr} {t:TG} {u:KU} (h1:PG X e t) (h2:MG X es u) (hs:(assignEach (e::es) X.env).map (·.2)=assign e X.env::(assignEach es X.env).map (·.2):=by rfl):MG X (e::es) (Sl t u):=by
 intro pins s U H vs us Q I r h
 obtain ⟨v,vr,e1,h⟩:=h
 subst e1
 cases r with
 | cons r rr =>
   rw [hs]
   refine assignInOrder_cons (cD (h1 pins s U H _ _ _ I r h) λ _ s1 ⟨σ1,H1,I1,q1⟩=>?_)
   exact h2 pins s1 σ1 H1 _ _ Q I1 rr q1
inductive PH (K:W.Frag) (n:Nat) (t:KU) (v:V) (U:St) (H:Hp) (Q:(St->Hp->Prop)):Prop
 | mk (a xs:_) (_:v = .ref a) (_:bO K H a xs) (_:xs.length=n) (_:t xs U H Q)
theorem Md {k:Nat} {t:KU} {n:Nat} (hc:X.calm=true) (h:MG X es t) (hn:(assignEach es X.env).length=n:=by rfl) (i9:(assignEach es X.env).findIdx? (·.1)=none:=by rfl):PG X (.Tuple es k pos) (PH X.K n t):=by
 intro pins s U H v u Q I r hw
 obtain ⟨a,xs,e1,hq,hl,hw⟩:=hw
 subst e1
 cases r
 obtain ⟨bg,rv,ht,hz⟩:=I.tuple hq
 refine assign_Tuple_tuple (I.ok.hd hc) ht (by simp [hn,← hl,rv.length]) i9 λ h' hx=>?_
 have I1:Inv X pins U H { s with heap:=h' }:=I.kept (t':=s.toks) λ b o e=>hx b o (ad8 (abZ e)) e
 exact h pins _ U H xs _ Q I1 (by simpa using rv) hw
def ajT (to ti:TE) (t:Fm):TG:=λ v U H Q=>to U H λ o H1=>ti U H1 λ i H2=>t o i v H2 λ H3=>Q U H3
theorem oO {o i:Expr} {t:Fm} (ho:PE X o to) (hi:PE X i ti) (hs:Mi X t) (ha:∀ v,assign (.Subscript o i pos) X.env v=(do
     let ov ← holding [v] (eval o X.env)
     let iv ← holding [v,ov] (eval i X.env)
     standAt pos
     holding [v,ov,iv] (setItem ov iv v)
     release [v,ov,iv] []):=by intro _;rfl):PG X (.Subscript o i pos) (ajT to ti t):=by
 intro pins s U H v u Q I r h
 rw [ha]
 refine P5 (akI (cD (ho pins s U H _ I h) λ ov s1 ⟨x,H1,I1,r1,q1⟩=>?_))
 refine P5 (akI (cD (hi pins s1 U H1 _ I1 q1) λ iv s2 ⟨y,H2,I2,r2,q2⟩=>?_))
 refine P5 (wpAny_standAt (P5 (akI (cD (hs pins s2 U H2 x y v ov iv u _ I2 r1 r2 r q2) λ _ s3 ⟨H3,I3,q3⟩=>?_))))
 exact wpAny_release ⟨U,H3,I3,q3⟩
def HA (te:TE) (g:TG):TS:=λ D U H=>te U H λ x H1=>g x U H1 D.nx
theorem iy {e:Expr} (he:PE X e te) (hg:PG X tg g) (hs:swapsWithSole [tg] e pos.line X.env=pure false:=by rfl) (hw:swappedStores [tg] e X.env=pure none:=by rfl) (h1:(assignEach [tg] X.env).map (·.2)=[assign tg X.env]:=by rfl):PS X (.Assign [tg] e pos) (HA te g):=by
 intro pins s U H D I h
 refine wpAny_Assign_stores (cD (he pins s U H _ I h) λ v s1 ⟨x,H1,I1,r1,q1⟩=>?_) hs hw
 rw [h1]
 exact cD (hg pins s1 U H1 x v _ I1 r1 q1) λ _ s2 q=>q
theorem aD {i:Nat} {x:Str} {e:Expr} (hN:X.N.Nodup) (hi:X.N[i]?=some x) (hx:Loc X.env.scope x) (he:PE X e te) (hs:swapsWith e (some (.Name x pos')) pos.line X.env=pure false:=by rfl) (hf:X.fn x=true∨X.env.scope.names.lookup x=some .local:=by first|exact .inl rfl|exact .inr rfl|assumption) :
   PS X (.Assign [.Name x pos'] e pos) (HA te (Ao i)):=by
 intro pins s U H D I h
 refine wpAny_Assign_Name (cD (he pins s U H _ I h) λ v s1 ⟨y,H1,I1,r1,q1⟩=>?_) hs
 exact qW I1 hN hi hx r1 (λ s2 I2=>⟨_,H1,I2,q1⟩) hf
def agy (i:Nat) (te:TE) (ti:MB):TS:=λ D U H=>∃ x,U[i]?=some (some x)/\te U H λ y H1=>ti x y H1 λ z H2=>D.nx (U.set i (some z)) H2
theorem LY {i:Nat} {x:Str} {e:Expr} {op:Operator} {ti:MB} (hN:X.N.Nodup) (hi:X.N[i]?=some x) (hx:Loc X.env.scope x) (he:PE X e te) (ho:Ut X op ti) (hf:X.fn x=true∨X.env.scope.names.lookup x=some .local:=by first|exact .inl rfl|exact .inr rfl|assumption) :
   PS X (.AugAssign (.Name x pos') op e pos) (agy i te ti):=by
 intro pins s U H D I h
 obtain ⟨v,e1,h⟩:=h
 obtain ⟨m,hn,hl⟩:=I.loc
 have vis:QC X.env.scope x:=by rcases hx with k|k;exact .inl k;exact .inr (.inl k)
 obtain ⟨u,r,l⟩:=hl i x v hi e1 vis
 refine wpAny_AugAssign_Name ?_
 have go:wpAny (model X.prog X.w) X.A (eval e X.env) (λ w s₂=>wpAny (model X.prog X.w) X.A (inplaceOp op u w) (λ r s₃=>wpAny (model X.prog X.w) X.A (storeName X.env x r) (λ _=>SP X pins D .next) X.xe s₃) X.xe s₂) X.xe s:=by
   refine cD (he pins s U H _ I h) λ w s1 ⟨y,H1,I1,r1,q1⟩=>?_
   refine cD (ho pins s1 U H1 v y u w _ I1 r r1 q1) λ z s2 ⟨zv,H2,I2,r2,q2⟩=>?_
   exact qW I2 hN hi hx r2 (λ s3 I3=>⟨_,H2,I3,q2⟩) hf
 rcases l with ⟨hk,hm⟩|⟨hk,c,hc,gk⟩
 . exact wpAny_loadName_local I.ok.kind hk hn hm go
 .
  rcases hk with hk|hk
  . exact wpAny_loadName_cell I.ok.kind hk hc gk go
  .
   rcases hx with k|k
   . have:X.env.scope.names.lookup x=some .free:=hk
     rw [k] at this;cases this
   . have:X.env.scope.names.lookup x=some .free:=hk
     rw [k] at this;cases this
def MU (to ti te:TE) (Gz:V->V->Hp->VK->Prop) (Ur:MB) (Jk:Fm):TS:=λ D U H=>to U H λ o H1=>ti U H1 λ i H2=>Gz o i H2 λ x H3=>te U H3 λ y H4=>Ur x y H4 λ z H5=>Jk o i z H5 λ H6=>D.nx U H6
def N8 (X:Cx) (t:V->V->Hp->VK->Prop):Prop :=
 ∀ (pins:List (Addr×Obj)) (s:Shared) (U:St) (H:Hp) (o i:V) (ov iv:Value) (Q:VK),Inv X pins U H s->RelV o ov->RelV i iv->t o i H Q ->
   wpAny (model X.prog X.w) X.A (getItem ov iv) (EP X pins U Q) X.xe s
theorem GN {o i e:Expr} {Gz:V->V->Hp->VK->Prop} {Ur:MB} {Jk:Fm} {op:Operator} {nE:Pos} (ho:PE X o to) (hi:PE X i ti) (hg:N8 X Gz) (he:PE X e te) (hp:Ut X op Ur) (hs:Mi X Jk) (ha:∀ ov iv new,augStore i ov iv new=(do holding [new,ov,iv] (setItem ov iv new);release [new,ov,iv] [];pure .next):=by intros;rfl):PS X (.AugAssign (.Subscript o i nE) op e pos) (MU to ti te Gz Ur Jk):=by
 intro pins s U H D I h
 refine wpAny_AugAssign_SubscriptAny (cD (ho pins s U H _ I h) λ ov s1 ⟨x1,H1,I1,r1,q1⟩=>?_) ha
 refine cD (hi pins s1 U H1 _ I1 q1) λ iv s2 ⟨x2,H2,I2,r2,q2⟩=>?_
 refine cD (hg pins s2 U H2 x1 x2 ov iv _ I2 r1 r2 q2) λ old s3 ⟨x3,H3,I3,r3,q3⟩=>?_
 refine cD (he pins s3 U H3 _ I3 q3) λ v s4 ⟨x4,H4,I4,r4,q4⟩=>?_
 refine cD (hp pins s4 U H4 x3 x4 old v _ I4 r3 r4 q4) λ new s5 ⟨x5,H5,I5,r5,q5⟩=>?_
 exact cD (hs pins s5 U H5 x1 x2 x5 ov iv new _ I5 r1 r2 r5 q5) λ _ s6 ⟨H6,I6,q6⟩=>⟨U,H6,I6,q6⟩
def ipI (f:Int->Int->Int):MB:=λ x y H Q=>∃ i j,x = .int i/\y = .int j/\Q (.int (f i j)) H
theorem LN:Ut X .Add (ipI λ i j=>i+j):=by
 intro pins s U H x y v u Q I r1 r2 h
 obtain ⟨i,j,e1,e2,q⟩:=h
 subst e1;subst e2
 obtain ⟨t,rfl⟩:=r1
 obtain ⟨t',rfl⟩:=r2
 exact iadd_int ⟨.int _,H,I.tok _,⟨_,rfl⟩,q⟩
theorem K6:Ut X .Sub (ipI λ i j=>i - j):=by
 intro pins s U H x y v u Q I r1 r2 h
 obtain ⟨i,j,e1,e2,q⟩:=h
 subst e1;subst e2
 obtain ⟨t,rfl⟩:=r1
 obtain ⟨t',rfl⟩:=r2
 exact isub_int ⟨.int _,H,I.tok _,⟨_,rfl⟩,q⟩
end
section
variable {X:Cx} {pos:Pos}
def K1 (c:TT) (tb:TS):TS:=λ D U H=>∃ W:Nat->St->Hp->Prop,(∃ m,W m U H)/\∀ m U H,W m U H ->
 c U H λ b H1=>if b=true then ∃ N:St->Hp->Prop,(∀ σ' H',N σ' H'->∃ m',m'<m/\W m' σ' H')/\tb { D with nx:=N,ct:=N,bk:=D.nx } U H1 else D.nx U H1
theorem nA {c:Expr} {body:List Stmt} {tc:TT} (hp:PassesOwn (model X.prog X.w) X.A X.env X.xe) (hc:PT X c tc) (hb:tK X body tb):PS X (.While c body [] pos) (K1 tc tb):=by
 intro pins s U H D I h
 obtain ⟨W,⟨m0,w0⟩,turn⟩:=h
 refine wpAny_While (codeAny_whileLoop (λ n s'=>∃ σ' H',Inv X pins σ' H' s'/\W n σ' H') ?_ m0 ⟨U,H,I,w0⟩)
 rintro n s1 ⟨σ1,H1,I1,w1⟩
 refine akZ hp (cD (hc pins s1 σ1 H1 _ I1 (turn n σ1 H1 w1)) λ b s2 ⟨H2,I2,q2⟩=>?_)
 cases b with
 | true =>
   obtain ⟨N,hN,q2⟩:=q2
   rw [ady rfl]
   refine akZ hp (cD (hb pins s2 σ1 H2 _ I2 q2) λ f s3 q3=>?_)
   cases f with
   | next =>
     obtain ⟨σ3,H3,I3,n3⟩:=q3
     obtain ⟨m',hm,w3⟩:=hN σ3 H3 n3
     exact ⟨m',hm,σ3,H3,I3,w3⟩
   | cont =>
     obtain ⟨σ3,H3,I3,n3⟩:=q3
     obtain ⟨m',hm,w3⟩:=hN σ3 H3 n3
     exact ⟨m',hm,σ3,H3,I3,w3⟩
   | brk=>exact q3
   | ret v=>exact q3
 | false =>
   rw [ac9 ac8]
   exact al4 ⟨σ1,H2,I2,q2⟩
end
structure It where
 go:Nat->Hp->Prop
 Ge:Nat->Hp->V->Hp->Prop
 stop:Nat->Hp->Prop
def sU (X:Cx) (pins:List (Addr×Obj)) (H:Hp) (b:Addr):Prop :=
 H b=none/\b≠X.env.locals/\b∉X.fs/\(b∈X.ex∨X.s₀.heap.objs.size<=b)/\(∀ x c,X.env.cells.lookup x=some c->c≠b)/\∀ p∈X.pn++pins,p.1≠b
theorem Inv.yh {X:Cx} {H':Hp} {s:Shared} {b:Addr} (I:Inv X pins U H s) (hb:s.heap.objs.size<=b) (hn:H' b=none):sU X pins H' b:=by
 refine ⟨hn,ak4 (acK I.lt hb),I.afe hb,.inr (acS I.sz hb),λ x c e z=>?_,λ p hp z=>?_⟩
 . obtain ⟨v,q⟩:=I.cell x c e
   exact absurd (acK q.lt (by rw [z];exact hb)) (ah4 _)
 . exact absurd (acK (abZ (I.pin p hp).1) (by rw [z];exact hb)) (ah4 _)
structure Turn (P:Program) (w:World) (K:W.Frag) (tg:Expr) (J:It) (fp:List Addr) (it:Addr) (tn:Nat->Heap->Prop):Prop where
 mem:it∈fp
 obj:∀ i h,tn i h->∀ b∈fp,∃ o,h.get? b=some o/\∀ v,o.data ≠ .cell v
 keep:∀ i h h',tn i h->(∀ b∈fp,∀ o,h.get? b=some o->h'.get? b=some o)->tn i h'
 item:∀ (X:Cx),X.prog=P->X.w=w->X.K=K->X.calm=true->∀ (i:Nat) (pins:List (Addr×Obj)) (s:Shared) (U:St) (H:Hp) (E:Value->Shared->Prop),Inv X pins U H s->(∀ b∈fp,sU X pins H b)->tn i s.heap->J.go i H ->
   wpAny (model P w) X.A (pyNext (.ref it)) (λ r s1=>∃ u,r=some u /\
     wpAny (model P w) X.A (letOwnedTupleGo tg (.ref it) u) (λ _ s2=>∃ x H',Inv X pins U H' s2/\RelV x u/\J.Ge i H x H'/\tn (i+1) s2.heap/\∀ b∈fp,H' b=none) E s1) E s
 done:∀ (X:Cx),X.prog=P->X.w=w->X.K=K->X.calm=true->∀ (i:Nat) (pins:List (Addr×Obj)) (s:Shared) (U:St) (H:Hp) (E:Value->Shared->Prop),Inv X pins U H s->(∀ b∈fp,sU X pins H b)->tn i s.heap->J.stop i H ->
   wpAny (model P w) X.A (pyNext (.ref it)) (λ r s1=>r=none/\Inv X pins U H s1) E s
 self:∀ (A:Around) (i:Nat) (s:Shared) (Q:Value->Shared->Prop) (E:Value->Shared->Prop),tn i s.heap->Q (.ref it) s->wpAny (model P w) A (pyIter (.ref it)) Q E s
abbrev TI:=St->Hp->(It->Hp->Prop)->Prop
def PIE (X:Cx) (pins:List (Addr×Obj)) (U:St) (tg:Expr) (R:It->Hp->Prop) (itv:Value) (s2:Shared):Prop :=
 ∃ (it:Addr) (fp:List Addr) (tn:Nat->Heap->Prop) (J:It) (H':Hp),itv = .ref it/\Inv X pins U H' s2/\Turn X.prog X.w X.K tg J fp it tn/\tn 0 s2.heap/\(∀ b∈fp,sU X pins H' b)/\R J H'
def PI (X:Cx) (tg iter:Expr) (wi:TI):Prop :=
 ∀ (pins:List (Addr×Obj)) (s:Shared) (U:St) (H:Hp) (R:It->Hp->Prop),Inv X pins U H s->wi U H R ->
   wpAny (model X.prog X.w) X.A (eval iter X.env) (λ v s1=>wpAny (model X.prog X.w) X.A (pyIter v) (PIE X pins U tg R) X.xe s1) X.xe s
theorem Ke {M:Model} {A:Around} {E:Value->Shared->Prop} {s:Shared} {o:Obj} {n:String} {vs:Array Value} {Q:Unit->Shared->Prop} (ho:s.heap.get? it=some o) (hc:o.cls = .type n) (hd:o.data = .fields vs) (hn:["enumerate","zip","dict_itemiterator","dict_reverseitemiterator","odict_iterator","itertools.zip_longest","itertools.pairwise"].contains n=false) (hQ:Q () s):wpAny M A (letOwnedTupleGo tg (.ref it) u) Q E s:=by
 unfold letOwnedTupleGo
 cases tg<;>first
   | exact abN hQ
   | (cases u<;>first
       | exact abN hQ
       | (refine P5 (wpAny_load ho ?_)
          rw [hc,hd]
          show wpAny M A (if (["enumerate","zip","dict_itemiterator","dict_reverseitemiterator","odict_iterator","itertools.zip_longest","itertools.pairwise"].contains n && vs[0]? == some (rawInt _))=true then _ else _) Q E s
          rw [ac9 (by intro h;rw [hn,amz] at h;cases h)]
          exact abN hQ))
def JP (K:W.Frag) (a:Addr):It :=
 ⟨λ i H=>∃ xs x,aR K H a xs/\xs[i]?=some x,λ i H x H'=>H'=H/\∀ xs,aR K H a xs->xs[i]?=some x,λ i H=>∃ xs,aR K H a xs/\xs.length<=i⟩
def GI (lo:Int) (n:Nat):It:=⟨λ i _=>i<n,λ i H x H'=>H'=H/\x = .int (lo+i),λ i _=>n<=i⟩
theorem C3 {P:Program} {w:World} {K:W.Frag} (a it:Addr):Turn P w K tg (JP K a) [it] it (λ i h=>h.IsListIter it a i) where
 mem:=by simp
 obj:=λ i h st b hb=>by
   have e:b=it:=by simpa using hb
   subst e
   obtain ⟨o,e,c,d⟩:=st
   exact ⟨o,e,λ v z=>by rw [d] at z;cases z⟩
 keep:=λ i h h' st k=>st.at λ o e=>k it (by simp) o e
 item:=by
   intro X hP hw hK hc i pins s U H E I hf st hg
   subst hP hw hK
   obtain ⟨xs,x,hq,hx⟩:=hg
   obtain ⟨bg,rv,p,hz⟩:=I.list hq
   obtain ⟨u,hu,ru⟩:=rv.get hx
   obtain ⟨f0,f1,f2,f3,f4,f5⟩:=hf it (by simp)
   refine wpAny_pyNext_list_item st p.isList (x:=u) (by simpa using hu) λ h' Hr sb=>?_
   have I1:Inv X pins U H { s with heap:=h' }:=I.turned (t':=s.toks) (λ b o hb e=>(sb.2 b hb).trans e) f0 f1 f3 f4 f5
   obtain ⟨o,e,c,d⟩:=id Hr
   exact ⟨u,rfl,Ke (s:={ s with heap:=h' }) e c d (by decide) ⟨x,H,I1,ru,⟨rfl,λ ys hy=>by rw [I.nS hy hq];exact hx⟩,Hr,λ b hb=>(hf b hb).1⟩⟩
 done:=by
   intro X hP hw hK hc i pins s U H E I hf st hg
   subst hP hw hK
   obtain ⟨xs,hq,hx⟩:=hg
   obtain ⟨bg,rv,p,hz⟩:=I.list hq
   obtain ⟨f0,f1,f2,f3,f4,f5⟩:=hf it (by simp)
   have hl:=rv.length
   exact wpAny_pyNext_list_end (I.ok.hd hc) st p.isList (by simp;lia) λ h' eb=>⟨rfl,I.turned (t':=s.toks) (λ b o hb e=>eb b o hb e) f0 f1 f3 f4 f5⟩
 self:=λ _ _ _ _ _ st h=>wpAny_pyIter_listiter st h
theorem yM {P:Program} {w:World} {K:W.Frag} (it:Addr) (lo:Int) (n:Nat):Turn P w K tg (GI lo n) [it] it (λ i h=>IsRangeIter h it (lo+(i:Nat) * 1) ((n:Int) - (i:Nat)) 1) where
 mem:=by simp
 obj:=λ i h st b hb=>by
   have e:b=it:=by simpa using hb
   subst e
   exact ⟨_,st,λ v z=>by
     have z':Data.fields _=Data.cell v:=z
     cases z'⟩
 keep:=λ i h h' st k=>k it (by simp) _ st
 item:=by
   intro X hP hw hK hc i pins s U H E I hf st hg
   subst hP hw hK
   obtain ⟨f0,f1,f2,f3,f4,f5⟩:=hf it (by simp)
   have W:=Walks.range (prog:=X.prog) (w:=X.w) (I.ok.hd hc) it lo 1 n
   refine W.item i s _ _ hg st λ v h' tk hv Hr kk=>?_
   obtain ⟨t,rfl⟩:=hv
   have I1:Inv X pins U H { s with heap:=h',toks:=tk }:=I.turned (λ b o hb e=>kk b o (by simpa using hb) e) f0 f1 f3 f4 f5
   refine ⟨_,rfl,Ke (s:={ s with heap:=h',toks:=tk }) (n:="range_iterator") Hr rfl rfl (by decide) ⟨.int (lo+i),H,I1,⟨t,?_⟩,⟨rfl,rfl⟩,Hr,λ b hb=>(hf b hb).1⟩⟩
   rw [Int.mul_one]
 done:=by
   intro X hP hw hK hc i pins s U H E I hf st hg
   subst hP hw hK
   obtain ⟨f0,f1,f2,f3,f4,f5⟩:=hf it (by simp)
   exact wpAny_pyNext_range_end (I.ok.hd hc) st (by have:n<=i:=hg;lia) λ h' eb=>⟨rfl,I.turned (t':=s.toks) (λ b o hb e=>eb b o hb e) f0 f1 f3 f4 f5⟩
 self:=λ _ _ _ _ _ st h=>wpAny_pyIter_rangeiter st h
section
variable {X:Cx} {tg:Expr}
inductive adF (K:W.Frag) (R:It->Hp->Prop) (x:V) (H1:Hp):Prop
 | mk (a:Addr) (h1:x = .ref a) (h2:∃ xs,aR K H1 a xs) (q:R (JP K a) H1)
def JA (K:W.Frag) (tl:TE):TI:=λ U H R=>tl U H (adF K R)
theorem bK {l:Expr} {tl:TE} (hl:PE X l tl):PI X tg l (JA X.K tl):=by
 intro pins s U H R I h
 refine cD (hl pins s U H _ I h) λ v s1 ⟨x,H1,I1,r1,q1⟩=>?_
 obtain ⟨a,e,⟨xs,hq⟩,q⟩:=q1
 subst e
 cases r1
 obtain ⟨bg,rv,p,hz⟩:=I1.list hq
 refine wpAny_pyIter_list p.isList ?_
 refine ⟨s1.heap.objs.size,[s1.heap.objs.size],_,_,H1,rfl,I1.kept (t':=s1.toks) λ b o e=>abA _ e,C3 a _,⟨_,aep _ rfl,rfl,rfl⟩,λ b hb=>?_,q⟩
 have e:b=s1.heap.objs.size:=by simpa using hb
 subst e
 exact I1.yh (aaU _) (I1.cQ.fresh (aaU _))
theorem FP {s:Shared} {R:It->Hp->Prop} {E:Value->Shared->Prop} {lo hi:Int} {t u v:Tok} {tk:Nat} (I:Inv X pins U H s) (h1 : -(2 ^ 62)<=lo) (h2:lo<2 ^ 62) (h3 : -(2 ^ 62)<=hi) (h4:hi<2 ^ 62) (q:R (GI lo (hi - lo).toNat) H):wpAny (model X.prog X.w) X.A (pyIter (.ref s.heap.objs.size)) (PIE X pins U tg R) E { s with heap:=s.heap.push { cls:=.type "range",data:=.fields #[.int lo t,.int hi u,.int 1 v]},toks:=tk }:=by
 refine wpAny_pyIter_range (IsRange.new ..) (small_one h1 h2 h3 h4) ?_
 have I1:Inv X pins U H { s with heap:=s.heap.push { cls:=.type "range",data:=.fields #[.int lo t,.int hi u,.int 1 v]},toks:=tk }:=I.kept λ b o e=>abA _ e
 refine ⟨(s.heap.push { cls:=.type "range",data:=.fields #[.int lo t,.int hi u,.int 1 v]}).objs.size,[(s.heap.push { cls:=.type "range",data:=.fields #[.int lo t,.int hi u,.int 1 v]}).objs.size],_,_,H,rfl,
   I1.kept (t':=tk) λ b o e=>abA _ e,yM _ lo (hi - lo).toNat,?_,λ b hb=>?_,q⟩
 .
  have e1:lo+((0:Nat):Int) * 1=lo:=by simp
  have e2:(((hi - lo).toNat:Nat):Int) - ((0:Nat):Int)=Builtin.Range.rangeSize lo hi 1:=by rw [rangeSize_one];split<;>lia
  show IsRangeIter _ _ (lo+((0:Nat):Int) * 1) ((((hi - lo).toNat:Nat):Int) - ((0:Nat):Int)) 1
  rw [e1,e2]
  exact aep _ rfl
 . have e:b=(s.heap.push { cls:=.type "range",data:=.fields #[.int lo t,.int hi u,.int 1 v]}).objs.size:=by simpa using hb
   subst e
   exact I1.yh (aaU _) (I1.cQ.fresh (aaU _))
inductive adQ (R:It->Hp->Prop) (vs:List V) (H1:Hp):Prop
 | mk (j:Int) (h1:vs=[.int j]) (h2 : -(2 ^ 62)<=j) (h3:j<2 ^ 62) (q:R (GI 0 j.toNat) H1)
def O4 (ta:TA):TI:=λ U H R=>ta U H (adQ R)
theorem cH {a:Expr} {ta:TA} {p pos:Pos} (hg:Gl X "range") (hm:X.mg "range" = none) (ha:PA X [a] ta) (hs:starEach [a] X.env=[(false,eval a X.env)]:=by rfl):PI X tg (.Call (.Name "range" p) [a] [] pos) (O4 ta):=by
 intro pins s U H R I h
 refine Call_ (i3 I hg hm boot_range (agB (cD (ha pos pins s U H _ I h) λ us s1 ⟨vs,H1,I1,r1,q1⟩=>?_) hs rfl))
 obtain ⟨j,e,q1,q2,q⟩:=q1
 subst e
 cases r1 with
 | cons r rr =>
   cases rr
   obtain ⟨t,rfl⟩:=r
   exact call_range_1 (FP I1 (by lia) (by lia) q1 q2 (by simpa using q))
def akw (wi:TI) (g:TG) (tb:TS):TS:=λ D U H=>wi U H λ J H1=>∃ W:Nat->Nat->St->Hp->Prop,(∃ m,W 0 m U H1)/\∀ i m U H,W i m U H ->
 (J.stop i H/\D.nx U H)∨(J.go i H/\∃ N:St->Hp->Prop,(∀ σ' H',N σ' H'->∃ m',m'<m/\W (i+1) m' σ' H')/\∀ x H',J.Ge i H x H'->g x U H' λ σ2 H2=>tb { D with nx:=N,ct:=N,bk:=D.nx } σ2 H2)
def qN (fp:List Addr) (h:Heap):List (Addr×Obj):=fp.filterMap λ b=>(h.get? b).map λ o=>(b,o)
theorem jF {h:Heap} {b:Addr} {o:Obj} (hb:b∈fp) (e:h.get? b=some o):(b,o)∈qN fp h:=List.mem_filterMap.mpr ⟨b,hb,by rw [e];rfl⟩
theorem BJ {h:Heap} {p:Addr×Obj} (hp:p∈qN fp h):p.1∈fp/\h.get? p.1=some p.2:=by
 obtain ⟨b,hb,e⟩:=List.mem_filterMap.mp hp
 cases q:h.get? b with
 | none=>rw [q] at e;cases e
 | some o =>
   rw [q] at e
   have e':(b,o)=p:=abG e
   subst e'
   exact ⟨hb,q⟩
theorem Inv.pinned {s:Shared} (I:Inv X pins U H s) (hf:∀ b∈fp,sU X pins H b) (ho:∀ b∈fp,∃ o,s.heap.get? b=some o/\∀ v,o.data ≠ .cell v):Inv X (pins++qN fp s.heap) U H s :=
 I.Am λ p hp=>(List.mem_append.mp hp).elim (λ z=>I.pin p (af2 _ z)) λ z=>by
   obtain ⟨hb,e⟩:=BJ z
   obtain ⟨f0,f1,f2,_⟩:=hf p.1 hb
   obtain ⟨o,e',d⟩:=ho p.1 hb
   rw [e] at e';cases e'
   exact ⟨e,f0,f1,f2,d⟩
theorem Inv.mW {pl:List (Addr×Obj)} {s:Shared} (I:Inv X (pins++pl) U H s):Inv X pins U H s:=I.Am λ p hp=>I.pin p (af2 _ (ahM _ hp))
theorem cL {iter:Expr} {body:List Stmt} {wi:TI} {pos:Pos} (hp:PassesOwn (model X.prog X.w) X.A X.env X.xe) (hc:X.calm=true) (hi:PI X tg iter wi) (hg:PG X tg g) (hb:tK X body tb) (hs:∀ x,foldedSetIterable iter X.env x=pure x:=by intro _;rfl):PS X (.For tg iter body [] pos) (akw wi g tb):=by
 intro pins s U H D I h
 refine wpAny_For (cD (hi pins s U H _ I h) λ v s1 h1=>cD h1 λ itv s2 h2=>?_) hs
 obtain ⟨it,fp,tn,J,H2,e,I2,T,UW,f2,W,⟨m0,w0⟩,turn⟩:=h2
 subst e
 have Mc:∀ {H':Hp},(∀ b∈fp,H' b=none)->∀ b∈fp,sU X pins H' b:=λ hn b hb=>⟨hn b hb,(f2 b hb).2⟩
 refine codeAny_forLoop_any (λ n s'=>∃ i σ' H',Inv X pins σ' H' s'/\tn i s'.heap/\(∀ b∈fp,H' b=none)/\W i n σ' H') ?_ m0 ⟨0,U,H2,I2,UW,λ b hb=>(f2 b hb).1,w0⟩
 rintro n s3 ⟨i,σ3,H3,I3,st3,fr3,w3⟩
 rcases turn i n σ3 H3 w3 with ⟨stop,qn⟩|⟨go,N,hN,step⟩
 . refine akZ hp (cD (T.done X rfl rfl rfl hc i pins s3 σ3 H3 X.xe I3 (Mc fr3) st3 stop) λ r s4 ⟨hr,I4⟩=>?_)
   subst hr
   exact al4 ⟨σ3,H3,I4,qn⟩
 .
  refine akZ hp (cD (T.item X rfl rfl rfl hc i pins s3 σ3 H3 X.xe I3 (Mc fr3) st3 go) λ r s4 ⟨u,hr,h4⟩=>?_)
  subst hr
  refine akZ hp (cD h4 λ _ s5 ⟨x,H5,I5,r5,y5,MQ,U0⟩=>?_)
  have I5':=I5.pinned (Mc U0) (T.obj _ _ MQ)
  refine akZ hp (cD (hg _ s5 σ3 H5 x u _ I5' r5 (step x H5 y5)) λ _ s6 ⟨σ6,H6,I6,q6⟩=>?_)
  refine akZ hp (cD (hb _ s6 σ6 H6 _ I6 q6) λ f s7 q7=>?_)
  have again:∀ {σ7:St} {H7:Hp},Inv X (pins++qN fp s5.heap) σ7 H7 s7->N σ7 H7->∃ m,m<n/\∃ i σ' H',Inv X pins σ' H' s7/\tn i s7.heap/\(∀ b∈fp,H' b=none)/\W i m σ' H':=λ {σ7 H7} I7 n7=>by
    obtain ⟨m',hm,w7⟩:=hN σ7 H7 n7
    refine ⟨m',hm,i+1,σ7,H7,I7.mW,T.keep _ _ _ MQ λ b hb o e=>(I7.pin (b,o) (af2 _ (af2 _ (jF hb e)))).1,λ b hb=>?_,w7⟩
    obtain ⟨o,e,d⟩:=T.obj _ _ MQ b hb
    exact (I7.pin (b,o) (af2 _ (af2 _ (jF hb e)))).2.1
  cases f with
  | next=>obtain ⟨σ7,H7,I7,n7⟩:=q7;exact again I7 n7
  | cont=>obtain ⟨σ7,H7,I7,n7⟩:=q7;exact again I7 n7
  | brk=>obtain ⟨σ7,H7,I7,q7⟩:=q7;exact ⟨σ7,H7,I7.mW,q7⟩
  | ret v=>obtain ⟨x7,σ7,H7,I7,r7,q7⟩:=q7;exact ⟨x7,σ7,H7,I7.mW,r7,q7⟩
end
theorem je {K:W.Frag} {a:Addr} {D:Ends} (Pv:Nat->St->Hp->Prop) (h0:Pv 0 U H) (hl:∀ i U H,i<=xs.length->Pv i U H->aR K H a xs) (hs:∀ i x U H,xs[i]?=some x->Pv i U H->g x U H λ σ2 H2=>tb { D with nx:=Pv (i+1),ct:=Pv (i+1),bk:=D.nx } σ2 H2) (hd:∀ U H,Pv xs.length U H->D.nx U H) :
   ∃ W:Nat->Nat->St->Hp->Prop,(∃ m,W 0 m U H)/\∀ i m U H,W i m U H ->
     ((JP K a).stop i H/\D.nx U H)∨((JP K a).go i H/\∃ N:St->Hp->Prop,(∀ σ' H',N σ' H'->∃ m',m'<m/\W (i+1) m' σ' H')/\∀ x H',(JP K a).Ge i H x H'->g x U H' λ σ2 H2=>tb { D with nx:=N,ct:=N,bk:=D.nx } σ2 H2):=by
 refine ⟨λ i m U H=>m=xs.length - i/\i<=xs.length/\Pv i U H,⟨xs.length,by simp,aeU _,h0⟩,?_⟩
 rintro i m U H ⟨rfl,hi,p⟩
 have q:=hl i U H hi p
 by_cases l5:i<xs.length
 .
  refine .inr ⟨⟨xs,xs[i],q,by simp [l5]⟩,Pv (i+1),λ σ' H' p'=>⟨xs.length - (i+1),by lia,rfl,l5,p'⟩,λ x H' y=>?_⟩
  obtain ⟨e,y⟩:=y
  subst e
  exact hs i x U _ (y xs q) p
 . have e:i=xs.length:=by lia
   subst e
   exact .inl ⟨⟨xs,q,aaU _⟩,hd U H p⟩
theorem BH {lo:Int} {n:Nat} {D:Ends} (Pv:Nat->St->Hp->Prop) (h0:Pv 0 U H) (hs:∀ i U H,i<n->Pv i U H->g (.int (lo+i)) U H λ σ2 H2=>tb { D with nx:=Pv (i+1),ct:=Pv (i+1),bk:=D.nx } σ2 H2) (hd:∀ U H,Pv n U H->D.nx U H) :
   ∃ W:Nat->Nat->St->Hp->Prop,(∃ m,W 0 m U H)/\∀ i m U H,W i m U H ->
     ((GI lo n).stop i H/\D.nx U H)∨((GI lo n).go i H/\∃ N:St->Hp->Prop,(∀ σ' H',N σ' H'->∃ m',m'<m/\W (i+1) m' σ' H')/\∀ x H',(GI lo n).Ge i H x H'->g x U H' λ σ2 H2=>tb { D with nx:=N,ct:=N,bk:=D.nx } σ2 H2):=by
 refine ⟨λ i m U H=>m=n - i/\i<=n/\Pv i U H,⟨n,by simp,aeU _,h0⟩,?_⟩
 rintro i m U H ⟨rfl,hi,p⟩
 by_cases l5:i<n
 .
  refine .inr ⟨l5,Pv (i+1),λ σ' H' p'=>⟨n - (i+1),by lia,rfl,l5,p'⟩,λ x H' y=>?_⟩
  obtain ⟨e,y⟩:=y
  subst e y
  exact hs i U _ l5 p
 . have e:i=n:=by lia
   subst e
   exact .inl ⟨aaU _,hd U H p⟩
abbrev R2:=V->V->Hp->VK->Prop
def iO (X:Cx) (f:Value->Value->Sem Value) (r:R2):Prop :=
 ∀ (pins:List (Addr×Obj)) (s:Shared) (U:St) (H:Hp) (x y:V) (v u:Value) (Q:VK),Inv X pins U H s->RelV x v->RelV y u->r x y H Q ->
   wpAny (model X.prog X.w) X.A (f v u) (EP X pins U Q) X.xe s
def T1 (X:Cx) (f:Value->Sem Value) (r:V->Hp->VK->Prop):Prop :=
 ∀ (pins:List (Addr×Obj)) (s:Shared) (U:St) (H:Hp) (x:V) (v:Value) (Q:VK),Inv X pins U H s->RelV x v->r x H Q ->
   wpAny (model X.prog X.w) X.A (f v) (EP X pins U Q) X.xe s
def hG (X:Cx) (f:Value) (r:List V->Hp->VK->Prop):Prop :=
 ∀ (pins:List (Addr×Obj)) (s:Shared) (U:St) (H:Hp) (xs:List V) (us:List Value) (Q:VK),Inv X pins U H s->Vals xs us->r xs H Q ->
   wpAny (model X.prog X.w) X.A (call f us) (EP X pins U Q) X.xe s
def M1 (r:R2) (ta tb:TE):TE:=λ U H Q=>ta U H λ x H1=>tb U H1 λ y H2=>r x y H2 Q
def tUn (r:V->Hp->VK->Prop) (ta:TE):TE:=λ U H Q=>ta U H λ x H1=>r x H1 Q
inductive rI (C:Int->Int->Prop) (g:Int->Int->V) (x:V) (y:V) (H:Hp) (Q:VK):Prop
 | mk (i j:_) (_:x = .int i) (_:y = .int j) (_:C i j) (_:Q (g i j) H)
inductive F6 (g:Int->Int->V) (x:V) (y:V) (H:Hp) (Q:VK):Prop
 | mk (i j:_) (_:x = .int i) (_:y = .int j) (_:Q (g i j) H)
inductive rU (g:Int->V) (x:V) (H:Hp) (Q:VK):Prop
 | mk (i:_) (_:x = .int i) (_:Q (g i) H)
section
variable {X:Cx} {a b c:Expr} {ta tb tc:TE} {pos:Pos}
theorem Li (ha:PE X a ta) (hb:PE X b tb) {s:Shared} {R:V->V->Hp->Prop} (I:Inv X pins U H s) (h:ta U H λ x H1=>tb U H1 λ y H2=>R x y H2) {Q:Value->Shared->Prop} {f:Value->Value->Sem Value} (hf:∀ v u s2 x y H2,Inv X pins U H2 s2->RelV x v->RelV y u->R x y H2->wpAny (model X.prog X.w) X.A (f v u) Q X.xe s2) :
   wpAny (model X.prog X.w) X.A (eval a X.env) (λ v s₁=>wpAny (model X.prog X.w) X.A (eval b X.env) (λ u s₂=>wpAny (model X.prog X.w) X.A (f v u) Q X.xe s₂) X.xe s₁) X.xe s:=by
 refine cD (ha pins s U H _ I h) λ v s1 ⟨x,H1,I1,r1,q1⟩=>?_
 refine cD (hb pins s1 U H1 _ I1 q1) λ u s2 ⟨y,H2,I2,r2,q2⟩=>?_
 exact hf v u s2 x y H2 I2 r1 r2 q2
theorem av {op:Operator} {r:R2} (ho:iO X (binaryOp op) r) (ha:PE X a ta) (hb:PE X b tb):PE X (.BinOp a op b pos) (M1 r ta tb):=by
 intro pins s U H Q I h
 exact wpAny_BinOp (Li ha hb I h λ v u s2 x y H2 I2 rx ry q=>ho pins s2 U H2 x y v u Q I2 rx ry q)
theorem qQ {op:UnaryOp} {r:V->Hp->VK->Prop} (ho:T1 X (unaryOp op) r) (ha:PE X a ta):PE X (.UnaryOp op a pos) (tUn r ta):=by
 intro pins s U H Q I h
 exact UnaryOp_ (cD (ha pins s U H _ I h) λ v s1 ⟨x,H1,I1,r1,q1⟩=>ho pins s1 U H1 x v Q I1 r1 q1)
theorem Mt {f:Value->Value->Sem Value} {C:Int->Int->Prop} {g:Int->Int->Int} (rule:∀ (i j:Int) (t u:Tok) (s:Shared) (Q:Value->Shared->Prop) (E:Value->Shared->Prop),C i j->Q (.int (g i j) s.toks) { s with toks:=s.toks+1 }->wpAny (model X.prog X.w) X.A (f (.int i t) (.int j u)) Q E s) :
   iO X f (rI C λ i j => .int (g i j)):=by
 intro pins s U H x y v u Q I rx ry h
 obtain ⟨i,j,rfl,rfl,hc,q⟩:=h
 obtain ⟨t,rfl⟩:=rx
 obtain ⟨t',rfl⟩:=ry
 exact rule i j t t' s _ _ hc ⟨.int (g i j),H,I.tok _,⟨_,rfl⟩,q⟩
theorem HK {f:Value->Value->Sem Value} {g:Int->Int->Int} (rule:∀ (i j:Int) (t u:Tok) (s:Shared) (Q:Value->Shared->Prop) (E:Value->Shared->Prop),Q (.int (g i j) s.toks) { s with toks:=s.toks+1 }->wpAny (model X.prog X.w) X.A (f (.int i t) (.int j u)) Q E s) :
   iO X f (F6 λ i j => .int (g i j)):=by
 intro pins s U H x y v u Q I rx ry h
 obtain ⟨i,j,rfl,rfl,q⟩:=h
 obtain ⟨t,rfl⟩:=rx
 obtain ⟨t',rfl⟩:=ry
 exact rule i j t t' s _ _ ⟨.int (g i j),H,I.tok _,⟨_,rfl⟩,q⟩
theorem Hf {f:Value->Value->Sem Value} {g:Int->Int->Bool} (rule:∀ (i j:Int) (t u:Tok) (s:Shared) (Q:Value->Shared->Prop) (E:Value->Shared->Prop),Q (.bool (g i j)) s->wpAny (model X.prog X.w) X.A (f (.int i t) (.int j u)) Q E s) :
   iO X f (F6 λ i j => .bl (g i j)):=by
 intro pins s U H x y v u Q I rx ry h
 obtain ⟨i,j,rfl,rfl,q⟩:=h
 obtain ⟨t,rfl⟩:=rx
 obtain ⟨t',rfl⟩:=ry
 exact rule i j t t' s _ _ ⟨.bl (g i j),H,I,rfl,q⟩
def G5 (i j:Int):Prop:=0<=j/\j<=1000000/\i.natAbs<2 ^ 64
theorem za (k:Nat):(0:Int)<=2 ^ k:=by
 rw [two_pow_cast]
 exact akt _
theorem Lh:iO X (binaryOp .Add) (F6 λ i j => .int (i+j)):=HK λ _ _ _ _ _ _ _ q=>add_int q
theorem Kn:iO X (binaryOp .Sub) (F6 λ i j => .int (i - j)):=HK λ _ _ _ _ _ _ _ q=>sub_int q
theorem Ls:iO X (binaryOp .Mod) (rI (λ _ j=>0<j) λ i j => .int (i % j)):=Mt λ i j _ _ _ _ _ hc q=>by
 have h1:(0:Int)<j:=hc
 exact mod_int' (by lia) (by rw [Int.fmod_eq_emod_of_nonneg i (by lia)];exact q)
theorem Kx:iO X (binaryOp .Pow) (rI G5 λ i j => .int (i ^ j.toNat)):=Mt λ _ _ _ _ _ _ _ hc q=>pow_int_small hc.1 hc.2.1 hc.2.2 q
theorem LB:iO X (binaryOp .LShift) (rI G5 λ i j => .int (i * 2 ^ j.toNat)):=Mt λ _ _ _ _ _ _ _ hc q=>lshift_int_small hc.1 hc.2.1 hc.2.2 q
theorem Kj:iO X (binaryOp .RShift) (rI (λ _ j=>0<=j) λ i j => .int (i / 2 ^ j.toNat)):=Mt λ i j _ _ _ _ _ hc q =>
 rshift_int hc (by rw [amt i (za _)];exact q)
theorem LL:iO X (binaryOp .BitAnd) (F6 λ i j => .int (Builtin.bitAnd i j)):=HK λ _ _ _ _ _ _ _ q=>and_int q
theorem P9:iO X (binaryOp .BitOr) (F6 λ i j => .int (Builtin.bitOr i j)):=HK λ _ _ _ _ _ _ _ q=>or_int q
theorem unI {f:Value->Sem Value} {g:Int->Int} (rule:∀ (i:Int) (t:Tok) (s:Shared) (Q:Value->Shared->Prop) (E:Value->Shared->Prop),Q (.int (g i) s.toks) { s with toks:=s.toks+1 }->wpAny (model X.prog X.w) X.A (f (.int i t)) Q E s) :
   T1 X f (rU λ i => .int (g i)):=by
 intro pins s U H x v Q I rx h
 obtain ⟨i,rfl,q⟩:=h
 obtain ⟨t,rfl⟩:=rx
 exact rule i t s _ _ ⟨.int (g i),H,I.tok _,⟨_,rfl⟩,q⟩
theorem vP:T1 X (unaryOp .USub) (rU λ i => .int (-i)):=unI λ _ _ _ _ _ q=>neg_int q
theorem yP:T1 X (unaryOp .Invert) (rU λ i => .int (Builtin.bitNot i)):=unI λ _ _ _ _ _ q=>invert_int q
end
def RO:V->V->Bool
 | .cf,.cf=>true | .cf,.int _=>true | .int _,.cf=>true | .cf,.bl _=>true | .bl _,.cf=>true | .cf,.str _=>true | .str _,.cf=>true
 | .int _,.int _=>true | .bl _,.bl _=>true | .str _,.str _=>true | .C4 _,.C4 _=>true
 | .int _,.str _=>true | .str _,.int _=>true | .bl _,.str _=>true | .str _,.bl _=>true
 | _,_=>false
def rEq:R2:=λ x y H Q=>RO x y=true/\Q (.bl (decide (x=y))) H
def rNe:R2:=λ x y H Q=>RO x y=true/\Q (.bl (!decide (x=y))) H
theorem Bn {i j:Int}:decide (V.int i=V.int j)=(i == j):=by
 rw [akN]
 simp
theorem Em {i j:Bool}:decide (V.bl i=V.bl j)=(i == j):=by
 rw [akN]
 simp
theorem Ay {i j:Str}:decide (V.str i=V.str j)=(i == j):=by
 rw [akN]
 simp
theorem Bu {i j:Array UInt8}:decide (V.C4 i=V.C4 j)=(i.toList == j.toList):=by
 rw [akN]
 cases i
 cases j
 simp
section
variable {X:Cx} {a b c:Expr} {ta tb tc:TE} {pos:Pos}
theorem bP {s:Shared} {k k':Bool} (I:Inv X pins U H s) (q:Q (.bl k) H) (e:k=k'):EP X pins U Q (.bool k') s:=by
 subst e
 exact ⟨.bl k,H,I,rfl,q⟩
theorem fc:iO X (compareOp .Eq) rEq:=by
 intro pins s U H x y v u Q I rx ry h
 obtain ⟨hs,q⟩:=h
 cases x with
 | cf =>
   cases rx
   cases y with
   | cf=>cases ry;exact PySem.EqNone.eq_none_none (bP I q (by simp))
   | bl j=>cases ry;exact PySem.EqNone.eq_none_bool (bP I q (by simp))
   | int j=>obtain ⟨t',rfl⟩:=ry;exact PySem.EqNone.eq_none_int (bP I q (by simp))
   | str j=>obtain ⟨t',rfl⟩:=ry;exact PySem.EqNone.eq_none_str (bP I q (by simp))
   | _=>exact absurd (show false=true from hs) ac8
 | bl i =>
   cases rx
   cases y with
   | cf=>cases ry;exact PySem.EqNone.eq_bool_none (bP I q (by simp))
   | bl j=>cases ry;exact eq_bool (bP I q Em)
   | str j=>obtain ⟨t',rfl⟩:=ry;exact PySem.EqMixed.eq_bool_str (bP I q (by simp))
   | _=>exact absurd (show false=true from hs) ac8
 | int i =>
   obtain ⟨t,rfl⟩:=rx
   cases y with
   | cf=>cases ry;exact PySem.EqNone.eq_int_none (bP I q (by simp))
   | int j=>obtain ⟨t',rfl⟩:=ry;exact eq_int (bP I q Bn)
   | str j=>obtain ⟨t',rfl⟩:=ry;exact PySem.EqMixed.eq_int_str (bP I q (by simp))
   | _=>exact absurd (show false=true from hs) ac8
 | str i =>
   obtain ⟨t,rfl⟩:=rx
   cases y with
   | cf=>cases ry;exact PySem.EqNone.eq_str_none (bP I q (by simp))
   | bl j=>cases ry;exact PySem.EqMixed.eq_str_bool (bP I q (by simp))
   | int j=>obtain ⟨t',rfl⟩:=ry;exact PySem.EqMixed.eq_str_int (bP I q (by simp))
   | str j=>obtain ⟨t',rfl⟩:=ry;exact eq_str (bP I q Ay)
   | _=>exact absurd (show false=true from hs) ac8
 | C4 i =>
   obtain ⟨t,rfl⟩:=rx
   cases y with
   | C4 j=>obtain ⟨t',rfl⟩:=ry;exact W.eq_bytes (bP I q Bu)
   | _=>exact absurd (show false=true from hs) ac8
 | _=>cases y<;>exact absurd (show false=true from hs) ac8
theorem sD:iO X (compareOp .NotEq) rNe:=by
 intro pins s U H x y v u Q I rx ry h
 obtain ⟨hs,q⟩:=h
 cases x with
 | cf =>
   cases rx
   cases y with
   | cf=>cases ry;exact PySem.EqNone.ne_none_none (bP I q (by simp))
   | bl j=>cases ry;exact PySem.EqNone.ne_none_bool (bP I q (by simp))
   | int j=>obtain ⟨t',rfl⟩:=ry;exact PySem.EqNone.ne_none_int (bP I q (by simp))
   | str j=>obtain ⟨t',rfl⟩:=ry;exact PySem.EqNone.ne_none_str (bP I q (by simp))
   | _=>exact absurd (show false=true from hs) ac8
 | bl i =>
   cases rx
   cases y with
   | cf=>cases ry;exact PySem.EqNone.ne_bool_none (bP I q (by simp))
   | bl j=>cases ry;exact ne_bool (bP I q (ahP not Em))
   | str j=>obtain ⟨t',rfl⟩:=ry;exact PySem.EqMixed.ne_bool_str (bP I q (by simp))
   | _=>exact absurd (show false=true from hs) ac8
 | int i =>
   obtain ⟨t,rfl⟩:=rx
   cases y with
   | cf=>cases ry;exact PySem.EqNone.ne_int_none (bP I q (by simp))
   | int j=>obtain ⟨t',rfl⟩:=ry;exact ne_int (bP I q (ahP not Bn))
   | str j=>obtain ⟨t',rfl⟩:=ry;exact PySem.EqMixed.ne_int_str (bP I q (by simp))
   | _=>exact absurd (show false=true from hs) ac8
 | str i =>
   obtain ⟨t,rfl⟩:=rx
   cases y with
   | cf=>cases ry;exact PySem.EqNone.ne_str_none (bP I q (by simp))
   | bl j=>cases ry;exact PySem.EqMixed.ne_str_bool (bP I q (by simp))
   | int j=>obtain ⟨t',rfl⟩:=ry;exact PySem.EqMixed.ne_str_int (bP I q (by simp))
   | str j=>obtain ⟨t',rfl⟩:=ry;exact ne_str (bP I q (ahP not Ay))
   | _=>exact absurd (show false=true from hs) ac8
 | C4 i =>
   obtain ⟨t,rfl⟩:=rx
   cases y with
   | C4 j=>obtain ⟨t',rfl⟩:=ry;exact W.ne_bytes (bP I q (ahP not Bu))
   | _=>exact absurd (show false=true from hs) ac8
 | _=>cases y<;>exact absurd (show false=true from hs) ac8
theorem ky:iO X (compareOp .Lt) (F6 λ i j => .bl (decide (i<j))):=Hf λ _ _ _ _ _ _ _ q=>lt_int q
theorem iG:iO X (compareOp .LtE) (F6 λ i j => .bl (decide (i<=j))):=Hf λ _ _ _ _ _ _ _ q=>le_int q
theorem xR:iO X (compareOp .Gt) (F6 λ i j => .bl (decide (j<i))):=Hf λ _ _ _ _ _ _ _ q=>gt_int q
theorem D8:iO X (compareOp .GtE) (F6 λ i j => .bl (decide (j<=i))):=Hf λ _ _ _ _ _ _ _ q=>ge_int q
theorem j8:iO X (compareOp .Is) (λ x y H Q=>y = .cf/\Q (.bl (decide (x = .cf))) H):=by
 intro pins s U H x y v u Q I rx ry h
 obtain ⟨rfl,q⟩:=h
 cases ry
 refine is_none_gen (bP I q ?_)
 cases x<;>first
   | (cases rx;rfl)
   | (obtain ⟨t,rfl⟩:=rx;rfl)
theorem lG:iO X (compareOp .IsNot) (λ x y H Q=>y = .cf/\Q (.bl (!decide (x = .cf))) H):=by
 intro pins s U H x y v u Q I rx ry h
 obtain ⟨rfl,q⟩:=h
 cases ry
 refine isnot_none_gen (bP I q ?_)
 cases x<;>first
   | (cases rx;rfl)
   | (obtain ⟨t,rfl⟩:=rx;rfl)
theorem aM (b:Expr) {op:CmpOp} (h:op ≠ .In:=by decide) (h2:op ≠ .NotIn:=by decide):behindInMarks op b=false:=by
 have e1:(op == CmpOp.In)=false:=by cases op<;>first|rfl|exact absurd rfl h
 have e2:(op == CmpOp.NotIn)=false:=by cases op<;>first|rfl|exact absurd rfl h2
 cases b<;>simp [behindInMarks,e1,e2]
theorem db {op:CmpOp} {r:R2} (ho:iO X (compareOp op) r) (ha:PE X a ta) (hb:PE X b tb) (hm:behindInMarks op b=false):PE X (.Compare a [op] [b] pos) (M1 r ta tb):=by
 intro pins s U H Q I h
 exact wpAny_Compare1 (Li ha hb I h λ v u s2 x y H2 I2 rx ry q=>ho pins s2 U H2 x y v u Q I2 rx ry q) hm
inductive XY (Q:Bool->Hp->Prop) (x:V) (H:Hp):Prop
 | mk (k:Bool) (h:x = .bl k) (q:Q k H)
def Dx (t:TE):TT:=λ U H Q=>t U H (XY Q)
theorem aO {op:CmpOp} {r:R2} (ho:iO X (compareOp op) r) (ha:PE X a ta) (hb:PE X b tb) (hm:behindInMarks op b=false):PT X (.Compare a [op] [b] pos) (Dx (M1 r ta tb)):=by
 intro pins s U H Q I h
 refine wpAny_isTrue_Compare1 (cD (ha pins s U H _ I h) λ v s1 ⟨x,H1,I1,r1,q1⟩=>cD (hb pins s1 U H1 _ I1 q1) λ u s2 ⟨y,H2,I2,r2,q2⟩ =>
   cD (ho pins s2 U H2 x y v u _ I2 r1 r2 q2) λ c s3 ⟨z,H3,I3,r3,k,e,q3⟩=>?_) hm
 subst e
 cases r3
 exact ail ⟨H3,I3,q3⟩
def EV (r r':R2) (ta tb tc:TE):TE:=λ U H Q=>ta U H λ x H1=>tb U H1 λ y H2=>r x y H2 λ z H3=>∃ k,z = .bl k /\
 (if k=true then tc U H3 λ w' H4=>r' y w' H4 Q else Q (.bl false) H3)
theorem D3 {op Lp:CmpOp} {r r':R2} (ho:iO X (compareOp op) r) (yC:iO X (compareOp Lp) r') (ha:PE X a ta) (hb:PE X b tb) (hc:PE X c tc) (hm:lastMarks [op,Lp] [b,c]=false:=by with_unfolding_all rfl):PE X (.Compare a [op,Lp] [b,c] pos) (EV r r' ta tb tc):=by
 intro pins s U H Q I h
 refine Compare_chain (cD (ha pins s U H _ I h) λ v s1 ⟨x,H1,I1,r1,q1⟩=>chain_link (cD (hb pins s1 U H1 _ I1 q1) λ u s2 ⟨y,H2,I2,r2,q2⟩ =>
   cD (ho pins s2 U H2 x y v u _ I2 r1 r2 q2) λ d s3 ⟨z,H3,I3,r3,k,e,q3⟩=>?_)) hm
 subst e
 cases r3
 refine ail ?_
 cases k with
 | false=>exact ite_ff ⟨.bl false,H3,I3,rfl,q3⟩
 | true=>exact ite_tt (chain_last (cD (hc pins s3 U H3 _ I3 q3) λ w' s4 ⟨z',H4,I4,r4,q4⟩=>yC pins s4 U H4 y z' u w' Q I4 r2 r4 q4))
theorem jc {op Lp:CmpOp} {r r':R2} (ho:iO X (compareOp op) r) (yC:iO X (compareOp Lp) r') (ha:PE X a ta) (hb:PE X b tb) (hc:PE X c tc) (hm:lastMarks [op,Lp] [b,c]=false:=by with_unfolding_all rfl):PT X (.Compare a [op,Lp] [b,c] pos) (Dx (EV r r' ta tb tc)):=by
 intro pins s U H Q I h
 refine isTrue_chain (cD (ha pins s U H _ I h) λ v s1 ⟨x,H1,I1,r1,q1⟩=>test_link (cD (hb pins s1 U H1 _ I1 q1) λ u s2 ⟨y,H2,I2,r2,q2⟩ =>
   cD (ho pins s2 U H2 x y v u _ I2 r1 r2 q2) λ d s3 ⟨z,H3,I3,r3,k,e,q3⟩=>?_)) hm
 subst e
 cases r3
 refine ail ?_
 cases k with
 | false =>
   obtain ⟨k',e',q'⟩:=q3
   cases e'
   exact ite_ff ⟨H3,I3,q'⟩
 | true =>
   refine ite_tt (test_last (cD (hc pins s3 U H3 _ I3 q3) λ w' s4 ⟨z',H4,I4,r4,q4⟩=>cD (yC pins s4 U H4 y z' u w' _ I4 r2 r4 q4) λ d' s5 ⟨z2,H5,I5,r5,k2,e2,q5⟩=>?_))
   subst e2
   cases r5
   exact ail ⟨H5,I5,q5⟩
theorem rm:(sizeLine:Nat)<2 ^ 63:=by rw [sizeLine_eq];decide
theorem vals1 {x:V} (r:Vals [x] us):∃ u,us=[u]/\RelV x u:=by
 cases r with
 | cons r1 r2=>cases r2;exact ⟨_,rfl,r1⟩
theorem vals2 {x y:V} (r:Vals [x,y] us):∃ u w',us=[u,w']/\RelV x u/\RelV y w':=by
 cases r with
 | cons r1 r2 =>
   cases r2 with
   | cons r3 r4=>cases r4;exact ⟨_,_,rfl,r1,r3⟩
theorem Fg:hG X (.builtin "abs") (λ xs H Q=>∃ i,xs=[.int i]/\Q (.int (if i<0 then -i else i)) H):=by
 intro pins s U H xs us Q I r h
 obtain ⟨i,rfl,q⟩:=h
 obtain ⟨u,rfl,t,rfl⟩:=vals1 r
 exact call_abs_int λ u tk=>⟨.int (if i<0 then -i else i),H,I.tok _,⟨_,rfl⟩,q⟩
theorem o7 (hc:X.calm=true):hG X (.builtin "max") (λ xs H Q=>∃ i j,xs=[.int i,.int j]/\Q (.int (if j > i then j else i)) H):=by
 intro pins s U H xs us Q I r h
 obtain ⟨i,j,rfl,q⟩:=h
 obtain ⟨u,w',rfl,⟨t,rfl⟩,⟨t',rfl⟩⟩:=vals2 r
 refine max_two_ints (I.ok.hd hc) λ h' tk k=>⟨_,H,I.kept k,?_,q⟩
 by_cases hj:j > i
 . rw [ady hj,ady hj];exact ⟨_,rfl⟩
 . rw [ac9 hj,ac9 hj];exact ⟨_,rfl⟩
theorem ox (hc:X.calm=true):hG X (.builtin "min") (λ xs H Q=>∃ i j,xs=[.int i,.int j]/\Q (.int (if j<i then j else i)) H):=by
 intro pins s U H xs us Q I r h
 obtain ⟨i,j,rfl,q⟩:=h
 obtain ⟨u,w',rfl,⟨t,rfl⟩,⟨t',rfl⟩⟩:=vals2 r
 refine min_two_ints (I.ok.hd hc) λ h' tk k=>⟨_,H,I.kept k,?_,q⟩
 by_cases hj:j<i
 . rw [ady hj,ady hj];exact ⟨_,rfl⟩
 . rw [ac9 hj,ac9 hj];exact ⟨_,rfl⟩
theorem lI:hG X (.type "int") (λ xs H Q=>(∃ i,xs=[.int i]/\Q (.int i) H)∨∃ k,xs=[.bl k]/\Q (.int (if k then 1 else 0)) H):=by
 intro pins s U H xs us Q I r h
 rcases h with ⟨i,rfl,q⟩|⟨k,rfl,q⟩
 . obtain ⟨u,rfl,t,rfl⟩:=vals1 r
   exact call_int_int ⟨.int i,H,I,⟨_,rfl⟩,q⟩
 . obtain ⟨u,rfl,r1⟩:=vals1 r
   cases r1
   exact call_int_bool ⟨.int (if k then 1 else 0),H,I.tok _,⟨_,rfl⟩,q⟩
end
structure zp (h:Heap) (x dx C:Addr) (mA:Str->Option Value):Prop where
 obj:h.get? x=some (W.instObj C dx)
 ns:h.Ns1 dx mA
 ne:dx≠x
theorem Cw {h:Heap} {mA:Str->Option Value} (n:h.Ns1 dx mA):∃ od,h.get? dx=some od/\∀ name,W.lookIn name od=some (mA name):=by
 obtain ⟨o,es,ep,ho,hd,hk,_,hm⟩:=n
 refine ⟨o,ho,λ name=>?_⟩
 have e:=hm name
 unfold nsFind findBy at e
 rw [← Array.find?_toList] at e
 unfold W.lookIn
 rw [hd]
 dsimp only
 split
 . rename_i y q
   rw [q] at e
   exact ahP some e
 .
  rename_i q
  rw [q] at e
  have a:es.toList.any (·.refKey)=false:=by
    rw [List.any_eq_false]
    intro y hy
    obtain ⟨z,t,zV⟩:=hk y (Array.mem_toList_iff.mp hy)
    simp [DictEntry.refKey,zV]
  have a':¬ es.toList.any (·.refKey)=true:=by rw [a];exact ac8
  rw [ac9 a']
  exact ahP some e
theorem zp.look {h:Heap} {x:Addr} {mA:Str->Option Value} (I:zp h x dx C mA):∃ od,W.InstAt h x (W.instObj C dx) C (some od)/\∀ name,W.lookIn name od=some (mA name) :=
 let ⟨od,ho,hl⟩:=Cw I.ns
 ⟨od,⟨I.obj,rfl,rfl,ho⟩,hl⟩
section
variable {prog:Program} {w:World} {A:Around} {E:Value->Shared->Prop} {s:Shared} {K:W.Frag} {x dx C f:Addr} {mA:Str->Option Value} {name:Str} {v:Value}
theorem get_map {expr:Bool} {Q:Value->Shared->Prop} (X:K.In s.heap) (I:zp s.heap x dx C mA) (hg:W.plainGet K C name=true) (hh:W.hasDictIn K C=true) (ha:W.findIn K (.ref C) name=some none) (hv:mA name=some v) (hv':W.handedIn v=true) (h:Q v { s with toks:=s.toks+1 }) :
   wpAny (model prog w) A (getAttr (.ref x) name expr) Q E s:=by
 obtain ⟨od,J,hl⟩:=I.look
 exact W.get_value X J (W.plainGet_of hg).1 (W.findObj_own hh ha rfl (by rw [hl,hv])) hv' h
theorem Dq {pl:Sem Bool} {Q:Value×List Value->Shared->Prop} (X:K.In s.heap) (I:zp s.heap x dx C mA) (hg:W.plainGet K C name=true) (hf:W.findIn K (.ref C) name=some (some (.ref f))) (ht:W.isFn K (.ref f)=true) (hv:mA name=none) (h:Q (.ref f,[.ref x]) s) :
   wpAny (model prog w) A (getMethod (.ref x) name pl) Q E s:=by
 obtain ⟨od,J,hl⟩:=I.look
 exact W.method_fn X J (W.plainGet_of hg).1 (W.plainGet_of hg).2 hf (beq_iff_eq.mp ht) (by show (W.lookIn name od).map (·.isSome)=some false;rw [hl,hv];rfl) h
theorem HB {ns:List Str} {Q:Unit->Shared->Prop} (X:K.In s.heap) (I:zp s.heap x dx C mA) (hs:W.findIn K (.ref C) "__setattr__" = some (some (.builtin "object.__setattr__"))) (hp:W.plainOver K C=true) (ht:W.takerIn K C name=some none) (hh:W.hasDictIn K C=true) (hw:PySem.Within mA ns) (hsz:ns.length<=sizeLine) (h:∀ h',zp h' x dx C (λ y=>if y=name then some v else mA y)->Heap.SameBut dx s.heap h'->Q () { s with heap:=h',toks:=s.toks+2 }) :
   wpAny (model prog w) A (setAttr (.ref x) name v) Q E s:=by
 obtain ⟨od,J,hl⟩:=I.look
 refine W.set_plain X J hs (W.osa_open (s:={ s with toks:=s.toks+1 }) (r:=none) X J hp ht λ b=>?_)
 obtain ⟨cd,hc,N9⟩:=W.any_some hh
 have hx:s.heap.get? x=some ⟨.ref C,some dx,.plain,#[]⟩:=I.obj
 refine P5 (abN (P5 (P5 (wpAny_loadPart hx (P5 (W.Looks.here (s:={ s with toks:=s.toks+1 }) (W.looks_clsIn X hc) ?_))))))
 rw [N9]
 refine abN (a:=some dx) (P5 (abN (P5 ?_)))
 refine wpAny_nsSet1 (s:={ s with toks:=s.toks+1 }) I.ns λ h' hn2 Gf=>?_
 obtain ⟨oD,esD,epD,hoD,hdD,hcD⟩:=hn2.count (PySem.Within.cons name v hw)
 refine P5 (wpAny_lookBehind hoD (by rw [hdD];exact pastItsLine_dict (acS hcD (by rw [aeR];lia))) ?_)
 exact abN (h _ ⟨(Gf.2 _ (alk I.ne)).trans I.obj,hn2,I.ne⟩ Gf)
theorem Fz {R:Result->Shared->Prop} {vs:List Value} {kw:List (Str×Value)} (X:K.In s.heap) (hm:W.makesIn K C=true) (hi:W.findIn K (.ref C) "__init__" = some (some (.ref f))) (hf:W.typeIn K (.ref f)=some (.type "function")) (h:codeAny (model prog w) (A.under (.builtin "type.__call__" ⟨.ref C::vs,kw⟩)) (.call (.ref f) ⟨.ref (s.heap.objs.size+1)::vs,kw⟩) (W.InitBack (s.heap.objs.size+1) R)
     { s with heap:=(s.heap.push W.emptyDict).push (W.instObj C s.heap.objs.size)}) :
   codeAny (model prog w) A (.call (.ref C) ⟨vs,kw⟩) R s:=by
 obtain ⟨hh,g,d,t,os⟩:=s
 exact W.make_core (W.makes_of X hm) (W.looks_findIn X hi) (λ self=>W.bind_fn X self hf) (.inl rfl) h
end
def aG (f:Str) (v:V):List (Str×V)->List (Str×V)
 | []=>[(f,v)]
 | (g,x)::r=>if g=f then (g,v)::r else (g,x)::aG f v r
theorem pB (f g:Str) (v:V):∀ fs:List (Str×V),(aG f v fs).lookup g=if g=f then some v else fs.lookup g
 | []=>by
   show List.lookup g [(f,v)]=_
   by_cases h:g=f
   . have hb:(g == f)=true:=beq_iff_eq.mpr h
     simp only [List.lookup,hb,ady h]
   . have hb:(g == f)=false:=beq_eq_false_iff_ne.mpr h
     simp only [List.lookup,hb,ac9 h]
 | (k,x)::r=>by
   have ih:=pB f g v r
   rw [show aG f v ((k,x)::r)=(if k=f then (k,v)::r else (k,x)::aG f v r) from rfl]
   by_cases hk:k=f
   .
    rw [ady hk]
    by_cases h:g=k
    . have hb:(g == k)=true:=beq_iff_eq.mpr h
      simp only [List.lookup,hb,ady (h.trans hk)]
    . have hb:(g == k)=false:=beq_eq_false_iff_ne.mpr h
      simp only [List.lookup,hb,ac9 (λ e:g=f=>h (e.trans hk.symm))]
   .
    rw [ac9 hk]
    by_cases h:g=k
    . have hb:(g == k)=true:=beq_iff_eq.mpr h
      simp only [List.lookup,hb,ac9 (λ e:g=f=>hk (h.symm.trans e))]
    . have hb:(g == k)=false:=beq_eq_false_iff_ne.mpr h
      simp only [List.lookup,hb]
      exact ih
theorem oB (f:Str) (v:V):∀ fs:List (Str×V),f∈(aG f v fs).map (·.1)/\∀ g,g∈fs.map (·.1)->g∈(aG f v fs).map (·.1)
 | []=>⟨by simp [aG],λ g h=>by simp at h⟩
 | (k,x)::r=>by
   obtain ⟨i1,i2⟩:=oB f v r
   rw [show aG f v ((k,x)::r)=(if k=f then (k,v)::r else (k,x)::aG f v r) from rfl]
   by_cases hk:k=f
   . rw [ady hk]
     subst hk
     exact ⟨by simp,λ g h=>by simpa using h⟩
   .
    rw [ac9 hk]
    refine ⟨?_,λ g h=>?_⟩
    . rw [ael]
      exact aaS _ i1
    . rw [ael] at h ⊢
      rcases List.mem_cons.mp h with e|e
      . exact List.mem_cons.mpr (.inl e)
      . exact aaS _ (i2 g e)
theorem pM (f:Str) (v:V):∀ fs:List (Str×V),(aG f v fs).length<=fs.length+1
 | []=>by simp [aG]
 | (k,x)::r=>by
   have ih:=pM f v r
   rw [show aG f v ((k,x)::r)=(if k=f then (k,v)::r else (k,x)::aG f v r) from rfl]
   by_cases hk:k=f
   . rw [ady hk,aeR,aeR];lia
   . rw [ac9 hk,aeR,aeR];lia
theorem jY.some_of {o:Option Value} (r:jY (some v) o):∃ u,o=some u/\RelV v u:=by
 cases o with
 | none=>exact (show False from r).elim
 | some u=>exact ⟨u,rfl,r⟩
theorem jY.none_of {o:Option Value} (r:jY none o):o=none:=by
 cases o with
 | none=>rfl
 | some u=>exact (show False from r).elim
theorem CP (r:RelV v u):W.handedIn u=true:=by
 cases v with
 | cf=>cases (show u=Value.none from r);rfl
 | bl b=>cases (show u=Value.bool b from r);rfl
 | int i=>obtain ⟨t,e⟩:=(show ∃ t,u=Value.int i t from r);cases e;rfl
 | str x=>obtain ⟨t,e⟩:=(show ∃ t,u=Value.str x t from r);cases e;rfl
 | C4 b=>obtain ⟨t,e⟩:=(show ∃ t,u=Value.bytes b t from r);cases e;rfl
 | JN b=>obtain ⟨t,e⟩:=(show ∃ t,u=Value.float b t from r);cases e;rfl
 | ref a=>cases (show u=Value.ref a from r);rfl
 | ty n=>cases (show u=Value.type n from r);rfl
section
variable {P:Program} {w:World} {H H':Hp} {h h':Heap} {a C dx:Addr} {fs fs':List (Str×V)}
theorem qC (cQ:mP P w H h) (e:H a=some (.ins C dx fs)):∃ mA,zp h a dx C mA/\(∀ f,jY (fs.lookup f) (mA f))/\PySem.Within mA (fs.map (·.1))/\fs.length<=1000/\H dx=some (.own a):=by
 obtain ⟨d,z,ne,ob,mA,n,r,q⟩:=(show cO P w H h a (.ins C dx fs) from cQ a _ e)
 exact ⟨mA,⟨ob,n,ne⟩,r,q,z,d⟩
end
structure yb (K:W.Frag) (C:Addr):Prop where
 pg:W.plainGet K C Str.empty=true
 hd:W.hasDictIn K C=true
 po:W.plainOver K C=true
 sa:W.findIn K (.ref C) "__setattr__" = some (some (.builtin "object.__setattr__"))
theorem yb.get {K:W.Frag} (c:yb K C) (f:Str):W.plainGet K C f=true:=c.pg
def cB (K:W.Frag) (C:Addr) (f:Str):Prop:=W.findIn K (.ref C) f=some none
theorem cB.OT {K:W.Frag} {f:Str} (n:cB K C f):W.takerIn K C f=some none:=by
 unfold W.takerIn
 rw [show W.findIn K (.ref C) f=some none from n]
 rfl
structure Meth (K:W.Frag) (C:Addr) (m:Str) (f:Addr):Prop where
 at_:W.findIn K (.ref C) m=some (some (.ref f))
 fn:W.isFn K (.ref f)=true
 kp:W.keepIn K (.ref f)=true
section
variable {X:Cx} {pins:List (Addr×Obj)} {U:St} {H:Hp} {s:Shared} {a C dx:Addr} {fs:List (Str×V)} {f:Str} {v:V} {A:Around} {E:Value->Shared->Prop}
theorem zT {b:Bool} {Q:Value->Shared->Prop} (I:Inv X pins U H s) (e:H a=some (.ins C dx fs)) (c:yb X.K C) (n:cB X.K C f) (l:fs.lookup f=some v) (h:∀ u s',Inv X pins U H s'->RelV v u->Q u s'):wpAny (model X.prog X.w) A (getAttr (.ref a) f b) Q E s:=by
 obtain ⟨mA,O,r,_,_,_⟩:=qC I.cQ e
 obtain ⟨u,hu,ru⟩:=jY.some_of (v:=v) (o:=mA f) (by rw [← l];exact r f)
 exact get_map I.pP O (c.get f) c.hd n hu (CP ru) (h u _ (I.tok _) ru)
theorem sK {m:Str} {g:Addr} {pl:Sem Bool} {Q:Value×List Value->Shared->Prop} (I:Inv X pins U H s) (e:H a=some (.ins C dx fs)) (c:yb X.K C) (k:Meth X.K C m g) (l:fs.lookup m=none) (h:Q (.ref g,[.ref a]) s):wpAny (model X.prog X.w) A (getMethod (.ref a) m pl) Q E s:=by
 obtain ⟨mA,O,r,_,_,_⟩:=qC I.cQ e
 have hn:mA m=none:=jY.none_of (by rw [← l];exact r m)
 exact Dq I.pP O (c.get m) k.at_ k.fn hn h
theorem y0 {y:V} {Q:Unit->Shared->Prop} (I:Inv X pins U H s) (e:H a=some (.ins C dx fs)) (c:yb X.K C) (n:cB X.K C f) (hl:fs.length<1000) (ry:RelV y u) (h:∀ s',Inv X pins U (upd H a (.ins C dx (aG f y fs))) s'->Q () s'):wpAny (model X.prog X.w) A (setAttr (.ref a) f u) Q E s:=by
 obtain ⟨mA,O,r,wi,_,ho⟩:=qC I.cQ e
 have hz:(fs.map (·.1)).length<=sizeLine:=by rw [zN,sizeLine_eq];lia
 refine HB I.pP O c.sa c.po n.OT c.hd wi hz λ h' O' sb=>h _ ?_
 have hd:∃ o,h'.get? dx=some o:=let ⟨o,_,_,e',_⟩:=O'.ns;⟨o,e'⟩
 refine I.write (x:=a) (e:=dx) (by rw [e];exact True.intro) (.inr ho) (λ b q hb z=>(sb.2 b hb).trans z) hd ?_
 refine ⟨by rw [aq O.ne];exact ho,?_,O.ne,O'.obj,_,O'.ns,λ g=>?_,λ g hg=>?_⟩
 . have:=pM f y fs;lia
 .
  show jY ((aG f y fs).lookup g) (if g=f then some u else mA g)
  rw [pB]
  by_cases q:g=f
  . rw [ady q,ady q];exact ry
  . rw [ac9 q,ac9 q];exact r g
 .
  by_cases q:g=f
  . rw [q];exact (oB f y fs).1
  . refine (oB f y fs).2 g (wi g λ z=>hg ?_)
    show (if g=f then some u else mA g)=none
    rw [ac9 q];exact z
theorem Inv.made (I:Inv X pins U H s):Inv X pins U (upd (upd H s.heap.objs.size (.own (s.heap.objs.size+1))) (s.heap.objs.size+1) (.ins C s.heap.objs.size []))
   { s with heap:=(s.heap.push W.emptyDict).push (W.instObj C s.heap.objs.size)}:=by
 have e1:(s.heap.push W.emptyDict).get? s.heap.objs.size=some W.emptyDict:=aep s.heap rfl
 have e2:((s.heap.push W.emptyDict).push (W.instObj C s.heap.objs.size)).get? (s.heap.objs.size+1)=some (W.instObj C s.heap.objs.size):=by
   have:=aep (s.heap.push W.emptyDict) (o:=W.instObj C s.heap.objs.size) rfl
   rwa [alM] at this
 have e3:(s.heap.push W.emptyDict).Ns s.heap.objs.size (λ _=>none):=⟨W.emptyDict,#[],_,e1,rfl,(λ e he=>absurd he (by simp)),λ _=>rfl⟩
 have I1:=I.laid (a:=s.heap.objs.size) (o:=.own (s.heap.objs.size+1)) (h':=s.heap.push W.emptyDict) (t':=s.toks) (λ b u q=>abA _ q) (aaU _) ⟨_,e1⟩
 refine I1.laid (a:=s.heap.objs.size+1) (o:=.ins C s.heap.objs.size []) (t':=s.toks) (λ b u q=>abA _ q) (Nat.le_of_eq (alM _ _)) ?_
 have ne:s.heap.objs.size≠s.heap.objs.size+1:=ad8 (amf _)
 refine ⟨by rw [aq ne,af],aeU _,ne,e2,λ _=>none,(Heap.Ns1.of_empty e3).at λ o q=>abA _ q,λ _=>True.intro,λ y hy=>absurd rfl hy⟩
theorem GC {prog:Program} {w:World} {env:Env} {e:Expr} {f:Str} {pos:Pos} {s:Shared} {Q:Value->Shared->Prop} (hb:attributeBase e f env (eval e env)=eval e env) (h:wpAny (model prog w) A (eval e env) (λ o s₁=>wpAny (model prog w) A (getAttr o f true) Q E s₁) E s):wpAny (model prog w) A (eval (.Attribute e f pos) env) Q E s :=
 Attribute_any_ h (by rw [arm_eval_Attribute,hb])
end
inductive NU (K:W.Frag) (f:Str) (Q:VK) (x:V) (H1:Hp):Prop
 | mk (a C dx:Addr) (fs:List (Str×V)) (v:V) (h1:x = .ref a) (h2:H1 a=some (.ins C dx fs)) (h3:yb K C) (h4:cB K C f) (h5:fs.lookup f=some v) (q:Q v H1)
def ZK (K:W.Frag) (ta:TE) (f:Str):TE:=λ U H Q=>ta U H (NU K f Q)
def akG (K:W.Frag) (ta tv:TE) (f:Str):TS:=λ D U H=>tv U H λ y H1=>ta U H1 λ x H2=>∃ a C dx fs,x = .ref a/\H2 a=some (.ins C dx fs)/\yb K C/\cB K C f/\fs.length<1000 /\
 D.nx U (upd H2 a (.ins C dx (aG f y fs)))
section
variable {X:Cx} {o e value:Expr} {f:Str} {pos pos' nE:Pos} {ta tv:TE}
theorem aH (he:PE X e ta) (hb:attributeBase e f X.env (eval e X.env)=eval e X.env):PE X (.Attribute e f pos) (ZK X.K ta f):=by
 intro pins s U H Q I h
 refine GC hb (cD (he pins s U H _ I h) λ u s1 ⟨x,H1,I1,rx,a,C,dx,fs,v,ex,ea,c,n,l,q⟩=>?_)
 subst ex
 obtain rfl:u=Value.ref a:=rx
 exact zT I1 ea c n l λ u' s2 I2 ru=>⟨v,H1,I2,ru,q⟩
theorem cK (ha:PE X o ta) (hv:PE X value tv) (hs:swapsWith value (some (.Attribute o f pos')) pos.line X.env=pure false):PS X (.Assign [.Attribute o f pos'] value pos) (akG X.K ta tv f):=by
 intro pins s U H D I h
 refine plainObj_wpAny_Assign_Attribute (cD (hv pins s U H _ I h) λ u s1 ⟨y,H1,I1,ry,q⟩=>cD (ha pins s1 U H1 _ I1 q) λ ov s2 ⟨x,H2,I2,rx,a,C,dx,fs,ex,ea,c,n,l,q2⟩=>?_) hs
 subst ex
 obtain rfl:ov=Value.ref a:=rx
 exact y0 I2 ea c n l ry λ s3 I3=>⟨U,_,I3,q2⟩
end
section
variable {X:Cx} {pins:List (Addr×Obj)} {U:St} {H:Hp} {s:Shared} {A:Around} {E:Value->Shared->Prop} {Q:Value->Shared->Prop} {c:Value} {b:Bool}
inductive oA (K:W.Frag) (H:Hp):V->Value->Prop where
 | cf:oA K H .cf (.type "NoneType")
 | bl (x:Bool):oA K H (.bl x) (.type "bool")
 | int (i:Int):oA K H (.int i) (.type "int")
 | str (x:Str):oA K H (.str x) (.type "str")
 | JN (x:UInt64):oA K H (.JN x) (.type "float")
 | lst {a:Addr} {xs:List V} (e:H a=some (.lst xs)):oA K H (.ref a) (.type "list")
 | yG {a:Addr} {o:Obj} {xs:List V} (e:H a=some (.yG o (.lst xs))):oA K H (.ref a) (.type "list")
 | tup {a:Addr} {xs:List V} (e:H a=some (.tup xs)):oA K H (.ref a) (.type "tuple")
 | dK {a:Addr} {ax:List (Key×V)} (e:H a=some (.dK ax)):oA K H (.ref a) (.type "dict")
 | dT {a:Addr} {ax:List (List Key×V)} (e:H a=some (.dT ax)):oA K H (.ref a) (.type "dict")
 | ins {a C dx:Addr} {fs:List (Str×V)} (e:H a=some (.ins C dx fs)) (cl:yb K C) (ha:W.findIn K (.ref C) "__class__" = some (some (.builtin "object.__class__")))
     (hn:W.specialIn K (.builtin "object.__class__") "__get__" = some (some (.builtin "getset_descriptor.__get__"))) (U4:W.takesIn K (.builtin "object.__class__")=some true)
     (hm:W.mroIn K C (.type "object")=some true):oA K H (.ref a) (.ref C)
theorem Cg {x:V} {t:Value} (I:Inv X pins U H s) (rx:RelV x u) (ty:oA X.K H x t) (e:W.kitOne X.K t c=some b) (h:∀ tk,Q (.bool b) { s with toks:=tk }) :
   wpAny (model X.prog X.w) A (call (.builtin "isinstance") [u,c]) Q E s:=by
 cases ty with
 | cf=>cases (show u=Value.none from rx);exact ale W.kitx_none I.pP True.intro e (λ z=>nomatch z) h
 | bl y=>cases (show u=Value.bool y from rx);exact ale W.kitx_bool I.pP True.intro e (λ z=>nomatch z) h
 | int i=>obtain ⟨t,q⟩:=(show ∃ t,u=Value.int i t from rx);cases q;exact ale W.kitx_int I.pP True.intro e (λ z=>nomatch z) h
 | str y=>obtain ⟨t,q⟩:=(show ∃ t,u=Value.str y t from rx);cases q;exact ale W.kitx_str I.pP True.intro e (λ z=>nomatch z) h
 | JN y=>obtain ⟨t,q⟩:=(show ∃ t,u=Value.float y t from rx);cases q;exact ale W.kitx_float I.pP True.intro e (λ z=>nomatch z) h
 | @lst a xs ea =>
   cases (show u=Value.ref a from rx)
   obtain ⟨_,_,n,_,h1⟩:=(show cO X.prog X.w H s.heap a (.lst xs) from I.cQ a _ ea)
   exact ale W.kitx_list I.pP ⟨_,h1,rfl⟩ e (λ z=>nomatch z) h
 | @yG a ob xs ea =>
   cases (show u=Value.ref a from rx)
   obtain ⟨_,_,_,n,_,h1⟩:=(show cO X.prog X.w H s.heap a (.yG ob (.lst xs)) from I.cQ a _ ea)
   exact ale W.kitx_list I.pP ⟨_,h1,rfl⟩ e (λ z=>nomatch z) h
 | @tup a xs ea =>
   cases (show u=Value.ref a from rx)
   obtain ⟨_,_,_,p⟩:=(show cO X.prog X.w H s.heap a (.tup xs) from I.cQ a _ ea)
   obtain ⟨o,h1,h2,_⟩:=p
   exact ale W.kitx_tuple I.pP ⟨o,h1,h2⟩ e (λ z=>nomatch z) h
 | @dK a ax ea =>
   cases (show u=Value.ref a from rx)
   obtain ⟨_,_,vs,_,p⟩:=(show cO X.prog X.w H s.heap a (.dK ax) from I.cQ a _ ea)
   obtain ⟨o,es,ep,h1,h2,_⟩:=p
   exact ale W.kitx_dict I.pP ⟨o,h1,h2.1⟩ e (λ z=>nomatch z) h
 | @dT a ax ea =>
   cases (show u=Value.ref a from rx)
   obtain ⟨_,_,xs,_,o,es,ep,h1,h2,_⟩:=(show cO X.prog X.w H s.heap a (.dT ax) from I.cQ a _ ea)
   exact ale W.kitx_dict I.pP ⟨o,h1,h2.1⟩ e (λ z=>nomatch z) h
 | @ins a C dx fs ea cl ha hn U4 hm =>
   cases (show u=Value.ref a from rx)
   obtain ⟨mA,O,_⟩:=qC I.cQ ea
   obtain ⟨od,J,_⟩:=O.look
   exact ale (W.kitx_own (cl.get _) cl.hd ha hn U4 hm) I.pP J e (λ z=>nomatch z) h
end
structure cI (k:Nat) (A:Around):Prop where
 hd:A.handled=none
 dp:A.depth+3 * k+5<recursionLimit
 un:A.units+16 * k+200<cLine
theorem cI.mono {j k:Nat} {A:Around} (r:cI k A) (h:j<=k):cI j A:=⟨r.hd,by have:=r.dp;lia,by have:=r.un;lia⟩
theorem cI.deeper {k:Nat} {A:Around} (r:cI (k+1) A) (env:Env):cI k (A.deeper env) :=
 ⟨r.hd,by have:=r.dp;show A.depth+1+3 * k+5<_;lia,by have:=r.un;show A.units+3+16 * k+200<_;lia⟩
theorem yW {A:Around} {kw:List (Str×Value)}:(A.under (.builtin "type.__call__" ⟨.ref C::us,kw⟩)).depth=A.depth+1:=by
 first|rfl|simp [Around.under,Code.weight,Code.isCreation,Code.isGuard,Code.isCaller,Code.frames,Code.isFrame,guardIds]
theorem zk {A:Around} {kw:List (Str×Value)}:(A.under (.builtin "type.__call__" ⟨.ref C::us,kw⟩)).units=A.units+1:=by
 first|rfl|simp [Around.under,Code.cUnits,Code.frames,Code.isFrame]
theorem cI.make {k:Nat} {A:Around} (r:cI (k+1) A) (C:Addr) (us:List Value) (kw:List (Str×Value)):cI k (A.under (.builtin "type.__call__" ⟨.ref C::us,kw⟩)) :=
 ⟨r.hd,by have:=r.dp;rw [yW];lia,by have:=r.un;rw [zk];lia⟩
theorem cI.depth {k:Nat} {A:Around} (r:cI k A):A.depth<recursionLimit:=by have:=r.dp;lia
theorem cI.units {k:Nat} {A:Around} (r:cI k A):A.units+64<cLine:=by have:=r.un;lia
def Lx:TA:=λ _ H Q=>Q [] H
def NJ (ta:TE) (tr:TA):TA:=λ U H Q=>ta U H λ x H1=>tr U H1 λ xs H2=>Q (x::xs) H2
section
variable {X:Cx} {e:Expr} {es:List Expr} {te:TE} {t:TA} {pos:Pos}
theorem ac:PA X [] Lx:=λ _ _ _ _ H Q I h=>amx ⟨[],H,I,.nil,h⟩
theorem aa (ha:PE X e te) (hr:PA X es t) (hs:starEach (e::es) X.env=(false,eval e X.env)::starEach es X.env:=by rfl):PA X (e::es) (NJ te t):=by
 intro pos pins s U H Q I h
 rw [hs]
 show wpAny _ _ (spliced ((false,eval e X.env)::backTo pos (starEach es X.env))) _ _ s
 refine alJ (cD (ha pins s U H _ I h) λ u s1 ⟨x,H1,I1,r1,q1⟩=>?_)
 exact cD (hr pos pins s1 U H1 _ I1 q1) λ us s2 ⟨xs,H2,I2,r2,q2⟩=>⟨x::xs,H2,I2,.cons r1 r2,q2⟩
def adM (t:TA):TE:=λ U H Q=>t U H λ xs H1=>xs.length<=sizeLine/\∀ p,H1 p=none->Q (.ref p) (upd H1 p (.tup xs))
def abX (t:TA):TE:=λ U H Q=>t U H λ xs H1=>xs.length<=sizeLine/\∀ p,H1 p=none->Q (.ref p) (upd H1 p (.lst xs))
theorem cm {x1} (h:PA X es t):PE X (.Tuple es x1 pos) (adM t):=by
 intro pins s U H Q I hq
 refine wpAny_Tuple_spliced (cD (h pos pins s U H _ I hq) λ us s1 ⟨xs,H1,I1,r,z,q⟩=>⟨by rw [← r.length];exact z,?_⟩)
 have hf:H1 s1.heap.objs.size=none:=I1.cQ.fresh (aaU _)
 refine ⟨.ref s1.heap.objs.size,upd H1 s1.heap.objs.size (.tup xs),I1.laid (t':=s1.toks) (λ b u e=>abA _ e) (aaU _) ?_,rfl,q _ hf⟩
 exact ⟨z,us,r,⟨_,aep _ rfl,rfl,_,rfl⟩⟩
theorem cx (h:PA X es t):PE X (.List es pos) (abX t):=by
 intro pins s U H Q I hq
 refine wpAny_List_spliced (cD (h pos pins s U H _ I hq) λ us s1 ⟨xs,H1,I1,r,z,q⟩=>⟨by rw [← r.length];exact z,?_⟩)
 have hf:H1 s1.heap.objs.size=none:=I1.cQ.fresh (aaU _)
 refine ⟨.ref s1.heap.objs.size,upd H1 s1.heap.objs.size (.lst xs),I1.laid (t':=s1.toks) (λ b u e=>abA _ e) (aaU _) ?_,rfl,q _ hf⟩
 exact ⟨z,us,0,r,aep _ rfl⟩
end
abbrev Sp:=List V->Hp->VK->XK->Prop
abbrev Gd:=List Env->Hp->Shared->XK->Value->Shared->Prop
structure zF (P:Program) (w:World) (K:W.Frag) (mg:Str->Option Value) (base:Heap) (A:Around) (outer:List Env) (s:Shared) (H:Hp):Prop where
 frames:A.frames=some outer
 mod:Mod K mg base
 bs:∀ b o,base.get? b=some o->s.heap.get? b=some o/\H b=none
 Jp:base.objs.size<=s.heap.objs.size
 p9:s.heap.FunFrames base outer
 Ma:∀ b∈Dd outer,H b=none
 cQ:mP P w H s.heap
 bare:AllBare s.gens
def CE (outer:List Env) (P:Program) (w:World) (H:Hp) (s:Shared) (Q:VK) (u:Value) (s':Shared):Prop :=
 ∃ v H',s'.os=s.os/\AllBare s'.gens/\Un (Dd outer) [] H H' s.heap s'.heap/\mP P w H' s'.heap/\RelV v u/\Q v H'
def CR (CX:Gd) (outer:List Env) (P:Program) (w:World) (H:Hp) (s:Shared) (Q:VK) (E:XK) (r:Result) (s':Shared):Prop :=
 match r with
 | .ok (.ret u)=>CE outer P w H s Q u s'
 | .ok _=>False
 | .error e=>CX outer H s E e s'
structure ki (P:Program) (w:World) (K:W.Frag) (mg:Str->Option Value) (base:Heap) (CX:Gd) (k:Nat) (f:Addr) (fd:FuncData) (ps:List Str) (sp:Sp):Prop where
 len:∀ vs H Q E,sp vs H Q E->vs.length=ps.length
 run:∀ (A:Around) (outer:List Env) (s:Shared) (H:Hp) (args:Args) (us:List Value) (vs:List V) (Q:VK) (E:XK),cI k A->zF P w K mg base A outer s H->BindsTo s fd args (ps.zip us)->Vals vs us->sp vs H Q E ->
   codeAny (model P w) A (.call (.ref f) args) (CR CX outer P w H s Q E) s
theorem zF.make {P:Program} {w:World} {K:W.Frag} {mg:Str->Option Value} {base:Heap} {A:Around} {outer:List Env} {s:Shared} (e:zF P w K mg base A outer s H) (C:Addr) (us:List Value) (kw:List (Str×Value)) :
   zF P w K mg base (A.under (.builtin "type.__call__" ⟨.ref C::us,kw⟩)) outer s H:=⟨by first|exact e.frames|(simpa [Around.under,Code.envs,Code.isFrame,pushEnvs] using e.frames),e.mod,e.bs,e.Jp,e.p9,e.Ma,e.cQ,e.bare⟩
section
variable {X:Cx} {pins:List (Addr×Obj)} {U:St} {H:Hp} {s s':Shared}
theorem Inv.RU (I:Inv X pins U H s):zF X.prog X.w X.K X.mg X.base X.A X.stack s H :=
 ⟨I.ok.frames,I.ok.mod,I.bs,acS I.ok.Jp I.sz,I.stack,I.AH,I.cQ,I.bare⟩
theorem Inv.after (I:Inv X pins U H s) (h:CE X.stack X.prog X.w H s Q u s'):EP X pins U Q u s':=by
 obtain ⟨v,H',os,bare,un,cQ,r,q⟩:=h
 obtain ⟨hh,g,d,t,os'⟩:=s'
 obtain rfl:os'=s.os:=os
 exact ⟨v,H',I.call (h':=hh) (g':=g) (d':=d) (t':=t) (ch:=[]) un cQ bare (λ b z=>absurd z (by simp)),r,q⟩
end
def Br (sp:Sp) (g8:List V) (E:XK) (t:TA):TE:=λ U H Q=>t U H λ vs H1=>sp (vs++g8) H1 Q E
inductive Ly (C:Addr) (m:Str) (sp:Sp) (g8:List V) (E:XK) (t:TA) (U:St) (Q:VK) (x:V) (H1:Hp):Prop
 | mk (a dx:Addr) (fs:List (Str×V)) (h1:x = .ref a) (h2:H1 a=some (.ins C dx fs)) (h3:fs.lookup m=none) (q:t U H1 λ vs H2=>sp (x::(vs++g8)) H2 Q E)
def wY (C:Addr) (m:Str) (sp:Sp) (g8:List V) (E:XK) (ta:TE) (t:TA):TE:=λ U H Q=>ta U H (Ly C m sp g8 E t U Q)
def Dp (C:Addr) (sp:Sp) (g8:List V) (E:XK) (t:TA):TE:=λ U H Q=>t U H λ vs H1=>∀ x dx,H1 x=none->H1 dx=none->dx≠x ->
 sp (.ref x::(vs++g8)) (upd (upd H1 dx (.own x)) x (.ins C dx [])) (λ v H2=>v = .cf/\Q (.ref x) H2) E
def Binds (K:W.Frag) (fd:FuncData) (ps:List Str) (ds:List Value):Prop :=
 ∀ (s:Shared) (us:List Value),K.In s.heap->(us++ds).length=ps.length->BindsTo s fd ⟨us,[]⟩ (ps.zip (us++ds))
theorem Binds.all {K:W.Frag} {fd:FuncData} {ps:List Str} (h:∀ us:List Value,us.length=ps.length->bindArgs fd ⟨us,[]⟩=pure (ps.zip us)):Binds K fd ps []:=λ s us _ hl=>by
 rw [ahG] at hl ⊢
 exact .of_eq (h us hl)
def Passes (CX:Gd) (X:Cx) (E:XK):Prop:=∀ (pins:List (Addr×Obj)) (U:St) (H:Hp) (s:Shared) (e:Value) (s':Shared),Inv X pins U H s->CX X.stack H s E e s'->X.xe e s'
section
variable {X:Cx} {CX:Gd} {k:Nat} {f C:Addr} {fd:FuncData} {ps:List Str} {sp:Sp} {g8:List V} {ds:List Value} {E:XK} {x m:Str} {p pos apos:Pos} {e o:Expr} {es:List Expr} {ta:TE} {t:TA}
theorem yN {s:Shared} {vs:List V} (F:ki X.prog X.w X.K X.mg X.base CX k f fd ps sp) (hr:cI k X.A) (hb:Binds X.K fd ps ds) (hd:Vals g8 ds) (hx:Passes CX X E) (I:Inv X pins U H s) (r:Vals vs us) (h:sp (vs++g8) H Q E):wpAny (model X.prog X.w) X.A (call (.ref f) us) (EP X pins U Q) X.xe s:=by
 have r2:Vals (vs++g8) (us++ds):=r.append hd
 have hl:(us++ds).length=ps.length:=by rw [← r2.length];exact F.len _ _ _ _ h
 refine wpAny_call (amB (F.run X.A X.stack s H ⟨us,[]⟩ (us++ds) (vs++g8) Q E hr I.RU (hb s us I.pP hl) r2 h) λ r s' hq=>?_)
 cases r with
 | error e=>exact hx pins U H s e s' I hq
 | ok fl =>
   cases fl with
   | ret u=>exact I.after hq
   | next=>exact False.elim hq
   | brk=>exact False.elim hq
   | cont=>exact False.elim hq
theorem Aq (F:ki X.prog X.w X.K X.mg X.base CX k f fd ps sp) (hr:cI k X.A) (hg:Gl X x) (hm:X.mg x=some (.ref f)) (hk:W.keepIn X.K (.ref f)=true) (hb:Binds X.K fd ps ds) (hd:Vals g8 ds) (hx:Passes CX X E) (ha:PA X (e::es) t) (yp:(x == ("__debug__" : Str))=false:=by decide) (he:starEach (e::es) X.env=(false,eval e X.env)::starEach es X.env:=by rfl) (gT:(backTo pos (starEach es X.env)).any (·.1)=false:=by rfl) :
   PE X (.Call (.Name x p) (e::es) [] pos) (Br sp g8 E t):=by
 intro pins s U H Q I h
 refine akX (vg I hg hm ?_ yp)
 refine W.callWith_K (h₀:=X.base) I.ok.mod.Q3 hk (cD (ha pos pins s U H _ I h) λ us s1 ⟨vs,H1,I1,r,q⟩=>⟨I1.pP,?_⟩) he gT
 exact yN F hr hb hd hx I1 r q
theorem IL {pl:Sem Bool} (he:PE X o ta) (c:yb X.K C) (hm:Meth X.K C m f) (F:ki X.prog X.w X.K X.mg X.base CX k f fd ps sp) (hr:cI k X.A) (hb:Binds X.K fd ps ds) (hd:Vals g8 ds) (hx:Passes CX X E) (ha:PA X (e::es) t) (i9:starEach (e::es) X.env=(false,eval e X.env)::starEach es X.env:=by rfl) (gT:(backTo pos (starEach es X.env)).any (·.1)=false:=by rfl) (ht:eval (.Call (.Attribute o m apos) (e::es) [] pos) X.env=(do
     let ov ← eval o X.env
     standAt apos.atName
     let (f,first) ← holding [ov] (getMethod ov m pl)
     callWith pos f first (backTo pos (starEach (e::es) X.env)) (backToKw pos (keywordEach [] X.env))):=by rfl) :
   PE X (.Call (.Attribute o m apos) (e::es) [] pos) (wY C m sp g8 E ta t):=by
 intro pins s U H Q I h
 refine W.methodCall_KW (pl:=pl) (cD (he pins s U H _ I h) λ u s1 ⟨x,H1,I1,rx,a,dx,fs,ex,ea,l,q⟩=>?_) ht
 subst ex
 obtain rfl:u=Value.ref a:=rx
 refine sK I1 ea c hm l ?_
 refine W.callWith_K (first:=[.ref a]) (h₀:=X.base) I.ok.mod.Q3 hm.kp (cD (ha pos pins s1 U H1 _ I1 q) λ us s2 ⟨vs,H2,I2,r,q2⟩=>⟨I2.pP,?_⟩) i9 gT
 exact yN (us:=.ref a::us) (vs:=.ref a::vs) F hr hb hd hx I2 (.cons rfl r) q2
theorem EY {pl:Sem Bool} (he:PE X o ta) (c:yb X.K C) (hm:Meth X.K C m f) (F:ki X.prog X.w X.K X.mg X.base CX k f fd ps sp) (hr:cI k X.A) (hb:Binds X.K fd ps ds) (hd:Vals g8 ds) (hx:Passes CX X E) (ht:eval (.Call (.Attribute o m apos) [] [] pos) X.env=(do
     let ov ← eval o X.env
     standAt apos.atName
     let (f,first) ← holding [ov] (getMethod ov m pl)
     callWith pos f first (backTo pos (starEach [] X.env)) (backToKw pos (keywordEach [] X.env))):=by rfl) :
   PE X (.Call (.Attribute o m apos) [] [] pos) (wY C m sp g8 E ta Lx):=by
 intro pins s U H Q I h
 refine W.methodCall_KW (pl:=pl) (cD (he pins s U H _ I h) λ u s1 ⟨x,H1,I1,rx,a,dx,fs,ex,ea,l,q⟩=>?_) ht
 subst ex
 obtain rfl:u=Value.ref a:=rx
 refine sK I1 ea c hm l ?_
 exact W.callWith_K0 (first:=[.ref a]) I1.pP hm.kp (yN (us:=[.ref a]) (vs:=[.ref a]) F hr hb hd hx I1 (.cons rfl .nil) q)
structure Mk (K:W.Frag) (C f:Addr):Prop where
 makes:W.makesIn K C=true
 init:W.findIn K (.ref C) "__init__" = some (some (.ref f))
 fn:W.isFn K (.ref f)=true
 kp:W.keepIn K (.ref C)=true
theorem Eo {s:Shared} {vs:List V} (M:Mk X.K C f) (F:ki X.prog X.w X.K X.mg X.base CX k f fd ps sp) (hr:cI (k+1) X.A) (hb:Binds X.K fd ps ds) (hd:Vals g8 ds) (hx:Passes CX X E) (I:Inv X pins U H s) (r:Vals vs us) (h:∀ x dx,H x=none->H dx=none->dx≠x->sp (.ref x::(vs++g8)) (upd (upd H dx (.own x)) x (.ins C dx [])) (λ v H2=>v = .cf/\Q (.ref x) H2) E) :
   wpAny (model X.prog X.w) X.A (call (.ref C) us) (EP X pins U Q) X.xe s:=by
 have hq:=h (s.heap.objs.size+1) s.heap.objs.size (I.cQ.fresh (ak2 _)) (I.cQ.fresh (aaU _)) (ad8 (amf _))
 have I2:=Inv.made (C:=C) I
 have r2:Vals (V.ref (s.heap.objs.size+1)::(vs++g8)) (Value.ref (s.heap.objs.size+1)::(us++ds)):=.cons rfl (r.append hd)
 have hl:(Value.ref (s.heap.objs.size+1)::us++ds).length=ps.length:=by
   have e:=r2.length
   rw [F.len _ _ _ _ hq] at e
   exact e.symm
 refine wpAny_call (Fz (f:=f) I.pP M.makes M.init (beq_iff_eq.mp M.fn) (amB (F.run _ X.stack _ _ ⟨Value.ref (s.heap.objs.size+1)::us,[]⟩ (Value.ref (s.heap.objs.size+1)::(us++ds)) _ _ E (hr.make C us [])
   (I2.RU.make C us []) (hb _ (Value.ref (s.heap.objs.size+1)::us) I2.pP hl) r2 hq) λ r s' P2=>?_))
 cases r with
 | error e=>exact hx pins U _ _ e s' I2 P2
 | ok fl =>
   cases fl with
   | ret u =>
     obtain ⟨v,H',I3,rv,ev,q3⟩:=I2.after P2
     subst ev
     exact ⟨rv,⟨V.ref (s.heap.objs.size+1),H',I3,rfl,q3⟩⟩
   | next=>exact False.elim P2
   | brk=>exact False.elim P2
   | cont=>exact False.elim P2
theorem Ix (M:Mk X.K C f) (F:ki X.prog X.w X.K X.mg X.base CX k f fd ps sp) (hr:cI (k+1) X.A) (hg:Gl X x) (hm:X.mg x=some (.ref C)) (hb:Binds X.K fd ps ds) (hd:Vals g8 ds) (hx:Passes CX X E) (ha:PA X (e::es) t) (yp:(x == ("__debug__" : Str))=false:=by decide) (he:starEach (e::es) X.env=(false,eval e X.env)::starEach es X.env:=by rfl) (gT:(backTo pos (starEach es X.env)).any (·.1)=false:=by rfl) :
   PE X (.Call (.Name x p) (e::es) [] pos) (Dp C sp g8 E t):=by
 intro pins s U H Q I h
 refine akX (vg I hg hm ?_ yp)
 refine W.callWith_K (h₀:=X.base) I.ok.mod.Q3 M.kp (cD (ha pos pins s U H _ I h) λ us s1 ⟨vs,H1,I1,r,q⟩=>⟨I1.pP,?_⟩) he gT
 exact Eo M F hr hb hd hx I1 r q
end
section
variable {X:Cx} {CX:Gd} {k:Nat} {f C:Addr} {fd:FuncData} {ps ks:List Str} {sp:Sp} {E:XK} {x m:Str} {p pos apos an0:Pos} {e o:Expr} {es:List Expr} {kws:List Keyword} {te ta:TE} {t tk:TA} {nm:Option Str}
variable {g:List Value->List Value->List Value} {gV:List V->List V->List V}
end
structure ay (N P:List Str) (sc:Scope):Prop where
 kind:sc.kind = .function
 co:sc.isCoroutine=false
 gen:sc.isGenerator=false
 nd:N.Nodup
 pre:N.take P.length=P
 par:∀ x∈P,sc.names.lookup x=some .local∨sc.names.lookup x=some .cell
 Mb:∀ y∈sc.names,y.2 ≠ .free
theorem uo {kindOf:Str->Option NameKind} {x:Str}:∀ {binds:List (Str×Value)} {m:Str->Option Value},(∀ v,(x,v)∉binds)->bindL kindOf binds m x=m x
 | [],_,_=>rfl
 | (n,v)::r,m,h=>by
   unfold bindL
   rw [uo λ w hw=>h w (aaS _ hw)]
   split
   . have:x≠n:=by rintro rfl;exact h v abQ
     simp [this]
   . rfl
theorem uc {kindOf:Str->Option NameKind} {x:Str}:∀ {binds:List (Str×Value)} {m:Str->Option Value},(∀ v,(x,v)∉binds)->bindC kindOf binds m x=m x
 | [],_,_=>rfl
 | (n,v)::r,m,h=>by
   unfold bindC
   rw [uc λ w hw=>h w (aaS _ hw)]
   split
   . rfl
   . have:x≠n:=by rintro rfl;exact h v abQ
     simp [this]
theorem uh {kindOf:Str->Option NameKind} {x:Str} {v:Value}:∀ {P:List Str} {vs:List Value} {i:Nat} {m:Str->Option Value},P.Nodup->P[i]?=some x->vs[i]?=some v->kindOf x=some .local ->
   bindL kindOf (P.zip vs) m x=some v
 | [],_,_,_,_,h,_,_=>by simp at h
 | _::_,[],_,_,_,_,h,_=>by simp at h
 | p::P,w::vs,0,m,nd,h1,h2,hk=>by
   simp at h1 h2;subst h1;subst h2
   show bindL kindOf ((p,w)::P.zip vs) m p=_
   unfold bindL
   rw [uo λ v hv=>(List.nodup_cons.mp nd).1 (amn hv).1,ady hk]
   simp
 | p::P,w::vs,i+1,m,nd,h1,h2,hk=>by
   show bindL kindOf ((p,w)::P.zip vs) m x=_
   unfold bindL
   exact uh (i:=i) (List.nodup_cons.mp nd).2 (by simpa using h1) (by simpa using h2) hk
theorem uj {kindOf:Str->Option NameKind} {x:Str} {v:Value}:∀ {P:List Str} {vs:List Value} {i:Nat} {m:Str->Option Value},P.Nodup->P[i]?=some x->vs[i]?=some v->kindOf x≠some .local ->
   bindC kindOf (P.zip vs) m x=some v
 | [],_,_,_,_,h,_,_=>by simp at h
 | _::_,[],_,_,_,_,h,_=>by simp at h
 | p::P,w::vs,0,m,nd,h1,h2,hk=>by
   simp at h1 h2;subst h1;subst h2
   show bindC kindOf ((p,w)::P.zip vs) m p=_
   unfold bindC
   rw [uc λ v hv=>(List.nodup_cons.mp nd).1 (amn hv).1,ac9 hk]
   simp
 | p::P,w::vs,i+1,m,nd,h1,h2,hk=>by
   show bindC kindOf ((p,w)::P.zip vs) m x=_
   unfold bindC
   exact uj (i:=i) (List.nodup_cons.mp nd).2 (by simpa using h1) (by simpa using h2) hk
def start (N:List Str) (vs:List V):St:=vs.map some++List.replicate (N.length - vs.length) none
def oF (CX:Gd) (P:Program) (w:World) (K:W.Frag) (mg:Str->Option Value) (base:Heap) (N:List Str) (qual:Str) (scope:Scope) (f:Addr) (cd:Value) (A:Around) (outer:List Env) (s:Shared) (H:Hp) (E:XK):Cx where
 prog:=P
 w:=w
 K:=K
 mg:=mg
 base:=base
 A:=A.deeper (envOfC qual scope s.heap.objs.size f cd)
 N:=N
 s₀:=s
 H₀:=H
 env:=envOfC qual scope s.heap.objs.size f cd
 outer:=outer
 stack:=envOfC qual scope s.heap.objs.size f cd::outer
 ex:=[]
 calm:=true
 fn:=λ _=>true
 pn:=[]
 xe:=λ e s'=>wpAny (model P w) (A.deeper (envOfC qual scope s.heap.objs.size f cd)) (leaving (envOfC qual scope s.heap.objs.size f cd) e) (λ _ X2=>CX outer H s E e X2) (λ e' X2=>CX outer H s E e' X2) s'
theorem wM {sc:Scope} {n:Nat} {x:Str} (h:sc.names.lookup x=some .cell):∃ c,(cellsFrom n sc.names []).lookup x=some c:=by
 have q:=W.cellsFrom_some sc.names n [] (.inl h)
 exact Option.isSome_iff_exists.mp q
theorem Ch {CX:Gd} {P:Program} {w:World} {K:W.Frag} {mg:Str->Option Value} {base:Heap} {N ps:List Str} {scope:Scope} {f:Addr} {cd:Value} {A:Around} {outer:List Env} {s s1:Shared} {E:XK} {vs:List V} (S:ay N ps scope) (hd:A.handled=none) (e0:zF P w K mg base A outer s H) (hl:vs.length=ps.length) (r:Vals vs us) (x:InCallC s s.heap.objs.size (bindL (envOfC qual scope s.heap.objs.size f cd).kindOf (ps.zip us) λ _=>none) (cellsFrom (s.heap.objs.size+1) scope.names []) (bindC (envOfC qual scope s.heap.objs.size f cd).kindOf (ps.zip us) λ _=>none) s1) :
   Inv (oF CX P w K mg base N qual scope f cd A outer s H E) [] (start N vs) H s1:=by
 have gT:ps.length<=N.length:=by have:=ahP List.length S.pre;rw [adS] at this;lia
 obtain ⟨h1,tk,rfl,hk⟩:=x.done
 have R3:∀ b:Addr,b∉(oF CX P w K mg base N qual scope f cd A outer s H E).ex:=λ b z=>absurd (show b∈([]:List Addr) from z) (by simp)
 refine ⟨⟨e0.mod,S.kind,rfl,rfl,aaU _,λ y z c h1 h2=>?_,λ y hy=>?_,λ y c _ h=>?_,λ _=>hd,Around.frames_deeper e0.frames,.inr ⟨rfl,rfl⟩,λ b z=>absurd z (R3 b),e0.bs,e0.Jp,λ b _ _=>R3 b,λ b z=>absurd z (R3 b),e0.p9,e0.Ma⟩,
   rfl,e0.bare,Un.kept hk,⟨_,x.toInCall.ns,λ i y v h1 h2 h3=>?_⟩,λ y c h=>⟨_,x.cell y c h⟩,e0.cQ.fresh (aaU _),λ y c h=>?_,λ p hp=>absurd (show p∈([]:List (Addr×Obj)) from hp) (by simp),e0.cQ.kept hk,?_⟩
 . exact name_of_addr x.apart (aj8 h1) (aj8 h2)
 .
  have hy:scope.names.lookup y=some .cell∨scope.names.lookup y=some .free:=hy
  rcases hy with hy|hy
  . exact wM hy
  . exact absurd rfl (S.Mb _ (aj8 hy))
 . exact akV (x.above y c (aj8 h))
 .
  have hi:i<vs.length:=by
    unfold start at h2
    by_cases hi:i<vs.length
    . exact hi
    . rw [afw (by simpa using hi)] at h2
      rw [amL] at h2
      split at h2<;>cases h2
  have ha:vs[i]?=some v:=by
    unfold start at h2
    rw [abM (by simpa using hi),aat] at h2
    cases e:vs[i]? with
    | none=>rw [e] at h2;cases h2
    | some a=>rw [e] at h2;cases h2;rfl
  obtain ⟨u,hu,rv⟩:=r.get ha
  have hp:ps[i]?=some y:=by
    rw [← S.pre,amE (by lia)];exact h1
  have ndP:ps.Nodup:=by rw [← S.pre];exact S.nd.sublist (List.take_sublist _ _)
  refine ⟨u,rv,?_⟩
  rcases S.par y (aaK hp) with k|k
  . exact .inl ⟨k,uh ndP hp hu k⟩
  .
   obtain ⟨c,e⟩:=wM (n:=s.heap.objs.size+1) k
   refine .inr ⟨.inl k,c,e,?_⟩
   have q:=x.cell y c e
   rw [uj ndP hp hu (by show scope.names.lookup y≠_;rw [k];decide)] at q
   exact q
 . exact e0.cQ.fresh (akV (x.above y c (aj8 h)))
 .
  unfold start
  show _=N.length
  rw [aaE,zN,akW]
  lia
theorem Kf {CX:Gd} {P:Program} {w:World} {K:W.Frag} {mg:Str->Option Value} {base:Heap} {k:Nat} {f:Addr} {name:Str} {params:Arguments} {body:List Stmt} {scope:Scope} {dV kV doc pm bA ct oc:Value} {an od:Option Addr} {ym:Array (Option Value)} {N ps:List Str} {sp:Sp} (lk:K.lookup f=some ⟨oc,od,.func (W.fnOf name qual params body scope dV kV doc pm an bA ct),ym⟩) (vi:W.codeIn K bA qual=true) (S:ay N ps scope) (len:∀ vs H Q E,sp vs H Q E->vs.length=ps.length) (gP:∀ (A:Around) (outer:List Env) (s:Shared) (H:Hp) (vs:List V) (Q:VK) (E:XK),cI k (A.deeper (envOfC qual scope s.heap.objs.size f bA))->sp vs H Q E ->
     ∃ t,tK (oF CX P w K mg base N qual scope f bA A outer s H E) body t/\t { nx:=λ _ H'=>Q .cf H',rt:=Q } (start N vs) H) :
   ki P w K mg base CX (k+1) f (W.fnOf name qual params body scope dV kV doc pm an bA ct) ps sp:=by
 refine ⟨len,λ A outer s H args us vs Q E hr e0 hb r JU=>?_⟩
 have hl:=len _ _ _ _ JU
 have KX:K.In s.heap:=e0.mod.Q3.keeps λ b o e=>(e0.bs b o e).1
 have lim:s.heap.NoLimit:=e0.mod.nolimit.keeps λ b o e=>(e0.bs b o e).1
 have O9:∀ y∈ps.zip us,scope.names.lookup y.1=some .local∨(scope.names.lookup y.1=some .cell/\((cellsFrom (s.heap.objs.size+1) scope.names []).lookup y.1).isSome=true):=λ ⟨n,v⟩ hy=>by
   rcases S.par n (amn hy).1 with q|q
   . exact .inl q
   . exact .inr ⟨q,W.cellsFrom_some _ _ _ (.inl q)⟩
 refine codeAny_call_function hr.depth (KX _ _ lk) rfl S.co S.gen rfl (W.codeRec_of KX vi) (hb _ _ _ _ ?_)
 refine wpAny_newFunctionEnv_cells S.kind O9 λ env he s1 x=>?_
 subst he
 refine ⟨lim.keeps x.toInCall.keep,codeAny_func ?_⟩
 obtain ⟨t,ht,hq⟩:=gP A outer s H vs Q E (hr.deeper _) JU
 have I:Inv (oF CX P w K mg base N qual scope f bA A outer s H E) [] (start N vs) H s1:=Ch S hr.hd e0 hl r x
 refine aiq (ht [] s1 (start N vs) H _ I hq) (λ fl s' hs=>?_) λ e s' hs=>hs
 have fin:∀ {σ':St} {H':Hp} {v:V} {u:Value},Inv (oF CX P w K mg base N qual scope f bA A outer s H E) [] σ' H' s'->RelV v u->Q v H'->CE outer P w H s Q u s' :=
   λ {σ' H' v u} J rv q=>⟨v,H',J.os,J.bare,J.base,J.cQ,rv,q⟩
 cases fl with
 | ret u =>
   obtain ⟨v,σ',H',J,rv,q⟩:=hs
   exact fin J rv q
 | next =>
   obtain ⟨σ',H',J,q⟩:=hs
   exact fin (v:=V.cf) (u:=Value.none) J rfl q
 | brk =>
   obtain ⟨_,_,_,q⟩:=hs
   exact False.elim q
 | cont =>
   obtain ⟨_,_,_,q⟩:=hs
   exact False.elim q
section
variable {X:Cx} {x:Str} {p pos:Pos} {e:Expr} {es:List Expr} {t:TA} {id T:String} {r:List V->Hp->VK->Prop}
def tCB (r:List V->Hp->VK->Prop) (t:TA):TE:=λ U H Q=>t U H λ vs H1=>r vs H1 Q
theorem aS (hc:hG X (.builtin id) r) (hg:Gl X x) (hm:X.mg x=none) (hv:bootBuiltins x=some (.builtin id)) (ha:PA X (e::es) t) (hn:x ≠ "__name__":=by decide) (yp:(x == ("__debug__" : Str))=false:=by decide) (he:starEach (e::es) X.env=(false,eval e X.env)::starEach es X.env:=by rfl) (gT:(backTo pos (starEach es X.env)).any (·.1)=false:=by rfl):PE X (.Call (.Name x p) (e::es) [] pos) (tCB r t):=by
 intro pins s U H Q I h
 refine akX (i3 I hg hm hv ?_ hn yp)
 exact PyProof.Rows.callWith_builtin1 (cD (ha pos pins s U H _ I h) λ us s1 ⟨vs,H1,I1,r1,q1⟩=>hc pins s1 U H1 vs us Q I1 r1 q1) he gT
theorem cb (hc:hG X (.type T) r) (hg:Gl X x) (hm:X.mg x=none) (hv:bootBuiltins x=some (.type T)) (ha:PA X (e::es) t) (hn:x ≠ "__name__":=by decide) (yp:(x == ("__debug__" : Str))=false:=by decide) (he:starEach (e::es) X.env=(false,eval e X.env)::starEach es X.env:=by rfl) (gT:(backTo pos (starEach es X.env)).any (·.1)=false:=by rfl):PE X (.Call (.Name x p) (e::es) [] pos) (tCB r t):=by
 intro pins s U H Q I h
 refine akX (i3 I hg hm hv ?_ hn yp)
 exact agB (cD (ha pos pins s U H _ I h) λ us s1 ⟨vs,H1,I1,r1,q1⟩=>hc pins s1 U H1 vs us Q I1 r1 q1) he gT
end
end L2
namespace HT
open PySem PyProof.Rows
def lexLt:List Int->List Int->Bool
 | [],[]=>false
 | [],_::_=>true
 | _::_,[]=>false
 | x::xs,y::ys=>if x=y then lexLt xs ys else decide (x<y)
section
open PySem.SeqAt
open PySem.AutoSeq1 (wpAny_loadPart')
open PySem.MeetsSeq PySem.MeetsSeq2 PySem.MeetsSeq3
end
section
variable {prog:Program} {w:World} {A:Around} {E:Value->Shared->Prop} {s:Shared}
theorem GH {t b:Addr} {vs ws:List Value} {Q:Value->Shared->Prop} (ht:IsTup s.heap t vs.toArray) (hb:IsTup s.heap b ws.toArray) (hv:vs≠[])
   (h1:ws=[]->Q (.ref t) s) (h2:ws≠[]->Q (.ref s.heap.objs.size) { s with heap:=s.heap.push { cls:=.type "tuple",data:=.seq (vs++ws).toArray }})
   (hsz:vs.length+ws.length<=sizeLine):wpAny (model prog w) A (binaryOp .Add (.ref t) (.ref b)) Q E s:=by
 obtain ⟨⟨cls,dd,data,sl⟩,ho,hc,n,hd⟩:=id ht
 obtain ⟨⟨abB,LK,data2,J2⟩,KL,LM,n2,hd2⟩:=id hb
 simp only at hc hd LM hd2
 subst hc hd LM hd2
 have e:vs.toArray++ws.toArray=(vs++ws).toArray:=by simp
 by_cases hw:ws=[]
 . exact concat_meets ⟨_,ho,rfl⟩ ⟨_,KL,rfl⟩ amI seq_tuple_add alK alB (alw _ _)
     (tuple_addW1 t b vs.toArray ws.toArray n n2 dd LK sl J2 (by simpa using hv) (by simp [hw])) ⟨ho,KL,h1 hw⟩
 .
  refine concat_meets ⟨_,ho,rfl⟩ ⟨_,KL,rfl⟩ amI seq_tuple_add alK alB (alw _ _)
    (tuple_addW2 t b vs.toArray ws.toArray n n2 dd LK sl J2 (by simpa using hv) (by simpa using hw) (by rw [abY,abY];exact hsz)) ⟨ho,KL,?_⟩
  rw [e]
  exact h2 hw
def wb (n d:Nat):Option Int->Nat
 | none=>d
 | some v=>if v<0 then (v+(n:Int)).toNat else min v.toNat n
theorem Fa (n d:Nat):wb n d none=d:=rfl
theorem Gr (n d k:Nat):wb n d (some (k:Int))=min k n:=by
 show (if (k:Int)<0 then ((k:Int)+(n:Int)).toNat else min (k:Int).toNat n)=min k n
 rw [ac9 (by lia),ag7]
end
end HT
namespace L2
open PySem PySem.Spec PyProof.Rows
variable {H H':Hp} {h':Heap} {bg its':List Value} {pins:List (Addr×Obj)} {t':Nat} {u:Value} {xs:List V} {U:St}
abbrev TO:=St->Hp->(Option Int->Hp->Prop)->Prop
def PO (X:Cx) (e:Option Expr) (t:TO):Prop :=
 ∀ (pins:List (Addr×Obj)) (s:Shared) (U:St) (H:Hp) (Q:Option Int->Hp->Prop),Inv X pins U H s->t U H Q ->
   wpAny (model X.prog X.w) X.A (evalPart e X.env) (λ u s'=>∃ o H',Inv X pins U H' s'/\IsPart u o/\Q o H') X.xe s
def IK:TO:=λ _ H Q=>Q none H
def To (t:TE):TO:=λ U H Q=>t U H λ x H1=>∃ i,x = .int i/\Q (some i) H1
section
variable {X:Cx} {e:Expr} {te:TE} {lo hi:Option Expr} {tl th:TO} {pos p2:Pos}
theorem nX:PO X none IK:=by
 intro pins s U H Q I h
 rw [evalPart_none]
 exact abN ⟨none,H,I,.none,h⟩
theorem nI (h:PE X e te):PO X (some e) (To te):=by
 intro pins s U H Q I hw
 rw [evalPart_some]
 refine cD (h pins s U H _ I hw) λ u s1 ⟨x,H1,I1,r1,q1⟩=>?_
 obtain ⟨i,rfl,q⟩:=q1
 obtain ⟨t,rfl⟩:=r1
 exact ⟨some i,H1,I1,.int i t,q⟩
def Ue (X:Cx) (r:V->Option Int->Option Int->Hp->VK->Prop):Prop :=
 ∀ (pins:List (Addr×Obj)) (s:Shared) (U:St) (H:Hp) (x:V) (v vl vu:Value) (lo hi:Option Int) (sl:Addr) (Q:VK),Inv X pins U H s->RelV x v->s.heap.IsSliceOf sl vl vu .none->IsPart vl lo->IsPart vu hi->r x lo hi H Q ->
   ∃ T id,typeLookup (.type T) "__getitem__" = pure (some (.builtin id))/\s.TypeIs v T/\wpAny (model X.prog X.w) X.A (getItem v (.ref sl)) (EP X pins U Q) X.xe s
def tSl (r:V->Option Int->Option Int->Hp->VK->Prop) (te:TE) (tl th:TO):TE:=λ U H Q=>te U H λ x H1=>tl U H1 λ l H2=>th U H2 λ u H3=>r x l u H3 Q
theorem kr {r:V->Option Int->Option Int->Hp->VK->Prop} (hr:Ue X r) (he:PE X e te) (hl:PO X lo tl) (hu:PO X hi th):PE X (.Subscript e (.Slice lo hi none p2) pos) (tSl r te tl th):=by
 intro pins s U H Q I h
 refine Subscript_ (cD (he pins s U H _ I h) λ v s1 ⟨x,H1,I1,r1,q1⟩=>?_)
 refine wpAny_Slice (cD (hl pins s1 U H1 _ I1 q1) λ vl s2 ⟨l,H2,I2,pl,q2⟩=>cD (hu pins s2 U H2 _ I2 q2) λ vu s3 ⟨u,H3,I3,pu,q3⟩=>?_)
 rw [evalPart_none]
 refine abN ?_
 have I4:Inv X pins U H3 { s3 with heap:=s3.heap.push { cls:=.type "slice",data:=.fields #[vl,vu,.none]}}:=I3.kept (t':=s3.toks) λ b ob q=>abA _ q
 obtain ⟨T,id,hT,ht,hg⟩:=hr pins { s3 with heap:=s3.heap.push { cls:=.type "slice",data:=.fields #[vl,vu,.none]}} U H3 x v vl vu l u s3.heap.objs.size Q I4 r1 (Heap.IsSliceOf.new ..) pl pu q3
 show wpAny (model X.prog X.w) X.A (subscriptTail e (.Slice lo hi none p2) v (.ref s3.heap.objs.size)) (EP X pins U Q) X.xe { s3 with heap:=s3.heap.push { cls:=.type "slice",data:=.fields #[vl,vu,.none]}}
 exact tail_any (ops:=[.ref s3.heap.objs.size,v]) ht hT hg (by with_unfolding_all rfl)
def zA (xs:List V) (lo hi:Option Int):List V:=(xs.drop (HT.wb xs.length 0 lo)).take (HT.wb xs.length xs.length hi - HT.wb xs.length 0 lo)
theorem wn (xs:List V) (lo hi:Option Int):(zA xs lo hi).length<=xs.length:=by
 unfold zA
 rw [adS,List.length_drop]
 lia
inductive Q0 (K:W.Frag) (x:V) (y:V) (H:Hp) (Q:VK):Prop
 | mk (a b xs ys:_) (_:x = .ref a) (_:y = .ref b) (_:bO K H a xs) (_:bO K H b ys) (_:xs≠[]) (_:xs.length+ys.length<=sizeLine) (_:(ys=[]->Q (.ref a) H)) (_:(ys≠[]->∀ p,H p=none->Q (.ref p) (upd H p (.tup (xs++ys)))))
theorem Vals.qG {us:List Value} (r:Vals xs us):us=[]↔xs=[]:=by
 cases r with
 | nil=>simp
 | cons _ _=>simp
theorem Jj:iO X (binaryOp .Add) (Q0 X.K):=by
 intro pins s U H x y v u Q I rx ry h
 obtain ⟨a,b,xs,ys,rfl,rfl,ha,hb,hx,hz,q1,q2⟩:=h
 cases rx
 cases ry
 obtain ⟨bg,r1,p1,_⟩:=I.tuple ha
 obtain ⟨mm,r2,p2,_⟩:=I.tuple hb
 refine HT.GH p1 p2 (λ z=>hx (r1.qG.mp z)) (λ z=>⟨.ref a,H,I,rfl,q1 (r2.qG.mp z)⟩) (λ z=>?_) (by rw [← r1.length,← r2.length];exact hz)
 refine ⟨.ref s.heap.objs.size,_,I.laid (t':=s.toks) (o:=.tup (xs++ys)) (λ b ob q=>abA _ q) (aaU _) ?_,rfl,q2 (λ w=>z (r2.qG.mpr w)) _ (I.cQ.fresh (aaU _))⟩
 exact ⟨by rw [aaE];exact hz,_,r1.append r2,IsTup.new _ _⟩
end
def Di (n:Nat) (i:Int):Option Nat:=if 0<=i then (if i<n then some i.toNat else none) else if -(n:Int)<=i then some (i+n).toNat else none
def ud {α:Type} (xs:List α) (i:Int):Option α:=(Di xs.length i).bind λ j=>xs[j]?
theorem Aw {n:Nat} {i:Int} {j:Nat} (h:Di n i=some j):seqIndex? i n=some j/\j<n/\-(n:Int)<=i/\i<n:=by
 unfold Di at h
 by_cases h0:0<=i
 .
  rw [ady h0] at h
  by_cases h1:i<n
  . rw [ady h1] at h
    have e:i.toNat=j:=abG h
    exact ⟨by rw [seqIndex_of h0 h1,e],by lia,by lia,h1⟩
  . rw [ac9 h1] at h;cases h
 .
  rw [ac9 h0] at h
  by_cases h1 : -(n:Int)<=i
  . rw [ady h1] at h
    have e:(i+n).toNat=j:=abG h
    exact ⟨by rw [seqIndex_neg (by lia) h1,e],by lia,h1,by lia⟩
  . rw [ac9 h1] at h;cases h
theorem AV {α:Type} {xs:List α} {i:Int} {v:α} (h:ud xs i=some v):∃ j,seqIndex? i xs.length=some j/\xs[j]?=some v/\j<xs.length/\-(xs.length:Int)<=i/\i<xs.length:=by
 unfold ud at h
 cases e:Di xs.length i with
 | none=>rw [e] at h;cases h
 | some j =>
   rw [e] at h
   obtain ⟨h1,h2,h3,h4⟩:=Aw e
   exact ⟨j,h1,h,h2,h3,h4⟩
theorem bF {α:Type} {xs:List α} {j:Nat} {v:α} (h:xs[j]?=some v):ud xs (j:Int)=some v:=by
 have hj:j<xs.length:=(List.getElem?_eq_some_iff.mp h).1
 have e:Di xs.length (j:Int)=some j:=by
   unfold Di
   rw [ady (by lia),ady (by lia)];simp
 unfold ud;rw [e];exact h
def GJ (b:Expr):Prop:=∀ o i,subscripted b false o i=operate [o,i] (getItem o i)
def QF (X:Cx) (r:R2):Prop :=
 ∀ (value slice:Expr) (pins:List (Addr×Obj)) (s:Shared) (U:St) (H:Hp) (x y:V) (v u:Value) (Q:VK),Inv X pins U H s->RelV x v->RelV y u->r x y H Q ->
   subscripted slice false v u=operate [v,u] (getItem v u)->wpAny (model X.prog X.w) X.A (subscriptTail value slice v u) (EP X pins U Q) X.xe s
def MtR (X:Cx) (id:String) (r:V->List V->Hp->VK->Prop):Prop :=
 ∀ (pins:List (Addr×Obj)) (s:Shared) (U:St) (H:Hp) (x:V) (xs:List V) (v:Value) (us:List Value) (Q:VK),Inv X pins U H s->RelV x v->Vals xs us->r x xs H Q ->
   wpAny (model X.prog X.w) X.A (call (.builtin id) (v::us)) (EP X pins U Q) X.xe s
section
variable {X:Cx} {a b:Expr} {ta tb:TE} {pos:Pos}
theorem aB {r:R2} (hr:QF X r) (ha:PE X a ta) (hb:PE X b tb) (hs:GJ b):PE X (.Subscript a b pos) (M1 r ta tb):=by
 intro pins s U H Q I h
 exact Subscript_ (Li ha hb I h λ v u s2 x y H2 I2 rx ry q=>hr a b pins s2 U H2 x y v u Q I2 rx ry q (hs _ _))
inductive aeH (K:W.Frag) (x:V) (y:V) (H:Hp) (Q:VK):Prop
 | mk (p xs i v:_) (_:x = .ref p) (_:y = .int i) (_:aR K H p xs) (_:ud xs i=some v) (_:Q v H)
inductive ahB (K:W.Frag) (x:V) (y:V) (H:Hp) (Q:VK):Prop
 | mk (p xs i v:_) (_:x = .ref p) (_:y = .int i) (_:bO K H p xs) (_:ud xs i=some v) (_:Q v H)
theorem Jn:QF X (aeH X.K):=by
 intro value slice pins s U H x y v u Q I rx ry h hs
 obtain ⟨p,xs,i,z,rfl,rfl,hq,he,q⟩:=h
 cases rx
 obtain ⟨t,rfl⟩:=ry
 obtain ⟨bg,r,pl,hz⟩:=I.list hq
 obtain ⟨j,h1,h2,h3,h4,h5⟩:=AV he
 obtain ⟨w,ew,yQ⟩:=r.get h2
 have hl:=r.length
 have hn:=rm
 have fin:EP X pins U Q w s:=⟨z,H,I,yQ,q⟩
 by_cases h0:0<=i
 .
  have hj:i.toNat=j:=by
    rw [seqIndex_of h0 h5] at h1
    exact abG h1
  exact item_listR pl.isList h0 (by lia) (by rw [hj];simpa using ew) fin hs
 .
  have hj:(i+(bg.toArray.size:Int)).toNat=j:=by
    rw [seqIndex_neg (by lia) h4] at h1
    rw [abY,← hl]
    exact abG h1
  exact subscriptTail_builtinR (x:=w) pl.isList.typeIs slot_list_getitem.lookup
    (wpAny_getItem_list_neg (Q:=λ r s'=>r=w/\EP X pins U Q r s') pl.isList (by lia) (by rw [abY]<;>lia) (by lia) (by rw [hj];simpa using ew) ⟨rfl,fin⟩) hs
theorem Lu:QF X (ahB X.K):=by
 intro value slice pins s U H x y v u Q I rx ry h hs
 obtain ⟨p,xs,i,z,rfl,rfl,hq,he,q⟩:=h
 cases rx
 obtain ⟨t,rfl⟩:=ry
 obtain ⟨bg,r,pl,hz⟩:=I.tuple hq
 obtain ⟨j,h1,h2,h3,h4,h5⟩:=AV he
 obtain ⟨w,ew,yQ⟩:=r.get h2
 have hl:=r.length
 have hn:=rm
 have fin:EP X pins U Q w s:=⟨z,H,I,yQ,q⟩
 exact subscriptTail_builtinR (x:=w) pl.typeIs slot_tuple_getitem.lookup
   (getItem_tuple (j:=j) (Q:=λ r s'=>r=w/\EP X pins U Q r s') pl (by lia) (by lia) (by rw [abY,← hl];exact h1) (by simpa using ew) ⟨rfl,fin⟩) hs
theorem zC (bg:List Value) (n j:Nat) (u:Value):Obj.mapSeq (·.setIfInBounds j u) { cls:=.type "list",data:=.seq bg.toArray n }={ cls:=.type "list",data:=.seq (bg.set j u).toArray n }:=by
 simp [Obj.mapSeq]
theorem Inv.lst {s:Shared} {p:Addr} (I:Inv X pins U H s) (h:H p=some (.lst xs)) :
   ∃ (bg:List Value) (n:Nat),Vals xs bg/\s.heap.get? p=some { cls:=.type "list",data:=.seq bg.toArray n }/\xs.length<=sizeLine:=by
 obtain ⟨z,bg,n,r,e⟩:=I.cQ p _ h
 exact ⟨bg,n,r,e,z⟩
theorem Inv.Kv {s:Shared} {p:Addr} {ys:List V} {n n':Nat} {f:Obj->Obj} (I:Inv X pins U H s) (h:H p=some (.lst xs)) (ho:s.heap.get? p=some { cls:=.type "list",data:=.seq bg.toArray n }) (hf:f { cls:=.type "list",data:=.seq bg.toArray n }={ cls:=.type "list",data:=.seq its'.toArray n' }) (r:Vals ys its') (hz:ys.length<=sizeLine) (t:Nat) :
   Inv X pins U (upd H p (.lst ys)) { s with heap:=s.heap.update p f,toks:=t }:=by
 have e:(s.heap.update p f).get? p=some { cls:=.type "list",data:=.seq its'.toArray n' }:=by
   rw [al8 f ho (by rw [hf]<;>rfl),hf]
 refine I.write (x:=p) (e:=p) (by rw [h];trivial) (.inl rfl) (λ b u hb q=>(Heap.get?_update_other _ _ (alk hb)).trans q) ⟨_,e⟩ ?_
 exact ⟨hz,its',n',r,e⟩
def Ry:V->V->V->Hp->(Hp->Prop)->Prop:=λ o i v H Q=>∃ p xs k j,o = .ref p/\i = .int k/\H p=some (.lst xs)/\Di xs.length k=some j/\Q (upd H p (.lst (xs.set j v)))
theorem set_list:Mi X Ry:=by
 intro pins s U H o i v ov iv u Q I ro ri rv h
 obtain ⟨p,xs,k,j,rfl,rfl,hp,hj,q⟩:=h
 cases ro
 obtain ⟨t,rfl⟩:=ri
 obtain ⟨bg,n,r,ho,hz⟩:=I.lst hp
 obtain ⟨h1,h2,h3,h4⟩:=Aw hj
 have hl:=r.length
 have hn:=rm
 have I':Inv X pins U (upd H p (.lst (xs.set j v))) { s with heap:=s.heap.update p (Obj.mapSeq (·.setIfInBounds j u))} :=
   I.Kv hp ho (zC bg n j u) (r.set rv j) (by rw [aho];exact hz) s.toks
 by_cases h0:0<=k
 .
  have hk:k.toNat=j:=by
    rw [seqIndex_of h0 h4] at h1
    exact abG h1
  exact W.ki_setAt ho h0 (by lia) (by rw [abY,← hl];exact h4) (by rw [hk];exact ⟨_,I',q⟩)
 .
  have hk:(k+(bg.toArray.size:Int)).toNat=j:=by
    rw [seqIndex_neg (by lia) h3] at h1
    rw [abY,← hl]
    exact abG h1
  exact W.ki_setBack ho (by lia) (by rw [abY,← hl];exact h3) (by lia) (by rw [hk];exact ⟨_,I',q⟩)
theorem uW (lo hi:Option Int) (n:Nat):(sliceBounds lo hi none n).1=((HT.wb n 0 lo:Nat):Int)/\(sliceBounds lo hi none n).2.1=((HT.wb n n hi:Nat):Int)/\(sliceBounds lo hi none n).2.2=1:=by
 refine ⟨?_,?_,rfl⟩
 .
  cases lo with
  | none=>simp [sliceBounds,HT.wb]
  | some i =>
    simp only [sliceBounds,HT.wb,Option.getD_none,show (1:Int) > 0 by decide,alf]
    by_cases h:i<0
    . simp only [h,alf]<;>lia
    . simp only [h,alc]<;>lia
 .
  cases hi with
  | none=>simp [sliceBounds,HT.wb]
  | some i =>
    simp only [sliceBounds,HT.wb,Option.getD_none,show (1:Int) > 0 by decide,alf]
    by_cases h:i<0
    . simp only [h,alf]<;>lia
    . simp only [h,alc]<;>lia
theorem tO (bg:List Value) (lo hi:Option Int):slicePick bg.toArray lo hi none=((bg.drop (HT.wb bg.length 0 lo)).take (HT.wb bg.length bg.length hi - HT.wb bg.length 0 lo)).toArray:=by
 obtain ⟨h1,h2,h3⟩:=uW lo hi bg.toArray.size
 unfold slicePick
 rw [h1,h2,h3]
 simp only [sliceRange_one,pick_run,abY]<;>rfl
inductive Vv (K:W.Frag) (x:V) (lo:Option Int) (hi:Option Int) (H:Hp) (Q:VK):Prop
 | mk (a xs:_) (_:x = .ref a) (_:aR K H a xs) (_:∀ p,H p=none->Q (.ref p) (upd H p (.lst (zA xs lo hi))))
theorem Gu:Ue X (Vv X.K):=by
 intro pins s U H x v vl vu lo hi sl Q I rx hs pl pu h
 obtain ⟨a,xs,rfl,hx,q⟩:=h
 cases rx
 obtain ⟨bg,r,ht,hz⟩:=I.list hx
 have hlen:=r.length
 refine ⟨"list",_,slot_list_getitem.lookup,ht.isList.typeIs,?_⟩
 refine wpAny_getItem_list_slice ht.isList hs pl pu .none (by simp) ?_ (by rw [abY]<;>lia)
 rw [tO,← hlen]
 refine ⟨.ref s.heap.objs.size,_,I.laid (t':=s.toks) (o:=.lst (zA xs lo hi)) (λ b ob q=>abA _ q) (aaU _) ?_,rfl,q _ (I.cQ.fresh (aaU _))⟩
 exact ⟨acS (wn xs lo hi) hz,_,0,(r.drop (HT.wb xs.length 0 lo)).take (HT.wb xs.length xs.length hi - HT.wb xs.length 0 lo),aep _ rfl⟩
theorem uM:hG X (.builtin "len") (λ xs H Q=>∃ p ys,xs=[.ref p]/\(aR X.K H p ys∨bO X.K H p ys)/\Q (.int ys.length) H):=by
 intro pins s U H xs us Q I r h
 obtain ⟨p,ys,rfl,hq,q⟩:=h
 obtain ⟨u,rfl,rx⟩:=vals1 r
 cases rx
 have hn:=rm
 rcases hq with hq|hq
 . obtain ⟨bg,r',pl,hz⟩:=I.list hq
   have hlen:=r'.length
   exact Calls.call_len_list pl.isList (by simp only [abY]<;>lia) ⟨.int ys.length,H,I.tok _,⟨s.toks+1,by rw [abY,hlen]⟩,q⟩
 . obtain ⟨bg,r',pl,hz⟩:=I.tuple hq
   have hlen:=r'.length
   exact len_tuple pl (by simp only [abY]<;>lia) ⟨.int ys.length,H,I.tok _,⟨s.toks+1,by rw [abY,hlen]⟩,q⟩
theorem ia:hG X (.type "list") (λ xs H Q=>∃ p ys,xs=[.ref p]/\(aR X.K H p ys∨bO X.K H p ys)/\∀ l,H l=none->Q (.ref l) (upd H l (.lst ys))):=by
 intro pins s U H xs us Q I r h
 obtain ⟨p,ys,rfl,hq,q⟩:=h
 obtain ⟨u,rfl,rx⟩:=vals1 r
 cases rx
 have fin:∀ (bg:List Value),Vals ys bg->ys.length<=sizeLine->∀ (h':Heap) (c':Nat),(∀ b o',s.heap.get? b=some o'->h'.get? b=some o') ->
     h'.get? s.heap.objs.size=some { cls:=.type "list",dict:=none,data:=.seq bg.toArray c',slots:=#[]}->EP X pins U Q (.ref s.heap.objs.size) { s with heap:=h' }:=λ bg r' hz h' c' kp e =>
   ⟨.ref s.heap.objs.size,_,I.laid (t':=s.toks) kp (aaU _) (show cO X.prog X.w _ h' _ (.lst ys) from ⟨hz,bg,c',r',e⟩),rfl,q _ (I.cQ.fresh (aaU _))⟩
 rcases hq with hq|hq
 .
  obtain ⟨bg,r',pl,hz⟩:=I.list hq
  have hlen:=r'.length
  obtain ⟨o,ho,hc,n,hd⟩:=pl.isList
  exact call_list_seq p (.inl rfl) ho hc hd (λ h' c' kp e=>fin bg r' hz h' c' kp e) (by simp only [abY]<;>lia)
 .
  obtain ⟨bg,r',pl,hz⟩:=I.tuple hq
  have hlen:=r'.length
  obtain ⟨o,ho,hc,n,hd⟩:=pl
  exact call_list_seq p (.inr rfl) ho hc hd (λ h' c' kp e=>fin bg r' hz h' c' kp e) (by simp only [abY]<;>lia)
theorem dQ:hG X (.type "tuple") (λ xs H Q=>∃ p ys,xs=[.ref p]/\((aR X.K H p ys/\∀ l,H l=none->Q (.ref l) (upd H l (.tup ys)))∨(bO X.K H p ys/\Q (.ref p) H))):=by
 intro pins s U H xs us Q I r h
 obtain ⟨p,ys,rfl,h⟩:=h
 obtain ⟨u,rfl,rx⟩:=vals1 r
 cases rx
 rcases h with ⟨hq,q⟩|⟨hq,q⟩
 .
  obtain ⟨bg,r',pl,hz⟩:=I.list hq
  have hlen:=r'.length
  refine call_tuple_list pl.isList (λ h' kp=>?_) (by simp only [abY]<;>lia)
  have I1:Inv X pins U H { s with heap:=h' }:=I.kept (t':=s.toks) kp
  have I2:Inv X pins U (upd H h'.objs.size (.tup ys)) { s with heap:=h'.push { cls:=.type "tuple",data:=.seq bg.toArray }} :=
    I1.laid (t':=s.toks) (λ b o e=>abA _ e) (aaU _) (show cO X.prog X.w _ _ _ (.tup ys) from ⟨hz,bg,r',IsTup.new _ _⟩)
  exact ⟨.ref h'.objs.size,_,I2,rfl,q _ (I1.cQ.fresh (aaU _))⟩
 . obtain ⟨bg,r',pl,hz⟩:=I.tuple hq
   exact call_tuple_same pl ⟨.ref p,H,I,rfl,q⟩
def tyV (K:W.Frag) (T:String) (x:V) (H:Hp):Prop:=match x with
 | .str _=>T = "str"
 | .int _=>T = "int"
 | .ref p=>(T = "list"/\∃ xs,aR K H p xs)∨(T = "tuple"/\∃ o,K.lookup p=some o/\o.cls = .type "tuple"/\o.dict=none) ∨
     (T = "dict"/\((∃ ax,H p=some (.dK ax))∨∃ ax,H p=some (.dT ax)))∨(T = "set"/\∃ S n,H p=some (.set S n))
 | _=>False
theorem Fe {s:Shared} {T:String} {x:V} {v:Value} (I:Inv X pins U H s) (r:RelV x v) (ty:tyV X.K T x H) :
   s.TypeIs v T/\∀ a,v = .ref a->∃ ob,s.heap.get? a=some ob/\ob.dict=none:=by
 cases x with
 | str z =>
   obtain ⟨t,rfl⟩:=r
   cases (show T = "str" from ty)
   exact ⟨typeIs_str s z t,λ _ e=>nomatch e⟩
 | int i =>
   obtain ⟨t,rfl⟩:=r
   cases (show T = "int" from ty)
   exact ⟨typeIs_int s i t,λ _ e=>nomatch e⟩
 | ref p =>
   cases r
   rcases ty with ⟨rfl,xs,hq⟩|⟨rfl,o,hk,hc,hd⟩|⟨rfl,hk⟩|⟨rfl,S,n,hk⟩
   . obtain ⟨bg,_,pl,_⟩:=I.list hq
     refine ⟨pl.isList.typeIs,λ a e=>?_⟩
     cases e
     obtain ⟨o,n,e,c,hd,_⟩:=pl
     exact ⟨o,e,hd⟩
   . refine ⟨⟨o,I.pP p o hk,hc⟩,λ a e=>?_⟩
     cases e
     exact ⟨o,I.pP _ o hk,hd⟩
   .
    have z:∃ o,s.heap.get? p=some o/\o.ExactDict:=by
      rcases hk with ⟨ax,hk⟩|⟨ax,hk⟩
      . obtain ⟨_,_,_,_,o,_,_,e,ex,_⟩:=I.cQ p _ hk
        exact ⟨o,e,ex⟩
      . obtain ⟨_,_,_,_,o,_,_,e,ex,_⟩:=I.cQ p _ hk
        exact ⟨o,e,ex⟩
    obtain ⟨o,e,ex⟩:=z
    refine ⟨⟨o,e,ex.1⟩,λ a e2=>?_⟩
    cases e2
    exact ⟨o,e,ex.2.1⟩
   . obtain ⟨o,_,_,_,e,ex,_⟩:=I.cQ p _ hk
     refine ⟨⟨o,e,ex.1⟩,λ a e2=>?_⟩
     cases e2
     exact ⟨o,e,ex.2.1⟩
 | _=>exact False.elim ty
def aeu (K:W.Frag) (T:String) (r:V->List V->Hp->VK->Prop) (to:TE):TE:=λ U H Q=>to U H λ x H1=>tyV K T x H1/\r x [] H1 Q
def tBM (K:W.Frag) (T:String) (r:V->List V->Hp->VK->Prop) (to:TE) (t:TA):TE:=λ U H Q=>to U H λ x H1=>tyV K T x H1/\t U H1 λ xs H2=>r x xs H2 Q
variable {o e:Expr} {es:List Expr} {to:TE} {t:TA} {name:Str} {apos kD:Pos} {T id:String} {r:V->List V->Hp->VK->Prop}
theorem Kl (pa:PlainAttrs T) (slot:Slot T name id) (hty:typeOf (.builtin id)=pure (.type "method_descriptor")) (hm:MtR X id r) (ho:PE X o to) (EH:attributeBase o name X.env (eval o X.env)=eval o X.env:=by rfl) (Dz:(apos.endLine == kD.line)=true:=by rfl):PE X (.Call (.Attribute o name apos) [] [] kD) (aeu X.K T r to):=by
 intro pins s U H Q I h
 refine wpAny_Call_method0_late EH Dz (cD (ho pins s U H _ I h) λ v s1 ⟨x,H1,I1,r1,ty,q1⟩=>?_)
 obtain ⟨h1,h2⟩:=Fe I1 r1 ty
 exact ⟨T,id,pa,slot,hty,h1,h2,al2 rfl (PySem.evalArgs_none (hm pins s1 U H1 x [] v [] Q I1 r1 .nil q1))⟩
theorem gJ (pa:PlainAttrs T) (slot:Slot T name id) (hty:typeOf (.builtin id)=pure (.type "method_descriptor")) (hm:MtR X id r) (ho:PE X o to) (ha:PA X (e::es) t) (EH:attributeBase o name X.env (eval o X.env)=eval o X.env:=by rfl) (aaH:((backTo kD (starEach (e::es) X.env)).all (λ x => !x.1) && (backToKw kD (keywordEach [] X.env)).all (λ x=>x.1.isSome)
     && decide ((e::es).length+([]:List Keyword).length+(if ([]:List Keyword).isEmpty then 0 else 1)<30))=true:=by rfl) (Dz:(apos.endLine == kD.line)=true:=by rfl) (hs:starEach (e::es) X.env=(false,eval e X.env)::starEach es X.env:=by rfl) (Lk:(backTo kD (starEach es X.env)).any (·.1)=false:=by rfl) :
   PE X (.Call (.Attribute o name apos) (e::es) [] kD) (tBM X.K T r to t):=by
 intro pins s U H Q I h
 refine wpAny_Call_method_late EH aaH Dz rfl (cD (ho pins s U H _ I h) λ v s1 ⟨x,H1,I1,r1,ty,q1⟩=>?_)
 obtain ⟨h1,h2⟩:=Fe I1 r1 ty
 refine ⟨T,id,pa,slot,hty,h1,h2,?_⟩
 have hA:=ha kD pins s1 U H1 _ I1 q1
 rw [hs] at hA ⊢
 refine al2 (by show (false || (backTo kD (starEach es X.env)).any (·.1))=false;rw [Lk]<;>rfl) (Calls.evalArgs_plain ?_)
 exact cD hA λ us s2 ⟨vs,H2,I2,r2,q2⟩=>hm pins s2 U H2 x vs v us Q I2 r1 r2 q2
end
def MtM (X:Cx) (id:String) (r:V->List V->Hp->VK->Prop):Prop :=
 ∀ (pins:List (Addr×Obj)) (s:Shared) (U:St) (H:Hp) (x:V) (xs:List V) (v:Value) (us:List Value) (Q:VK),Inv X pins U H s->RelV x v->Vals xs us->r x xs H Q ->
   wpAny (model X.prog X.w) X.A (call (.builtin id) (v::us)) (EP X pins U Q) X.xe s
theorem Vals.one:∀ {x:V} {us:List Value},Vals [x] us->∃ u,us=[u]/\RelV x u
 | _,_,.cons r .nil=>⟨_,rfl,r⟩
theorem Vals.zero:∀ {us:List Value},Vals [] us->us=[]
 | _,.nil=>rfl
section
variable {X:Cx} {pins:List (Addr×Obj)} {U:St} {H:Hp} {s:Shared} {l b:Addr} {xs ys zs:List V}
theorem Inv.Pt {n:Nat} {f:Array Value->Array Value} {t':Nat} (I:Inv X pins U H s) (hH:H l=some (.lst xs)) (e:s.heap.get? l=some { cls:=.type "list",data:=.seq bg.toArray n }) (hf:f bg.toArray=its'.toArray) (hv:Vals ys its') (hz:ys.length<=sizeLine) :
   Inv X pins U (upd H l (.lst ys)) { s with heap:=s.heap.update l (Obj.mapSeq f),toks:=t' }:=by
 have q:=PySem.IsL.update e f
 rw [hf] at q
 refine I.write (x:=l) (e:=l) (by rw [hH];exact trivial) (.inl rfl) (λ b' u hb hu=>(Heap.get?_update_other s.heap (Obj.mapSeq f) (alk hb)).trans hu) ⟨_,q⟩ ?_
 exact ⟨hz,its',_,hv,q⟩
theorem Inv.U8 {t':Nat} (I:Inv X pins U H s) (hv:Vals ys bg) (hz:ys.length<=sizeLine) :
   Inv X pins U (upd H s.heap.objs.size (.lst ys)) { s with heap:=s.heap.push { cls:=.type "list",data:=.seq bg.toArray },toks:=t' } :=
 I.laid (λ _ _ q=>abA _ q) (aaU _) ⟨hz,bg,0,hv,aep _ rfl⟩
theorem Inv.fresh (I:Inv X pins U H s):H s.heap.objs.size=none:=I.cQ.fresh (aaU _)
theorem Inv.FH (I:Inv X pins U H s) (hH:H l=some (.lst xs)):xs.length<=sizeLine/\∃ (bg:List Value) (n:Nat),Vals xs bg/\xs.length=bg.length/\s.heap.get? l=some { cls:=.type "list",data:=.seq bg.toArray n }:=by
 obtain ⟨z,bg,n,r,e⟩:=I.cQ l _ hH
 exact ⟨z,bg,n,r,r.length,e⟩
theorem Fp {n:Nat} (h:n<=sizeLine):Builtin.List.listTooLong n=false:=by
 unfold Builtin.List.listTooLong
 exact ac7 (by lia)
end
section
variable {X:Cx}
inductive Ho  (x:V) (vs:List V) (H:Hp) (Q:VK):Prop
 | mk (l xs y:_) (_:x = .ref l) (_:vs=[y]) (_:H l=some (.lst xs)) (_:xs.length<sizeLine) (_:Q .cf (upd H l (.lst (xs++[y]))))
theorem bX:MtM X "list.append" Ho:=by
 intro pins s U H x vs v us Q I rx rv h
 obtain ⟨l,xs,y,rfl,rfl,hH,hz,q⟩:=h
 cases rx
 obtain ⟨u,rfl,ru⟩:=rv.one
 obtain ⟨z,bg,n,r,hl,e⟩:=I.FH hH
 refine call_meets F.slot_list_append ⟨_,e,rfl⟩ F.entry_list_append (F.args_list_append_2 _ _) (PySem.list_append l bg.toArray n u (by rw [abY];lia)) ⟨e,?_⟩
 refine ⟨.cf,_,I.Pt (its':=bg++[u]) hH e (by simp) (r.append (.cons ru .nil)) ?_,rfl,q⟩
 rw [aaE,acG]
 lia
inductive Ia  (x:V) (vs:List V) (H:Hp) (Q:VK):Prop
 | mk (l b xs zs:_) (_:x = .ref l) (_:vs=[.ref b]) (_:H l=some (.lst xs)) (_:H b=some (.lst zs)) (_:xs.length+zs.length<=sizeLine) (_:Q .cf (upd H l (.lst (xs++zs))))
theorem ug:MtM X "list.extend" Ia:=by
 intro pins s U H x vs v us Q I rx rv h
 obtain ⟨l,b,xs,zs,rfl,rfl,hH,hB,hz,q⟩:=h
 cases rx
 obtain ⟨u,rfl,ru⟩:=rv.one
 cases ru
 obtain ⟨z,bg,n,r,hl,e⟩:=I.FH hH
 obtain ⟨z2,mm,n2,r2,wj,e2⟩:=I.FH hB
 have hsz:bg.toArray.size+mm.toArray.size<=sizeLine:=by rw [abY,abY];lia
 have Pl:¬ (!bg.toArray.isEmpty && Builtin.List.listTooLong (bg.toArray.size+mm.toArray.size))=true:=by
   rw [Fp hsz,Bool.and_false]
   exact ac8
 refine call_meets F.slot_list_extend ⟨_,e,rfl⟩ F.entry_list_extend (F.args_list_extend_2 _ _)
   (AutoSeq1.list_extend_list_list_0 l bg.toArray n b mm.toArray n2 Pl (by rw [abY];lia) (by lia)) ⟨e,e2,?_⟩
 refine ⟨.cf,_,I.Pt (its':=bg++mm) hH e (by simp) (r.append r2) ?_,rfl,q⟩
 rw [aaE]
 lia
inductive abL  (x:V) (y:V) (H:Hp) (Q:VK):Prop
 | mk (l b xs zs:_) (_:x = .ref l) (_:y = .ref b) (_:H l=some (.lst xs)) (_:H b=some (.lst zs)) (_:xs.length+zs.length<=sizeLine) (_:∀ p,H p=none->Q (.ref p) (upd H p (.lst (xs++zs))))
theorem Ep:iO X (binaryOp .Add) abL:=by
 intro pins s U H x y v u Q I rx ry h
 obtain ⟨l,b,xs,zs,rfl,rfl,hH,hB,hz,q⟩:=h
 cases rx
 cases ry
 obtain ⟨z,bg,n,r,hl,e⟩:=I.FH hH
 obtain ⟨z2,mm,n2,r2,wj,e2⟩:=I.FH hB
 refine PySem.P.add_list e e2 ?_ (by rw [abY,abY];lia)
 have ea:bg.toArray++mm.toArray=(bg++mm).toArray:=by simp
 rw [ea]
 exact ⟨.ref _,_,I.U8 (t':=s.toks) (r.append r2) (by rw [aaE];lia),rfl,q _ I.fresh⟩
end
section
variable {κ:Type} [DecidableEq κ]
def ga (ax:List (κ×V)) (k:κ):Option V:=(ax.find? λ kv=>decide (kv.1=k)).map (·.2)
def putK (ax:List (κ×V)) (k:κ) (v:V):List (κ×V) :=
 if (ax.any λ kv=>decide (kv.1=k))=true then ax.map (λ kv=>if kv.1=k then (kv.1,v) else kv) else ax++[(k,v)]
theorem eh {p:κ×V} {r:List (κ×V)} {k:κ} (e:p.1=k):ga (p::r) k=some p.2:=by simp [ga,agv,e]
theorem eJ {p:κ×V} {r:List (κ×V)} {k:κ} (e:¬ p.1=k):ga (p::r) k=ga r k:=by simp [ga,agv,e]
theorem jd (k:κ):∀ ax:List (κ×V),(ax.any λ kv=>decide (kv.1=k))=(ga ax k).isSome
 | []=>rfl
 | p::r=>by
   rw [alE]
   by_cases e:p.1=k
   . simp only [eh e,adD e,Bool.true_or,Option.isSome_some]
   . rw [eJ e,ac7 e,Bool.false_or];exact jd k r
theorem xb (k j:κ) (y:V):∀ ax:List (κ×V),ga (ax.map λ kv=>if kv.1=k then (kv.1,y) else kv) j=(ga ax j).map λ x=>if j=k then y else x
 | []=>rfl
 | p::r=>by
   have ih:=xb k j y r
   rw [ael]
   by_cases h:p.1=k
   . rw [ady h]
     by_cases e:p.1=j
     . rw [eh (p:=(p.1,y)) e,eh e,alj,ady (e.symm.trans h)]
     . rw [eJ (p:=(p.1,y)) e,eJ e,ih]
   . rw [ac9 h]
     by_cases e:p.1=j
     . rw [eh (p:=p) e,eh e,alj,ac9 (λ z=>h (e.trans z))]
     . rw [eJ (p:=p) e,eJ e,ih]
theorem uu (k j:κ) (y:V):∀ ax:List (κ×V),ga ax k=none->ga (ax++[(k,y)]) j=if j=k then some y else ga ax j
 | [],_=>by
   by_cases e:k=j
   . rw [ady e.symm];exact eh (p:=(k,y)) e
   . rw [ac9 (λ z=>e z.symm)];exact eJ (p:=(k,y)) e
 | p::r,hn=>by
   rw [amj]
   have hk:¬ p.1=k:=λ z=>by rw [eh z] at hn;cases hn
   rw [eJ hk] at hn
   have ih:=uu k j y r hn
   by_cases e:p.1=j
   . rw [eh e,eh e,ac9 (λ z=>hk (e.trans z))]
   . rw [eJ e,eJ e,ih]
theorem EI (ax:List (κ×V)) (k j:κ) (y:V):ga (putK ax k y) j=if j=k then some y else ga ax j:=by
 unfold putK
 by_cases a:(ax.any λ kv=>decide (kv.1=k))=true
 .
  rw [ady a,xb]
  rw [jd] at a
  by_cases e:j=k
  . obtain ⟨x,hx⟩:=Option.isSome_iff_exists.mp a
    rw [ady e,e,hx,alj,ady rfl]
  . rw [ac9 e]
    cases ga ax j with
    | none=>rfl
    | some x=>rw [alj,ac9 e]
 .
  rw [ac9 a]
  refine uu k j y ax ?_
  rw [jd] at a
  cases q:ga ax k with
  | none=>rfl
  | some x=>rw [q] at a;exact (a rfl).elim
theorem pE (ax:List (κ×V)) (k:κ) (v:V):(putK ax k v).length<=ax.length+1:=by
 unfold putK
 split
 . rw [zN];lia
 . rw [aaE,aeR,alR];lia
theorem FO {ax:List (κ×V)} {k:κ} (v:V) (h:ga ax k=none):putK ax k v=ax++[(k,v)]:=by
 unfold putK
 rw [jd,h]
 exact ac9 (by decide)
theorem jY.oG {o:Option V} {u:Option Value} (r:jY o u):o.isSome=u.isSome:=by
 cases o with
 | none=>cases u with
   | none=>rfl
   | some _=>exact (show False from r).elim
 | some _=>cases u with
   | none=>exact (show False from r).elim
   | some _=>rfl
theorem jY.getD {o:Option V} {u:Option Value} {d:V} {d':Value} (r:jY o u) (rd:RelV d d'):RelV (o.getD d) (u.getD d'):=by
 cases o with
 | none=>cases u with
   | none=>exact rd
   | some _=>exact (show False from r).elim
 | some _=>cases u with
   | none=>exact (show False from r).elim
   | some _=>exact r
theorem KV.val {ax:List (κ×V)} {vs:List (κ×Value)} (r:KV ax vs) (k:κ):jY (ga ax k) (valueAt vs k):=by
 unfold KV at r
 induction r with
 | nil=>exact True.intro
 | @cons p q ps qs h t ih =>
   obtain ⟨h1,h2⟩:=h
   by_cases e:p.1=k
   . have e':q.1=k:=h1.symm.trans e
     have b:valueAt (q::qs) k=some q.2:=by simp [valueAt,agv,e']
     rw [eh e,b];exact h2
   . have e':¬ q.1=k:=λ z=>e (h1.trans z)
     have b:valueAt (q::qs) k=valueAt qs k:=by simp [valueAt,agv,e']
     rw [eJ e,b];exact ih
theorem KV.any {ax:List (κ×V)} {vs:List (κ×Value)} (r:KV ax vs) (k:κ):(ax.any λ kv=>decide (kv.1=k))=vs.any λ kv=>decide (kv.1=k):=by
 unfold KV at r
 induction r with
 | nil=>rfl
 | cons h t ih=>rw [alE,alE,ih,h.1]
theorem KV.Ki {ax:List (κ×V)} {vs:List (κ×Value)} (r:KV ax vs) (k:κ) {y:V} (ry:RelV y u) :
   KV (ax.map λ kv=>if kv.1=k then (kv.1,y) else kv) (vs.map λ kv=>if kv.1=k then (kv.1,u) else kv):=by
 unfold KV at r ⊢
 induction r with
 | nil=>exact .nil
 | @cons p q ps qs h t ih =>
   rw [ael,ael]
   refine .cons ?_ ih
   obtain ⟨h1,h2⟩:=h
   by_cases e:p.1=k
   . rw [ady e,ady (h1.symm.trans e)];exact ⟨h1,ry⟩
   . rw [ac9 e,ac9 (λ z=>e (h1.trans z))];exact ⟨h1,h2⟩
theorem KV.put {ax:List (κ×V)} {vs:List (κ×Value)} (r:KV ax vs) (k:κ) {y:V} (ry:RelV y u):KV (putK ax k y) (stored vs k u):=by
 unfold putK stored
 rw [r.any k]
 by_cases e:(vs.any λ kv=>decide (kv.1=k))=true
 . rw [ady e,ady e];exact r.Ki k ry
 . rw [ac9 e,ac9 e];exact aly r ⟨rfl,ry⟩
theorem KV.length {ax:List (κ×V)} {vs:List (κ×Value)} (r:KV ax vs):ax.length=vs.length:=akU r
end
theorem FQ {P:Program} {w:World} {k:Key} (r:RelV (kV k) u):(cq P w).is k u=true:=by
 cases k with
 | inl i=>obtain ⟨t,e⟩:=(show ∃ t,u=Value.int i t from r);subst e;exact wU P w i t
 | inr x=>obtain ⟨t,e⟩:=(show ∃ t,u=Value.str x t from r);subst e;exact wR P w x t
theorem uv {P:Program} {w:World}:∀ {ks:List Key} {us:List Value},Vals (ks.map kV) us->ItemsAre (cq P w) ks us
 | [],_,r=>by rw [List.map_nil] at r;cases r;exact .nil
 | k::ks,_,r=>by
   rw [ael] at r
   cases r with
   | cons h t=>exact .cons (FQ h) (uv t)
abbrev KT (H:Hp):List (List Key×V)->List (List Key×Addr×Value)->Prop:=Paired λ p q=>p.1=q.1/\H q.2.1=some (.tup (p.1.map kV))/\RelV p.2 q.2.2
theorem KT.val {ax:List (List Key×V)} {xs:List (List Key×Addr×Value)} (r:KT H ax xs) (k:List Key):jY (ga ax k) ((atKey xs k).map (·.2)):=by
 induction r with
 | nil=>exact True.intro
 | @cons p q ps qs h t ih =>
   obtain ⟨h1,_,h2⟩:=h
   by_cases e:p.1=k
   . have e':q.1=k:=h1.symm.trans e
     have b:atKey (q::qs) k=some q.2:=by simp [atKey,agv,e']
     rw [eh e,b];exact h2
   . have e':¬ q.1=k:=λ z=>e (h1.trans z)
     have b:atKey (q::qs) k=atKey qs k:=by simp [atKey,agv,e']
     rw [eJ e,b];exact ih
theorem KT.Ki {ax:List (List Key×V)} {xs:List (List Key×Addr×Value)} (r:KT H ax xs) (k:List Key) {y:V} (ry:RelV y u) :
   KT H (ax.map λ kv=>if kv.1=k then (kv.1,y) else kv) (xs.map (putAt k u)):=by
 induction r with
 | nil=>exact .nil
 | @cons p q ps qs h t ih =>
   rw [ael,ael]
   refine .cons ?_ ih
   obtain ⟨h1,h2,h3⟩:=h
   unfold putAt
   by_cases e:p.1=k
   . rw [ady e,ady (h1.symm.trans e)];exact ⟨h1,h2,ry⟩
   . rw [ac9 e,ac9 (λ z=>e (h1.trans z))];exact ⟨h1,h2,h3⟩
theorem KT.put {ax:List (List Key×V)} {xs:List (List Key×Addr×Value)} (r:KT H ax xs) (k:List Key) {b:Addr} {y:V} (hb:H b=some (.tup (k.map kV))) (ry:RelV y u) :
   KT H (putK ax k y) (storedH xs k b u):=by
 have e:(ax.any λ kv=>decide (kv.1=k))=(atKey xs k).isSome:=by
   rw [jd,(r.val k).oG,ama]
 unfold putK storedH
 rw [e]
 by_cases q:(atKey xs k).isSome=true
 . rw [ady q,ady q];exact r.Ki k ry
 . rw [ac9 q,ac9 q];exact aly r ⟨rfl,hb,ry⟩
theorem KT.keeps {ax:List (List Key×V)} {xs:List (List Key×Addr×Value)} (r:KT H ax xs) (ht:∀ b ys,H b=some (.tup ys)->H' b=some (.tup ys)):KT H' ax xs :=
 Paired.vW r λ _ _ z=>⟨z.1,ht _ _ z.2.1,z.2.2⟩
section
variable {P:Program} {w:World} {H:Hp} {h:Heap} {a:Addr}
theorem Kd {u:HO} (ok:mP P w H h) (e:Rd H a u):cO P w H h a u:=e.ok ok
theorem DT {ax:List (Key×V)} (ok:mP P w H h) (e:Rd H a (.dK ax)):ax.length<=sizeLine/\(a == sysModules)=false/\∃ vs,KV ax vs/\h.DictOf (cq P w) a vs :=
 show cO P w H h a (.dK ax) from Kd ok e
theorem Ou {ax:List (Key×V)} (ok:mP P w H h) (e:H a=some (.dK ax)):ax.length<=sizeLine/\(a == sysModules)=false/\∃ vs,KV ax vs/\h.DictOf (cq P w) a vs:=DT ok (.inl e)
theorem Aa {ks:List Key} (ok:mP P w H h) (e:H a=some (.tup (ks.map kV))):(tupleKind (cq P w)).is h ks a:=by
 obtain ⟨_,bg,r,o,h1,h2,n,h3⟩:=(show cO P w H h a (.tup (ks.map kV)) from ok a _ e)
 exact ⟨o,bg.toArray,n,h1,h2,h3,by simpa using uv r⟩
theorem AO {ax:List (List Key×V)} (ok:mP P w H h) (e:Rd H a (.dT ax)):ax.length<=sizeLine/\(a == sysModules)=false /\
   ∃ xs,KT H ax xs/\h.DictOfH (tupleKind (cq P w)) a xs:=by
 obtain ⟨z,y,xs,r,o,es,ep,h1,h2,h3,h4,h5⟩:=(show cO P w H h a (.dT ax) from Kd ok e)
 refine ⟨z,y,xs,r,o,es,ep,h1,h2,h3,h4,λ x hx=>?_,h5⟩
 have all:∀ {l:List (List Key×V)} {m:List (List Key×Addr×Value)},KT H l m->∀ x∈m,(tupleKind (cq P w)).is h x.1 x.2.1:=by
   intro l m q
   induction q with
   | nil=>intro x hx;exact nomatch hx
   | @cons p q ps qs hq t ih =>
     intro x hx
     rcases List.mem_cons.mp hx with e|hx
     . subst e
       exact Aa ok (by rw [← hq.1];exact hq.2.1)
     . exact ih x hx
 exact all r x hx
theorem NL {ax:List (List Key×V)} (ok:mP P w H h) (e:H a=some (.dT ax)):ax.length<=sizeLine/\(a == sysModules)=false /\
   ∃ xs,KT H ax xs/\h.DictOfH (tupleKind (cq P w)) a xs:=AO ok (.inl e)
end
def Bx (H:Hp) (a:Addr) (y:V) (r:Option V):Prop :=
 (∃ ax k,Rd H a (.dK ax)/\y=kV k/\r=ga ax k)∨∃ ax k b,Rd H a (.dT ax)/\y = .ref b/\H b=some (.tup (k.map kV))/\r=ga ax k
def DI (H:Hp) (a:Addr) (y v:V) (H':Hp):Prop :=
 (∃ ax k,H a=some (.dK ax)/\y=kV k/\ax.length<sizeLine/\H'=upd H a (.dK (putK ax k v))) ∨
 ∃ ax k b,H a=some (.dT ax)/\y = .ref b/\H b=some (.tup (k.map kV))/\ax.length<sizeLine/\H'=upd H a (.dT (putK ax k v))
theorem Bx.t {a b:Addr} {ax:List (List Key×V)} {k:List Key} (e:H a=some (.dT ax)) (eb:H b=some (.tup (k.map kV))):Bx H a (.ref b) (ga ax k):=.inr ⟨ax,k,b,.inl e,rfl,eb,rfl⟩
theorem DI.t {a b:Addr} {ax:List (List Key×V)} {k:List Key} {v:V} (e:H a=some (.dT ax)) (eb:H b=some (.tup (k.map kV))) (hl:ax.length<sizeLine) :
   DI H a (.ref b) v (upd H a (.dT (putK ax k v))):=.inr ⟨ax,k,b,e,rfl,eb,hl,rfl⟩
section
variable {X:Cx} {pins:List (Addr×Obj)} {U:St} {H:Hp} {s:Shared} {a:Addr} {y v:V} {u r:Value} {o:Option V} {A:Around} {E:Value->Shared->Prop}
theorem Inv.big (I:Inv X pins U H s):sysModules<s.heap.objs.size:=by
 have h:mainGlobals<s.heap.objs.size:=(I.mod.glob.keeps I.bk).lt
 exact alP (by decide) h
theorem uG {t':Nat} {ob:HO} (I:Inv X pins U H s) (mu:Qh (H a)) (hs:Heap.SameBut a s.heap h') (he:∃ q,h'.get? a=some q) (new:cO X.prog X.w (upd H a ob) h' a ob) :
   Inv X pins U (upd H a ob) { s with heap:=h',toks:=t' } :=
 I.write (x:=a) (e:=a) mu (.inl rfl) (λ b q hb z=>(hs.2 b hb).trans z) he new
theorem Mh {P:Program} {w:World} {ax:List (Key×V)} {vs:List (Key×Value)} (z:ax.length<=sizeLine) (hd:(a == sysModules)=false) (rel:KV ax vs) (dd:h'.DictOf (cq P w) a vs) :
   cO P w H' h' a (.dK ax):=⟨z,hd,vs,rel,dd⟩
theorem Cy {Q:Unit->Shared->Prop} (hu:A.units+1<cLine) (I:Inv X pins U H s) (g:DI H a y v H') (ry:RelV y u) (rv:RelV v r) (h:∀ s',Inv X pins U H' s'->Q () s') :
   wpAny (model X.prog X.w) A (setItem (.ref a) u r) Q E s:=by
 rcases g with ⟨ax,k,e,ey,l,eH⟩|⟨ax,k,b,e,ey,eb,l,eH⟩
 .
  subst ey eH
  obtain ⟨z,hd,vs,rel,dd⟩:=Ou I.cQ e
  have hz:vs.length<=sizeLine:=by rw [← rel.length];exact z
  have hl:(putK ax k v).length<=sizeLine:=by have:=pE ax k v;lia
  refine wpAny_setItem_pairs (hsz:=hz) (FQ ry) dd λ h' F5 hs=>h _ ?_
  have he:∃ q,h'.get? a=some q:=let ⟨q,_,_,hq,_⟩:=F5;⟨q,hq⟩
  exact uG I (by rw [e];exact True.intro) hs he (Mh hl hd (rel.put k rv) F5)
 .
  subst ey eH
  cases (show u=Value.ref b from ry)
  obtain ⟨z,hd,xs,rel,dd⟩:=NL I.cQ e
  have hz:xs.length<=sizeLine:=by rw [← akU rel];exact z
  have hl:(putK ax k v).length<=sizeLine:=by have:=pE ax k v;lia
  refine wpAny_setItem_heap (hsz:=hz) (tupleKind_room_in1 hu) (Aa I.cQ eb) dd λ h' F5 hs=>h _ ?_
  obtain ⟨q,es,ep,hq,h2,h3,h4,_,h5⟩:=F5
  refine uG I (by rw [e];exact True.intro) hs ⟨q,hq⟩ ⟨hl,hd,_,(rel.put k eb rv).keeps λ c ys ec=>?_,q,es,ep,hq,h2,h3,h4,h5⟩
  rw [aq (Qc ec e (λ z=>nomatch z))]
  exact ec
end
def Sa (i:Expr):Prop:=∀ ov iv,subscripted i false ov iv=operate [ov,iv] (getItem ov iv)
theorem IU {prog:Program} {w:World} {A:Around} {E:Value->Shared->Prop} {s:Shared} {env:Env} {value slice:Expr} {pos:Pos} {T id:String} {Q:Value->Shared->Prop} (hl:typeLookup (.type T) "__getitem__" = pure (some (.builtin id))) (hs:Sa slice) (h:wpAny (model prog w) A (eval value env) (λ o s₁=>wpAny (model prog w) A (eval slice env) (λ i s₂=>s₂.TypeIs o T/\wpAny (model prog w) A (getItem o i) Q E s₂) E s₁) E s) :
   wpAny (model prog w) A (eval (.Subscript value slice pos) env) Q E s:=by
 refine Subscript_ (aiq h (λ o s₁ h₁=>aiq h₁ (λ i s₂ h₂=>?_) λ _ _ x=>x) λ _ _ x=>x)
 obtain ⟨hT,h₂⟩:=h₂
 unfold subscriptTail
 refine P5 ?_
 rw [getitemInPython_of_ne hT.not_modules]
 refine P5 (al3 hT hl ?_)
 have fin:wpAny (model prog w) A (subscripted slice false o i) (λ r s₃=>wpAny (model prog w) A (letTemporaryGo value o r >>= λ _=>pure r) Q E s₃) E s₂:=by
   rw [hs o i]
   exact wpAny_operating (aiq h₂ (λ r s₃ h₃=>P5 (wpAny_letTemporaryGo (abN h₃))) λ _ _ x=>x)
 first
   | exact abN (P5 fin)
   | exact P5 (abN (P5 fin))
   | exact P5 fin
def RP (td ty tv:TE):TS:=λ D U H=>tv U H λ v H1=>td U H1 λ x H2=>ty U H2 λ y H3=>∃ a H4,x = .ref a/\DI H3 a y v H4/\D.nx U H4
section
variable {X:Cx} {o i e value:Expr} {pos pos' nE:Pos} {td ty tv:TE}
theorem Ie (hu:X.A.units+1<cLine) (ho:PE X o td) (hi:PE X i ty) (hv:PE X value tv) (hs:swapsWith value (some (.Subscript o i pos')) pos.line X.env=pure false) :
   PS X (.Assign [.Subscript o i pos'] value pos) (RP td ty tv):=by
 intro pins s U H D I h
 refine wpAny_Assign_Subscript (cD (hv pins s U H _ I h) λ r s1 ⟨v,H1,I1,rv,q1⟩=>cD (ho pins s1 U H1 _ I1 q1) λ u s2 ⟨x,H2,I2,rx,q2⟩=>cD (hi pins s2 U H2 _ I2 q2) λ iv s3 ⟨y,H3,I3,ry,a,H4,ex,g,q3⟩=>?_) hs
 subst ex
 obtain rfl:u=Value.ref a:=rx
 exact Cy hu I3 g ry rv λ s4 I4=>⟨U,H4,I4,q3⟩
end
theorem EN {P:Program} {w:World} (h:Heap) (hb:sysModules<h.objs.size):cO P w H (h.push { cls:=.type "dict",data:=.dict #[]}) h.objs.size (.dT []) :=
 ⟨aeU _,beq_eq_false_iff_ne.mpr (alk (ad8 hb)),[],.nil,_,#[],0,aep _ rfl,⟨rfl,rfl,rfl⟩,rfl,rfl,ald⟩
def Ml:TE:=λ _ H Q=>∀ p,H p=none->Q (.ref p) (upd H p (.dT []))
section
variable {X:Cx} {pos:Pos}
theorem Fx:PE X (.Dict [] [] pos) Ml:=λ pins s U H Q I h =>
 wpAny_Dict_empty ⟨.ref s.heap.objs.size,_,I.laid (a:=s.heap.objs.size) (o:=.dT []) (t':=s.toks) (λ _ _ q=>abA _ q) (aaU _) (EN s.heap I.big),rfl,h _ (I.cQ.fresh (aaU _))⟩
end
def Fs:List (TE×TE)->St->Hp->(List (V×V)->Hp->Prop)->Prop
 | [],_,H,Q=>Q [] H
 | (tk,tv)::r,U,H,Q=>tk U H λ x H1=>tv U H1 λ y H2=>Fs r U H2 λ ps H3=>Q ((x,y)::ps) H3
abbrev VV:List (V×V)->List (Value×Value)->Prop:=Paired λ p q=>RelV p.1 q.1/\RelV p.2 q.2
def PPs (X:Cx) (pos:Pos) (keys:List (Option Expr)) (values:List Expr) (trs:List (TE×TE)):Prop :=
 ∀ (pins:List (Addr×Obj)) (s:Shared) (U:St) (H:Hp) (Q:List (V×V)->Hp->Prop),Inv X pins U H s->Fs trs U H Q ->
   wpAny (model X.prog X.w) X.A (evalPairs (pairTrees keys values X.env pos)) (λ vs s'=>∃ ps H',Inv X pins U H' s'/\VV ps vs/\Q ps H') X.xe s
structure M2 (X:Cx) (o:Expr) (m:Str) (apos:Pos) (e f:Expr) (kD:Pos):Prop where
 base:attributeBase o m X.env (eval o X.env)=eval o X.env
 few:((backTo kD (starEach [e,f] X.env)).all (λ x => !x.1) && (backToKw kD (keywordEach [] X.env)).all (λ x=>x.1.isSome)
   && decide (([e,f]:List Expr).length+([]:List Keyword).length+(if ([]:List Keyword).isEmpty then 0 else 1)<30))=true
 line:(apos.endLine == kD.line)=true
 trees:backTo kD (starEach [e,f] X.env)=[(false,eval e X.env),(false,eval f X.env)]
def IsD (H:Hp) (a:Addr):Prop:=(∃ ax,Rd H a (.dK ax))∨∃ ax,Rd H a (.dT ax)
theorem KP {X:Cx} {s:Shared} {a:Addr} (I:Inv X pins U H s) (d:IsD H a) :
   s.TypeIs (.ref a) "dict"/\(∀ b,Value.ref a = .ref b->∃ ob,s.heap.get? b=some ob/\ob.dict=none)/\(a == sysModules)=false:=by
 rcases d with ⟨ax,e⟩|⟨ax,e⟩
 .
  obtain ⟨_,hd,vs,_,dd⟩:=DT I.cQ e
  refine ⟨dd.typeIs,λ b q=>?_,hd⟩
  cases q
  obtain ⟨ob,_,_,h1,h2,_⟩:=dd
  exact ⟨ob,h1,h2.2.1⟩
 .
  obtain ⟨_,hd,xs,_,dd⟩:=AO I.cQ e
  refine ⟨dd.typeIs,λ b q=>?_,hd⟩
  cases q
  obtain ⟨ob,_,_,h1,h2,_⟩:=dd
  exact ⟨ob,h1,h2.2.1⟩
section
variable {X:Cx} {pins:List (Addr×Obj)} {U:St} {H:Hp} {s:Shared} {a:Addr} {y d:V} {u r:Value} {o:Option V} {A:Around} {E:Value->Shared->Prop}
theorem LS {Q:Value->Shared->Prop} (hu:A.units+1<cLine) (I:Inv X pins U H s) (g:Bx H a y o) (ry:RelV y u) (rd:RelV d r) (h:∀ w' s',Inv X pins U H s'->RelV (o.getD d) w'->Q w' s') :
   wpAny (model X.prog X.w) A (call (.builtin "dict.get") [.ref a,u,r]) Q E s:=by
 rcases g with ⟨ax,k,e,ey,l⟩|⟨ax,k,b,e,ey,eb,l⟩
 .
  subst ey
  obtain ⟨z,hd,vs,rel,dd⟩:=DT I.cQ e
  refine call_meetsIn alO dd.typeIs amO (amJ _ _ _) (meets_dict_get_default (cq X.prog X.w) a (FQ ry) hd r) ⟨_,dd.mapOf,h _ _ (I.tok _) ?_⟩
  rw [l]
  exact (rel.val k).getD rd
 .
  subst ey
  cases (show u=Value.ref b from ry)
  obtain ⟨z,hd,xs,rel,dd⟩:=AO I.cQ e
  refine call_meetsIn alO dd.typeIs amO (amJ _ _ _) (meetsH_dict_get_default (tupleKind (cq X.prog X.w)) a b hd r) ⟨tupleKind_room_in1 hu,k,xs,Aa I.cQ eb,dd,h _ _ (I.tok _) ?_⟩
  rw [l]
  exact (rel.val k).getD rd
end
def KW (td ty tx:TE):TE:=λ U H Q=>td U H λ x H1=>∃ a,x = .ref a/\IsD H1 a/\ty U H1 λ y H2=>tx U H2 λ z H3=>∃ o,Bx H3 a y o/\Q (o.getD z) H3
section
variable {X:Cx} {o e f:Expr} {apos kD:Pos} {td ty tx:TE}
theorem yr (hu:X.A.units+1<cLine) (ho:PE X o td) (he:PE X e ty) (hf:PE X f tx) (m:M2 X o "get" apos e f kD):PE X (.Call (.Attribute o "get" apos) [e,f] [] kD) (KW td ty tx):=by
 intro pins s U H Q I h
 refine wpAny_Call_method m.base m.few m.line PySem.F.plainAttrs_dict alO PySem.F.type_dict_get (cD (ho pins s U H _ I h) λ u s1 ⟨x,H1,I1,rx,a,ex,d,q1⟩=>?_)
 subst ex
 obtain rfl:u=Value.ref a:=rx
 obtain ⟨t1,t2,_⟩:=KP I1 d
 refine ⟨t1,t2,?_⟩
 rw [m.trees]
 refine al2 rfl (Calls.evalArgs_plain (alJ (cD (he pins s1 U H1 _ I1 q1) λ iv s2 ⟨y,H2,I2,ry,q2⟩ =>
   alJ (cD (hf pins s2 U H2 _ I2 q2) λ fv s3 ⟨z,H3,I3,rz,ov,g,q3⟩=>amx ?_))))
 exact LS hu I3 g ry rz λ w' s4 I4 yQ=>⟨_,H3,I4,yQ,q3⟩
end
end L2
namespace Att
open PySem PySem.W PySem.Calls PyProof.Rows
theorem qk {P:Params} {h:Heap}:∀ (ns:List Int) (vs:List Value),WellAll P h vs (ns.map WData.int)->IntsAre vs ns:=by
 intro ns
 induction ns with
 | nil =>
   intro vs w
   rw [List.map_nil] at w
   cases w
   exact .nil
 | cons n ns ih =>
   intro vs w
   rw [ael] at w
   cases w with
   | cons a b =>
     cases a
     exact .cons _ _ (ih _ b)
theorem Cn {l:OpenLaw} {n:Nat} (hn:l.most=some n) {P:Params} {h:Heap} {args:List WData} {vals:List Value}
   (G9:l.row.toRowW.claim.pre args=true) (SY:WellAll P h vals args) :
   ∃ a vs ns,vals=[Value.ref a]/\args=[WData.list (ns.map WData.int)]/\h.get? a=some { cls:=.type "list",data:=.seq vs.toArray }/\IntsAre vs ns/\ns.length<=n:=by
 have hsh:WShape.hasAll [] args [.list .int]=true:=(pre_splitW G9).1
 have hc:l.pre.holds [] { args:=args }=true:=(pre_splitW G9).2
 obtain ⟨d,r,rfl,h1,h2⟩:=hasAllW_cons hsh
 obtain rfl:=hasAllW_nil h2
 obtain ⟨xs,rfl,h3⟩:=hasW_list h1
 obtain ⟨ns,rfl⟩:=items_int h3
 have hlen:ns.length<=n:=by
   unfold OpenLaw.pre at hc
   have h4:(WTm.not (.lt (.lit (.int (n:Int))) (.len (.arg 0)))).holds [] { args:=[.list (ns.map .int)]}=true:=by
     have h4:=(holds_andW hc).1
     rw [hn] at h4
     exact h4
   have h5:=condW_of h4 (w_not (w_lt w_lit (w_len_list (w_arg rfl))))
   rw [zN] at h5
   refine Nat.le_of_not_lt λ q=>?_
   have q':(n:Int)<((ns.length:Nat):Int):=by lia
   first
     | (rw [adD q'] at h5;exact absurd h5 (by decide))
     | (simp at h5;lia)
 cases SY with
 | cons w1 w2 =>
   cases w2
   cases w1 with
   | list ho KA=>exact ⟨_,_,ns,rfl,rfl,ho,qk ns _ KA,hlen⟩
theorem Ce (l:OpenLaw) (args:List WData):l.row.toRowW.claim.post args (.bool true) args=true :=
 postW_of (r:=l.row.toRowW) (X:=(true == true))
   (show WShape.has [] (.bool true) .bool=true by first|rfl|decide|simp [WShape.has,WShape.arms,WShape.armsAll])
   (show (WTm.eq .res (.lit (.bool true))).value [] { args:=args,res:=some (.bool true),after:=args }=some (.bool (true == true)) from w_eq_bool (w_res rfl) w_lit) rfl
section
variable {prog:Program} {w:World} {A:Around} {E:Value->Shared->Prop} {s:Shared} {K:Frag}
def YZ (h:Heap):Heap:={ h with objs:=#[]}
def ledger (h:Heap) (L d:Addr):List (Addr×Obj):=(List.range h.objs.size).filterMap λ a=>if a=L∨a=d then none else (h.get? a).map λ o=>(a,o)
end
end Att
namespace L2
open PySem PySem.Spec PyProof.Rows
variable {H H':Hp} {qual:Str}
theorem ul:∀ {vs:List Value} {ns:List Int},IntsAre vs ns->Vals (ns.map V.int) vs
 | _,_,.nil => .nil
 | _,_,.cons n t h => .cons ⟨t,rfl⟩ (ul h)
def Pa (H:Hp):Prop:=∀ b,H b=none∨∃ o xs,H b=some (.yG o (.lst xs))
theorem Fu {P:Program} {w:World} {K:W.Frag} {mg mb:Str->Option Value} {CX:Gd} {k:Nat} {fa a:Addr} {fd:FuncData} {x:Str} {sp:Sp} {s₁:Shared} {vs:List Value} {ns:List Int} (KX:K.In s₁.heap) (UN:s₁.heap.Ns mainGlobals mg) (hb:s₁.heap.Ns builtinsNs mb) (hbb:∀ x:Str,x ≠ "__name__"->mb x=bootBuiltins x) (V4:s₁.heap.NoLimit) (hg:s₁.gens=#[]) (ha:s₁.heap.get? a=some { cls:=.type "list",data:=.seq vs.toArray }) (hi:IntsAre vs ns) (hl:ns.length<=sizeLine) (hr:cI k callerA) (F:∀ base:Heap,K.In base->base.Ns mainGlobals mg->ki P w K mg base CX k fa fd [x] sp) (RA:∀ (s:Shared) (u:Value),BindsTo s fd ⟨[u],[]⟩ [(x,u)]) (JU:∀ H:Hp,Pa H->aR K H a (ns.map V.int)->sp [.ref a] H (λ v _=>v = .bl true) λ _ _ _=>False) (hCX:∀ H e s',CX [] H s₁ (λ _ _ _=>False) e s'->False) :
   codeAny (model P w) callerA (.call (.ref fa) ⟨[.ref a],[]⟩) (λ r s'=>r = .ok (.ret (.bool true))/\OldK s₁.heap s'.heap/\s'.os=s₁.os/\AllBare s'.gens) s₁:=by
 have rv:=ul hi
 have agZ:=hi.length
 have core:∀ H:Hp,Pa H->aR K H a (ns.map V.int)->mP P w H s₁.heap->(∀ b,H b≠none->b=a)->(H a≠none->K.lookup a=none) ->
     codeAny (model P w) callerA (.call (.ref fa) ⟨[.ref a],[]⟩) (λ r s'=>r = .ok (.ret (.bool true))/\OldK s₁.heap s'.heap/\s'.os=s₁.os/\AllBare s'.gens) s₁:=by
   intro H hO hS cQ hA hK
   have AI:∀ {b:Addr} {o:Obj},s₁.heap.get? b=some o->H b=none->(vx s₁.heap H).get? b=some o:=λ e n=>Ex e n
   have R3:∀ {b:Addr} {o:Obj} {es:Array DictEntry} {ep:Nat},s₁.heap.get? b=some o->o.data = .dict es ep->H b=none:=λ {b o es ep} e d=>by
     cases q:H b with
     | none=>rfl
     | some u =>
       have e':b=a:=hA b (by rw [q];simp)
       subst e'
       rw [ha] at e;cases e
       have d':Data.seq vs.toArray _=Data.dict es ep:=d
       cases d'
   have UY:∀ {b:Addr} {m:Str->Option Value},s₁.heap.Ns b m->(vx s₁.heap H).Ns b m:=λ {b m} ⟨o,es,ep,e,d,r⟩=>⟨o,es,ep,AI e (R3 e d),d,r⟩
   have hKb:K.In (vx s₁.heap H):=λ b o e=>AI (KX b o e) (by
     cases q:H b with
     | none=>rfl
     | some u =>
       have e':b=a:=hA b (by rw [q];simp)
       subst e'
       rw [hK (by rw [q];simp)] at e;cases e)
   have hM:Mod K mg (vx s₁.heap H):=⟨hKb,UY UN,⟨mb,UY hb,hbb⟩,let ⟨mc,h1,h2⟩:=V4;⟨mc,UY h1,h2⟩⟩
   have e0:zF P w K mg (vx s₁.heap H) callerA [] s₁ H:=⟨rfl,hM,λ b o e=>GB e,Nat.le_of_eq (BC _ _),trivial,λ b hb=>absurd (show b∈([]:List Addr) from hb) (by simp),cQ,.of_eq hg⟩
   refine amB ((F _ hKb (UY UN)).run callerA [] s₁ H ⟨[.ref a],[]⟩ [.ref a] [.ref a] _ _ hr e0 (RA s₁ (.ref a)) (.cons rfl .nil) (JU H hO hS)) λ r s' h=>?_
   cases r with
   | error e=>exact (hCX H e s' h).elim
   | ok fl =>
     cases fl with
     | next=>exact False.elim h
     | brk=>exact False.elim h
     | cont=>exact False.elim h
     | ret u =>
       obtain ⟨v,H',os,bare,un,WG,r',q⟩:=h
       have q':v = .bl true:=q
       subst q'
       obtain rfl:u=Value.bool true:=r'
       refine ⟨rfl,OldK.of_keep λ b o e=>?_,os,bare⟩
       cases q:H b with
       | none=>exact un.keep b o e q (by intro z;exact absurd (show b∈([]:List Addr) from z) (by simp)) (by simp)
       | some u =>
         rcases hO b with z|⟨ob,xs,z⟩
         . rw [q] at z;cases z
         . have z2:=un.uI b ob _ z
           obtain ⟨e1,_⟩:=cQ b _ z
           obtain ⟨e2,_⟩:=WG b _ z2
           rw [e] at e1;cases e1
           exact e2
 cases hk:K.lookup a with
 | some o =>
   have e:=KX a o hk
   rw [ha] at e
   cases e
   refine core (λ _=>none) (λ _ => .inl rfl) (.inr ⟨_,vs.toArray,_,hk,rfl,rfl,rfl,by rw [abY,agZ];exact hl,by simpa using rv⟩) (λ b u z=>by have z':(none:Option HO)=some u:=z;cases z') (λ b z=>absurd rfl z) λ z=>absurd rfl z
 | none =>
   refine core (λ b=>if b=a then some (.yG { cls:=.type "list",data:=.seq vs.toArray } (.lst (ns.map V.int))) else none) (λ b=>?_) (.inl (.inr ⟨{ cls:=.type "list",data:=.seq vs.toArray },ady rfl⟩)) (λ b u z=>?_) (λ b z=>?_) λ _=>hk
   . by_cases hb:b=a
     . exact .inr ⟨_,_,ady hb⟩
     . exact .inl (ac9 hb)
   .
    by_cases hb:b=a
    . have z':=(ady hb).symm.trans z
      cases z'
      subst hb
      exact ⟨ha,by rw [zN];exact hl,vs,_,rv,ha⟩
    . have z':=(ac9 hb).symm.trans z
      cases z'
   . by_cases hb:b=a
     . exact hb
     . exact absurd (ac9 hb) z
def inClass (s:Stmt) (j:Nat):Stmt:=match s with
 | .ClassDef _ _ _ body _ _ _ _ _ _ _=>body.getD j (.Pass ⟨0,0,0,0⟩)
 | _ => .Pass ⟨0,0,0,0⟩
def ci (s:Stmt):Arguments:=match s with
 | .FunctionDef _ a _ _ _ _ _ _ _ _=>a
 | _=>{ posonlyargs:=[],args:=[],vararg:=none,kwonlyargs:=[],kw_defaults:=[],kwarg:=none,defaults:=[]}
def bC (s:Stmt):List Stmt:=match s with
 | .FunctionDef _ _ b _ _ _ _ _ _ _=>b
 | _=>[]
def ap (s:Stmt):Scope:=match s with
 | .FunctionDef _ _ _ _ _ _ sc _ _ _=>sc
 | _=>{ kind:=.function,names:=[],isGenerator:=false,isCoroutine:=false }
abbrev wg:Gd:=λ _ _ _ _ _ _=>False
abbrev E0:XK:=λ _ _ _=>False
theorem wr {X:Cx}:Passes wg X E0:=λ _ _ _ _ _ _ _ h=>h.elim
structure Gw (K:W.Frag) (x qual:Str) (st:Stmt) (f:Addr) (fd:FuncData):Prop where
 ex:∃ (oc:Value) (od:Option Addr) (kV doc pm:Value) (an:Option Addr) (bA ct:Value) (ym:Array (Option Value)),
   fd=W.fnOf x qual (ci st) (bC st) (ap st) .none kV doc pm an bA ct/\K.lookup f=some ⟨oc,od,.func fd,ym⟩/\W.codeIn K bA qual=true
 kp:W.keepIn K (.ref f)=true
section
variable {P:Program} {w:World} {K:W.Frag} {mg:Str->Option Value} {base:Heap}
theorem Gw.ok {x:Str} {st:Stmt} {f:Addr} {fd:FuncData} {N ps:List Str} {k:Nat} {sp:Sp} (F:Gw K x qual st f fd) (S:ay N ps (ap st)) (len:∀ vs H Q E,sp vs H Q E->vs.length=ps.length) (gP:∀ (bA:Value) (A:Around) (outer:List Env) (s:Shared) (H:Hp) (vs:List V) (Q:VK) (E:XK),cI k (A.deeper (envOfC qual (ap st) s.heap.objs.size f bA))->sp vs H Q E ->
     ∃ t,tK (oF wg P w K mg base N qual (ap st) f bA A outer s H E).Dj (bC st) t/\t { nx:=λ _ H'=>Q .cf H',rt:=Q } (start N vs) H):ki P w K mg base wg (k+1) f fd ps sp:=by
 obtain ⟨oc,od,kV,doc,pm,an,bA,ct,ym,rfl,lk,vi⟩:=F.ex
 refine Kf lk vi S len λ A outer s H vs Q E hr JU=>?_
 obtain ⟨t,h,q⟩:=gP bA A outer s H vs Q E hr JU
 exact ⟨t,h.Dj,q⟩
theorem Gw.binds {x:Str} {st:Stmt} {f:Addr} {fd:FuncData} {ps:List Str} (F:Gw K x qual st f fd) (h:∀ (kV doc pm:Value) (an:Option Addr) (bA ct:Value) (us:List Value),us.length=ps.length->bindArgs (W.fnOf x qual (ci st) (bC st) (ap st) .none kV doc pm an bA ct) ⟨us,[]⟩=pure (ps.zip us)):Binds K fd ps []:=by
 obtain ⟨oc,od,kV,doc,pm,an,bA,ct,ym,rfl,lk,vi⟩:=F.ex
 exact .all (h kV doc pm an bA ct)
theorem aZ {x:Str} {st:Stmt} {f:Addr} {oc:Value} {od an:Option Addr} {ym:Array (Option Value)} {kV doc pm bA ct:Value} (l:K.lookup f=some ⟨oc,od,.func (W.fnOf x qual (ci st) (bC st) (ap st) .none kV doc pm an bA ct),ym⟩) (c:W.codeIn K bA qual=true) (k:W.keepIn K (.ref f)=true):Gw K x qual st f (W.fnOf x qual (ci st) (bC st) (ap st) .none kV doc pm an bA ct):=⟨⟨oc,od,kV,doc,pm,an,bA,ct,ym,rfl,l,c⟩,k⟩
end
theorem Av {A:Around} {k:Nat} (hr:cI k A):A.units+1<cLine:=ab2 (Nat.add_le_add_left (by decide:1<=64) _) hr.units
theorem aT {n:Nat} (h:n<=1000):n<sizeLine:=ab2 h (by decide)
section
variable {X:Cx}
theorem pv (i:Nat) {x:Str} {pos:Pos} (hN:X.N[i]?=some x:=by rfl) (hv:QC X.env.scope x:=by first|exact Or.inl rfl|exact Or.inr (Or.inl rfl)|exact Or.inr (Or.inr rfl)) (hd:(x == ("__debug__" : Str))=false:=by decide) (vi:(x == ("__classdict__" : Str))=false:=by decide):PE X (.Name x pos) (IG i):=K8 hN hv hd vi
end
theorem fX {A B:Prop} (h:B):if false=true then A else B:=by
 rw [ac9 ac8]
 exact h
theorem gS {A B:Prop} (h:A):if true=true then A else B:=by
 rw [ady rfl]
 exact h
theorem eZ {c A B:Prop} [Decidable c] (hc:c) (h:B):if (!decide c)=true then A else B:=by
 rw [adD hc]
 exact fX h
def aC (H H':Hp):Prop:=∀ b o,H b=some o->H' b=some o
theorem aC.refl (H:Hp):aC H H:=λ _ _ h=>h
theorem aC.trans {H1 H2:Hp} (a:aC H H1) (b:aC H1 H2):aC H H2:=λ c o h=>b c o (a c o h)
theorem aC.free (e:aC H H') {l:Addr} (h:H' l=Option.none):H l=Option.none:=by
 cases q:H l with
 | none=>rfl
 | some o =>
   rw [e l o q] at h
   cases h
theorem aC.seq {K:W.Frag} {a:Addr} {xs:List V} (e:aC H H') (h:aR K H a xs):aR K H' a xs:=by
 rcases h with (h|⟨o,h⟩)|h
 . exact .inl (.inl (e _ _ h))
 . exact .inl (.inr ⟨o,e _ _ h⟩)
 . exact .inr h
section
variable {κ:Type} [DecidableEq κ]
theorem DY {ax:List (κ×V)} {k:κ} (h:ga ax k=none):¬ k∈ax.map (·.1):=by
 intro m
 obtain ⟨p,hp,e⟩:=List.mem_map.mp m
 have q:(ax.any λ kv=>decide (kv.1=k))=true:=List.any_eq_true.mpr ⟨p,hp,adD e⟩
 rw [jd,h] at q
 exact absurd q (by simp)
theorem Ax:∀ {l:List κ} {k:κ},l.Nodup->¬ k∈l->(l++[k]).Nodup
 | [],k,_,_=>by simp
 | a::r,k,h,hk=>by
   obtain ⟨h1,h2⟩:=List.nodup_cons.mp h
   show (a::(r++[k])).Nodup
   refine List.nodup_cons.mpr ⟨λ m=>?_,Ax h2 λ m=>hk (List.mem_cons.mpr (Or.inr m))⟩
   rcases List.mem_append.mp m with q|q
   . exact h1 q
   . exact hk (List.mem_cons.mpr (Or.inl (List.mem_singleton.mp q).symm))
theorem IW {ax:List (κ×V)} {k:κ} (v:V) (hn:(ax.map (·.1)).Nodup) (h:ga ax k=none):((putK ax k v).map (·.1)).Nodup:=by
 rw [FO v h,aaN]
 exact Ax hn (DY h)
end
end L2
namespace Mth
theorem J7 {g l:Int} (hg:0<=g) (hl:0<l):Int.gcd l (g % l)=Int.gcd g l:=by
 obtain ⟨a,rfl⟩:=amM hg
 obtain ⟨b,rfl⟩:=amM (alV hl)
 show Nat.gcd b (((a:Int) % (b:Int))).natAbs=Nat.gcd a b
 have:(((a:Int) % (b:Int))).natAbs=a % b:=by rw [← Int.natCast_emod];rfl
 rw [this,Nat.gcd_comm a b,Nat.gcd_comm b,← Nat.gcd_rec]
theorem NY {g:Int} (hg:0<=g):((Int.gcd g 0:Nat):Int)=g:=by
 rw [Int.gcd_zero_right];lia
theorem tR {a b:Int} (ha:0<a) (h:0<a * b):0<b:=by
 rcases (by lia:0<b∨b<=0) with q|q
 . exact q
 . have:=akS (alV ha) (by lia:0 <= -b)
   rw [am4] at this
   lia
structure Fr (t b q r:Int):Prop where
 pos:0<r
 Bs:q * b=t * r
 cop:Int.gcd q r=1
 P6:q.natAbs<=t.natAbs
 Pq:r.natAbs<=b.natAbs
theorem rg {c q:Int} (hc:0<c):q.natAbs<=(c * q).natAbs:=by
 rw [alv]
 exact Nat.le_mul_of_pos_left _ (by lia)
theorem Ds {t b c:Int} (hb:b≠0) (hc:c=((Int.gcd t b:Nat):Int)):0<c/\c<=b.natAbs/\(0<b->Fr t b (t.fdiv c) (b.fdiv c))/\(b<0->Fr t b (t.fdiv (-c)) (b.fdiv (-c))):=by
 have hp:0<Int.gcd t b:=Int.gcd_pos_iff.mpr (.inr hb)
 have c0:0<c:=by lia
 have d1:c ∣ t:=hc ▸ Int.gcd_dvd_left t b
 have d2:c ∣ b:=hc ▸ Int.gcd_dvd_right t b
 obtain ⟨q,hq⟩:=d1
 obtain ⟨r,hr⟩:=d2
 have Rc:r≠0:=by rintro rfl;rw [Int.mul_zero] at hr;exact hb hr
 have hle:c<=b.natAbs:=by
   rw [hr,alv]
   have:c.natAbs * 1<=c.natAbs * r.natAbs:=Nat.mul_le_mul_left _ (by lia)
   lia
 have e1:t.fdiv c=q:=by rw [hq,ak6 _ (by lia)]
 have e2:b.fdiv c=r:=by rw [hr,ak6 _ (by lia)]
 have e3:t.fdiv (-c) = -q:=by rw [show t = -c * -q by rw [hq,Int.neg_mul_neg],ak6 _ (by lia)]
 have e4:b.fdiv (-c) = -r:=by rw [show b = -c * -r by rw [hr,Int.neg_mul_neg],ak6 _ (by lia)]
 have hg:Int.gcd q r=1:=by
   have h1:Int.gcd (c * q) (c * r)=c.natAbs * Int.gcd q r:=Int.gcd_mul_left c q r
   rw [← hq,← hr] at h1
   have h3:c.natAbs=Int.gcd t b:=by lia
   rw [h3] at h1
   have h2:Int.gcd t b * Int.gcd q r=Int.gcd t b * 1:=by rw [← h1,am1]
   exact Nat.eq_of_mul_eq_mul_left hp h2
 have l1:q.natAbs<=t.natAbs:=hq ▸ rg c0
 have l2:r.natAbs<=b.natAbs:=hr ▸ rg c0
 refine ⟨c0,hle,λ b0=>?_,λ b0=>?_⟩
 . rw [e1,e2]
   exact ⟨tR c0 (hr ▸ b0),by rw [hq,hr,Int.mul_assoc,Int.mul_left_comm],hg,l1,l2⟩
 . rw [e3,e4]
   refine ⟨tR c0 (by rw [am4,← hr];lia),?_,by rw [Int.gcd_neg,Int.neg_gcd];exact hg,by lia,by lia⟩
   rw [hq,hr,Int.neg_mul,am4,Int.mul_assoc,Int.mul_left_comm]
def Bd (n:Nat) (x:Int):Prop:=x.natAbs<2 ^ n
theorem Bd.mono {m n:Nat} {x:Int} (h:Bd m x) (l:m<=n):Bd n x:=acK h (ahb (by decide) l)
theorem Bd.mul {m n:Nat} {x y:Int} (h:Bd m x) (k:Bd n y):Bd (m+n) (x * y):=by
 unfold Bd at *
 rw [alv,Nat.pow_add]
 exact Nat.mul_lt_mul'' h k
theorem Bd.add {m:Nat} {x y:Int} (h:Bd m x) (k:Bd m y):Bd (m+1) (x+y):=by
 unfold Bd at *
 rw [alq]
 have:=Int.natAbs_add_le x y
 lia
theorem Bd.neg {m:Nat} {x:Int} (h:Bd m x):Bd m (-x):=by unfold Bd at *;rw [Int.natAbs_neg];exact h
theorem Bd.sub {m:Nat} {x y:Int} (h:Bd m x) (k:Bd m y):Bd (m+1) (x - y):=by rw [Int.sub_eq_add_neg];exact h.add k.neg
theorem Bd.le {m:Nat} {x y:Int} (h:Bd m y) (k:x.natAbs<=y.natAbs):Bd m x:=ab2 k h
theorem Bd.log {n:Nat} {x:Int} (h:Bd n x) (hn:0<n):x.natAbs.log2<n:=by
 by_cases h0:x.natAbs=0
 . rw [h0];simpa using hn
 . exact (Nat.log2_lt h0).mpr h
theorem Fr.PB {t b q r:Int} {n:Nat} (h:Fr t b q r) (k:Bd n t):Bd n q:=k.le h.P6
theorem Fr.Sw {t b q r:Int} {n:Nat} (h:Fr t b q r) (k:Bd n b):Bd n r:=k.le h.Pq
end Mth
namespace Bit
def rooms (n:Nat):List Nat:=(List.range 61).filter n.testBit
theorem fO {n k:Nat}:k∈rooms n↔k<61/\n.testBit k=true:=by
 unfold rooms;rw [amo,List.mem_range]
theorem nQ (n:Nat):(rooms n).Pairwise (· < ·):=(amP).filter _
theorem ip {n m k:Nat} (h:n<2 ^ m) (hk:m<=k):n.testBit k=false:=Nat.testBit_lt_two_pow (acK h (ahb (by decide) hk))
theorem Ac {n m:Nat} (h:n<2 ^ m) (hm:m<=61):(List.range m).filter n.testBit=rooms n:=by
 unfold rooms
 obtain ⟨d,hd⟩:∃ d,61=m+d:=⟨61 - m,by lia⟩
 have e61:List.range 61=List.range (m+d):=by rw [hd]
 rw [e61,List.range_add,ahz]
 have:(List.map (m + ·) (List.range d)).filter n.testBit=[]:=by
   rw [amR]
   intro a ha
   obtain ⟨b,_,rfl⟩:=List.mem_map.mp ha
   rw [ip h (by lia)]
   exact ac8
 rw [this,ahG]
def sumOf (l:List Nat):Nat:=l.foldl (λ n r=>n ||| 2 ^ r) 0
theorem x0:∀ (l:List Nat) (a k:Nat),(l.foldl (λ n r=>n ||| 2 ^ r) a).testBit k=(a.testBit k || decide (k∈l))
 | [],a,k=>by simp
 | r::l,a,k=>by
   rw [amq,x0 l,amv,alZ,Bool.or_assoc]
   congr 1
   by_cases h:r=k
   . subst h;simp
   . have:decide (k∈r::l)=decide (k∈l):=by simp [alk h]
     rw [this];simp [h]
theorem lD (l:List Nat) (k:Nat):(sumOf l).testBit k=decide (k∈l):=by
 unfold sumOf;rw [x0];simp
theorem Ft {l:List Nat} {m:Nat} (h:∀ r∈l,r<m):sumOf l<2 ^ m:=by
 refine alt _ λ i hi=>?_
 rw [lD]
 exact ac7 λ q=>absurd (h i q) (by lia)
theorem wu {l:List Nat} (h:∀ r∈l,r<61) (hs:l.Pairwise (· < ·)):rooms (sumOf l)=l:=by
 have Ca:∀ k,k∈rooms (sumOf l)↔k∈l:=λ k=>by
   rw [fO,lD]
   constructor
   . rintro ⟨_,q⟩;exact akM q
   . intro q;exact ⟨h k q,adD q⟩
 have uniq:∀ (a b:List Nat),a.Pairwise (· < ·)->b.Pairwise (· < ·)->(∀ k,k∈a↔k∈b)->a=b:=by
   intro a
   induction a with
   | nil =>
     intro b _ _ hm
     cases b with
     | nil=>rfl
     | cons y b=>exact absurd ((hm y).mpr abQ) (by simp)
   | cons x a ih =>
     intro b ha hb hm
     cases b with
     | nil=>exact absurd ((hm x).mp abQ) (by simp)
     | cons y b =>
       obtain ⟨ha1,ha2⟩:=List.pairwise_cons.mp ha
       obtain ⟨De,Ig⟩:=List.pairwise_cons.mp hb
       have ZG:x=y:=by
         rcases List.mem_cons.mp ((hm x).mp abQ) with q|q
         . exact q
         . rcases List.mem_cons.mp ((hm y).mpr abQ) with q2|q2
           . exact q2.symm
           . have:=De x q;have:=ha1 y q2;lia
       subst ZG
       rw [ih b ha2 Ig λ k=>?_]
       constructor
       . intro q
         rcases List.mem_cons.mp ((hm k).mp (aaS _ q)) with z|z
         . subst z;exact absurd (ha1 k q) (ah4 _)
         . exact z
       . intro q
         rcases List.mem_cons.mp ((hm k).mpr (aaS _ q)) with z|z
         . subst z;exact absurd (De k q) (ah4 _)
         . exact z
 exact uniq _ _ (nQ _) hs Ca
def parts (l:List Nat):List Nat:=l.foldl (λ ps r=>ps++ps.map (· ||| 2 ^ r)) [0]
theorem zy {p r:Nat} (h:p<2 ^ r):p ||| 2 ^ r=p+2 ^ r:=by
 have:=amm h 1
 rw [am1] at this
 rw [Nat.or_comm,← this,alr]
structure Ok (ps l:List Nat):Prop where
 len:ps.length=2 ^ l.length
 first:ps[0]?=some 0
 last:ps[ps.length - 1]?=some (sumOf l)
 rise:ps.Pairwise (· < ·)
 sub:∀ p∈ps,∀ k,p.testBit k=true->k∈l
theorem KJ:Ok [0] []:=⟨rfl,rfl,rfl,by simp,λ p hp k hk=>by
 have:p=0:=by simpa using hp
 subst this;simp at hk⟩
theorem GP {ps l:List Nat} {r:Nat} (h:Ok ps l) (hr:∀ x∈l,x<r):Ok (ps++ps.map (· ||| 2 ^ r)) (l++[r]):=by
 have small:∀ p∈ps,p<2 ^ r:=λ p hp=>alt _ λ i hi=>by
   cases e:p.testBit i with
   | false=>rfl
   | true=>have:=hr i (h.sub p hp i e);lia
 have pos:0<ps.length:=by rw [h.len];exact Nat.two_pow_pos _
 refine ⟨?_,?_,?_,?_,?_⟩
 . rw [aaE,zN,h.len,aaE,acG,alq];lia
 . rw [abM pos];exact h.first
 .
  rw [aaE,zN,afw (by lia),aat]
  have e:ps.length+ps.length - 1 - ps.length=ps.length - 1:=by lia
  rw [e,h.last]
  show some (sumOf l ||| 2 ^ r)=some (sumOf (l++[r]))
  unfold sumOf
  rw [ajV];rfl
 .
  rw [List.pairwise_append]
  refine ⟨h.rise,?_,λ a ha b hb=>?_⟩
  . rw [List.pairwise_map]
    refine amF ?_ h.rise
    intro a b ha hb MS
    rw [zy (small a ha),zy (small b hb)];lia
  . obtain ⟨c,hc,rfl⟩:=List.mem_map.mp hb
    have:=small a ha
    rw [zy (small c hc)];lia
 .
  intro p hp k hk
  rcases List.mem_append.mp hp with q|q
  . exact ahM _ (h.sub p q k hk)
  .
   obtain ⟨c,hc,rfl⟩:=List.mem_map.mp q
   rw [amv,Bool.or_eq_true] at hk
   rcases hk with z|z
   . exact ahM _ (h.sub c hc k z)
   . rw [alZ] at z
     have:=akM z
     subst this
     exact af2 _ (by simp)
theorem An:∀ (b a ps:List Nat),Ok ps a->(a++b).Pairwise (· < ·)->Ok (b.foldl (λ ps r=>ps++ps.map (· ||| 2 ^ r)) ps) (a++b)
 | [],a,ps,h,_=>by simpa using h
 | r::b,a,ps,h,hs=>by
   rw [amq]
   have e:a++r::b=(a++[r])++b:=by simp
   have hr:∀ x∈a,x<r:=λ x hx=>(List.pairwise_append.mp hs).2.2 x hx r abQ
   rw [e] at hs ⊢
   exact An b (a++[r]) _ (GP h hr) hs
theorem FD {n r:Nat} (hr:r<61) (h:n.testBit r=false):(rooms (n ||| 2 ^ r)).length=(rooms n).length+1:=by
 have c:∀ (l:List Nat),l.Nodup->(l.filter (n ||| 2 ^ r).testBit).length=(l.filter n.testBit).length+(if r∈l then 1 else 0):=by
   intro l
   induction l with
   | nil=>intro _;rfl
   | cons x l ih =>
     intro hl
     obtain ⟨h1,h2⟩:=List.nodup_cons.mp hl
     have e:=ih h2
     have hx:(n ||| 2 ^ r).testBit x=(n.testBit x || decide (r=x)):=by rw [amv,alZ]
     rw [ami,ami,hx]
     by_cases q:r=x
     . subst q
       rw [h]
       simp only [decide_true,Bool.or_true,alf,aeR,e,ac9 h1,aa1,true_or]
       simp
     . have q':(r∈x::l)↔r∈l:=by simp [q]
       have d:decide (r=x)=false:=ac7 q
       rw [d,Bool.or_false]
       cases n.testBit x with
       | true=>simp only [alf,aeR,e];by_cases z:r∈l<;>simp [z,q]<;>lia
       | false=>simp only [ai3,alc,e];by_cases z:r∈l<;>simp [z,q]
 have:=c (List.range 61) List.nodup_range
 rw [ady (List.mem_range.mpr hr)] at this
 exact this
end Bit
namespace L2
open PySem PySem.Spec PyProof.Rows Mth
theorem yK:bootBuiltins "abs" = some (.builtin "abs"):=by decide +kernel
theorem c8:bootBuiltins "len" = some (.builtin "len"):=by decide +kernel
theorem lR:bootBuiltins "isinstance" = some (.builtin "isinstance"):=by decide +kernel
theorem FT:bootBuiltins "all" = some (.builtin "all"):=by decide +kernel
theorem i8:bootBuiltins "tuple" = some (.type "tuple"):=by decide +kernel
theorem qF:bootBuiltins "list" = some (.type "list"):=by decide +kernel
theorem rV:bootBuiltins "int" = some (.type "int"):=by decide +kernel
theorem IX:bootBuiltins "bool" = some (.type "bool"):=by decide +kernel
theorem AZ {n:Nat} {x:Int} (h:Bd n x):Builtin.Int.intBits x<=n:=PySem.intBits_le_iff.mpr h
theorem GX {n:Nat} {x:Int} (h:Builtin.Int.intBits x<=n):Bd n x:=PySem.intBits_le_iff.mp h
section
variable {X:Cx}
def Js (i j:Int):Prop:=∃ m n,Bd m i/\Bd n j/\m+n<=100000000
def JO (_ j:Int):Prop:=j≠0/\Bd 8999 j
theorem IN:iO X (binaryOp .Mult) (rI Js λ i j => .int (i * j)):=Mt λ _ _ _ _ _ _ _ hc q=>by
 obtain ⟨m,n,h1,h2,h3⟩:=hc
 exact mul_int q (IntMulOk.of_le (AZ h1) (AZ h2) (by lia))
theorem EE:iO X (binaryOp .FloorDiv) (rI JO λ i j => .int (i.fdiv j)):=Mt λ _ _ _ _ _ _ _ hc q=>by
 have h2:Bd 8999 _:=hc.2
 exact floordiv_int hc.1 q (.inl (PyProof.noPylong_of_log2 (acK (h2.log (by decide)) (by decide))))
inductive P8 (K:W.Frag) (x:V) (y:V) (H:Hp) (Q:VK):Prop
 | mk (p xs i v:_) (_:x = .ref p) (_:y = .int i) (_:(aR K H p xs∨bO K H p xs)) (_:ud xs i=some v) (_:Q v H)
theorem aw:QF X (P8 X.K):=by
 intro value slice pins s U H x y v u Q I rx ry h hs
 obtain ⟨p,xs,i,w,e1,e2,hq,e3,q⟩:=h
 rcases hq with hq|hq
 . exact Jn value slice pins s U H x y v u Q I rx ry ⟨p,xs,i,w,e1,e2,hq,e3,q⟩ hs
 . exact Lu value slice pins s U H x y v u Q I rx ry ⟨p,xs,i,w,e1,e2,hq,e3,q⟩ hs
theorem pG:hG X (.builtin "isinstance") (λ xs H Q=>∃ x c t cv b,xs=[x,c]/\oA X.K H x t/\RelV c cv/\W.kitOne X.K t cv=some b/\Q (.bl b) H):=by
 intro pins s U H xs us Q I r h
 obtain ⟨x,c,t,cv,b,rfl,ty,rc,e,q⟩:=h
 obtain ⟨u,w',rfl,r1,r2⟩:=vals2 r
 have:w'=cv:=by
   cases c with
   | cf=>cases r2;cases rc;rfl
   | bl b=>cases r2;cases rc;rfl
   | ref a=>cases r2;cases rc;rfl
   | ty n=>cases r2;cases rc;rfl
   | int i=>exact absurd e (by obtain ⟨k,rfl⟩:=rc;intro z;unfold W.kitOne W.kitCls at z;cases ty<;>simp at z)
   | str i=>exact absurd e (by obtain ⟨k,rfl⟩:=rc;intro z;unfold W.kitOne W.kitCls at z;cases ty<;>simp at z)
   | C4 i=>exact absurd e (by obtain ⟨k,rfl⟩:=rc;intro z;unfold W.kitOne W.kitCls at z;cases ty<;>simp at z)
   | JN i=>exact absurd e (by obtain ⟨k,rfl⟩:=rc;intro z;unfold W.kitOne W.kitCls at z;cases ty<;>simp at z)
 subst this
 exact Cg I r1 ty e λ tk=>⟨.bl b,H,I.tok _,rfl,q⟩
end
def ir (K:W.Frag) (mg:Str->Option Value) (x:Str) (st:Stmt):Prop:=∃ f fd,mg x=some (.ref f)/\Gw K x x st f fd
def Def (P:Program) (w:World) (K:W.Frag) (mg:Str->Option Value) (base:Heap) (x:Str) (k:Nat) (ps:List Str) (sp:Sp):Prop :=
 ∃ f fd,mg x=some (.ref f)/\W.keepIn K (.ref f)=true/\Binds K fd ps []/\ki P w K mg base wg k f fd ps sp
section
variable {P:Program} {w:World} {K:W.Frag} {mg:Str->Option Value} {base:Heap}
theorem ir.def {x:Str} {st:Stmt} {N ps:List Str} {k:Nat} {sp:Sp} (h:ir K mg x st) (S:ay N ps (ap st)) (len:∀ vs H Q E,sp vs H Q E->vs.length=ps.length)
   (hb:∀ (kV doc pm:Value) (an:Option Addr) (bA ct:Value) (us:List Value),us.length=ps.length->bindArgs (W.fnOf x x (ci st) (bC st) (ap st) .none kV doc pm an bA ct) ⟨us,[]⟩=pure (ps.zip us))
   (gP:∀ (f:Addr) (bA:Value) (A:Around) (outer:List Env) (s:Shared) (H:Hp) (vs:List V) (Q:VK) (E:XK),cI k (A.deeper (envOfC x (ap st) s.heap.objs.size f bA))->sp vs H Q E ->
     ∃ t,tK (oF wg P w K mg base N x (ap st) f bA A outer s H E).Dj (bC st) t/\t { nx:=λ _ H'=>Q .cf H',rt:=Q } (start N vs) H):Def P w K mg base x (k+1) ps sp:=by
 obtain ⟨f,fd,hm,F⟩:=h
 exact ⟨f,fd,hm,F.kp,F.binds hb,F.ok S len λ bA A outer s H vs Q E hr hs=>gP f bA A outer s H vs Q E hr hs⟩
theorem Gw.KI {x qual:Str} {st:Stmt} {f:Addr} {fd:FuncData} {p:Str} (F:Gw K x qual st f fd)
   (h:∀ (kV doc pm:Value) (an:Option Addr) (bA ct:Value) (u:Value),bindArgs (W.fnOf x qual (ci st) (bC st) (ap st) .none kV doc pm an bA ct) ⟨[u],[]⟩=pure [(p,u)]) (s:Shared) (u:Value):BindsTo s fd ⟨[u],[]⟩ [(p,u)]:=by
 obtain ⟨oc,od,kV,doc,pm,an,bA,ct,ym,rfl,lk,vi⟩:=F.ex
 exact .of_eq (h kV doc pm an bA ct u)
end
section
variable {X:Cx} {x:Str} {p pos:Pos} {e:Expr} {es:List Expr} {t:TA} {k:Nat} {ps:List Str} {sp:Sp}
theorem ar (D:Def X.prog X.w X.K X.mg X.base x k ps sp) (hr:cI k X.A) (ha:PA X (e::es) t) (hg:Gl X x:=by rfl) (yp:(x == ("__debug__" : Str))=false:=by decide)
   (he:starEach (e::es) X.env=(false,eval e X.env)::starEach es X.env:=by rfl) (gT:(backTo pos (starEach es X.env)).any (·.1)=false:=by rfl):PE X (.Call (.Name x p) (e::es) [] pos) (Br sp [] E0 t):=by
 obtain ⟨f,fd,hm,hk,hb,F⟩:=D
 exact Aq F hr hg hm hk hb .nil wr ha yp he gT
end
theorem yT {n:Int} {m:Nat} (h:(W.WData.int n).weight<=m):Bd m n:=by
 refine GX ?_
 simpa only [W.WData.weight,Builtin.Int.intBits] using h
end L2
namespace Att
open PySem PySem.W PySem.Calls PyProof.Rows Mth
theorem vH {l:OpenLaw} {n:Nat} {q:Program} {loose:List Str} {XP:(Str->Option Value)->Heap->Prop} {YP:World->Heap->Prop} {d:DefRec}
   (hn:l.most=some n) (QK:d.params.defaults=[])
   (call:∀ (w:World) (s₀ s₁:Shared) (mg mb:Str->Option Value) (fa:Addr) (o:Obj) (pm cd doc:Value) (a:Addr) (vs:List Value) (ns:List Int),
     Ground q loose [] XP w s₀ mg mb s₁.heap->YP w s₁.heap ->
     s₁.heap.get? fa=some o->o.data = .func (docDef d.name d.params d.body d.scope pm cd doc)->s₁.heap.CodeRec cd d.name->mg d.name=some (.ref fa) ->
     s₁.heap.get? a=some { cls:=.type "list",data:=.seq vs.toArray }->IntsAre vs ns->ns.length<=n->(∀ z∈ns,Bd 1048576 z)->s₁.gens=#[] ->
     codeAny (model l.prog w) callerA (.call (.ref fa) ⟨[.ref a],[]⟩) (λ r s'=>r = .ok (.ret (.bool true))/\OldK s₁.heap s'.heap/\s'.os=s₁.os/\AllBare s'.gens) s₁) :
   WalkO q loose XP YP l.row.toRowW d [] (λ f vs=>PySem.call f vs):=by
 intro w s₀ s₁ mg mb G Y fa o pm cd doc dV kV ho hd vi hD Ms hg args vals as G9 age hrd SY hlo
 obtain rfl:dV = .none:=Dflts.none hD QK
 obtain rfl:kV = .none:=Dflts.noKw hD
 obtain ⟨a,vs,ns,rfl,rfl,Lm,hints,hlen⟩:=Cn hn G9 SY
 have AA:∀ z∈ns,Bd 1048576 z:=λ z hz=>by
   have h1:=layableW_arg age _ (List.mem_singleton.mpr rfl)
   have h2:=layableW_item h1 (.int z) (List.mem_map.mpr ⟨z,hz,rfl⟩)
   exact L2.yT (acS (layableW_iff.mp h2).2.2 (by decide))
 refine enter_call (amB (call w s₀ s₁ mg mb fa o pm cd doc a vs ns G Y ho (fd_plain hd) vi Ms Lm hints hlen AA hg) λ r s' hq=>?_)
 obtain ⟨rfl,h2,h3,h4⟩:=hq
 exact ⟨.inl ⟨.bool true,.bool true,[],rfl,λ _=>rfl,.bool true,Ce l _,λ _=>⟨List.Pairwise.nil,λ _ hm=>(nomatch hm)⟩⟩,h2,h3,h4⟩
end Att
namespace L2
open PySem PySem.Spec PyProof.Rows Mth
variable {D T i1 i2:Addr} {H H':Hp} {Gx xs:List V} {elt iter tg:Expr} {elts ifs:List Expr} {g:TG} {nt t' x1:Nat} {o:HO} {te:TE} {nE:Pos} {U:St}
inductive FF (K:W.Frag) (vs:List V) (H:Hp) (Q:VK) (_E:XK):Prop
 | mk (a:Addr) (ns:List Int) (_:vs=[.ref a]) (_:aR K H a (ns.map V.int)) (_:ns.length<=63) (_:(∀ z∈ns,Bd 1048576 z)) (_:∀ H',Q (.bl true) H')
theorem FV {l:W.OpenLaw} {k:Nat} {q:Program} {loose:List Str} {XP:(Str->Option Value)->Heap->Prop} {YP:World->Heap->Prop} {d:DefRec} {K:Params->W.Frag} {x:Str} (hn:l.most=some 63) (QK:d.params.defaults=[]) (hr:cI k callerA) (hY:∀ (w:World) (h:Heap),YP w h->(K w.params).In h) (F:∀ (w:World) (mg:Str->Option Value) (fa:Addr) (h:Heap),(K w.params).In h->h.Ns mainGlobals mg->mg d.name=some (.ref fa) ->
     ∃ fd:FuncData,(∀ (s:Shared) (u:Value),BindsTo s fd ⟨[u],[]⟩ [(x,u)]) /\
       ∀ base:Heap,(K w.params).In base->base.Ns mainGlobals mg->ki l.prog w (K w.params) mg base wg k fa fd [x] (FF (K w.params))) :
   W.WalkO q loose XP YP l.row.toRowW d [] (λ f vs=>PySem.call f vs):=by
 refine Att.vH hn QK λ w s₀ s₁ mg mb fa o pm cd doc a vs ns G Y ho hd vi Ms Lm hints hlen AA hg=>?_
 have KX:=hY w _ Y
 obtain ⟨fd,hb,hF⟩:=F w mg fa _ KX G.T.g Ms
 exact Fu KX G.T.g G.T.b G.T.builtins G.T.nolimit hg Lm hints (acS hlen (by decide)) hr hF hb (λ H hO hS=>⟨a,ns,rfl,hS,hlen,AA,λ _=>rfl⟩) λ H e s' z=>z
section
variable {X:Cx}
inductive PL  (x:V) (y:V) (H:Hp) (Q:VK):Prop
 | mk (i j:_) (_:x = .int i) (_:y = .int j) (_:∀ r:Int,r=i+j->Q (.int r) H)
inductive M6  (x:V) (y:V) (H:Hp) (Q:VK):Prop
 | mk (i j:_) (_:x = .int i) (_:y = .int j) (_:∀ r:Int,r=i - j->Q (.int r) H)
inductive Ti  (x:V) (y:V) (H:Hp) (Q:VK):Prop
 | mk (i j:_) (_:x = .int i) (_:y = .int j) (_:Js i j) (_:∀ r:Int,r=i * j->Q (.int r) H)
inductive OU  (x:V) (y:V) (H:Hp) (Q:VK):Prop
 | mk (i j:_) (_:x = .int i) (_:y = .int j) (_:JO i j) (_:∀ r:Int,r=i.fdiv j->Q (.int r) H)
inductive Ot  (x:V) (y:V) (H:Hp) (Q:VK):Prop
 | mk (i j:_) (_:x = .int i) (_:y = .int j) (_:G5 i j) (_:∀ r:Int,r=i ^ j.toNat->Q (.int r) H)
inductive Oa  (x:V) (y:V) (H:Hp) (Q:VK):Prop
 | mk (i j:_) (_:x = .int i) (_:y = .int j) (_:G5 i j) (_:∀ r:Int,r=i * 2 ^ j.toNat->Q (.int r) H)
inductive Tf  (x:V) (y:V) (H:Hp) (Q:VK):Prop
 | mk (i j:_) (_:x = .int i) (_:y = .int j) (_:0<=j) (_:∀ r:Int,r=i / 2 ^ j.toNat->Q (.int r) H)
inductive afB  (x:V) (y:V) (H:Hp) (Q:VK):Prop
 | mk (i j:_) (_:x = .int i) (_:y = .int j) (_:∀ r:Int,r=Builtin.bitOr i j->Q (.int r) H)
inductive PM  (x:V) (y:V) (H:Hp) (Q:VK):Prop
 | mk (i j:_) (_:x = .int i) (_:y = .int j) (_:∀ r:Int,r=Builtin.bitAnd i j->Q (.int r) H)
inductive rLM  (x:V) (y:V) (H:Hp) (Q:VK):Prop
 | mk (i j:_) (_:x = .int i) (_:y = .int j) (_:0<j) (_:∀ r:Int,0<=r->r<j->r=i % j->Q (.int r) H)
theorem aY:iO X (binaryOp .Add) PL:=λ pins s U H x y v u Q I rx ry ⟨i,j,e1,e2,q⟩=>Lh pins s U H x y v u Q I rx ry ⟨i,j,e1,e2,q _ rfl⟩
theorem dX:iO X (binaryOp .Sub) M6:=λ pins s U H x y v u Q I rx ry ⟨i,j,e1,e2,q⟩=>Kn pins s U H x y v u Q I rx ry ⟨i,j,e1,e2,q _ rfl⟩
theorem bw:iO X (binaryOp .Mult) Ti:=λ pins s U H x y v u Q I rx ry ⟨i,j,e1,e2,c,q⟩=>IN pins s U H x y v u Q I rx ry ⟨i,j,e1,e2,c,q _ rfl⟩
theorem bN:iO X (binaryOp .FloorDiv) OU:=λ pins s U H x y v u Q I rx ry ⟨i,j,e1,e2,c,q⟩=>EE pins s U H x y v u Q I rx ry ⟨i,j,e1,e2,c,q _ rfl⟩
theorem AU:iO X (binaryOp .Pow) Ot:=λ pins s U H x y v u Q I rx ry ⟨i,j,e1,e2,c,q⟩=>Kx pins s U H x y v u Q I rx ry ⟨i,j,e1,e2,c,q _ rfl⟩
theorem Gv:iO X (binaryOp .LShift) Oa:=λ pins s U H x y v u Q I rx ry ⟨i,j,e1,e2,c,q⟩=>LB pins s U H x y v u Q I rx ry ⟨i,j,e1,e2,c,q _ rfl⟩
theorem Bj:iO X (binaryOp .RShift) Tf:=λ pins s U H x y v u Q I rx ry ⟨i,j,e1,e2,c,q⟩=>Kj pins s U H x y v u Q I rx ry ⟨i,j,e1,e2,c,q _ rfl⟩
theorem Kr:iO X (binaryOp .BitOr) afB:=λ pins s U H x y v u Q I rx ry ⟨i,j,e1,e2,q⟩=>P9 pins s U H x y v u Q I rx ry ⟨i,j,e1,e2,q _ rfl⟩
theorem kQ:iO X (binaryOp .BitAnd) PM:=λ pins s U H x y v u Q I rx ry ⟨i,j,e1,e2,q⟩=>LL pins s U H x y v u Q I rx ry ⟨i,j,e1,e2,q _ rfl⟩
theorem aX:iO X (binaryOp .Mod) rLM:=λ pins s U H x y v u Q I rx ry ⟨i,j,e1,e2,c,q⟩ =>
 Ls pins s U H x y v u Q I rx ry ⟨i,j,e1,e2,c,q _ (ams _ (by lia)) (al7 _ c) rfl⟩
theorem oR:hG X (.builtin "abs") (λ xs H Q=>∃ i,xs=[.int i]/\∀ r:Int,r=i.natAbs->Q (.int r) H) :=
 λ pins s U H xs us Q I r ⟨i,e,q⟩=>Fg pins s U H xs us Q I r ⟨i,e,q _ (by split<;>lia)⟩
theorem bx:hG X (.builtin "len") (λ xs H Q=>∃ p ys,xs=[.ref p]/\(aR X.K H p ys∨bO X.K H p ys)/\∀ r:Int,r=ys.length->Q (.int r) H) :=
 λ pins s U H xs us Q I r ⟨p,ys,e,hq,q⟩=>uM pins s U H xs us Q I r ⟨p,ys,e,hq,q _ rfl⟩
def Vd (t:TS):TS:=λ D U H=>∃ P:St->Hp->Prop,t { D with nx:=P } U H/\∀ σ' H',P σ' H'->D.nx σ' H'
theorem jC {st:Stmt} {t:TS} (h:PS X st t):PS X st (Vd t):=by
 intro pins s U H D I hw
 obtain ⟨P,h1,h2⟩:=hw
 refine cD (h pins s U H { D with nx:=P } I h1) λ f s1 q=>?_
 cases f with
 | next =>
   obtain ⟨σ',H',I',q⟩:=q
   exact ⟨σ',H',I',h2 σ' H' q⟩
 | ret v=>exact q
 | brk=>exact q
 | cont=>exact q
end
theorem oM {c A B:Prop} [Decidable c] (hc:c) (h:A):if decide c=true then A else B:=by
 rw [adD hc];exact gS h
theorem n6 {c A B:Prop} [Decidable c] (hc:¬ c) (h:B):if decide c=true then A else B:=by
 rw [ac7 hc];exact fX h
theorem ji {c A B:Prop} [Decidable c] (h1:c->A) (h2:¬ c->B):if decide c=true then A else B:=by
 by_cases h:c
 . exact oM h (h1 h)
 . exact n6 h (h2 h)
theorem BA {c A B:Prop} [Decidable c] (h1:¬ c->A) (h2:c->B):if (!decide c)=true then A else B:=by
 by_cases h:c
 . exact eZ h (h2 h)
 . rw [ac7 h];exact gS (h1 h)
theorem OK {c A B:Prop} [Decidable c] (hc:¬ c) (h:A):if (!decide c)=true then A else B:=by
 rw [ac7 hc];exact gS h
theorem blT {c:Prop} [Decidable c] (h:c) {Q:VK} (q:Q (.bl true) H):Q (.bl (decide c)) H:=by rw [adD h];exact q
theorem ju {a b:Int}:V.int a=V.int b↔a=b:=⟨λ e=>by cases e;rfl,λ e=>by rw [e]⟩
theorem ak {p:Addr} (h:H p=none):aC H (upd H p o):=λ b u e=>by rw [aq (au e h)];exact e
theorem aC.tup {K:W.Frag} {a:Addr} (e:aC H H') (h:bO K H a xs):bO K H' a xs:=by
 rcases h with (h|⟨o,h⟩)|h
 . exact .inl (.inl (e _ _ h))
 . exact .inl (.inr ⟨o,e _ _ h⟩)
 . exact .inr h
theorem mR {n:Nat} {x:Int} (h:x.natAbs<2 ^ n:=by decide):Bd n x:=h
theorem MF {x:Int} (n:Nat) (lo : -(2 ^ 100)<x) (hi:x<2 ^ 100) (h:100<=n:=by decide):Bd n x:=by
 have:Bd 100 x:=by unfold Bd;lia
 exact this.mono h
theorem vf (K:W.Frag):W.kitOne K (.type "int") (.type "bool")=some false:=by
 show (if W.kitMeta "bool" = true then ((PySem.fastBuiltinMro "int").map (·.contains (Value.type "bool"))) else none)=some false
 decide +kernel
theorem EW {x y:V}:[x,y].length<=sizeLine:=by show 2<=sizeLine;decide
theorem Rp {x y z:V}:[x,y,z].length<=sizeLine:=by show 3<=sizeLine;decide
inductive LI  (vs:List V) (H:Hp) (Q:VK) (_E:XK):Prop
 | mk (a b:Int) (_:vs=[.int a,.int b]) (_:∀ r:Int,r=((Int.gcd a b:Nat):Int)->Q (.int r) H)
inductive wH  (vs:List V) (H:Hp) (Q:VK) (_E:XK):Prop
 | mk (t b:Int) (_:vs=[.int t,.int b]) (_:b≠0) (_:Bd 4000 b) (_:∀ q r p H',Fr t b q r->aC H H'->H' p=some (.tup [.int q,.int r])->Q (.ref p) H')
inductive yw (f:Int->Int->Int->Int->Int) (K:W.Frag) (vs:List V) (H:Hp) (Q:VK) (_E:XK):Prop
 | mk (p1 p2 a b c d:_) (_:vs=[.ref p1,.ref p2]) (_:bO K H p1 [.int a,.int b]) (_:bO K H p2 [.int c,.int d]) (_:0<b) (_:0<d) (_:Bd 1000 a) (_:Bd 1000 b) (_:Bd 1000 c) (_:Bd 1000 d) (_:∀ q r p H',Fr (f a b c d) (b * d) q r->aC H H'->H' p=some (.tup [.int q,.int r])->Q (.ref p) H')
inductive Er (K:W.Frag) (vs:List V) (H:Hp) (Q:VK) (_E:XK):Prop
 | mk (p1 p2 a b c d:_) (_:vs=[.ref p1,.ref p2]) (_:bO K H p1 [.int a,.int b]) (_:bO K H p2 [.int c,.int d]) (_:Bd 1000 a) (_:Bd 1000 b) (_:Bd 1000 c) (_:Bd 1000 d) (_:Q (.bl (decide (a * d<c * b))) H)
inductive zu (K:W.Frag) (vs:List V) (H:Hp) (Q:VK) (_E:XK):Prop
 | mk (a:Addr) (ns:List Int) (k:Int) (_:vs=[.ref a,.int k]) (_:aR K H a (ns.map V.int)) (_:0<=k) (_:∀ z,(z∈ns∨z=0)->Q (.int z) H)
inductive EF  (vs:List V) (H:Hp) (Q:VK) (_E:XK):Prop
 | mk (t b:Int) (_:vs=[.int t,.int b]) (_:0<b) (_:Bd 4000 b) (_:∀ q r p H',Fr t b q r->aC H H'->H' p=some (.tup [.int q,.int r])->Q (.ref p) H')
def ck (X:Cx) (N':List Str) (scope:Scope) (cl:List (Str×Addr)) (C:Addr) (s:Shared) (H:Hp) (ex:List Addr):Cx :=
 { X with N:=N',env:=compEnvC scope cl C X.env,s₀:=s,H₀:=H,outer:=X.stack,ex:=ex,fn:=λ _=>false,pn:=[],xe:=λ _ _=>False }
def JK (X:Cx) (ifs:List Expr) (tt:TT):Prop :=
 ∀ (pins:List (Addr×Obj)) (s:Shared) (U:St) (H:Hp) (Q:Bool->Hp->Prop),Inv X pins U H s->tt U H Q ->
   wpAny (model X.prog X.w) X.A (forIn ifs true λ c r=>if r=true then do let ok ← isTrue c X.env (eval c X.env);pure (ForInStep.yield ok) else pure (ForInStep.yield r)) (TP X pins U Q) X.xe s
def agK:TT:=λ _ H Q=>Q true H
theorem cr {X:Cx}:JK X [] agK:=λ _ _ _ H _ I h=>wpAny_tests_nil ⟨H,I,h⟩
theorem jP {X:Cx} {c:Expr} {tt:TT} (hc:PT X c tt):JK X [c] tt:=λ pins s U H Q I h=>wpAny_tests_one (hc pins s U H Q I h)
def fP (env:Env):List (Str×NameKind)->List (Str×Addr)->List (Str×Addr)
 | [],acc=>acc
 | y::r,acc=>fP env r (if (y.2 == NameKind.free)=true then (y.1,(env.cells.lookup y.1).getD 0)::acc else acc)
theorem uP (env:Env):∀ (names:List (Str×NameKind)) (acc:List (Str×Addr)),(∀ y∈names,y.2 = .free->∃ c,env.cells.lookup y.1=some c) ->
   (forIn names acc λ x __s=>if (x.snd == NameKind.free)=true then do
       let __do_lift ← cellOf env x.fst
       pure (ForInStep.yield ((x.fst,__do_lift)::__s))
     else pure (ForInStep.yield __s))=(pure (fP env names acc):Sem _)
 | [],acc,_=>rfl
 | y::r,acc,h=>by
   rw [alT]
   by_cases hk:(y.2 == NameKind.free)=true
   .
    obtain ⟨c,e⟩:=h y abQ (beq_iff_eq.mp hk)
    rw [ady hk]
    have ec:cellOf env y.1=pure c:=by unfold cellOf;rw [e]
    rw [ec]
    simp only [pure_bind]
    rw [uP env r _ λ z hz=>h z (aaS _ hz)]
    simp only [fP,hk,alf,e,Option.getD_some]
   . rw [ac9 hk]
     simp only [pure_bind]
     rw [uP env r _ λ z hz=>h z (aaS _ hz)]
     simp only [fP,hk,alc]
     rfl
theorem HP {scope:Scope} {env:Env} (h:∀ y∈scope.names,y.2 = .free->∃ c,env.cells.lookup y.1=some c):closureFor scope env=pure (fP env scope.names []):=by
 simp only [closureFor]
 rw [uP env scope.names [] h]
 simp only [pure_bind]
theorem tQ {env:Env}:∀ {names:List (Str×NameKind)} {acc:List (Str×Addr)},(∀ y∈names,y.2 = .free->∃ c,env.cells.lookup y.1=some c)->(∀ x c,acc.lookup x=some c->env.cells.lookup x=some c) ->
   ∀ x c,(fP env names acc).lookup x=some c->env.cells.lookup x=some c
 | [],_,_,ha,x,c,e=>ha x c e
 | y::r,acc,h,ha,x,c,e=>by
   refine tQ (names:=r) (λ z hz=>h z (aaS _ hz)) ?_ x c e
   intro x c e
   by_cases hk:(y.2 == NameKind.free)=true
   .
    rw [ady hk] at e
    obtain ⟨c',e'⟩:=h y abQ (beq_iff_eq.mp hk)
    rw [e',Option.getD_some,ajd] at e
    cases q:x == y.1 with
    | true=>rw [q] at e;cases e;rw [beq_iff_eq.mp q];exact e'
    | false=>rw [q] at e;exact ha x c e
   . rw [ac9 hk] at e;exact ha x c e
theorem ut {env:Env}:∀ {names:List (Str×NameKind)} {acc:List (Str×Addr)} {x:Str},(∃ c,acc.lookup x=some c)->∃ c,(fP env names acc).lookup x=some c
 | [],_,_,h=>h
 | y::r,acc,x,⟨c,h⟩=>by
   refine ut (names:=r) ?_
   by_cases hk:(y.2 == NameKind.free)=true
   . rw [ady hk,ajd]
     cases q:x == y.1 with
     | true=>exact ⟨_,rfl⟩
     | false=>exact ⟨c,h⟩
   . rw [ac9 hk];exact ⟨c,h⟩
theorem oy {env:Env}:∀ {names:List (Str×NameKind)} {acc:List (Str×Addr)} {y:Str×NameKind},y∈names->y.2 = .free->∃ c,(fP env names acc).lookup y.1=some c
 | z::r,acc,y,hm,hk=>by
   rcases List.mem_cons.mp hm with rfl|hm
   . refine ut (names:=r) ?_
     rw [ady (beq_iff_eq.mpr hk),ajd]
     simp
   . exact oy (names:=r) hm hk
theorem sF {scope:Scope} {env:Env} {x:Str} {k:NameKind} (h:(relabel scope env).names.lookup x=some k) (hk:k = .cell∨k = .free) (gk:∀ y∈scope.names,y.2 ≠ .cell):(x,NameKind.free)∈scope.names:=by
 have hm:=aj8 h
 obtain ⟨⟨n,k0⟩,h1,h2⟩:=List.mem_map.mp hm
 dsimp only at h2
 split at h2
 .
  rename_i hc
  cases h2
  have:(k0 == NameKind.free)=true:=by
    simp only [aga] at hc
    exact hc.1.1
  rw [beq_iff_eq.mp this] at h1
  exact h1
 .
  cases h2
  rcases hk with rfl|rfl
  . exact absurd rfl (gk _ h1)
  . exact h1
theorem hJ {env:Env}:∀ {names:List (Str×NameKind)} {x:Str},names.lookup x=some .free ->
   (names.map λ (n,k)=>if (k == NameKind.free && env.scope.kind == .function && env.kindOf n == some .cell) then (n,NameKind.cell) else (n,k)).lookup x=some .cell ∨
   (names.map λ (n,k)=>if (k == NameKind.free && env.scope.kind == .function && env.kindOf n == some .cell) then (n,NameKind.cell) else (n,k)).lookup x=some .free
 | [],_,h=>by simp at h
 | (n,k)::r,x,h=>by
   have ih:=@hJ env r x
   show List.lookup x ((if (k == NameKind.free && env.scope.kind == .function && env.kindOf n == some .cell)=true then (n,NameKind.cell) else (n,k))::_)=_∨List.lookup x ((if (k == NameKind.free && env.scope.kind == .function && env.kindOf n == some .cell)=true then (n,NameKind.cell) else (n,k))::_)=_
   cases hx:x == n with
   | true =>
     simp only [ajd,hx] at h
     cases h
     by_cases hc:(NameKind.free == NameKind.free && env.scope.kind == .function && env.kindOf n == some .cell)=true
     . rw [ady hc];simp [ajd,hx]
     . rw [ac9 hc];simp [ajd,hx]
   | false =>
     simp only [ajd,hx] at h
     by_cases hc:(k == NameKind.free && env.scope.kind == .function && env.kindOf n == some .cell)=true
     . rw [ady hc];simp only [ajd,hx];exact ih h
     . rw [ac9 hc];simp only [ajd,hx];exact ih h
section
variable {prog:Program} {w:World} {A:Around} {E:Value->Shared->Prop} {R:Result->Shared->Prop} {s:Shared}
theorem xV {target:Expr} {scope:Scope} {pos:Pos} {it acc:Value} {env:Env} (I:Nat->Shared->Prop) (turn:∀ n s,I n s->wpAny (model prog w) A (pyNext it) (λ r s₁=>match r with
     | none=>R (.ok .next) s₁
     | some v=>wpAny (model prog w) A (letOwnedTupleGo target it v) (λ _ s₁=>wpAny (model prog w) A (assign target env v) (λ _ s₂ =>
         wpAny (model prog w) A (forIn ifs true λ c r=>if r=true then do let ok ← isTrue c env (eval c env);pure (ForInStep.yield ok) else pure (ForInStep.yield r)) (λ ok s₃ =>
           if ok=true then wpAny (model prog w) A (eval elt env) (λ x s₄ =>
             wpAny (model prog w) A (call (.builtin "list.append") [acc,x]) (λ _ s₅=>∃ m,m<n/\I m s₅) (notedBy (model prog w) A env λ e s'=>R (.error e) s') s₄) (notedBy (model prog w) A env λ e s'=>R (.error e) s') s₃
           else ∃ m,m<n/\I m s₃) (notedBy (model prog w) A env λ e s'=>R (.error e) s') s₂) (notedBy (model prog w) A env λ e s'=>R (.error e) s') s₁) (notedBy (model prog w) A env λ e s'=>R (.error e) s') s₁) (notedBy (model prog w) A env λ e s'=>R (.error e) s') s) (n:Nat) (h:I n s) :
   codeAny (model prog w) A (.compLoop (.ListComp elt [⟨target,iter,ifs,0⟩] scope pos) 0 it acc env) R s:=by
 refine codeAny_loop rfl I (λ n s hI=>?_) n h
 show wpAny _ A ((compTurn (.ListComp elt [⟨target,iter,ifs,0⟩] scope pos) 0 it acc env).onRaise (λ x=>do noteFrame x env;theTreesLotGoes x)) _ _ s
 refine wpAny_noted ?_
 rw [compTurn_list]
 refine P5 (wpAny_standAt (P5 (aiq (turn n s hI) (λ r s₁ h₁=>?_) λ _ _ h'=>h')))
 cases r with
 | none=>exact abN h₁
 | some v =>
   refine P5 (aiq h₁ (λ _ s₁' h₁'=>?_) λ _ _ h'=>h')
   refine P5 (aiq h₁' (λ _ s₂ h₂=>P5 (aiq h₂ (λ ok s₃ h₃=>?_) λ _ _ h'=>h')) λ _ _ h'=>h')
   cases ok with
   | false=>exact abN ⟨rfl,h₃⟩
   | true =>
     exact P5 (P5 (aiq h₃ (λ x s₄ h₄=>P5 (aiq h₄ (λ _ s₅ h₅=>abN (abN ⟨rfl,h₅⟩)) λ _ _ h'=>h')) λ _ _ h'=>h'))
end
section
variable {X:Cx}
def wN (wi:TI) (g:TG) (tt:TT) (te:TE) (nt:Nat) (sl:List Nat):TE:=λ U H Q=>wi U H λ J H1=>∀ D,H1 D=none ->
 ∃ W:Nat->Nat->List V->St->Hp->Prop,(∃ m,W 0 m [] (List.replicate nt none++sl.map λ j=>(U[j]?).join) (upd H1 D (.lst []))) /\
   ∀ i m acc σ' H',W i m acc σ' H' ->
     (J.stop i H'/\Q (.ref D) H') ∨
     (J.go i H'/\∃ N:List V->St->Hp->Prop,(∀ f9 σ2 H4,N f9 σ2 H4->∃ m',m'<m/\W (i+1) m' f9 σ2 H4)/\∀ x H2,J.Ge i H' x H2->g x σ' H2 λ σ2 H3=>tt σ2 H3 λ b H4 =>
       if b=true then te σ2 H4 λ y H5=>H5 D=some (.lst acc)/\acc.length<sizeLine/\N (acc++[y]) σ2 (upd H5 D (.lst (acc++[y])))
       else N acc σ2 H4)
theorem um {scope:Scope} {pos:Pos} {wi:TI} {tt:TT} {N':List Str} {sl:List Nat} (hc:X.calm=true) (hi:PI X tg iter wi) (hg:∀ cl C s H ex,PG (ck X N' scope cl C s H ex) tg g) (ht:∀ cl C s H ex,JK (ck X N' scope cl C s H ex) ifs tt) (he:∀ cl C s H ex,PE (ck X N' scope cl C s H ex) elt te) (R4:N'.length=nt+sl.length) (QD:∀ k j:Nat,sl[k]?=some j->∃ x,N'[nt+k]?=some x/\X.N[j]?=some x/\scope.names.lookup x=some .free) (hk:scope.kind = .function) (gk:∀ y∈scope.names,y.2 ≠ .cell) (jA:∀ y∈scope.names,y.2 = .local->scope.names.lookup y.1=some .local) (jf:∀ y∈scope.names,y.2 = .free->X.env.kindOf y.1=some .cell∨X.env.kindOf y.1=some .free) (hs:∀ x,foldedSetIterable iter X.env x=pure x) {use:Option (Value->Sem Unit)} {Qp:Value->Shared->Prop} {pins:List (Addr×Obj)} {s:Shared} {Q:V->Hp->Prop} {pos':Pos} (I:Inv X pins U H s) (h:wN wi g tt te nt sl U H Q) (fin:∀ (s6:Shared) (H5:Hp) (d c:Addr) m,Inv X pins U H5 s6->sU X pins H5 c->s6.heap.Ns c m->Q (.ref d) H5->compPost (model X.prog X.w) X.A X.xe use Qp (.ref d) c (.ok .next) s6) :
   wpAny (model X.prog X.w) X.A (comprehension (.ListComp elt [⟨tg,iter,ifs,0⟩] scope pos) scope X.env pos' (newList []) false (eval iter X.env) use) Qp X.xe s:=by
 have Rq:∀ y∈scope.names,y.2 = .free->∃ c,X.env.cells.lookup y.1=some c:=λ y hy hf=>I.ok.has y.1 (jf y hy hf)
 have wW:=tQ (env:=X.env) (names:=scope.names) (acc:=[]) Rq (λ x c e=>by simp at e)
 refine wpAny_comprehension_free (use:=use) (cl:=fP X.env scope.names []) rfl hs (HP Rq) hk jA (cD (hi pins s U H _ I h) λ v s1 h1=>cD h1 λ itv s2 h2=>?_)
 obtain ⟨it,fp,tn,J,H2,rfl,I2,T,UW,f2,q⟩:=h2
 have nD:H2 s2.heap.objs.size=none:=I2.cQ.fresh (aaU _)
 obtain ⟨W,⟨m0,w0⟩,turn⟩:=q s2.heap.objs.size nD
 refine akQ ?_ (by show 0<=sizeLine;exact aeU _)
 have I3:Inv X pins U (upd H2 s2.heap.objs.size (.lst [])) { s2 with heap:=s2.heap.push { cls:=.type "list",data:=.seq ([]:List Value).toArray }} :=
   I2.laid (t':=s2.toks) (λ b u e=>abA _ e) (aaU _) ⟨aeU _,[],0,.nil,aep _ rfl⟩
 generalize LX:({ s2 with heap:=s2.heap.push { cls:=.type "list",data:=.seq ([]:List Value).toArray }}:Shared)=s3 at I3 ⊢
 have hle:s2.heap.objs.size<=s3.heap.objs.size:=by rw [← LX];show _<=(Heap.push _ _).objs.size;rw [alM];exact ak2 _
 have Iw:∀ b o,s2.heap.get? b=some o->s3.heap.get? b=some o:=λ b o e=>by rw [← LX];exact abA _ e
 refine wpAny_newFunctionEnv gk (by intro y hy;simp at hy) (λ h₁ UN hsb=>?_) hk
 have wG:∀ b o,s3.heap.get? b=some o->h₁.get? b=some o:=λ b o e=>hsb.extBut b o (ad8 (abZ e)) (abA _ e)
 have nC:(upd H2 s2.heap.objs.size (.lst [])) s3.heap.objs.size=none:=I3.cQ.fresh (aaU _)
 have frC:s3.heap.get? s3.heap.objs.size=none:=amb (aaU _)
 have SX:∀ b∈fp,b<s2.heap.objs.size:=λ b hb=>by
   obtain ⟨o,e,_⟩:=T.obj _ _ UW b hb
   exact abZ e
 have fpC:∀ b∈fp,b≠s3.heap.objs.size:=λ b hb=>ad8 (acK (SX b hb) hle)
 have fpD:∀ b∈fp,b≠s2.heap.objs.size:=λ b hb=>ad8 (SX b hb)
 have fpS:∀ b∈fp,b∉Dd X.stack:=λ b hb hm=>by
   rcases List.mem_cons.mp (I2.yJ b hm) with z|z
   . exact (f2 b hb).2.1 z
   . exact (f2 b hb).2.2.1 z
 have alx:∀ x c,(fP X.env scope.names []).lookup x=some c->X.env.cells.lookup x=some c:=wW
 have vk:∀ b∈fp,(b∈X.ex∨X.s₀.heap.objs.size<=b)/\b≠X.env.locals/\(∀ x c,X.env.cells.lookup x=some c->c≠b)/\∀ p∈X.pn++pins,p.1≠b:=λ b hb =>
   ⟨(f2 b hb).2.2.2.1,(f2 b hb).2.1,(f2 b hb).2.2.2.2.1,(f2 b hb).2.2.2.2.2⟩
 have J3:(ck X N' scope (fP X.env scope.names []) s3.heap.objs.size s3 (upd H2 s2.heap.objs.size (.lst [])) fp).Ok:=by
   refine ⟨I3.ok.mod,hk,I3.ok.glob,I3.ok.blt,aaU _,λ x y c h1 h2=>I3.ok.inj x y c (wW x c h1) (wW y c h2),λ x hx=>?_,(λ x c hf=>nomatch hf),I3.ok.hd,I3.ok.frames,.inl rfl,λ b hb=>⟨fpC b hb,λ x c e=>(vk b hb).2.2.1 x c (wW x c e)⟩,
     I3.bs,acS I3.ok.Jp I3.sz,λ b o e hb=>?_,fpS,I3.stack,I3.AH⟩
   . have hm:(x,NameKind.free)∈scope.names:=by
       rcases hx with hx|hx
       . exact sF hx (.inl rfl) gk
       . exact sF hx (.inr rfl) gk
     exact oy hm rfl
   . rcases (vk b hb).1 with z|z
     . exact I3.ok.DF b o e z
     . exact absurd (acK (abZ (I3.ok.bs b o e).1) z) (ah4 _)
 have I4:Inv (ck X N' scope (fP X.env scope.names []) s3.heap.objs.size s3 (upd H2 s2.heap.objs.size (.lst [])) fp) [] (List.replicate nt none++sl.map λ j=>(U[j]?).join) (upd H2 s2.heap.objs.size (.lst []))
     { s3 with heap:=h₁,toks:=s3.toks+([]:List (Str×Value)).length }:=by
   refine ⟨J3,rfl,I3.bare,Un.kept wG,⟨_,UN,λ i x v e1 e2 e3=>?_⟩,λ x c e=>?_,nC,λ x c e=>I3.lQ x c (wW x c e),λ p hp=>absurd hp (by simp [ck]),I3.cQ.kept wG,?_⟩
   .
    by_cases hi:i<nt
    . rw [abM (by simpa using hi),amL] at e2
      split at e2<;>cases e2
    .
     rw [afw (by simpa using hi),akW,aat] at e2
     cases ej:sl[i - nt]? with
     | none=>rw [ej] at e2;cases e2
     | some j =>
       rw [ej] at e2
       have UD:(U[j]?).join=some v:=abG e2
       have eσ:U[j]?=some (some v):=by
         cases q:U[j]? with
         | none=>rw [q] at UD;cases UD
         | some o=>rw [q] at UD;cases UD;rfl
       obtain ⟨y,n1,n2,n3⟩:=QD _ j ej
       have:nt+(i - nt)=i:=by lia
       rw [this] at n1
       have ZG:y=x:=abG (n1.symm.trans e1)
       subst ZG
       have hm:(y,NameKind.free)∈scope.names:=aj8 n3
       have hkx:=jf _ hm rfl
       obtain ⟨m,hn,hl⟩:=I3.loc
       have vis:QC X.env.scope y:=by
         rcases hkx with z|z
         . exact .inr (.inl z)
         . exact .inr (.inr z)
       obtain ⟨u,r,l⟩:=hl j y v n2 eσ vis
       refine ⟨u,r,.inr ⟨hJ n3,?_⟩⟩
       obtain ⟨c,ec⟩:=oy (env:=X.env) (acc:=[]) hm rfl
       refine ⟨c,ec,?_⟩
       rcases l with ⟨k1,_⟩|⟨_,c',e',LF⟩
       . rcases hkx with z|z
         . rw [show X.env.kindOf y=some .local from k1] at z;cases z
         . rw [show X.env.kindOf y=some .local from k1] at z;cases z
       . have Da:c=c':=abG ((wW y c ec).symm.trans e')
         subst Da
         obtain ⟨o,ho,hd⟩:=LF
         exact ⟨o,wG c o ho,hd⟩
   . obtain ⟨v,o,ho,hd⟩:=I3.cell x c (wW x c e)
     exact ⟨v,o,wG c o ho,hd⟩
   . show _=N'.length
     rw [R4,aaE,akW,zN]
 have st4:tn 0 h₁:=T.keep _ _ _ UW λ b hb o e=>wG b o (Iw b o e)
 have Ku:∀ {pl:List (Addr×Obj)} {H':Hp},pl=[]->(∀ b∈fp,H' b=none)->∀ b∈fp,sU (ck X N' scope (fP X.env scope.names []) s3.heap.objs.size s3 (upd H2 s2.heap.objs.size (.lst [])) fp) pl H' b:=λ {pl H'} gT hn b hb=>by
   subst gT
   exact ⟨hn b hb,fpC b hb,fpS b hb,.inl hb,λ x c e=>(vk b hb).2.2.1 x c (wW x c e),λ p hp=>absurd hp (by simp [ck])⟩
 have fr4:∀ b∈fp,(upd H2 s2.heap.objs.size (.lst [])) b=none:=λ b hb=>by rw [aq (fpD b hb)];exact (f2 b hb).1
 have loop:codeAny (model X.prog X.w) X.A (.compLoop (.ListComp elt [⟨tg,iter,ifs,0⟩] scope pos) 0 (.ref it) (.ref s2.heap.objs.size) (compEnvC scope (fP X.env scope.names []) s3.heap.objs.size X.env))
     (compPost (model X.prog X.w) X.A X.xe use Qp (.ref s2.heap.objs.size) s3.heap.objs.size) { s3 with heap:=h₁,toks:=s3.toks+([]:List (Str×Value)).length }:=by
   refine xV (λ n s'=>∃ i acc σ' H',Inv (ck X N' scope (fP X.env scope.names []) s3.heap.objs.size s3 (upd H2 s2.heap.objs.size (.lst [])) fp) [] σ' H' s'/\tn i s'.heap/\(∀ b∈fp,H' b=none)/\W i n acc σ' H') ?_ m0 ⟨0,[],_,_,I4,st4,fr4,w0⟩
   rintro n s5 ⟨i,acc,σ5,H5,I5,MQ,U0,w5⟩
   rcases turn i n acc σ5 H5 w5 with ⟨stop,qn⟩|⟨go,N,hN,step⟩
   . refine cD (T.done (ck X N' scope (fP X.env scope.names []) s3.heap.objs.size s3 (upd H2 s2.heap.objs.size (.lst [])) fp) rfl rfl rfl hc i [] s5 σ5 H5 _ I5 (Ku rfl U0) MQ stop) λ r s6 ⟨hr,I6⟩=>?_
     subst hr
     obtain ⟨m,hn,_⟩:=id I6.loc
     exact fin s6 H5 _ _ m (I3.Nx (s':=s6) I6.os I6.base I6.cQ I6.bare vk) (I3.yh (aaU _) I6.free) hn qn
   .
    refine cD (T.item (ck X N' scope (fP X.env scope.names []) s3.heap.objs.size s3 (upd H2 s2.heap.objs.size (.lst [])) fp) rfl rfl rfl hc i [] s5 σ5 H5 _ I5 (Ku rfl U0) MQ go) λ r s6 ⟨u,hr,h6⟩=>?_
    subst hr
    refine cD h6 λ _ s7 ⟨x,H7,I7,r7,y7,st7,fr7⟩=>?_
    have I7':=I7.pinned (Ku rfl fr7) (T.obj _ _ st7)
    have again:∀ {s8:Shared} {σ8:St} {H8:Hp} {f9:List V},Inv (ck X N' scope (fP X.env scope.names []) s3.heap.objs.size s3 (upd H2 s2.heap.objs.size (.lst [])) fp) ([]++qN fp s7.heap) σ8 H8 s8->(∃ m',m'<n/\W (i+1) m' f9 σ8 H8) ->
        ∃ m,m<n/\∃ i acc σ' H',Inv (ck X N' scope (fP X.env scope.names []) s3.heap.objs.size s3 (upd H2 s2.heap.objs.size (.lst [])) fp) [] σ' H' s8/\tn i s8.heap/\(∀ b∈fp,H' b=none)/\W i m acc σ' H':=λ {s8 σ8 H8 f9} I8 ⟨m',hm,w8⟩=>by
      refine ⟨m',hm,i+1,f9,σ8,H8,I8.mW,T.keep _ _ _ st7 λ b hb o e=>(I8.pin (b,o) (af2 _ (af2 _ (jF hb e)))).1,λ b hb=>?_,w8⟩
      obtain ⟨o,e,d⟩:=T.obj _ _ st7 b hb
      exact (I8.pin (b,o) (af2 _ (af2 _ (jF hb e)))).2.1
    refine aiq (hg _ _ _ _ _ _ s7 σ5 H7 x u _ I7' r7 (step x H7 y7)) (λ _ s8 ⟨σ8,H8,I8,q8⟩=>?_) λ _ _ z=>False.elim z
    refine aiq (ht _ _ _ _ _ _ s8 σ8 H8 _ I8 q8) (λ ok s9 ⟨H9,I9,q9⟩=>?_) λ _ _ z=>False.elim z
    cases ok with
    | false =>
      rw [ac9 ac8] at q9 ⊢
      exact again I9 (hN _ _ _ q9)
    | true =>
      rw [ady rfl] at q9 ⊢
      refine aiq (he _ _ _ _ _ _ s9 σ8 H9 _ I9 q9) (λ y sN ⟨yv,E7,I10,TX,hD,hz,q10⟩=>?_) λ _ _ z=>False.elim z
      refine aiq (bX (X:=(ck X N' scope (fP X.env scope.names []) s3.heap.objs.size s3 (upd H2 s2.heap.objs.size (.lst [])) fp)) _ sN σ8 E7 (.ref s2.heap.objs.size) [yv] (.ref s2.heap.objs.size) [y] (λ _ u7=>N (acc++[yv]) σ8 u7) I10 rfl (.cons TX .nil) ⟨_,acc,yv,rfl,rfl,hD,hz,q10⟩) (λ _ yA ⟨v11,u7,I11,Yf,q11⟩=>?_) λ _ _ z=>False.elim z
      exact again I11 (hN _ _ _ q11)
 exact codeAny_compStart_list loop (T.self _ 0 _ _ _ st4 loop)
theorem IZ {scope:Scope} {pos:Pos} {wi:TI} {tt:TT} {N':List Str} {sl:List Nat} (hc:X.calm=true) (hi:PI X tg iter wi) (hg:∀ cl C s H ex,PG (ck X N' scope cl C s H ex) tg g) (ht:∀ cl C s H ex,JK (ck X N' scope cl C s H ex) ifs tt) (he:∀ cl C s H ex,PE (ck X N' scope cl C s H ex) elt te) (R4:N'.length=nt+sl.length) (QD:∀ k j:Nat,sl[k]?=some j->∃ x,N'[nt+k]?=some x/\X.N[j]?=some x/\scope.names.lookup x=some .free) (hk:scope.kind = .function) (gk:∀ y∈scope.names,y.2 ≠ .cell) (jA:∀ y∈scope.names,y.2 = .local->scope.names.lookup y.1=some .local) (jf:∀ y∈scope.names,y.2 = .free->X.env.kindOf y.1=some .cell∨X.env.kindOf y.1=some .free) (hs:∀ x,foldedSetIterable iter X.env x=pure x:=by intro _;rfl) :
   PE X (.ListComp elt [⟨tg,iter,ifs,0⟩] scope pos) (wN wi g tt te nt sl):=by
 intro pins s U H Q I h
 rw [eval_ListComp]
 exact um hc hi hg ht he R4 QD hk gk jA jf hs I h λ s6 H5 d c m J F hn q=>⟨m,hn,λ h' sb=>⟨.ref d,H5,J.turned (t':=s6.toks) (λ b _ hb q=>(sb.2 b hb).trans q) F.1 F.2.1 F.2.2.2.1 F.2.2.2.2.1 F.2.2.2.2.2,rfl,q⟩⟩
theorem fM {scope:Scope} {pos:Pos} {wi:TI} {tt:TT} (tn fr:List Str) (sl:List Nat) (hp:Paired (λ (j:Nat) (x:Str)=>X.N[j]?=some x/\scope.names.lookup x=some .free/\(X.env.kindOf x=some .cell∨X.env.kindOf x=some .free)) sl fr) (hc:X.calm=true) (hi:PI X tg iter wi) (hg:∀ cl C s H ex,PG (ck X (tn++fr) scope cl C s H ex) tg g) (ht:∀ cl C s H ex,JK (ck X (tn++fr) scope cl C s H ex) ifs tt) (he:∀ cl C s H ex,PE (ck X (tn++fr) scope cl C s H ex) elt te) (hk:scope.kind = .function) (gk:∀ y∈scope.names,y.2 ≠ .cell) (jA:∀ y∈scope.names,y.2 = .local->scope.names.lookup y.1=some .local) (jf:∀ y∈scope.names,y.2 = .free->y.1∈fr) (hs:∀ x,foldedSetIterable iter X.env x=pure x:=by intro _;rfl) :
   PE X (.ListComp elt [⟨tg,iter,ifs,0⟩] scope pos) (wN wi g tt te tn.length sl):=by
 have key:∀ {sl:List Nat} {fr:List Str},Paired (λ (j:Nat) (x:Str)=>X.N[j]?=some x/\scope.names.lookup x=some .free/\(X.env.kindOf x=some .cell∨X.env.kindOf x=some .free)) sl fr ->
     (∀ k j:Nat,sl[k]?=some j->∃ x,fr[k]?=some x/\X.N[j]?=some x/\scope.names.lookup x=some .free)/\∀ x∈fr,X.env.kindOf x=some .cell∨X.env.kindOf x=some .free:=by
   intro sl fr hp
   induction hp with
   | nil=>exact ⟨λ k j h=>by simp at h,λ x hx=>by simp at hx⟩
   | cons r t ih =>
     refine ⟨λ k j h=>?_,λ x hx=>?_⟩
     . cases k with
       | zero =>
         have e:_=j:=abG h
         subst e
         exact ⟨_,rfl,r.1,r.2.1⟩
       | succ k=>exact ih.1 k j (by simpa using h)
     . rcases List.mem_cons.mp hx with z|z
       . rw [z];exact r.2.2
       . exact ih.2 x z
 refine IZ (N':=tn++fr) hc hi hg ht he (by rw [aaE,hp.length]) (λ k j h=>?_) hk gk jA (λ y hy hf=>(key hp).2 _ (jf y hy hf)) hs
 obtain ⟨x,e1,e2⟩:=(key hp).1 k j h
 exact ⟨x,by rw [afw (akR _ _),amK];exact e1,e2⟩
end
theorem fJ {lo:Int} {n:Nat} {tt:TT} {Q:Hp->Prop} (Pv:Nat->List V->St->Hp->Prop) (h0:Pv 0 [] U H) (hs:∀ i acc U H,i<n->Pv i acc U H->g (.int (lo+i)) U H λ σ2 H3=>tt σ2 H3 λ b H4 =>
     if b=true then te σ2 H4 λ y H5=>H5 D=some (.lst acc)/\acc.length<sizeLine/\Pv (i+1) (acc++[y]) σ2 (upd H5 D (.lst (acc++[y]))) else Pv (i+1) acc σ2 H4) (hd:∀ acc U H,Pv n acc U H->Q H) :
   ∃ W:Nat->Nat->List V->St->Hp->Prop,(∃ m,W 0 m [] U H)/\∀ i m acc σ' H',W i m acc σ' H'->((GI lo n).stop i H'/\Q H') ∨
     ((GI lo n).go i H'/\∃ N:List V->St->Hp->Prop,(∀ f9 σ2 H4,N f9 σ2 H4->∃ m',m'<m/\W (i+1) m' f9 σ2 H4)/\∀ x H2,(GI lo n).Ge i H' x H2->g x σ' H2 λ σ2 H3=>tt σ2 H3 λ b H4 =>
       if b=true then te σ2 H4 λ y H5=>H5 D=some (.lst acc)/\acc.length<sizeLine/\N (acc++[y]) σ2 (upd H5 D (.lst (acc++[y]))) else N acc σ2 H4):=by
 refine ⟨λ i m acc U H=>m=n - i/\i<=n/\Pv i acc U H,⟨n,by simp,aeU _,h0⟩,?_⟩
 rintro i m acc U H ⟨rfl,hi,p⟩
 by_cases l5:i<n
 .
  refine .inr ⟨l5,Pv (i+1),λ f9 σ' H' p'=>⟨n - (i+1),by lia,rfl,l5,p'⟩,λ x H' y=>?_⟩
  obtain ⟨e,y⟩:=y
  subst e y
  exact hs i acc U _ l5 p
 . have e:i=n:=by lia
   subst e
   exact .inl ⟨aaU _,hd acc U H p⟩
theorem cu {K:W.Frag} {a:Addr} {tt:TT} {Q:Hp->Prop} (Pv:Nat->List V->St->Hp->Prop) (h0:Pv 0 [] U H) (hl:∀ i acc U H,i<=xs.length->Pv i acc U H->aR K H a xs) (hs:∀ i x acc U H,xs[i]?=some x->Pv i acc U H->g x U H λ σ2 H3=>tt σ2 H3 λ b H4 =>
     if b=true then te σ2 H4 λ y H5=>H5 D=some (.lst acc)/\acc.length<sizeLine/\Pv (i+1) (acc++[y]) σ2 (upd H5 D (.lst (acc++[y]))) else Pv (i+1) acc σ2 H4) (hd:∀ acc U H,Pv xs.length acc U H->Q H) :
   ∃ W:Nat->Nat->List V->St->Hp->Prop,(∃ m,W 0 m [] U H)/\∀ i m acc σ' H',W i m acc σ' H'->((JP K a).stop i H'/\Q H') ∨
     ((JP K a).go i H'/\∃ N:List V->St->Hp->Prop,(∀ f9 σ2 H4,N f9 σ2 H4->∃ m',m'<m/\W (i+1) m' f9 σ2 H4)/\∀ x H2,(JP K a).Ge i H' x H2->g x σ' H2 λ σ2 H3=>tt σ2 H3 λ b H4 =>
       if b=true then te σ2 H4 λ y H5=>H5 D=some (.lst acc)/\acc.length<sizeLine/\N (acc++[y]) σ2 (upd H5 D (.lst (acc++[y]))) else N acc σ2 H4):=by
 refine ⟨λ i m acc U H=>m=xs.length - i/\i<=xs.length/\Pv i acc U H,⟨xs.length,by simp,aeU _,h0⟩,?_⟩
 rintro i m acc U H ⟨rfl,hi,p⟩
 have q:=hl i acc U H hi p
 by_cases l5:i<xs.length
 .
  refine .inr ⟨⟨xs,xs[i],q,by simp [l5]⟩,Pv (i+1),λ f9 σ' H' p'=>⟨xs.length - (i+1),by lia,rfl,l5,p'⟩,λ x H' y=>?_⟩
  obtain ⟨e,y⟩:=y
  subst e
  exact hs i x acc U _ (y xs q) p
 . have e:i=xs.length:=by lia
   subst e
   exact .inl ⟨⟨xs,q,aaU _⟩,hd acc U H p⟩
section
variable {X:Cx}
inductive G4  (x:V) (vs:List V) (H:Hp) (Q:VK):Prop
 | mk (i:Int) (_:x = .int i) (_:vs=[]) (_:∀ b:Int,b=((Builtin.Int.intBits i:Nat):Int)->Q (.int b) H)
theorem BK:MtR X "int.bit_length" G4:=by
 intro pins s U H x vs v us Q I rx rv h
 obtain ⟨i,rfl,rfl,q⟩:=h
 obtain ⟨t,rfl⟩:=rx
 obtain rfl:=Vals.zero rv
 exact call_int_bit_length ⟨.int _,H,I.tok _,⟨_,rfl⟩,q _ rfl⟩
theorem Cz (a b:Nat):Builtin.bitOr (a:Int) (b:Int)=((a ||| b:Nat):Int):=by
 have d1:decide (0<=Builtin.bitNot (a:Int))=false:=ac7 (by unfold Builtin.bitNot;lia)
 have d2:decide (0<=Builtin.bitNot (b:Int))=false:=ac7 (by unfold Builtin.bitNot;lia)
 have n1:(Builtin.bitNot (Builtin.bitNot (a:Int))).toNat=a:=by unfold Builtin.bitNot;lia
 have n2:(Builtin.bitNot (Builtin.bitNot (b:Int))).toNat=b:=by unfold Builtin.bitNot;lia
 unfold Builtin.bitOr Builtin.bitAnd
 rw [d1,d2]
 dsimp only
 rw [n1,n2]
 unfold Builtin.bitNot
 lia
theorem mq (a b:Nat):Builtin.bitAnd (a:Int) (b:Int)=((a &&& b:Nat):Int):=by simp [Builtin.bitAnd]
end
def al (k:Nat):V:=.int (k:Int)
inductive ye  (vs:List V) (H:Hp) (Q:VK) (_E:XK):Prop
 | mk (n r:Nat) (_:vs=[al n,al r]) (_:Q (.bl (n.testBit r)) H)
inductive vE  (vs:List V) (H:Hp) (Q:VK) (_E:XK):Prop
 | mk (n r:Nat) (_:vs=[al n,al r]) (_:r<=1000) (_:Q (al (n ||| 2 ^ r)) H)
inductive Ab  (vs:List V) (H:Hp) (Q:VK) (_E:XK):Prop
 | mk (n:Nat) (_:vs=[al n]) (_:n<2 ^ 61) (_:∀ p H',H p=none->aC H H'->H' p=some (.lst ((Bit.rooms n).map al))->Q (.ref p) H')
inductive zo  (vs:List V) (H:Hp) (Q:VK) (_E:XK):Prop
 | mk (n:Nat) (_:vs=[al n]) (_:n<2 ^ 61) (_:(Bit.rooms n).length<=8) (_:∀ p H',H p=none->aC H H'->H' p=some (.lst ((Bit.parts (Bit.rooms n)).map al))->Q (.ref p) H')
theorem uk (n:Nat):(Bit.rooms n).length<=61:=by
 have:=agg n.testBit (List.range 61)
 rw [abU] at this
 exact this
theorem Ip (n r:Nat) {s m:Int} (es:s=(n:Int) / 2 ^ ((r:Int)).toNat) (em:m=s % 2):decide (V.int m=V.int 1)=n.testBit r:=by
 rw [Nat.testBit_eq_decide_div_mod_eq]
 have e1:s=((n / 2 ^ r:Nat):Int):=by
   rw [es,ag7]
   have:((2:Int) ^ r)=((2 ^ r:Nat):Int):=by rw [Int.natCast_pow];rfl
   rw [this,← Int.natCast_ediv]
 have e2:m=((n / 2 ^ r % 2:Nat):Int):=by rw [em,e1];exact (Int.natCast_emod _ _).symm
 have e3:(V.int m=V.int 1)↔(n / 2 ^ r % 2=1):=by rw [ju,e2];lia
 exact decide_eq_decide.mpr e3
theorem yI (l:List Nat) (r:Nat):Bit.parts (l++[r])=Bit.parts l++(Bit.parts l).map (· ||| 2 ^ r):=by
 unfold Bit.parts;rw [ajV];rfl
theorem Iv (n i:Nat):Bit.Ok (Bit.parts ((Bit.rooms n).take i)) ((Bit.rooms n).take i):=by
 have:=Bit.An ((Bit.rooms n).take i) [] [0] Bit.KJ (by rw [alQ];exact (Bit.nQ n).sublist (List.take_sublist _ _))
 rw [alQ] at this
 exact this
theorem bz {α:Type} {l:List α} {i:Nat} {x:α} (h:l[i]?=some x):l.take (i+1)=l.take i++[x]:=by
 rw [ajQ,h];rfl
theorem EL {α:Type} {xs:List α} {v:α} (h:xs[xs.length - 1]?=some v):ud xs (-1)=some v:=by
 have hl:xs.length - 1<xs.length:=(List.getElem?_eq_some_iff.mp h).1
 have e:Di xs.length (-1)=some (xs.length - 1):=by
   unfold Di
   rw [ac9 (by decide),ady (by lia)]
   congr 1
   lia
 unfold ud
 rw [e];exact h
theorem cY {l:List Nat} {i:Nat} {x:V} (h:(l.map al)[i]?=some x):∃ k,l[i]?=some k/\x=al k:=by
 rw [aat] at h
 cases e:l[i]? with
 | none=>rw [e] at h;cases h
 | some k=>rw [e] at h;exact ⟨k,rfl,(abG h).symm⟩
def Cx.held (X:Cx) (e:Addr) (oe:Obj):Cx:={ X with A:=X.A.mark (some (.ref e)),calm:=false,pn:=X.pn++[(e,oe)],xe:=λ _ _=>False }
section
open PySem.Builtin PySem.Builtin.ObjectAttr PySem.Builtin.Getset_descriptor
variable {K:W.Frag} {C e:Addr}
variable {prog:Program} {w:World} {A:Around} {s:Shared} {oe:Obj}
end
open PySem.Builtin PySem.Builtin.ObjectAttr
open PySem.Builtin PySem.Builtin.ObjectAttr
section
variable {prog:Program} {w:World} {A:Around} {E:Value->Shared->Prop} {h:Heap} {g:Array GenState} {d:Drawn} {t:Nat} {os:OsState}
variable {nm q:Str} {C N:Addr} {bs bm bmB:List Value} {Q8:Bool} {sn:List Str} {sub:List Value} {ab:Bool} {col:Option Bool} {dd:Option Addr} {k0 k1 k2 k3 k5:Option Value} {B newId Eg:String}
end
section
variable {M:Model} {A:Around} {E:Value->Shared->Prop} {env:Env}
variable {nm q:Str} {C N:Addr} {bs bm bmB:List Value} {Q8:Bool} {sn:List Str} {sub:List Value} {ab:Bool} {col:Option Bool} {dd:Option Addr} {k0 k1 k2 k3 k5:Option Value} {B newId Eg:String}
end
section
variable {prog:Program} {w:World} {A:Around} {E:Value->Shared->Prop} {s:Shared} {env:Env}
variable {nm q:Str} {C N:Addr} {bs bm bmB:List Value} {Q8:Bool} {sn:List Str} {sub:List Value} {ab:Bool} {col:Option Bool} {dd:Option Addr} {k0 k1 k2 k3 k5:Option Value} {B newId Eg:String}
end
@[elab_as_elim] theorem cT {α:Type} {motive:List α->Prop} {n:Nat} {us:List α} (h:us.length=n+1) (k:∀ a t,t.length=n->motive (a::t)):motive us:=by
 cases us with
 | nil=>cases h
 | cons a t=>exact k a t (amV h)
theorem amS {α:Type} {n:Nat} {l:List α} (h:l.length=n+1):∃ a t,l=a::t/\t.length=n:=cT h λ a t h=>⟨a,t,rfl,h⟩
section
variable {X:Cx} {x:Str} {pos:Pos}
theorem fe {i:Int} (hg:Gl X x) (hm:∃ t,X.mg x=some (.int i t)) (hd:(x == ("__debug__" : Str))=false:=by decide):PE X (.Name x pos) (tC (.int i)):=by
 obtain ⟨t,hm⟩:=hm
 exact gI hg hm ⟨t,rfl⟩ hd
end
def yL (K:W.Frag) (a:Addr) (xs:List V):Prop :=
 ∃ (o:Obj) (bg:Array Value) (n:Nat),K.lookup a=some o/\o.cls = .type "tuple"/\o.data = .seq bg n/\bg.size<=sizeLine/\Vals xs bg.toList
theorem yL.at {K:W.Frag} {a:Addr} (h:yL K a xs) (H:Hp):bO K H a xs:=.inr h
theorem J0 {K:W.Frag} {a:Addr} {dd:Option Addr} {n:Nat} {sl:Array (Option Value)} {i j:Int} {t u:Tok} (h:K.lookup a=some ⟨.type "tuple",dd,.seq #[.int i t,.int j u] n,sl⟩):yL K a [.int i,.int j] :=
 ⟨_,_,_,h,rfl,rfl,by show 2<=sizeLine;decide,.cons ⟨t,rfl⟩ (.cons ⟨u,rfl⟩ .nil)⟩
def BN (K:W.Frag) (T:Addr) (g8:List V):Prop:=∃ o n items,K.lookup T=some o/\o.data = .seq items n/\Vals g8 items.toList
structure qM (K:W.Frag) (x qual:Str) (st:Stmt) (dV:Value) (f:Addr) (fd:FuncData):Prop where
 ex:∃ (oc:Value) (od:Option Addr) (kV doc pm:Value) (an:Option Addr) (bA ct:Value) (ym:Array (Option Value)),
   fd=W.fnOf x qual (ci st) (bC st) (ap st) dV kV doc pm an bA ct/\K.lookup f=some ⟨oc,od,.func fd,ym⟩/\W.codeIn K bA qual=true
 kp:W.keepIn K (.ref f)=true
theorem bQ {K:W.Frag} {x qual:Str} {st:Stmt} {f:Addr} {oc:Value} {od an:Option Addr} {ym:Array (Option Value)} {dV kV doc pm bA ct:Value} (l:K.lookup f=some ⟨oc,od,.func (W.fnOf x qual (ci st) (bC st) (ap st) dV kV doc pm an bA ct),ym⟩) (c:W.codeIn K bA qual=true) (k:W.keepIn K (.ref f)=true):qM K x qual st dV f (W.fnOf x qual (ci st) (bC st) (ap st) dV kV doc pm an bA ct):=⟨⟨oc,od,kV,doc,pm,an,bA,ct,ym,rfl,l,c⟩,k⟩
section
variable {P:Program} {w:World} {K:W.Frag} {mg:Str->Option Value} {base:Heap} {x qual m:Str} {st:Stmt} {dV:Value} {f C:Addr} {fd:FuncData} {N ps:List Str} {k:Nat} {sp:Sp} {ds:List Value}
theorem qM.ok (F:qM K x qual st dV f fd) (S:ay N ps (ap st)) (len:∀ vs H Q E,sp vs H Q E->vs.length=ps.length) (gP:∀ (bA:Value) (A:Around) (outer:List Env) (s:Shared) (H:Hp) (vs:List V) (Q:VK) (E:XK),cI k (A.deeper (envOfC qual (ap st) s.heap.objs.size f bA))->sp vs H Q E ->
     ∃ t,tK (oF wg P w K mg base N qual (ap st) f bA A outer s H E).Dj (bC st) t/\t { nx:=λ _ H'=>Q .cf H',rt:=Q } (start N vs) H):ki P w K mg base wg (k+1) f fd ps sp:=by
 obtain ⟨oc,od,kV,doc,pm,an,bA,ct,ym,rfl,lk,vi⟩:=F.ex
 refine Kf lk vi S len λ A outer s H vs Q E hr JU=>?_
 obtain ⟨t,h,q⟩:=gP bA A outer s H vs Q E hr JU
 exact ⟨t,h.Dj,q⟩
theorem qM.binds {o:Obj} {n:Nat} {items:Array Value} (F:qM K x qual st (.ref T) f fd) (hT:K.lookup T=some o) (ho:o.data = .seq items n) (h:∀ (kV doc pm:Value) (an:Option Addr) (bA ct:Value) (us:List Value),(us++ds).length=ps.length->∃ k,bindArgs (W.fnOf x qual (ci st) (bC st) (ap st) (.ref T) kV doc pm an bA ct) ⟨us,[]⟩=seqItems? (.ref T) >>= k/\k (some items)=pure (ps.zip (us++ds))):Binds K fd ps ds:=by
 obtain ⟨oc,od,kV,doc,pm,an,bA,ct,ym,rfl,lk,vi⟩:=F.ex
 intro s us X hl
 obtain ⟨k,h1,h2⟩:=h kV doc pm an bA ct us hl
 exact W.binds_K X rfl hT ho h1 h2
theorem qM.Mf (F:qM K x qual st .none f fd) (h:∀ (kV doc pm:Value) (an:Option Addr) (bA ct:Value) (us:List Value),us.length=ps.length->bindArgs (W.fnOf x qual (ci st) (bC st) (ap st) .none kV doc pm an bA ct) ⟨us,[]⟩=pure (ps.zip us)):Binds K fd ps []:=by
 obtain ⟨oc,od,kV,doc,pm,an,bA,ct,ym,rfl,lk,vi⟩:=F.ex
 exact .all (h kV doc pm an bA ct)
def fY (K:W.Frag) (C:Addr) (m qual:Str) (st:Stmt) (dV:Value):Prop:=∃ f fd,Meth K C m f/\qM K m qual st dV f fd
def gs (P:Program) (w:World) (K:W.Frag) (mg:Str->Option Value) (base:Heap) (C:Addr) (m:Str) (k:Nat) (ps:List Str) (ds:List Value) (sp:Sp):Prop :=
 ∃ f fd,Meth K C m f/\Binds K fd ps ds/\ki P w K mg base wg k f fd ps sp
theorem fY.IC (h:fY K C m qual st .none) (S:ay N ps (ap st)) (len:∀ vs H Q E,sp vs H Q E->vs.length=ps.length) (hb:∀ (kV doc pm:Value) (an:Option Addr) (bA ct:Value) (us:List Value),us.length=ps.length->bindArgs (W.fnOf m qual (ci st) (bC st) (ap st) .none kV doc pm an bA ct) ⟨us,[]⟩=pure (ps.zip us)) (gP:∀ (f:Addr) (bA:Value) (A:Around) (outer:List Env) (s:Shared) (H:Hp) (vs:List V) (Q:VK) (E:XK),cI k (A.deeper (envOfC qual (ap st) s.heap.objs.size f bA))->sp vs H Q E ->
     ∃ t,tK (oF wg P w K mg base N qual (ap st) f bA A outer s H E).Dj (bC st) t/\t { nx:=λ _ H'=>Q .cf H',rt:=Q } (start N vs) H):gs P w K mg base C m (k+1) ps [] sp:=by
 obtain ⟨f,fd,M,F⟩:=h
 exact ⟨f,fd,M,F.Mf hb,F.ok S len λ bA A outer s H vs Q E hr hs=>gP f bA A outer s H vs Q E hr hs⟩
structure CN (K:W.Frag) (C:Addr):Prop where
 makes:W.makesIn K C=true
 kp:W.keepIn K (.ref C)=true
def HZ (K:W.Frag) (mg:Str->Option Value) (x:Str) (st:Stmt) (dV:Value):Prop:=∃ f fd,mg x=some (.ref f)/\qM K x x st dV f fd
def RD (P:Program) (w:World) (K:W.Frag) (mg:Str->Option Value) (base:Heap) (x:Str) (k:Nat) (ps:List Str) (ds:List Value) (sp:Sp):Prop :=
 ∃ f fd,mg x=some (.ref f)/\W.keepIn K (.ref f)=true/\Binds K fd ps ds/\ki P w K mg base wg k f fd ps sp
end
section
variable {X:Cx} {C:Addr} {m x:Str} {p pos apos:Pos} {e o:Expr} {es:List Expr} {ta:TE} {t:TA} {k:Nat} {ps:List Str} {sp:Sp} {ds:List Value} {g8:List V}
theorem aK {pl:Sem Bool} (he:PE X o ta) (c:yb X.K C) (D:gs X.prog X.w X.K X.mg X.base C m k ps ds sp) (hd:Vals g8 ds) (hr:cI k X.A) (ha:PA X (e::es) t) (i9:starEach (e::es) X.env=(false,eval e X.env)::starEach es X.env:=by rfl) (gT:(backTo pos (starEach es X.env)).any (·.1)=false:=by rfl) (ht:eval (.Call (.Attribute o m apos) (e::es) [] pos) X.env=(do
     let ov ← eval o X.env
     standAt apos.atName
     let (f,first) ← holding [ov] (getMethod ov m pl)
     callWith pos f first (backTo pos (starEach (e::es) X.env)) (backToKw pos (keywordEach [] X.env))):=by rfl) :
   PE X (.Call (.Attribute o m apos) (e::es) [] pos) (wY C m sp g8 E0 ta t):=by
 obtain ⟨f,fd,hm,hb,F⟩:=D
 exact IL (pl:=pl) he c hm F hr hb hd wr ha i9 gT ht
theorem eX {pl:Sem Bool} (he:PE X o ta) (c:yb X.K C) (D:gs X.prog X.w X.K X.mg X.base C m k ps ds sp) (hd:Vals g8 ds) (hr:cI k X.A) (ht:eval (.Call (.Attribute o m apos) [] [] pos) X.env=(do
     let ov ← eval o X.env
     standAt apos.atName
     let (f,first) ← holding [ov] (getMethod ov m pl)
     callWith pos f first (backTo pos (starEach [] X.env)) (backToKw pos (keywordEach [] X.env))):=by rfl) :
   PE X (.Call (.Attribute o m apos) [] [] pos) (wY C m sp g8 E0 ta Lx):=by
 obtain ⟨f,fd,hm,hb,F⟩:=D
 exact EY (pl:=pl) he c hm F hr hb hd wr ht
theorem nU (M:CN X.K C) (D:gs X.prog X.w X.K X.mg X.base C "__init__" k ps ds sp) (hd:Vals g8 ds) (hr:cI (k+1) X.A) (hm:X.mg x=some (.ref C)) (ha:PA X (e::es) t) (hg:Gl X x:=by rfl) (yp:(x == ("__debug__" : Str))=false:=by decide) (he:starEach (e::es) X.env=(false,eval e X.env)::starEach es X.env:=by rfl) (gT:(backTo pos (starEach es X.env)).any (·.1)=false:=by rfl):PE X (.Call (.Name x p) (e::es) [] pos) (Dp C sp g8 E0 t):=by
 obtain ⟨f,fd,me,hb,F⟩:=D
 exact Ix ⟨M.makes,me.at_,me.fn,M.kp⟩ F hr hg hm hb hd wr ha yp he gT
theorem C5 (D:RD X.prog X.w X.K X.mg X.base x k ps ds sp) (hd:Vals g8 ds) (hr:cI k X.A) (ha:PA X (e::es) t) (hg:Gl X x:=by rfl) (yp:(x == ("__debug__" : Str))=false:=by decide) (he:starEach (e::es) X.env=(false,eval e X.env)::starEach es X.env:=by rfl) (gT:(backTo pos (starEach es X.env)).any (·.1)=false:=by rfl):PE X (.Call (.Name x p) (e::es) [] pos) (Br sp g8 E0 t):=by
 obtain ⟨f,fd,hm,hk,hb,F⟩:=D
 exact Aq F hr hg hm hk hb hd wr ha yp he gT
end
section
variable {X:Cx} {pins:List (Addr×Obj)} {U:St} {H:Hp} {s:Shared} {h':Heap} {ch:List Addr}
theorem Inv.vS {a:Addr} {t':Nat} (I:Inv X pins U H s) (k:∀ b u,b∉ch->s.heap.get? b=some u->h'.get? b=some u) (hf:∀ b∈ch,sU X pins H b) (hp:s.heap.objs.size<=a) (new:cO X.prog X.w (upd H a o) h' a o):Inv X pins U (upd H a o) { s with heap:=h',toks:=t' }:=by
 have hn:H a=none:=I.cQ.fresh hp
 refine I.step (g':=s.gens) (d':=s.drawn) (ch:=ch) (λ b hb=>⟨(hf b hb).2.2.2.1,(hf b hb).2.1,(hf b hb).2.2.2.2.1,(hf b hb).2.2.2.2.2⟩) (λ b u _ _ hc q _=>k b u hc q) (λ b u _ _ hc q _=>⟨u.slots,k b u hc q⟩)
   (λ b u _ q n=>by rw [aq (ad8 (acK (abZ q) hp))];exact n) (λ b u hc q=>⟨u,k b u hc q⟩) (λ b xs q=>by rw [aq (au q hn)];exact q) (λ b u xs q=>by rw [aq (au q hn)];exact q)
   (λ b ps q=>⟨#[],by rw [aq (au q hn),q];simp⟩) (λ m hm=>?_) (λ b u q=>?_) I.bare
 . obtain ⟨ob,es,ep,ho,r⟩:=hm
   exact ⟨ob,es,ep,k _ ob (λ z=>(hf _ z).2.1 rfl) ho,r⟩
 .
  by_cases hb:b=a
  . subst hb
    rw [af] at q
    cases q
    exact new
  .
   rw [aq hb] at q
   refine (I.cQ b u q).dI (λ c v hc z=>k c v (λ y=>?_) z) (λ c z=>by rw [aq (au z hn)];exact z) λ c xs z=>by rw [aq (au z hn)];exact z
   have n:=(hf c y).1
   rcases hc with rfl|hc
   . rw [n] at q;cases q
   . rw [n] at hc;cases hc
theorem Inv.vB {t':Nat} (I:Inv X pins U H s) (k:∀ b u,b∉ch->s.heap.get? b=some u->h'.get? b=some u) (hf:∀ b∈ch,sU X pins H b):Inv X pins U H { s with heap:=h',toks:=t' }:=by
 refine I.step (g':=s.gens) (d':=s.drawn) (ch:=ch) (λ b hb=>⟨(hf b hb).2.2.2.1,(hf b hb).2.1,(hf b hb).2.2.2.2.1,(hf b hb).2.2.2.2.2⟩) (λ b u _ _ hc q _=>k b u hc q) (λ b u _ _ hc q _=>⟨u.slots,k b u hc q⟩)
   (λ _ _ _ _ n=>n) (λ b u hc q=>⟨u,k b u hc q⟩) (λ _ _ q=>q) (λ _ _ _ q=>q) (λ b ps q=>⟨#[],by rw [q];simp⟩) (λ m hm=>?_) (λ b u q=>?_) I.bare
 . obtain ⟨ob,es,ep,ho,r⟩:=hm
   exact ⟨ob,es,ep,k _ ob (λ z=>(hf _ z).2.1 rfl) ho,r⟩
 .
  refine (I.cQ b u q).dI (λ c v hc z=>k c v (λ y=>?_) z) (λ _ z=>z) λ _ _ z=>z
  have n:=(hf c y).1
  rcases hc with rfl|hc
  . rw [n] at q;cases q
  . rw [n] at hc;cases hc
end
def Q5 (K:W.Frag) (a b:Addr):It :=
 ⟨λ i H=>∃ xs ys x y,aR K H a xs/\aR K H b ys/\xs[i]?=some x/\ys[i]?=some y,
  λ i H v H'=>∃ p x y,H p=none/\v = .ref p/\H'=upd H p (.tup [x,y])/\(∀ xs,aR K H a xs->xs[i]?=some x)/\∀ ys,aR K H b ys->ys[i]?=some y,
  λ i H=>∃ xs ys,aR K H a xs/\aR K H b ys/\(xs.length<=i∨ys.length<=i)⟩
def kE (z TI TO i1 i2 a b:Addr) (i:Nat) (h:Heap):Prop:=IsZip h z TI TO .none/\IsPair h TI (.ref i1) (.ref i2)/\(∃ u v,IsPair h TO u v)/\h.IsListIter i1 a i/\h.IsListIter i2 b i
theorem kE.obj {z TI TO a b:Addr} {i:Nat} {h:Heap} (st:kE z TI TO i1 i2 a b i h):∀ c∈[z,TI,TO,i1,i2],∃ o,h.get? c=some o/\∀ v,o.data ≠ .cell v:=λ c hc=>by
 obtain ⟨hz,sC,⟨u,v,DU⟩,⟨o1,e1,_,d1⟩,⟨o2,e2,_,d2⟩⟩:=st
 simp only [aa1,aaI,afj] at hc
 rcases hc with rfl|rfl|rfl|rfl|rfl
 . exact ⟨_,hz,λ v q=>by cases q⟩
 . exact ⟨_,sC,λ v q=>by cases q⟩
 . exact ⟨_,DU,λ v q=>by cases q⟩
 . exact ⟨o1,e1,λ v q=>by rw [d1] at q;cases q⟩
 . exact ⟨o2,e2,λ v q=>by rw [d2] at q;cases q⟩
theorem EK {P:Program} {w:World} {K:W.Frag} {z TI TO a b:Addr} (D:ZipApart z TI TO i1 i2 a b) :
   Turn P w K (.Tuple elts x1 nE) (Q5 K a b) [z,TI,TO,i1,i2] z (kE z TI TO i1 i2 a b) where
 mem:=by simp
 obj:=λ i h st=>st.obj
 keep:=λ i h h' st k=>by
   obtain ⟨hz,sC,⟨u,v,DU⟩,h1,h2⟩:=st
   exact ⟨k z (by simp) _ hz,k TI (by simp) _ sC,⟨u,v,k TO (by simp) _ DU⟩,h1.at λ o e=>k i1 (by simp) o e,h2.at λ o e=>k i2 (by simp) o e⟩
 item:=by
   intro X hP hw hK hc i pins s U H E I hf st hg
   subst hP hw hK
   obtain ⟨xs,ys,x,y,xa,uq,hx,hy⟩:=hg
   obtain ⟨Hn,MD,p1,L5⟩:=I.list xa
   obtain ⟨mm,MP,p2,Zf⟩:=I.list uq
   obtain ⟨u1,hu1,ru1⟩:=MD.get hx
   obtain ⟨u2,Zu,ru2⟩:=MP.get hy
   have lt:∀ c∈[z,TI,TO,i1,i2],c<s.heap.objs.size:=λ c uU=>by
     obtain ⟨o,e,_⟩:=st.obj c uU
     exact abZ e
   obtain ⟨hz,sC,⟨u,v,DU⟩,h1,h2⟩:=st
   refine wpAny_pyNext_zip_item D hz sC DU h1 h2 p1.isList p2.isList (x:=u1) (y:=u2) (by simpa using hu1) (by simpa using Zu) λ h' z1 z2 z3 z4 z5 z6 kk=>?_
   refine ⟨.ref s.heap.objs.size,rfl,wpAny_letOwnedTupleGo_zip (s:={ s with heap:=h' }) z1 λ RX zz sb=>?_⟩
   have DN:∀ c o,c∉[z,TI,TO,i1,i2]->s.heap.get? c=some o->RX.get? c=some o:=λ c o hn e=>by
     simp only [aa1,aaI,afj,akH] at hn
     exact sb.extBut _ _ hn.1 (kk c o hn.1 hn.2.2.1 hn.2.2.2.1 hn.2.2.2.2 e)
   have nz:s.heap.objs.size≠z:=ak4 (lt z (by simp))
   have n5:IsPair RX s.heap.objs.size u1 u2:=sb.extBut _ _ nz z5
   refine ⟨.ref s.heap.objs.size,upd H s.heap.objs.size (.tup [x,y]),I.vS (t':=s.toks) DN hf (aaU _) ⟨by show 2<=sizeLine;decide,[u1,u2],.cons ru1 (.cons ru2 .nil),⟨_,n5,rfl,_,rfl⟩⟩,rfl,
     ⟨_,x,y,I.cQ.fresh (aaU _),rfl,rfl,λ xs' h=>by rw [I.nS h xa];exact hx,λ ys' h=>by rw [I.nS h uq];exact hy⟩,?_,λ c uU=>?_⟩
   . exact ⟨zz,sb.extBut _ _ D.TIz (kk _ _ D.TIz D.TITO D.TIi1 D.TIi2 sC),⟨_,_,sb.extBut _ _ D.TOz z2⟩,z3.extBut sb.extBut D.i1z,z4.extBut sb.extBut D.i2z⟩
   . rw [aq (ad8 (lt c uU))]
     exact (hf c uU).1
 done:=by
   intro X hP hw hK hc i pins s U H E I hf st hg
   subst hP hw hK
   obtain ⟨xs,ys,xa,uq,hl⟩:=hg
   obtain ⟨Hn,MD,p1,L5⟩:=I.list xa
   obtain ⟨mm,MP,p2,Zf⟩:=I.list uq
   have l1:=MD.length
   have l2:=MP.length
   obtain ⟨hz,sC,⟨u,v,DU⟩,h1,h2⟩:=st
   have WB:Hn.toArray[i]?=none∨mm.toArray[i]?=none:=by
     rcases hl with h|h
     . exact .inl (by simp;lia)
     . exact .inr (by simp;lia)
   refine wpAny_pyNext_zip_end (I.ok.hd hc) D hz sC DU h1 h2 p1.isList p2.isList WB λ h' kk=>⟨rfl,I.vB (ch:=[z,TI,TO,i1,i2]) (t':=s.toks) (λ c o hn e=>?_) hf⟩
   simp only [aa1,aaI,afj,akH] at hn
   exact kk c o hn.1 hn.2.2.1 hn.2.2.2.1 hn.2.2.2.2 e
 self:=λ _ _ _ _ _ st h=>amG st.1 h
theorem EM:bootBuiltins "zip" = some (.type "zip"):=by decide +kernel
section
variable {X:Cx}
def Z0 (K:W.Frag) (ta:TA):TI:=λ U H R=>ta U H λ vs H1=>∃ a b,vs=[.ref a,.ref b]/\(∃ xs,aR K H1 a xs)/\(∃ ys,aR K H1 b ys)/\R (Q5 K a b) H1
theorem L9 {a b:Expr} {ta:TA} {p pos:Pos} (hg:Gl X "zip") (hm:X.mg "zip" = none) (ha:PA X [a,b] ta) (hs:starEach [a,b] X.env=[(false,eval a X.env),(false,eval b X.env)]:=by rfl) (Gf:starEach [b] X.env=[(false,eval b X.env)]:=by rfl):PI X (.Tuple elts x1 nE) (.Call (.Name "zip" p) [a,b] [] pos) (Z0 X.K ta):=by
 intro pins s U H R I h
 refine Call_ (i3 I hg hm EM (agB (cD (ha pos pins s U H _ I h) λ us s1 ⟨vs,H1,I1,r1,q1⟩=>?_) (by rw [hs,Gf]) (by rw [Gf];rfl)))
 obtain ⟨a,b,e,⟨xs,xa⟩,⟨ys,uq⟩,q⟩:=q1
 subst e
 obtain ⟨u,v,rfl,r,r'⟩:=vals2 r1
 obtain rfl:u=Value.ref a:=r
 obtain rfl:v=Value.ref b:=r'
 obtain ⟨Hn,MD,p1,L5⟩:=I1.list xa
 obtain ⟨mm,MP,p2,Zf⟩:=I1.list uq
 refine call_zip_2 p1.isList p2.isList λ h' z1 z2 z3 z4 z5 z6 kk=>?_
 have la:a<s1.heap.objs.size:=by obtain ⟨_,e,_⟩:=p1.isList;exact abZ e
 have lb:b<s1.heap.objs.size:=by obtain ⟨_,e,_⟩:=p2.isList;exact abZ e
 refine amG z1 ?_
 refine ⟨s1.heap.objs.size+4,[s1.heap.objs.size+4,s1.heap.objs.size+2,s1.heap.objs.size+3,s1.heap.objs.size,s1.heap.objs.size+1],_,_,H1,rfl,I1.kept (t':=s1.toks) kk,EK (zipApart_new la lb),⟨z1,z2,⟨_,_,z3⟩,z4,z5⟩,λ c hc=>?_,q⟩
 have hle:s1.heap.objs.size<=c:=by
   simp only [aa1,aaI,afj] at hc
   rcases hc with rfl|rfl|rfl|rfl|rfl
   . exact akR _ _
   . exact akR _ _
   . exact akR _ _
   . exact aaU _
   . exact akR _ _
 exact I1.yh hle (I1.cQ.fresh hle)
end
theorem E8 {K:W.Frag} {a b:Addr} {ys:List V} {tt:TT} {Q:Hp->Prop} (Pv:Nat->List V->St->Hp->Prop) (h0:Pv 0 [] U H) (hl:∀ i acc U H,i<=min xs.length ys.length->Pv i acc U H->aR K H a xs/\aR K H b ys) (hs:∀ i x y p acc U H,xs[i]?=some x->ys[i]?=some y->H p=none->Pv i acc U H->g (.ref p) U (upd H p (.tup [x,y])) λ σ2 H3=>tt σ2 H3 λ k H4 =>
     if k=true then te σ2 H4 λ v H5=>H5 D=some (.lst acc)/\acc.length<sizeLine/\Pv (i+1) (acc++[v]) σ2 (upd H5 D (.lst (acc++[v]))) else Pv (i+1) acc σ2 H4) (hd:∀ acc U H,Pv (min xs.length ys.length) acc U H->Q H) :
   ∃ W:Nat->Nat->List V->St->Hp->Prop,(∃ m,W 0 m [] U H)/\∀ i m acc σ' H',W i m acc σ' H'->((Q5 K a b).stop i H'/\Q H') ∨
     ((Q5 K a b).go i H'/\∃ N:List V->St->Hp->Prop,(∀ f9 σ2 H4,N f9 σ2 H4->∃ m',m'<m/\W (i+1) m' f9 σ2 H4)/\∀ x H2,(Q5 K a b).Ge i H' x H2->g x σ' H2 λ σ2 H3=>tt σ2 H3 λ k H4 =>
       if k=true then te σ2 H4 λ y H5=>H5 D=some (.lst acc)/\acc.length<sizeLine/\N (acc++[y]) σ2 (upd H5 D (.lst (acc++[y]))) else N acc σ2 H4):=by
 refine ⟨λ i m acc U H=>m=min xs.length ys.length - i/\i<=min xs.length ys.length/\Pv i acc U H,⟨_,rfl,aeU _,h0⟩,?_⟩
 rintro i m acc U H ⟨rfl,hi,p⟩
 obtain ⟨q1,q2⟩:=hl i acc U H hi p
 by_cases l5:i<min xs.length ys.length
 .
  have h1:i<xs.length:=by lia
  have h2:i<ys.length:=by lia
  refine .inr ⟨⟨xs,ys,xs[i],ys[i],q1,q2,by simp [h1],by simp [h2]⟩,Pv (i+1),λ f9 σ' H' p'=>⟨min xs.length ys.length - (i+1),by lia,rfl,l5,p'⟩,λ v H' y=>?_⟩
  obtain ⟨pp,x,y,hn,rfl,rfl,e1,e2⟩:=y
  exact hs i x y pp acc U H (e1 xs q1) (e2 ys q2) hn p
 . have e:i=min xs.length ys.length:=by lia
   subst e
   exact .inl ⟨⟨xs,ys,q1,q2,by lia⟩,hd acc U H p⟩
mutual
def Dn (K:W.Frag) (H:Hp):PyData->V->Prop
 | .none,v=>v = .cf
 | .bool b,v=>v = .bl b
 | .int i,v=>v = .int i
 | .str x,v=>v = .str x
 | .list ds,v=>∃ a xs,v = .ref a/\aR K H a xs/\bi K H ds xs
 | .tuple ds,v=>∃ a xs,v = .ref a/\bO K H a xs/\bi K H ds xs
 | .dict _,_=>False
def bi (K:W.Frag) (H:Hp):List PyData->List V->Prop
 | [],xs=>xs=[]
 | d::ds,xs=>∃ x r,xs=x::r/\Dn K H d x/\bi K H ds r
end
def eY:PyData->Bool
 | .list _=>false
 | .dict _=>false
 | .tuple ds=>ds.attach.all λ ⟨d,_⟩=>eY d
 | _=>true
theorem kL {ds:List PyData}:eY (.tuple ds)=true↔∀ d∈ds,eY d=true:=by
 rw [eY,alI]
 constructor
 . intro h d hd
   exact h ⟨d,hd⟩ (List.mem_attach ..)
 . intro h x _
   exact h x.1 x.2
def aI (K:W.Frag) (H H':Hp):Prop:=∀ a xs,bO K H a xs->bO K H' a xs
theorem aI.refl {K:W.Frag} (H:Hp):aI K H H:=λ _ _ h=>h
theorem aI.trans {K:W.Frag} {H1 H2:Hp} (a:aI K H H1) (b:aI K H1 H2):aI K H H2:=λ c xs h=>b c xs (a c xs h)
theorem aC.ts {K:W.Frag} (s:aC H H'):aI K H H':=λ _ _ h=>s.tup h
def Bf:HO->Bool
 | .tup _=>false
 | .yG _ _=>false
 | _=>true
theorem bH {K:W.Frag} {a:Addr} {o':HO} (h:H a=some o) (n:Bf o=true):aI K H (upd H a o'):=λ b xs q=>by
 have ne:∀ u,H b=some u->Bf u=false->b≠a:=λ u e z y=>by
   subst y
   rw [h] at e
   cases e
   rw [n] at z
   cases z
 rcases q with (q|⟨ob,q⟩)|q
 . exact .inl (.inl (by rw [aq (ne _ q rfl)];exact q))
 . exact .inl (.inr ⟨ob,by rw [aq (ne _ q rfl)];exact q⟩)
 . exact .inr q
section
variable {K:W.Frag} {H H':Hp}
mutual
theorem Dn.same (s:aC H H'):∀ (d:PyData) {v:V},Dn K H d v->Dn K H' d v
 | .none,_,h=>by rw [Dn] at h ⊢;exact h
 | .bool _,_,h=>by rw [Dn] at h ⊢;exact h
 | .int _,_,h=>by rw [Dn] at h ⊢;exact h
 | .str _,_,h=>by rw [Dn] at h ⊢;exact h
 | .list ds,_,h=>by
   rw [Dn] at h ⊢
   obtain ⟨a,xs,e,q,r⟩:=h
   exact ⟨a,xs,e,s.seq q,bi.same s ds r⟩
 | .tuple ds,_,h=>by
   rw [Dn] at h ⊢
   obtain ⟨a,xs,e,q,r⟩:=h
   exact ⟨a,xs,e,s.tup q,bi.same s ds r⟩
 | .dict _,_,h=>by rw [Dn] at h;exact h.elim
theorem bi.same (s:aC H H'):∀ (ds:List PyData) {xs:List V},bi K H ds xs->bi K H' ds xs
 | [],_,h=>by rw [bi] at h ⊢;exact h
 | d::ds,_,h=>by
   rw [bi] at h ⊢
   obtain ⟨x,r,e,q,t⟩:=h
   exact ⟨x,r,e,Dn.same s d q,bi.same s ds t⟩
end
mutual
theorem Dn.ts (s:aI K H H'):∀ (d:PyData) {v:V},eY d=true->Dn K H d v->Dn K H' d v
 | .none,_,_,h=>by rw [Dn] at h ⊢;exact h
 | .bool _,_,_,h=>by rw [Dn] at h ⊢;exact h
 | .int _,_,_,h=>by rw [Dn] at h ⊢;exact h
 | .str _,_,_,h=>by rw [Dn] at h ⊢;exact h
 | .list ds,_,f,_=>by rw [eY] at f;cases f
 | .tuple ds,_,f,h=>by
   rw [Dn] at h ⊢
   obtain ⟨a,xs,e,q,r⟩:=h
   exact ⟨a,xs,e,s _ _ q,bi.ts s ds (kL.mp f) r⟩
 | .dict _,_,_,h=>by rw [Dn] at h;exact h.elim
theorem bi.ts (s:aI K H H'):∀ (ds:List PyData) {xs:List V},(∀ d∈ds,eY d=true)->bi K H ds xs->bi K H' ds xs
 | [],_,_,h=>by rw [bi] at h ⊢;exact h
 | d::ds,_,f,h=>by
   rw [bi] at h ⊢
   obtain ⟨x,r,e,q,t⟩:=h
   exact ⟨x,r,e,Dn.ts s d (f d abQ) q,bi.ts s ds (λ d hd=>f d (aaS _ hd)) t⟩
end
theorem bi.length:∀ {ds:List PyData} {xs:List V},bi K H ds xs->xs.length=ds.length
 | [],_,h=>by rw [bi] at h;rw [h];rfl
 | d::ds,_,h=>by
   rw [bi] at h
   obtain ⟨x,r,rfl,_,t⟩:=h
   rw [aeR,aeR,bi.length t]
theorem bi.get:∀ {ds:List PyData} {xs:List V} {i:Nat} {d:PyData},bi K H ds xs->ds[i]?=some d->∃ x,xs[i]?=some x/\Dn K H d x
 | [],_,_,_,_,e=>by simp at e
 | _::_,_,0,_,h,e=>by
   rw [bi] at h
   obtain ⟨x,r,rfl,q,t⟩:=h
   simp at e
   subst e
   exact ⟨x,rfl,q⟩
 | _::ds,_,i+1,d,h,e=>by
   rw [bi] at h
   obtain ⟨x,r,rfl,q,t⟩:=h
   obtain ⟨y,e1,e2⟩:=bi.get (i:=i) t (by simpa using e)
   exact ⟨y,by simpa using e1,e2⟩
theorem bi.snoc:∀ {ds:List PyData} {xs:List V} {d:PyData} {x:V},bi K H ds xs->Dn K H d x->bi K H (ds++[d]) (xs++[x])
 | [],_,d,x,h,q=>by
   rw [bi] at h
   subst h
   exact ⟨x,[],rfl,q,rfl⟩
 | _::ds,_,d,x,h,q=>by
   rw [bi] at h
   obtain ⟨y,r,rfl,q',t⟩:=h
   exact ⟨y,r++[x],rfl,q',bi.snoc t q⟩
theorem bi.set:∀ {ds:List PyData} {xs:List V} {i:Nat} {d:PyData} {x:V},bi K H ds xs->Dn K H d x->bi K H (ds.set i d) (xs.set i x)
 | [],_,_,_,_,h,_=>by
   rw [bi] at h
   subst h
   exact rfl
 | _::_,_,0,d,x,h,q=>by
   rw [bi] at h
   obtain ⟨y,r,rfl,q',t⟩:=h
   exact ⟨x,r,rfl,q,t⟩
 | _::ds,_,i+1,d,x,h,q=>by
   rw [bi] at h
   obtain ⟨y,r,rfl,q',t⟩:=h
   exact ⟨y,r.set i x,rfl,q',bi.set t q⟩
theorem eK:bi K H [] []:=rfl
theorem bh {d:PyData} {ds:List PyData} {x:V} (a:Dn K H d x) (b:bi K H ds xs):bi K H (d::ds) (x::xs):=⟨x,xs,rfl,a,b⟩
theorem Fw {i:Int}:Dn K H (.int i) (.int i):=rfl
theorem gU {a:Addr} {ds:List PyData} (h:bO K H a xs) (r:bi K H ds xs):Dn K H (.tuple ds) (.ref a):=⟨a,xs,rfl,h,r⟩
theorem DR {a:Addr} {ds:List PyData} (h:aR K H a xs) (r:bi K H ds xs):Dn K H (.list ds) (.ref a):=⟨a,xs,rfl,h,r⟩
abbrev dS (f:Int×Int):PyData:=.tuple [.int f.1,.int f.2]
theorem lP {p:Addr} {f:Int×Int} (h:bO K H p [.int f.1,.int f.2]):Dn K H (dS f) (.ref p):=gU h (bh Fw (bh Fw eK))
theorem Dn.fr {v:V} {f:Int×Int} (h:Dn K H (dS f) v):∃ p,v = .ref p/\bO K H p [.int f.1,.int f.2]:=by
 obtain ⟨p,xs,e,q,x,r,e1,e2,y,r2,e3,e4,e5⟩:=h
 have e2:x=V.int f.1:=e2
 have e4:y=V.int f.2:=e4
 have e5:r2=[]:=e5
 subst e1 e2 e3 e4 e5
 exact ⟨p,e,q⟩
theorem hZ (f:Int×Int):eY (dS f)=true:=by simp [dS,eY]
end
section
variable {X:Cx} {pins:List (Addr×Obj)} {U:St} {H:Hp} {s:Shared}
mutual
theorem Inv.reads (I:Inv X pins U H s):∀ (d:PyData) {v:V} {u:Value},Dn X.K H d v->RelV v u->∃ as,Reads s.heap u d as
 | .none,_,_,h,r=>by
   have h:_=V.cf:=h
   subst h
   obtain rfl:=(show _=Value.none from r)
   exact ⟨_,.none⟩
 | .bool b,_,_,h,r=>by
   have h:_=V.bl b:=h
   subst h
   obtain rfl:=(show _=Value.bool b from r)
   exact ⟨_,.bool b⟩
 | .int i,_,_,h,r=>by
   have h:_=V.int i:=h
   subst h
   obtain ⟨t,rfl⟩:=r
   exact ⟨_,.int i t⟩
 | .str x,_,_,h,r=>by
   have h:_=V.str x:=h
   subst h
   obtain ⟨t,rfl⟩:=r
   exact ⟨_,.str x t⟩
 | .list ds,_,_,h,r=>by
   obtain ⟨a,xs,rfl,q,t⟩:=h
   obtain rfl:=(show _=Value.ref a from r)
   obtain ⟨bg,rv,p,_⟩:=I.list q
   obtain ⟨o,ho,hc,n,hd⟩:=p.isList
   obtain ⟨as,ra⟩:=Inv.readsAll I ds t rv
   exact ⟨_,.list ho hc hd (by simpa using ra)⟩
 | .tuple ds,_,_,h,r=>by
   obtain ⟨a,xs,rfl,q,t⟩:=h
   obtain rfl:=(show _=Value.ref a from r)
   obtain ⟨bg,rv,p,_⟩:=I.tuple q
   obtain ⟨o,ho,hc,n,hd⟩:=p
   obtain ⟨as,ra⟩:=Inv.readsAll I ds t rv
   exact ⟨_,.tuple ho hc hd (by simpa using ra)⟩
 | .dict _,_,_,h,_=>(show False from h).elim
theorem Inv.readsAll (I:Inv X pins U H s):∀ (ds:List PyData) {xs:List V} {us:List Value},bi X.K H ds xs->Vals xs us->∃ as,ReadsAll s.heap us ds as
 | [],_,_,h,r=>by
   have h:_=[]:=h
   subst h
   obtain rfl:=Vals.zero r
   exact ⟨_,.nil⟩
 | d::ds,_,_,h,r=>by
   obtain ⟨x,t,rfl,q,qt⟩:=h
   cases r with
   | cons r1 r2 =>
     obtain ⟨as,ra⟩:=Inv.reads I d q r1
     obtain ⟨bs,rb⟩:=Inv.readsAll I ds qt r2
     exact ⟨_,.cons ra rb⟩
end
theorem uz (hc:X.calm=true):hG X (.builtin "all") (λ xs H Q=>∃ (p:Addr) (bs:List Bool),xs=[.ref p]/\aR X.K H p (bs.map V.bl)/\Q (.bl (bs.all id)) H):=by
 intro pins s U H xs us Q I r h
 obtain ⟨p,bs,rfl,hq,q⟩:=h
 obtain ⟨u,rfl,r1⟩:∃ u,us=[u]/\RelV (.ref p) u:=by
   cases r with
   | cons a b=>cases b;exact ⟨_,rfl,a⟩
 obtain rfl:u=Value.ref p:=r1
 obtain ⟨bg,rv,pl,_⟩:=I.list hq
 have hl:p<s.heap.objs.size:=by obtain ⟨_,e,_⟩:=pl.isList;exact abZ e
 have hlen:bg.length=bs.length:=by rw [← rv.length,zN]
 have aab:∀ i v,bg.toArray[i]?=some v->v=Value.bool (bs.getD i false):=λ i v e=>by
   have e':bg[i]?=some v:=by simpa using e
   have hi:i<bs.length:=by rw [← hlen];exact (List.getElem?_eq_some_iff.mp e').1
   obtain ⟨u,e2,r2⟩:=rv.get (i:=i) (x:=V.bl (bs[i])) (by simp [hi])
   rw [e'] at e2
   cases e2
   have r3:v=Value.bool bs[i]:=r2
   rw [r3]
   simp [hi]
 refine call_all_walk (wpAny_pyIter_list pl.isList ⟨s.heap.objs.size,_,_,_,_,_,λ i=>bs.getD i false,rfl,Walks.list (by simpa using I.ok.hd hc) _ p (ad8 hl) bg.toArray,⟨⟨_,aep _ rfl,rfl,rfl⟩,pl.isList.push _⟩,λ i v s' Q' E' hP hQ'=>?_,λ h' tk hk=>?_⟩)
 . rw [aab i v hP]
   exact abN hQ'
 .
  have e:(List.range bg.toArray.size).all (λ i=>bs.getD i false)=bs.all id:=by
    have:bg.toArray.size=bs.length:=by simpa using hlen
    rw [this,akN,alI,alI]
    constructor
    . intro h b hb
      obtain ⟨i,hi,rfl⟩:=List.getElem_of_mem hb
      have:=h i (List.mem_range.mpr hi)
      simpa [hi] using this
    . intro h i hi
      have hi:=List.mem_range.mp hi
      have:=h _ (acx hi)
      simpa [hi] using this
  rw [e]
  exact ⟨.bl _,H,I.kept (t':=tk) λ b o z=>hk b o (λ y=>by
    have y:b=s.heap.objs.size:=by simpa using y
    exact absurd (abZ z) (by rw [y];exact ah4 _)) (abA _ z),rfl,q⟩
end
section
variable {P:Program} {w:World} {K:W.Frag} {mg:Str->Option Value} {base:Heap} {x qual m:Str} {st:Stmt} {dV:Value} {f C:Addr} {fd:FuncData} {N ps:List Str} {k:Nat} {sp:Sp} {ds:List Value} {g8:List V}
def PZ (P:Program) (w:World) (K:W.Frag) (mg:Str->Option Value) (base:Heap) (C:Addr) (m qual:Str) (st:Stmt) (dV:Value) (k:Nat) (ps:List Str) (sp:Sp):Prop :=
 ∃ f fd,Meth K C m f/\qM K m qual st dV f fd/\ki P w K mg base wg k f fd ps sp
def xA (P:Program) (w:World) (K:W.Frag) (mg:Str->Option Value) (base:Heap) (C:Addr) (m:Str) (k:Nat) (ps:List Str) (g8:List V) (sp:Sp):Prop :=
 ∃ ds,Vals g8 ds/\gs P w K mg base C m k ps ds sp
theorem fY.mok (h:fY K C m qual st dV) (S:ay N ps (ap st)) (len:∀ vs H Q E,sp vs H Q E->vs.length=ps.length) (gP:∀ (f:Addr) (bA:Value) (A:Around) (outer:List Env) (s:Shared) (H:Hp) (vs:List V) (Q:VK) (E:XK),cI k (A.deeper (envOfC qual (ap st) s.heap.objs.size f bA))->sp vs H Q E ->
     ∃ t,tK (oF wg P w K mg base N qual (ap st) f bA A outer s H E).Dj (bC st) t/\t { nx:=λ _ H'=>Q .cf H',rt:=Q } (start N vs) H):PZ P w K mg base C m qual st dV (k+1) ps sp:=by
 obtain ⟨f,fd,M,F⟩:=h
 exact ⟨f,fd,M,F,F.ok S len λ bA A outer s H vs Q E hr hs=>gP f bA A outer s H vs Q E hr hs⟩
theorem PZ.IC (h:PZ P w K mg base C m qual st (.ref T) k ps sp) (hT:BN K T Gx) (hb:∀ items:Array Value,Vals Gx items.toList->∃ ds,Vals g8 ds/\∀ (kV doc pm:Value) (an:Option Addr) (bA ct:Value) (us:List Value),(us++ds).length=ps.length->∃ k,bindArgs (W.fnOf m qual (ci st) (bC st) (ap st) (.ref T) kV doc pm an bA ct) ⟨us,[]⟩=seqItems? (.ref T) >>= k/\k (some items)=pure (ps.zip (us++ds))) :
   xA P w K mg base C m k ps g8 sp:=by
 obtain ⟨f,fd,M,F,O⟩:=h
 obtain ⟨o,n,items,hT,ho,hv⟩:=hT
 obtain ⟨ds,hd,hb⟩:=hb items hv
 exact ⟨ds,hd,f,fd,M,F.binds hT ho hb,O⟩
def Qv (P:Program) (w:World) (K:W.Frag) (mg:Str->Option Value) (base:Heap) (x:Str) (st:Stmt) (dV:Value) (k:Nat) (ps:List Str) (sp:Sp):Prop :=
 ∃ f fd,mg x=some (.ref f)/\qM K x x st dV f fd/\ki P w K mg base wg k f fd ps sp
def By (P:Program) (w:World) (K:W.Frag) (mg:Str->Option Value) (base:Heap) (x:Str) (k:Nat) (ps:List Str) (g8:List V) (sp:Sp):Prop :=
 ∃ ds,Vals g8 ds/\RD P w K mg base x k ps ds sp
theorem HZ.dok (h:HZ K mg x st dV) (S:ay N ps (ap st)) (len:∀ vs H Q E,sp vs H Q E->vs.length=ps.length) (gP:∀ (f:Addr) (bA:Value) (A:Around) (outer:List Env) (s:Shared) (H:Hp) (vs:List V) (Q:VK) (E:XK),cI k (A.deeper (envOfC x (ap st) s.heap.objs.size f bA))->sp vs H Q E ->
     ∃ t,tK (oF wg P w K mg base N x (ap st) f bA A outer s H E).Dj (bC st) t/\t { nx:=λ _ H'=>Q .cf H',rt:=Q } (start N vs) H):Qv P w K mg base x st dV (k+1) ps sp:=by
 obtain ⟨f,fd,M,F⟩:=h
 exact ⟨f,fd,M,F,F.ok S len λ bA A outer s H vs Q E hr hs=>gP f bA A outer s H vs Q E hr hs⟩
theorem Qv.Hg (h:Qv P w K mg base x st (.ref T) k ps sp) (hT:BN K T Gx) (hb:∀ items:Array Value,Vals Gx items.toList->∃ ds,Vals g8 ds/\∀ (kV doc pm:Value) (an:Option Addr) (bA ct:Value) (us:List Value),(us++ds).length=ps.length->∃ k,bindArgs (W.fnOf x x (ci st) (bC st) (ap st) (.ref T) kV doc pm an bA ct) ⟨us,[]⟩=seqItems? (.ref T) >>= k/\k (some items)=pure (ps.zip (us++ds))) :
   By P w K mg base x k ps g8 sp:=by
 obtain ⟨f,fd,M,F,O⟩:=h
 obtain ⟨o,n,items,hT,ho,hv⟩:=hT
 obtain ⟨ds,hd,hb⟩:=hb items hv
 exact ⟨ds,hd,f,fd,M,F.kp,F.binds hT ho hb,O⟩
theorem vals3 {a b c:V} {items:Array Value} (h:Vals [a,b,c] items.toList):∃ u v z,items=#[u,v,z]/\RelV a u/\RelV b v/\RelV c z:=by
 obtain ⟨l⟩:=items
 cases h with
 | cons h1 h=>cases h with
   | cons h2 h=>cases h with
     | cons h3 h=>cases h with
       | nil=>exact ⟨_,_,_,rfl,h1,h2,h3⟩
end
section
variable {X:Cx} {C:Addr} {m x:Str} {p pos apos:Pos} {e o:Expr} {es:List Expr} {ta:TE} {t:TA} {k:Nat} {ps:List Str} {sp:Sp} {g8:List V}
theorem Ey {pl:Sem Bool} (he:PE X o ta) (c:yb X.K C) (D:xA X.prog X.w X.K X.mg X.base C m k ps g8 sp) (hr:cI k X.A) (ha:PA X (e::es) t) (i9:starEach (e::es) X.env=(false,eval e X.env)::starEach es X.env:=by rfl) (gT:(backTo pos (starEach es X.env)).any (·.1)=false:=by rfl) (ht:eval (.Call (.Attribute o m apos) (e::es) [] pos) X.env=(do
     let ov ← eval o X.env
     standAt apos.atName
     let (f,first) ← holding [ov] (getMethod ov m pl)
     callWith pos f first (backTo pos (starEach (e::es) X.env)) (backToKw pos (keywordEach [] X.env))):=by rfl) :
   PE X (.Call (.Attribute o m apos) (e::es) [] pos) (wY C m sp g8 E0 ta t):=by
 obtain ⟨ds,hd,D⟩:=D
 exact aK (pl:=pl) he c D hd hr ha i9 gT ht
theorem yt (M:CN X.K C) (D:xA X.prog X.w X.K X.mg X.base C "__init__" k ps g8 sp) (hr:cI (k+1) X.A) (hm:X.mg x=some (.ref C)) (ha:PA X (e::es) t) (hg:Gl X x:=by rfl) (yp:(x == ("__debug__" : Str))=false:=by decide) (he:starEach (e::es) X.env=(false,eval e X.env)::starEach es X.env:=by rfl) (gT:(backTo pos (starEach es X.env)).any (·.1)=false:=by rfl):PE X (.Call (.Name x p) (e::es) [] pos) (Dp C sp g8 E0 t):=by
 obtain ⟨ds,hd,D⟩:=D
 exact nU M D hd hr hm ha hg yp he gT
theorem gM (D:By X.prog X.w X.K X.mg X.base x k ps g8 sp) (hr:cI k X.A) (ha:PA X (e::es) t) (hg:Gl X x:=by rfl) (yp:(x == ("__debug__" : Str))=false:=by decide) (he:starEach (e::es) X.env=(false,eval e X.env)::starEach es X.env:=by rfl) (gT:(backTo pos (starEach es X.env)).any (·.1)=false:=by rfl):PE X (.Call (.Name x p) (e::es) [] pos) (Br sp g8 E0 t):=by
 obtain ⟨ds,hd,D⟩:=D
 exact C5 D hd hr ha hg yp he gT
end
theorem cW {X:Cx} {K:W.Frag} {es:List Expr} {k:Nat} {pos:Pos} {t:KU} {n:Nat} (hK:X.K=K) (hc:X.calm=true) (h:MG X es t) (hn:(assignEach es X.env).length=n:=by rfl) (i9:(assignEach es X.env).findIdx? (·.1)=none:=by rfl):PG X (.Tuple es k pos) (PH K n t):=by
 subst hK
 exact Md hc h hn i9
end L2
namespace PySem
open Sem (wp)
theorem j0:∀ (l:List DictEntry) (c:Int),(l.map (·.hash)).Nodup->(l.filter (·.hash == c)).length<=1
 | [],_,_=>aeU _
 | e::l,c,h=>by
   rw [ael,ak9] at h
   rw [ami]
   split
   .
    rename_i q
    have q:e.hash=c:=by simpa using q
    have:l.filter (·.hash == c)=[]:=by
      rw [amR]
      intro x hx z
      exact h.1 (List.mem_map.mpr ⟨x,hx,by rw [q];simpa using z⟩)
    rw [this]
    exact aaU _
   . exact j0 l c h.2
section
variable {prog:Program} {w:World} {K:Type} [DecidableEq K] {knd:KeyKind prog w K} {A:Around} {E:Value->Shared->Prop} {s:Shared}
theorem lK {ks:List K} {a:Addr} {Q:Bool->Shared->Prop} (hk:IsTupleKey knd s.heap ks a) (h:Q false s):wpAny (model prog w) A (Builtin.Dict.quietEq (.ref a)) Q E s:=by
 have hT:=hk.typeIs
 unfold Builtin.Dict.quietEq
 exact P5 (al3 hT F.slot_tuple_eq.lookup (abN h))
theorem jz {id:String} {d:Addr} {o:Obj} {es ep} {xs:List (List K×Addr×Value)} {Q:Array DictEntry->Shared->Prop} (ho:s.heap.get? d=some o) (hd:o.data = .dict es ep) (he:es.toList=xs.map (entryOfKey (tupleKind knd)))
   (hi:∀ x∈xs,IsTupleKey knd s.heap x.1 x.2.1) (hh:(xs.map λ x=>tupleKeyHash knd x.1).Nodup) (h:Q es s) :
   wpAny (model prog w) A (Builtin.Dict.entriesForEmpty id d) Q E s:=by
 unfold Builtin.Dict.entriesForEmpty
 refine P5 (alN ho hd ?_)
 have hn:(es.toList.map (·.hash)).Nodup:=by
   rw [he,ak5]
   exact hh
 refine P5 ?_
 refine wpAny_forIn_array' _ (λ rest _ s'=>s'=s/\∀ e∈rest,e∈es.toList) _ ?_ ?_ _ _ ⟨rfl,λ _ h=>h⟩
 .
  rintro e rest b s' ⟨rfl,hm⟩
  have hme:=hm e abQ
  rw [he] at hme
  obtain ⟨x,hx,rfl⟩:=List.mem_map.mp hme
  refine P5 (lK (hi x hx) ?_)
  have hc:¬ ((es.filter λ y=>y.hash == (entryOfKey (tupleKind knd) x).hash).size > 1):=by
    have:=j0 es.toList (entryOfKey (tupleKind knd) x).hash hn
    have e2:(es.filter λ y=>y.hash == (entryOfKey (tupleKind knd) x).hash).size=(es.toList.filter λ y=>y.hash == (entryOfKey (tupleKind knd) x).hash).length:=by
      obtain ⟨l⟩:=es
      simp
    lia
  simp only [amy,alf,ac9 hc]
  exact abN ⟨rfl,λ e he=>hm e (aaS _ he)⟩
 . rintro b s' ⟨rfl,_⟩
   exact abN h
theorem oH {nm:String} {d o:Addr} {xs:List (List K×Addr×Value)} {Q:Unit->Shared->Prop} (hdo:d≠o) (hoS:(o == sysModules)=false)
   (hd:s.heap.DictOfH (tupleKind knd) d []) (ho:s.heap.DictOfH (tupleKind knd) o xs) (hh:(xs.map λ x=>tupleKeyHash knd x.1).Nodup)
   (hQ:∀ h',(∃ q es ep,h'.get? d=some q/\q.ExactDict/\q.data = .dict es ep/\es.toList=xs.map (entryOfKey (tupleKind knd))/\(xs.map (·.1)).Nodup)->Heap.SameBut d s.heap h'->Q () { s with heap:=h' }) (hsz:xs.length<=sizeLine) :
   wpAny (model prog w) A (Builtin.Dict.mergeDict nm d o) Q E s:=by
 obtain ⟨od,WJ,epd,UX,vi,Q2,hed,aqj,hnd⟩:=id hd
 obtain ⟨oo,FX,epo,Mp,hco,BO,Au,KM,ML⟩:=id ho
 have hse:WJ=#[]:=by
   obtain ⟨l⟩:=WJ
   have:l=[]:=by simpa using hed
   rw [this]
 have hlen:FX.size=xs.length:=by
   obtain ⟨l⟩:=FX
   have:l.length=_:=ahP List.length Au
   simpa using this
 unfold Builtin.Dict.mergeDict
 rw [ac9 (by simpa using hdo)]
 unfold Builtin.Dict.showsAll
 rw [ac9 (by rw [hoS];exact ac8)]
 refine P5 (abN ?_)
 refine P5 (alN Mp BO ?_)
 dsimp only
 cases xs with
 | nil =>
   have h0:FX=#[]:=by
     obtain ⟨l⟩:=FX
     have:l=[]:=by simpa using Au
     rw [this]
   subst h0
   have fin:Q () s:=by
     have:=hQ s.heap ⟨od,WJ,epd,UX,vi,Q2,hed,ML⟩ (Heap.SameBut.refl _ _)
     exact this
   split
   . rename_i hf
     exact absurd hf (by simp)
   . refine P5 (wpAny_dictEpoch Mp BO ?_)
     refine P5 (alN Mp BO ?_)
     refine P5 ?_
     rw [Std.Legacy.Range.forIn_eq_forIn_range']
     exact abN (abN fin)
 | cons x xs =>
   have hf:(decide (FX.size<=8) && FX.all λ e=>(keyPart e.key).isSome)=false:=by
     obtain ⟨l⟩:=FX
     have e1:l=_:=Au
     subst e1
     have:keyPart (entryOfKey (tupleKind knd) x).key=none:=rfl
     simp [this]
   rw [hf]
   simp only [amy,alf]
   refine P5 (alN UX Q2 ?_)
   rw [hse]
   simp only [Array.isEmpty_empty,alf]
   refine P5 (jz Mp BO Au KM hh ?_)
   have Mu:FX.isEmpty=false:=by
     rw [Array.isEmpty_eq_false_iff]
     intro z
     rw [z] at hlen
     simp at hlen
   rw [Mu]
   simp only [amy,alf]
   refine P5 (wpAny_updateDictKeysTo UX Q2 (abN (hQ _ ⟨_,_,epd+1,al8 _ UX (Obj.isFreed_of_dict (Obj.data_mapDictKeys Q2 _)),vi.mapDictKeys _,Obj.data_mapDictKeys Q2 _,Au,ML⟩ (aml ..))) (by rw [hlen];lia))
theorem tI {o:Addr} {xs:List (List K×Addr×Value)} {Q:Value->Shared->Prop} (hoS:(o == sysModules)=false) (ho:s.heap.DictOfH (tupleKind knd) o xs) (hsz:xs.length<=sizeLine) (hh:(xs.map λ x=>tupleKeyHash knd x.1).Nodup)
   (h:∀ h',(∃ q es ep,h'.get? s.heap.objs.size=some q/\q.ExactDict/\q.data = .dict es ep/\es.toList=xs.map (entryOfKey (tupleKind knd))/\(xs.map (·.1)).Nodup)->Heap.SameBut s.heap.objs.size (s.heap.push { cls:=.type "dict",data:=.dict #[]}) h'->Q (.ref s.heap.objs.size) { s with heap:=h' }) :
   wpAny (model prog w) A (call (.type "dict") [.ref o]) Q E s:=by
 refine callType_codes (Q₁:=λ obj s₁=>obj = .ref s.heap.objs.size/\s₁={ s with heap:=s.heap.push { cls:=.type "dict",data:=.dict #[]}}) F.kt_called_dict (F.kt_typeCall_dict_1 _) F.entry_dict_init (kt_code_dict_new _ ⟨rfl,rfl⟩) ?_
 rintro obj s₁ ⟨rfl,rfl⟩
 have uY:(s.heap.push { cls:=.type "dict",data:=.dict #[]}).DictOfH (tupleKind knd) s.heap.objs.size []:=Heap.DictOfH.new s.heap
 have yC:(s.heap.push { cls:=.type "dict",data:=.dict #[]}).DictOfH (tupleKind knd) o xs:=by
   obtain ⟨oo,FX,epo,Mp,hco,BO,Au,KM,ML⟩:=id ho
   exact ⟨oo,FX,epo,abA _ Mp,hco,BO,Au,λ x hx=>(let ⟨q,it,n,h1,h2⟩:=KM x hx;⟨q,it,n,abA _ h1,h2⟩),ML⟩
 have hdo:s.heap.objs.size≠o:=by
   obtain ⟨_,_,_,hg,_⟩:=ho
   exact λ e=>absurd (abZ hg) (by rw [e];exact ah4 _)
 refine ⟨uY.typeIs,F.args_dict_init_2 _ _,?_⟩
 unfold Builtin.«dict.__init__»
 refine P5 ?_
 unfold Builtin.Dict.selfAndRest
 refine P5 (wpAny_notOrdered_dict uY.typeIs ?_)
 show wpAny _ _ (pure (s.heap.objs.size,[Value.ref o])) _ _ _
 refine abN ?_
 show wpAny _ _ (Builtin.Dict.updateFrom "dict.__init__" s.heap.objs.size (.ref o) [] .none) _ _ _
 unfold Builtin.Dict.updateFrom
 refine P5 (amA yC.typeIs ?_)
 rw [ac9 (by decide)]
 refine P5 ?_
 unfold Builtin.Dict.merge
 refine P5 ?_
 unfold Builtin.Dict.readDirectly
 refine P5 (amH yC.typeIs isSubtype_dict_dict ?_)
 simp only [amN,ai3,alc]
 refine P5 (al3 yC.typeIs F.slot_dict_iter.lookup (abN ?_))
 simp only [beq_self_eq_true,alf]
 refine P5 (abN ?_)
 refine oH (hsz:=hsz) hdo hoS uY yC hh λ h' N9 XI=>?_
 show wpAny _ _ (Builtin.Dict.addKeywords s.heap.objs.size [] >>= _) _ _ _
 exact P5 (abN (abN ⟨rfl,h h' N9 XI⟩))
end
end PySem
namespace L2
open PySem PySem.Spec PyProof.Rows Mth
variable {elt iter tg:Expr} {g:TG} {ifs:List Expr} {py HC:Pos} {te:TE} {yi:Nat}
section
variable {X:Cx} {pins:List (Addr×Obj)} {U:St} {H:Hp} {s:Shared} {a:Addr} {ax:List (List Key×V)} {A:Around} {E:Value->Shared->Prop}
theorem Cr {Q:Value->Shared->Prop} (I:Inv X pins U H s) (e:Rd H a (.dT ax)) (hh:(ax.map λ kv=>tupleKeyHash (cq X.prog X.w) kv.1).Nodup) (h:∀ p s',H p=none->Inv X pins U (upd H p (.dT ax)) s'->Q (.ref p) s'):wpAny (model X.prog X.w) A (call (.type "dict") [.ref a]) Q E s:=by
 obtain ⟨z,hd,xs,rel,dd⟩:=AO I.cQ e
 have hx:xs.map (λ x=>tupleKeyHash (cq X.prog X.w) x.1)=ax.map λ kv=>tupleKeyHash (cq X.prog X.w) kv.1:=by
   clear dd z hh h e
   induction rel with
   | nil=>rfl
   | cons r _ ih=>rw [ael,ael,ih,r.1]
 refine tI hd dd (by rw [← akU rel];exact z) (by rw [hx];exact hh) λ h' F5 hs=>?_
 have hn:H s.heap.objs.size=none:=I.cQ.fresh (aaU _)
 refine h _ _ hn (I.laid (a:=s.heap.objs.size) (o:=.dT ax) (t':=s.toks) (λ b q hq=>?_) (aaU _) ⟨z,beq_eq_false_iff_ne.mpr (alk (ad8 I.big)),xs,rel.keeps λ c ys ec=>?_,F5⟩)
 . exact (hs.2 b (ad8 (abZ hq))).trans (abA _ hq)
 . rw [aq (au ec hn)];exact ec
end
theorem sO {X:Cx}:hG X (.type "dict") (λ xs H Q=>∃ p ax,xs=[.ref p]/\H p=some (.dT ax)/\(ax.map λ kv=>tupleKeyHash (cq X.prog X.w) kv.1).Nodup/\∀ l,H l=none->Q (.ref l) (upd H l (.dT ax))):=by
 intro pins s U H xs us Q I r h
 obtain ⟨p,ax,rfl,hp,hh,q⟩:=h
 obtain ⟨u,rfl,rx⟩:=vals1 r
 cases rx
 exact Cr I (.inl hp) hh λ l s' hl I'=>⟨.ref l,_,I',rfl,q l hl⟩
theorem AS:bootBuiltins "dict" = some (.type "dict"):=by decide +kernel
section
variable {X:Cx}
theorem IJ {y:Str} {scope:Scope} {pos:Pos} {wi:TI} {tt:TT} {N':List Str} {nt:Nat} {sl:List Nat} (hc:X.calm=true) (hi:PI X tg iter wi) (hg:∀ cl C s H ex,PG (ck X N' scope cl C s H ex) tg g) (ht:∀ cl C s H ex,JK (ck X N' scope cl C s H ex) ifs tt) (he:∀ cl C s H ex,PE (ck X N' scope cl C s H ex) elt te) (R4:N'.length=nt+sl.length) (QD:∀ k j:Nat,sl[k]?=some j->∃ x,N'[nt+k]?=some x/\X.N[j]?=some x/\scope.names.lookup x=some .free) (hk:scope.kind = .function) (gk:∀ y∈scope.names,y.2 ≠ .cell) (jA:∀ y∈scope.names,y.2 = .local->scope.names.lookup y.1=some .local) (jf:∀ y∈scope.names,y.2 = .free->X.env.kindOf y.1=some .cell∨X.env.kindOf y.1=some .free) (hN:X.N.Nodup) (WL:X.N[yi]?=some y) (hy:Loc X.env.scope y) (hf:X.fn y=true∨X.env.scope.names.lookup y=some .local) (Vw:swapsWith (.ListComp elt [⟨tg,iter,ifs,0⟩] scope pos) (some (.Name y py)) HC.line X.env=pure true) (hs:∀ x,foldedSetIterable iter X.env x=pure x:=by intro _;rfl) :
   PS X (.Assign [.Name y py] (.ListComp elt [⟨tg,iter,ifs,0⟩] scope pos) HC) (HA (wN wi g tt te nt sl) (Ao yi)):=by
 intro pins s U H DD I h
 rw [exec_Assign_Name_used _ _ _ _ Vw]
 refine P5 (wpAny_standAt (P5 ?_))
 show wpAny _ X.A (do let _ ← comprehension (.ListComp elt [⟨tg,iter,ifs,0⟩] scope pos) scope X.env _ (newList []) false (eval iter X.env) (some (assign (.Name y py) X.env))) _ _ s
 refine P5 (aiq (um (use:=some (assign (.Name y py) X.env)) (Qp:=λ _ s'=>SP X pins DD .next s') hc hi hg ht he R4 QD hk gk jA jf hs I h λ s6 H5 d c m J F hn q=>?_)
   (λ _ s' hq=>abN (abN hq)) λ _ _ e=>e)
 refine wpAny_assign_Name (uw (v:=.ref d) J hN WL hy rfl (λ s7 I7 ⟨a,sb7,ha⟩=>?_) hf)
 have na:c≠a:=λ z=>by
   rcases ha with q|q
   . exact F.2.1 (z.trans q)
   . exact F.2.2.2.2.1 _ a q z.symm
 refine ⟨m,?_,λ h' sb=>?_⟩
 . obtain ⟨o,es,ep,ho,r⟩:=hn
   exact ⟨o,es,ep,(sb7.2 _ na).trans ho,r⟩
 . exact ⟨_,H5,I7.turned (t':=s7.toks) (λ b _ hb q=>(sb.2 b hb).trans q) F.1 F.2.1 F.2.2.2.1 F.2.2.2.2.1 F.2.2.2.2.2,q⟩
theorem sj {y:Str} {scope:Scope} {pos:Pos} {wi:TI} {tt:TT} (tn fr:List Str) (sl:List Nat) (hp:Paired (λ (j:Nat) (x:Str)=>X.N[j]?=some x/\scope.names.lookup x=some .free/\(X.env.kindOf x=some .cell∨X.env.kindOf x=some .free)) sl fr) (hc:X.calm=true) (hi:PI X tg iter wi) (hg:∀ cl C s H ex,PG (ck X (tn++fr) scope cl C s H ex) tg g) (ht:∀ cl C s H ex,JK (ck X (tn++fr) scope cl C s H ex) ifs tt) (he:∀ cl C s H ex,PE (ck X (tn++fr) scope cl C s H ex) elt te) (hk:scope.kind = .function) (gk:∀ y∈scope.names,y.2 ≠ .cell) (jA:∀ y∈scope.names,y.2 = .local->scope.names.lookup y.1=some .local) (jf:∀ y∈scope.names,y.2 = .free->y.1∈fr) (hN:X.N.Nodup) (WL:X.N[yi]?=some y) (hy:Loc X.env.scope y) (Vw:swapsWith (.ListComp elt [⟨tg,iter,ifs,0⟩] scope pos) (some (.Name y py)) HC.line X.env=pure true) (hf:X.fn y=true∨X.env.scope.names.lookup y=some .local:=by first|exact .inl rfl|exact .inr rfl|assumption) (hs:∀ x,foldedSetIterable iter X.env x=pure x:=by intro _;rfl) :
   PS X (.Assign [.Name y py] (.ListComp elt [⟨tg,iter,ifs,0⟩] scope pos) HC) (HA (wN wi g tt te tn.length sl) (Ao yi)):=by
 have key:∀ {sl:List Nat} {fr:List Str},Paired (λ (j:Nat) (x:Str)=>X.N[j]?=some x/\scope.names.lookup x=some .free/\(X.env.kindOf x=some .cell∨X.env.kindOf x=some .free)) sl fr ->
     (∀ k j:Nat,sl[k]?=some j->∃ x,fr[k]?=some x/\X.N[j]?=some x/\scope.names.lookup x=some .free)/\∀ x∈fr,X.env.kindOf x=some .cell∨X.env.kindOf x=some .free:=by
   intro sl fr hp
   induction hp with
   | nil=>exact ⟨λ k j h=>by simp at h,λ x hx=>by simp at hx⟩
   | cons r t ih =>
     refine ⟨λ k j h=>?_,λ x hx=>?_⟩
     . cases k with
       | zero =>
         have e:_=j:=abG h
         subst e
         exact ⟨_,rfl,r.1,r.2.1⟩
       | succ k=>exact ih.1 k j (by simpa using h)
     . rcases List.mem_cons.mp hx with z|z
       . rw [z];exact r.2.2
       . exact ih.2 x z
 refine IJ (N':=tn++fr) hc hi hg ht he (by rw [aaE,hp.length]) (λ k j h=>?_) hk gk jA (λ y hy hf=>(key hp).2 _ (jf y hy hf)) hN WL hy hf Vw hs
 obtain ⟨x,e1,e2⟩:=(key hp).1 k j h
 exact ⟨x,by rw [afw (akR _ _),amK];exact e1,e2⟩
end
abbrev bR:=Int×Int
structure ao where
 most:Int
 d8:Int
 load:Int
 rows:List (List bR)
 c9:Int->Int->Option bR
 bj:List (bR×bR×bR)
 aV:List (Option (bR×Int×Int×Int))
abbrev nF (s:bR×bR×bR):PyData:=.tuple [dS s.1,dS s.2.1,dS s.2.2]
abbrev gX:Option (bR×Int×Int×Int)->PyData
 | none => .none
 | some s => .tuple [dS s.1,.int s.2.1,.int s.2.2.1,.int s.2.2.2]
abbrev sW (r:List bR):PyData:=.tuple (r.map dS)
def kq (m:ao) (pm pf ps pt:Addr):List (Str×V) :=
 [("most",.int m.most),("cap",.int m.d8),("load",.int m.load),("mark_rows",.ref pm),("flows",.ref pf),("skies",.ref ps),("stoves",.ref pt)]
section
variable (m:ao) (pm pf ps pt:Addr)
theorem rM:(kq m pm pf ps pt).lookup ("most" : Str)=some (.int m.most):=by rfl
theorem uF:(kq m pm pf ps pt).lookup ("cap" : Str)=some (.int m.d8):=by rfl
theorem xS:(kq m pm pf ps pt).lookup ("load" : Str)=some (.int m.load):=by rfl
theorem nG:(kq m pm pf ps pt).lookup ("mark_rows" : Str)=some (.ref pm):=by rfl
theorem lF:(kq m pm pf ps pt).lookup ("flows" : Str)=some (.ref pf):=by rfl
theorem io:(kq m pm pf ps pt).lookup ("skies" : Str)=some (.ref ps):=by rfl
theorem jp:(kq m pm pf ps pt).lookup ("stoves" : Str)=some (.ref pt):=by rfl
end
def mF (K:W.Frag) (H:Hp):Option bR->Option V->Prop
 | none,none=>True
 | some f,some v=>Dn K H (dS f) v
 | _,_=>False
abbrev iF (i j:Int):List Key:=[.inl i,.inl j]
def pH (ax:List (List Key×V)):Prop:=(ax.map (·.1)).Nodup/\∀ p∈ax,∃ i j:Nat,i<4/\j<4/\p.1=iF i j
end L2
namespace Mth
def nf (t b:Int):Int×Int:=(t.fdiv (Int.gcd t b:Nat),b.fdiv (Int.gcd t b:Nat))
theorem Bi {r q s:Int} (h:r ∣ q * s) (c:Int.gcd q r=1):r ∣ s:=by
 have h1:r.natAbs ∣ q.natAbs * s.natAbs:=by rw [← alv];exact Int.natAbs_dvd_natAbs.mpr h
 have h2:Nat.Coprime r.natAbs q.natAbs:=by rw [Nat.coprime_comm];exact c
 exact Int.natAbs_dvd_natAbs.mp (Nat.Coprime.dvd_of_dvd_mul_left h2 h1)
theorem Fr.uniq {t b q r q' r':Int} (hb:b≠0) (h:Fr t b q r) (k:Fr t b q' r'):q=q'/\r=r':=by
 have e:q * r'=q' * r:=by
   have e1:(q * r') * b=(q' * r) * b:=by
     have a1:=h.Bs
     have a2:=k.Bs
     calc (q * r') * b=(q * b) * r':=by rw [al6]
       _=(t * r) * r':=by rw [a1]
       _=(t * r') * r:=by rw [al6]
       _=(q' * b) * r:=by rw [a2]
       _=(q' * r) * b:=by rw [al6]
   exact amu hb e1
 have d1:r ∣ r':=by
   have:r ∣ q * r':=⟨q',by rw [e,Int.mul_comm]⟩
   exact Bi this h.cop
 have d2:r' ∣ r:=by
   have:r' ∣ q' * r:=⟨q,by rw [← e,Int.mul_comm]⟩
   exact Bi this k.cop
 have er:r=r':=Int.dvd_antisymm (alV h.pos) (alV k.pos) d1 d2
 subst er
 exact ⟨amu (alU h.pos) e,rfl⟩
theorem kj {t b:Int} (hb:0<b):Fr t b (nf t b).1 (nf t b).2:=(Ds (alU hb) rfl).2.2.1 hb
theorem Fr.nf {t b q r:Int} (hb:0<b) (h:Fr t b q r):(q,r)=nf t b:=by
 obtain ⟨e1,e2⟩:=h.uniq (alU hb) (kj hb)
 rw [e1,e2]
def lZ (x y:Int×Int):Int×Int:=nf (x.1 * y.2+y.1 * x.2) (x.2 * y.2)
def jI (x y:Int×Int):Int×Int:=nf (x.1 * y.2 - y.1 * x.2) (x.2 * y.2)
def bI (x y:Int×Int):Bool:=decide (x.1 * y.2<y.1 * x.2)
structure eT (n:Nat) (f:Int×Int):Prop where
 t:Bd n f.1
 b:Bd n f.2
 p:0<f.2
theorem eT.mono {m n:Nat} {f:Int×Int} (h:eT m f) (l:m<=n):eT n f:=⟨h.t.mono l,h.b.mono l,h.p⟩
theorem eT.minus {m n:Nat} {x y:Int×Int} (h:eT m x) (k:eT n y):eT (m+n+1) (jI x y):=by
 have F:=kj (t:=x.1 * y.2 - y.1 * x.2) (b:=x.2 * y.2) (ajk h.p k.p)
 have b1:Bd (m+n) (x.1 * y.2):=h.t.mul k.b
 have b2:Bd (m+n) (y.1 * x.2):=by rw [alr];exact k.t.mul h.b
 exact ⟨F.PB (b1.sub b2),F.Sw ((h.b.mul k.b).mono (ak2 _)),F.pos⟩
theorem eT.plus {m n:Nat} {x y:Int×Int} (h:eT m x) (k:eT n y):eT (m+n+1) (lZ x y):=by
 have F:=kj (t:=x.1 * y.2+y.1 * x.2) (b:=x.2 * y.2) (ajk h.p k.p)
 have b1:Bd (m+n) (x.1 * y.2):=h.t.mul k.b
 have b2:Bd (m+n) (y.1 * x.2):=by rw [alr];exact k.t.mul h.b
 exact ⟨F.PB (b1.add b2),F.Sw ((h.b.mul k.b).mono (ak2 _)),F.pos⟩
theorem Du:eT 100 (0,1):=⟨(by decide:(_:Int).natAbs<_),(by decide:(_:Int).natAbs<_),by decide⟩
theorem zY:eT 100 (1,1):=⟨(by decide:(_:Int).natAbs<_),(by decide:(_:Int).natAbs<_),by decide⟩
end Mth
namespace L2
open PySem PySem.Spec PyProof.Rows Mth
variable {C dx p3 pf pm ps:Addr} {H H':Hp} {fp:List Addr} {o:HO} {v:V} {vm vt xs:List V}
structure ao.Wf (m:ao):Prop where
 rows:∀ r∈m.rows,∀ f∈r,eT 100 f
 len:∀ r∈m.rows,2<=r.length/\r.length<=7
 c9:∀ i j f,m.c9 i j=some f->eT 100 f
 bj:∀ s∈m.bj,eT 100 s.1/\eT 100 s.2.1/\eT 100 s.2.2
 aV:∀ x,some x∈m.aV->eT 100 x.1
structure aL (K:W.Frag) (C:Addr) (H:Hp) (a:Addr) (fp:List Addr) (m:ao):Prop where
 ex:∃ dx pm pf ps pt vm vs vt ax,fp=[a,dx,pm,pf,ps,pt]/\H a=some (.ins C dx (kq m pm pf ps pt))/\H dx=some (.own a)/\H pm=some (.lst vm)/\H pf=some (.dT ax)/\H ps=some (.lst vs)/\H pt=some (.lst vt) /\
   pm≠ps/\pm≠pt/\ps≠pt/\bi K H (m.rows.map sW) vm/\bi K H (m.bj.map nF) vs/\bi K H (m.aV.map gX) vt/\(∀ i j,mF K H (m.c9 i j) (ga ax (iF i j)))/\pH ax
 sk:m.bj.length=m.rows.length
 st:m.aV.length=m.rows.length
 mx:m.rows.length<=4
 wf:m.Wf
def f8 (fp:List Addr) (H H':Hp):Prop:=∀ b o,H b=some o->b∉fp->H' b=some o
def ao.d7 (m:ao) (i j:Nat):bR:=(m.c9 i j).getD (0,1)
def ao.dR (m:ao) (i:Nat):bR:=((m.bj[i]?).map (·.1)).getD (0,1)
def ao.f6 (m:ao) (i n:Nat):bR:=(List.range n).foldl (λ acc j=>jI acc (m.d7 i j)) (jI (1,1) (m.dR i))
def ao.own (m:ao) (i:Nat):bR:=m.f6 i m.rows.length
def ao.share (m:ao) (i j:Nat):bR:=if i=j then m.own i else m.d7 i j
theorem ao.Wf.d7 {m:ao} (w:m.Wf) (i j:Nat):eT 100 (m.d7 i j):=by
 unfold ao.d7
 cases e:m.c9 i j with
 | none=>exact Du
 | some f=>exact w.c9 i j f e
theorem ao.Wf.dR {m:ao} (w:m.Wf) (i:Nat):eT 100 (m.dR i):=by
 unfold ao.dR
 cases e:m.bj[i]? with
 | none=>exact Du
 | some f=>exact (w.bj f (aaK e)).1
theorem ao.mG (m:ao) (i n:Nat):m.f6 i (n+1)=jI (m.f6 i n) (m.d7 i n):=by
 unfold ao.f6
 rw [agC,ajV];rfl
theorem ao.Wf.f6 {m:ao} (w:m.Wf) (i:Nat):∀ n,eT (201+101 * n) (m.f6 i n)
 | 0=>(zY.minus (w.dR i)).mono (by decide)
 | n+1=>by
   rw [ao.mG]
   exact ((w.f6 i n).minus (w.d7 i n)).mono (by lia)
section
variable {K:W.Frag} {H:Hp} {v:V}
theorem Dn.qH {s:bR×bR×bR} (h:Dn K H (nF s) v):∃ p v1 v2 v3,v = .ref p/\bO K H p [v1,v2,v3]/\Dn K H (dS s.1) v1/\Dn K H (dS s.2.1) v2/\Dn K H (dS s.2.2) v3:=by
 obtain ⟨p,xs,e,q,x1,r1,e1,d1,x2,r2,e2,d2,x3,r3,e3,d3,e4⟩:=h
 have e4:r3=[]:=e4
 subst e1 e2 e3 e4
 exact ⟨p,x1,x2,x3,e,q,d1,d2,d3⟩
theorem EQ {s:bR×bR×bR} {p:Addr} {v1 v2 v3:V} (q:bO K H p [v1,v2,v3]) (d1:Dn K H (dS s.1) v1) (d2:Dn K H (dS s.2.1) v2) (d3:Dn K H (dS s.2.2) v3):Dn K H (nF s) (.ref p) :=
 gU q (bh d1 (bh d2 (bh d3 eK)))
theorem rW (s:bR×bR×bR):eY (nF s)=true:=by simp [nF,dS,eY]
theorem sL (s:Option (bR×Int×Int×Int)):eY (gX s)=true:=by cases s<;>simp [gX,dS,eY]
theorem wL (r:List bR):eY (sW r)=true:=kL.mpr λ d hd=>by
 obtain ⟨f,_,rfl⟩:=List.mem_map.mp hd
 exact hZ f
theorem yL.fr {a:Addr} {f:bR} (h:yL K a [.int f.1,.int f.2]):Dn K H (dS f) (.ref a):=lP (h.at H)
end
theorem aE {α:Type} {l:List α} {i:Nat} (h:i<l.length):l[i]?=some l[i]:=Mq h
theorem gO {α:Type} {xs:List α} {i:Nat} {v:α} (h:xs[i]?=some v):ud xs (i:Int)=some v:=bF h
theorem AJ {K:W.Frag} {o:Option bR} {r:Option V} {z:V} (h:mF K H o r) (hz:Dn K H (dS (0,1)) z):Dn K H (dS (o.getD (0,1))) (r.getD z):=by
 cases o with
 | none=>cases r with
   | none=>exact hz
   | some v=>exact (show False from h).elim
 | some f=>cases r with
   | none=>exact (show False from h).elim
   | some v=>exact h
inductive G0  (vs:List V) (H:Hp) (Q:VK) (_E:XK):Prop
 | mk (n g:Int) (_:vs=[.int n,.int g]) (_:Q (.bl (decide (0<=n/\n<=g))) H)
section
variable (K:W.Frag) (C:Addr)
inductive G6  (vs:List V) (H:Hp) (Q:VK) (_E:XK):Prop
 | mk (a fp m:_) (_:vs=[.ref a]) (_:aL K C H a fp m) (_:Q (al m.rows.length) H)
inductive yj  (vs:List V) (H:Hp) (Q:VK) (_E:XK):Prop
 | mk (a fp m:_) (i:Nat) (_:vs=[.ref a,al i]) (_:aL K C H a fp m) (_:i<m.rows.length) (_:Q .cf H)
inductive LQ  (vs:List V) (H:Hp) (Q:VK) (_E:XK):Prop
 | mk (a fp m:_) (i:Nat) (s:_) (_:vs=[.ref a,al i]) (_:aL K C H a fp m) (_:m.bj[i]?=some s) (_:∀ v,Dn K H (nF s) v->Q v H)
inductive Ea  (vs:List V) (H:Hp) (Q:VK) (_E:XK):Prop
 | mk (a fp m:_) (i:Nat) (s:_) (_:vs=[.ref a,al i]) (_:aL K C H a fp m) (_:m.aV[i]?=some s) (_:∀ v,Dn K H (gX s) v->Q v H)
inductive D5  (vs:List V) (H:Hp) (Q:VK) (_E:XK):Prop
 | mk (a fp m:_) (i:Nat) (r:_) (_:vs=[.ref a,al i]) (_:aL K C H a fp m) (_:m.rows[i]?=some r) (_:∀ p xs,H p=none->bi K H (r.map dS) xs->Q (.ref p) (upd H p (.lst xs)))
inductive Lg  (vs:List V) (H:Hp) (Q:VK) (_E:XK):Prop
 | mk (a fp m:_) (i:Nat) (_:vs=[.ref a,al i]) (_:aL K C H a fp m) (_:i<m.rows.length) (_:∀ v H',aC H H'->Dn K H' (dS (m.own i)) v->Q v H')
inductive FU  (vs:List V) (H:Hp) (Q:VK) (_E:XK):Prop
 | mk (a fp m:_) (i j:Nat) (_:vs=[.ref a,al i,al j]) (_:aL K C H a fp m) (_:i<m.rows.length) (_:j<m.rows.length) (_:∀ v H',aC H H'->Dn K H' (dS (m.share i j)) v->Q v H')
end
theorem aL.same {K:W.Frag} {a:Addr} {m:ao} (s:aC H H') (h:aL K C H a fp m):aL K C H' a fp m:=by
 obtain ⟨⟨dx,pm,pf,ps,pt,vm,vs,vt,ax,e,ha,i5,gc,mE,gz,gn,n1,n2,n3,dm,ds,dt,df,fk⟩,q1,q2,q3,q4⟩:=h
 refine ⟨⟨dx,pm,pf,ps,pt,vm,vs,vt,ax,e,s _ _ ha,s _ _ i5,s _ _ gc,s _ _ mE,s _ _ gz,s _ _ gn,n1,n2,n3,bi.same s _ dm,bi.same s _ ds,bi.same s _ dt,λ i j=>?_,fk⟩,q1,q2,q3,q4⟩
 have:=df i j
 revert this
 cases m.c9 i j<;>cases ga ax (iF i j)<;>intro q
 . exact q
 . exact q
 . exact q
 . exact Dn.same s _ q
theorem jK {n i:Nat} (h:i<n):Di n (i:Int)=some i:=by
 unfold Di
 rw [ady (by lia),ady (by lia),ag7]
theorem Lv {x y z t:V}:[x,y,z,t].length<=sizeLine:=by show 4<=sizeLine;decide
theorem Eu {x:V}:[x].length<=sizeLine:=by show 1<=sizeLine;decide
theorem tU {α:Type} [DecidableEq α]:∀ (l L:List α),l.Nodup->(∀ x∈l,x∈L)->l.length<=L.length
 | [],_,_,_=>aeU _
 | x::l,L,hn,hs=>by
   obtain ⟨h1,h2⟩:=List.nodup_cons.mp hn
   have hx:=hs x abQ
   have:=tU l (L.erase x) h2 λ y hy=>(List.mem_erase_of_ne (λ e=>h1 (by rw [← e];exact hy))).mpr (hs y (aaS _ hy))
   rw [List.length_erase_of_mem hx] at this
   have hp:=List.length_pos_of_mem hx
   rw [aeR]
   lia
def GY:List (List Key):=(List.range 4).flatMap λ (i:Nat)=>(List.range 4).map λ (j:Nat)=>iF (i:Int) (j:Int)
theorem pH.len {ax:List (List Key×V)} (h:pH ax):ax.length<=16:=by
 have:=tU (ax.map (·.1)) GY h.1 λ x hx=>by
   obtain ⟨p,hp,rfl⟩:=List.mem_map.mp hx
   obtain ⟨i,j,hi,hj,e⟩:=h.2 p hp
   rw [e]
   exact List.mem_flatMap.mpr ⟨i,List.mem_range.mpr hi,List.mem_map.mpr ⟨j,List.mem_range.mpr hj,rfl⟩⟩
 rw [zN] at this
 exact acS this (by decide)
theorem pH.put {ax:List (List Key×V)} (h:pH ax) {i j:Nat} (hi:i<4) (hj:j<4) (v:V):pH (putK ax (iF i j) v):=by
 refine ⟨?_,λ p hp=>?_⟩
 .
  cases e:ga ax (iF i j) with
  | none=>exact IW v h.1 e
  | some y =>
    have hc:(ax.any λ kv=>decide (kv.1=iF i j))=true:=by
      unfold ga at e
      cases q:ax.find? λ kv=>decide (kv.1=iF i j) with
      | none=>rw [q] at e;cases e
      | some z=>have q2:=List.find?_some q;exact List.any_eq_true.mpr ⟨z,List.mem_of_find?_eq_some q,q2⟩
    unfold putK
    rw [ady hc,ak5]
    have:((λ x:List Key×V=>x.1) ∘ λ kv:List Key×V=>if kv.1=iF i j then (kv.1,v) else kv)=λ x=>x.1:=by
      funext x
      show (if x.1=iF i j then (x.1,v) else x).1=x.1
      split<;>rfl
    rw [this]
    exact h.1
 .
  unfold putK at hp
  split at hp
  . obtain ⟨z,hz,rfl⟩:=List.mem_map.mp hp
    obtain ⟨a,b,ha,hb,e⟩:=h.2 z hz
    refine ⟨a,b,ha,hb,?_⟩
    split<;>exact e
  .
   rcases List.mem_append.mp hp with hp|hp
   . exact h.2 p hp
   . have:p=(iF i j,v):=by simpa using hp
     subst this
     exact ⟨i,j,hi,hj,rfl⟩
theorem ES {i j i' j':Int} (h:iF i j=iF i' j'):i=i'/\j=j':=by
 simp only [iF,amr,Sum.inl.injEq,and_true] at h
 exact h
def ao.dH (m:ao) (i j:Nat) (f:bR):ao:={ m with c9:=λ a b=>if a=(i:Int)/\b=(j:Int) then some f else m.c9 a b }
def ao.fI (m:ao) (i:Nat) (s:bR×bR×bR):ao:={ m with bj:=m.bj.set i s }
def ao.dD (m:ao) (i:Nat) (s:bR×Int×Int×Int):ao:={ m with aV:=m.aV.set i (some s)}
def ao.dY (m:ao) (r:List bR):ao:={ m with rows:=m.rows++[r],bj:=m.bj++[((0,1),(0,1),(0,1))],aV:=m.aV++[none]}
def ao.new (most d8 load:Int):ao:=⟨most,d8,load,[],λ _ _=>none,[],[]⟩
structure pQ (K:W.Frag) (C:Addr) (H:Hp) (a:Addr) (fp:List Addr) (m':ao) (H':Hp) (rX:List Addr):Prop where
 at_:aL K C H' a rX m'
 but:f8 fp H H'
 ts:aI K H H'
 own:∀ b∈rX,b∈fp∨H b=none
theorem mF.ts {K:W.Frag} (s:aI K H H'):∀ {o:Option bR} {v:Option V},mF K H o v->mF K H' o v
 | none,none,_=>trivial
 | some f,some v,h=>Dn.ts s _ (hZ f) h
 | none,some _,h=>h
 | some _,none,h=>h
theorem jn {K:W.Frag} {rs:List (List bR)} (s:aI K H H') (h:bi K H (rs.map sW) xs):bi K H' (rs.map sW) xs:=bi.ts s _ (λ d hd=>by obtain ⟨r,_,rfl⟩:=List.mem_map.mp hd;exact wL r) h
theorem iD {K:W.Frag} {rs:List (bR×bR×bR)} (s:aI K H H') (h:bi K H (rs.map nF) xs):bi K H' (rs.map nF) xs:=bi.ts s _ (λ d hd=>by obtain ⟨r,_,rfl⟩:=List.mem_map.mp hd;exact rW r) h
theorem gw {K:W.Frag} {rs:List (Option (bR×Int×Int×Int))} (s:aI K H H') (h:bi K H (rs.map gX) xs):bi K H' (rs.map gX) xs:=bi.ts s _ (λ d hd=>by obtain ⟨r,_,rfl⟩:=List.mem_map.mp hd;exact sL r) h
def kU (r:List bR):Bool:=(List.zipWith bI r r.tail).all id
def i0 (rs:List (List bR)):Int:=rs.foldl (λ p r=>p * ((r.length:Int) - 1)) 1
section
variable (K:W.Frag) (C:Addr)
inductive Ht  (vs:List V) (H:Hp) (Q:VK) (_E:XK):Prop
 | mk (a fp m:_) (i:Nat) (v1 v2 f g:_) (_:vs=[.ref a,al i,v1,v2]) (_:aL K C H a fp m) (_:i<m.rows.length) (_:Dn K H (dS f) v1) (_:Dn K H (dS g) v2) (_:eT 100 f) (_:eT 100 g) (_:0<=f.1) (_:bI (lZ (m.own i) g) f=false) (_:∀ H',aC H H'->Q .cf H')
inductive wK  (vs:List V) (H:Hp) (Q:VK) (_E:XK):Prop
 | mk (a fp m:_) (i j:Nat) (v f:_) (_:vs=[.ref a,al i,al j,v]) (_:aL K C H a fp m) (_:i<m.rows.length) (_:j<m.rows.length) (_:i≠j) (_:Dn K H (dS f) v) (_:eT 100 f) (_:0<=f.1) (_:bI (lZ (m.own i) (m.d7 i j)) f=false) (_:∀ H' rX,pQ K C H a fp (m.dH i j f) H' rX->Q .cf H')
inductive zS  (vs:List V) (H:Hp) (Q:VK) (_E:XK):Prop
 | mk (a fp m:_) (i:Nat) (v1 v2 v3 f lo hi:_) (_:vs=[.ref a,al i,v1,v2,v3]) (_:aL K C H a fp m) (_:i<m.rows.length) (_:Dn K H (dS f) v1) (_:Dn K H (dS lo) v2) (_:Dn K H (dS hi) v3) (_:eT 100 f) (_:eT 100 lo) (_:eT 100 hi) (_:bI hi lo=false) (_:0<=f.1) (_:bI (lZ (m.own i) (m.dR i)) f=false) (_:∀ H' rX,pQ K C H a fp (m.fI i (f,lo,hi)) H' rX->Q .cf H')
inductive nM  (vs:List V) (H:Hp) (Q:VK) (_E:XK):Prop
 | mk (a fp m:_) (i:Nat) (v f:_) (w st fl:Int) (_:vs=[.ref a,al i,v,.int w,.int st,.int fl]) (_:aL K C H a fp m) (_:i<m.rows.length) (_:Dn K H (dS f) v) (_:eT 100 f) (_:0<=f.1) (_:(0<=w/\w<=9)) (_:(0<=st/\st<=3)) (_:(0<=fl/\fl<=3)) (_:∀ H' rX,pQ K C H a fp (m.dD i (f,w,st,fl)) H' rX->Q .cf H')
inductive BG  (vs:List V) (H:Hp) (Q:VK) (_E:XK):Prop
 | mk (p xs r:_) (_:vs=[.ref p]) (_:aR K H p xs) (_:bi K H (r.map dS) xs) (_:(∀ f∈r,eT 100 f)) (_:r.length<=7) (_:∀ H',aC H H'->Q (.bl (kU r)) H')
inductive Fl  (vs:List V) (H:Hp) (Q:VK) (_E:XK):Prop
 | mk (p xs rs:_) (_:vs=[.ref p]) (_:aR K H p xs) (_:bi K H (rs.map sW) xs) (_:rs.length<=5) (_:(∀ r∈rs,1<=r.length/\r.length<=7)) (_:Q (.int (i0 rs)) H)
inductive wO  (vs:List V) (H:Hp) (Q:VK) (_E:XK):Prop
 | mk (a fp m p xs r:_) (_:vs=[.ref a,.ref p]) (_:aL K C H a fp m) (_:m.rows.length<4) (_:aR K H p xs) (_:bi K H (r.map dS) xs) (_:(∀ f∈r,eT 100 f)) (_:2<=r.length) (_:r.length<=7) (_:kU r=true) (_:i0 (m.rows++[r])<=400) (_:∀ H' rX,pQ K C H a fp (m.dY r) H' rX->Q (al m.rows.length) H')
inductive AN  (vs:List V) (H:Hp) (Q:VK) (_E:XK):Prop
 | mk (x dx:_) (most d8 load:Int) (_:vs=[.ref x,.int most,.int d8,.int load]) (_:H x=some (.ins C dx [])) (_:H dx=some (.own x)) (_:(0<=most/\most<=4)) (_:(0<=d8/\d8<=30)) (_:(0<=load/\load<=30)) (_:∀ H' rX,pQ K C H x [x,dx] (ao.new most d8 load) H' rX->Q .cf H')
end
theorem dF {a b:Addr} {u:HO} (h:H a=some o) (k:H b=some u) (n:o≠u):a≠b:=λ e=>by
 subst e
 rw [h] at k
 exact n (abG k)
theorem nu {m:ao} {yH pt Cv uZ qd qD:Addr} (h:some (HO.ins C dx (kq m pm pf ps pt))=some (HO.ins C yH (kq m Cv uZ qd qD))):dx=yH/\pm=Cv/\pf=uZ/\ps=qd/\pt=qD:=by
 simp only [kq,Option.some.injEq,HO.ins.injEq,amr,Prod.mk.injEq,am5,and_true,V.ref.injEq] at h
 exact h
theorem f8.same (s:aC H H'):f8 fp H H':=λ b o h _=>s b o h
theorem f8.upd {p:Addr} (b:f8 fp H H') (hp:p∈fp):f8 fp H (upd H' p o):=λ c u h n=>by
 rw [aq (λ e=>n (by rw [e];exact hp))]
 exact b c u h n
section
variable {K:W.Frag} {C:Addr} {H H1:Hp} {a:Addr} {fp:List Addr} {m:ao}
theorem C7 {pt:Addr} {ax:List (List Key×V)} {i j:Nat} {f:bR} (hh:aL K C H a fp m) (s:aC H H1) (ha:H a=some (.ins C dx (kq m pm pf ps pt))) (mE:H pf=some (.dT ax)) (hi:i<4) (hj:j<4) (d:Dn K H1 (dS f) v) (o:eT 100 f):pQ K C H a fp (m.dH i j f) (upd H1 pf (.dT (putK ax (iF i j) v))) fp:=by
 obtain ⟨⟨yH,Cv,uZ,qd,qD,vm,vs,vt,i6,og,ue,i5,gc,lN,gz,gn,n1,n2,n3,dm,ds,dt,df,fk⟩,q1,q2,q3,q4⟩:=hh
 obtain ⟨rfl,rfl,rfl,rfl,rfl⟩:=nu (ue.symm.trans ha)
 obtain rfl:i6=ax:=by
   have:=lN.symm.trans mE
   injection this with e
   injection e
 have t1:aI K H1 (upd H1 uZ (.dT (putK i6 (iF i j) v))):=bH (s _ _ lN) rfl
 have t0:=(aC.ts (K:=K) s).trans t1
 have w:∀ {b o},H b=some o->o ≠ .dT i6->(upd H1 uZ (.dT (putK i6 (iF i j) v))) b=some o:=λ h n=>by
   rw [aq (dF h lN n)]
   exact s _ _ h
 refine ⟨⟨⟨yH,Cv,uZ,qd,qD,vm,vs,vt,putK i6 (iF i j) v,og,w ue nofun,w i5 nofun,w gc nofun,af,w gz nofun,w gn nofun,n1,n2,n3,jn t0 dm,iD t0 ds,gw t0 dt,λ i' j'=>?_,fk.put hi hj v⟩,q1,q2,q3,⟨q4.rows,q4.len,λ i' j' g hg=>?_,q4.bj,q4.aV⟩⟩,(f8.same s).upd (by rw [og];simp),t0,λ b hb => .inl hb⟩
 .
  rw [EI]
  by_cases e:i'=(i:Int)/\j'=(j:Int)
  . show mF K _ (if i'=(i:Int)/\j'=(j:Int) then some f else m.c9 i' j') _
    rw [ady e,ady (by rw [e.1,e.2])]
    exact Dn.ts t1 _ (hZ f) d
  . show mF K _ (if i'=(i:Int)/\j'=(j:Int) then some f else m.c9 i' j') _
    rw [ac9 e,ac9 (λ z=>e (ES z))]
    exact (df i' j').ts t0
 .
  have hg:(if i'=(i:Int)/\j'=(j:Int) then some f else m.c9 i' j')=some g:=hg
  split at hg
  . cases hg
    exact o
  . exact q4.c9 i' j' g hg
theorem ET {pt:Addr} {vs:List V} {i:Nat} {z:bR×bR×bR} (hh:aL K C H a fp m) (s:aC H H1) (ha:H a=some (.ins C dx (kq m pm pf ps pt))) (gz:H ps=some (.lst vs)) (d:Dn K H1 (nF z) v) (o:eT 100 z.1/\eT 100 z.2.1/\eT 100 z.2.2):pQ K C H a fp (m.fI i z) (upd H1 ps (.lst (vs.set i v))) fp:=by
 obtain ⟨⟨yH,Cv,uZ,qd,qD,vm,yx,vt,i6,og,ue,i5,gc,lN,wZ,gn,n1,n2,n3,dm,ds,dt,df,fk⟩,q1,q2,q3,q4⟩:=hh
 obtain ⟨rfl,rfl,rfl,rfl,rfl⟩:=nu (ue.symm.trans ha)
 obtain rfl:yx=vs:=by
   have:=wZ.symm.trans gz
   injection this with e
   injection e
 have t1:aI K H1 (upd H1 qd (.lst (yx.set i v))):=bH (s _ _ wZ) rfl
 have t0:=(aC.ts (K:=K) s).trans t1
 have w:∀ {b o},H b=some o->b≠qd->(upd H1 qd (.lst (yx.set i v))) b=some o:=λ h n=>by
   rw [aq n]
   exact s _ _ h
 refine ⟨⟨⟨yH,Cv,uZ,qd,qD,vm,yx.set i v,vt,i6,og,w ue (dF ue gz nofun),w i5 (dF i5 gz nofun),w gc n1,w lN (dF lN gz nofun),af,w gn n3.symm,n1,n2,n3,jn t0 dm,?_,gw t0 dt,λ i' j'=>(df i' j').ts t0,fk⟩,?_,q2,q3,⟨q4.rows,q4.len,q4.c9,λ y hy=>?_,q4.aV⟩⟩,(f8.same s).upd (by rw [og];simp),t0,λ b hb => .inl hb⟩
 . show bi K _ ((m.bj.set i z).map nF) _
   rw [amd]
   exact bi.set (i:=i) (iD t0 ds) (Dn.ts t1 _ (rW z) d)
 . show (m.bj.set i z).length=_
   rw [aho];exact q1
 . rcases ak0 hy with h|h
   . exact q4.bj y h
   . rw [h];exact o
theorem zx {pt:Addr} {i:Nat} {z:bR×Int×Int×Int} (hh:aL K C H a fp m) (s:aC H H1) (ha:H a=some (.ins C dx (kq m pm pf ps pt))) (gn:H pt=some (.lst vt)) (d:Dn K H1 (gX (some z)) v) (o:eT 100 z.1):pQ K C H a fp (m.dD i z) (upd H1 pt (.lst (vt.set i v))) fp:=by
 obtain ⟨⟨yH,Cv,uZ,qd,qD,vm,yx,Cb,i6,og,ue,i5,gc,lN,wZ,C1,n1,n2,n3,dm,ds,dt,df,fk⟩,q1,q2,q3,q4⟩:=hh
 obtain ⟨rfl,rfl,rfl,rfl,rfl⟩:=nu (ue.symm.trans ha)
 obtain rfl:Cb=vt:=by
   have:=C1.symm.trans gn
   injection this with e
   injection e
 have t1:aI K H1 (upd H1 qD (.lst (Cb.set i v))):=bH (s _ _ C1) rfl
 have t0:=(aC.ts (K:=K) s).trans t1
 have w:∀ {b o},H b=some o->b≠qD->(upd H1 qD (.lst (Cb.set i v))) b=some o:=λ h n=>by
   rw [aq n]
   exact s _ _ h
 refine ⟨⟨⟨yH,Cv,uZ,qd,qD,vm,yx,Cb.set i v,i6,og,w ue (dF ue gn nofun),w i5 (dF i5 gn nofun),w gc n2,w lN (dF lN gn nofun),w wZ n3,af,n1,n2,n3,jn t0 dm,iD t0 ds,?_,λ i' j'=>(df i' j').ts t0,fk⟩,q1,?_,q3,⟨q4.rows,q4.len,q4.c9,q4.bj,λ y hy=>?_⟩⟩,(f8.same s).upd (by rw [og];simp),t0,λ b hb => .inl hb⟩
 . show bi K _ ((m.aV.set i (some z)).map gX) _
   rw [amd]
   exact bi.set (i:=i) (gw t0 dt) (Dn.ts t1 _ (sL (some z)) d)
 . show (m.aV.set i (some z)).length=_
   rw [aho];exact q2
 . rcases ak0 hy with h|h
   . exact q4.aV y h
   . cases h;exact o
end
theorem Et (xs:List V):zA xs (some 1) none=xs.tail:=by
 have e:HT.wb xs.length 0 (some 1)=min 1 xs.length:=HT.Gr _ _ 1
 unfold zA
 rw [e,HT.Fa]
 cases xs with
 | nil=>rfl
 | cons x l =>
   have:min 1 (x::l).length=1:=by simp
   rw [this]
   simp
theorem aC.put {D:Addr} (s:aC H H') (h:H D=none):aC H (upd H' D o):=λ b u e=>by
 rw [aq (au e h)]
 exact s b u e
theorem qR {r:List bR} {i:Nat} {x y:bR} (hx:r[i]?=some x) (hy:r[i+1]?=some y):(List.zipWith bI r r.tail)[i]?=some (bI x y):=by
 rw [List.getElem?_zipWith,hx]
 have:r.tail[i]?=some y:=by rw [am8];exact hy
 rw [this]
section
variable {K:W.Frag} {C:Addr} {H H1:Hp} {a:Addr} {fp:List Addr} {m:ao}
theorem BR {pt kt q0 N:Addr} {vs:List V} {r:List bR} (hh:aL K C H a fp m) (s:aC H H1) (ha:H a=some (.ins C dx (kq m pm pf ps pt))) (gc:H pm=some (.lst vm)) (gz:H ps=some (.lst vs)) (gn:H pt=some (.lst vt)) (hn:H p3=none) (zr:H1 p3=some (.lst (vm++[.ref kt]))) (dr:Dn K H1 (sW r) (.ref kt)) (l5:m.rows.length<4) (hr:∀ f∈r,eT 100 f) (hl:2<=r.length/\r.length<=7) (dN:∀ H',Dn K H' (dS (0,1)) (.ref N)) (wk:upd H1 a (.ins C dx (aG "mark_rows" (.ref p3) (kq m pm pf ps pt))) q0=none) :
   ∃ rX,pQ K C H a fp (m.dY r) (upd (upd (upd (upd H1 a (.ins C dx (aG "mark_rows" (.ref p3) (kq m pm pf ps pt)))) q0 (.tup [.ref N,.ref N,.ref N])) ps (.lst (vs++[.ref q0]))) pt (.lst (vt++[.cf]))) rX:=by
 obtain ⟨⟨yH,Cv,uZ,qd,qD,Tp,yx,Cb,i6,og,ue,i5,Kz,lN,wZ,C1,n1,n2,n3,dm,ds,dt,df,fk⟩,q1,q2,q3,q4⟩:=hh
 obtain ⟨rfl,rfl,rfl,rfl,rfl⟩:=nu (ue.symm.trans ha)
 obtain rfl:Tp=vm:=by
   have:=Kz.symm.trans gc
   injection this with e
   injection e
 obtain rfl:yx=vs:=by
   have:=wZ.symm.trans gz
   injection this with e
   injection e
 obtain rfl:Cb=vt:=by
   have:=C1.symm.trans gn
   injection this with e
   injection e
 let H2:=upd H1 a (.ins C yH (aG "mark_rows" (.ref p3) (kq m Cv uZ qd qD)))
 let H3:=upd H2 q0 (.tup [.ref N,.ref N,.ref N])
 let H4:=upd H3 qd (.lst (yx++[.ref q0]))
 let H5:=upd H4 qD (.lst (Cb++[.cf]))
 have w2:∀ {b o},H1 b=some o->b≠a->H2 b=some o:=λ h n=>by show upd _ _ _ _=_;rw [aq n];exact h
 have s3:aC H2 H3:=ak wk
 have na:H2 a=some (.ins C yH (aG "mark_rows" (.ref p3) (kq m Cv uZ qd qD))):=af
 have N0:=dF ue gz nofun
 have TN:=dF ue gn nofun
 have RK:H2 qd=some (.lst yx):=w2 (s _ _ gz) N0.symm
 have ZM:H2 qD=some (.lst Cb):=w2 (s _ _ gn) TN.symm
 have Vh:=s3 _ _ RK
 have VS:=s3 _ _ ZM
 have ah5:H4 qD=some (.lst Cb):=by show upd _ _ _ _=_;rw [aq n3.symm];exact VS
 have Nm:aI K H1 H2:=bH (s _ _ ue) rfl
 have t34:aI K H3 H4:=bH Vh rfl
 have UM:aI K H4 H5:=bH ah5 rfl
 have t35:=t34.trans UM
 have t15:=Nm.trans ((aC.ts s3).trans t35)
 have ON:=(aC.ts (K:=K) s).trans t15
 have w5:∀ {b o},H2 b=some o->b≠qd->b≠qD->H5 b=some o:=λ h x y=>by
   show upd _ _ _ _=_
   rw [aq y]
   show upd _ _ _ _=_
   rw [aq x]
   exact s3 _ _ h
 have wo:∀ {b o},H b=some o->b≠a->b≠qd->b≠qD->H5 b=some o:=λ h x y z=>w5 (w2 (s _ _ h) x) y z
 have p3a:p3≠a:=(au ue hn).symm
 have p3s:p3≠qd:=(au gz hn).symm
 have p3t:p3≠qD:=(au gn hn).symm
 have q0s:q0≠qd:=(au RK wk).symm
 have abW:H5 qd=some (.lst (yx++[.ref q0])):=by
   show upd _ _ _ _=_
   rw [aq n3]
   exact af
 refine ⟨[a,yH,p3,uZ,qd,qD],⟨⟨yH,p3,uZ,qd,qD,Tp++[.ref kt],yx++[.ref q0],Cb++[.cf],i6,rfl,?_,wo i5 (dF i5 ue nofun) (dF i5 gz nofun) (dF i5 gn nofun),w5 (w2 zr p3a) p3s p3t,wo lN (dF lN ue nofun) (dF lN gz nofun) (dF lN gn nofun),abW,af,p3s,p3t,n3,?_,?_,?_,λ i j=>(df i j).ts ON,fk⟩,?_,?_,?_,?_⟩,?_,ON,?_⟩
 . exact w5 na N0 TN
 . show bi K H5 ((m.rows++[r]).map sW) _
   rw [aaN]
   exact (jn ON dm).snoc (Dn.ts t15 _ (wL r) dr)
 . show bi K H5 ((m.bj++[((0,1),(0,1),(0,1))]).map nF) _
   rw [aaN]
   exact (iD ON ds).snoc (Dn.ts t35 _ (rW _) (EQ (s:=((0,1),(0,1),(0,1))) (bO.of af) (dN _) (dN _) (dN _)))
 . show bi K H5 ((m.aV++[none]).map gX) _
   rw [aaN]
   exact (gw ON dt).snoc rfl
 . show (m.bj++[_]).length=(m.rows++[r]).length
   rw [aaE,aaE,q1];rfl
 . show (m.aV++[_]).length=(m.rows++[r]).length
   rw [aaE,aaE,q2];rfl
 . show (m.rows++[r]).length<=4
   rw [aaE];exact l5
 .
  refine ⟨λ x hx=>?_,λ x hx=>?_,q4.c9,λ x hx=>?_,λ x hx=>?_⟩
  . rcases List.mem_append.mp hx with h|h
    . exact q4.rows x h
    . rw [List.mem_singleton.mp h];exact hr
  . rcases List.mem_append.mp hx with h|h
    . exact q4.len x h
    . rw [List.mem_singleton.mp h];exact hl
  . rcases List.mem_append.mp hx with h|h
    . exact q4.bj x h
    . rw [List.mem_singleton.mp h];exact ⟨Du,Du,Du⟩
  . rcases List.mem_append.mp hx with h|h
    . exact q4.aV x h
    . cases List.mem_singleton.mp h
 .
  intro b o h n
  rw [og] at n
  simp only [aa1,aaI,afj,akH] at n
  exact wo h n.1 n.2.2.2.2.1 n.2.2.2.2.2
 .
  intro b hb
  rw [og]
  simp only [aa1,aaI,afj] at hb ⊢
  rcases hb with rfl|rfl|rfl|rfl|rfl|rfl
  . exact .inl (.inl rfl)
  . exact .inl (.inr (.inl rfl))
  . exact .inr hn
  . exact .inl (.inr (.inr (.inr (.inl rfl))))
  . exact .inl (.inr (.inr (.inr (.inr (.inl rfl)))))
  . exact .inl (.inr (.inr (.inr (.inr (.inr rfl)))))
end
structure i4 (K:W.Frag) (C x dx:Addr) (H H':Hp) (fs:List (Str×V)):Prop where
 st:∀ b o,H b=some o->b≠x->H' b=some o
 ts:aI K H H'
 at_:H' x=some (.ins C dx fs)
section
variable {K:W.Frag} {C x dx:Addr} {H H':Hp} {fs fs':List (Str×V)}
theorem i4.start (h:H x=some (.ins C dx fs)):i4 K C x dx H H fs:=⟨λ _ _ h _=>h,aI.refl _,h⟩
theorem i4.put (B:i4 K C x dx H H' fs):i4 K C x dx H (upd H' x (.ins C dx fs')) fs':=⟨λ b o h n=>by rw [aq n];exact B.st b o h n,B.ts.trans (bH B.at_ rfl),af⟩
theorem i4.new {p:Addr} (B:i4 K C x dx H H' fs) (hp:H' p=none):i4 K C x dx H (upd H' p o) fs:=⟨λ b u h n=>by rw [aq (au (B.st b u h n) hp)];exact B.st b u h n,B.ts.trans (aC.ts (ak hp)),by rw [aq (au B.at_ hp)];exact B.at_⟩
theorem i4.keep {b:Addr} {u:HO} (B:i4 K C x dx H H' fs) (h:H' b=some o) (n:b≠x):(upd H' x u) b=some o:=by rw [aq n];exact h
theorem i4.none {p:Addr} (B:i4 K C x dx H H' fs) (hp:H' p=none):H p=Option.none:=by
 cases e:H p with
 | none=>rfl
 | some o =>
   by_cases q:p=x
   . rw [q,B.at_] at hp;cases hp
   . rw [B.st p o e q] at hp;cases hp
theorem i4.ne {p:Addr} (B:i4 K C x dx H H' fs) (hp:H' p=Option.none):p≠x:=λ q=>by rw [q,B.at_] at hp;cases hp
theorem AM {α:Type} {p:α->Prop} (x:α) (h:x∈([]:List α)):p x:=absurd h aaI
theorem ED {p1 p2 p4:Addr} {most d8 load:Int} (B:i4 K C x dx H H' (kq (ao.new most d8 load) p1 p2 p3 p4)) (hx:H x=some (.ins C dx fs')) (i5:H dx=some (.own x)) (h1:H' p1=some (.lst [])) (h2:H' p2=some (.dT [])) (h3:H' p3=some (.lst [])) (h4:H' p4=some (.lst [])) (n1:H p1=none) (n2:H p2=none) (n3:H p3=none) (n4:H p4=none) (e1:p1≠p3) (e2:p1≠p4) (e3:p3≠p4) :
   pQ K C H x [x,dx] (ao.new most d8 load) H' [x,dx,p1,p2,p3,p4]:=by
 refine ⟨⟨⟨dx,p1,p2,p3,p4,[],[],[],[],rfl,B.at_,B.st _ _ i5 (dF i5 hx nofun),h1,h2,h3,h4,e1,e2,e3,rfl,rfl,rfl,λ _ _=>trivial,ald,AM⟩,rfl,rfl,aeU _,⟨AM,AM,λ _ _ _ h=>(by cases h),AM,λ _ h=>absurd h aaI⟩⟩,?_,B.ts,?_⟩
 . intro b o h n
   simp only [aa1,aaI,afj,akH] at n
   exact B.st b o h n.1
 .
  intro b hb
  simp only [aa1,aaI,afj] at hb ⊢
  rcases hb with rfl|rfl|rfl|rfl|rfl|rfl
  . exact .inl (.inl rfl)
  . exact .inl (.inr rfl)
  . exact .inr n1
  . exact .inr n2
  . exact .inr n3
  . exact .inr n4
end
theorem lt1000 {n:Nat} (h:Nat.ble (n+1) 1000=true):n<1000:=Nat.le_of_ble_eq_true h
def Ap (i j:Int):Int:=reduceHash (Builtin.Tuple.tupleHashOf [hashInt i,hashInt j])
theorem CA:∀ i j i' j':Fin 4,Ap (i.val:Int) (j.val:Int)=Ap (i'.val:Int) (j'.val:Int)->i=i'/\j=j':=by decide +kernel
theorem BZ (i:Nat) (hi:i<4) (j:Nat) (hj:j<4) (i':Nat) (hi':i'<4) (j':Nat) (hj':j'<4) (h:Ap (i:Int) (j:Int)=Ap (i':Int) (j':Int)):i=i'/\j=j':=by
 obtain ⟨a,b⟩:=CA ⟨i,hi⟩ ⟨j,hj⟩ ⟨i',hi'⟩ ⟨j',hj'⟩ h
 exact ⟨ahP Fin.val a,ahP Fin.val b⟩
theorem pH.hash {P:Program} {w:World} {ax:List (List Key×V)} (h:pH ax):(ax.map λ kv=>tupleKeyHash (cq P w) kv.1).Nodup:=by
 have h1:=List.pairwise_map.mp h.1
 refine List.pairwise_map.mpr (h1.imp_of_mem λ {a b} ha hb n e=>?_)
 obtain ⟨i,j,hi,hj,e1⟩:=h.2 a ha
 obtain ⟨i',j',hi',hj',e2⟩:=h.2 b hb
 rw [e1,e2] at e
 obtain ⟨z1,z2⟩:=BZ i hi j hj i' hi' j' hj' e
 exact n (by rw [e1,e2,z1,z2])
def HM:Option Int->V
 | none => .cf
 | some n => .int n
theorem zB {U:St} {Q:VK} {ta:TE} {k:Nat} {o:Option Int} {d:Int} (hk:U[k]?=some (some (HM o))) (hA:∀ Q':VK,Q' (.int d) H->ta U H Q') (h:Q (.int (o.getD d)) H) :
   tIf (Dx (M1 (λ x y H Q=>y = .cf/\Q (.bl (decide (x = .cf))) H) (IG k) (tC .cf))) ta (IG k) U H Q:=by
 refine ⟨_,by rw [hk],rfl,_,rfl,?_⟩
 cases o with
 | none=>exact oM rfl (hA Q h)
 | some n=>exact n6 nofun ⟨_,hk,h⟩
def ao.with (m:ao) (x y z:Option Int):ao:={ m with most:=x.getD m.most,d8:=y.getD m.d8,load:=z.getD m.load }
def ao.Bds (m:ao):Prop:=(0<=m.most/\m.most<=4)/\(0<=m.d8/\m.d8<=30)/\(0<=m.load/\m.load<=30)
inductive qy (K:W.Frag) (C:Addr) (vs:List V) (H:Hp) (Q:VK) (_E:XK):Prop
 | mk (a fp m x y z:_) (_:vs=[.ref a,HM x,HM y,HM z]) (_:aL K C H a fp m) (_:(m.with x y z).Bds) (_:∀ b H' rX,aC H H'->aL K C H' b rX (m.with x y z)->(∀ c∈rX,H c=none)->Q (.ref b) H')
theorem HL {K:W.Frag} {H1:Hp} {a x:Addr} {m m':ao} {l1 l2 l3 l4:Addr} {vs:List V} {ax:List (List Key×V)} {Bv pt:Addr} (hh:aL K C H a fp m) (ha:H a=some (.ins C Bv (kq m pm pf ps pt))) (gc:H pm=some (.lst vm)) (mE:H pf=some (.dT ax)) (gz:H ps=some (.lst vs)) (gn:H pt=some (.lst vt)) (s:aC H H1) (e:m'.rows=m.rows/\m'.c9=m.c9/\m'.bj=m.bj/\m'.aV=m.aV) (B:i4 K C x dx H1 H' (kq m' l1 l2 l3 l4)) (i5:H' dx=some (.own x)) (h1:H' l1=some (.lst vm)) (h2:H' l2=some (.dT ax)) (h3:H' l3=some (.lst vs)) (h4:H' l4=some (.lst vt)) (e1:l1≠l3) (e2:l1≠l4) (e3:l3≠l4):aL K C H' x [x,dx,l1,l2,l3,l4] m':=by
 obtain ⟨⟨yH,Cv,uZ,qd,qD,Tp,yx,Cb,i6,og,ue,aqp,Kz,lN,wZ,C1,n1,n2,n3,dm,ds,dt,df,fk⟩,q1,q2,q3,q4⟩:=hh
 obtain ⟨rfl,rfl,rfl,rfl,rfl⟩:=nu (ue.symm.trans ha)
 obtain rfl:Tp=vm:=by
   have:=Kz.symm.trans gc
   injection this with e
   injection e
 obtain rfl:yx=vs:=by
   have:=wZ.symm.trans gz
   injection this with e
   injection e
 obtain rfl:Cb=vt:=by
   have:=C1.symm.trans gn
   injection this with e
   injection e
 obtain rfl:i6=ax:=by
   have:=lN.symm.trans mE
   injection this with e
   injection e
 have t:=(aC.ts (K:=K) s).trans B.ts
 obtain ⟨r1,r2,r3,r4⟩:=e
 refine ⟨⟨dx,l1,l2,l3,l4,Tp,yx,Cb,i6,rfl,B.at_,i5,h1,h2,h3,h4,e1,e2,e3,?_,?_,?_,λ i j=>?_,fk⟩,?_,?_,?_,⟨?_,?_,?_,?_,?_⟩⟩
 . rw [r1];exact jn t dm
 . rw [r3];exact iD t ds
 . rw [r4];exact gw t dt
 . rw [r2];exact (df i j).ts t
 . rw [r1,r3];exact q1
 . rw [r1,r4];exact q2
 . rw [r1];exact q3
 . rw [r1];exact q4.rows
 . rw [r1];exact q4.len
 . rw [r2];exact q4.c9
 . rw [r3];exact q4.bj
 . rw [r4];exact q4.aV
structure JV where
 a:Int
 b:Int
 t:Int
 d:Int
structure JV.Ok (s:JV):Prop where
 a0:1<=s.a
 a1:s.a<=10 ^ 9
 b0:1<=s.b
 b1:s.b<=10 ^ 9
 t0 : -(10 ^ 9)<=s.t
 t1:s.t<=10 ^ 9
 d0:1<=s.d
 d1:s.d<=10 ^ 9
abbrev JV.vs (s:JV):List V:=[.int s.a,.int s.b,.int s.t,.int s.d]
def RF (num parts:Int) (s:JV):Int:=num * s.a * s.d+parts * s.t * s.b
def Nu (parts:Int) (s:JV):Int:=parts * s.b * s.d
def FI (num parts:Int) (s:JV):bR:=nf (RF num parts s) (Nu parts s)
structure StI (z:Int×Int×Int×Int):Prop where
 h:0<=z.1/\z.1<=25
 w:0<=z.2.1/\z.2.1<=9
 s:0<=z.2.2.1/\z.2.2.1<=3
 f:0<=z.2.2.2/\z.2.2.2<=3
def cP (H:Hp) (L:List Addr):Hp:=λ b=>if b∈L then none else H b
section
variable {K:W.Frag} {H H':Hp} {L:List Addr} {a:Addr} {o:HO}
theorem gK:aC (cP H L) H:=λ b u h=>by
 unfold cP at h
 split at h
 . cases h
 . exact h
theorem kB (h:H a=some o) (n:a∉L):cP H L a=some o:=by unfold cP;rw [ac9 n];exact h
theorem kO (h:a∈L):cP (upd H a o) L=cP H L:=by
 funext b
 unfold cP
 split
 . rfl
 . rename_i n
   rw [aq (λ e=>n (by rw [e];exact h))]
theorem rF (s:aC H H'):aC (cP H L) (cP H' L):=λ b u h=>by
 unfold cP at h ⊢
 split at h
 . cases h
 . rename_i n
   rw [ac9 n]
   exact s b u h
def FR (H:Hp) (L:List Addr):Prop:=∀ b∈L,∃ o,H b=some o/\Bf o=true
end
structure br where
 marks:List (List Int)
 qH:List (Int×Int×Int)
 aV:List (Option (Int×Int×Int×Int))
 c9:Nat->Nat->Option Int
 scale:JV
 bounds:Int×Int×Int
abbrev stI:Option (Int×Int×Int×Int)->PyData
 | none => .none
 | some z => .tuple [.int z.1,.int z.2.1,.int z.2.2.1,.int z.2.2.2]
section
variable {K:W.Frag} {H H':Hp} {p pm ps pt pf yB pb:Addr} {vm vs vt:List V} {ax:List (List Key×V)} {m:br}
def br.dH (m:br) (i j:Nat) (k:Int):br:={ m with c9:=λ a b=>if a=i/\b=j then some k else m.c9 a b }
end
def HX (l:List Int):Prop:=∀ i x y,l[i]?=some x->l[i+1]?=some y->x<y
structure Sc (n:Nat) (l:List Int):Prop where
 two:2<=l.length
 most:l.length<=if n<=2 then 7 else 5
 ris:HX l
 bd:∀ x∈l,-200<=x/\x<=200
structure br.Ok (n i:Nat) (m:br):Prop where
 lm:m.marks.length=i
 ls:m.qH.length=i
 lt:m.aV.length=i
 rows:∀ l∈m.marks,Sc n l
 qH:∀ z∈m.qH,(0<=z.1/\z.1<=3)/\(-30<=z.2.1/\z.2.2<=60)/\z.2.1<=z.2.2/\z.2.2<=z.2.1+30
 aV:∀ z,some z∈m.aV->StI z
 c9:∀ a b,a<i->b<n->a≠b->∃ k,m.c9 a b=some k/\0<=k/\k<=3
 scale:m.scale.Ok
 bounds:(0<=m.bounds.1/\m.bounds.1<=4)/\(0<=m.bounds.2.1/\m.bounds.2.1<=30)/\(0<=m.bounds.2.2/\m.bounds.2.2<=30)
end L2
namespace Mth
def Ov (W k:Int) (f:Int×Int):Prop:=f.1 * W=k * f.2/\0<f.2
theorem Ov.nf {W k:Int} (h:0<W):Ov W k (nf k W):=by
 have F:=kj (t:=k) h
 exact ⟨F.Bs,F.pos⟩
end Mth
namespace L2
open PySem PySem.Spec PyProof.Rows Mth
variable {H:Hp} {elts:List Expr} {ta:TA} {nE:Pos} {x1:Nat}
theorem mZ {m:ao} {i j a b:Nat} {f:bR}:(m.dH i j f).d7 a b=if a=i/\b=j then f else m.d7 a b:=by
 unfold ao.d7 ao.dH
 by_cases e:a=i/\b=j
 . rw [ady e]
   show ((if (a:Int)=(i:Int)/\(b:Int)=(j:Int) then some f else m.c9 a b)).getD (0,1)=f
   rw [ady (by lia)];rfl
 . rw [ac9 e]
   show ((if (a:Int)=(i:Int)/\(b:Int)=(j:Int) then some f else m.c9 a b)).getD (0,1)=_
   rw [ac9 (by lia)]
theorem xP {m:ao} {i a:Nat} {z:bR×bR×bR} (hi:i<m.bj.length):(m.fI i z).dR a=if a=i then z.1 else m.dR a:=by
 unfold ao.dR ao.fI
 by_cases e:a=i
 .
  subst e
  rw [ady rfl]
  show (((m.bj.set a z)[a]?).map (·.1)).getD (0,1)=_
  rw [alb hi];rfl
 . rw [ac9 e]
   show (((m.bj.set i z)[a]?).map (·.1)).getD (0,1)=_
   rw [alh (λ x=>e x.symm)]
def br.row (tm:br) (l:List Int):List bR:=l.map λ x=>FI x 1 tm.scale
def br.m1 (tm:br) (k:Nat):ao:=((tm.marks.take k).map tm.row).foldl ao.dY (ao.new tm.bounds.1 tm.bounds.2.1 tm.bounds.2.2)
def br.J4 (tm:br) (z:Int×Int×Int):bR×bR×bR:=(nf z.1 12,FI z.2.1 1 tm.scale,FI z.2.2 1 tm.scale)
def br.At (tm:br) (z:Int×Int×Int×Int):bR×Int×Int×Int:=(nf (z.1 * tm.scale.a) tm.scale.b,z.2.1,z.2.2.1,z.2.2.2)
def br.I0 (tm:br) (m:ao) (i:Nat):ao:=match tm.qH[i]? with|some z=>m.fI i (tm.J4 z)|none=>m
def br.Cp (tm:br) (m:ao) (i:Nat):ao:=match tm.aV[i]? with|some (some z)=>m.dD i (tm.At z)|_=>m
def br.Dy (tm:br) (i:Nat) (m:ao) (j:Nat):ao:=if j=i then m else match tm.c9 i j with|some k=>m.dH i j (nf k 12)|none=>m
def br.GF (tm:br) (i:Nat) (m:ao) (j:Nat):ao:=(List.range j).foldl (tm.Dy i) m
def br.Dr (tm:br) (n:Nat) (m:ao) (i:Nat):ao:=tm.GF i (tm.Cp (tm.I0 m i) i) n
def br.m2 (tm:br) (n k:Nat):ao:=(List.range k).foldl (tm.Dr n) (tm.m1 n)
theorem pQ.keep {K:W.Frag} {C:Addr} {H0 H':Hp} {a:Addr} {fp rX:List Addr} {m':ao} (S:aC H0 H) (n:∀ b∈fp,H0 b=none) (D:pQ K C H a fp m' H' rX):aC H0 H'/\∀ b∈rX,H0 b=none:=by
 refine ⟨λ b o h=>D.but b o (S b o h) λ q=>?_,λ b hb=>?_⟩
 . rw [n b q] at h;cases h
 . rcases D.own b hb with q|q
   . exact n b q
   . exact S.free q
theorem pD {K:W.Frag}:∀ {l:List Int} {ws:List V},bi K H (l.map PyData.int) ws->ws=l.map V.int
 | [],_,h=>h
 | x::l,_,h=>by
   obtain ⟨y,r,rfl,e,t⟩:=h
   have e:y = .int x:=e
   rw [e,pD t];rfl
theorem nP {α:Type} (l:List α) (g:α->bR):∀ d∈l.map (λ x=>dS (g x)),eY d=true:=λ d hd=>by
 obtain ⟨x,_,rfl⟩:=List.mem_map.mp hd
 exact hZ _
theorem Ov.nonneg {W k:Int} {f:bR} (hW:0<W) (h:Ov W k f) (hk:0<=k):0<=f.1:=by
 have e:=h.1
 have:0<=f.1 * W:=by rw [e];exact akS hk (alV h.2)
 exact Int.nonneg_of_mul_nonneg_left this hW
theorem Ez {u:Addr} {t b q r:Int} {K:W.Frag} (hb:0<b) (F:Fr t b q r) (hu:H u=some (.tup [.int q,.int r])):Dn K H (dS (nf t b)) (.ref u):=by
 have e:=F.nf hb
 have e1:q=(nf t b).1:=ahP Prod.fst e
 have e2:r=(nf t b).2:=ahP Prod.snd e
 rw [e1,e2] at hu
 exact lP (bO.of hu)
def K4:Nat->PyData->Prop
 | _,.none=>True
 | _,.bool _=>True
 | _,.int _=>True
 | n+1,.list ds=>∀ d∈ds,K4 n d
 | n+1,.tuple ds=>∀ d∈ds,K4 n d
 | _,_=>False
theorem uC {n:Nat} (h:∀ d,K4 n d->PyData.eqv d d=true/\d.canLay0=true/\d.depth<=n):∀ ds:List PyData,(∀ d∈ds,K4 n d)->PyData.eqvAll ds ds=true/\PyData.canLayAll0 ds=true/\PyData.depthAll ds<=n
 | [],_=>by simp [PyData.eqvAll,PyData.canLayAll0,PyData.depthAll]
 | d::ds,k=>by
   obtain ⟨a,b,c⟩:=h d (k d abQ)
   obtain ⟨a',b',c'⟩:=uC h ds (λ e he=>k e (aaS _ he))
   simp only [PyData.eqvAll,PyData.canLayAll0,PyData.depthAll,a,b,a',b',Bool.and_self,am5]
   lia
theorem rN:∀ (n:Nat) (d:PyData),K4 n d->PyData.eqv d d=true/\d.canLay0=true/\d.depth<=n
 | n,.none,_=>by simp [PyData.eqv,PyData.canLay0,PyData.depth]
 | n,.bool b,_=>by simp [PyData.eqv,PyData.canLay0,PyData.depth]
 | n,.int i,_=>by simp [PyData.eqv,PyData.canLay0,PyData.depth]
 | n+1,.list ds,h=>by
   obtain ⟨a,b,c⟩:=uC (rN n) ds h
   simp only [PyData.eqv,PyData.canLay0,PyData.depth,a,b,am5]
   lia
 | n+1,.tuple ds,h=>by
   obtain ⟨a,b,c⟩:=uC (rN n) ds h
   simp only [PyData.eqv,PyData.canLay0,PyData.depth,a,b,am5]
   lia
 | 0,.list _,h=>h.elim
 | 0,.tuple _,h=>h.elim
 | 0,.str _,h=>h.elim
 | _+1,.str _,h=>h.elim
 | 0,.dict _,h=>h.elim
 | _+1,.dict _,h=>h.elim
theorem sr {n:Nat} {d:PyData} (h:K4 n d) (hn:n<=64):SeqAt.shaped d=true:=by
 obtain ⟨_,b,c⟩:=rN n d h
 unfold SeqAt.shaped
 rw [b,adD (acS c hn)];rfl
theorem gF {X:Cx} {K:W.Frag} (h:X.K=K):QF X (P8 K):=by
 subst h
 exact aw
theorem si:∀ {ns:List Int} {bg:List Value},Vals (ns.map V.int) bg->∃ ys:List (Int×Tok),bg=ys.map (λ p=>Value.int p.1 p.2)/\ys.map (·.1)=ns
 | [],bg,r=>by cases r;exact ⟨[],rfl,rfl⟩
 | n::ns,bg,r=>by
   cases r with
   | cons a b =>
     obtain ⟨t,rfl⟩:=a
     obtain ⟨ys,rfl,e⟩:=si b
     exact ⟨(n,t)::ys,rfl,by rw [ael,e]⟩
section
variable {X:Cx}
theorem Cj (hc:X.calm=true):hG X (.builtin "sum") (λ xs H Q=>∃ (p:Addr) (ns:List Int),xs=[.ref p]/\aR X.K H p (ns.map V.int)/\∀ r:Int,r=ns.sum->Q (.int r) H):=by
 intro pins s U H xs us Q I r h
 obtain ⟨p,ns,rfl,hq,q⟩:=h
 obtain ⟨u,rfl,r1⟩:=vals1 r
 obtain rfl:u=Value.ref p:=r1
 obtain ⟨bg,rv,pl,_⟩:=I.list hq
 obtain ⟨ys,rfl,e⟩:=si rv
 have hl:s.heap.IsList p (intItems ys.toArray):=by have:=pl.isList;simpa [intItems] using this
 refine sum_intListG (I.ok.hd hc) hl λ h' tk t' hk=>?_
 refine ⟨.int _,H,I.kept hk,⟨t',rfl⟩,q _ ?_⟩
 rw [preSum_eq,agD (by simp),← e]
end
theorem CI {X:Cx} {K:W.Frag} (hK:X.K=K):hG X (.builtin "len") (λ xs H Q=>∃ p ys,xs=[.ref p]/\(aR K H p ys∨bO K H p ys)/\∀ r:Int,r=ys.length->Q (.int r) H):=by
 subst hK
 exact bx
theorem yS:bootBuiltins "min" = some (.builtin "min"):=by decide +kernel
theorem zK:bootBuiltins "max" = some (.builtin "max"):=by decide +kernel
theorem Lw:bootBuiltins "sum" = some (.builtin "sum"):=by decide +kernel
theorem jt:bootBuiltins "enumerate" = some (.type "enumerate"):=by decide +kernel
def o6 (r:List bR) (f g:bR) (b:Nat):Bool:=(!bI g (r.getD b (0,1))) && !bI (r.getD (b+1) (0,1)) f
def jH (r:List bR) (f g:bR) (n:Nat):List Nat:=(List.range n).filter (o6 r f g)
def oE (r:List bR) (f g:bR):List Nat:=jH r f g (r.length - 1)
def lA (r:List bR) (f g:bR):Bool:=(!bI f (r.getD 0 (0,1))) && !bI (r.getD (r.length - 1) (0,1)) g
theorem jT (r:List bR) (f g:bR) (n:Nat):jH r f g (n+1)=jH r f g n++if o6 r f g n then [n] else []:=by
 unfold jH
 rw [agC,ahz]
 cases h:o6 r f g n<;>simp [List.filter,h]
theorem j7 (r:List bR) (f g:bR) (n:Nat):(jH r f g n).length<=n:=by
 have:=agg (o6 r f g) (List.range n)
 rw [abU] at this
 exact this
theorem HQ {α:Type} {xs:List α} {x:α} (h0:0<xs.length) (h:xs[xs.length - 1]?=some x):ud xs (-1)=some x:=by
 unfold ud Di
 rw [ac9 (by lia),ady (by lia)]
 have e:((-1:Int)+(xs.length:Int)).toNat=xs.length - 1:=by lia
 simp only [Option.bind_some]
 first
   | (rw [e];exact h)
   | (have e2:((xs.length:Int) + -1).toNat=xs.length - 1:=by lia
      rw [e2];exact h)
def iY (n:Nat):PyData:=.int (n:Int)
theorem sg {K:W.Frag}:∀ l:List Nat,bi K H (l.map iY) (l.map al)
 | []=>eK
 | n::l=>bh rfl (sg l)
theorem AX {K:W.Frag} {p:Addr} {l:List Nat} (h:aR K H p (l.map al)):Dn K H (.list (l.map iY)) (.ref p):=DR h (sg l)
theorem Do:([]:List V).length<=sizeLine:=aeU _
section
variable {P:Program} {w:World} {A:Around} {E:Value->Shared->Prop} {s:Shared}
theorem zb {j a:Addr} {i:Nat} {bg:Array Value} {x:Value} {Q:Value->Shared->Prop} (hj:s.heap.IsTupleIter j a i) (ha:s.heap.IsTuple a bg) (hx:bg[i]?=some x) (k:∀ h',h'.IsTupleIter j a (i+1)->Heap.SameBut j s.heap h'->Q x { s with heap:=h' }):wpAny (model P w) A (Builtin.SmallTypes.nextOf (.ref j)) Q E s:=by
 obtain ⟨oj,ej,cj,dj⟩:=id hj
 obtain ⟨oa,ea,_,na,da⟩:=ha
 unfold Builtin.SmallTypes.nextOf
 refine P5 (akT (name:=Str.ofString "__next__") hj.typeIs ak8 (aln ak8 hj.typeIs amY ?_ (amT _)))
 refine P5 (m:=field (.ref j) 0) (akf ej dj (x:=.ref a) rfl ?_)
 have nn:¬ ((Value.ref a == Value.none)=true):=ac8
 show wpAny _ _ (if (Value.ref a == Value.none)=true then _ else _) _ _ s
 rw [ac9 nn]
 refine P5 (m:=field (.ref j) 1) (akf ej dj (x:=.int i 0) rfl ?_)
 refine P5 (m:=seqItems? (.ref a)) (ali ea da ?_)
 simp only [ag7,hx]
 refine P5 (wpAny_setField ej dj (by simp) (abN ⟨x,rfl,abN (k _ ⟨_,al8 _ ej (Obj.isFreed_of_fields (Obj.data_mapFields dj _)),(Obj.cls_mapFields ..).trans cj,?_⟩ (aml ..))⟩))
 rw [Obj.data_mapFields dj]
 simp [rawInt]
theorem CC {j a:Addr} {i:Nat} {bg:Array Value} {Q:Value->Shared->Prop} (hh:A.handled=none) (hj:s.heap.IsTupleIter j a i) (ha:s.heap.IsTuple a bg) (hx:bg[i]?=none) (k:∀ h' e,Heap.ExtBut j s.heap h'->(∃ o,h'.get? e=some o/\o.cls = .type "StopIteration")->E (.ref e) { s with heap:=h' }):wpAny (model P w) A (Builtin.SmallTypes.nextOf (.ref j)) Q E s:=by
 obtain ⟨oj,ej,cj,dj⟩:=id hj
 obtain ⟨oa,ea,_,na,da⟩:=ha
 unfold Builtin.SmallTypes.nextOf
 refine P5 (akT (name:=Str.ofString "__next__") hj.typeIs ak8 (aln ak8 hj.typeIs amY ?_ (amT _)))
 refine P5 (m:=field (.ref j) 0) (akf ej dj (x:=.ref a) rfl ?_)
 have nn:¬ ((Value.ref a == Value.none)=true):=ac8
 show wpAny _ _ (if (Value.ref a == Value.none)=true then _ else _) _ _ s
 rw [ac9 nn]
 refine P5 (m:=field (.ref j) 1) (akf ej dj (x:=.int i 0) rfl ?_)
 refine P5 (m:=seqItems? (.ref a)) (ali ea da ?_)
 simp only [ag7,hx]
 refine P5 (wpAny_rule (P5 (wpAny_setField ej dj (by simp) (P5 (m:=newExc (.type "StopIteration") []) ?_))))
 simp only [newExc,newTuple]
 refine P5 (akQ (P5 (m:=firstArgMember _ _) (wpAny_of_eq (a:=Value.none) (by first|rfl|(simp only [firstArgMember];rfl)) (akQ ?_ (by size_fits)))) (by size_fits))
 simp only [raiseNew]
 refine P5 (wpAny_handled ?_)
 have h1:A.in1.handled=none:=hh
 first|rw [h1]|rw [hh]
 exact P5 (abN (wpAny_throw (k _ _ (((aml ..).extBut.push _).push _) ⟨_,aep _ rfl,rfl⟩)))
end
theorem DE {P:Program} {w:World} {A:Around} (hh:A.handled=none) (j a:Addr) (ne:a≠j) (bg:Array Value):Draws P w A j [j,a] bg.size (λ i v=>bg[i]?=some v) (λ i h=>h.IsTupleIter j a i/\h.IsTuple a bg) where
 live:=λ _ _ st=>by
   obtain ⟨⟨o,e,_⟩,_⟩:=st
   exact ⟨o,e⟩
 frame:=λ _ _ _ st k=>by
   obtain ⟨h1,oa,ea,r⟩:=st
   exact ⟨h1.at λ o e=>k j (by simp) o e,oa,k a (by simp) oa ea,r⟩
 item:=λ i s Q E hi st q=>zb st.1 st.2 (x:=bg[i]) (by simp [hi]) λ h' h1 sb=>q _ h' s.toks (by simp [hi]) ⟨h1,st.2.extBut sb.extBut ne⟩ sb
 done:=λ s Q E st q=>CC hh st.1 st.2 (by simp) q
set_option maxHeartbeats 1000000 in
theorem Cu (a:Addr) (ob:Obj) (bg:Array Value) (n:Nat) (hc:ob.cls = .type "tuple") (hd:ob.data = .seq bg n) :
   Meets (Builtin.«enumerate.__new__» ⟨[.type "enumerate",.ref a],[]⟩) (λ _ R s=>s.heap.get? a=some ob/\R (.ok (.ret (.ref (s.heap.push { cls:=.type "tuple_iterator",data:=.fields #[.ref a,.int 0 0]}).objs.size)))
     { s with heap:=(s.heap.push { cls:=.type "tuple_iterator",data:=.fields #[.ref a,.int 0 0]}).push { cls:=.type "enumerate",data:=.fields #[.none,.bool false,.ref s.heap.objs.size,rawInt 0,.none,.none]}}):=by
 obtain ⟨cl,dc,dt,sl⟩:=ob
 obtain rfl:cl = .type "tuple":=hc
 obtain rfl:dt = .seq bg n:=hd
 refine .of_wp λ P w A R s q=>?_
 obtain ⟨hh,gg,dd,tt,oo⟩:=s
 obtain ⟨hl,q⟩:=q
 have Ca:=sub_enumerate
 have hT:Heap.IsTuple (Shared.heap ⟨hh,gg,dd,tt,oo⟩) a bg:=⟨_,hl,rfl,n,rfl⟩
 wp_walk using alW hl
 refine wpAny_stack_any λ st=>abN ?_
 split
 . rename_i c _ _ _ _ _
   cases (c == Value.type "enumerate")<;>(wp_walk using alW hl,wpAny_pyIter_tuple hT;exact ⟨_,rfl,q⟩)
 . wp_walk using alW hl,wpAny_pyIter_tuple hT
   exact ⟨_,rfl,q⟩
section
variable {P:Program} {w:World} {A:Around} {E:Value->Shared->Prop} {s:Shared}
theorem qP {a:Addr} {bg:Array Value} {Q:Value->Shared->Prop} (hT:s.heap.IsTuple a bg) (k:∀ h',IsEnum h' (s.heap.objs.size+1) s.heap.objs.size 0 .none->h'.IsTupleIter s.heap.objs.size a 0->(∀ b o,s.heap.get? b=some o->h'.get? b=some o)->Q (.ref (s.heap.objs.size+1)) { s with heap:=h' }) :
   wpAny (model P w) A (call (.type "enumerate") [.ref a]) Q E s:=by
 obtain ⟨ob,e,hc,n,hd⟩:=hT
 refine callType_new F.called_enumerate (by decide) (F.typeCall_enumerate_1 _) (F.newCall_enumerate_1 _) (λ obj=>F.args_object_init_2 obj _) F.entry_enumerate_new (Cu a ob bg n hc hd) ⟨e,?_⟩
 have hz:(s.heap.push { cls:=.type "tuple_iterator",data:=.fields #[.ref a,.int 0 0]}).objs.size=s.heap.objs.size+1:=alM ..
 have hn:=aep (s.heap.push { cls:=.type "tuple_iterator",data:=.fields #[.ref a,.int 0 0]}) (o:={ cls:=.type "enumerate",data:=.fields #[.none,.bool false,.ref s.heap.objs.size,rawInt 0,.none,.none]}) rfl
 rw [hz] at hn
 show _/\_
 rw [hz]
 exact ⟨⟨_,hn,rfl⟩,k _ hn ⟨_,abA _ (aep _ rfl),rfl,rfl⟩ λ b o x=>abA _ (abA _ x)⟩
end
def Df (sq:Hp->Addr->List V->Prop) (a:Addr):It :=
 ⟨λ i H=>∃ xs x,sq H a xs/\xs[i]?=some x,
  λ i H v H'=>∃ p x,H p=none/\v = .ref p/\H'=upd H p (.tup [al i,x])/\∀ xs,sq H a xs->xs[i]?=some x,
  λ i H=>∃ xs,sq H a xs/\xs.length=i⟩
def EnL (e j a:Addr) (i:Nat) (h:Heap):Prop:=(∃ old,IsEnum h e j i old)/\h.IsListIter j a i
def EnT (e j a:Addr) (i:Nat) (h:Heap):Prop:=(∃ old,IsEnum h e j i old)/\h.IsTupleIter j a i
theorem wz {P:Program} {w:World} {K:W.Frag} {e j a:Addr} (ej:e≠j) (ae:a≠e) (aj:a≠j):Turn P w K (.Tuple elts x1 nE) (Df (aR K) a) [e,j] e (EnL e j a) where
 mem:=by simp
 obj:=λ i h st c hc=>by
   obtain ⟨⟨old,h1⟩,oj,e2,_,d2⟩:=st
   simp only [aa1,aaI,afj] at hc
   rcases hc with rfl|rfl
   . exact ⟨_,h1,λ v q=>by cases q⟩
   . exact ⟨oj,e2,λ v q=>by rw [d2] at q;cases q⟩
 keep:=λ i h h' st k=>by
   obtain ⟨⟨old,h1⟩,h2⟩:=st
   exact ⟨⟨old,k e (by simp) _ h1⟩,h2.at λ o q=>k j (by simp) o q⟩
 item:=by
   intro X hP hw hK hc i pins s U H E I hf st hg
   subst hP hw hK
   obtain ⟨xs,x,hq,hx⟩:=hg
   obtain ⟨bg,rv,p,hz⟩:=I.list hq
   obtain ⟨u,hu,ru⟩:=rv.get hx
   obtain ⟨⟨old,h1⟩,h2⟩:=st
   have le:e<s.heap.objs.size:=abZ h1
   have lj:j<s.heap.objs.size:=by obtain ⟨o,q,_⟩:=h2;exact abZ q
   have hi:i<bg.toArray.size:=by
     have:=(List.getElem?_eq_some_iff.mp hu).1
     simpa using this
   refine wpAny_pyNext_enum_itemD (Draws.list (A:=X.A.in1) (I.ok.hd hc) j a aj bg.toArray) h1 ⟨h2,p.isList⟩ hi ej (by simp [ej,ae.symm]) λ v h' tk hv eo Hr ht hz' kk=>?_
   obtain rfl:v=u:=by
     have hv:bg.toArray[i]?=some v:=hv
     rw [amX,hu] at hv
     exact (abG hv).symm
   refine ⟨.ref s.heap.objs.size,rfl,amZ (s:={ s with heap:=h',toks:=tk+1 }) eo λ g he sb=>?_⟩
   have DN:∀ c o,c∉[e,j]->s.heap.get? c=some o->g.get? c=some o:=λ c o hn q=>by
     simp only [aa1,aaI,afj,akH] at hn
     exact sb.extBut _ _ hn.1 (kk c o hn.1 hn.2 q)
   have n5:=sb.extBut _ _ (ak4 le) ht
   refine ⟨.ref s.heap.objs.size,upd H s.heap.objs.size (.tup [al i,x]),I.vS (t':=tk+1) DN hf (aaU _) ⟨by show 2<=sizeLine;decide,[.int i tk,v],.cons ⟨tk,rfl⟩ (.cons ru .nil),⟨_,n5,rfl,_,rfl⟩⟩,rfl,
     ⟨_,x,I.cQ.fresh (aaU _),rfl,rfl,λ xs' h=>by rw [I.nS h hq];exact hx⟩,⟨⟨_,by simpa using he⟩,Hr.1.extBut sb.extBut ej.symm⟩,λ c uU=>?_⟩
   have lc:c<s.heap.objs.size:=by
     simp only [aa1,aaI,afj] at uU
     rcases uU with rfl|rfl
     . exact le
     . exact lj
   rw [aq (ad8 lc)]
   exact (hf c uU).1
 done:=by
   intro X hP hw hK hc i pins s U H E I hf st hg
   subst hP hw hK
   obtain ⟨xs,hq,hl⟩:=hg
   obtain ⟨bg,rv,p,hz⟩:=I.list hq
   obtain ⟨⟨old,h1⟩,h2⟩:=st
   have hn:i=bg.toArray.size:=by rw [abY,← rv.length];exact hl.symm
   subst hn
   refine wpAny_pyNext_enum_endD (Draws.list (A:=X.A.in1) (I.ok.hd hc) j a aj bg.toArray) h1 ⟨h2,p.isList⟩ λ h' eb=>⟨rfl,I.vB (ch:=[e,j]) (t':=s.toks) (λ c o hn q=>?_) hf⟩
   simp only [aa1,aaI,afj,akH] at hn
   exact eb c o hn.2 q
 self:=λ _ _ _ _ _ st h=>by
   obtain ⟨⟨old,h1⟩,_⟩:=st
   exact ak1 h1 h
theorem wI {P:Program} {w:World} {K:W.Frag} {e j a:Addr} (ej:e≠j) (ae:a≠e) (aj:a≠j):Turn P w K (.Tuple elts x1 nE) (Df (bO K) a) [e,j] e (EnT e j a) where
 mem:=by simp
 obj:=λ i h st c hc=>by
   obtain ⟨⟨old,h1⟩,oj,e2,_,d2⟩:=st
   simp only [aa1,aaI,afj] at hc
   rcases hc with rfl|rfl
   . exact ⟨_,h1,λ v q=>by cases q⟩
   . exact ⟨oj,e2,λ v q=>by rw [d2] at q;cases q⟩
 keep:=λ i h h' st k=>by
   obtain ⟨⟨old,h1⟩,h2⟩:=st
   exact ⟨⟨old,k e (by simp) _ h1⟩,h2.at λ o q=>k j (by simp) o q⟩
 item:=by
   intro X hP hw hK hc i pins s U H E I hf st hg
   subst hP hw hK
   obtain ⟨xs,x,hq,hx⟩:=hg
   obtain ⟨bg,rv,p,hz⟩:=I.tuple hq
   obtain ⟨u,hu,ru⟩:=rv.get hx
   obtain ⟨⟨old,h1⟩,h2⟩:=st
   have le:e<s.heap.objs.size:=abZ h1
   have lj:j<s.heap.objs.size:=by obtain ⟨o,q,_⟩:=h2;exact abZ q
   have hi:i<bg.toArray.size:=by
     have:=(List.getElem?_eq_some_iff.mp hu).1
     simpa using this
   refine wpAny_pyNext_enum_itemD (DE (A:=X.A.in1) (I.ok.hd hc) j a aj bg.toArray) h1 ⟨h2,p⟩ hi ej (by simp [ej,ae.symm]) λ v h' tk hv eo Hr ht hz' kk=>?_
   obtain rfl:v=u:=by
     have hv:bg.toArray[i]?=some v:=hv
     rw [amX,hu] at hv
     exact (abG hv).symm
   refine ⟨.ref s.heap.objs.size,rfl,amZ (s:={ s with heap:=h',toks:=tk+1 }) eo λ g he sb=>?_⟩
   have DN:∀ c o,c∉[e,j]->s.heap.get? c=some o->g.get? c=some o:=λ c o hn q=>by
     simp only [aa1,aaI,afj,akH] at hn
     exact sb.extBut _ _ hn.1 (kk c o hn.1 hn.2 q)
   have n5:=sb.extBut _ _ (ak4 le) ht
   refine ⟨.ref s.heap.objs.size,upd H s.heap.objs.size (.tup [al i,x]),I.vS (t':=tk+1) DN hf (aaU _) ⟨by show 2<=sizeLine;decide,[.int i tk,v],.cons ⟨tk,rfl⟩ (.cons ru .nil),⟨_,n5,rfl,_,rfl⟩⟩,rfl,
     ⟨_,x,I.cQ.fresh (aaU _),rfl,rfl,λ xs' h=>by rw [I.CM h hq];exact hx⟩,⟨⟨_,by simpa using he⟩,Hr.1.extBut sb.extBut ej.symm⟩,λ c uU=>?_⟩
   have lc:c<s.heap.objs.size:=by
     simp only [aa1,aaI,afj] at uU
     rcases uU with rfl|rfl
     . exact le
     . exact lj
   rw [aq (ad8 lc)]
   exact (hf c uU).1
 done:=by
   intro X hP hw hK hc i pins s U H E I hf st hg
   subst hP hw hK
   obtain ⟨xs,hq,hl⟩:=hg
   obtain ⟨bg,rv,p,hz⟩:=I.tuple hq
   obtain ⟨⟨old,h1⟩,h2⟩:=st
   have hn:i=bg.toArray.size:=by rw [abY,← rv.length];exact hl.symm
   subst hn
   refine wpAny_pyNext_enum_endD (DE (A:=X.A.in1) (I.ok.hd hc) j a aj bg.toArray) h1 ⟨h2,p⟩ λ h' eb=>⟨rfl,I.vB (ch:=[e,j]) (t':=s.toks) (λ c o hn q=>?_) hf⟩
   simp only [aa1,aaI,afj,akH] at hn
   exact eb c o hn.2 q
 self:=λ _ _ _ _ _ st h=>by
   obtain ⟨⟨old,h1⟩,_⟩:=st
   exact ak1 h1 h
section
variable {X:Cx}
def acM (K:W.Frag) (ta:TA):TI:=λ U H R=>ta U H λ vs H1=>∃ a,vs=[.ref a]/\(∃ xs,aR K H1 a xs)/\R (Df (aR K) a) H1
def acD (K:W.Frag) (ta:TA):TI:=λ U H R=>ta U H λ vs H1=>∃ a,vs=[.ref a]/\(∃ xs,bO K H1 a xs)/\R (Df (bO K) a) H1
theorem LH:("enumerate" : Str) ≠ "__name__":=by decide +kernel
theorem KR:(("enumerate" : Str) == ("__debug__" : Str))=false:=by decide +kernel
theorem oS {a:Expr} {p pos:Pos} (hg:Gl X "enumerate") (hm:X.mg "enumerate" = none) (ha:PA X [a] ta) (hs:starEach [a] X.env=[(false,eval a X.env)]:=by rfl) :
   PI X (.Tuple elts x1 nE) (.Call (.Name "enumerate" p) [a] [] pos) (acM X.K ta):=by
 intro pins s U H R I h
 refine Call_ ?_
 refine i3 I hg hm jt ?_ LH KR
 refine agB ?_ hs rfl
 refine cD (ha pos pins s U H _ I h) λ us s1 ⟨vs,H1,I1,r1,q1⟩=>?_
 obtain ⟨a,e,⟨xs,hq⟩,q⟩:=q1
 subst e
 cases r1 with
 | cons r rr =>
   cases rr
   obtain rfl:_=Value.ref a:=r
   obtain ⟨bg,rv,p1,L5⟩:=I1.list hq
   have la:a<s1.heap.objs.size:=by obtain ⟨_,e,_⟩:=p1.isList;exact abZ e
   refine call_enumerate_list p1.isList λ h' z1 z2 z3 kk=>ak1 z1 ?_
   refine ⟨s1.heap.objs.size+1,[s1.heap.objs.size+1,s1.heap.objs.size],_,_,H1,rfl,I1.kept (t':=s1.toks) kk,wz (alF _) (ad8 (alz la)) (ad8 la),⟨⟨_,z1⟩,z2⟩,λ c hc=>?_,q⟩
   have hle:s1.heap.objs.size<=c:=by
     simp only [aa1,aaI,afj] at hc
     rcases hc with rfl|rfl
     . exact ak2 _
     . exact aaU _
   exact I1.yh hle (I1.cQ.fresh hle)
theorem Ks {a:Expr} {p pos:Pos} (hg:Gl X "enumerate") (hm:X.mg "enumerate" = none) (ha:PA X [a] ta) (hs:starEach [a] X.env=[(false,eval a X.env)]:=by rfl) :
   PI X (.Tuple elts x1 nE) (.Call (.Name "enumerate" p) [a] [] pos) (acD X.K ta):=by
 intro pins s U H R I h
 refine Call_ ?_
 refine i3 I hg hm jt ?_ LH KR
 refine agB ?_ hs rfl
 refine cD (ha pos pins s U H _ I h) λ us s1 ⟨vs,H1,I1,r1,q1⟩=>?_
 obtain ⟨a,e,⟨xs,hq⟩,q⟩:=q1
 subst e
 cases r1 with
 | cons r rr =>
   cases rr
   obtain rfl:_=Value.ref a:=r
   obtain ⟨bg,rv,p1,L5⟩:=I1.tuple hq
   have la:a<s1.heap.objs.size:=p1.lt
   refine qP p1 λ h' z1 z2 kk=>ak1 z1 ?_
   refine ⟨s1.heap.objs.size+1,[s1.heap.objs.size+1,s1.heap.objs.size],_,_,H1,rfl,I1.kept (t':=s1.toks) kk,wI (alF _) (ad8 (alz la)) (ad8 la),⟨⟨_,z1⟩,z2⟩,λ c hc=>?_,q⟩
   have hle:s1.heap.objs.size<=c:=by
     simp only [aa1,aaI,afj] at hc
     rcases hc with rfl|rfl
     . exact ak2 _
     . exact aaU _
   exact I1.yh hle (I1.cQ.fresh hle)
end
theorem jD {sq:Hp->Addr->List V->Prop} {a:Addr} {xs:List V} {g:TG} {tt:TT} {te:TE} {D:Addr} {Q:Hp->Prop} {U:St} (Pv:Nat->List V->St->Hp->Prop) (h0:Pv 0 [] U H) (hl:∀ i acc U H,i<=xs.length->Pv i acc U H->sq H a xs) (hs:∀ i x p acc U H,xs[i]?=some x->H p=none->Pv i acc U H->g (.ref p) U (upd H p (.tup [al i,x])) λ σ2 H3=>tt σ2 H3 λ k H4 =>
     if k=true then te σ2 H4 λ v H5=>H5 D=some (.lst acc)/\acc.length<sizeLine/\Pv (i+1) (acc++[v]) σ2 (upd H5 D (.lst (acc++[v]))) else Pv (i+1) acc σ2 H4) (hd:∀ acc U H,Pv xs.length acc U H->Q H) :
   ∃ W:Nat->Nat->List V->St->Hp->Prop,(∃ m,W 0 m [] U H)/\∀ i m acc σ' H',W i m acc σ' H'->((Df sq a).stop i H'/\Q H') ∨
     ((Df sq a).go i H'/\∃ N:List V->St->Hp->Prop,(∀ f9 σ2 H4,N f9 σ2 H4->∃ m',m'<m/\W (i+1) m' f9 σ2 H4)/\∀ x H2,(Df sq a).Ge i H' x H2->g x σ' H2 λ σ2 H3=>tt σ2 H3 λ k H4 =>
       if k=true then te σ2 H4 λ y H5=>H5 D=some (.lst acc)/\acc.length<sizeLine/\N (acc++[y]) σ2 (upd H5 D (.lst (acc++[y]))) else N acc σ2 H4):=by
 refine ⟨λ i m acc U H=>m=xs.length - i/\i<=xs.length/\Pv i acc U H,⟨_,rfl,aeU _,h0⟩,?_⟩
 rintro i m acc U H ⟨rfl,hi,p⟩
 have q:=hl i acc U H hi p
 by_cases l5:i<xs.length
 . refine .inr ⟨⟨xs,xs[i],q,by simp [l5]⟩,Pv (i+1),λ f9 σ' H' p'=>⟨xs.length - (i+1),by lia,rfl,l5,p'⟩,λ v H' y=>?_⟩
   obtain ⟨pp,x,hn,rfl,rfl,e1⟩:=y
   exact hs i x pp acc U H (e1 xs q) hn p
 . have e:i=xs.length:=by lia
   subst e
   exact .inl ⟨⟨xs,q,rfl⟩,hd acc U H p⟩
end L2
namespace Tx
open PySem PySem.Builtin PySem.Builtin.Str
theorem len (a:Str):a.cps.toList.length=a.length:=alm
def sl:Str:=⟨#[47]⟩
theorem cases (x:Str):47∉x.cps.toList∨∃ a b:Str,47∉a.cps.toList/\x.cps.toList=a.cps.toList++47::b.cps.toList:=by
 by_cases h:47∈x.cps.toList
 . obtain ⟨as,bs,e,n⟩:=List.eq_append_cons_of_mem h
   exact .inr ⟨⟨as.toArray⟩,⟨bs.toArray⟩,by simpa using n,by simpa using e⟩
 . exact .inl h
def strN (n:Nat):Str:=Str.ofString (toString ((n:Nat):Int))
def Good (z:Str):Prop:=1<=z.length/\z.length<=30/\NumText.AllDigits z.cps.toList/\¬ (z.cps.toList.head?=some 48/\1<z.length)
def valOf (z:Str):Int:=((NumText.digitsVal z.cps.toList:Nat):Int)
def mi:Str:=⟨#[45]⟩
def FG (z:Str):Bool:=decide (z.cps.toList.head?=some 45)
def bodyOf (z:Str):Str:=if FG z=true then Txt.slice z (some 1) none else z
def aeK (z:Str):Int:=if FG z=true then -1 else 1
def Rd (z:Str) (f:Int×Int):Prop :=
 Good (Txt.partition (bodyOf z) sl).1/\(FG z=true->valOf (Txt.partition (bodyOf z) sl).1≠0)/\f.1=aeK z * valOf (Txt.partition (bodyOf z) sl).1 /\
 (((Txt.partition (bodyOf z) sl).2.1=sl/\Good (Txt.partition (bodyOf z) sl).2.2/\2<=valOf (Txt.partition (bodyOf z) sl).2.2 /\
     Int.gcd (valOf (Txt.partition (bodyOf z) sl).1) (valOf (Txt.partition (bodyOf z) sl).2.2)=1/\f.2=valOf (Txt.partition (bodyOf z) sl).2.2) ∨
   ((Txt.partition (bodyOf z) sl).2.1≠sl/\f.2=1))
def OH (t:Int):Str:=if t<0 then mi++strN t.natAbs else strN t.natAbs
def anZ (t b:Int):Str:=if b=1 then OH t else OH t++sl++strN b.natAbs
end Tx
namespace L2
open PySem PySem.Spec PyProof.Rows Mth
open PySem.Builtin PySem.Builtin.ObjectAttr
end L2
namespace Ord
open Bit
theorem Bl:∀ W,W<16->parts (rooms W)=(List.range 16).filter (λ o=>decide (o &&& W=o)):=by decide +kernel
structure Jz (n:Nat) (has:Nat->Bool) (wd:Nat->Int) (wt:Nat->Bool) (b:Nat) (most heap:Int) (o:Nat):Prop where
 has:∀ r∈rooms o,r<n/\has r=true
 dI:∀ r,r<n->wt r=true->o.testBit r=b.testBit r
 most:((rooms o).length:Int)<=most
 kh:((rooms o).map wd).sum<=heap
def setOf (n:Nat) (p:Nat->Bool):Nat:=sumOf ((List.range n).filter p)
theorem ig (n:Nat) (p:Nat->Bool) (k:Nat):(setOf n p).testBit k=(decide (k<n) && p k):=by
 unfold setOf
 rw [lD]
 by_cases h:k<n<;>cases e:p k<;>simp [h,e]
theorem zD (n:Nat) (p:Nat->Bool):setOf n p<2 ^ n:=Ft λ r hr=>List.mem_range.mp (List.mem_filter.mp hr).1
theorem CF {n:Nat} (p:Nat->Bool) (hn:n<=61):rooms (setOf n p)=(List.range n).filter p :=
 wu (λ r hr=>by have:=List.mem_range.mp (List.mem_filter.mp hr).1;lia) ((amP).filter _)
theorem Hu {o k:Nat} (h:o<16) (hk:4<=k):o.testBit k=false:=ip (m:=4) h hk
structure Mm (n:Nat) (has:Nat->Bool) (wd:Nat->Int) (wt:Nat->Bool) (b:Nat) (most heap:Int) (o:Nat):Prop where
 dI:o &&& setOf n wt=b &&& setOf n wt
 most:((rooms o).length:Int)<=most
 kh:((rooms (o &&& setOf n has)).map wd).sum<=heap
section
variable {n:Nat} {has:Nat->Bool} {wd:Nat->Int} {wt:Nat->Bool} {b:Nat} {most heap:Int} {o:Nat}
theorem Ar (ho:o<2 ^ 61):o &&& setOf n has=o↔∀ r∈rooms o,r<n/\has r=true:=by
 constructor
 .
  intro e r hr
  have h2:=(fO.mp hr).2
  rw [← e,ah6,ig] at h2
  simp only [aga,ajC] at h2
  exact h2.2
 .
  intro h
  refine alg λ k=>?_
  rw [ah6,ig]
  by_cases hk:k<61
  .
   cases e:o.testBit k with
   | false=>rfl
   | true =>
     obtain ⟨h1,h2⟩:=h k (fO.mpr ⟨hk,e⟩)
     rw [adD h1,h2];rfl
  . rw [ip ho (by lia)];rfl
theorem yg:o &&& setOf n wt=b &&& setOf n wt↔∀ r,r<n->wt r=true->o.testBit r=b.testBit r:=by
 constructor
 .
  intro e r hr hw
  have h:=ahP (λ x=>Nat.testBit x r) e
  simp only [ah6,ig,adD hr,hw,Bool.and_true] at h
  exact h
 .
  intro h
  refine alg λ k=>?_
  rw [ah6,ah6,ig]
  by_cases hk:k<n
  . cases e:wt k with
    | false=>simp
    | true=>rw [h k hk e]
  . rw [ac7 hk];simp
theorem Fk (ho:o<2 ^ 61):Jz n has wd wt b most heap o↔(o &&& setOf n has=o/\Mm n has wd wt b most heap o):=by
 constructor
 . rintro ⟨h1,h2,h3,h4⟩
   have e:=(Ar ho).mpr h1
   exact ⟨e,⟨yg.mpr h2,h3,by rw [e];exact h4⟩⟩
 . rintro ⟨e,h2,h3,h4⟩
   rw [e] at h4
   exact ⟨(Ar ho).mp e,yg.mp h2,h3,h4⟩
end
end Ord
namespace L2
open PySem PySem.Spec PyProof.Rows Mth
variable {H:Hp} {l:List Nat}
section
variable {prog:Program} {w:World} {A:Around} {E:Value->Shared->Prop} {s:Shared}
theorem Ef {b n:Nat} (hb:b<=n):Builtin.Slice.sliceAdjust none (some (b:Int)) 1 (n:Int)=(0,(b:Int)):=by
 unfold Builtin.Slice.sliceAdjust
 simp only [show ¬ ((1:Int)<0) by lia,show ¬ ((b:Int)<0) by lia,alc]
 congr 1;lia
theorem FJ (b:Nat):Builtin.Slice.slicePlaces 0 (b:Int) 1=b:=by
 unfold Builtin.Slice.slicePlaces
 simp only [show (1:Int) > 0 by lia,alf,Int.ediv_one]
 split<;>lia
theorem Dv {sl:Addr} {b n:Nat} {u:Tok} {Q:Int×Int×Nat->Shared->Prop} (hs:s.heap.IsSliceOf sl .none (.int b u) .none) (hb:b<=n) (h:Q (0,1,b) s) :
   wpAny (model prog w) A (Builtin.Slice.sliceApplied (.ref sl) (pure (n:Int))) Q E s:=by
 obtain ⟨os,Q4,hcs,UU⟩:=id hs
 unfold Builtin.Slice.sliceApplied;unfold Builtin.Slice.sliceFields
 refine P5 (P5 (akf Q4 UU (x:=.none) rfl (P5 (akf Q4 UU (x:=.int b u) rfl (P5 (akf Q4 UU (x:=.none) rfl (abN (P5 (slicePart_none ?_)))))))))
 show wpAny _ _ (if ((1:Int) == 0)=true then _ else _) _ _ s
 rw [ac9 (show ¬ (((1:Int) == 0)=true) by decide)]
 refine P5 (slicePart_none (P5 (slicePart_int (P5 (abN ?_)))))
 show wpAny _ _ (match Builtin.Slice.sliceAdjust none (some (b:Int)) 1 (n:Int) with|(lo,hi)=>pure (lo,(1:Int),Builtin.Slice.slicePlaces lo hi 1)) _ _ s
 rw [Ef hb]
 show wpAny _ _ (pure ((0:Int),(1:Int),Builtin.Slice.slicePlaces 0 (b:Int) 1)) _ _ s
 rw [FJ]
 exact abN h
theorem Cq (xs:Array Value) (b:Nat) (hb:b<=xs.size):((List.range b).filterMap λ (k:Nat)=>xs[((0:Int)+(k:Int) * 1).toNat]?).toArray=(xs.toList.take b).toArray:=by
 have e:(λ (k:Nat)=>xs[((0:Int)+(k:Int) * 1).toNat]?)=λ k=>xs[0+k]?:=by
   funext k
   rw [show ((0:Int)+(k:Int) * 1).toNat=0+k by lia]
 have q:=pick_run xs 0 b
 rw [List.filterMap_map] at q
 rw [e]
 refine ahP List.toArray (Eq.trans ?_ (q.trans (by rw [List.drop_zero])))
 rfl
theorem BD {t sl:Addr} {items:Array Value} {b:Nat} {u:Tok} {Q:Value->Shared->Prop} (ht:IsTup s.heap t items) (hs:s.heap.IsSliceOf sl .none (.int b u) .none) (hb:b<items.size) (h:Q (.ref s.heap.objs.size) { s with heap:=s.heap.push { cls:=.type "tuple",data:=.seq (items.toList.take b).toArray }}) (hsz:items.size<=sizeLine):wpAny (model prog w) A (getItem (.ref t) (.ref sl)) Q E s:=by
 have fits:sizeOk (.seq (items.toList.take b).toArray):=by
   show (items.toList.take b).toArray.size<=sizeLine
   rw [abY,adS,alm];lia
 obtain ⟨os,Q4,hcs,UU⟩:=id hs
 have tys:s.TypeIs (.ref sl) "slice":=⟨os,Q4,hcs⟩
 unfold getItem;try with_reducible refine akI ?_
 first|refine P5 (abN ?_)|skip
 refine P5 (wpAny_sequenceKey ht.typeIs (by decide) (P5 (akT (name:=Str.ofString "__getitem__") ht.typeIs slot_tuple_getitem (aln slot_tuple_getitem ht.typeIs entry_tuple_getitem ?_ (args_tuple_getitem _ _)))))
 show wpAny _ _ (Builtin.Tuple.tupleItemsOf (.ref t) >>= _) _ _ s
 refine P5 (tupleItemsOf_ ht (P5 (amA tys ?_)))
 rw [ady (by decide)]
 refine P5 (Dv hs (akV hb) ?_)
 have ML:¬ (((0:Int) == 0 && (1:Int) == 1 && b == items.size)=true):=by
   rw [show (b == items.size)=false by rw [beq_eq_false_iff_ne];lia];simp
 show wpAny _ _ (if ((0:Int) == 0 && (1:Int) == 1 && b == items.size)=true then _ else _) _ _ s
 rw [ac9 ML,Cq items b (akV hb)]
 first
   | exact P5 (m:=Builtin.Tuple.tupleExact _) (akQ (abN ⟨_,rfl,abN h⟩) fits)
   | exact P5 (m:=Builtin.Tuple.tupleExact _) (akQ (P5 (abN (abN ⟨_,rfl,abN h⟩))) fits)
   | exact P5 (P5 (m:=Builtin.Tuple.tupleExact _) (akQ (abN (abN ⟨_,rfl,abN h⟩)) fits))
   | exact P5 (P5 (m:=Builtin.Tuple.tupleExact _) (akQ (abN ⟨_,rfl,abN h⟩) fits))
end
section
variable {X:Cx}
inductive Yq (K:W.Frag) (x:V) (lo:Option Int) (hi:Option Int) (H:Hp) (Q:VK):Prop
 | mk (a xs:_) (i:Nat) (_:x = .ref a) (_:bO K H a xs) (_:lo=some (i:Int)) (_:hi=none) (_:1<=i) (_:i<=xs.length) (_:∀ p,H p=none->Q (.ref p) (upd H p (.tup (xs.drop i))))
theorem Bq:Ue X (Yq X.K):=by
 intro pins s U H x v vl vu lo hi sl Q I rx hs pl pu h
 obtain ⟨a,xs,i,rfl,hx,rfl,rfl,i1,i2,q⟩:=h
 cases rx
 cases pu
 cases pl
 obtain ⟨bg,r,ht,hz⟩:=I.tuple hx
 have hlen:=r.length
 refine ⟨"tuple",_,slot_tuple_getitem.lookup,ht.typeIs,getItem_tuple_from ht hs i1 (by rw [abY];lia) ?_ (by rw [abY];lia)⟩
 refine ⟨.ref s.heap.objs.size,_,I.laid (t':=s.toks) (o:=.tup (xs.drop i)) (λ b ob q=>abA _ q) (aaU _) ?_,rfl,q _ (I.cQ.fresh (aaU _))⟩
 refine ⟨by rw [List.length_drop];lia,bg.drop i,r.drop i,⟨_,aep _ rfl,rfl,_,rfl⟩⟩
inductive YQ (K:W.Frag) (x:V) (lo:Option Int) (hi:Option Int) (H:Hp) (Q:VK):Prop
 | mk (a xs:_) (j:Nat) (_:x = .ref a) (_:bO K H a xs) (_:lo=none) (_:hi=some (j:Int)) (_:j<xs.length) (_:∀ p,H p=none->Q (.ref p) (upd H p (.tup (xs.take j))))
theorem AW:Ue X (YQ X.K):=by
 intro pins s U H x v vl vu lo hi sl Q I rx hs pl pu h
 obtain ⟨a,xs,j,rfl,hx,rfl,rfl,j1,q⟩:=h
 cases rx
 cases pu
 cases pl
 obtain ⟨bg,r,ht,hz⟩:=I.tuple hx
 have hlen:=r.length
 refine ⟨"tuple",_,slot_tuple_getitem.lookup,ht.typeIs,BD ht hs (by rw [abY];lia) ?_ (by rw [abY];lia)⟩
 refine ⟨.ref s.heap.objs.size,_,I.laid (t':=s.toks) (o:=.tup (xs.take j)) (λ b ob q=>abA _ q) (aaU _) ?_,rfl,q _ (I.cQ.fresh (aaU _))⟩
 refine ⟨by rw [adS];lia,bg.take j,r.take j,⟨_,aep _ rfl,rfl,_,rfl⟩⟩
end
structure bZ where
 dW:List Nat
 bW:Nat
 gi:List Nat
 failed:List Nat
 heap:Nat
def g7 (K:W.Frag) (H:Hp) (p:Addr) (s:bZ):Prop :=
 ∃ pb pw pf,bO K H p [.ref pb,al s.bW,.ref pw,.ref pf,al s.heap]/\bO K H pb (s.dW.map al)/\bO K H pw (s.gi.map al)/\bO K H pf (s.failed.map al)
theorem g7.same {K:W.Frag} {H':Hp} {p:Addr} {s:bZ} (h:g7 K H p s) (q:aC H H'):g7 K H' p s:=by
 obtain ⟨pb,pw,pf,a,b,c,d⟩:=h
 exact ⟨pb,pw,pf,q.tup a,q.tup b,q.tup c,q.tup d⟩
abbrev Stv:=bR×Int×Int×Int
def ao.mv (m:ao) (i:Nat):Option Stv:=(m.aV[i]?).getD none
def ao.has (m:ao) (i:Nat):Bool:=(m.mv i).isSome
def ao.wd (m:ao) (i:Nat):Int:=((m.mv i).map λ z=>z.2.1).getD 0
def ao.dI (m:ao) (i:Nat):Int:=((m.mv i).map λ z=>z.2.2.1).getD 0
def ao.fails (m:ao) (i:Nat):Int:=((m.mv i).map λ z=>z.2.2.2).getD 0
theorem kR {m:ao} {i:Nat} (h:i<m.aV.length):m.aV[i]?=some (m.mv i):=by
 unfold ao.mv
 rw [aE h];rfl
def Bk:Option Stv->Bool->Nat->Nat->Prop
 | none,f,w,b=>f=false/\w=0/\b=0
 | some z,f,w,b=>(w:Int)<=z.2.2.1/\(b:Int)<=z.2.2.2/\(b=0∨(f=false/\w=0))
def gN (l:List Nat) (i:Nat):Nat:=(l[i]?).getD 0
theorem LG {i:Nat} (h:i<l.length):l[i]?=some (gN l i):=by
 unfold gN
 rw [aE h];rfl
theorem sI {i:Nat} (h:i<l.length):ud (l.map al) (i:Int)=some (al (gN l i)):=bF (by rw [aat,LG h];rfl)
structure eP (m:ao) (s:bZ):Prop where
 lb:s.dW.length=m.rows.length
 lw:s.gi.length=m.rows.length
 lf:s.failed.length=m.rows.length
 bW:s.bW<2 ^ m.rows.length
 most:((Bit.rooms s.bW).length:Int)<=m.most
 heap:(s.heap:Int)<=m.d8
 band:∀ i,i<m.rows.length->gN s.dW i+1<(m.rows.getD i []).length
 cp:∀ i,i<m.rows.length->Bk (m.mv i) (s.bW.testBit i) (gN s.gi i) (gN s.failed i)
def ao.ws (m:ao):Nat:=Ord.setOf m.rows.length m.has
def bZ.wt (s:bZ) (i:Nat):Bool:=decide (0<gN s.gi i)
def bZ.held (s:bZ):Nat:=Ord.setOf s.gi.length s.wt
def ao.kh (m:ao) (b:Nat):Int:=((Bit.rooms (b &&& m.ws)).map m.wd).sum
def ao.Gg (m:ao) (o:Nat) (heap:Int):Bool:=decide (((Bit.rooms o).length:Int)<=m.most) && decide (m.kh o<=heap)
def bZ.Dg (m:ao) (s:bZ) (o:Nat):Bool:=decide (o &&& s.held=s.bW &&& s.held) && m.Gg o s.heap
def bZ.orders (m:ao) (s:bZ):List Nat:=(Bit.parts (Bit.rooms m.ws)).filter (s.Dg m)
theorem qY {m:ao} (h:m.rows.length<=4):m.ws<16:=acK (Ord.zD _ _) (ahb (by decide) h:2 ^ m.rows.length<=2 ^ 4)
section
variable (K:W.Frag) (C:Addr)
inductive yd  (vs:List V) (H:Hp) (Q:VK) (_E:XK):Prop
 | mk (n:Nat) (_:vs=[al n]) (_:n<2 ^ 61) (_:∀ H',aC H H'->Q (al (Bit.rooms n).length) H')
inductive CJ  (vs:List V) (H:Hp) (Q:VK) (_E:XK):Prop
 | mk (p l:_) (_:vs=[.ref p]) (_:aR K H p (l.map al)) (_:(∀ r∈l,r<=1000)) (_:Q (al (Bit.sumOf l)) H)
inductive tj  (vs:List V) (H:Hp) (Q:VK) (_E:XK):Prop
 | mk (v z f w b:_) (_:vs=[v,.bl f,al w,al b]) (_:Dn K H (gX z) v) (_:Bk z f w b) (_:∀ H',aC H H'->Q (.bl true) H')
inductive uD  (vs:List V) (H:Hp) (Q:VK) (_E:XK):Prop
 | mk (a fp m p s:_) (i:Nat) (_:vs=[.ref a,.ref p,al i]) (_:aL K C H a fp m) (_:g7 K H p s) (_:eP m s) (_:i<m.rows.length) (_:∀ H',aC H H'->Q (.bl true) H')
inductive xz  (vs:List V) (H:Hp) (Q:VK) (_E:XK):Prop
 | mk (a fp m p s:_) (_:vs=[.ref a,.ref p]) (_:aL K C H a fp m) (_:g7 K H p s) (_:eP m s) (_:∀ H',aC H H'->Q (.bl true) H')
inductive tz  (vs:List V) (H:Hp) (Q:VK) (_E:XK):Prop
 | mk (a fp m p s:_) (_:vs=[.ref a,.ref p]) (_:aL K C H a fp m) (_:g7 K H p s) (_:eP m s) (_:∀ H',aC H H'->Q .cf H')
inductive sP  (vs:List V) (H:Hp) (Q:VK) (_E:XK):Prop
 | mk (a fp m:_) (_:vs=[.ref a]) (_:aL K C H a fp m) (_:∀ H',aC H H'->Q (al m.ws) H')
inductive zL  (vs:List V) (H:Hp) (Q:VK) (_E:XK):Prop
 | mk (a fp m:_) (b:Nat) (_:vs=[.ref a,al b]) (_:aL K C H a fp m) (_:∀ H',aC H H'->Q (.int (m.kh b)) H')
inductive uB  (vs:List V) (H:Hp) (Q:VK) (_E:XK):Prop
 | mk (p s:_) (_:vs=[.ref p]) (_:g7 K H p s) (_:s.gi.length<=4) (_:∀ H',aC H H'->Q (al s.held) H')
inductive yy  (vs:List V) (H:Hp) (Q:VK) (_E:XK):Prop
 | mk (a fp m:_) (o:Nat) (hp:Int) (_:vs=[.ref a,al o,.int hp]) (_:aL K C H a fp m) (_:o<2 ^ 61) (_:∀ H',aC H H'->Q (.bl (m.Gg o hp)) H')
inductive uJ  (vs:List V) (H:Hp) (Q:VK) (_E:XK):Prop
 | mk (a fp m p s:_) (_:vs=[.ref a,.ref p]) (_:aL K C H a fp m) (_:g7 K H p s) (_:eP m s) (_:∀ q H',H q=none->aC H H'->H' q=some (.lst ((s.orders m).map al))->Q (.ref q) H')
end
theorem Dn.cp {K:W.Frag} {v:V} {z:Stv} (h:Dn K H (gX (some z)) v):∃ p v1,v = .ref p/\bO K H p [v1,.int z.2.1,.int z.2.2.1,.int z.2.2.2]/\Dn K H (dS z.1) v1:=by
 obtain ⟨p,xs,rfl,hp,t1,r1,rfl,e1,t2,r2,rfl,e2,t3,r3,rfl,e3,t4,r4,rfl,e4,e5⟩:=h
 have e5:r4=[]:=e5
 have e2:t2 = .int z.2.1:=e2
 have e3:t3 = .int z.2.2.1:=e3
 have e4:t4 = .int z.2.2.2:=e4
 subst e2 e3 e4 e5
 exact ⟨p,t1,rfl,hp,e1⟩
theorem zc {x j:Nat} (h:j<l.length):gN (l++[x]) j=gN l j:=by
 unfold gN
 rw [abM h]
theorem Me {x:Nat}:gN (l++[x]) l.length=x:=by
 unfold gN
 rw [afw (aaU _),Nat.sub_self];rfl
end L2
namespace Ord
open Bit
theorem QL:∀ x,x<16->∀ y,y<16->x - (x &&& y)=x ^^^ (x &&& y):=by decide +kernel
def off (x y:Nat):Nat:=x - (x &&& y)
theorem uV {x y:Nat} (hx:x<16) (hy:y<16) (k:Nat):(off x y).testBit k=(x.testBit k && !y.testBit k):=by
 unfold off
 rw [QL x hx y hy,Nat.testBit_xor,ah6]
 cases x.testBit k<;>cases y.testBit k<;>rfl
theorem Lf {x y n:Nat} (hx:x<2 ^ n):off x y<2 ^ n:=ab2 (Nat.sub_le _ _) hx
theorem Jo {n x:Nat} (hn:n<=4) (h:x<2 ^ n):x<16:=acK h (ahb (by decide) hn:2 ^ n<=2 ^ 4)
theorem less {wd:Nat->Int} (h0:∀ r,0<=wd r) {p q:Nat->Bool} (h:∀ x,p x=true->q x=true):∀ l:List Nat,(l.filter p).length<=(l.filter q).length/\((l.filter p).map wd).sum<=((l.filter q).map wd).sum
 | []=>⟨aaU _,akb _⟩
 | x::l=>by
   obtain ⟨a,b⟩:=less h0 h l
   have:=h0 x
   by_cases hp:p x=true
   . rw [alC hp,alC (h x hp)]
     simp only [aeR,ael,List.sum_cons]
     lia
   .
    by_cases hq:q x=true
    . rw [alD hp,alC hq]
      simp only [aeR,ael,List.sum_cons]
      lia
    . rw [alD hp,alD hq]
      exact ⟨a,b⟩
theorem zM {wd:Nat->Int} (h0:∀ r,0<=wd r) {a b:Nat} (h:∀ x,a.testBit x=true->b.testBit x=true):(rooms a).length<=(rooms b).length/\((rooms a).map wd).sum<=((rooms b).map wd).sum:=less h0 h _
structure Hd where
 n:Nat
 has:Nat->Bool
 wd:Nat->Int
 wt:Nat->Bool
 b:Nat
 most:Int
 heap:Int
def Hd.ws (h:Hd):Nat:=setOf h.n h.has
def Hd.held (h:Hd):Nat:=setOf h.n h.wt
def Hd.kh (h:Hd) (o:Nat):Int:=((rooms (o &&& h.ws)).map h.wd).sum
def Hd.Gg (h:Hd) (o:Nat):Bool:=decide (((rooms o).length:Int)<=h.most) && decide (h.kh o<=h.heap)
def Hd.step (h:Hd) (o r:Nat):Nat:=if h.Gg (o ||| 2 ^ r) then o ||| 2 ^ r else o
def Hd.first (h:Hd):Nat:=h.b &&& h.held
def Hd.go (h:Hd) (mI:Nat):Nat:=(rooms (off (mI &&& h.ws) h.held)).foldl h.step h.first
def Hd.may (h:Hd) (mI r:Nat):Bool:=mI.testBit r && h.has r && !h.wt r
structure Hd.Ok (h:Hd):Prop where
 n4:h.n<=4
 bW:h.b<2 ^ h.n
 sub:∀ r,h.b.testBit r=true->h.has r=true
 most:((rooms h.b).length:Int)<=h.most
 wd0:∀ r,0<=h.wd r
section
variable {h:Hd} {mI i r o:Nat}
structure Hd.In (h:Hd) (i o:Nat):Prop where
 sub:∀ r,o.testBit r=true->r<h.n/\h.has r=true
 held:∀ r,r<h.n->h.wt r=true->o.testBit r=h.b.testBit r
 ans:∀ r,i<=r->h.wt r=false->o.testBit r=false
def Hd.Law (h:Hd) (o:Nat):Prop:=Jz h.n h.has h.wd h.wt h.b h.most h.heap o
end
end Ord
namespace L2
open PySem PySem.Spec PyProof.Rows Mth
variable {C:Addr} {H:Hp} {Gh a2 a3 a4 a5 a6 a7 a8 a9:TS} {fp:List Addr}
theorem mK (x y:Nat):Builtin.bitAnd (x:Int) (Builtin.bitNot (y:Int))=((Ord.off x y:Nat):Int):=by
 have e:Builtin.bitNot (Builtin.bitNot (y:Int))=(y:Int):=by unfold Builtin.bitNot;lia
 have n:¬ (0:Int)<=Builtin.bitNot (y:Int):=by unfold Builtin.bitNot;lia
 have p:(0:Int)<=(x:Int):=akt _
 unfold Builtin.bitAnd
 rw [adD p,ac7 n]
 show (x:Int) - _=_
 rw [e,ag7,ag7]
 have:=Nat.and_le_left (n:=x) (m:=y)
 unfold Ord.off
 lia
def Pm (m:ao) (s:bZ):Ord.Hd:=⟨m.rows.length,m.has,m.wd,s.wt,s.bW,m.most,s.heap⟩
def bZ.may (m:ao) (s:bZ) (o:Nat):Nat:=Ord.setOf m.rows.length λ r=>o.testBit r && !s.bW.testBit r && decide ((gN s.failed r:Int)<m.fails r)
def bZ.iw (m:ao) (s:bZ) (b i:Nat):Nat:=if s.bW.testBit i=b.testBit i then gN s.gi i - 1 else (m.dI i).toNat
def bZ.jl (s:bZ) (b out i:Nat):Nat:=if out.testBit i then gN s.failed i+1 else if b.testBit i then 0 else gN s.failed i
def bZ.jU (m:ao) (s:bZ) (b:Nat):Int:=min m.d8 ((s.heap:Int) - m.kh b+m.load)
def bZ.behind (m:ao) (s:bZ) (dW:List Nat) (o out:Nat):bZ :=
 ⟨dW,Ord.off o out,(List.range m.rows.length).map (s.iw m (Ord.off o out)),(List.range m.rows.length).map (s.jl (Ord.off o out) out),(s.jU m (Ord.off o out)).toNat⟩
section
variable (K:W.Frag) (C:Addr)
inductive zI  (vs:List V) (H:Hp) (Q:VK) (_E:XK):Prop
 | mk (a fp m p s:_) (o:Nat) (_:vs=[.ref a,.ref p,al o]) (_:aL K C H a fp m) (_:g7 K H p s) (_:eP m s) (_:o &&& m.ws=o) (_:∀ H',aC H H'->Q (al (s.may m o)) H')
inductive rO  (vs:List V) (H:Hp) (Q:VK) (_E:XK):Prop
 | mk (a fp m p s:_) (b i:Nat) (_:vs=[.ref a,.ref p,al b,al i]) (_:aL K C H a fp m) (_:g7 K H p s) (_:eP m s) (_:i<m.rows.length) (_:(s.bW.testBit i≠b.testBit i->m.has i=true)) (_:0<=m.dI i) (_:Q (al (s.iw m b i)) H)
inductive o5  (vs:List V) (H:Hp) (Q:VK) (_E:XK):Prop
 | mk (p s:_) (b out i:Nat) (_:vs=[.ref p,al b,al out,al i]) (_:g7 K H p s) (_:i<s.failed.length) (_:Q (al (s.jl b out i)) H)
inductive BX  (vs:List V) (H:Hp) (Q:VK) (_E:XK):Prop
 | mk (a fp m p s:_) (o out:Nat) (_:vs=[.ref a,.ref p,al o,al out]) (_:aL K C H a fp m) (_:g7 K H p s) (_:eP m s) (_:(∀ i,s.bW.testBit i≠(Ord.off o out).testBit i->m.has i=true)) (_:(∀ i,0<=m.dI i)) (_:0<=s.jU m (Ord.off o out)) (_:∀ q pw pf H',aC H H'->H' q=some (.tup [al (Ord.off o out),.ref pw,.ref pf,al (s.jU m (Ord.off o out)).toNat])->H' pw=some (.tup (((List.range m.rows.length).map (s.iw m (Ord.off o out))).map al))->H' pf=some (.tup (((List.range m.rows.length).map (s.jl (Ord.off o out) out)).map al))->Q (.ref q) H')
end
theorem KO {m:ao} {s:bZ} {o:Nat} (h4:m.rows.length<=4) (ok:eP m s) (ho:o &&& m.ws=o) :
   Bit.sumOf ((Bit.rooms (Ord.off o s.bW)).filter λ r=>decide ((gN s.failed r:Int)<m.fails r))=s.may m o:=by
 have C8:o<16:=by rw [← ho];exact ab2 alH (qY h4)
 have b16:s.bW<16:=Ord.Jo h4 ok.bW
 have l5:o<2 ^ m.rows.length:=by rw [← ho];exact ab2 alH (Ord.zD _ _)
 refine alg λ k=>?_
 rw [Bit.lD,bZ.may,Ord.ig]
 rw [akN,ajC,amo,Bit.fO,Ord.uV C8 b16]
 simp only [aga,ajC]
 constructor
 .
  rintro ⟨⟨_,h1,h2⟩,h3⟩
  refine ⟨?_,⟨h1,h2⟩,h3⟩
  by_cases q:k<m.rows.length
  . exact q
  . rw [Bit.ip l5 (by lia)] at h1;cases h1
 . rintro ⟨h0,⟨h1,h2⟩,h3⟩
   exact ⟨⟨by lia,h1,h2⟩,h3⟩
theorem BY {m:ao} {o r:Nat} (ho:o &&& m.ws=o) (hr:o.testBit r=true):r<m.rows.length/\m.has r=true:=by
 rw [← ho,ah6,ao.ws,Ord.ig] at hr
 simp only [aga,ajC] at hr
 exact hr.2
theorem sJ {m:ao} {r:Nat} (h:m.has r=true):∃ z,m.mv r=some z:=Option.isSome_iff_exists.mp h
theorem yc {f:Nat->Nat} {n i:Nat} (h:i<n):gN ((List.range n).map f) i=f i:=by
 unfold gN
 rw [aat,al0 h];rfl
structure bV (m:ao) (s:bZ) (o out:Nat):Prop where
 h4:m.rows.length<=4
 ok:eP m s
 Ua:(Pm m s).Law o
 C8:o<16
 SN:out<16
 sub:∀ r,out.testBit r=true->o.testBit r=true/\s.bW.testBit r=false/\(gN s.failed r:Int)<m.fails r
 wd0:∀ r,0<=m.wd r
 JS:∀ r,0<=m.dI r
 aiV:0<=m.d8
 TF:0<=m.load
section
variable {m:ao} {s:bZ} {o out r:Nat}
theorem bV.bit (t:bV m s o out) (r:Nat):(Ord.off o out).testBit r=(o.testBit r && !out.testBit r):=Ord.uV t.C8 t.SN r
theorem bV.L3 (t:bV m s o out) (h:o.testBit r=true):r<m.rows.length/\m.has r=true:=by
 have hr:r<61:=by
   by_cases q:r<61
   . exact q
   . rw [Ord.Hu t.C8 (by lia)] at h;cases h
 exact t.Ua.has r (Bit.fO.mpr ⟨hr,h⟩)
theorem bV.Mz (t:bV m s o out) (h:(Ord.off o out).testBit r=true):o.testBit r=true/\out.testBit r=false:=by
 rw [t.bit] at h
 simp only [aga,Bool.not_eq_true'] at h
 exact h
theorem bV.has (t:bV m s o out) (h:s.bW.testBit r≠(Ord.off o out).testBit r):m.has r=true:=by
 cases hb:(Ord.off o out).testBit r with
 | true=>exact (t.L3 (t.Mz hb).1).2
 | false =>
   rw [hb] at h
   have hs:s.bW.testBit r=true:=by cases q:s.bW.testBit r with|true=>rfl|false=>exact absurd q h
   have hr:r<m.rows.length:=by
     by_cases q:r<m.rows.length
     . exact q
     . rw [Bit.ip t.ok.bW (by lia)] at hs;cases hs
   have:=t.ok.cp r hr
   unfold ao.has
   cases e:m.mv r with
   | some z=>rfl
   | none=>rw [e] at this;rw [this.1] at hs;cases hs
theorem bV.lit (t:bV m s o out) (h:out.testBit r=true):gN s.gi r=0/\(Ord.off o out).testBit r=false:=by
 obtain ⟨h1,h2,h3⟩:=t.sub r h
 have hr:=(t.L3 h1).1
 constructor
 .
  by_cases w:gN s.gi r=0
  . exact w
  . have hw:s.wt r=true:=adD (by lia)
    have e:o.testBit r=s.bW.testBit r:=t.Ua.dI r hr hw
    rw [h1,h2] at e;cases e
 . rw [t.bit,h];simp
theorem bV.fits (t:bV m s o out) (hr:r<m.rows.length):Bk (m.mv r) ((Ord.off o out).testBit r) (s.iw m (Ord.off o out) r) (s.jl (Ord.off o out) out r):=by
 have old:=t.ok.cp r hr
 have akL:=t.JS r
 cases e:m.mv r with
 | none =>
   rw [e] at old
   obtain ⟨o1,o2,o3⟩:=old
   have nh:m.has r=false:=by unfold ao.has;rw [e];rfl
   have hb:(Ord.off o out).testBit r=false:=by
     cases q:(Ord.off o out).testBit r with
     | false=>rfl
     | true=>rw [(t.L3 (t.Mz q).1).2] at nh;cases nh
   have ho:out.testBit r=false:=by
     cases q:out.testBit r with
     | false=>rfl
     | true=>rw [(t.L3 (t.sub r q).1).2] at nh;cases nh
   refine ⟨hb,?_,?_⟩
   . unfold bZ.iw
     rw [o1,hb,ady rfl,o2]
   . unfold bZ.jl
     rw [ho,hb,o3];rfl
 | some z =>
   rw [e] at old
   obtain ⟨o1,o2,o3⟩:=old
   have es:m.dI r=z.2.2.1:=by unfold ao.dI;rw [e];rfl
   have ef:m.fails r=z.2.2.2:=by unfold ao.fails;rw [e];rfl
   refine ⟨?_,?_,?_⟩
   . unfold bZ.iw
     split
     . lia
     . rw [ak3 akL,es];exact akb _
   .
    unfold bZ.jl
    split
    . rename_i ho
      have:=(t.sub r ho).2.2
      rw [ef] at this
      lia
    . split<;>lia
   .
    cases ho:out.testBit r with
    | true =>
      obtain ⟨l1,l2⟩:=t.lit ho
      refine .inr ⟨l2,?_⟩
      unfold bZ.iw
      rw [l2,(t.sub r ho).2.1,ady rfl,l1]
    | false =>
      cases hb:(Ord.off o out).testBit r with
      | true=>exact .inl (by unfold bZ.jl;rw [ho,hb];rfl)
      | false =>
        have ef2:s.jl (Ord.off o out) out r=gN s.failed r:=by unfold bZ.jl;rw [ho,hb];rfl
        rw [ef2]
        rcases o3 with q|⟨q1,q2⟩
        . exact .inl q
        . refine .inr ⟨rfl,?_⟩
          unfold bZ.iw
          rw [q1,hb,ady rfl,q2]
theorem bV.less (t:bV m s o out):(Bit.rooms (Ord.off o out)).length<=(Bit.rooms o).length/\((Bit.rooms (Ord.off o out)).map m.wd).sum<=((Bit.rooms o).map m.wd).sum :=
 Ord.zM t.wd0 λ _ hx=>(t.Mz hx).1
theorem bV.and (t:bV m s o out):Ord.off o out &&& m.ws=Ord.off o out:=by
 refine alg λ k=>?_
 rw [ah6,ao.ws,Ord.ig]
 cases e:(Ord.off o out).testBit k with
 | false=>rfl
 | true =>
   obtain ⟨a,b⟩:=t.L3 (t.Mz e).1
   rw [adD a,b];rfl
theorem bV.kh (t:bV m s o out):m.kh (Ord.off o out)=((Bit.rooms (Ord.off o out)).map m.wd).sum:=by
 unfold ao.kh
 rw [t.and]
theorem bV.Gq (t:bV m s o out):((Bit.rooms (Ord.off o out)).map m.wd).sum<=(s.heap:Int):=by
 have:=t.less.2
 have q:((Bit.rooms o).map m.wd).sum<=(s.heap:Int):=t.Ua.kh
 lia
theorem bV.JJ (t:bV m s o out):0<=s.jU m (Ord.off o out):=by
 have:=t.Gq
 have:=t.aiV
 have:=t.TF
 unfold bZ.jU
 rw [t.kh]
 lia
theorem bV.lt (t:bV m s o out):Ord.off o out<2 ^ m.rows.length:=alt _ λ k hk=>by
 cases e:(Ord.off o out).testBit k with
 | false=>rfl
 | true=>have:=(t.L3 (t.Mz e).1).1;lia
theorem bV.next (t:bV m s o out) {dW:List Nat} (lb:dW.length=m.rows.length) (hb:∀ i,i<m.rows.length->gN dW i+1<(m.rows.getD i []).length):eP m (s.behind m dW o out):=by
 have h0:=t.JJ
 refine ⟨lb,by simp [bZ.behind],by simp [bZ.behind],t.lt,?_,?_,hb,λ i hi=>?_⟩
 .
  have a:=t.less.1
  have b:((Bit.rooms o).length:Int)<=m.most:=t.Ua.most
  show ((Bit.rooms (Ord.off o out)).length:Int)<=m.most
  lia
 .
  show (((s.jU m (Ord.off o out)).toNat:Nat):Int)<=m.d8
  rw [ak3 h0]
  unfold bZ.jU
  lia
 . show Bk (m.mv i) ((Ord.off o out).testBit i) (gN ((List.range m.rows.length).map (s.iw m (Ord.off o out))) i) (gN ((List.range m.rows.length).map (s.jl (Ord.off o out) out)) i)
   rw [yc hi,yc hi]
   exact t.fits hi
end
abbrev Pr:=bR×bR
def fH (ds:List Pr):Int×Int:=ds.foldl (λ s d=>(s.1 * (d.1.2 * d.2.2)+d.1.1 * d.2.1 * s.2,s.2 * (d.1.2 * d.2.2))) (0,1)
theorem rH (ds:List Pr) (d:Pr):fH (ds++[d])=((fH ds).1 * (d.1.2 * d.2.2)+d.1.1 * d.2.1 * (fH ds).2,(fH ds).2 * (d.1.2 * d.2.2)):=by
 unfold fH
 rw [ajV];rfl
structure wB (n k:Nat) (d:Pr):Prop where
 a:eT n d.1
 b:eT k d.2
theorem uN (ds:List Pr) (h:∀ d∈ds,wB 900 900 d):∀ j,j<=ds.length->Bd (1802 * j+2) (fH (ds.take j)).1/\Bd (1800 * j+1) (fH (ds.take j)).2/\0<(fH (ds.take j)).2
 | 0,_=>⟨by show Int.natAbs 0<_;decide,by show Int.natAbs 1<_;decide,by show (0:Int)<1;decide⟩
 | j+1,hj=>by
   obtain ⟨a,b,c⟩:=uN ds h j (by lia)
   have hd:=h ds[j] (acx (by lia))
   have et:ds.take (j+1)=ds.take j++[ds[j]]:=by rw [alu,aE (by lia)];rfl
   rw [et,rH]
   generalize ds[j]=d at hd
   generalize fH (ds.take j)=s at a b c
   have bb:Bd 1800 (d.1.2 * d.2.2):=(hd.a.b.mul hd.b.b).mono (by decide)
   have bt:Bd 1800 (d.1.1 * d.2.1):=(hd.a.t.mul hd.b.t).mono (by decide)
   refine ⟨?_,(b.mul bb).mono (by lia),ajk c (ajk hd.a.p hd.b.p)⟩
   have x1:Bd (1802 * j+2+1800) (s.1 * (d.1.2 * d.2.2)):=a.mul bb
   have x2:Bd (1802 * j+2+1800) (d.1.1 * d.2.1 * s.2):=(bt.mul b).mono (by lia)
   exact (x1.add x2).mono (by lia)
theorem IS {ds:List Pr} (h:∀ d∈ds,wB 900 900 d):0<(fH ds).2:=by
 have:=(uN ds h ds.length (aaU _)).2.2
 rw [adc] at this
 exact this
theorem qB {n:Nat}:∀ (es ds:List Pr) {k:Nat},(∀ d∈es,Bd n (d.1.2 * d.2.2))->Bd k (fH ds).2->Bd (k+n * es.length) (fH (ds++es)).2
 | [],ds,k,_,h=>by rw [ahG];exact h.mono (by lia)
 | e::es,ds,k,he,h=>by
   have e1:ds++e::es=(ds++[e])++es:=by rw [alA];rfl
   rw [e1]
   have h2:Bd (k+n) (fH (ds++[e])).2:=by
     rw [rH]
     exact h.mul (he e abQ)
   have:=qB es (ds++[e]) (λ d hd=>he d (aaS _ hd)) h2
   refine this.mono ?_
   rw [aeR,Nat.mul_succ]
   lia
abbrev Ed (d:Pr):PyData:=.tuple [dS d.1,dS d.2]
theorem qx (d:Pr):eY (Ed d)=true:=by simp [Ed,dS,eY]
theorem qT (ds:List Pr):∀ e∈ds.map Ed,eY e=true:=λ e he=>by
 obtain ⟨d,_,rfl⟩:=List.mem_map.mp he
 exact qx d
inductive LA (K:W.Frag) (vs:List V) (H:Hp) (Q:VK) (_E:XK):Prop
 | mk (p xs ds:_) (_:vs=[.ref p]) (_:aR K H p xs) (_:bi K H (ds.map Ed) xs) (_:(∀ d∈ds,wB 900 900 d)) (_:ds.length<=10) (_:Bd 4000 (fH ds).2) (_:∀ q H',aC H H'->H' q=some (.tup [.int (nf (fH ds).1 (fH ds).2).1,.int (nf (fH ds).1 (fH ds).2).2])->Q (.ref q) H')
def eS (m:ao) (i:Nat) (dL:List bR):List Pr:=(List.range dL.length).map λ j=>(m.share i j,dL.getD j (0,1))
def ic (m:ao) (i:Nat) (dL:List bR) (w:bR) (fired:Bool):List Pr:=eS m i dL++[(m.dR i,w)]++(if fired then [((1,1),((m.aV[i]?).getD none).map (·.1) |>.getD (0,1))] else [])
def nW (m:ao) (i:Nat) (dL:List bR) (w:bR) (fired:Bool):bR:=nf (fH (ic m i dL w fired)).1 (fH (ic m i dL w fired)).2
inductive CZ (K:W.Frag) (C:Addr) (vs:List V) (H:Hp) (Q:VK) (_E:XK):Prop
 | mk (a fp m:_) (i:Nat) (pa Od dL wv w fired:_) (_:vs=[.ref a,al i,.ref pa,wv,.bl fired]) (_:aL K C H a fp m) (_:i<m.rows.length) (_:aR K H pa Od) (_:bi K H (dL.map dS) Od) (_:dL.length=m.rows.length) (_:(∀ f∈dL,eT 120 f)) (_:Dn K H (dS w) wv) (_:eT 120 w) (_:(fired=true->∃ z,m.aV[i]?=some (some z))) (_:∀ q H',aC H H'->H' q=some (.tup [.int (nW m i dL w fired).1,.int (nW m i dL w fired).2])->Q (.ref q) H')
theorem EA {m:ao} (w:m.Wf) (h4:m.rows.length<=4) (i j:Nat):eT 605 (m.share i j):=by
 unfold ao.share
 split
 . exact (w.f6 i _).mono (by lia)
 . exact (w.d7 i j).mono (by decide)
theorem pA {m:ao} {i:Nat} {dL:List bR} {w:bR} {fired:Bool} (wf:m.Wf) (h4:m.rows.length<=4) (la:dL.length=m.rows.length) (ha:∀ f∈dL,eT 120 f) (hw:eT 120 w) (hz:fired=true->∃ z,m.aV[i]?=some (some z)) :
   (∀ d∈ic m i dL w fired,wB 900 900 d)/\(ic m i dL w fired).length<=10/\Bd 4000 (fH (ic m i dL w fired)).2:=by
 have r1:∀ d∈eS m i dL,wB 605 120 d:=λ d hd=>by
   obtain ⟨j,hj,rfl⟩:=List.mem_map.mp hd
   have hj:=List.mem_range.mp hj
   refine ⟨EA wf h4 i j,?_⟩
   show eT 120 (dL.getD j (0,1))
   rw [UZ,aE hj]
   exact ha _ (acx hj)
 have lr:(eS m i dL).length<=4:=by unfold eS;rw [zN,abU];lia
 have s1:wB 100 120 (m.dR i,w):=⟨wf.dR i,hw⟩
 have h0:Bd 1 (fH []).2:=by show Int.natAbs 1<2 ^ 1;decide
 have b1:Bd (1+725 * (eS m i dL).length) (fH (eS m i dL)).2:=qB (n:=725) (eS m i dL) [] (λ d hd=>(r1 d hd).a.b.mul (r1 d hd).b.b) h0
 have b2:Bd (2901+220 * 1) (fH (eS m i dL++[(m.dR i,w)])).2:=qB (n:=220) [(m.dR i,w)] (eS m i dL) (λ d hd=>by rw [List.mem_singleton.mp hd];exact s1.a.b.mul s1.b.b) (b1.mono (by lia))
 unfold ic
 cases fired with
 | false =>
   rw [ac9 ac8,ahG]
   refine ⟨λ d hd=>?_,by rw [aaE];simp only [aeR,alR];lia,b2.mono (by decide)⟩
   rcases List.mem_append.mp hd with h|h
   . exact ⟨(r1 d h).a.mono (by decide),(r1 d h).b.mono (by decide)⟩
   . rw [List.mem_singleton.mp h];exact ⟨s1.a.mono (by decide),s1.b.mono (by decide)⟩
 | true =>
   obtain ⟨z,ez⟩:=hz rfl
   rw [ady rfl,ez]
   have oz:eT 100 z.1:=wf.aV z (aaK ez)
   have s2:wB 2 100 (((1,1),z.1):Pr):=⟨⟨by show Int.natAbs 1<2 ^ 2;decide,by show Int.natAbs 1<2 ^ 2;decide,by show (0:Int)<1;decide⟩,oz⟩
   have b3:Bd (3121+102 * 1) (fH ((eS m i dL++[(m.dR i,w)])++[((1,1),z.1)])).2:=qB (n:=102) [((1,1),z.1)] _ (λ d hd=>by rw [List.mem_singleton.mp hd];exact s2.a.b.mul s2.b.b) b2
   refine ⟨λ d hd=>?_,by rw [aaE,aaE];simp only [aeR,alR];lia,b3.mono (by decide)⟩
   rcases List.mem_append.mp hd with h|h
   . rcases List.mem_append.mp h with h|h
     . exact ⟨(r1 d h).a.mono (by decide),(r1 d h).b.mono (by decide)⟩
     . rw [List.mem_singleton.mp h];exact ⟨s1.a.mono (by decide),s1.b.mono (by decide)⟩
   . rw [List.mem_singleton.mp h];exact ⟨s2.a.mono (by decide),s2.b.mono (by decide)⟩
def LP (f:Nat->Int):Nat->Int
 | 0=>0
 | t+1=>LP f t+f t
def br.skT (tm:br) (i:Nat):Int:=((tm.qH[i]?).map (·.1)).getD 0
def br.flT (tm:br) (i j:Nat):Int:=if i=j then 0 else (tm.c9 i j).getD 0
section
variable {X:Cx}
def abD (K:W.Frag) (ta:TA):TI:=λ U H R=>ta U H λ vs H1=>∃ a,vs=[.ref a]/\(((∃ xs,aR K H1 a xs)/\R (Df (aR K) a) H1)∨((∃ xs,bO K H1 a xs)/\R (Df (bO K) a) H1))
theorem Fb {a:Expr} {ta:TA} {p pos nE:Pos} {elts:List Expr} {x1:Nat} (hg:Gl X "enumerate") (hm:X.mg "enumerate" = none) (ha:PA X [a] ta) (hs:starEach [a] X.env=[(false,eval a X.env)]:=by rfl) :
   PI X (.Tuple elts x1 nE) (.Call (.Name "enumerate" p) [a] [] pos) (abD X.K ta):=by
 intro pins s U H R I h
 refine Call_ ?_
 refine i3 I hg hm jt ?_ LH KR
 refine agB ?_ hs rfl
 refine cD (ha pos pins s U H _ I h) λ us s1 ⟨vs,H1,I1,r1,q1⟩=>?_
 obtain ⟨a,e,q⟩:=q1
 subst e
 cases r1 with
 | cons r rr =>
   cases rr
   obtain rfl:_=Value.ref a:=r
   have fr:∀ c∈[s1.heap.objs.size+1,s1.heap.objs.size],s1.heap.objs.size<=c:=λ c hc=>by
     simp only [aa1,aaI,afj] at hc
     rcases hc with rfl|rfl
     . exact ak2 _
     . exact aaU _
   rcases q with ⟨⟨xs,hq⟩,q⟩|⟨⟨xs,hq⟩,q⟩
   . obtain ⟨bg,rv,p1,L5⟩:=I1.list hq
     have la:a<s1.heap.objs.size:=by obtain ⟨_,e,_⟩:=p1.isList;exact abZ e
     refine call_enumerate_list p1.isList λ h' z1 z2 z3 kk=>ak1 z1 ?_
     exact ⟨s1.heap.objs.size+1,[s1.heap.objs.size+1,s1.heap.objs.size],_,_,H1,rfl,I1.kept (t':=s1.toks) kk,wz (alF _) (ad8 (alz la)) (ad8 la),⟨⟨_,z1⟩,z2⟩,λ c hc=>I1.yh (fr c hc) (I1.cQ.fresh (fr c hc)),q⟩
   . obtain ⟨bg,rv,p1,L5⟩:=I1.tuple hq
     have la:a<s1.heap.objs.size:=p1.lt
     refine qP p1 λ h' z1 z2 kk=>ak1 z1 ?_
     exact ⟨s1.heap.objs.size+1,[s1.heap.objs.size+1,s1.heap.objs.size],_,_,H1,rfl,I1.kept (t':=s1.toks) kk,wI (alF _) (ad8 (alz la)) (ad8 la),⟨⟨_,z1⟩,z2⟩,λ c hc=>I1.yh (fr c hc) (I1.cQ.fresh (fr c hc)),q⟩
end
def gm (m:ao) (bs:List Nat) (d:Nat):List bR:=(List.range bs.length).map λ j=>(m.rows.getD j []).getD (bs.getD j 0+d) (0,1)
def lT (m:ao) (i:Nat):bR×bR×bR:=(m.bj[i]?).getD ((0,1),(0,1),(0,1))
def kH (m:ao) (i:Nat) (bs:List Nat) (fired:Bool):bR:=nW m i (gm m bs 0) (lT m i).2.1 fired
def kc (m:ao) (i:Nat) (bs:List Nat) (fired:Bool):bR:=nW m i (gm m bs 1) (lT m i).2.2 fired
inductive G8 (K:W.Frag) (C:Addr) (vs:List V) (H:Hp) (Q:VK) (_E:XK):Prop
 | mk (a fp m:_) (i:Nat) (pb bs fired:_) (_:vs=[.ref a,al i,.ref pb,.bl fired]) (_:aL K C H a fp m) (_:i<m.rows.length) (_:(aR K H pb (bs.map al)∨bO K H pb (bs.map al))) (_:bs.length=m.rows.length) (_:(∀ j,j<m.rows.length->bs.getD j 0+1<(m.rows.getD j []).length)) (_:(fired=true->∃ z,m.aV[i]?=some (some z))) (_:∀ q q1 q2 H',aC H H'->H' q=some (.tup [.ref q1,.ref q2])->H' q1=some (.tup [.int (kH m i bs fired).1,.int (kH m i bs fired).2])->H' q2=some (.tup [.int (kc m i bs fired).1,.int (kc m i bs fired).2])->Q (.ref q) H')
theorem nJ {m:ao} {bs:List Nat} (wf:m.Wf) (lb:bs.length=m.rows.length) (hb:∀ j,j<m.rows.length->bs.getD j 0+1<(m.rows.getD j []).length) {d:Nat} (hd:d<=1):∀ f∈gm m bs d,eT 120 f:=λ f hf=>by
 obtain ⟨j,hj,rfl⟩:=List.mem_map.mp hf
 have hj:=List.mem_range.mp hj
 have q:=hb j (by lia)
 have hr:j<m.rows.length:=by lia
 rw [UZ (l:=m.rows),aE hr] at q ⊢
 have q:bs.getD j 0+1<m.rows[j].length:=q
 show eT 120 (m.rows[j].getD (bs.getD j 0+d) (0,1))
 rw [UZ,aE (by lia)]
 exact (wf.rows m.rows[j] (acx hr) _ (acx _)).mono (by decide)
def br.kT (tm:br) (n i j:Nat):Int:=if j=i then 12 - tm.skT i - LP (tm.flT i) n else tm.flT i j
def br.X (tm:br) (n i:Nat) (x:Nat->Int) (xw:Int):Int:=LP (λ j=>tm.kT n i j * x j) n+tm.skT i * xw
def br.mrk (tm:br) (j b:Nat):Int:=(tm.marks.getD j []).getD b 0
def br.xl (tm:br) (bs:List Nat) (d j:Nat):Int:=tm.mrk j (bs.getD j 0+d)
def br.TB (tm:br) (i:Nat):Int×Int×Int:=(tm.qH[i]?).getD (0,0,0)
def br.Wr (tm:br) (i:Nat):Int:=(((tm.aV[i]?).getD none).map (·.1)).getD 0
def br.sX (tm:br) (n i:Nat) (bs:List Nat) (d:Nat) (xw:Int) (fired:Bool):Int:=tm.X n i (tm.xl bs d) xw+(if fired then 12 * tm.Wr i else 0)
theorem dC {a1:TS} {D:L2.Ends} {U:L2.St} (h:let d:L2.Ends:=D;let z:L2.St:=U;let r2:TS:=a3;let r1:TS:=aP a2 r2;aP a1 r1 d z H):(aP a1 (aP a2 (a3))) D U H:=h
theorem eI {a1:TS} {D:L2.Ends} {U:L2.St} (h:let d:L2.Ends:=D;let z:L2.St:=U;let r3:TS:=a4;let r2:TS:=aP a3 r3;let r1:TS:=aP a2 r2;aP a1 r1 d z H):(aP a1 (aP a2 (aP a3 (a4)))) D U H:=h
theorem xc {a1:TS} {D:L2.Ends} {U:L2.St} (h:let d:L2.Ends:=D;let z:L2.St:=U;let r4:TS:=a5;let r3:TS:=aP a4 r4;let r2:TS:=aP a3 r3;let r1:TS:=aP a2 r2;aP a1 r1 d z H):(aP a1 (aP a2 (aP a3 (aP a4 (a5))))) D U H:=h
theorem nO {a1:TS} {D:L2.Ends} {U:L2.St} (h:let d:L2.Ends:=D;let z:L2.St:=U;let r5:TS:=a6;let r4:TS:=aP a5 r5;let r3:TS:=aP a4 r4;let r2:TS:=aP a3 r3;let r1:TS:=aP a2 r2;aP a1 r1 d z H):(aP a1 (aP a2 (aP a3 (aP a4 (aP a5 (a6)))))) D U H:=h
theorem Dm {a1:TS} {D:L2.Ends} {U:L2.St} (h:let d:L2.Ends:=D;let z:L2.St:=U;let r6:TS:=a7;let r5:TS:=aP a6 r6;let r4:TS:=aP a5 r5;let r3:TS:=aP a4 r4;let r2:TS:=aP a3 r3;let r1:TS:=aP a2 r2;aP a1 r1 d z H):(aP a1 (aP a2 (aP a3 (aP a4 (aP a5 (aP a6 (a7))))))) D U H:=h
theorem Eb {a1:TS} {D:L2.Ends} {U:L2.St} (h:let d:L2.Ends:=D;let z:L2.St:=U;let r7:TS:=a8;let r6:TS:=aP a7 r7;let r5:TS:=aP a6 r6;let r4:TS:=aP a5 r5;let r3:TS:=aP a4 r4;let r2:TS:=aP a3 r3;let r1:TS:=aP a2 r2;aP a1 r1 d z H):(aP a1 (aP a2 (aP a3 (aP a4 (aP a5 (aP a6 (aP a7 (a8)))))))) D U H:=h
theorem DK {a1:TS} {D:L2.Ends} {U:L2.St} (h:let d:L2.Ends:=D;let z:L2.St:=U;let r8:TS:=a9;let r7:TS:=aP a8 r8;let r6:TS:=aP a7 r7;let r5:TS:=aP a6 r6;let r4:TS:=aP a5 r5;let r3:TS:=aP a4 r4;let r2:TS:=aP a3 r3;let r1:TS:=aP a2 r2;aP a1 r1 d z H):(aP a1 (aP a2 (aP a3 (aP a4 (aP a5 (aP a6 (aP a7 (aP a8 (a9))))))))) D U H:=h
theorem BV {a1:TS} {D:L2.Ends} {U:L2.St} (h:let d:L2.Ends:=D;let z:L2.St:=U;let r9:TS:=Gh;let r8:TS:=aP a9 r9;let r7:TS:=aP a8 r8;let r6:TS:=aP a7 r7;let r5:TS:=aP a6 r6;let r4:TS:=aP a5 r5;let r3:TS:=aP a4 r4;let r2:TS:=aP a3 r3;let r1:TS:=aP a2 r2;aP a1 r1 d z H):(aP a1 (aP a2 (aP a3 (aP a4 (aP a5 (aP a6 (aP a7 (aP a8 (aP a9 (Gh)))))))))) D U H:=h
theorem CL {a1 a11 a12 a13 a14 a15:TS} {D:L2.Ends} {U:L2.St} (h:let d:L2.Ends:=D;let z:L2.St:=U;let r14:TS:=a15;let r13:TS:=aP a14 r14;let r12:TS:=aP a13 r13;let Yf:TS:=aP a12 r12;let TX:TS:=aP a11 Yf;let r9:TS:=aP Gh TX;let r8:TS:=aP a9 r9;let r7:TS:=aP a8 r8;let r6:TS:=aP a7 r7;let r5:TS:=aP a6 r6;let r4:TS:=aP a5 r5;let r3:TS:=aP a4 r4;let r2:TS:=aP a3 r3;let r1:TS:=aP a2 r2;aP a1 r1 d z H):(aP a1 (aP a2 (aP a3 (aP a4 (aP a5 (aP a6 (aP a7 (aP a8 (aP a9 (aP Gh (aP a11 (aP a12 (aP a13 (aP a14 (a15))))))))))))))) D U H:=h
@[elab_as_elim] theorem JH {α:Type} {motive:List α->Prop} {us:List α} (h:us.length=1) (k:∀ a,motive [a]):motive us :=
 cT h λ a _ h=>afr h ▸ k a
@[elab_as_elim] theorem JC {α:Type} {motive:List α->Prop} {us:List α} (h:us.length=2) (k:∀ a b,motive [a,b]):motive us :=
 cT h λ a _ h=>cT h λ b _ h=>afr h ▸ k a b
@[elab_as_elim] theorem Jr {α:Type} {motive:List α->Prop} {us:List α} (h:us.length=3) (k:∀ a b c,motive [a,b,c]):motive us :=
 cT h λ a _ h=>cT h λ b _ h=>cT h λ c _ h=>afr h ▸ k a b c
@[elab_as_elim] theorem JQ {α:Type} {motive:List α->Prop} {us:List α} (h:us.length=4) (k:∀ a b c d,motive [a,b,c,d]):motive us :=
 cT h λ a _ h=>cT h λ b _ h=>cT h λ c _ h=>cT h λ d _ h=>afr h ▸ k a b c d
@[elab_as_elim] theorem JW {α:Type} {motive:List α->Prop} {us:List α} (h:us.length=5) (k:∀ a b c d e,motive [a,b,c,d,e]):motive us :=
 cT h λ a _ h=>cT h λ b _ h=>cT h λ c _ h=>cT h λ d _ h=>cT h λ e _ h=>afr h ▸ k a b c d e
@[elab_as_elim] theorem JT {α:Type} {motive:List α->Prop} {us:List α} (h:us.length=6) (k:∀ a b c d e f,motive [a,b,c,d,e,f]):motive us :=
 cT h λ a _ h=>cT h λ b _ h=>cT h λ c _ h=>cT h λ d _ h=>cT h λ e _ h=>cT h λ f _ h=>afr h ▸ k a b c d e f
@[elab_as_elim] theorem JI {α:Type} {motive:List α->Prop} {us:List α} (h:us.length=7) (k:∀ a b c d e f g,motive [a,b,c,d,e,f,g]):motive us :=
 cT h λ a _ h=>cT h λ b _ h=>cT h λ c _ h=>cT h λ d _ h=>cT h λ e _ h=>cT h λ f _ h=>cT h λ g _ h=>afr h ▸ k a b c d e f g
theorem lc {sc:Scope} {x:Str} (h:(match sc.names.lookup x with|some .local=>true|some .cell=>true|_=>false)=true):Loc sc x:=by
 unfold Loc
 split at h
 . rename_i e;exact .inl e
 . rename_i e;exact .inr e
 . cases h
theorem cI.m {j k:Nat} {A:Around} (r:cI k A) (h:j<=k:=by decide):cI j A:=r.mono h
section
variable {P:Program} {w:World} {K:W.Frag} {mg:Str->Option Value} {base:Heap} {x qual:Str} {st:Stmt} {N ps:List Str} {k:Nat} {sp:Sp} {C:Addr}
theorem ir.cS (h:ir K mg x st) (S:ay N ps (ap st)) (gP:∀ (f:Addr) (bA:Value) (A:Around) (outer:List Env) (s:Shared) (H:Hp) (vs:List V) (Q:VK) (E:XK),cI k (A.deeper (envOfC x (ap st) s.heap.objs.size f bA))->sp vs H Q E ->
     ∃ t,tK (oF wg P w K mg base N x (ap st) f bA A outer s H E).Dj (bC st) t/\t { nx:=λ _ H'=>Q .cf H',rt:=Q } (start N vs) H) (len:∀ vs H Q E,sp vs H Q E->vs.length=ps.length:=by intro _ _ _ _ h;first|(cases h;subst_vars;rfl)|(obtain ⟨_,rfl,_⟩:=h;rfl)|(obtain ⟨_,_,rfl,_⟩:=h;rfl)|(obtain ⟨_,_,_,rfl,_⟩:=h;rfl)|(obtain ⟨_,_,_,_,rfl,_⟩:=h;rfl)|(obtain ⟨_,_,_,_,_,rfl,_⟩:=h;rfl)) (hb:∀ (kV doc pm:Value) (an:Option Addr) (bA ct:Value) (us:List Value),us.length=ps.length->bindArgs (W.fnOf x x (ci st) (bC st) (ap st) .none kV doc pm an bA ct) ⟨us,[]⟩=pure (ps.zip us):=by intro _ _ _ _ _ _ us hl;first|exact JH hl λ _=>rfl|exact JC hl λ _ _=>rfl|exact Jr hl λ _ _ _=>rfl|exact JQ hl λ _ _ _ _=>rfl|exact JW hl λ _ _ _ _ _=>rfl|exact JT hl λ _ _ _ _ _ _=>rfl|exact JI hl λ _ _ _ _ _ _ _=>rfl):Def P w K mg base x (k+1) ps sp:=h.def S len hb gP
theorem fY.fh {m:Str} (h:fY K C m qual st .none) (S:ay N ps (ap st)) (gP:∀ (f:Addr) (bA:Value) (A:Around) (outer:List Env) (s:Shared) (H:Hp) (vs:List V) (Q:VK) (E:XK),cI k (A.deeper (envOfC qual (ap st) s.heap.objs.size f bA))->sp vs H Q E ->
     ∃ t,tK (oF wg P w K mg base N qual (ap st) f bA A outer s H E).Dj (bC st) t/\t { nx:=λ _ H'=>Q .cf H',rt:=Q } (start N vs) H) (len:∀ vs H Q E,sp vs H Q E->vs.length=ps.length:=by intro _ _ _ _ h;first|(cases h;subst_vars;rfl)|(obtain ⟨_,rfl,_⟩:=h;rfl)|(obtain ⟨_,_,rfl,_⟩:=h;rfl)|(obtain ⟨_,_,_,rfl,_⟩:=h;rfl)|(obtain ⟨_,_,_,_,rfl,_⟩:=h;rfl)|(obtain ⟨_,_,_,_,_,rfl,_⟩:=h;rfl)) (hb:∀ (kV doc pm:Value) (an:Option Addr) (bA ct:Value) (us:List Value),us.length=ps.length->bindArgs (W.fnOf m qual (ci st) (bC st) (ap st) .none kV doc pm an bA ct) ⟨us,[]⟩=pure (ps.zip us):=by intro _ _ _ _ _ _ us hl;first|exact JH hl λ _=>rfl|exact JC hl λ _ _=>rfl|exact Jr hl λ _ _ _=>rfl|exact JQ hl λ _ _ _ _=>rfl|exact JW hl λ _ _ _ _ _=>rfl|exact JT hl λ _ _ _ _ _ _=>rfl|exact JI hl λ _ _ _ _ _ _ _=>rfl):gs P w K mg base C m (k+1) ps [] sp:=h.IC S len hb gP
end
inductive A3 (a b c:Prop):Prop|mk (_:a) (_:b) (_:c)
inductive A4 (a b c d:Prop):Prop|mk (_:a) (_:b) (_:c) (_:d)
inductive A5 (a b c d e:Prop):Prop|mk (_:a) (_:b) (_:c) (_:d) (_:e)
inductive A6 (a b c d e f:Prop):Prop|mk (_:a) (_:b) (_:c) (_:d) (_:e) (_:f)
inductive E2 {a b:Type} (p:a->b->Prop):Prop|mk (x:a) (y:b) (_:p x y)
inductive E3 {a b c:Type} (p:a->b->c->Prop):Prop|mk (x:a) (y:b) (z:c) (_:p x y z)
inductive E4 {a b c d:Type} (p:a->b->c->d->Prop):Prop|mk (x:a) (y:b) (z:c) (u:d) (_:p x y z u)
inductive E5 {a b c d e:Type} (p:a->b->c->d->e->Prop):Prop|mk (x:a) (y:b) (z:c) (u:d) (v:e) (_:p x y z u v)
section
variable {K:W.Frag} {C CW:Addr} {H H':Hp} {x:Addr} {fp:List Addr} {m:ao} {s:bZ} {g:Int}
theorem g7.ts {p:Addr} (h:g7 K H p s) (t:aI K H H'):g7 K H' p s:=by
 obtain ⟨pb,pw,pf,a,b,c,d⟩:=h
 exact ⟨pb,pw,pf,t _ _ a,t _ _ b,t _ _ c,t _ _ d⟩
end
theorem vh {m:ao} {s:bZ} {o:Nat} (h4:m.rows.length<=4):s.may m o<16:=acK (Ord.zD _ _) (ahb (by decide) h4:2 ^ m.rows.length<=2 ^ 4)
theorem aL.Hz {K:W.Frag} {H':Hp} {a x:Addr} {m:ao} (h:aL K C H a fp m) (st:∀ b o,H b=some o->b≠x->H' b=some o) (ts:aI K H H') (nx:x∉fp):aL K C H' a fp m:=by
 obtain ⟨⟨MR,pm,pf,ps,pt,vm,vs,vt,ax,rfl,ha,i5,gc,mE,gz,gn,n1,n2,n3,dm,ds,dt,df,fk⟩,q1,q2,q3,q4⟩:=h
 have g:∀ {c o},H c=some o->c∈[a,MR,pm,pf,ps,pt]->H' c=some o:=λ {c o} e hc=>st c o e (λ z=>nx (z ▸ hc))
 exact ⟨⟨MR,pm,pf,ps,pt,vm,vs,vt,ax,rfl,g ha (by simp),g i5 (by simp),g gc (by simp),g mE (by simp),g gz (by simp),g gn (by simp),n1,n2,n3,jn ts dm,iD ts ds,gw ts dt,λ i j=>(df i j).ts ts,fk⟩,q1,q2,q3,q4⟩
def br.tch (tm:br) (i:Nat) (z lo hi:Int):Prop:=0<=z/\z<((tm.marks.getD i []).length:Int) - 1/\12 * tm.mrk i z.toNat<=hi/\lo<=12 * tm.mrk i (z.toNat+1)
instance {tm:br} {i:Nat} {z lo hi:Int}:Decidable (tm.tch i z lo hi):=by unfold br.tch;infer_instance
def br.s0 (tm:br) (n i:Nat) (bs:List Nat) (f:Bool):Int:=tm.sX n i bs 0 (tm.TB i).2.1 f
def br.s1 (tm:br) (n i:Nat) (bs:List Nat) (f:Bool):Int:=tm.sX n i bs 1 (tm.TB i).2.2 f
theorem aL.some {K:W.Frag} {a:Addr} {m:ao} (h:aL K C H a fp m):∀ c∈fp,∃ o,H c=some o:=by
 obtain ⟨⟨MR,pm,pf,ps,pt,vm,vs,vt,ax,rfl,ha,i5,gc,mE,gz,gn,_⟩,_⟩:=h
 intro c hc
 simp only [aa1,aaI,afj] at hc
 rcases hc with rfl|rfl|rfl|rfl|rfl|rfl
 . exact ⟨_,ha⟩
 . exact ⟨_,i5⟩
 . exact ⟨_,gc⟩
 . exact ⟨_,mE⟩
 . exact ⟨_,gz⟩
 . exact ⟨_,gn⟩
def j6 (s:bZ):PyData:=.tuple [.tuple (s.dW.map iY),iY s.bW,.tuple (s.gi.map iY),.tuple (s.failed.map iY),iY s.heap]
end L2
namespace PySem
open Sem (wp)
mutual
def kd:PyData->Bool
 | .bool _=>true
 | .int _=>true
 | .tuple ds=>we ds
 | _=>false
def we:List PyData->Bool
 | []=>true
 | d::ds=>kd d && we ds
end
mutual
def qA:PyData->PyData
 | .bool b => .int (if b then 1 else 0)
 | .tuple ds => .tuple (lL ds)
 | d=>d
def lL:List PyData->List PyData
 | []=>[]
 | d::ds=>qA d::lL ds
end
mutual
def sQ:PyData->Nat
 | .tuple ds=>tM ds+1
 | _=>0
def tM:List PyData->Nat
 | []=>0
 | d::ds=>max (sQ d) (tM ds)
end
mutual
def pj:PyData->Int
 | .int i=>hashInt i
 | .bool b=>hashInt (if b then 1 else 0)
 | .tuple ds=>reduceHash (Builtin.Tuple.tupleHashOf (ke ds))
 | _=>0
def ke:List PyData->List Int
 | []=>[]
 | d::ds=>pj d::ke ds
end
mutual
def px:PyData->Nat
 | .tuple ds=>mC ds+1
 | _=>1
def mC:List PyData->Nat
 | []=>0
 | d::ds=>px d+mC ds
end
mutual
theorem ui:∀ d,kd d=true->pj (qA d)=pj d
 | .bool b,_=>by simp only [qA,pj]
 | .int i,_=>by simp only [qA,pj]
 | .tuple ds,h=>by simp only [qA,pj];rw [rE ds h]
 | .none,_ | .str _,_ | .list _,_ | .dict _,_=>by simp only [qA]
theorem rE:∀ ds,we ds=true->ke (lL ds)=ke ds
 | [],_=>rfl
 | d::ds,h=>by
   rw [we,aga] at h
   simp only [lL,ke]
   rw [ui d h.1,rE ds h.2]
end
mutual
theorem tX:∀ d,px (qA d)=px d
 | .bool b=>by simp only [qA,px]
 | .tuple ds=>by simp only [qA,px];rw [rK ds]
 | .int _ | .none | .str _ | .list _ | .dict _=>by simp only [qA]
theorem rK:∀ ds,mC (lL ds)=mC ds
 | []=>rfl
 | d::ds=>by
   simp only [lL,mC]
   rw [tX d,rK ds]
end
mutual
theorem uX:∀ (d e:PyData),kd d=true->kd e=true->(PyData.eqv d e=true↔qA d=qA e)
 | .bool a,.bool b,_,_=>by cases a<;>cases b<;>simp [PyData.eqv,qA]
 | .bool a,.int j,_,_=>by simp [PyData.eqv,qA]
 | .int i,.bool b,_,_=>by simp [PyData.eqv,qA]
 | .int i,.int j,_,_=>by simp [PyData.eqv,qA]
 | .tuple xs,.tuple ys,h,k=>by
   simp only [PyData.eqv,qA,PyData.tuple.injEq]
   exact wF xs ys h k
 | .bool _,.tuple _,_,_ | .int _,.tuple _,_,_ | .tuple _,.bool _,_,_ | .tuple _,.int _,_,_=>by simp [PyData.eqv,qA]
theorem wF:∀ (ds es:List PyData),we ds=true->we es=true->(PyData.eqvAll ds es=true↔lL ds=lL es)
 | [],[],_,_=>by simp [PyData.eqvAll,lL]
 | [],_::_,_,_=>by simp [PyData.eqvAll,lL]
 | _::_,[],_,_=>by simp [PyData.eqvAll,lL]
 | d::ds,e::es,h,k=>by
   rw [we,aga] at h k
   simp only [PyData.eqvAll,lL,aga,amr]
   rw [uX d e h.1 k.1,wF ds es h.2 k.2]
end
section
variable {prog:Program} {w:World} {E:Value->Shared->Prop}
set_option maxHeartbeats 0 in
mutual
theorem rP:∀ (d:PyData) (v:Value) (as:List Addr) (A:Around) (s:Shared) (Q:Int->Shared->Prop),kd d=true->Reads s.heap v d as->A.units+sQ d<cLine ->
   Q (pj d) { s with toks:=s.toks+px d }->wpAny (model prog w) A (pyHash v) Q E s
 | .int i,_,_,A,s,Q,_,x,_,h=>by cases x;exact wpAny_pyHash_int h
 | .bool b,_,_,A,s,Q,_,x,hu,h=>by
   cases x
   refine W.pyHash_slot (T:="bool") rfl F.slot_bool_hash entry_int_hash (args_int_hash _) (beq_builtin_none _) (.inl rfl) ?_
   cases b
   . exact (show wpAny _ _ (do ret (← mkInt 0)) _ _ s from P5 (wpAny_mkInt (abN ⟨_,_,rfl,h⟩)))
   . exact (show wpAny _ _ (do ret (← mkInt 1)) _ _ s from P5 (wpAny_mkInt (abN ⟨_,_,rfl,h⟩)))
 | .tuple ds,_,_,A,s,Q,hk,x,hu,h=>by
   cases x with
   | @tuple a o vs n _ _ hg hc hd hr =>
     rw [sQ] at hu
     refine W.pyHash_slot (T:="tuple") ⟨_,hg,hc⟩ F.slot_tuple_hash F.entry_tuple_hash (F.args_tuple_hash_1 _) (beq_builtin_none _) (.inr (by lia)) ?_
     show wpAny _ _ (Builtin.Tuple.tupleItemsOf (.ref a) >>= _) _ _ s
     refine P5 (wpAny_tupleItemsOf hg hd ?_)
     refine P5 ?_
     rw [← als]
     refine pC ds vs.toList _ A.in1 s #[] _ hk hr (by rw [alo];lia) λ b hb=>?_
     show wpAny _ _ (retInt (Builtin.Tuple.tupleHashOf b.toList)) _ _ _
     rw [hb]
     exact P5 (wpAny_mkInt (abN ⟨_,_,rfl,h⟩))
 | .none,_,_,_,_,_,hk,_,_,_ | .str _,_,_,_,_,_,hk,_,_,_ | .list _,_,_,_,_,_,hk,_,_,_ | .dict _,_,_,_,_,_,hk,_,_,_=>by rw [kd] at hk<;>first|cases hk|nofun
theorem pC:∀ (ds:List PyData) (vs:List Value) (as:List Addr) (A:Around) (s:Shared) (b:Array Int) (Q:Array Int->Shared->Prop),we ds=true->ReadsAll s.heap vs ds as->A.units+tM ds<cLine ->
   (∀ b',b'.toList=b.toList++ke ds->Q b' { s with toks:=s.toks+mC ds }) ->
   wpAny (model prog w) A (forIn vs b λ x r=>do let h ← pyHash x;pure PUnit.unit;pure (ForInStep.yield (r.push h))) Q E s
 | [],_,_,A,s,b,Q,_,x,_,h=>by cases x;exact abN (h b (by simp [ke]))
 | d::ds,_,_,A,s,b,Q,hk,x,hu,h=>by
   cases x with
   | cons x1 x2 =>
     rw [we,aga] at hk
     rw [tM] at hu
     rw [alT]
     refine P5 (P5 (rP d _ _ A s _ hk.1 x1 (by lia) ?_))
     refine P5 (abN (abN ?_))
     exact pC ds _ _ A { s with toks:=s.toks+px d } _ Q hk.2 x2 (by lia) λ b' hb=>by
       have:=h b' (by simp [hb,ke])
       rw [mC,← Nat.add_assoc] at this
       exact this
end
set_option maxHeartbeats 0 in
theorem pO:∀ (n:Nat) (d:PyData) (v:Value) (as:List Addr) (A:Around) (s:Shared) (Q:Bool->Shared->Prop),kd d=true->sQ d<=n->Reads s.heap v d as->Q true s->wpAny (model prog w) A (eqIsQuiet n v) Q E s
 | n,.int i,_,_,A,s,Q,_,_,x,h=>by cases x;rw [eqIsQuiet_byValue n rfl];exact abN h
 | n,.bool i,_,_,A,s,Q,_,_,x,h=>by cases x;rw [eqIsQuiet_byValue n rfl];exact abN h
 | 0,.tuple ds,_,_,A,s,Q,_,hn,_,_=>by rw [sQ] at hn;lia
 | n+1,.tuple ds,_,_,A,s,Q,hk,hn,x,h=>by
   cases x with
   | @tuple a o vs m _ _ hg hc hd hr =>
     rw [sQ] at hn
     unfold eqIsQuiet
     refine P5 (al3 ⟨_,hg,hc⟩ F.slot_tuple_eq.lookup ?_)
     show wpAny _ _ (isInstance (.ref a) (.type "tuple") >>= _) _ _ s
     refine P5 (amH ⟨_,hg,hc⟩ isSubtype_tuple_tuple ?_)
     simp only [amN,ai3,alc]
     refine P5 (ali hg hd ?_)
     refine P5 ?_
     show wpAny _ _ (forIn vs _ _) _ _ s
     rw [← als]
     refine wpAny_forIn_list _ (λ rest r s'=>r.1=none/\s'=s/\∃ es Zw,we es=true/\tM es<=n/\ReadsAll s.heap rest es Zw) _ ?_ ?_ _ _ ⟨rfl,rfl,ds,_,hk,by lia,hr⟩
     .
      rintro v rest r s' ⟨hr,rfl,es,Zw,h1,h2,h3⟩
      cases h3 with
      | @cons _ _ e es _ _ x1 x2 =>
        rw [we,aga] at h1
        rw [tM] at h2
        refine P5 (pO n e v _ _ _ _ h1.1 (by lia) x1 ?_)
        simp only [amN,ai3,alc]
        exact abN ⟨rfl,rfl,es,_,h1.2,by lia,x2⟩
     . rintro ⟨r1,r2⟩ s' ⟨hq,rfl,_⟩
       have hq:r1=none:=hq
       subst hq
       exact abN h
 | _,.none,_,_,_,_,_,hk,_,_,_|_,.str _,_,_,_,_,_,hk,_,_,_|_,.list _,_,_,_,_,_,hk,_,_,_|_,.dict _,_,_,_,_,_,hk,_,_,_=>by rw [kd] at hk<;>first|cases hk|nofun
theorem FC {a b:Addr} {d e:PyData} {as bs:List Addr} {A:Around} {s:Shared} {Q:Bool->Shared->Prop} (ra:Reads s.heap (.ref a) d as) (rb:Reads s.heap (.ref b) e bs) (ha:SeqAt.shaped d=true) (hb:SeqAt.shaped e=true) (ka:kd d=true) (kb:kd e=true) (hu:A.units+64<cLine)
   (h:Q (PyData.eqv d e) s):wpAny (model prog w) A (eqBool (.ref a) (.ref b)) Q E s:=by
 unfold eqBool
 try with_reducible refine akI ?_
 show wpAny _ _ (if (Value.ref a == Value.ref b)=true then _ else _) Q E s
 by_cases MS:(Value.ref a == Value.ref b)=true
 .
  rw [ady MS]
  have z:a=b:=by have:=eq_of_beq MS;injection this
  subst z
  obtain rfl:=(Reads.unique ra _ _ rb).1
  rw [(uX d d ka ka).mpr rfl] at h
  exact P5 (wpAny_rule (abN h))
 . rw [ac9 MS]
   exact P5 (show wpAny _ _ (compareOp .Eq (.ref a) (.ref b)) _ _ _ from SeqAt.compareEq_shaped ra rb ha hb hu (ail h))
end
mutual
theorem mw {h h':Heap} (hk:∀ b o,h.get? b=some o->∀ n vs,o.data = .seq vs n->h'.get? b=some o):∀ (d:PyData) {v:Value} {as:List Addr},kd d=true->Reads h v d as->Reads h' v d as
 | _,_,_,_,.none => .none
 | _,_,_,_,.bool b => .bool b
 | _,_,_,_,.int i t => .int i t
 | _,_,_,_,.str x t => .str x t
 | _,_,_,k,.tuple h1 h2 h3 h4 => .tuple (hk _ _ h1 _ _ h3) h2 h3 (pJ hk _ k h4)
 | _,_,_,k,.list h1 h2 h3 h4=>by rw [kd] at k<;>first|cases k|nofun
 | _,_,_,k,.dict h1 h2 h3 h4 h5=>by rw [kd] at k<;>first|cases k|nofun
theorem pJ {h h':Heap} (hk:∀ b o,h.get? b=some o->∀ n vs,o.data = .seq vs n->h'.get? b=some o):∀ (ds:List PyData) {vs:List Value} {as:List Addr},we ds=true->ReadsAll h vs ds as->ReadsAll h' vs ds as
 | _,_,_,_,.nil => .nil
 | _,_,_,k,.cons h1 h2 => .cons (mw hk _ (Bool.and_eq_true_iff.mp k).1 h1) (pJ hk _ (Bool.and_eq_true_iff.mp k).2 h2)
end
noncomputable instance:DecidableEq PyData:=λ a b=>Classical.propDecidable (a=b)
def rj (h:Heap) (k:PyData) (a:Addr):Prop:=∃ d as,Reads h (.ref a) d as/\kd d=true/\SeqAt.shaped d=true/\sQ d<=8/\qA d=k
noncomputable def gR (prog:Program) (w:World):HeapKind prog w PyData where
 is:=rj
 hash:=pj
 draws:=px
 room:=λ A=>A.units+64<cLine
 inj:=λ ⟨d,_,r,_,_,_,e⟩ ⟨d',_,r',_,_,_,e'⟩=>by
   obtain rfl:=(Reads.unique r _ _ r').1
   exact e.symm.trans e'
 keeps:=λ {h h' k a d o es ep} x ho hd hs=>by
   obtain ⟨x,as,r,k1,k2,k3,e⟩:=x
   refine ⟨x,as,mw (λ b ob q m vs hv=>?_) x k1 r,k1,k2,k3,e⟩
   rw [hs.2 b λ z=>?_]
   . exact q
   . subst z
     rw [ho] at q
     cases q
     rw [hd] at hv
     cases hv
 pyHash:=λ {A E s k a Q} hu ⟨d,as,r,k1,k2,k3,e⟩ h=>by
   subst e
   rw [ui d k1,tX d] at h
   exact rP d _ as A s Q k1 r (by lia) h
 eqBool:=λ {A E s x y a b Q} hu ⟨d,as,r,k1,k2,k3,e⟩ ⟨d',Zw,r',k1',k2',k3',e'⟩ h=>by
   subst e e'
   refine FC r r' k2 k2' k1 k1' hu ?_
   have q:PyData.eqv d d'=decide (qA d=qA d'):=by
     rw [akN,decide_eq_true_iff]
     exact uX d d' k1 k1'
   rw [q]
   exact h
 quiet:=λ {A E s k a Q} ⟨d,as,r,k1,k2,k3,e⟩ h=>pO 8 d _ as A s Q k1 k3 r h
end PySem
namespace L2
open PySem PySem.Spec PyProof.Rows Mth
variable {D pk pl pq:Addr} {H H':Hp} {L L' qs:List Addr} {c c' cur:Nat} {l:List Nat} {o:HO} {v:V} {xs ys:List V}
mutual
theorem As:∀ d:PyData,kd d=true->eY d=true
 | .bool _,_=>by simp [eY]
 | .int _,_=>by simp [eY]
 | .tuple ds,h=>kL.mpr (xC ds h)
 | .none,h | .str _,h | .list _,h | .dict _,h=>by rw [kd] at h<;>first|cases h|nofun
theorem xC:∀ ds:List PyData,we ds=true->∀ d∈ds,eY d=true
 | [],_,d,h=>absurd h aaI
 | e::ds,h,d,m=>by
   rw [we,aga] at h
   rcases List.mem_cons.mp m with z|z
   . rw [z];exact As e h.1
   . exact xC ds h.2 d z
end
def gb (K:W.Frag) (H:Hp) (k:PyData) (b:Addr):Prop:=∃ d,Dn K H d (.ref b)/\kd d=true/\SeqAt.shaped d=true/\sQ d<=8/\qA d=k
theorem gb.ts {K:W.Frag} {k:PyData} {b:Addr} (s:aI K H H') (h:gb K H k b):gb K H' k b:=by
 obtain ⟨d,h1,h2,h3,h4,h5⟩:=h
 exact ⟨d,Dn.ts s d (As d h2) h1,h2,h3,h4,h5⟩
section
variable {X:Cx} {pins:List (Addr×Obj)} {U:St} {H:Hp} {s:Shared}
theorem gb.is {k:PyData} {b:Addr} (I:Inv X pins U H s) (h:gb X.K H k b):rj s.heap k b:=by
 obtain ⟨d,h1,h2,h3,h4,h5⟩:=h
 obtain ⟨as,r⟩:=I.reads d h1 rfl
 exact ⟨d,as,r,h2,h3,h4,h5⟩
end
abbrev mQ:=List (PyData×Addr×V)
abbrev XR:mQ->List (PyData×Addr×Value)->Prop:=Paired λ p q=>p.1=q.1/\p.2.1=q.2.1/\RelV p.2.2 q.2.2
def DxP (P:Program) (w:World) (a:Addr) (ax:mQ) (h:Heap):Prop:=ax.length<=sizeLine/\(a == sysModules)=false/\∃ xs,XR ax xs /\
 ∃ o es ep,h.get? a=some o/\o.ExactDict/\o.data = .dict es ep/\es.toList=xs.map (entryOfKey (gR P w))/\(xs.map (·.1)).Nodup
def jV (P:Program) (w:World) (a:Addr) (ax:mQ):HO:=.ext (DxP P w a ax)
theorem DO {P:Program} {w:World} {h:Heap} {a:Addr} {ax:mQ} (x:DxP P w a ax h):cO P w H h a (jV P w a ax):=by
 refine ⟨x,?_,λ h1 h2 ⟨z,y,xs,r,o,es,ep,e,q⟩ k=>⟨z,y,xs,r,o,es,ep,k o e,q⟩⟩
 obtain ⟨_,_,_,_,o,_,_,e,_⟩:=x
 exact ⟨o,e⟩
noncomputable def gZ (ax:mQ) (k:PyData):Option V:=(ax.find? λ x=>decide (x.1=k)).map (·.2.2)
noncomputable def fj (ax:mQ) (k:PyData) (b:Addr) (v:V):mQ:=if (gZ ax k).isSome then ax.map λ x=>if x.1=k then (x.1,x.2.1,v) else x else ax++[(k,b,v)]
theorem rR {ax:mQ} {xs:List (PyData×Addr×Value)} (r:XR ax xs) (k:PyData):jY (gZ ax k) ((atKey xs k).map (·.2)):=by
 induction r with
 | nil=>exact True.intro
 | @cons p q ps qs h t ih =>
   obtain ⟨h1,h2,h3⟩:=h
   unfold gZ atKey at ih ⊢
   rw [agv,agv,h1]
   by_cases e:q.1=k
   . rw [adD e];exact h3
   . rw [ac7 e];exact ih
theorem FB {ax:mQ} {xs:List (PyData×Addr×Value)} (r:XR ax xs) (k:PyData) {b:Addr} {u:Value} (rv:RelV v u):XR (fj ax k b v) (storedH xs k b u):=by
 unfold fj storedH
 have e:(gZ ax k).isSome=(atKey xs k).isSome:=by rw [(rR r k).oG,ama]
 rw [e]
 by_cases q:(atKey xs k).isSome=true
 .
  rw [ady q,ady q]
  clear e q
  induction r with
  | nil=>exact .nil
  | @cons p q ps qs h t ih =>
    refine .cons ?_ ih
    obtain ⟨h1,h2,h3⟩:=h
    unfold putAt
    dsimp only
    by_cases e:q.1=k
    . rw [ady e,ady (h1.trans e)];exact ⟨h1,h2,rv⟩
    . rw [ac9 e,ac9 (λ z=>e (h1.symm.trans z))];exact ⟨h1,h2,h3⟩
 . rw [ac9 q,ac9 q]
   exact aly r ⟨rfl,rfl,rv⟩
theorem sE (ax:mQ) (k:PyData) (b:Addr) (v:V):(fj ax k b v).length<=ax.length+1:=by
 unfold fj
 split<;>simp
theorem Fh {ax:mQ} {k:PyData} {b:Addr} {e:PyData×Addr×V} (h:e∈fj ax k b v):(∃ e'∈ax,e'.1=e.1/\e'.2.1=e.2.1)∨e=(k,b,v):=by
 unfold fj at h
 split at h
 . obtain ⟨x,hx,rfl⟩:=List.mem_map.mp h
   refine .inl ⟨x,hx,?_⟩
   split<;>exact ⟨rfl,rfl⟩
 . rcases List.mem_append.mp h with z|z
   . exact .inl ⟨e,z,rfl,rfl⟩
   . exact .inr (List.mem_singleton.mp z)
theorem kJ (ax:mQ) (k k':PyData) (b:Addr) (v:V):gZ (fj ax k b v) k'=if k'=k then some v else gZ ax k':=by
 unfold fj
 by_cases q:(gZ ax k).isSome=true
 .
  rw [ady q]
  by_cases e:k'=k
  .
   rw [ady e]
   subst e
   induction ax with
   | nil=>simp [gZ] at q
   | cons x ax ih =>
     unfold gZ at ih q ⊢
     rw [ael,agv]
     by_cases z:x.1=k'
     . rw [ady z,adD z];rfl
     . rw [ac9 z,ac7 z]
       rw [agv,ac7 z] at q
       exact ih q
  .
   rw [ac9 e]
   clear q
   induction ax with
   | nil=>rfl
   | cons x ax ih =>
     unfold gZ at ih ⊢
     rw [ael,agv,agv]
     by_cases z:x.1=k
     . rw [ady z,ac7 (λ y:x.1=k'=>e (y.symm.trans z))]
       exact ih
     . rw [ac9 z]
       by_cases z':x.1=k'
       . rw [adD z']
       . rw [ac7 z']
         exact ih
 .
  rw [ac9 q]
  have q:gZ ax k=none:=by simpa using q
  unfold gZ at q ⊢
  rw [List.find?_append]
  by_cases e:k'=k
  . rw [ady e,e]
    have z:(ax.find? λ x=>decide (x.1=k))=none:=by simpa using q
    rw [z,agv,adD rfl]
    rfl
  . rw [ac9 e,agv,ac7 (λ y=>e y.symm),List.find?_nil,Option.or_none]
structure gY (P:Program) (w:World) (K:W.Frag) (H:Hp) (a:Addr) (ax:mQ):Prop where
 ob:H a=some (jV P w a ax)
 keys:∀ e∈ax,gb K H e.1 e.2.1
theorem gY.nil {P:Program} {w:World} {K:W.Frag} {a:Addr} (h:H a=some (jV P w a [])):gY P w K H a []:=⟨h,λ _ h=>absurd h aaI⟩
theorem gY.dI {P:Program} {w:World} {K:W.Frag} {a:Addr} {ax:mQ} (x:gY P w K H a ax) (ts:aI K H H') (e:H' a=H a):gY P w K H' a ax:=⟨e.trans x.ob,λ y hy=>(x.keys y hy).ts ts⟩
theorem gY.same {P:Program} {w:World} {K:W.Frag} {a:Addr} {ax:mQ} (x:gY P w K H a ax) (s:aC H H'):gY P w K H' a ax:=⟨s _ _ x.ob,λ y hy=>(x.keys y hy).ts s.ts⟩
theorem gY.put {P:Program} {w:World} {K:W.Frag} {a b:Addr} {ax:mQ} {k:PyData} (x:gY P w K H a ax) (hk:gb K H k b):gY P w K (upd H a (jV P w a (fj ax k b v))) a (fj ax k b v):=by
 have ts:aI K H (upd H a (jV P w a (fj ax k b v))):=bH x.ob rfl
 refine ⟨af,λ e he=>?_⟩
 rcases Fh he with ⟨e',m,e1,e2⟩|rfl
 . rw [← e1,← e2];exact (x.keys e' m).ts ts
 . exact hk.ts ts
section
variable {X:Cx} {pins:List (Addr×Obj)} {U:St} {H:Hp} {s:Shared} {a b:Addr} {ax:mQ} {k:PyData} {v:V}
theorem gY.dict (I:Inv X pins U H s) (x:gY X.prog X.w X.K H a ax):ax.length<=sizeLine/\(a == sysModules)=false/\∃ xs,XR ax xs/\s.heap.DictOfH (gR X.prog X.w) a xs:=by
 obtain ⟨z,y,xs,r,o,es,ep,h1,h2,h3,h4,h5⟩:=(show cO X.prog X.w H s.heap a (jV X.prog X.w a ax) from I.cQ a _ x.ob).1
 refine ⟨z,y,xs,r,o,es,ep,h1,h2,h3,h4,λ e he=>?_,h5⟩
 have all:∀ {l:mQ} {m:List (PyData×Addr×Value)},XR l m->(∀ e∈l,gb X.K H e.1 e.2.1)->∀ x∈m,rj s.heap x.1 x.2.1:=by
   intro l m q
   induction q with
   | nil=>intro _ x hx;exact absurd hx aaI
   | @cons p q ps qs hq t ih =>
     intro hl x hx
     rcases List.mem_cons.mp hx with e|hx
     . subst e
       rw [← hq.1,← hq.2.1]
       exact (hl p abQ).is I
     . exact ih (λ e he=>hl e (aaS _ he)) x hx
 exact all r x.keys e he
theorem vd {A:Around} {P:Program} {w:World} (hu:A.units+65<cLine):(gR P w).room A.in1:=by
 show A.in1.units+64<cLine
 rw [alo]
 lia
end
def Op (P:Program) (w:World) (K:W.Frag) (td ty:TE):TE:=λ U H Q=>td U H λ x H1=>ty U H1 λ y H2=>∃ a b ax k v,x = .ref a/\y = .ref b/\gY P w K H2 a ax/\gb K H2 k b/\gZ ax k=some v/\Q v H2
inductive Ir (P:Program) (w:World) (K:W.Frag) (y:V) (x:V) (H:Hp) (Q:VK):Prop
 | mk (a b ax k:_) (_:x = .ref a) (_:y = .ref b) (_:gY P w K H a ax) (_:gb K H k b) (_:Q (.bl (!(gZ ax k).isSome)) H)
def On (P:Program) (w:World) (K:W.Frag) (td ty tv:TE):TS:=λ D U H=>tv U H λ v H1=>td U H1 λ x H2=>ty U H2 λ y H3=>∃ a b ax k,x = .ref a/\y = .ref b/\gY P w K H3 a ax/\gb K H3 k b/\ax.length<sizeLine /\
 D.nx U (upd H3 a (jV P w a (fj ax k b v)))
def PU (P:Program) (w:World):TE:=λ _ H Q=>∀ p,H p=none->Q (.ref p) (upd H p (jV P w p []))
theorem cI.Gm {k:Nat} {A:Around} (r:cI k A):A.units+65<cLine:=by have:=r.un;lia
section
variable {X:Cx} {o i e value:Expr} {pos pos' nE:Pos} {td ty tv:TE} {P:Program} {w:World} {K:W.Frag}
theorem A0 (hP:X.prog=P) (hw:X.w=w):PE X (.Dict [] [] pos) (PU P w):=by
 subst hP hw
 exact λ pins s U H Q I h=>wpAny_Dict_empty ⟨.ref s.heap.objs.size,_,I.laid (a:=s.heap.objs.size) (o:=jV X.prog X.w s.heap.objs.size []) (t':=s.toks) (λ _ _ q=>abA _ q) (aaU _)
   (DO ⟨aeU _,beq_eq_false_iff_ne.mpr (alk (ad8 I.big)),[],.nil,_,#[],0,aep _ rfl,⟨rfl,rfl,rfl⟩,rfl,rfl,ald⟩),rfl,h _ (I.cQ.fresh (aaU _))⟩
theorem kP (hP:X.prog=P) (hw:X.w=w) (hK:X.K=K) (hu:X.A.units+65<cLine) (ho:PE X o td) (hi:PE X i ty) (hs:Sa i):PE X (.Subscript o i pos) (Op P w K td ty):=by
 subst hP hw hK
 intro pins s U H Q I h
 refine IU PySem.F.slot_dict_getitem.lookup hs (cD (ho pins s U H _ I h) λ u s1 ⟨x,H1,I1,rx,q1⟩=>cD (hi pins s1 U H1 _ I1 q1) λ iv s2 ⟨y,H2,I2,ry,a,b,ax,k,v,ex,ey,g,hk,hv,q2⟩=>?_)
 subst ex ey
 obtain rfl:u=Value.ref a:=rx
 obtain rfl:iv=Value.ref b:=ry
 obtain ⟨z,hd,xs,rel,dd⟩:=g.dict I2
 refine ⟨dd.typeIs,?_⟩
 obtain ⟨w',hw,yQ⟩:=jY.some_of (v:=v) (o:=(atKey xs k).map (·.2)) (by rw [← hv];exact rR rel k)
 obtain ⟨p,hp,yf⟩:=Option.map_eq_some_iff.mp hw
 refine wpAny_getItem_heap (vd hu) (hk.is I2) dd hp ?_
 rw [yf]
 exact ⟨v,H2,I2.tok _,yQ,q2⟩
theorem ux (hP:X.prog=P) (hw:X.w=w) (hK:X.K=K) (hu:X.A.units+65<cLine):iO X (compareOp .NotIn) (Ir P w K):=by
 subst hP hw hK
 intro pins s U H x y v u Q I rx ry h
 obtain ⟨a,b,ax,k,rfl,rfl,g,hk,q2⟩:=h
 obtain rfl:u=Value.ref a:=ry
 obtain rfl:v=Value.ref b:=rx
 obtain ⟨z,hd,xs,rel,dd⟩:=g.dict I
 refine wpAny_notIn_heap (vd hu) (hk.is I) hd dd ⟨.bl _,H,I.tok _,?_,q2⟩
 have q:=(rR rel k).oG
 rw [ama] at q
 rw [q]
 rfl
theorem Ai (hP:X.prog=P) (hw:X.w=w) (hK:X.K=K) (hu:X.A.units+65<cLine) (ho:PE X o td) (hi:PE X i ty) (hv:PE X value tv) (hs:swapsWith value (some (.Subscript o i pos')) pos.line X.env=pure false) :
   PS X (.Assign [.Subscript o i pos'] value pos) (On P w K td ty tv):=by
 subst hP hw hK
 intro pins s U H D I h
 refine wpAny_Assign_Subscript (cD (hv pins s U H _ I h) λ r s1 ⟨v,H1,I1,rv,q1⟩=>cD (ho pins s1 U H1 _ I1 q1) λ u s2 ⟨x,H2,I2,rx,q2⟩=>cD (hi pins s2 U H2 _ I2 q2) λ iv s3 ⟨y,H3,I3,ry,a,b,ax,k,ex,ey,g,hk,hl,q3⟩=>?_) hs
 subst ex ey
 obtain rfl:u=Value.ref a:=rx
 obtain rfl:iv=Value.ref b:=ry
 obtain ⟨z,hd,xs,rel,dd⟩:=g.dict I3
 have hz:xs.length<=sizeLine:=by rw [← akU rel];exact z
 have wj:(fj ax k b v).length<=sizeLine:=acS (sE ax k b v) hl
 refine wpAny_setItem_heap (hsz:=hz) (vd hu) (hk.is I3) dd λ h' F5 hs=>⟨U,_,?_,q3⟩
 obtain ⟨q,es,ep,hq,h2,h3,h4,_,h5⟩:=F5
 exact uG I3 (by rw [g.ob];exact True.intro) hs ⟨q,hq⟩ (DO ⟨wj,hd,_,FB rel k rv,q,es,ep,hq,h2,h3,h4,h5⟩)
end
section
variable {X:Cx}
inductive aiG (K:W.Frag) (x:V) (y:V) (H:Hp) (Q:VK):Prop
 | mk (p xs:_) (_:x = .cf) (_:y = .ref p) (_:aR K H p xs) (_:(∀ v∈xs,v = .cf∨∃ a ys,v = .ref a/\aR K H a ys)) (_:Q (.bl (decide (V.cf∈xs))) H)
theorem DP {s:Shared} {pins:List (Addr×Obj)} {U:St} (I:Inv X pins U H s) (hu:X.A.units+1<cLine):∀ {xs:List V} {bg:List Value},Vals xs bg->(∀ v∈xs,v = .cf∨∃ a ys,v = .ref a/\aR X.K H a ys) ->
   (∀ u∈bg,SeqAt.EqAt X.A.in1 s u .none (u == Value.none))/\(bg.any λ u=>u == Value.none)=decide (V.cf∈xs)
 | _,_,.nil,_=>⟨λ _ h=>absurd h aaI,rfl⟩
 | x::xs,u::bg,.cons r t,h=>by
   obtain ⟨i1,i2⟩:=DP I hu t λ v hv=>h v (aaS _ hv)
   rcases h x abQ with rfl|⟨a,ys,rfl,hq⟩
   .
    obtain rfl:u=Value.none:=r
    refine ⟨λ w hw=>?_,?_⟩
    . rcases List.mem_cons.mp hw with e|hw
      . rw [e];exact SeqAt.EqAt.same _
      . exact i1 w hw
    . rw [alE,adD (show V.cf∈V.cf::xs from abQ)]
      rfl
   .
    obtain rfl:u=Value.ref a:=r
    obtain ⟨jts,_,pl,_⟩:=I.list hq
    refine ⟨λ w hw=>?_,?_⟩
    . rcases List.mem_cons.mp hw with e|hw
      . rw [e];exact SeqAt.EqAt.list_none pl.isList (by rw [alo];exact hu)
      . exact i1 w hw
    . rw [alE,i2]
      have e:(V.cf∈V.ref a::xs)↔V.cf∈xs:=by simp
      rw [show (Value.ref a == Value.none)=false from rfl,Bool.false_or]
      exact (decide_eq_decide.mpr e).symm
theorem Ky (hu:X.A.units+1<cLine):iO X (compareOp .In) (aiG X.K):=by
 intro pins s U H x y v u Q I rx ry h
 obtain ⟨p,xs,rfl,rfl,hq,hx,q⟩:=h
 obtain rfl:u=Value.ref p:=ry
 obtain rfl:v=Value.none:=rx
 obtain ⟨bg,r,pl,hz⟩:=I.list hq
 obtain ⟨h1,h2⟩:=DP I hu r hx
 refine SeqAt.in_listAt (λ u=>u == Value.none) pl.isList (λ w hw=>h1 w (by simpa using hw)) ⟨.bl _,H,I,rfl,?_⟩
 rw [show (bg.toArray.any λ u=>u == Value.none)=(bg.any λ u=>u == Value.none) by simp,h2]
 exact q
inductive Kc (K:W.Frag) (x:V) (y:V) (H:Hp) (Q:VK):Prop
 | mk (a b xs ys:_) (_:x = .ref a) (_:y = .ref b) (_:bO K H a xs) (_:bO K H b ys) (_:xs.length+ys.length<=sizeLine) (_:∀ q H',aC H H'->bO K H' q (xs++ys)->Q (.ref q) H')
theorem u0:iO X (binaryOp .Add) (Kc X.K):=by
 intro pins s U H x y v u Q I rx ry h
 obtain ⟨a,b,xs,ys,rfl,rfl,ha,hb,hz,qq⟩:=h
 by_cases hx:xs=[]
 .
  cases rx
  cases ry
  obtain ⟨bg,r1,p1,_⟩:=I.tuple ha
  obtain ⟨mm,r2,p2,_⟩:=I.tuple hb
  obtain ⟨⟨cls,dd,data,sl⟩,ho,hc,n,hd⟩:=id p1
  obtain ⟨⟨abB,LK,data2,J2⟩,KL,LM,n2,hd2⟩:=id p2
  simp only at hc hd LM hd2
  subst hc hd LM hd2
  have e0:bg=[]:=r1.qG.mpr hx
  refine concat_meets ⟨_,ho,rfl⟩ ⟨_,KL,rfl⟩ amI seq_tuple_add alK alB (alw _ _)
    (tuple_addW0 a b bg.toArray mm.toArray n n2 dd LK sl J2 (by rw [e0];rfl)) ⟨ho,KL,⟨.ref b,H,I,rfl,qq b H (aC.refl _) (by rw [hx];exact hb)⟩⟩
 . exact Jj pins s U H _ _ v u Q I rx ry ⟨a,b,xs,ys,rfl,rfl,ha,hb,hx,hz,λ e=>qq a H (aC.refl _) (by rw [e,ahG];exact ha),λ _ p hp=>qq p _ (ak hp) (bO.of af)⟩
theorem xJ {K:W.Frag} (hK:X.K=K):iO X (binaryOp .Add) (Kc K):=by subst hK;exact u0
end
abbrev rfs (h d:Addr):List (Str×V):=[("hold",.ref h),("spreads",.ref d)]
def dG (m:ao) (i:Nat) (bs:List Nat) (fired:Bool):Option (List Nat) :=
 if lA (m.rows.getD i []) (kH m i bs fired) (kc m i bs fired)=true then some (oE (m.rows.getD i []) (kH m i bs fired) (kc m i bs fired)) else none
def eA (L:List Addr) (H:Hp) (v:V):Option (List Nat)->Prop
 | none=>v = .cf
 | some l=>∃ q,v = .ref q/\q∉L/\H q=some (.lst (l.map al))
def jX (i:Nat) (bs:List Nat) (f:Bool):PyData:=.tuple [.int i,.tuple (bs.map iY),.int (if f then 1 else 0)]
theorem rL:∀ l:List Nat,we (l.map iY)=true
 | []=>rfl
 | _::l=>by rw [ael,we,rL l];rfl
theorem oK:∀ l:List Nat,lL (l.map iY)=l.map iY
 | []=>rfl
 | _::l=>by rw [ael,lL,oK l];rfl
theorem oC:∀ l:List Nat,tM (l.map iY)=0
 | []=>rfl
 | _::l=>by rw [ael,tM,oC l];rfl
theorem kI:∀ {l r:List Nat},l.map iY=r.map iY->l=r
 | [],[],_=>rfl
 | [],_::_,h=>by cases h
 | _::_,[],h=>by cases h
 | a::l,b::r,h=>by
   obtain ⟨h1,h2⟩:=akP h
   have h1:(a:Int)=(b:Int):=alL h1
   rw [kI h2,al5 h1]
theorem EC {i i':Nat} {bs N7:List Nat} {f f':Bool} (h:jX i bs f=jX i' N7 f'):i=i'/\bs=N7/\f=f':=by
 have h:=ala h
 obtain ⟨h1,h⟩:=akP h
 obtain ⟨h2,h⟩:=akP h
 obtain ⟨h3,_⟩:=akP h
 refine ⟨al5 (alL h1),kI (ala h2),?_⟩
 cases f<;>cases f'<;>first|rfl|(exact absurd (alL h3) (by decide))
theorem nK {n:Nat}:K4 (n+1) (.tuple (l.map iY)):=by
 intro d hd
 obtain ⟨i,_,rfl⟩:=List.mem_map.mp hd
 cases n<;>exact trivial
section
variable {K:W.Frag} {H H':Hp}
theorem m6 {p:Addr} (h:bO K H p (l.map al)):Dn K H (.tuple (l.map iY)) (.ref p):=gU h (sg l)
theorem zG {p pb:Addr} {i:Nat} {bs:List Nat} {f:Bool} (h:bO K H p [al i,.ref pb,.bl f]) (hb:bO K H pb (bs.map al)):gb K H (jX i bs f) p:=by
 refine ⟨.tuple [.int i,.tuple (bs.map iY),.bool f],gU h (bh rfl (bh (m6 hb) (bh rfl eK))),?_,sr (n:=2) ?_ (by decide),?_,?_⟩
 . simp only [kd,we,rL];rfl
 .
  intro d hd
  simp only [aa1,aaI,afj] at hd
  rcases hd with rfl|rfl|rfl
  . exact trivial
  . exact nK
  . exact trivial
 . simp only [sQ,tM,oC];decide
 . simp only [qA,lL,oK];rfl
theorem eA.but {d:Addr} {r:Option (List Nat)} (hd:H d=some o) (no:∀ xs,o ≠ .lst xs) (b:∀ c u,H c=some u->c≠d->c∉L->H' c=some u) (hL:∀ c∈L',c∈L) (h:eA L H v r):eA L' H' v r:=by
 cases r with
 | none=>exact h
 | some l =>
   obtain ⟨q,e,n,hq⟩:=h
   exact ⟨q,e,λ z=>n (hL q z),b q _ hq (λ z=>by rw [z,hd] at hq;exact no _ (abG hq)) n⟩
theorem eA.same {r:Option (List Nat)} (s:aC H H') (h:eA L H v r):eA L H' v r:=by
 cases r with
 | none=>exact h
 | some l =>
   obtain ⟨q,e,n,hq⟩:=h
   exact ⟨q,e,n,s _ _ hq⟩
theorem eA.new {r:Option (List Nat)} (hD:H D=none) (h:eA L H v r):eA (D::L) H v r:=by
 cases r with
 | none=>exact h
 | some l =>
   obtain ⟨q,e,n,hq⟩:=h
   exact ⟨q,e,λ z=>(List.mem_cons.mp z).elim (λ z=>by rw [z,hD] at hq;cases hq) n,hq⟩
end
theorem mN {P:Program} {w:World} {a:Addr} {ax:mQ} (xs:List V):jV P w a ax ≠ .lst xs:=λ h=>by cases h
structure dM (P:Program) (w:World) (K:W.Frag) (C CR:Addr) (L:List Addr) (H:Hp) (x d a:Addr) (fp:List Addr) (m:ao) (c:Nat):Prop where
 ins:∃ dx,H x=some (.ins CR dx (rfs a d))
 hold:aL K C H a fp m
 nd:d∉fp
 Mj:∃ ax,gY P w K H d ax/\ax.length<=c/\∀ i bs f v,gZ ax (jX i bs f)=some v->eA L H v (dG m i bs f)
section
variable {P:Program} {w:World} {K:W.Frag} {C CR:Addr} {L L':List Addr} {H H':Hp} {x d a:Addr} {fp:List Addr} {m:ao} {c:Nat}
theorem dM.same (r:dM P w K C CR L H x d a fp m c) (s:aC H H'):dM P w K C CR L H' x d a fp m c:=by
 obtain ⟨⟨dx,hx⟩,hh,nd,ax,hk,hl,hv⟩:=r
 exact ⟨⟨dx,s _ _ hx⟩,hh.same s,nd,ax,hk.same s,hl,λ i bs f v e=>(hv i bs f v e).same s⟩
theorem dM.more (r:dM P w K C CR L H x d a fp m c) (h:c<=c'):dM P w K C CR L H x d a fp m c':=by
 obtain ⟨i,hh,nd,ax,hk,hl,hv⟩:=r
 exact ⟨i,hh,nd,ax,hk,acS hl h,hv⟩
theorem dM.less (r:dM P w K C CR L H x d a fp m c) (h:∀ b∈L',b∈L):dM P w K C CR L' H x d a fp m c:=by
 obtain ⟨i,hh,nd,ax,hk,hl,hv⟩:=r
 exact ⟨i,hh,nd,ax,hk,hl,λ i bs f v e=>(hv i bs f v e).but hk.ob mN (λ _ _ e _ _=>e) h⟩
theorem dM.new (r:dM P w K C CR L H x d a fp m c) (h:H D=none):dM P w K C CR (D::L) H x d a fp m c:=by
 obtain ⟨i,hh,nd,ax,hk,hl,hv⟩:=r
 exact ⟨i,hh,nd,ax,hk,hl,λ i bs f v e=>(hv i bs f v e).new h⟩
theorem dM.write (r:dM P w K C CR L H x d a fp m c) (h:H D=some (.lst xs)) (hD:D∈L) (nf:D∉fp):dM P w K C CR L (upd H D (.lst ys)) x d a fp m c:=by
 obtain ⟨⟨dx,hx⟩,hh,nd,ax,hk,hl,hv⟩:=r
 have ts:aI K H (upd H D (.lst ys)):=bH h rfl
 have bu:∀ b o,H b=some o->b≠D->(upd H D (.lst ys)) b=some o:=λ b o e n=>by rw [aq n];exact e
 have nx:x≠D:=λ z=>by rw [z,h] at hx;cases hx
 have nD:d≠D:=λ z=>by have:=hk.ob;rw [z,h] at this;cases this
 exact ⟨⟨dx,bu _ _ hx nx⟩,hh.Hz bu ts nf,nd,ax,hk.dI ts (aq nD),hl,λ i bs f v e=>(hv i bs f v e).but hk.ob mN (λ b o e _ n=>bu b o e λ z=>n (z ▸ hD)) λ _ h=>h⟩
theorem dM.put (r:dM P w K C CR L H x d a fp m c) {ax:mQ} {i:Nat} {bs:List Nat} {f:Bool} {b:Addr} (hk:gY P w K H d ax) (hl:ax.length<=c) (hv:∀ i bs f v,gZ ax (jX i bs f)=some v->eA L H v (dG m i bs f)) (hb:gb K H (jX i bs f) b) (hs:eA L H v (dG m i bs f)) :
   dM P w K C CR L (upd H d (jV P w d (fj ax (jX i bs f) b v))) x d a fp m (c+1)/\f8 [d] H (upd H d (jV P w d (fj ax (jX i bs f) b v)))/\aI K H (upd H d (jV P w d (fj ax (jX i bs f) b v)))/\eA L (upd H d (jV P w d (fj ax (jX i bs f) b v))) v (dG m i bs f):=by
 obtain ⟨⟨dx,hx⟩,hh,nd,_⟩:=r
 have bu:∀ b' o,H b'=some o->b'≠d->(upd H d (jV P w d (fj ax (jX i bs f) b v))) b'=some o:=λ c o e n=>by rw [aq n];exact e
 have ts:aI K H (upd H d (jV P w d (fj ax (jX i bs f) b v))):=bH hk.ob rfl
 have nx:x≠d:=λ z=>by rw [z,hk.ob] at hx;cases hx
 refine ⟨⟨⟨dx,by rw [aq nx];exact hx⟩,hh.Hz bu ts nd,nd,_,hk.put hb,acS (sE ..) (alG hl),λ i' N7 f' v' e=>?_⟩,λ c o e n=>bu c o e λ z=>n (List.mem_singleton.mpr z),ts,hs.but hk.ob mN (λ c o e n _=>bu c o e n) λ _ h=>h⟩
 rw [kJ] at e
 by_cases q:jX i' N7 f'=jX i bs f
 .
  rw [ady q] at e
  obtain ⟨rfl,rfl,rfl⟩:=EC q
  cases e
  exact hs.but hk.ob mN (λ c o e n _=>bu c o e n) λ _ h=>h
 . rw [ac9 q] at e
   exact (hv i' N7 f' v' e).but hk.ob mN (λ c o e n _=>bu c o e n) λ _ h=>h
end
def bo (rows:List (List Nat)):List (List Nat):=rows.foldl (λ cs row=>cs.flatMap λ c=>row.map λ b=>c++[b]) [[]]
theorem ij (rows:List (List Nat)) (r:List Nat):bo (rows++[r])=(bo rows).flatMap λ c=>r.map λ b=>c++[b]:=by
 unfold bo
 rw [ajV]
 rfl
theorem eG {α β:Type} {k:Nat} {f:α->List β}:∀ {l:List α},(∀ a,(f a).length<=k)->(l.flatMap f).length<=l.length * k
 | [],_=>by simp
 | a::l,h=>by
   rw [List.flatMap_cons,aaE,aeR,Nat.succ_mul]
   have:=eG (l:=l) h
   have:=h a
   lia
theorem iJ {rows:List (List Nat)} (h:∀ r∈rows,r.length<=6):∀ i,(bo (rows.take i)).length<=6 ^ i
 | 0=>by rw [amw];decide
 | i+1=>by
   by_cases hi:i<rows.length
   . rw [List.take_succ_eq_append_getElem hi,ij]
     refine acS (eG (k:=6) λ a=>by rw [zN];exact h _ (acx hi)) ?_
     rw [alq]
     exact akY 6 (iJ h i)
   . have e:rows.take (i+1)=rows.take i:=by rw [agD (by lia),agD (by lia)]
     rw [e,alq]
     have:=iJ h i
     lia
theorem snoc_ind {α:Type} {p:List α->Prop} (h0:p []) (h1:∀ l a,p l->p (l++[a])) (l:List α):p l:=by
 rw [← List.reverse_reverse l]
 induction l.reverse with
 | nil=>exact h0
 | cons a r ih=>rw [List.reverse_cons];exact h1 _ _ ih
theorem iK {rows:List (List Nat)}:∀ {c:List Nat},c∈bo rows↔c.length=rows.length/\∀ i,i<rows.length->c.getD i 0∈rows.getD i []:=by
 refine snoc_ind (p:=λ rows=>∀ {c:List Nat},c∈bo rows↔c.length=rows.length/\∀ i,i<rows.length->c.getD i 0∈rows.getD i []) ?_ ?_ rows
 .
  intro c
  constructor
  . intro h
    have:c=[]:=by simpa [bo] using h
    rw [this]
    exact ⟨rfl,λ i h=>absurd h (ahi _)⟩
  . rintro ⟨h,_⟩
    rw [List.length_eq_zero_iff.mp h]
    simp [bo]
 .
  intro rows r ih c
  rw [ij,List.mem_flatMap]
  constructor
  .
   rintro ⟨a,ha,h⟩
   obtain ⟨b,hb,rfl⟩:=List.mem_map.mp h
   obtain ⟨l,hi⟩:=ih.mp ha
   refine ⟨by rw [aaE,aaE,l];rfl,λ i h=>?_⟩
   rw [aaE,acG] at h
   by_cases e:i<rows.length
   . rw [UZ,UZ,abM (l₁:=a) (by lia),abM e]
     have:=hi i e
     rw [UZ,UZ] at this
     exact this
   . have e:i=rows.length:=by lia
     subst e
     rw [UZ,UZ,← l,aex,l,aex]
     exact hb
  .
   rintro ⟨l,hi⟩
   rw [aaE,acG] at l hi
   have ne:c≠[]:=λ z=>by rw [z] at l;simp at l
   refine ⟨c.dropLast,ih.mpr ⟨by rw [List.length_dropLast,l];rfl,λ i h=>?_⟩,List.mem_map.mpr ⟨c.getLast ne,?_,List.dropLast_concat_getLast ne⟩⟩
   . have:=hi i (by lia)
     rw [UZ,UZ,abM h] at this
     rw [UZ,UZ,List.getElem?_dropLast,ady (by lia)]
     exact this
   .
    have:=hi rows.length (by lia)
    rw [UZ,UZ,aex] at this
    rw [List.getLast_eq_getElem]
    rw [Mq (by lia)] at this
    have e:c.length - 1=rows.length:=by lia
    simp only [e]
    exact this
inductive A7 (a b c d e f g:Prop):Prop|mk (_:a) (_:b) (_:c) (_:d) (_:e) (_:f) (_:g)
inductive A8 (a b c d e f g h:Prop):Prop|mk (_:a) (_:b) (_:c) (_:d) (_:e) (_:f) (_:g) (_:h)
def tf (m:ao) (s:bZ) (b i:Nat):Option (List Nat):=dG m i s.dW (b.testBit i)
def jb (m:ao) (s:bZ) (b:Nat):Bool:=(List.range m.rows.length).all λ i=>(tf m s b i).isSome
def gf (m:ao) (s:bZ) (b:Nat):List (List Nat):=(List.range m.rows.length).map λ i=>(tf m s b i).getD []
def ib (m:ao) (s:bZ) (o out:Nat):List bZ:=(bo (gf m s (Ord.off o out))).map λ c=>s.behind m c o out
def di (m:ao) (s:bZ) (o:Nat):List Nat:=Bit.parts (Bit.rooms (s.may m o))
def qa (m:ao) (s:bZ) (o:Nat):List bZ:=(di m s o).flatMap (ib m s o)
def Refs {α:Type} (R:Addr->α->Prop) (xs:List V) (l:List α):Prop:=Paired (λ v a=>∃ p,v = .ref p/\R p a) xs l
theorem Refs.imp {α:Type} {R S:Addr->α->Prop} {l:List α} (h:Refs R xs l) (f:∀ p a,R p a->S p a):Refs S xs l:=Paired.vW h λ _ _ ⟨p,e,r⟩=>⟨p,e,f p _ r⟩
theorem Refs.nil {α:Type} {R:Addr->α->Prop}:Refs R [] ([]:List α):=Paired.nil
theorem Refs.snoc {α:Type} {R:Addr->α->Prop} {l:List α} {p:Addr} {a:α} (h:Refs R xs l) (r:R p a):Refs R (xs++[.ref p]) (l++[a]):=aly h ⟨p,rfl,r⟩
theorem Refs.append {α:Type} {R:Addr->α->Prop}:∀ {xs ys:List V} {l r:List α},Refs R xs l->Refs R ys r->Refs R (xs++ys) (l++r)
 | _,_,_,_,Paired.nil,h=>h
 | _,_,_,_,Paired.cons a t,h=>Paired.cons a (Refs.append t h)
theorem Refs.length {α:Type} {R:Addr->α->Prop} {l:List α} (h:Refs R xs l):xs.length=l.length:=akU h
theorem Refs.get {α:Type} {R:Addr->α->Prop}:∀ {xs:List V} {l:List α} {i:Nat} {v:V},Refs R xs l->xs[i]?=some v->∃ p a,v = .ref p/\l[i]?=some a/\R p a
 | _,_,_,_,Paired.nil,h=>by simp at h
 | _,_,0,_,Paired.cons ⟨p,e,r⟩ _,h=>by simp at h;exact ⟨p,_,by rw [← h,e],rfl,r⟩
 | _,_,i+1,_,Paired.cons _ t,h=>by
   obtain ⟨p,a,h1,h2,h3⟩:=Refs.get (i:=i) t (by simpa using h)
   exact ⟨p,a,h1,by simpa using h2,h3⟩
abbrev HF (K:W.Frag) (H:Hp):List V->List (List Nat)->Prop:=Refs λ t c=>bO K H t (c.map al)
abbrev lU (K:W.Frag) (H:Hp):List V->List bZ->Prop:=Refs (g7 K H)
def K2 (m:ao) (s:bZ):Prop:=∀ i b,i<m.rows.length->(b=true->m.has i=true)->eT 20000 (kH m i s.dW b)/\eT 20000 (kc m i s.dW b)
section
variable (P:Program) (w:World) (K:W.Frag) (C CR:Addr)
inductive CU  (vs:List V) (H:Hp) (Q:VK) (_E:XK):Prop
 | mk (p1 p2 a b c d:_) (_:vs=[.ref p1,.ref p2]) (_:bO K H p1 [.int a,.int b]) (_:bO K H p2 [.int c,.int d]) (_:Bd 20000 a) (_:Bd 20000 b) (_:Bd 20000 c) (_:Bd 20000 d) (_:Q (.bl (decide (a * d<c * b))) H)
inductive zQ  (vs:List V) (H:Hp) (Q:VK) (_E:XK):Prop
 | mk (a fp m:_) (i:Nat) (r v1 v2 f g:_) (_:vs=[.ref a,al i,v1,v2]) (_:aL K C H a fp m) (_:m.rows[i]?=some r) (_:Dn K H (dS f) v1) (_:Dn K H (dS g) v2) (_:eT 20000 f) (_:eT 20000 g) (_:∀ H',aC H H'->Q (.bl (lA r f g)) H')
inductive BU  (vs:List V) (H:Hp) (Q:VK) (_E:XK):Prop
 | mk (a fp m:_) (i:Nat) (r v1 v2 f g:_) (_:vs=[.ref a,al i,v1,v2]) (_:aL K C H a fp m) (_:m.rows[i]?=some r) (_:Dn K H (dS f) v1) (_:Dn K H (dS g) v2) (_:eT 20000 f) (_:eT 20000 g) (_:∀ p H',H p=none->aC H H'->H' p=some (.lst ((oE r f g).map al))->Q (.ref p) H')
inductive Ae  (vs:List V) (H:Hp) (Q:VK) (_E:XK):Prop
 | mk (p xs rows:_) (_:vs=[.ref p]) (_:aR K H p xs) (_:Refs (λ q (r:List Nat)=>aR K H q (r.map al)) xs rows) (_:rows.length<=4) (_:(∀ r∈rows,r.length<=6)) (_:∀ q ys H',aC H H'->H' q=some (.lst ys)->HF K H' ys (bo rows)->Q (.ref q) H')
inductive BS  (vs:List V) (H:Hp) (Q:VK) (_E:XK):Prop
 | mk (x dx a fp m:_) (_:vs=[.ref x,.ref a]) (_:H x=some (.ins CR dx [])) (_:aL K C H a fp m) (_:x∉fp) (_:∀ d H',f8 [x] H H'->aI K H H'->H d=none->dM P w K C CR [] H' x d a fp m 0->Q .cf H')
inductive BF  (vs:List V) (H:Hp) (Q:VK) (_E:XK):Prop
 | mk (x d a fp m c:_) (i:Nat) (pb bs f L:_) (_:vs=[.ref x,al i,.ref pb,.bl f]) (_:dM P w K C CR L H x d a fp m c) (_:(∀ b∈L,H b≠none)) (_:c<=16000000) (_:i<m.rows.length) (_:bO K H pb (bs.map al)) (_:bs.length=m.rows.length) (_:(∀ j,j<m.rows.length->bs.getD j 0+1<(m.rows.getD j []).length)) (_:(f=true->∃ z,m.aV[i]?=some (some z))) (_:eT 20000 (kH m i bs f)) (_:eT 20000 (kc m i bs f)) (_:∀ v H',f8 [d] H H'->aI K H H'->dM P w K C CR L H' x d a fp m (c+1)->eA L H' v (dG m i bs f)->Q v H')
inductive Co  (vs:List V) (H:Hp) (Q:VK) (_E:XK):Prop
 | mk (x d a fp m c p s:_) (o:Nat) (L:_) (_:vs=[.ref x,.ref p,al o]) (_:dM P w K C CR L H x d a fp m c) (_:(∀ b∈L,H b≠none)) (_:c<=15000000) (_:g7 K H p s) (_:eP m s) (_:o &&& m.ws=o) (_:(∀ out∈di m s o,bV m s o out)) (_:K2 m s) (_:((∃ out∈di m s o,jb m s (Ord.off o out)=false)->∀ H',f8 [d] H H'->aI K H H'->dM P w K C CR L H' x d a fp m (c+64)->Q .cf H')) (_:((∀ out∈di m s o,jb m s (Ord.off o out)=true)->∀ q xs H',H q=none->f8 [d] H H'->aI K H H'->dM P w K C CR L H' x d a fp m (c+64)->H' q=some (.lst xs)->lU K H' xs (qa m s o)->Q (.ref q) H'))
end
theorem AF:∀ {acc:List V} {rs:List (Option (List Nat))},Paired (eA L H) acc rs->∀ v∈acc,v = .cf∨∃ a ys,v = .ref a/\H a=some (.lst ys)
 | _,_,Paired.nil,v,h=>absurd h aaI
 | _,r::_,Paired.cons a t,v,h=>by
   rcases List.mem_cons.mp h with e|h
   . subst e
     cases r with
     | none=>exact .inl a
     | some l=>obtain ⟨q,e,_,hq⟩:=a;exact .inr ⟨q,_,e,hq⟩
   . exact AF t v h
theorem rT:∀ {acc:List V} {rs:List (Option (List Nat))},Paired (eA L H) acc rs->(V.cf∈acc↔none∈rs)
 | _,_,Paired.nil=>by simp
 | _,r::_,Paired.cons a t=>by
   rw [aa1,aa1,rT t]
   cases r with
   | none=>have a:_=V.cf:=a;rw [a];simp
   | some l=>obtain ⟨q,e,_⟩:=a;rw [e];simp
theorem wC:∀ {acc:List V} {rs:List (Option (List Nat))},Paired (eA L H) acc rs->none∉rs->Refs (λ q (r:List Nat)=>H q=some (.lst (r.map al))) acc (rs.map λ r=>r.getD [])
 | _,_,Paired.nil,_=>Paired.nil
 | _,r::_,Paired.cons a t,h=>by
   rw [aa1,akH] at h
   cases r with
   | none=>exact absurd rfl h.1
   | some l=>obtain ⟨q,e,_,hq⟩:=a;exact Paired.cons ⟨q,e,hq⟩ (wC t h.2)
theorem uA {m:ao} {s:bZ} {b:Nat}:none∈(List.range m.rows.length).map (tf m s b)↔jb m s b=false:=by
 unfold jb
 rw [List.all_eq_false,List.mem_map]
 constructor
 . rintro ⟨i,hi,e⟩;exact ⟨i,hi,by rw [e];decide⟩
 . rintro ⟨i,hi,e⟩;exact ⟨i,hi,by simpa using e⟩
theorem Hv (m:ao) (s:bZ) (b:Nat):((List.range m.rows.length).map (tf m s b)).map (λ r=>r.getD [])=gf m s b:=by
 unfold gf
 rw [ak5]
 rfl
theorem wA {m:ao} (wf:m.Wf) {s:bZ} {b:Nat}:∀ r∈gf m s b,r.length<=6:=λ r hr=>by
 obtain ⟨i,hi,rfl⟩:=List.mem_map.mp hr
 have hi:=List.mem_range.mp hi
 have hl:=wf.len _ (acx hi)
 unfold tf dG
 rw [UZ,aE hi]
 split
 .
  have:=j7 m.rows[i] (kH m i s.dW (b.testBit i)) (kc m i s.dW (b.testBit i)) (m.rows[i].length - 1)
  show (oE m.rows[i] _ _).length<=6
  unfold oE
  lia
 . exact aeU _
theorem jo {m:ao} (wf:m.Wf) (h4:m.rows.length<=4) {s:bZ} {o:Nat} (out:Nat):(ib m s o out).length<=1296:=by
 unfold ib
 rw [zN]
 have lr:(gf m s (Ord.off o out)).length=m.rows.length:=by unfold gf;rw [zN,abU]
 have:=iJ (wA wf (s:=s) (b:=Ord.off o out)) 4
 rw [agD (by lia)] at this
 exact this
theorem ni {n:Nat} (h:n<16):(Bit.rooms n).length<=8/\(Bit.parts (Bit.rooms n)).length<=16:=by
 have:∀ b:Fin 16,(Bit.rooms b.val).length<=8/\(Bit.parts (Bit.rooms b.val)).length<=16:=by decide +kernel
 exact this ⟨n,h⟩
theorem fK {K:W.Frag} {p:Addr} {s:bZ} (h:g7 K H p s):gb K H (j6 s) p:=by
 obtain ⟨pb,pw,pf,h0,h1,h2,h3⟩:=h
 refine ⟨j6 s,gU h0 (bh (m6 h1) (bh rfl (bh (m6 h2) (bh (m6 h3) (bh rfl eK))))),?_,sr (n:=2) ?_ (by decide),?_,?_⟩
 . simp only [j6,kd,we,rL];rfl
 .
  intro d hd
  simp only [aa1,aaI,afj] at hd
  rcases hd with rfl|rfl|rfl|rfl|rfl
  . exact nK
  . exact trivial
  . exact nK
  . exact nK
  . exact trivial
 . simp only [j6,sQ,tM,oC,iY];decide
 . simp only [j6,qA,lL,oK];rfl
theorem pe {n:Nat} (h:n<16):Bit.parts (Bit.rooms n)≠[]/\∀ out∈Bit.parts (Bit.rooms n),out<16/\out &&& n=out:=by
 have:∀ b:Fin 16,Bit.parts (Bit.rooms b.val)≠[]/\∀ out∈Bit.parts (Bit.rooms b.val),out<16/\out &&& b.val=out:=by decide +kernel
 exact this ⟨n,h⟩
theorem Hh {m:ao} (wf:m.Wf) (h4:m.rows.length<=4) (s:bZ) (o:Nat):(qa m s o).length<=16 * 1296:=by
 unfold qa
 have:=eG (l:=di m s o) (k:=1296) (jo wf h4 (s:=s) (o:=o))
 have h2:(di m s o).length<=16:=(ni (vh (s:=s) (o:=o) h4)).2
 lia
inductive A9 (a b c d e f g h i:Prop):Prop|mk (_:a) (_:b) (_:c) (_:d) (_:e) (_:f) (_:g) (_:h) (_:i)
def jW (m:ao) (s:bZ) (o:Nat):Option (List bZ):=if (di m s o).all (λ out=>jb m s (Ord.off o out))=true then some (qa m s o) else none
abbrev bE:=List (Option (List Nat))
def mS (met:List bZ):Option (List bZ)->Option (List Nat)->Prop
 | none,none=>True
 | some l,some js=>Paired (λ j s=>met[j]?=some s) js l
 | _,_=>False
theorem mS.more {met more:List bZ}:∀ {a:Option (List bZ)} {b:Option (List Nat)},mS met a b->mS (met++more) a b
 | none,none,_=>trivial
 | some _,some _,h=>Paired.vW h λ j s e=>by rw [abM (List.getElem?_eq_some_iff.mp e).1];exact e
 | none,some _,h=>h.elim
 | some _,none,h=>h.elim
structure oQ where
 met:List bZ
 eM:List (List Nat)
 rows:List bE
structure fV (m:ao) (g:oQ):Prop where
 nd:g.met.Nodup
 lo:g.eM.length<=g.met.length
 lr:g.rows.length<=g.met.length
 st:∀ s∈g.met,eP m s
 eM:∀ (i:Nat) (s:bZ) (o:List Nat),g.met[i]?=some s->g.eM[i]?=some o->o=s.orders m
 rows:∀ (i:Nat) (s:bZ) (r:bE),g.met[i]?=some s->g.rows[i]?=some r->Paired (λ o b=>mS g.met (jW m s o) b) (s.orders m) r
def oQ.add (g:oQ) (s:bZ):oQ:={ g with met:=g.met++[s]}
theorem fV.add {m:ao} {g:oQ} {s:bZ} (h:fV m g) (so:eP m s) (n:s∉g.met):fV m (g.add s):=by
 have old:∀ {i x},i<g.met.length->(g.met++[s])[i]?=some x->g.met[i]?=some x:=λ {i x} hi e=>by
   rw [abM hi] at e;exact e
 refine ⟨List.nodup_append.mpr ⟨h.nd,akO _ _,λ a ha b hb e=>n (by rw [← List.mem_singleton.mp hb,← e];exact ha)⟩,?_,?_,λ x hx=>?_,λ i x o e1 e2=>?_,λ i x r e1 e2=>?_⟩
 .
  show g.eM.length<=(g.met++[s]).length
  rw [aaE]
  have:=h.lo
  lia
 .
  show g.rows.length<=(g.met++[s]).length
  rw [aaE]
  have:=h.lr
  lia
 . rcases List.mem_append.mp hx with z|z
   . exact h.st x z
   . rw [List.mem_singleton.mp z];exact so
 . have e2:g.eM[i]?=some o:=e2
   exact h.eM i x o (old (by have:=(List.getElem?_eq_some_iff.mp e2).1;have:=h.lo;lia) e1) e2
 . exact Paired.vW (h.rows i x r (old (by have:=(List.getElem?_eq_some_iff.mp e2).1;have:g.rows.length<=g.met.length:=h.lr;have e2:g.rows[i]?=some r:=e2;have:=(List.getElem?_eq_some_iff.mp e2).1;lia) e1) e2) λ _ _ q=>q.more
def qO:Option (List Nat)->PyData
 | none => .none
 | some l => .list (l.map iY)
def pK (r:bE):PyData:=.list (r.map qO)
abbrev RW (pm po pr pd:Addr) (lim:Int):List (Str×V):=[("met",.ref pm),("orders",.ref po),("rows",.ref pr),("places",.ref pd),("limit",.int lim)]
def wV (ax:mQ) (met:List bZ):Prop:=(∀ i s,met[i]?=some s->gZ ax (j6 s)=some (al i))/\∀ s,s∉met->gZ ax (j6 s)=none
structure dB (P:Program) (w:World) (K:W.Frag) (CG:Addr) (L:List Addr) (H:Hp) (x pm po pr pd:Addr) (lim:Int) (g:oQ):Prop where
 ins:∃ dx,H x=some (.ins CG dx (RW pm po pr pd lim))
 met:∃ vm,H pm=some (.lst vm)/\lU K H vm g.met
 eM:∃ vo,H po=some (.lst vo)/\bi K (cP H (L++[pm,po,pr])) (g.eM.map λ l => .list (l.map iY)) vo
 rows:∃ vr,H pr=some (.lst vr)/\bi K (cP H (L++[pm,po,pr])) (g.rows.map pK) vr
 pls:∃ ax,gY P w K H pd ax/\ax.length<=g.met.length/\wV ax g.met
 n1:pm≠po
 n2:pm≠pr
 n3:po≠pr
theorem vw {s t:bZ} (h:j6 s=j6 t):s=t:=by
 have h:=ala h
 obtain ⟨h1,h⟩:=akP h
 obtain ⟨h2,h⟩:=akP h
 obtain ⟨h3,h⟩:=akP h
 obtain ⟨h4,h⟩:=akP h
 obtain ⟨h5,_⟩:=akP h
 cases s
 cases t
 have e1:=kI (ala h1)
 have e2:=al5 (alL h2)
 have e3:=kI (ala h3)
 have e4:=kI (ala h4)
 have e5:=al5 (alL h5)
 simp only at e1 e2 e3 e4 e5
 rw [e1,e2,e3,e4,e5]
theorem wV.nil:wV [] []:=⟨λ i s h=>by simp at h,λ _ _=>rfl⟩
theorem wV.add {ax:mQ} {met:List bZ} {s:bZ} {b:Addr} (h:wV ax met) (n:s∉met):wV (fj ax (j6 s) b (al met.length)) (met++[s]):=by
 refine ⟨λ i t e=>?_,λ t ht=>?_⟩
 .
  rw [kJ]
  by_cases q:j6 t=j6 s
  .
   rw [ady q]
   obtain rfl:=vw q
   by_cases hi:i<met.length
   . rw [abM hi] at e
     exact absurd (aaK e) n
   . have:=(List.getElem?_eq_some_iff.mp e).1
     rw [aaE,acG] at this
     rw [show i=met.length by lia]
  .
   rw [ac9 q]
   by_cases hi:i<met.length
   . rw [abM hi] at e
     exact h.1 i t e
   . rw [afw (by lia)] at e
     have:=List.mem_singleton.mp (aaK e)
     exact absurd (by rw [this]) q
 . rw [amp,akp,akH] at ht
   rw [kJ,ac9 (λ q=>ht.2 (vw q))]
   exact h.2 t ht.1
section
variable {P:Program} {w:World} {K:W.Frag} {CG:Addr} {L:List Addr} {H H':Hp} {x pm po pr pd:Addr} {lim:Int} {g:oQ}
theorem dB.same (h:dB P w K CG L H x pm po pr pd lim g) (s:aC H H'):dB P w K CG L H' x pm po pr pd lim g:=by
 obtain ⟨⟨dx,hx⟩,⟨vm,a1,a2⟩,⟨vo,b1,b2⟩,⟨vr,c1,c2⟩,⟨ax,d1,d2⟩,n1,n2,n3⟩:=h
 exact ⟨⟨dx,s _ _ hx⟩,⟨vm,s _ _ a1,a2.imp λ p x h=>h.same s⟩,⟨vo,s _ _ b1,bi.same (rF s) _ b2⟩,⟨vr,s _ _ c1,bi.same (rF s) _ c2⟩,⟨ax,d1.same s,d2⟩,n1,n2,n3⟩
end
def kg:HO->Bool
 | .lst _=>false
 | .tup _=>false
 | .yG _ _=>false
 | _=>true
section
variable {K:W.Frag} {H H':Hp} {d:Addr}
theorem vN {a:Addr} {u:HO} (hd:∀ o,H d=some o->kg o=true) (e:H a=some u) (h:kg u=false):a∉[d]:=λ z=>by
 rw [List.mem_singleton.mp z] at e
 have:=hd u e
 rw [h] at this
 cases this
theorem aR.tu (hd:∀ o,H d=some o->kg o=true) {a:Addr} (h:aR K H a xs):aR K (cP H [d]) a xs:=by
 rcases h with (h|⟨o,h⟩)|h
 . exact .inl (.inl (kB h (vN hd h rfl)))
 . exact .inl (.inr ⟨o,kB h (vN hd h rfl)⟩)
 . exact .inr h
theorem bO.tu (hd:∀ o,H d=some o->kg o=true) {a:Addr} (h:bO K H a xs):bO K (cP H [d]) a xs:=by
 rcases h with (h|⟨o,h⟩)|h
 . exact .inl (.inl (kB h (vN hd h rfl)))
 . exact .inl (.inr ⟨o,kB h (vN hd h rfl)⟩)
 . exact .inr h
mutual
theorem Dn.tu (hd:∀ o,H d=some o->kg o=true):∀ (e:PyData) {v:V},Dn K H e v->Dn K (cP H [d]) e v
 | .none,_,h=>by rw [Dn] at h ⊢;exact h
 | .bool _,_,h=>by rw [Dn] at h ⊢;exact h
 | .int _,_,h=>by rw [Dn] at h ⊢;exact h
 | .str _,_,h=>by rw [Dn] at h ⊢;exact h
 | .list ds,_,h=>by
   rw [Dn] at h ⊢
   obtain ⟨a,xs,e,q,r⟩:=h
   exact ⟨a,xs,e,q.tu hd,bi.tu hd ds r⟩
 | .tuple ds,_,h=>by
   rw [Dn] at h ⊢
   obtain ⟨a,xs,e,q,r⟩:=h
   exact ⟨a,xs,e,q.tu hd,bi.tu hd ds r⟩
 | .dict _,_,h=>by rw [Dn] at h;exact h.elim
theorem bi.tu (hd:∀ o,H d=some o->kg o=true):∀ (ds:List PyData) {xs:List V},bi K H ds xs->bi K (cP H [d]) ds xs
 | [],_,h=>by rw [bi] at h ⊢;exact h
 | e::ds,_,h=>by
   rw [bi] at h ⊢
   obtain ⟨x,r,e1,q,t⟩:=h
   exact ⟨x,r,e1,Dn.tu hd e q,bi.tu hd ds t⟩
end
theorem bi.vO (hd:H d=some o) (ho:kg o=true) (b:∀ c u,H c=some u->c≠d->c∉L->H' c=some u) {ds:List PyData} (h:bi K (cP H L) ds xs):bi K (cP H' L) ds xs:=by
 have h1:=bi.tu (d:=d) (λ u e=>by
   unfold cP at e
   split at e
   . cases e
   . rw [hd] at e;cases e;exact ho) ds h
 refine bi.same (λ c u e=>?_) ds h1
 unfold cP at e ⊢
 split at e
 . cases e
 .
  rename_i n
  split at e
  . cases e
  . rename_i n2
    rw [ac9 n2]
    exact b c u e (λ z=>n (List.mem_singleton.mpr z)) n2
theorem CK {d:Addr} (b:f8 [d] H H'):∀ c u,H c=some u->c≠d->c∉L->H' c=some u:=λ c u e n _=>b c u e λ z=>n (List.mem_singleton.mp z)
end
section
variable {P:Program} {w:World} {K:W.Frag} {CG:Addr} {L:List Addr} {H H':Hp} {x pm po pr pd:Addr} {lim:Int} {g:oQ}
theorem dB.but {d:Addr} {kd:mQ} (h:dB P w K CG L H x pm po pr pd lim g) (hd:H d=some (jV P w d kd)) (nd:d≠pd) (b:f8 [d] H H') (ts:aI K H H'):dB P w K CG L H' x pm po pr pd lim g:=by
 obtain ⟨⟨dx,hx⟩,⟨vm,a1,a2⟩,⟨vo,b1,b2⟩,⟨vr,c1,c2⟩,⟨ax,d1,d2⟩,n1,n2,n3⟩:=h
 have ne:∀ {c u},H c=some u->(∀ φ,u ≠ .ext φ)->c∉[d]:=λ e n z=>by
   rw [List.mem_singleton.mp z,hd] at e
   exact n _ (abG e).symm
 refine ⟨⟨dx,b _ _ hx (ne hx nofun)⟩,⟨vm,b _ _ a1 (ne a1 nofun),a2.imp λ p x h=>h.ts ts⟩,⟨vo,b _ _ b1 (ne b1 nofun),bi.vO hd rfl (CK b) b2⟩,⟨vr,b _ _ c1 (ne c1 nofun),bi.vO hd rfl (CK b) c2⟩,⟨ax,d1.dI ts ?_,d2⟩,n1,n2,n3⟩
 rw [d1.ob]
 exact b _ _ d1.ob (by simp only [akp];exact alk nd)
end
def CV (m:ao) (lim:Int):Prop:=∀ l:List bZ,l.Nodup->(∀ s∈l,eP m s)->(l.length:Int)<=lim
structure sM (g g':oQ):Prop where
 met:∃ more,g'.met=g.met++more
 eM:g'.eM=g.eM
 rows:g'.rows=g.rows
theorem sM.refl (g:oQ):sM g g:=⟨⟨[],(ahG _).symm⟩,rfl,rfl⟩
theorem sM.trans {a b c:oQ} (h:sM a b) (k:sM b c):sM a c:=by
 obtain ⟨⟨m1,e1⟩,o1,r1⟩:=h
 obtain ⟨⟨m2,e2⟩,o2,r2⟩:=k
 exact ⟨⟨m1++m2,by rw [e2,e1,alA]⟩,o2.trans o1,r2.trans r1⟩
theorem sM.add (g:oQ) (s:bZ):sM g (g.add s):=⟨⟨[s],rfl⟩,rfl,rfl⟩
theorem sM.at {g g':oQ} (h:sM g g') {j:Nat} {s:bZ} (e:g.met[j]?=some s):g'.met[j]?=some s:=by
 obtain ⟨⟨m1,e1⟩,_⟩:=h
 rw [e1,abM (List.getElem?_eq_some_iff.mp e).1]
 exact e
section
variable (P:Program) (w:World) (K:W.Frag) (CG:Addr)
inductive HR  (vs:List V) (H:Hp) (Q:VK) (_E:XK):Prop
 | mk (x p pm po pr pd lim g m s L:_) (_:vs=[.ref x,.ref p]) (_:dB P w K CG L H x pm po pr pd lim g) (_:fV m g) (_:CV m lim) (_:lim<=2000) (_:g7 K H p s) (_:eP m s) (_:∀ j g' H',f8 [pm,pd] H H'->aI K H H'->dB P w K CG L H' x pm po pr pd lim g'->sM g g'->fV m g'->g'.met[j]?=some s->(g'=g∨g'=g.add s)->Q (al j) H')
inductive zf  (vs:List V) (H:Hp) (Q:VK) (_E:XK):Prop
 | mk (x v pm po pr pd lim g m L:_) (_:vs=[.ref x,v]) (_:dB P w K CG L H x pm po pr pd lim g) (_:fV m g) (_:CV m lim) (_:lim<=2000) (_:((v = .cf/\Q .cf H)∨∃ q xs l,v = .ref q/\H q=some (.lst xs)/\q≠pm/\lU K H xs l/\(∀ s∈l,eP m s)/\l.length<=100000/\∀ D js g' H',H D=none->f8 [pm,pd] H H'->aI K H H'->dB P w K CG L H' x pm po pr pd lim g'->sM g g'->fV m g'->H' D=some (.lst (js.map al))->Paired (λ j s=>g'.met[j]?=some s) js l->Q (.ref D) H'))
end
section
variable {P:Program} {w:World} {K:W.Frag} {CG:Addr} {L:List Addr} {H H':Hp} {x pm po pr pd p:Addr} {lim:Int} {g:oQ} {s:bZ} {vm:List V} {ax:mQ}
theorem dB.add (h:dB P w K CG L H x pm po pr pd lim g) (hm:H pm=some (.lst vm)) (Gb:lU K H vm g.met) (hk:gY P w K H pd ax) (hl:ax.length<=g.met.length) (hp:wV ax g.met) (hs:g7 K H p s) (n:s∉g.met) :
   dB P w K CG L (upd (upd H pd (jV P w pd (fj ax (j6 s) p (al g.met.length)))) pm (.lst (vm++[.ref p]))) x pm po pr pd lim (g.add s)/\f8 [pm,pd] H (upd (upd H pd (jV P w pd (fj ax (j6 s) p (al g.met.length)))) pm (.lst (vm++[.ref p]))) /\
   aI K H (upd (upd H pd (jV P w pd (fj ax (j6 s) p (al g.met.length)))) pm (.lst (vm++[.ref p]))):=by
 obtain ⟨⟨dx,hx⟩,_,⟨vo,b1,b2⟩,⟨vr,c1,c2⟩,_,n1,n2,n3⟩:=h
 have key:=fK hs
 have nm:pm≠pd:=λ z=>by rw [z,hk.ob] at hm;cases hm
 have nx:x≠pd:=λ z=>by rw [z,hk.ob] at hx;cases hx
 have nx2:x≠pm:=λ z=>by rw [z,hm] at hx;cases hx
 have no:po≠pd:=λ z=>by rw [z,hk.ob] at b1;cases b1
 have nr:pr≠pd:=λ z=>by rw [z,hk.ob] at c1;cases c1
 have t1:aI K H (upd H pd (jV P w pd (fj ax (j6 s) p (al g.met.length)))):=bH hk.ob rfl
 have b0:f8 [pd] H (upd H pd (jV P w pd (fj ax (j6 s) p (al g.met.length)))):=λ c u e z=>by rw [aq (λ q=>z (List.mem_singleton.mpr q))];exact e
 have rp:=hk.put (v:=al g.met.length) key
 have Ka:(upd H pd (jV P w pd (fj ax (j6 s) p (al g.met.length)))) pm=some (.lst vm):=by rw [aq nm];exact hm
 have b2':=bi.vO hk.ob rfl (CK b0) b2
 have c2':=bi.vO hk.ob rfl (CK b0) c2
 have rB:(upd H pd (jV P w pd (fj ax (j6 s) p (al g.met.length)))) x=some (.ins CG dx (RW pm po pr pd lim)):=by rw [aq nx];exact hx
 have bo1:(upd H pd (jV P w pd (fj ax (j6 s) p (al g.met.length)))) po=some (.lst vo):=by rw [aq no];exact b1
 have co1:(upd H pd (jV P w pd (fj ax (j6 s) p (al g.met.length)))) pr=some (.lst vr):=by rw [aq nr];exact c1
 generalize upd H pd (jV P w pd (fj ax (j6 s) p (al g.met.length)))=H1 at *
 have t2:aI K H1 (upd H1 pm (.lst (vm++[.ref p]))):=bH Ka rfl
 have ec:cP (upd H1 pm (.lst (vm++[.ref p]))) (L++[pm,po,pr])=cP H1 (L++[pm,po,pr]):=kO (by simp)
 refine ⟨⟨⟨dx,by rw [aq nx2];exact rB⟩,⟨_,af,?_⟩,⟨vo,by rw [aq n1.symm];exact bo1,by rw [ec];exact b2'⟩,⟨vr,by rw [aq n2.symm];exact co1,by rw [ec];exact c2'⟩,⟨_,rp.dI t2 (aq nm.symm),?_,hp.add n⟩,n1,n2,n3⟩,λ c u e z=>?_,t1.trans t2⟩
 . exact Refs.snoc (Gb.imp λ p s h=>h.ts (t1.trans t2)) (hs.ts (t1.trans t2))
 .
  refine acS (sE ..) ?_
  show _<=(g.met++[s]).length
  rw [aaE,acG]
  lia
 . simp only [aa1,aaI,afj,akH] at z
   rw [aq z.1]
   exact b0 c u e (by simp [z.2])
theorem dB.new (h:dB P w K CG L H x pm po pr pd lim g) (hD:H D=none):dB P w K CG (D::L) H x pm po pr pd lim g:=by
 obtain ⟨i,m,⟨vo,b1,b2⟩,⟨vr,c1,c2⟩,d,n1,n2,n3⟩:=h
 have S:aC (cP H (L++[pm,po,pr])) (cP H (D::L++[pm,po,pr])):=λ b o e=>by
   unfold cP at e ⊢
   split at e
   . cases e
   .
    rename_i q
    rw [ac9]
    . exact e
    . intro z
      rcases List.mem_cons.mp z with z|z
      . rw [z,hD] at e;cases e
      . exact q z
 exact ⟨i,m,⟨vo,b1,bi.same S _ b2⟩,⟨vr,c1,bi.same S _ c2⟩,d,n1,n2,n3⟩
theorem dB.less (h:dB P w K CG L H x pm po pr pd lim g) (hL:∀ b∈L',b∈L):dB P w K CG L' H x pm po pr pd lim g:=by
 obtain ⟨i,m,⟨vo,b1,b2⟩,⟨vr,c1,c2⟩,d,n1,n2,n3⟩:=h
 have S:aC (cP H (L++[pm,po,pr])) (cP H (L'++[pm,po,pr])):=λ b o e=>by
   unfold cP at e ⊢
   split at e
   . cases e
   .
    rename_i q
    rw [ac9]
    . exact e
    . intro z
      refine q (List.mem_append.mpr ?_)
      rcases List.mem_append.mp z with z|z
      . exact .inl (hL _ z)
      . exact .inr z
 exact ⟨i,m,⟨vo,b1,bi.same S _ b2⟩,⟨vr,c1,bi.same S _ c2⟩,d,n1,n2,n3⟩
theorem dB.write (h:dB P w K CG L H x pm po pr pd lim g) (hD:H D=some (.lst xs)) (hL:D∈L) (nm:D≠pm) (no:D≠po) (nr:D≠pr):dB P w K CG L (upd H D (.lst ys)) x pm po pr pd lim g:=by
 obtain ⟨⟨dx,hx⟩,⟨vm,a1,a2⟩,⟨vo,b1,b2⟩,⟨vr,c1,c2⟩,⟨ax,d1,d2⟩,n1,n2,n3⟩:=h
 have ts:aI K H (upd H D (.lst ys)):=bH hD rfl
 have ec:cP (upd H D (.lst ys)) (L++[pm,po,pr])=cP H (L++[pm,po,pr]):=kO (List.mem_append.mpr (.inl hL))
 have nx:x≠D:=λ z=>by rw [z,hD] at hx;cases hx
 have nd:pd≠D:=λ z=>by have:=d1.ob;rw [z,hD] at this;cases this
 exact ⟨⟨dx,by rw [aq nx];exact hx⟩,⟨vm,by rw [aq nm.symm];exact a1,a2.imp λ p x h=>h.ts ts⟩,⟨vo,by rw [aq no.symm];exact b1,by rw [ec];exact b2⟩,⟨vr,by rw [aq nr.symm];exact c1,by rw [ec];exact c2⟩,⟨ax,d1.dI ts (aq nd),d2⟩,n1,n2,n3⟩
end
structure Jx (m:ao):Prop where
 h4:m.rows.length<=4
 sp:∀ s,eP m s->K2 m s
 tn:∀ s o,eP m s->o∈s.orders m->∀ out∈di m s o,bV m s o out
 nx:∀ s o x,eP m s->o∈s.orders m->x∈qa m s o->eP m x
theorem Jx.ow {m:ao} (h:Jx m) {s:bZ} {o:Nat} (ho:o∈s.orders m):o &&& m.ws=o:=((pe (qY h.h4)).2 o (List.mem_filter.mp ho).1).2
theorem rq {m:ao} (h4:m.rows.length<=4) (s:bZ):(s.orders m).length<=16:=by
 have:=agg (s.Dg m) (Bit.parts (Bit.rooms m.ws))
 have:=(ni (qY h4)).2
 unfold bZ.orders
 lia
theorem FW {m:ao} {s:bZ} {o:Nat} (h:∀ out∈di m s o,jb m s (Ord.off o out)=true):jW m s o=some (qa m s o):=by
 unfold jW
 rw [ady (List.all_eq_true.mpr h)]
theorem Ek {m:ao} {s:bZ} {o:Nat} (h:∃ out∈di m s o,jb m s (Ord.off o out)=false):jW m s o=none:=by
 unfold jW
 rw [ac9]
 intro z
 obtain ⟨out,h1,h2⟩:=h
 have:=List.all_eq_true.mp z out h1
 rw [h2] at this
 cases this
def oQ.ord (g:oQ) (l:List Nat):oQ:={ g with eM:=g.eM++[l]}
def oQ.row (g:oQ) (r:bE):oQ:={ g with rows:=g.rows++[r]}
theorem fV.ord {m:ao} {g:oQ} {s:bZ} (h:fV m g) (e:g.met[g.eM.length]?=some s):fV m (g.ord (s.orders m)):=by
 have hl:=(List.getElem?_eq_some_iff.mp e).1
 refine ⟨h.nd,?_,h.lr,h.st,λ i x o e1 e2=>?_,h.rows⟩
 . show (g.eM++[s.orders m]).length<=g.met.length
   rw [aaE,acG];lia
 .
  have e2:(g.eM++[s.orders m])[i]?=some o:=e2
  by_cases hi:i<g.eM.length
  . rw [abM hi] at e2
    exact h.eM i x o e1 e2
  .
   have:=(List.getElem?_eq_some_iff.mp e2).1
   rw [aaE,acG] at this
   obtain rfl:i=g.eM.length:=by lia
   rw [aex] at e2
   have e1:g.met[g.eM.length]?=some x:=e1
   rw [e] at e1
   cases e1
   cases e2
   rfl
theorem fV.row {m:ao} {g:oQ} {s:bZ} {r:bE} (h:fV m g) (e:g.met[g.rows.length]?=some s) (hr:Paired (λ o b=>mS g.met (jW m s o) b) (s.orders m) r):fV m (g.row r):=by
 have hl:=(List.getElem?_eq_some_iff.mp e).1
 refine ⟨h.nd,h.lo,?_,h.st,h.eM,λ i x r' e1 e2=>?_⟩
 . show (g.rows++[r]).length<=g.met.length
   rw [aaE,acG];lia
 .
  have e2:(g.rows++[r])[i]?=some r':=e2
  by_cases hi:i<g.rows.length
  . rw [abM hi] at e2
    exact h.rows i x r' e1 e2
  .
   have:=(List.getElem?_eq_some_iff.mp e2).1
   rw [aaE,acG] at this
   obtain rfl:i=g.rows.length:=by lia
   rw [aex] at e2
   have e1:g.met[g.rows.length]?=some x:=e1
   rw [e] at e1
   cases e1
   cases e2
   exact hr
inductive HW (P:Program) (w:World) (K:W.Frag) (C CG:Addr) (vs:List V) (H:Hp) (Q:VK) (_E:XK):Prop
 | mk (x a pm po pr pd lim g m fp:_) (_:vs=[.ref x,.ref a]) (_:dB P w K CG [] H x pm po pr pd lim g) (_:fV m g) (_:g.eM.length=g.rows.length) (_:CV m lim) (_:lim<=2000) (_:Jx m) (_:aL K C H a fp m) (_:pm∉fp) (_:po∉fp) (_:pr∉fp) (_:pd∉fp) (_:∀ g' H',f8 [pm,po,pr,pd] H H'->aI K H H'->dB P w K CG [] H' x pm po pr pd lim g'->fV m g'->g'.eM.length=g'.rows.length->g'.rows.length=g'.met.length->(∃ more,g'.met=g.met++more)->Q .cf H')
section
variable {P:Program} {w:World} {K:W.Frag} {CG:Addr} {L:List Addr} {H:Hp} {x pm po pr pd q:Addr} {lim:Int} {g:oQ}
theorem dB.ord (h:dB P w K CG L H x pm po pr pd lim g) {vo:List V} (ho:H po=some (.lst vo)) (hq:H q=some (.lst (l.map al))) (nq:q∉L++[pm,po,pr]):dB P w K CG L (upd H po (.lst (vo++[.ref q]))) x pm po pr pd lim (g.ord l):=by
 obtain ⟨⟨dx,hx⟩,⟨vm,a1,a2⟩,⟨vo',b1,b2⟩,⟨vr,c1,c2⟩,⟨ax,d1,d2⟩,n1,n2,n3⟩:=h
 rw [ho] at b1
 cases b1
 have ts:aI K H (upd H po (.lst (vo++[.ref q]))):=bH ho rfl
 have ec:cP (upd H po (.lst (vo++[.ref q]))) (L++[pm,po,pr])=cP H (L++[pm,po,pr]):=kO (by simp)
 have nx:x≠po:=λ z=>by rw [z,ho] at hx;cases hx
 have nd:pd≠po:=λ z=>by have:=d1.ob;rw [z,ho] at this;cases this
 refine ⟨⟨dx,by rw [aq nx];exact hx⟩,⟨vm,by rw [aq n1];exact a1,a2.imp λ p x h=>h.ts ts⟩,⟨_,af,?_⟩,⟨vr,by rw [aq n3.symm];exact c1,by rw [ec];exact c2⟩,⟨ax,d1.dI ts (aq nd),d2⟩,n1,n2,n3⟩
 rw [ec]
 show bi K _ ((g.eM++[l]).map _) _
 rw [aaN]
 exact bi.snoc b2 (AX (aR.of (kB hq nq)))
theorem dB.row (h:dB P w K CG L H x pm po pr pd lim g) {vr acc:List V} {r:bE} (hr:H pr=some (.lst vr)) (hq:H q=some (.lst acc)) (nq:q∉L++[pm,po,pr]) (lM:bi K (cP H (L++[pm,po,pr])) (r.map qO) acc):dB P w K CG L (upd H pr (.lst (vr++[.ref q]))) x pm po pr pd lim (g.row r):=by
 obtain ⟨⟨dx,hx⟩,⟨vm,a1,a2⟩,⟨vo,b1,b2⟩,⟨vr',c1,c2⟩,⟨ax,d1,d2⟩,n1,n2,n3⟩:=h
 rw [hr] at c1
 cases c1
 have ts:aI K H (upd H pr (.lst (vr++[.ref q]))):=bH hr rfl
 have ec:cP (upd H pr (.lst (vr++[.ref q]))) (L++[pm,po,pr])=cP H (L++[pm,po,pr]):=kO (by simp)
 have nx:x≠pr:=λ z=>by rw [z,hr] at hx;cases hx
 have nd:pd≠pr:=λ z=>by have:=d1.ob;rw [z,hr] at this;cases this
 refine ⟨⟨dx,by rw [aq nx];exact hx⟩,⟨vm,by rw [aq n2];exact a1,a2.imp λ p x h=>h.ts ts⟩,⟨vo,by rw [aq n3];exact b1,by rw [ec];exact b2⟩,⟨_,af,?_⟩,⟨ax,d1.dI ts (aq nd),d2⟩,n1,n2,n3⟩
 rw [ec]
 show bi K _ ((g.rows++[r]).map _) _
 rw [aaN]
 exact bi.snoc c2 (DR (aR.of (kB hq nq)) lM)
end
section
variable {P:Program} {w:World} {K:W.Frag} {C CR:Addr} {L L':List Addr} {H H':Hp} {x d a:Addr} {fp:List Addr} {m:ao} {c:Nat}
theorem uf (h:aL K C H a fp m) (st:∀ b o,H b=some o->b∈fp->H' b=some o) (ts:aI K H H'):aL K C H' a fp m:=by
 obtain ⟨⟨MR,pm,pf,ps,pt,vm,vs,vt,ax,rfl,ha,i5,gc,mE,gz,gn,n1,n2,n3,dm,ds,dt,df,fk⟩,q1,q2,q3,q4⟩:=h
 have g:∀ {c o},H c=some o->c∈[a,MR,pm,pf,ps,pt]->H' c=some o:=λ {c o} e hc=>st c o e hc
 exact ⟨⟨MR,pm,pf,ps,pt,vm,vs,vt,ax,rfl,g ha (by simp),g i5 (by simp),g gc (by simp),g mE (by simp),g gz (by simp),g gn (by simp),n1,n2,n3,jn ts dm,iD ts ds,gw ts dt,λ i j=>(df i j).ts ts,fk⟩,q1,q2,q3,q4⟩
theorem dM.frame (r:dM P w K C CR L H x d a fp m c) {M:List Addr} (b:f8 M H H') (ts:aI K H H') (nx:x∉M) (nd:d∉M) (nf:∀ c∈fp,c∉M) (hM:∀ c∈M,c∈L∨∀ xs,H c≠some (.lst xs)):dM P w K C CR L H' x d a fp m c:=by
 obtain ⟨⟨dx,hx⟩,hh,n,ax,hk,hl,hv⟩:=r
 refine ⟨⟨dx,b _ _ hx nx⟩,uf hh (λ c u e hc=>b c u e (nf c hc)) ts,n,ax,hk.dI ts ?_,hl,λ i bs f v e=>?_⟩
 . rw [hk.ob];exact b _ _ hk.ob nd
 .
  have:=hv i bs f v e
  cases z:dG m i bs f with
  | none=>rw [z] at this;exact this
  | some l =>
    rw [z] at this
    obtain ⟨q,e,nq,hq⟩:=this
    exact ⟨q,e,nq,b _ _ hq λ y=>(hM q y).elim nq λ h=>h _ hq⟩
theorem dM.zero (r:dM P w K C CR L H x d a fp m 0):dM P w K C CR L' H x d a fp m 0:=by
 obtain ⟨i,hh,n,ax,hk,hl,hv⟩:=r
 obtain rfl:ax=[]:=afr (Nat.le_zero.mp hl)
 exact ⟨i,hh,n,[],hk,hl,λ i bs f v e=>by cases e⟩
end
inductive El (P:Program) (w:World) (K:W.Frag) (C CG:Addr) (vs:List V) (H:Hp) (Q:VK) (_E:XK):Prop
 | mk (x dx a q lim fp m xs l:_) (_:vs=[.ref x,.ref a,.ref q,.int lim]) (_:H x=some (.ins CG dx [])) (_:aL K C H a fp m) (_:x∉fp) (_:Jx m) (_:CV m lim) (_:lim<=2000) (_:H q=some (.lst xs)) (_:lU K H xs l) (_:(∀ s∈l,eP m s)) (_:∀ pm po pr pd g H',f8 [x] H H'->aI K H H'->(∀ b∈[pm,po,pr,pd],H b=none)->dB P w K CG [] H' x pm po pr pd lim g->fV m g->g.eM.length=g.rows.length->g.rows.length=g.met.length->(∀ s∈l,s∈g.met)->(∀ s r,l=s::r->g.met[0]?=some s)->Q .cf H')
structure i7 where
 bp:List (List (Option Nat))
 cM:List Nat
 bq:List (Option Nat)
 queue:List Nat
def ma (rows:List bE):Nat->Nat->Prop
 | 0,p=>rows[p]?=some []
 | k+1,p=>∃ r,rows[p]?=some r/\∀ (c:Nat) (v:Option (List Nat)),r[c]?=some v->v=none∨∃ js,v=some js/\∃ j∈js,ma rows k j
theorem ma.succ {rows:List bE}:∀ {k p:Nat},ma rows k p->ma rows (k+1) p
 | 0,p,h=>⟨[],h,λ c v e=>by simp at e⟩
 | k+1,p,⟨r,e,h⟩=>⟨r,e,λ c v ec=>(h c v ec).imp id λ ⟨js,ej,j,hj,q⟩=>⟨js,ej,j,hj,q.succ⟩⟩
theorem ma.mono {rows:List bE} {k n p:Nat} (h:ma rows k p) (le:k<=n):ma rows n p:=by
 obtain ⟨d,rfl⟩:=Nat.exists_eq_add_of_le le
 induction d with
 | zero=>exact h
 | succ d ih=>exact (ih (akR _ _)).succ
def sH (rows:List bE) (bq:List (Option Nat)) (p c t:Nat):Prop:=∃ r:bE,rows[p]?=some r/\(r[c]?=some none/\t=0∨∃ js,r[c]?=some (some js)/\∃ j∈js,bq[j]?=some (some t))
structure gQ (rows:List bE) (S:i7) (cur:Nat):Prop where
 ll:S.bp.length=rows.length
 lg:S.cM.length=rows.length
 lk:S.bq.length=rows.length
 sh:∀ (p:Nat) l r,S.bp[p]?=some l->rows[p]?=some r->l.length=r.length
 go:∀ (p:Nat) l n,S.bp[p]?=some l->S.cM[p]?=some n->n=l.countP Option.isNone
 rk:∀ (p:Nat) n,S.cM[p]?=some n->(n=0↔∃ k,S.bq[p]?=some (some k))
 qu:∀ p,p∈S.queue↔∃ k,S.bq[p]?=some (some k)
 nd:S.queue.Nodup
 z:∀ p:Nat,rows[p]?=some []↔S.bq[p]?=some (some 0)
 lo:∀ (p:Nat) l (c:Nat) t,S.bp[p]?=some l->l[c]?=some (some t)->t<=cur
 ls:∀ (p:Nat) l (c:Nat) t,S.bp[p]?=some l->l[c]?=some (some t)->sH rows S.bq p c t
 top:∀ (p:Nat) t l,S.bq[p]?=some (some (t+1))->S.bp[p]?=some l->(∀ (c:Nat) t',l[c]?=some (some t')->t'<=t)/\∃ c:Nat,l[c]?=some (some t)
 le:∀ (p:Nat) k,S.bq[p]?=some (some k)->k<=cur+1
 srt:S.queue.Pairwise λ a b=>∀ x y,S.bq[a]?=some (some x)->S.bq[b]?=some (some y)->x<=y
def i7.fin (S:i7) (p c t:Nat) (l:List (Option Nat)) (n:Nat):i7:=⟨S.bp.set p (l.set c (some t)),S.cM.set p (n - 1),if n=1 then S.bq.set p (some (t+1)) else S.bq,if n=1 then S.queue++[p] else S.queue⟩
theorem cA {α:Type} {l:List α} {i j:Nat} {a x:α}:(l.set i a)[j]?=some x↔(i=j/\i<l.length/\x=a)∨(i≠j/\l[j]?=some x):=by
 rw [List.getElem?_set]
 by_cases h:i=j
 .
  rw [ady h]
  by_cases hi:i<l.length
  . rw [ady hi]
    exact ⟨λ e => .inl ⟨h,hi,(abG e).symm⟩,λ e=>e.elim (λ e=>by rw [e.2.2]) λ e=>absurd h e.1⟩
  . rw [ac9 hi]
    exact ⟨λ e=>by simp at e,λ e=>e.elim (λ e=>absurd e.2.1 hi) λ e=>absurd h e.1⟩
 . rw [ac9 h]
   exact ⟨λ e => .inr ⟨h,e⟩,λ e=>e.elim (λ e=>absurd e.1 h) λ e=>e.2⟩
theorem gQ.fin {rows:List bE} {S:i7} {p n:Nat} {l:List (Option Nat)} (h:gQ rows S cur) (hl:S.bp[p]?=some l) (hn:S.cM[p]?=some n) (hc:l[c]?=some none) (why:sH rows S.bq p c cur):gQ rows (S.fin p c cur l n) cur:=by
 have Rq:c<l.length:=(List.getElem?_eq_some_iff.mp hc).1
 have ec:l[c]=none:=(List.getElem?_eq_some_iff.mp hc).2
 have gT:p<S.bp.length:=(List.getElem?_eq_some_iff.mp hl).1
 have IH:p<S.cM.length:=(List.getElem?_eq_some_iff.mp hn).1
 have Rb:p<S.bq.length:=by rw [h.lk,← h.ll];exact gT
 have en:=h.go p l n hl hn
 have n0:n≠0:=λ z=>by
   rw [z] at en
   exact List.countP_eq_zero.mp en.symm _ (aaK hc) rfl
 have nk:∀ k,S.bq[p]?≠some (some k):=λ k e=>n0 ((h.rk p n hn).mpr ⟨k,e⟩)
 have nq:p∉S.queue:=λ z=>by obtain ⟨k,e⟩:=(h.qu p).mp z;exact nk k e
 have fr:∀ j k,(S.fin p c cur l n).bq[j]?=some (some k)↔(n=1/\j=p/\k=cur+1)∨S.bq[j]?=some (some k):=λ j k=>by
   by_cases h1:n=1
   .
    simp only [i7.fin,ady h1,cA]
    constructor
    . rintro (⟨rfl,_,e⟩|⟨_,e⟩)
      . exact .inl ⟨h1,rfl,abG e⟩
      . exact .inr e
    . rintro (⟨_,rfl,rfl⟩|e)
      . exact .inl ⟨rfl,Rb,rfl⟩
      . exact .inr ⟨λ z=>nk k (z ▸ e),e⟩
   . simp only [i7.fin,ac9 h1]
     exact ⟨.inr,λ e=>e.elim (λ e=>absurd e.1 h1) id⟩
 have up:∀ {j k},S.bq[j]?=some (some k)->(S.fin p c cur l n).bq[j]?=some (some k):=λ e=>(fr _ _).mpr (.inr e)
 have eup:∀ {p' c' t'},sH rows S.bq p' c' t'->sH rows (S.fin p c cur l n).bq p' c' t':=λ ⟨r,er,q⟩=>⟨r,er,q.imp id λ ⟨js,ej,j,hj,e⟩=>⟨js,ej,j,hj,up e⟩⟩
 have fl:∀ {j l'},(S.fin p c cur l n).bp[j]?=some l'->(j=p/\l'=l.set c (some cur))∨(j≠p/\S.bp[j]?=some l'):=λ e=>by
   rcases cA.mp e with ⟨rfl,_,e⟩|⟨q,e⟩
   . exact .inl ⟨rfl,e⟩
   . exact .inr ⟨λ z=>q z.symm,e⟩
 have fg:∀ {j m},(S.fin p c cur l n).cM[j]?=some m->(j=p/\m=n - 1)∨(j≠p/\S.cM[j]?=some m):=λ e=>by
   rcases cA.mp e with ⟨rfl,_,e⟩|⟨q,e⟩
   . exact .inl ⟨rfl,e⟩
   . exact .inr ⟨λ z=>q z.symm,e⟩
 have qm:∀ j,j∈(S.fin p c cur l n).queue↔(n=1/\j=p)∨j∈S.queue:=λ j=>by
   by_cases h1:n=1
   . simp only [i7.fin,ady h1,amp,akp]
     exact ⟨λ e=>e.elim .inr λ e => .inl ⟨h1,e⟩,λ e=>e.elim (λ e => .inr e.2) .inl⟩
   . simp only [i7.fin,ac9 h1]
     exact ⟨.inr,λ e=>e.elim (λ e=>absurd e.1 h1) id⟩
 have cnt:(l.set c (some cur)).countP Option.isNone=n - 1:=by
   rw [List.countP_set Rq,ec,en];rfl
 refine ⟨?_,?_,?_,?_,?_,?_,?_,?_,?_,?_,?_,?_,?_,?_⟩
 . show (S.bp.set p _).length=_
   rw [aho];exact h.ll
 . show (S.cM.set p _).length=_
   rw [aho];exact h.lg
 .
  show (if n=1 then S.bq.set p (some (cur+1)) else S.bq).length=_
  split
  . rw [aho];exact h.lk
  . exact h.lk
 .
  intro j l' r e er
  rcases fl e with ⟨rfl,rfl⟩|⟨_,e⟩
  . rw [aho];exact h.sh _ _ _ hl er
  . exact h.sh _ _ _ e er
 .
  intro j l' m e eg
  rcases fl e with ⟨rfl,rfl⟩|⟨q,e⟩
  . rcases fg eg with ⟨_,rfl⟩|⟨q,_⟩
    . exact cnt.symm
    . exact absurd rfl q
  . rcases fg eg with ⟨z,_⟩|⟨_,eg⟩
    . exact absurd z q
    . exact h.go _ _ _ e eg
 .
  intro j m eg
  rcases fg eg with ⟨rfl,rfl⟩|⟨q,eg⟩
  . refine ⟨λ z=>⟨cur+1,(fr _ _).mpr (.inl ⟨by lia,rfl,rfl⟩)⟩,λ ⟨k,e⟩=>?_⟩
    rcases (fr _ _).mp e with ⟨e,_⟩|e
    . lia
    . exact absurd e (nk k)
  . refine (h.rk j m eg).trans ⟨λ ⟨k,e⟩=>⟨k,up e⟩,λ ⟨k,e⟩=>?_⟩
    rcases (fr _ _).mp e with ⟨_,e,_⟩|e
    . exact absurd e q
    . exact ⟨k,e⟩
 .
  intro j
  rw [qm j]
  constructor
  . rintro (⟨e1,rfl⟩|e)
    . exact ⟨cur+1,(fr _ _).mpr (.inl ⟨e1,rfl,rfl⟩)⟩
    . obtain ⟨k,e⟩:=(h.qu j).mp e
      exact ⟨k,up e⟩
  . rintro ⟨k,e⟩
    rcases (fr _ _).mp e with ⟨e1,e2,_⟩|e
    . exact .inl ⟨e1,e2⟩
    . exact .inr ((h.qu j).mpr ⟨k,e⟩)
 .
  show (if n=1 then S.queue++[p] else S.queue).Nodup
  split
  . exact List.nodup_append.mpr ⟨h.nd,akO _ _,λ a ha b hb e=>nq (by rw [← List.mem_singleton.mp hb,← e];exact ha)⟩
  . exact h.nd
 .
  intro j
  refine (h.z j).trans ⟨up,λ e=>?_⟩
  rcases (fr _ _).mp e with ⟨_,_,e⟩|e
  . lia
  . exact e
 .
  intro j l' c' t e e2
  rcases fl e with ⟨rfl,rfl⟩|⟨_,e⟩
  . rcases cA.mp e2 with ⟨_,_,e2⟩|⟨_,e2⟩
    . rw [abG e2];exact aaU _
    . exact h.lo _ _ _ _ hl e2
  . exact h.lo _ _ _ _ e e2
 .
  intro j l' c' t e e2
  rcases fl e with ⟨rfl,rfl⟩|⟨_,e⟩
  . rcases cA.mp e2 with ⟨rfl,_,e2⟩|⟨_,e2⟩
    . rw [abG e2];exact eup why
    . exact eup (h.ls _ _ _ _ hl e2)
  . exact eup (h.ls _ _ _ _ e e2)
 .
  intro j t l' ek e
  rcases (fr _ _).mp ek with ⟨_,rfl,e1⟩|ek2
  .
   obtain rfl:t=cur:=by lia
   rcases fl e with ⟨_,rfl⟩|⟨q,_⟩
   . refine ⟨λ c' t' e'=>?_,c,cA.mpr (.inl ⟨rfl,Rq,rfl⟩)⟩
     rcases cA.mp e' with ⟨_,_,e2⟩|⟨_,e2⟩
     . rw [abG e2];exact aaU _
     . exact h.lo _ _ _ _ hl e2
   . exact absurd rfl q
  . rcases fl e with ⟨rfl,_⟩|⟨_,e⟩
    . exact absurd ek2 (nk _)
    . exact h.top _ _ _ ek2 e
 .
  intro j k ek
  rcases (fr _ _).mp ek with ⟨_,_,rfl⟩|ek
  . exact aaU _
  . exact h.le _ _ ek
 .
  have old:S.queue.Pairwise λ a b=>∀ x y,(S.fin p c cur l n).bq[a]?=some (some x)->(S.fin p c cur l n).bq[b]?=some (some y)->x<=y:=by
    refine h.srt.imp_of_mem λ {a b} ha hb q x y ex ey=>?_
    rcases (fr _ _).mp ex with ⟨_,rfl,_⟩|ex
    . exact absurd ha nq
    rcases (fr _ _).mp ey with ⟨_,rfl,_⟩|ey
    . exact absurd hb nq
    exact q x y ex ey
  show (if n=1 then S.queue++[p] else S.queue).Pairwise _
  by_cases h1:n=1
  .
   rw [ady h1]
   refine List.pairwise_append.mpr ⟨old,akO _ _,λ a ha b hb x y ex ey=>?_⟩
   rw [List.mem_singleton.mp hb] at ey
   rcases (fr _ _).mp ex with ⟨_,rfl,_⟩|ex
   . exact absurd ha nq
   rcases (fr _ _).mp ey with ⟨_,_,rfl⟩|ey
   . exact h.le _ _ ex
   . exact absurd ey (nk _)
  . rw [ac9 h1];exact old
def ff (rows:List bE) (S:i7):Prop:=∀ (p:Nat) (r:bE) (c:Nat),rows[p]?=some r->r[c]?=some none->∃ l,S.bp[p]?=some l/\l[c]?=some (some 0)
def vb (rows:List bE) (S:i7) (j:Nat):Prop:=∀ (p:Nat) (r:bE) (c:Nat) js,rows[p]?=some r->r[c]?=some (some js)->j∈js->∃ l t k,S.bp[p]?=some l/\l[c]?=some (some t)/\S.bq[j]?=some (some k)/\t<=k
theorem tS {S:i7} {p t n:Nat} {l:List (Option Nat)} (hl:S.bp[p]?=some l) (hc:l[c]?=some none) {p':Nat} {l':List (Option Nat)} {t':Nat} (e:S.bp[p']?=some l') (ec:l'[c']?=some (some t')):∃ l2,(S.fin p c t l n).bp[p']?=some l2/\l2[c']?=some (some t'):=by
 by_cases h:p=p'
 .
  subst h
  rw [hl] at e
  cases e
  refine ⟨_,cA.mpr (.inl ⟨rfl,(List.getElem?_eq_some_iff.mp hl).1,rfl⟩),cA.mpr (.inr ⟨λ z=>?_,ec⟩)⟩
  rw [z,ec] at hc
  cases hc
 . exact ⟨l',cA.mpr (.inr ⟨h,e⟩),ec⟩
theorem gQ.Bw {rows:List bE} {S:i7} {p n t:Nat} {l:List (Option Nat)} (h:gQ rows S cur) (hl:S.bp[p]?=some l) (hn:S.cM[p]?=some n) (hc:l[c]?=some none) {j k:Nat} (e:S.bq[j]?=some (some k)):(S.fin p c t l n).bq[j]?=some (some k):=by
 have n0:n≠0:=λ z=>by
   have en:=h.go p l n hl hn
   rw [z] at en
   exact List.countP_eq_zero.mp en.symm _ (aaK hc) rfl
 have q:p≠j:=λ z=>n0 ((h.rk p n hn).mpr ⟨k,z ▸ e⟩)
 show (if n=1 then S.bq.set p (some (t+1)) else S.bq)[j]?=_
 split
 . exact cA.mpr (.inr ⟨q,e⟩)
 . exact e
theorem gQ.sound {rows:List bE} {S:i7} (h:gQ rows S cur):∀ (k p:Nat),S.bq[p]?=some (some k)->ma rows k p:=by
 intro k
 induction k using Nat.strongRecOn with
 | _ k ih =>
   intro p e
   cases k with
   | zero=>exact (h.z p).mpr e
   | succ t =>
     have hp:p<rows.length:=by rw [← h.lk];exact (List.getElem?_eq_some_iff.mp e).1
     have yf:p<S.bp.length:=by rw [h.ll];exact hp
     have zr:p<S.cM.length:=by rw [h.lg];exact hp
     have el:=Mq yf
     have er:=Mq hp
     have eg:=Mq zr
     have g0:=(h.rk p _ eg).mpr ⟨_,e⟩
     have c0:=(h.go p _ _ el eg).symm.trans g0
     refine ⟨_,er,λ c v ev=>?_⟩
     have hc:c<S.bp[p].length:=by rw [h.sh p _ _ el er];exact (List.getElem?_eq_some_iff.mp ev).1
     have ec:=Mq hc
     have nn:=List.countP_eq_zero.mp c0 _ (acx hc)
     cases q:S.bp[p][c] with
     | none=>rw [q] at nn;exact absurd rfl nn
     | some t' =>
       rw [q] at ec
       have le:=(h.top p t _ e el).1 c t' ec
       obtain ⟨r,KZ,w⟩:=h.ls p _ c t' el ec
       rw [er] at KZ
       cases KZ
       rcases w with ⟨w,_⟩|⟨js,w,j,hj,ej⟩
       . rw [ev] at w
         exact .inl (abG w)
       . rw [ev] at w
         exact .inr ⟨js,abG w,j,hj,(ih t' (by lia) j ej).mono le⟩
theorem gQ.whole {rows:List bE} {S:i7} (h:gQ rows S cur) (nd:ff rows S) (gd:∀ j∈S.queue,vb rows S j):∀ (k p:Nat),ma rows k p->∃ k',S.bq[p]?=some (some k')/\k'<=k
 | 0,p,e=>⟨0,(h.z p).mp e,aaU _⟩
 | k+1,p,⟨r,er,hr⟩=>by
   have hp:p<rows.length:=(List.getElem?_eq_some_iff.mp er).1
   have yf:p<S.bp.length:=by rw [h.ll];exact hp
   have zr:p<S.cM.length:=by rw [h.lg];exact hp
   have el:=Mq yf
   have eg:=Mq zr
   have all:∀ c:Nat,c<S.bp[p].length->∃ t,S.bp[p][c]?=some (some t)/\t<=k:=by
     intro c hc
     have LM:c<r.length:=by rw [← h.sh p _ _ el er];exact hc
     have ev:=Mq LM
     rcases hr c _ ev with q|⟨js,q,j,hj,ill⟩
     . rw [q] at ev
       obtain ⟨l,e1,e2⟩:=nd p r c er ev
       rw [el] at e1
       cases e1
       exact ⟨0,e2,aeU _⟩
     .
      rw [q] at ev
      obtain ⟨k',ek,le⟩:=h.whole nd gd k j ill
      obtain ⟨l,t,k2,e1,e2,e3,e4⟩:=gd j ((h.qu j).mpr ⟨k',ek⟩) p r c js er ev hj
      rw [el] at e1
      cases e1
      rw [ek] at e3
      cases e3
      exact ⟨t,e2,by lia⟩
   have c0:S.bp[p].countP Option.isNone=0:=List.countP_eq_zero.mpr λ v hv z=>by
     obtain ⟨c,hc,rfl⟩:=List.mem_iff_getElem.mp hv
     obtain ⟨t,et,_⟩:=all c hc
     rw [Mq hc] at et
     rw [abG et] at z
     cases z
   obtain ⟨k',ek⟩:=(h.rk p _ eg).mp ((h.go p _ _ el eg).trans c0)
   refine ⟨k',ek,?_⟩
   cases k' with
   | zero=>exact aeU _
   | succ t =>
     obtain ⟨c,ec⟩:=(h.top p t _ ek el).2
     obtain ⟨t2,e2,le⟩:=all c (List.getElem?_eq_some_iff.mp ec).1
     rw [ec] at e2
     cases e2
     lia
theorem gQ.up {rows:List bE} {S:i7} {a b:Nat} (h:gQ rows S a) (le:a<=b):gQ rows S b :=
 ⟨h.ll,h.lg,h.lk,h.sh,h.go,h.rk,h.qu,h.nd,h.z,λ p l c t e f=>acS (h.lo p l c t e f) le,h.ls,h.top,λ p k e=>acS (h.le p k e) (alG le),h.srt⟩
def BQ (rows:List bE):i7:=⟨rows.map λ r=>r.map λ _=>none,rows.map List.length,rows.map λ r=>if r.length=0 then some 0 else none,(List.range rows.length).filter λ p=>rows[p]? == some []⟩
theorem fT {rows:List bE} {p k:Nat}:(BQ rows).bq[p]?=some (some k)↔rows[p]?=some []/\k=0:=by
 show (rows.map _)[p]?=_↔_
 rw [aat]
 cases e:rows[p]? with
 | none=>simp
 | some r =>
   simp only [alj,Option.some.injEq]
   cases r with
   | nil=>simp [eq_comm]
   | cons a r=>simp
theorem rJ {rows:List bE} {p:Nat} {l:List (Option Nat)} (e:(BQ rows).bp[p]?=some l):∃ r,rows[p]?=some r/\l=r.map λ _=>none:=by
 have e:(rows.map λ r=>r.map λ _=>(none:Option Nat))[p]?=some l:=e
 rw [aat] at e
 obtain ⟨r,er,rfl⟩:=Option.map_eq_some_iff.mp e
 exact ⟨r,er,rfl⟩
theorem yX {rows:List bE} {p t:Nat} {l:List (Option Nat)} (e:(BQ rows).bp[p]?=some l):l[c]?≠some (some t):=by
 obtain ⟨r,_,rfl⟩:=rJ e
 intro q
 rw [aat] at q
 obtain ⟨_,_,z⟩:=Option.map_eq_some_iff.mp q
 cases z
theorem LW (rows:List bE):gQ rows (BQ rows) 0:=by
 have cn:∀ r:bE,(r.map λ _=>(none:Option Nat)).countP Option.isNone=r.length:=λ r=>by
   rw [List.countP_map]
   exact List.countP_eq_length.mpr λ a _=>rfl
 refine ⟨zN ..,zN ..,zN ..,λ p l r e er=>?_,λ p l n e en=>?_,λ p n en=>?_,λ p=>?_,List.nodup_range.filter _,λ p=>?_,λ p l c t e q=>absurd q (yX e),λ p l c t e q=>absurd q (yX e),λ p t l e _=>?_,λ p k e=>?_,?_⟩
 .
  obtain ⟨r',Oc,rfl⟩:=rJ e
  rw [er] at Oc
  cases Oc
  exact zN ..
 .
  obtain ⟨r,er,rfl⟩:=rJ e
  have en:(rows.map List.length)[p]?=some n:=en
  rw [aat,er] at en
  rw [cn]
  exact (abG en).symm
 .
  have en:(rows.map List.length)[p]?=some n:=en
  rw [aat] at en
  obtain ⟨r,er,rfl⟩:=Option.map_eq_some_iff.mp en
  refine ⟨λ z=>⟨0,fT.mpr ⟨by rw [er,List.length_eq_zero_iff.mp z],rfl⟩⟩,λ ⟨k,e⟩=>?_⟩
  have:=(fT.mp e).1
  rw [er] at this
  rw [abG this];rfl
 .
  show p∈(List.range rows.length).filter _↔_
  rw [amo,List.mem_range]
  refine ⟨λ ⟨_,e⟩=>⟨0,fT.mpr ⟨by simpa using e,rfl⟩⟩,λ ⟨k,e⟩=>?_⟩
  have:=(fT.mp e).1
  exact ⟨(List.getElem?_eq_some_iff.mp this).1,by rw [this];rfl⟩
 . exact ⟨λ e=>fT.mpr ⟨e,rfl⟩,λ e=>(fT.mp e).1⟩
 . have:=(fT.mp e).2
   lia
 . rw [(fT.mp e).2];exact aeU _
 . refine amF (R:=λ _ _=>True) (λ _ _ _ x y ex ey=>?_) (List.pairwise_of_forall λ _ _=>trivial)
   rw [(fT.mp ex).2];exact aeU _
def tw (m:ao):Nat->bZ->Prop
 | 0,s=>s.orders m=[]
 | k+1,s=>∀ o∈s.orders m,jW m s o=none∨∃ l,jW m s o=some l/\∃ t∈l,tw m k t
theorem vL {α β:Type} {F:α->β->Prop}:∀ {l₁:List α} {l₂:List β},Paired F l₁ l₂->∀ a∈l₁,∃ b∈l₂,F a b
 | _,_,.nil,_,h=>absurd h aaI
 | _,_,.cons f q,a,h=>by
   rcases List.mem_cons.mp h with rfl|h
   . exact ⟨_,abQ,f⟩
   . obtain ⟨b,hb,fb⟩:=vL q a h
     exact ⟨b,aaS _ hb,fb⟩
theorem vM {α β:Type} {F:α->β->Prop}:∀ {l₁:List α} {l₂:List β},Paired F l₁ l₂->∀ b∈l₂,∃ a∈l₁,F a b
 | _,_,.nil,_,h=>absurd h aaI
 | _,_,.cons f q,a,h=>by
   rcases List.mem_cons.mp h with rfl|h
   . exact ⟨_,abQ,f⟩
   . obtain ⟨b,hb,fb⟩:=vM q a h
     exact ⟨b,aaS _ hb,fb⟩
theorem fV.ill {m:ao} {g:oQ} (h:fV m g) (le:g.rows.length=g.met.length):∀ (k p:Nat) (s:bZ),g.met[p]?=some s->(ma g.rows k p↔tw m k s):=by
 have row:∀ {p s},g.met[p]?=some s->∃ r,g.rows[p]?=some r/\Paired (λ o b=>mS g.met (jW m s o) b) (s.orders m) r:=λ {p s} e=>by
   have hp:p<g.rows.length:=by rw [le];exact (List.getElem?_eq_some_iff.mp e).1
   exact ⟨_,Mq hp,h.rows p s _ e (Mq hp)⟩
 intro k
 induction k with
 | zero =>
   intro p s e
   obtain ⟨r,er,hr⟩:=row e
   have ln:=hr.length
   show g.rows[p]?=some []↔s.orders m=[]
   rw [er]
   refine ⟨λ z=>?_,λ z=>?_⟩
   . rw [abG z] at ln
     exact List.length_eq_zero_iff.mp ln
   . rw [z] at ln
     rw [List.length_eq_zero_iff.mp ln.symm]
 | succ k ih =>
   intro p s e
   obtain ⟨r,er,hr⟩:=row e
   refine ⟨λ ⟨r',Oc,q⟩ o ho=>?_,λ q=>⟨r,er,λ c v ev=>?_⟩⟩
   .
    rw [er] at Oc
    cases Oc
    obtain ⟨b,hb,rb⟩:=vL hr o ho
    obtain ⟨c,hc,ec⟩:=List.mem_iff_getElem.mp hb
    have:=q c b (by rw [Mq hc,ec])
    cases es:jW m s o with
    | none=>exact .inl rfl
    | some l =>
      rw [es] at rb
      cases b with
      | none=>exact rb.elim
      | some js =>
        rcases this with z|⟨Hq,z,j,hj,ill⟩
        . cases z
        . cases z
          obtain ⟨t,ht,et⟩:=vL (show Paired _ js l from rb) j hj
          exact .inr ⟨l,rfl,t,ht,(ih j t et).mp ill⟩
   .
    obtain ⟨o,ho,rb⟩:=vM hr v (aaK ev)
    cases v with
    | none=>exact .inl rfl
    | some js =>
      rcases q o ho with z|⟨l,z,t,ht,ill⟩
      . rw [z] at rb;exact rb.elim
      . rw [z] at rb
        obtain ⟨j,hj,et⟩:=vM (show Paired _ js l from rb) t ht
        exact .inr ⟨js,rfl,j,hj,(ih j t et).mpr ill⟩
def mL (m:ao) (s:bZ):Option Nat->Prop
 | none=>∀ k,¬tw m k s
 | some k=>tw m k s/\∀ i,i<k->¬tw m i s
theorem gQ.rank {m:ao} {g:oQ} {S:i7} (h:gQ g.rows S cur) (nd:ff g.rows S) (gd:∀ j∈S.queue,vb g.rows S j) (ok:fV m g) (le:g.rows.length=g.met.length) {p:Nat} {s:bZ} {v:Option Nat} (e:g.met[p]?=some s) (ev:S.bq[p]?=some v):mL m s v:=by
 cases v with
 | none =>
   intro k q
   obtain ⟨k',e',_⟩:=h.whole nd gd k p ((ok.ill le k p s e).mpr q)
   rw [ev] at e'
   cases e'
 | some k =>
   refine ⟨(ok.ill le k p s e).mp (h.sound k p ev),λ i hi q=>?_⟩
   obtain ⟨k',e',lk⟩:=h.whole nd gd i p ((ok.ill le i p s e).mpr q)
   rw [ev] at e'
   cases e'
   lia
theorem mL.le {m m':ao} {s s':bZ} {a b:Option Nat} (h:mL m s a) (h':mL m' s' b) (sim:∀ k,tw m' k s'->tw m k s):b=none∨∃ x y,a=some x/\b=some y/\x<=y:=by
 cases b with
 | none=>exact .inl rfl
 | some y =>
   have ill:=sim y h'.1
   cases a with
   | none=>exact absurd ill (h y)
   | some x=>exact .inr ⟨x,y,rfl,rfl,Nat.le_of_not_lt λ z=>h.2 y z ill⟩
section
variable {m:ao} {a b c:Int}
theorem pL {s:bZ} {h:Nat} (la:m.most<=a) (lh:s.heap<=h) {o:Nat} (ho:o∈s.orders m):o∈bZ.orders { m with most:=a,d8:=b,load:=c } { s with heap:=h }:=by
 obtain ⟨h1,h2⟩:=List.mem_filter.mp ho
 refine List.mem_filter.mpr ⟨h1,?_⟩
 obtain ⟨h2,h3⟩:=Bool.and_eq_true_iff.mp h2
 refine Bool.and_eq_true_iff.mpr ⟨h2,?_⟩
 obtain ⟨h3,h4⟩:=Bool.and_eq_true_iff.mp h3
 have h3:=akM h3
 have h4:m.kh o<=(s.heap:Int):=akM h4
 refine Bool.and_eq_true_iff.mpr ⟨adD (ak7 h3 la),adD ?_⟩
 show m.kh o<=(h:Int)
 lia
theorem DV {s:bZ} {h:Nat} {o:Nat}:(jW m s o=none/\jW { m with most:=a,d8:=b,load:=c } { s with heap:=h } o=none)∨(jW m s o=some (qa m s o)/\jW { m with most:=a,d8:=b,load:=c } { s with heap:=h } o=some (qa { m with most:=a,d8:=b,load:=c } { s with heap:=h } o)):=by
 by_cases q:(di m s o).all (λ out=>jb m s (Ord.off o out))=true
 . exact .inr ⟨ady q,ady (show (di { m with most:=a,d8:=b,load:=c } { s with heap:=h } o).all (λ out=>jb { m with most:=a,d8:=b,load:=c } { s with heap:=h } (Ord.off o out))=true from q)⟩
 . exact .inl ⟨ac9 q,ac9 (show ¬(di { m with most:=a,d8:=b,load:=c } { s with heap:=h } o).all (λ out=>jb { m with most:=a,d8:=b,load:=c } { s with heap:=h } (Ord.off o out))=true from q)⟩
theorem wy (la:m.most<=a) (lb:m.d8<=b) (lc:m.load<=c):∀ (k:Nat) (s:bZ) (h:Nat),s.heap<=h->tw { m with most:=a,d8:=b,load:=c } k { s with heap:=h }->tw m k s
 | 0,s,h,lh,q=>List.eq_nil_iff_forall_not_mem.mpr λ o ho=>by
   have:=pL (b:=b) (c:=c) la lh ho
   rw [show bZ.orders { m with most:=a,d8:=b,load:=c } { s with heap:=h }=[] from q] at this
   exact absurd this aaI
 | k+1,s,h,lh,q=>λ o ho=>by
   rcases DV (m:=m) (a:=a) (b:=b) (c:=c) (s:=s) (h:=h) (o:=o) with ⟨e,_⟩|⟨e,e'⟩
   . exact .inl e
   .
    rcases q o (pL la lh ho) with z|⟨l,z,t,ht,ill⟩
    . rw [e'] at z;cases z
    .
     rw [e'] at z
     cases z
     obtain ⟨out,ve,ht⟩:=List.mem_flatMap.mp ht
     obtain ⟨bs,hb,rfl⟩:=List.mem_map.mp ht
     refine .inr ⟨_,e,s.behind m bs o out,List.mem_flatMap.mpr ⟨out,ve,List.mem_map.mpr ⟨bs,hb,rfl⟩⟩,?_⟩
     refine wy la lb lc k (s.behind m bs o out) _ ?_ (show tw _ k { s.behind m bs o out with heap:=(bZ.jU { m with most:=a,d8:=b,load:=c } { s with heap:=h } (Ord.off o out)).toNat } from ill)
     show (s.jU m (Ord.off o out)).toNat<=_
     refine Int.toNat_le_toNat ?_
     show min m.d8 ((s.heap:Int) - m.kh (Ord.off o out)+m.load)<=min b ((h:Int) - m.kh (Ord.off o out)+c)
     lia
end
section
variable {X:Cx}
inductive Qy (K:W.Frag) (x:V) (y:V) (H:Hp) (Q:VK):Prop
 | mk (p xs:_) (i:Nat) (v:_) (_:x = .ref p) (_:y=al i) (_:aR K H p xs) (_:xs[i]?=some v) (_:Q v H)
theorem EG:N8 X (Qy X.K):=by
 intro pins s U H x y v u Q I rx ry h
 obtain ⟨p,xs,i,z,rfl,rfl,hq,he,q⟩:=h
 cases rx
 obtain ⟨t,rfl⟩:=ry
 obtain ⟨bg,r,pl,hz⟩:=I.list hq
 obtain ⟨w,ew,yQ⟩:=r.get he
 have hl:=r.length
 have hn:=rm
 have hi:=(List.getElem?_eq_some_iff.mp he).1
 exact wpAny_getItem_list pl.isList (akt i) (by lia) (by rw [ag7];simpa using ew) ⟨z,H,I,yQ,q⟩
end
def ja:Option Nat->V
 | none => .cf
 | some n=>al n
abbrev QP (pl pg pk pq:Addr):List (Str×V):=[("lasts",.ref pl),("going",.ref pg),("ranks",.ref pk),("queue",.ref pq)]
structure gL (CR:Addr) (H:Hp) (x pl pg pk pq:Addr) (qs:List Addr) (S:i7):Prop where
 ins:∃ dx,H x=some (.ins CR dx (QP pl pg pk pq))
 VC:H pl=some (.lst (qs.map .ref))
 len:qs.length=S.bp.length
 AR:∀ (i:Nat) q l,qs[i]?=some q->S.bp[i]?=some l->H q=some (.lst (l.map ja))
 SB:H pg=some (.lst (S.cM.map al))
 SL:H pk=some (.lst (S.bq.map ja))
 Us:H pq=some (.lst (S.queue.map al))
 nd:(pl::pg::pk::pq::qs).Nodup
theorem map_set {α β:Type} (f:α->β) (l:List α) (i:Nat) (a:α):(l.map f).set i (f a)=(l.set i a).map f:=List.map_set.symm
theorem gL.fin {CR:Addr} {x pg q:Addr} {S:i7} {p t n:Nat} {l:List (Option Nat)} (h:gL CR H x pl pg pk pq qs S) (hq:qs[p]?=some q) (hl:S.bp[p]?=some l) :
   gL CR (upd (upd H q (.lst ((l.map ja).set c (al t)))) pg (.lst ((S.cM.map al).set p (al (n - 1))))) x pl pg pk pq qs ⟨S.bp.set p (l.set c (some t)),S.cM.set p (n - 1),S.bq,S.queue⟩:=by
 obtain ⟨⟨dx,hx⟩,h1,h2,h3,h4,h5,h6,h7⟩:=h
 have wl:=aaK hq
 simp only [ak9,aa1,akH] at h7
 obtain ⟨⟨a1,a2,a3,a4⟩,⟨b1,b2,b3⟩,⟨c1,c2⟩,d1,nd⟩:=h7
 have nq:∀ {a},a∉qs->a≠q:=λ n z=>n (z ▸ wl)
 have xa:=h3 p q l hq hl
 refine ⟨⟨dx,?_⟩,?_,?_,λ i q' l' e e'=>?_,?_,?_,?_,?_⟩
 . rw [aq (λ z=>by rw [z,h4] at hx;cases hx),aq (λ z=>by rw [z,xa] at hx;cases hx)];exact hx
 . rw [aq a1,aq (nq a4)];exact h1
 . rw [aho];exact h2
 .
  rw [aq (λ z=>b3 (by rw [← z];exact aaK e))]
  by_cases hi:p=i
  .
   subst hi
   rw [hq] at e
   cases e
   rw [af]
   rcases cA.mp e' with ⟨_,_,e'⟩|⟨z,_⟩
   . rw [e']
     exact ahP some (ahP HO.lst (map_set ja l c (some t)))
   . exact absurd rfl z
  .
   rcases cA.mp e' with ⟨z,_⟩|⟨_,e'⟩
   . exact absurd z hi
   rw [aq (λ z=>?_)]
   . exact h3 i q' l' e e'
   . rw [z] at e
     obtain ⟨i1,j1⟩:=List.getElem?_eq_some_iff.mp hq
     obtain ⟨i2,j2⟩:=List.getElem?_eq_some_iff.mp e
     exact hi ((amh nd).mp (j1.trans j2.symm))
 . rw [af,map_set]
 . rw [aq (λ z=>b1 z.symm),aq (nq c2)];exact h5
 . rw [aq (λ z=>b2 z.symm),aq (nq d1)];exact h6
 . simp only [ak9,aa1,akH]
   exact ⟨⟨a1,a2,a3,a4⟩,⟨b1,b2,b3⟩,⟨c1,c2⟩,d1,nd⟩
theorem gL.aid {CR:Addr} {x pg:Addr} {S:i7} {p t:Nat} (h:gL CR H x pl pg pk pq qs S) :
   gL CR (upd (upd H pk (.lst ((S.bq.map ja).set p (al (t+1))))) pq (.lst (S.queue.map al++[al p]))) x pl pg pk pq qs ⟨S.bp,S.cM,S.bq.set p (some (t+1)),S.queue++[p]⟩:=by
 obtain ⟨⟨dx,hx⟩,h1,h2,h3,h4,h5,h6,h7⟩:=h
 have nd:=h7
 simp only [ak9,aa1,akH] at h7
 obtain ⟨⟨a1,a2,a3,a4⟩,⟨b1,b2,b3⟩,⟨c1,c2⟩,d1,_⟩:=h7
 refine ⟨⟨dx,?_⟩,?_,h2,λ i q' l' e e'=>?_,?_,?_,?_,nd⟩
 . rw [aq (λ z=>by rw [z,h6] at hx;cases hx),aq (λ z=>by rw [z,h5] at hx;cases hx)];exact hx
 . rw [aq a3,aq a2];exact h1
 . have:=aaK e
   rw [aq (λ z=>d1 (by rw [← z];exact this)),aq (λ z=>c2 (by rw [← z];exact this))]
   exact h3 i q' l' e e'
 . rw [aq b2,aq b1];exact h4
 . rw [aq c1,af]
   exact ahP some (ahP HO.lst (map_set ja S.bq p (some (t+1))))
 . rw [af,aaN];rfl
inductive KH (CR:Addr) (vs:List V) (H:Hp) (Q:VK) (_E:XK):Prop
 | mk (x pl pg pk pq qs S:_) (p c t n:Nat) (l:_) (_:vs=[.ref x,al p,al c,al t]) (_:gL CR H x pl pg pk pq qs S) (_:S.bp[p]?=some l) (_:c<l.length) (_:S.cM[p]?=some n) (_:n≠0) (_:p<S.bq.length) (_:S.queue.length<=10000) (_:∀ H',f8 (pl::pg::pk::pq::qs) H H'->gL CR H' x pl pg pk pq qs (S.fin p c t l n)->Q .cf H')
abbrev Ec (pl pg pk pq:Addr) (qs:List Addr):List Addr:=pl::pg::pk::pq::qs
structure yE (S S1:i7):Prop where
 qu:∃ more,S1.queue=S.queue++more
 rk:∀ (j k:Nat),S.bq[j]?=some (some k)->S1.bq[j]?=some (some k)
 la:∀ (p:Nat) l (c:Nat) t,S.bp[p]?=some l->l[c]?=some (some t)->∃ l',S1.bp[p]?=some l'/\l'[c]?=some (some t)
theorem yE.refl (S:i7):yE S S:=⟨⟨[],(ahG _).symm⟩,λ _ _ h=>h,λ _ l _ _ h h'=>⟨l,h,h'⟩⟩
theorem yE.trans {S S1 S2:i7} (a:yE S S1) (b:yE S1 S2):yE S S2:=by
 refine ⟨?_,λ j k h=>b.rk j k (a.rk j k h),λ p l c t h h'=>?_⟩
 . obtain ⟨m1,e1⟩:=a.qu
   obtain ⟨m2,e2⟩:=b.qu
   exact ⟨m1++m2,by rw [e2,e1,alA]⟩
 . obtain ⟨l1,h1,h2⟩:=a.la p l c t h h'
   exact b.la p l1 c t h1 h2
theorem gQ.M9 {rows:List bE} {S:i7} {p n t:Nat} {l:List (Option Nat)} (h:gQ rows S cur) (hl:S.bp[p]?=some l) (hn:S.cM[p]?=some n) (hc:l[c]?=some none):yE S (S.fin p c t l n):=by
 refine ⟨?_,λ j k e=>h.Bw hl hn hc e,λ p' l' c' t' e e'=>tS hl hc e e'⟩
 by_cases h1:n=1
 . exact ⟨[p],ady h1⟩
 . exact ⟨[],(ac9 h1).trans (ahG _).symm⟩
theorem vb.more {rows:List bE} {S S1:i7} {j:Nat} (g:vb rows S j) (x:yE S S1):vb rows S1 j:=λ p r c js er ec hj=>by
 obtain ⟨l,t,k,e1,e2,e3,e4⟩:=g p r c js er ec hj
 obtain ⟨l2,f1,f2⟩:=x.la p l c t e1 e2
 exact ⟨l2,t,k,f1,f2,x.rk j k e3,e4⟩
theorem ff.more {rows:List bE} {S S1:i7} (g:ff rows S) (x:yE S S1):ff rows S1:=λ p r c er ec=>by
 obtain ⟨l,e1,e2⟩:=g p r c er ec
 exact x.la p l c 0 e1 e2
theorem yE.at {S S1:i7} {i j:Nat} (x:yE S S1) (e:S.queue[i]?=some j):S1.queue[i]?=some j:=by
 obtain ⟨m,em⟩:=x.qu
 rw [em,abM (List.getElem?_eq_some_iff.mp e).1]
 exact e
theorem gQ.ql {rows:List bE} {S:i7} (h:gQ rows S cur):S.queue.length<=rows.length:=by
 have:=ame h.nd (l₂:=List.range rows.length) λ p hp=>by
   obtain ⟨k,e⟩:=(h.qu p).mp hp
   exact List.mem_range.mpr (by rw [← h.lk];exact (List.getElem?_eq_some_iff.mp e).1)
 rw [abU] at this
 exact this
def FL (K:W.Frag) (H:Hp) (F:List Addr) (pa:Addr) (ah:List (List (Nat×Nat))):Prop:=∃ va,H pa=some (.lst va)/\pa∉F/\Refs (λ q l=>q∉F/\∃ vs,H q=some (.lst vs)/\Refs (λ b (pc:Nat×Nat)=>bO K H b [al pc.1,al pc.2]) vs l) va ah
theorem FL.but {K:W.Frag} {F:List Addr} {pa:Addr} {ah:List (List (Nat×Nat))} (h:FL K H F pa ah) (b:f8 F H H') (t:aI K H H'):FL K H' F pa ah:=by
 obtain ⟨va,h1,h2,h3⟩:=h
 exact ⟨va,b _ _ h1 h2,h2,h3.imp λ q l ⟨n,vs,e,r⟩=>⟨n,vs,b _ _ e n,r.imp λ p pc z=>t _ _ z⟩⟩
def L1 (rows:List bE) (ah:List (List (Nat×Nat))):Prop:=ah.length=rows.length/\∀ (j:Nat) l p c,ah[j]?=some l->((p,c)∈l↔∃ r:bE,∃ js,rows[p]?=some r/\r[c]?=some (some js)/\j∈js)
theorem gL.rQ {CR:Addr} {x pg:Addr} {S:i7} (h:gL CR H x pl pg pk pq qs S):FR H (Ec pl pg pk pq qs):=λ b hb=>by
 simp only [aa1] at hb
 rcases hb with rfl|rfl|rfl|rfl|hb
 . exact ⟨_,h.VC,rfl⟩
 . exact ⟨_,h.SB,rfl⟩
 . exact ⟨_,h.SL,rfl⟩
 . exact ⟨_,h.Us,rfl⟩
 . obtain ⟨i,hi,rfl⟩:=List.mem_iff_getElem.mp hb
   have Ak:i<S.bp.length:=by rw [← h.len];exact hi
   exact ⟨_,h.AR i _ _ (Mq hi) (Mq Ak),rfl⟩
theorem Bp {K:W.Frag} (hL:FR H L) (b:f8 L H H'):aI K H H':=λ c xs q=>by
 have n:∀ u,H c=some u->Bf u=false->c∉L:=λ u e z y=>by
   obtain ⟨o,e2,n⟩:=hL c y
   rw [e] at e2
   cases e2
   rw [n] at z
   cases z
 rcases q with (q|⟨ob,q⟩)|q
 . exact .inl (.inl (b _ _ q (n _ q rfl)))
 . exact .inl (.inr ⟨ob,b _ _ q (n _ q rfl)⟩)
 . exact .inr q
theorem xI {H1 H2:Hp} (a:f8 L H H1) (b:f8 L H1 H2):f8 L H H2:=λ c o h n=>b c o (a c o h n) n
inductive BW (K:W.Frag) (CR:Addr) (vs:List V) (H:Hp) (Q:VK) (_E:XK):Prop
 | mk (x pl pg pk pq qs S pa ah rows:_) (_:vs=[.ref x,.ref pa]) (_:gL CR H x pl pg pk pq qs S) (_:gQ rows S 0) (_:ff rows S) (_:FL K H (Ec pl pg pk pq qs) pa ah) (_:L1 rows ah) (_:rows.length<=2000) (_:∀ H' S' cur,f8 (Ec pl pg pk pq qs) H H'->gL CR H' x pl pg pk pq qs S'->gQ rows S' cur->ff rows S'->(∀ j∈S'.queue,vb rows S' j)->Q .cf H')
def InH (m:ao) (i:Int):Prop:=0<=i/\i<(m.rows.length:Int)
instance (m:ao) (i:Int):Decidable (InH m i):=inferInstanceAs (Decidable (_/\_))
end L2
namespace PySem
open Sem (wp)
end PySem
namespace L2
open PySem PySem.Spec PyProof.Rows Mth
theorem vF {sq:Hp->Addr->List V->Prop} {a:Addr} {xs:List V} {g:TG} {tb:TS} {D:Ends} {U:St} {H:Hp} (Pv:Nat->St->Hp->Prop) (h0:Pv 0 U H) (hl:∀ i U H,i<=xs.length->Pv i U H->sq H a xs)
   (hs:∀ i x p U H,xs[i]?=some x->H p=none->Pv i U H->g (.ref p) U (upd H p (.tup [al i,x])) λ σ2 H2=>tb ⟨Pv (i+1),D.rt,D.nx,Pv (i+1)⟩ σ2 H2) (hd:∀ U H,Pv xs.length U H->D.nx U H) :
   ∃ W:Nat->Nat->St->Hp->Prop,(∃ m,W 0 m U H)/\∀ i m U H,W i m U H ->
     ((Df sq a).stop i H/\D.nx U H)∨((Df sq a).go i H/\∃ N:St->Hp->Prop,(∀ σ' H',N σ' H'->∃ m',m'<m/\W (i+1) m' σ' H')/\∀ x H',(Df sq a).Ge i H x H'->g x U H' λ σ2 H2=>tb { D with nx:=N,ct:=N,bk:=D.nx } σ2 H2):=by
 refine ⟨λ i m U H=>m=xs.length - i/\i<=xs.length/\Pv i U H,⟨_,rfl,aeU _,h0⟩,?_⟩
 rintro i m U H ⟨rfl,hi,p⟩
 have q:=hl i U H hi p
 by_cases l5:i<xs.length
 . refine .inr ⟨⟨xs,xs[i],q,by simp [l5]⟩,Pv (i+1),λ σ' H' p'=>⟨xs.length - (i+1),by lia,rfl,l5,p'⟩,λ v H' y=>?_⟩
   obtain ⟨pp,x,hn,rfl,rfl,e1⟩:=y
   exact hs i x pp U H (e1 xs q) hn p
 . have e:i=xs.length:=by lia
   subst e
   exact .inl ⟨⟨xs,q,rfl⟩,hd U H p⟩
end L2
namespace Mth
def qv (f:Int×Int):Rat:=(f.1:Rat) / (f.2:Rat)
theorem gp {b:Int} (h:0<b):(b:Rat)≠0:=λ z=>by
 have:b=0:=by exact_mod_cast z
 lia
theorem m7 {b:Int} (h:0<b):(0:Rat)<(b:Rat):=by exact_mod_cast h
theorem SJ {f:Int×Int} {t b:Int} (hb:0<b) (hf:0<f.2) (c:f.1 * b=t * f.2):qv f=(t:Rat) / (b:Rat):=by
 have h1:=gp hf
 have h2:=gp hb
 have c':(f.1:Rat) * (b:Rat)=(t:Rat) * (f.2:Rat):=by exact_mod_cast c
 unfold qv
 grind
theorem Aj {t b:Int} (hb:0<b):qv (nf t b)=(t:Rat) / (b:Rat):=SJ hb (kj hb).pos (kj hb).Bs
theorem xG {x y:Int×Int} (hx:0<x.2) (hy:0<y.2):qv (jI x y)=qv x - qv y:=by
 unfold jI
 rw [Aj (ajk hx hy)]
 have h1:=gp hx
 have h2:=gp hy
 have e1:((x.1 * y.2 - y.1 * x.2:Int):Rat)=(x.1:Rat) * (y.2:Rat) - (y.1:Rat) * (x.2:Rat):=by push_cast;rfl
 have e2:((x.2 * y.2:Int):Rat)=(x.2:Rat) * (y.2:Rat):=by push_cast;rfl
 unfold qv
 rw [e1,e2]
 grind
theorem Bt {x y:Int×Int} (hx:0<x.2) (hy:0<y.2):qv (lZ x y)=qv x+qv y:=by
 unfold lZ
 rw [Aj (ajk hx hy)]
 have h1:=gp hx
 have h2:=gp hy
 have e1:((x.1 * y.2+y.1 * x.2:Int):Rat)=(x.1:Rat) * (y.2:Rat)+(y.1:Rat) * (x.2:Rat):=by push_cast;rfl
 have e2:((x.2 * y.2:Int):Rat)=(x.2:Rat) * (y.2:Rat):=by push_cast;rfl
 unfold qv
 rw [e1,e2]
 grind
theorem yu {x y:Int×Int} (hx:0<x.2) (hy:0<y.2):bI x y=true↔qv x<qv y:=by
 unfold bI
 rw [ajC]
 have h1:=m7 hx
 have h2:=m7 hy
 have ex:qv x * (x.2:Rat)=(x.1:Rat):=by unfold qv;have:=gp hx;grind
 have ey:qv y * (y.2:Rat)=(y.1:Rat):=by unfold qv;have:=gp hy;grind
 have e:(x.1 * y.2<y.1 * x.2)↔(qv x * (x.2:Rat) * (y.2:Rat)<qv y * (y.2:Rat) * (x.2:Rat)):=by
   rw [ex,ey]
   constructor
   . intro h;exact_mod_cast h
   . intro h;exact_mod_cast h
 rw [e]
 generalize qv x=a
 generalize qv y=b
 have pp:(0:Rat)<(x.2:Rat) * (y.2:Rat):=Rat.mul_pos h1 h2
 have r1:a * (x.2:Rat) * (y.2:Rat)=a * ((x.2:Rat) * (y.2:Rat)):=by grind
 have r2:b * (y.2:Rat) * (x.2:Rat)=b * ((x.2:Rat) * (y.2:Rat)):=by grind
 rw [r1,r2]
 exact alX pp
theorem xF {x y:Int×Int} (hx:0<x.2) (hy:0<y.2) (h:qv y<=qv x):bI x y=false:=by
 refine Bool.eq_false_iff.mpr λ z=>?_
 have:=(yu hx hy).mp z
 grind
theorem Jq {x:Int×Int} (hx:0<x.2):0<=qv x↔0<=x.1:=by
 have h1:=m7 hx
 have ex:qv x * (x.2:Rat)=(x.1:Rat):=by unfold qv;have:=gp hx;grind
 constructor
 . intro h
   have:(0:Rat)<=(x.1:Rat):=by rw [← ex];exact Rat.mul_nonneg h (amU h1)
   exact_mod_cast this
 .
  intro h
  have h':(0:Rat)<=(x.1:Rat):=by exact_mod_cast h
  rcases Rat.le_total (a:=0) (b:=qv x) with z|z
  . exact z
  .
   have:qv x * (x.2:Rat)<=0:=by
     have:=amc z (amU h1)
     grind
   rw [ex] at this
   have e0:(x.1:Rat)=0:=by grind
   have:qv x=0:=by
     have n:=gp hx
     rw [e0] at ex
     grind
   grind
end Mth
namespace L2
open PySem PySem.Spec PyProof.Rows Mth
variable {H H0:Hp} {as:List Addr} {c:Nat} {pa:Addr}
def CY (m:ao) (i:Nat):Nat->Rat
 | 0=>0
 | n+1=>CY m i n+qv (m.d7 i n)
theorem xf {m:ao} (w:m.Wf) (i:Nat):∀ n,qv (m.f6 i n)=1 - qv (m.dR i) - CY m i n
 | 0=>by
   have e:m.f6 i 0=jI (1,1) (m.dR i):=rfl
   rw [e,xG (by decide) (w.dR i).p]
   have:qv (1,1)=1:=by unfold qv;grind
   rw [this]
   show _=1 - qv (m.dR i) - 0
   grind
 | n+1=>by
   rw [ao.mG,xG (w.f6 i n).p (w.d7 i n).p,xf w i n]
   show _=1 - qv (m.dR i) - (CY m i n+qv (m.d7 i n))
   grind
theorem FS {m:ao} (w:m.Wf) (i:Nat):qv (m.own i)=1 - qv (m.dR i) - CY m i m.rows.length:=xf w i _
def Qr (f:bR):Prop:=0<=qv f/\4 * qv f<=1
theorem qr0:Qr (0,1):=by
 have:qv (0,1)=0:=by unfold qv;grind
 unfold Qr
 rw [this]
 constructor<;>grind
structure QH (m:ao):Prop where
 qH:∀ i,Qr (m.dR i)
 d7:∀ i j,Qr (m.d7 i j)
 self:∀ i,m.d7 i i=(0,1)
def sd (i j:Nat):Nat->Nat
 | 0=>0
 | k+1=>sd i j k+(if k=i∨k=j then 0 else 1)
theorem afT:∀ n:Fin 5,∀ i j:Fin 4,i.val<n.val->j.val<n.val->i≠j->sd i.val j.val n.val<=2:=by decide
theorem Zp:∀ n:Fin 5,∀ i:Fin 4,i.val<n.val->sd i.val i.val n.val<=3:=by decide
theorem vZ {m:ao} (h:QH m) (i j:Nat):∀ n,CY m i n<=(if j<n then qv (m.d7 i j) else 0)+(sd i j n:Rat) / 4
 | 0=>by
   rw [ac9 (ahi j)]
   show (0:Rat)<=0+((0:Nat):Rat) / 4
   have:((0:Nat):Rat)=0:=rfl
   grind
 | n+1=>by
   have ih:=vZ h i j n
   have q1:=(h.d7 i n).2
   have q0:=(h.d7 i n).1
   show CY m i n+qv (m.d7 i n)<=_+(((sd i j n+(if n=i∨n=j then 0 else 1):Nat)):Rat) / 4
   by_cases hj:n=j
   .
    subst hj
    rw [ac9 (ah4 _)] at ih
    have c0:(if n=i∨n=n then 0 else 1)=0:=ady (Or.inr rfl)
    rw [ady (amf _),c0]
    have e:((sd i n n+0:Nat):Rat)=(sd i n n:Rat):=rfl
    rw [e]
    grind
   .
    have e0:(if j<n+1 then qv (m.d7 i j) else 0)=(if j<n then qv (m.d7 i j) else 0):=by
      by_cases z:j<n
      . rw [ady z,ady (by lia)]
      . rw [ac9 z,ac9 (by lia)]
    rw [e0]
    by_cases hi:n=i
    .
     subst hi
     have c0:(if n=n∨n=j then 0 else 1)=0:=ady (Or.inl rfl)
     rw [c0]
     have e:((sd n j n+0:Nat):Rat)=(sd n j n:Rat):=rfl
     have z:qv (m.d7 n n)=0:=by rw [h.self];unfold qv;grind
     rw [e,z]
     grind
    . have c0:(if n=i∨n=j then 0 else 1)=1:=ac9 (λ z=>z.elim hi hj)
      rw [c0]
      have e:((sd i j n+1:Nat):Rat)=(sd i j n:Rat)+1:=by push_cast;rfl
      rw [e]
      grind
section
variable {m:ao} {n i j:Nat} {f:bR}
theorem Ah {k:Nat} (h:k<=c):(k:Rat)<=(c:Rat):=by exact_mod_cast h
theorem QH.Dw (h:QH m) (w:m.Wf) (h4:m.rows.length<=4) (hi:i<m.rows.length) (hj:j<m.rows.length) (Bo:i≠j) (hf:0<f.2) (hq:4 * qv f<=1):bI (lZ (m.own i) (m.d7 i j)) f=false:=by
 have po:=(w.f6 i m.rows.length).p
 have pp:=(w.d7 i j).p
 have e:=Bt (x:=m.own i) (y:=m.d7 i j) po pp
 refine xF (kj (ajk po pp)).pos hf ?_
 rw [e,FS w]
 have s:=vZ h i j m.rows.length
 rw [ady hj] at s
 have c:=afT ⟨m.rows.length,by lia⟩ ⟨i,by lia⟩ ⟨j,by lia⟩ hi hj (λ z=>Bo (ahP Fin.val z))
 have c':=Ah c
 have e2:((2:Nat):Rat)=2:=rfl
 have k:=(h.qH i).2
 grind
theorem QH.IM (h:QH m) (w:m.Wf) (h4:m.rows.length<=4) (hi:i<m.rows.length) (hf:0<f.2) (hq:4 * qv f<=1):bI (lZ (m.own i) (m.dR i)) f=false:=by
 have po:=(w.f6 i m.rows.length).p
 have pp:=(w.dR i).p
 have e:=Bt (x:=m.own i) (y:=m.dR i) po pp
 refine xF (kj (ajk po pp)).pos hf ?_
 rw [e,FS w]
 have s:=vZ h i i m.rows.length
 rw [ady hi] at s
 have c:=Zp ⟨m.rows.length,by lia⟩ ⟨i,by lia⟩ hi
 have c':=Ah c
 have e2:((3:Nat):Rat)=3:=rfl
 have z:qv (m.d7 i i)=0:=by rw [h.self];unfold qv;grind
 have k:=(h.qH i).2
 grind
theorem QH.dH (h:QH m) (Bo:i≠j) (hf:Qr f):QH (m.dH i j f):=by
 refine ⟨h.qH,λ a b=>?_,λ a=>?_⟩
 .
  rw [mZ]
  by_cases e:a=i/\b=j
  . rw [ady e];exact hf
  . rw [ac9 e];exact h.d7 a b
 . rw [mZ,ac9 (λ z=>Bo (z.1.symm.trans z.2))];exact h.self a
theorem QH.fI {z:bR×bR×bR} (h:QH m) (hi:i<m.bj.length) (hf:Qr z.1):QH (m.fI i z):=by
 refine ⟨λ a=>?_,h.d7,h.self⟩
 rw [xP hi]
 by_cases e:a=i
 . rw [ady e];exact hf
 . rw [ac9 e];exact h.qH a
theorem QH.dD {z:bR×Int×Int×Int} (h:QH m):QH (m.dD i z):=⟨h.qH,h.d7,h.self⟩
theorem DB {r:List bR} (a:Nat):(m.dY r).dR a=m.dR a:=by
 unfold ao.dR ao.dY
 show (((m.bj++[((0,1),(0,1),(0,1))])[a]?).map (·.1)).getD (0,1)=_
 by_cases e:a<m.bj.length
 . rw [abM e]
 .
  rw [afw (by lia),alS (l:=m.bj) (by lia)]
  by_cases z:a - m.bj.length=0
  . rw [z];rfl
  . rw [alS (by show 1<=_;lia)]
theorem QH.dY {r:List bR} (h:QH m):QH (m.dY r):=⟨λ a=>by rw [DB];exact h.qH a,h.d7,h.self⟩
theorem QH.new {most d8 load:Int}:QH (ao.new most d8 load):=⟨λ _=>qr0,λ _ _=>qr0,λ _=>rfl⟩
end
structure d6 (m:ao):Prop where
 rise:∀ r∈m.rows,kU r=true/\r.length<=5
 qH:∀ s∈m.bj,bI s.2.2 s.2.1=false
 cp:∀ x,some x∈m.aV->0<=x.1.1/\(0<=x.2.1/\x.2.1<=9)/\(0<=x.2.2.1/\x.2.2.1<=3)/\(0<=x.2.2.2/\x.2.2.2<=3)
 zn:m.Bds
theorem Kw {rs:List (List bR)} (h:∀ r∈rs,2<=r.length/\r.length<=5):0<=i0 rs/\i0 rs<=4 ^ rs.length:=by
 have key:∀ (rs:List (List bR)) (a:Int),0<=a->(∀ r∈rs,2<=r.length/\r.length<=5)->0<=rs.foldl (λ p r=>p * ((r.length:Int) - 1)) a/\rs.foldl (λ p r=>p * ((r.length:Int) - 1)) a<=a * 4 ^ rs.length:=by
   intro rs
   induction rs with
   | nil=>intro a ha _;exact ⟨ha,by show a<=a * 1;lia⟩
   | cons r rs ih =>
     intro a ha hr
     have h1:=hr r (by simp)
     rw [amq]
     have b0:0<=a * ((r.length:Int) - 1):=akS ha (by lia)
     obtain ⟨x,y⟩:=ih (a * ((r.length:Int) - 1)) b0 λ q hq=>hr q (by simp [hq])
     refine ⟨x,ak7 y ?_⟩
     have l:a * ((r.length:Int) - 1)<=a * 4:=Int.mul_le_mul_of_nonneg_left (by lia) ha
     have p4:(0:Int)<=4 ^ rs.length:=Int.pow_nonneg (by decide)
     have:=Int.mul_le_mul_of_nonneg_right l p4
     rw [aeR,Int.pow_succ]
     have e:a * (4 ^ rs.length * 4)=a * 4 * 4 ^ rs.length:=by grind
     rw [e]
     exact this
 have:=key rs 1 (by decide) h
 rw [Int.one_mul] at this
 exact this
theorem Ej {rs:List (List bR)} (h:∀ r∈rs,2<=r.length/\r.length<=5) (h4:rs.length<=4):i0 rs<=400:=by
 have a:=(Kw h).2
 have:(4:Int) ^ rs.length<=256:=by
   have:rs.length=0∨rs.length=1∨rs.length=2∨rs.length=3∨rs.length=4:=by lia
   rcases this with e|e|e|e|e<;>rw [e]<;>decide
 lia
theorem Fv {X:Cx} {tg l:Expr} {tl:TE} {K:W.Frag} (hK:X.K=K) (hl:PE X l tl):PI X tg l (JA K tl):=by subst hK;exact bK hl
def J4 (m:ao) (r:Nat):bR×bR×bR:=(m.bj[r]?).getD ((0,1),(0,1),(0,1))
def At (m:ao) (r:Nat):Option (bR×Int×Int×Int):=(m.aV[r]?).getD none
structure yD where
 a:Int
 b:Int
 t:Int
 d:Int
abbrev yD.vs (s:yD):List V:=[.int s.a,.int s.b,.int s.t,.int s.d]
structure yD.Ok (s:yD):Prop where
 a:1<=s.a/\s.a<=10 ^ 9
 b:1<=s.b/\s.b<=10 ^ 9
 t:s.t.natAbs<=10 ^ 9
 d:1<=s.d/\s.d<=10 ^ 9
def dh (x:Int) (s:yD):bR:=nf (x * s.a * s.d+s.t * s.b) (s.b * s.d)
theorem wE {a b:Int} {x y:Nat} (ha:a.natAbs<=x) (hb:b.natAbs<=y):(a * b).natAbs<=x * y:=by
 rw [alv]
 exact Nat.mul_le_mul ha hb
theorem yD.Ok.den {s:yD} (h:s.Ok):0<s.b * s.d/\(s.b * s.d).natAbs<=10 ^ 18:=by
 have hb:=h.b
 have hd:=h.d
 exact ⟨ajk (by lia) (by lia),acS (wE (x:=10 ^ 9) (y:=10 ^ 9) (by lia) (by lia)) (by decide)⟩
theorem yD.Ok.num {s:yD} (h:s.Ok) {x:Int} (hx:x.natAbs<=1000):(x * s.a).natAbs<=10 ^ 12/\(x * s.a * s.d).natAbs<=10 ^ 21/\(s.t * s.b).natAbs<=10 ^ 18:=by
 have ha:=h.a
 have hb:=h.b
 have hd:=h.d
 have e1:=wE (x:=1000) (y:=10 ^ 9) hx (show s.a.natAbs<=10 ^ 9 by lia)
 have e2:=wE (x:=10 ^ 12) (y:=10 ^ 9) (a:=x * s.a) (by lia) (show s.d.natAbs<=10 ^ 9 by lia)
 have e3:=wE (x:=10 ^ 9) (y:=10 ^ 9) h.t (show s.b.natAbs<=10 ^ 9 by lia)
 exact ⟨by lia,by lia,by lia⟩
theorem kK {s:yD} (h:s.Ok) {x:Int} (hx:x.natAbs<=1000):eT 100 (dh x s):=by
 obtain ⟨d0,d1⟩:=h.den
 obtain ⟨n0,n1,n2⟩:=h.num hx
 have F:=kj (t:=x * s.a * s.d+s.t * s.b) d0
 refine ⟨F.PB (show Int.natAbs _<2 ^ 100 by lia),F.Sw (show Int.natAbs _<2 ^ 100 by lia),F.pos⟩
theorem AL {s:yD} (h:s.Ok) (x:Int):qv (dh x s)=(x:Rat) * ((s.a:Rat) / (s.b:Rat))+(s.t:Rat) / (s.d:Rat):=by
 unfold dh
 rw [Aj h.den.1]
 have h1:=gp (show 0<s.b by have:=h.b;lia)
 have h2:=gp (show 0<s.d by have:=h.d;lia)
 have e1:((x * s.a * s.d+s.t * s.b:Int):Rat)=(x:Rat) * (s.a:Rat) * (s.d:Rat)+(s.t:Rat) * (s.b:Rat):=by push_cast;rfl
 have e2:((s.b * s.d:Int):Rat)=(s.b:Rat) * (s.d:Rat):=by push_cast;rfl
 rw [e1,e2]
 grind
theorem wP {s:yD} (h:s.Ok) {x y:Int} (hx:x.natAbs<=1000) (hy:y.natAbs<=1000):bI (dh x s) (dh y s)=decide (x<y):=by
 have ab:(0:Rat)<(s.a:Rat) / (s.b:Rat):=by
   have p1:=m7 (show 0<s.a by have:=h.a;lia)
   have p2:=m7 (show 0<s.b by have:=h.b;lia)
   have e:(s.a:Rat) / (s.b:Rat) * (s.b:Rat)=(s.a:Rat):=by have:=gp (show 0<s.b by have:=h.b;lia);grind
   rcases Rat.le_total (a:=(s.a:Rat) / (s.b:Rat)) (b:=0) with z|z
   . have:=amc z (amU p2)
     grind
   . have n:(s.a:Rat) / (s.b:Rat)≠0:=λ q=>by rw [q] at e;grind
     grind
 have key:bI (dh x s) (dh y s)=true↔x<y:=by
   rw [yu (kK h hx).p (kK h hy).p,AL h,AL h]
   generalize (s.a:Rat) / (s.b:Rat)=c at ab
   generalize (s.t:Rat) / (s.d:Rat)=e
   constructor
   . intro l
     have l2:(x:Rat) * c<(y:Rat) * c:=by grind
     have:=(alX ab).mp l2
     exact_mod_cast this
   . intro l
     have l1:(x:Rat)<(y:Rat):=by exact_mod_cast l
     have:=(alX ab).mpr l1
     grind
 rw [akN,key,ajC]
structure R7 where
 marks:List Int
 share:Int
 low:Int
 high:Int
 cp:Option (Int×Int×Int×Int)
abbrev JX (r:R7):PyData:=.tuple [.list (r.marks.map PyData.int),.int r.share,.int r.low,.int r.high,stI r.cp]
structure R7.Ok (r:R7):Prop where
 len:2<=r.marks.length/\r.marks.length<=5
 rise:∀ (i:Nat) (x y:Int),r.marks[i]?=some x->r.marks[i+1]?=some y->x<y
 bd:∀ x∈r.marks,x.natAbs<=200
 sh:1<=r.share/\r.share<=3
 lo:r.low<=r.high
 lb:r.low.natAbs<=300
 hb:r.high.natAbs<=300
 st:∀ z,r.cp=some z->(0<=z.1/\z.1<=100)/\(0<=z.2.1/\z.2.1<=9)/\(0<=z.2.2.1/\z.2.2.1<=3)/\(0<=z.2.2.2/\z.2.2.2<=3)
section
variable (K:W.Frag) (C:Addr)
inductive Cc  (vs:List V) (H:Hp) (Q:VK) (_E:XK):Prop
 | mk (c:Int) (_:vs=[.int c]) (_:∀ p (s:yD) H',s.Ok->aC H H'->H' p=some (.tup s.vs)->Q (.ref p) H')
inductive Ee  (vs:List V) (H:Hp) (Q:VK) (_E:XK):Prop
 | mk (x:Int) (p:Addr) (s:yD) (_:vs=[.int x,.ref p]) (_:bO K H p s.vs) (_:s.Ok) (_:x.natAbs<=1000) (_:∀ q H',aC H H'->H' q=some (.tup [.int (dh x s).1,.int (dh x s).2])->Q (.ref q) H')
end
theorem d6.dY {m:ao} {r:List bR} (h:d6 m) (h1:kU r=true) (h2:r.length<=5):d6 (m.dY r):=by
 refine ⟨λ x hx=>?_,λ x hx=>?_,λ x hx=>?_,h.zn⟩
 . rcases List.mem_append.mp hx with hx|hx
   . exact h.rise x hx
   . rw [List.mem_singleton.mp hx];exact ⟨h1,h2⟩
 . rcases List.mem_append.mp hx with hx|hx
   . exact h.qH x hx
   . rw [List.mem_singleton.mp hx];decide
 . rcases List.mem_append.mp hx with hx|hx
   . exact h.cp x hx
   . cases List.mem_singleton.mp hx
theorem d6.fI {m:ao} {i:Nat} {z:bR×bR×bR} (h:d6 m) (h1:bI z.2.2 z.2.1=false):d6 (m.fI i z) :=
 ⟨h.rise,λ x hx=>(ak0 hx).elim (h.qH x) (λ e=>by rw [e];exact h1),h.cp,h.zn⟩
theorem d6.dD {m:ao} {i:Nat} {z:bR×Int×Int×Int} (h:d6 m) (h1:0<=z.1.1/\(0<=z.2.1/\z.2.1<=9)/\(0<=z.2.2.1/\z.2.2.1<=3)/\(0<=z.2.2.2/\z.2.2.2<=3)):d6 (m.dD i z) :=
 ⟨h.rise,h.qH,λ x hx=>(ak0 hx).elim (h.cp x) (λ e=>by cases e;exact h1),h.zn⟩
theorem d6.dH {m:ao} {i j:Nat} {z:bR} (h:d6 m):d6 (m.dH i j z):=⟨h.rise,h.qH,h.cp,h.zn⟩
structure wD (K:W.Frag) (H0 H:Hp) (pa:Addr) (as:List Addr) (ah:List (List (Nat×Nat))):Prop where
 sm:aC H0 H
 fr:∀ b∈pa::as,H0 b=none
 nd:(pa::as).Nodup
 le:as.length=ah.length
 hp:H pa=some (.lst (as.map .ref))
 AR:∀ (j:Nat) b l,as[j]?=some b->ah[j]?=some l->∃ vs,H b=some (.lst vs)/\Refs (λ b (pc:Nat×Nat)=>bO K H b [al pc.1,al pc.2]) vs l
theorem wD.same {K:W.Frag} {H':Hp} {ah:List (List (Nat×Nat))} (h:wD K H0 H pa as ah) (s:aC H H'):wD K H0 H' pa as ah :=
 ⟨h.sm.trans s,h.fr,h.nd,h.le,s _ _ h.hp,λ j b l e e'=>by
   obtain ⟨vs,h1,h2⟩:=h.AR j b l e e'
   exact ⟨vs,s _ _ h1,h2.imp λ p pc z=>s.ts _ _ z⟩⟩
theorem wD.put {K:W.Frag} {b t:Addr} {ah:List (List (Nat×Nat))} {j p:Nat} {l:List (Nat×Nat)} {vs:List V} (h:wD K H0 H pa as ah) (eb:as[j]?=some b) (el:ah[j]?=some l) (hb:H b=some (.lst vs)) (hv:Refs (λ b (pc:Nat×Nat)=>bO K H b [al pc.1,al pc.2]) vs l) (ht:bO K H t [al p,al c]):wD K H0 (upd H b (.lst (vs++[.ref t]))) pa as (ah.set j (l++[(p,c)])):=by
 have ts:aI K H (upd H b (.lst (vs++[.ref t]))):=bH hb rfl
 have hm:=aaK eb
 have nd:=List.nodup_cons.mp h.nd
 refine ⟨λ x u e=>?_,h.fr,h.nd,?_,?_,λ i b' l' e e'=>?_⟩
 .
  rw [aq (λ z=>?_)]
  . exact h.sm x u e
  . rw [z,h.fr b (aaS _ hm)] at e
    cases e
 . rw [aho];exact h.le
 . rw [aq (λ z=>nd.1 (by rw [z];exact hm))];exact h.hp
 .
  by_cases hi:j=i
  .
   subst hi
   rw [eb] at e
   cases e
   rcases cA.mp e' with ⟨_,_,e'⟩|⟨z,_⟩
   . rw [e']
     exact ⟨_,af,Refs.snoc (hv.imp λ p pc z=>ts _ _ z) (ts _ _ ht)⟩
   . exact absurd rfl z
  .
   rcases cA.mp e' with ⟨z,_⟩|⟨_,e'⟩
   . exact absurd z hi
   obtain ⟨yx,h1,h2⟩:=h.AR i b' l' e e'
   refine ⟨yx,?_,h2.imp λ p pc z=>ts _ _ z⟩
   rw [aq (λ z=>?_)]
   . exact h1
   . rw [z] at e
     obtain ⟨i1,j1⟩:=List.getElem?_eq_some_iff.mp eb
     obtain ⟨i2,j2⟩:=List.getElem?_eq_some_iff.mp e
     exact hi ((amh nd.2).mp (j1.trans j2.symm))
def ku (rows:List bE) (i n k:Nat) (ah:List (List (Nat×Nat))):Prop:=ah.length=rows.length/\(∀ (j:Nat) l,ah[j]?=some l->∀ p c,((p,c)∈l↔∃ r:bE,∃ js,rows[p]?=some r/\r[c]?=some (some js)/\((p<i/\j∈js)∨(p=i/\c<n/\j∈js)∨(p=i/\c=n/\j∈js.take k))))
theorem ku.zero (rows:List bE):ku rows 0 0 0 (rows.map λ _=>[]):=by
 refine ⟨zN ..,λ j l e p c=>?_⟩
 rw [aat] at e
 obtain ⟨r,_,rfl⟩:=Option.map_eq_some_iff.mp e
 refine ⟨λ h=>absurd h aaI,λ ⟨r,js,_,_,h⟩=>?_⟩
 rcases h with ⟨h,_⟩|⟨_,h,_⟩|⟨_,_,h⟩
 . exact absurd h (ahi _)
 . exact absurd h (ahi _)
 . simp at h
theorem ku.done {rows:List bE} {ah:List (List (Nat×Nat))} (h:ku rows rows.length 0 0 ah):L1 rows ah:=by
 refine ⟨h.1,λ j l p c e=>(h.2 j l e p c).trans ⟨λ ⟨r,js,e1,e2,q⟩=>⟨r,js,e1,e2,?_⟩,λ ⟨r,js,e1,e2,q⟩=>⟨r,js,e1,e2,.inl ⟨(List.getElem?_eq_some_iff.mp e1).1,q⟩⟩⟩⟩
 rcases q with ⟨_,q⟩|⟨_,q,_⟩|⟨_,_,q⟩
 . exact q
 . exact absurd q (ahi _)
 . simp at q
theorem ku.Ob {rows:List bE} {i:Nat} {r:bE} {ah:List (List (Nat×Nat))} (er:rows[i]?=some r) (h:ku rows i r.length 0 ah):ku rows (i+1) 0 0 ah:=by
 refine ⟨h.1,λ j l e p c=>(h.2 j l e p c).trans ⟨λ ⟨r',js,e1,e2,q⟩=>⟨r',js,e1,e2,?_⟩,λ ⟨r',js,e1,e2,q⟩=>⟨r',js,e1,e2,?_⟩⟩⟩
 .
  rcases q with ⟨q,w⟩|⟨q,_,w⟩|⟨_,_,q⟩
  . exact .inl ⟨by lia,w⟩
  . exact .inl ⟨by lia,w⟩
  . simp at q
 .
  rcases q with ⟨q,w⟩|⟨_,q,_⟩|⟨_,_,q⟩
  .
   by_cases hp:p=i
   . subst hp
     rw [er] at e1
     cases e1
     exact .inr (.inl ⟨rfl,(List.getElem?_eq_some_iff.mp e2).1,w⟩)
   . exact .inl ⟨by lia,w⟩
  . exact absurd q (ahi _)
  . simp at q
theorem ku.J9 {rows:List bE} {i n k:Nat} {r:bE} {v:Option (List Nat)} {ah:List (List (Nat×Nat))} (er:rows[i]?=some r) (ev:r[n]?=some v) (hk:∀ js,v=some js->k=js.length) (h:ku rows i n k ah):ku rows i (n+1) 0 ah:=by
 refine ⟨h.1,λ j l e p c=>(h.2 j l e p c).trans ⟨λ ⟨r',js,e1,e2,q⟩=>⟨r',js,e1,e2,?_⟩,λ ⟨r',js,e1,e2,q⟩=>⟨r',js,e1,e2,?_⟩⟩⟩
 .
  rcases q with q|⟨q,q2,w⟩|⟨q,q2,w⟩
  . exact .inl q
  . exact .inr (.inl ⟨q,by lia,w⟩)
  . exact .inr (.inl ⟨q,by lia,List.mem_of_mem_take w⟩)
 .
  rcases q with q|⟨q,q2,w⟩|⟨_,_,q⟩
  . exact .inl q
  .
   by_cases hc:c=n
   .
    subst q
    subst hc
    rw [er] at e1
    cases e1
    rw [ev] at e2
    cases e2
    rw [hk js rfl,adc]
    exact .inr (.inr ⟨rfl,rfl,w⟩)
   . exact .inr (.inl ⟨q,by lia,w⟩)
  . simp at q
theorem ku.put {rows:List bE} {i n k j:Nat} {r:bE} {js:List Nat} {l:List (Nat×Nat)} {ah:List (List (Nat×Nat))} (er:rows[i]?=some r) (ev:r[n]?=some (some js)) (ej:js[k]?=some j) (el:ah[j]?=some l) (h:ku rows i n k ah):ku rows i n (k+1) (ah.set j (l++[(i,n)])):=by
 refine ⟨by rw [aho];exact h.1,λ j' l' e p c=>?_⟩
 have tk:js.take (k+1)=js.take k++[j]:=by
   rw [ajQ,ej];rfl
 rcases cA.mp e with ⟨rfl,_,rfl⟩|⟨nj,e⟩
 .
  rw [amp,akp,h.2 j l el p c]
  constructor
  .
   rintro (⟨r',Hq,e1,e2,q⟩|q)
   .
    refine ⟨r',Hq,e1,e2,?_⟩
    rcases q with q|q|⟨q1,q2,q3⟩
    . exact .inl q
    . exact .inr (.inl q)
    . refine .inr (.inr ⟨q1,q2,?_⟩)
      rw [ajQ]
      exact ahM _ q3
   . cases q
     exact ⟨r,js,er,ev,.inr (.inr ⟨rfl,rfl,by rw [tk];exact af2 _ (List.mem_singleton.mpr rfl)⟩)⟩
  .
   rintro ⟨r',Hq,e1,e2,q⟩
   rcases q with q|q|⟨q1,q2,q3⟩
   . exact .inl ⟨r',Hq,e1,e2,.inl q⟩
   . exact .inl ⟨r',Hq,e1,e2,.inr (.inl q)⟩
   . exact .inr (by rw [q1,q2])
 .
  rw [h.2 j' l' e p c]
  constructor
  .
   rintro ⟨r',Hq,e1,e2,q⟩
   refine ⟨r',Hq,e1,e2,?_⟩
   rcases q with q|q|⟨q1,q2,q3⟩
   . exact .inl q
   . exact .inr (.inl q)
   . refine .inr (.inr ⟨q1,q2,?_⟩)
     rw [ajQ]
     exact ahM _ q3
  .
   rintro ⟨r',Hq,e1,e2,q⟩
   refine ⟨r',Hq,e1,e2,?_⟩
   rcases q with q|q|⟨q1,q2,q3⟩
   . exact .inl q
   . exact .inr (.inl q)
   .
    refine .inr (.inr ⟨q1,q2,?_⟩)
    subst q1
    subst q2
    rw [er] at e1
    cases e1
    rw [ev] at e2
    cases e2
    rw [tk] at q3
    rcases List.mem_append.mp q3 with z|z
    . exact z
    . exact absurd (List.mem_singleton.mp z).symm nj
theorem wD.row {K:W.Frag} {q:Addr} {ah:List (List (Nat×Nat))} (h:wD K H0 H pa as ah) (hq:H q=none):wD K H0 (upd (upd H q (.lst [])) pa (.lst (as.map .ref++[.ref q]))) pa (as++[q]) (ah++[[]]):=by
 have nd:=List.nodup_cons.mp h.nd
 have qp:q≠pa:=(au h.hp hq).symm
 have s1:=ak (o:=.lst []) hq
 have nq:q∉as:=λ z=>by
   obtain ⟨i,hi,e⟩:=List.mem_iff_getElem.mp z
   have Ak:i<ah.length:=by rw [← h.le];exact hi
   obtain ⟨vs,e2,_⟩:=h.AR i q _ (by rw [Mq hi,e]) (Mq Ak)
   rw [hq] at e2
   cases e2
 have Cd:(upd H q (.lst [])) pa=some (.lst (as.map .ref)):=s1 _ _ h.hp
 have ts:aI K H (upd (upd H q (.lst [])) pa (.lst (as.map .ref++[.ref q]))):=s1.ts.trans (bH Cd rfl)
 refine ⟨λ x u e=>?_,λ b hb=>?_,?_,?_,?_,λ i b l e e'=>?_⟩
 .
  rw [aq (λ z=>?_)]
  . exact s1 _ _ (h.sm x u e)
  . rw [z,h.fr pa abQ] at e
    cases e
 .
  rcases List.mem_cons.mp hb with rfl|hb
  . exact h.fr _ abQ
  . rcases List.mem_append.mp hb with z|z
    . exact h.fr _ (aaS _ z)
    . rw [List.mem_singleton.mp z];exact h.sm.free hq
 .
  refine List.nodup_cons.mpr ⟨λ z=>?_,List.nodup_append.mpr ⟨nd.2,akO _ _,λ a ha b hb e=>nq (by rw [← List.mem_singleton.mp hb,← e];exact ha)⟩⟩
  rcases List.mem_append.mp z with z|z
  . exact nd.1 z
  . exact qp (List.mem_singleton.mp z).symm
 . rw [aaE,aaE,h.le];rfl
 . rw [af,aaN];rfl
 .
  by_cases hi:i<as.length
  .
   rw [abM hi] at e
   rw [abM (by rw [← h.le];exact hi)] at e'
   obtain ⟨vs,h1,h2⟩:=h.AR i b l e e'
   refine ⟨vs,?_,h2.imp λ p pc z=>ts _ _ z⟩
   rw [aq (λ z=>nd.1 (by rw [← z];exact aaK e))]
   exact s1 _ _ h1
  .
   have li:=(List.getElem?_eq_some_iff.mp e).1
   rw [aaE,acG] at li
   obtain rfl:i=as.length:=by lia
   rw [aex] at e
   rw [h.le,aex] at e'
   cases e
   cases e'
   exact ⟨[],by rw [aq qp,af],Refs.nil⟩
def vG (b:Nat) (ah:List (List (Nat×Nat))):Prop:=∀ (j:Nat) l,ah[j]?=some l->l.length<=b
theorem vG.mono {a b:Nat} {ah:List (List (Nat×Nat))} (h:vG a ah) (le:a<=b):vG b ah:=λ j l e=>acS (h j l e) le
theorem vG.put {b j:Nat} {l:List (Nat×Nat)} {x:Nat×Nat} {ah:List (List (Nat×Nat))} (h:vG b ah) (e:ah[j]?=some l):vG (b+1) (ah.set j (l++[x])):=λ i l' e'=>by
 rcases cA.mp e' with ⟨_,_,rfl⟩|⟨_,e'⟩
 . rw [aaE]
   exact alG (h j l e)
 . exact Nat.le_succ_of_le (h i l' e')
inductive DH (K:W.Frag) (vs:List V) (H:Hp) (Q:VK) (_E:XK):Prop
 | mk (pr vr:_) (rows:List bE) (_:vs=[.ref pr]) (_:H pr=some (.lst vr)) (_:bi K H (rows.map pK) vr) (_:rows.length<=2000) (_:(∀ r∈rows,r.length<=16/\∀ js,some js∈r->js.length<=400/\∀ j∈js,j<rows.length)) (_:∀ pa as ah H',wD K H H' pa as ah->L1 rows ah->Q (.ref pa) H')
theorem ur {K:W.Frag}:∀ {l:List Nat} {ws:List V},bi K H (l.map iY) ws->ws=l.map al
 | [],_,h=>h
 | _::_,_,⟨_,_,e,d,r⟩=>by
   rw [e,ur r,show _=_ from d];rfl
end L2
namespace PySem
open PySem.Spec PyProof.Rows
theorem pT:typeLookup (.type "zip") "__getattr__" = pure none:=by rw [typeLookup_type,builtinLookup_eq_fast];kernel_rfl
theorem vp:typeLookup (.type "zip") "keys" = pure none:=by rw [typeLookup_type,builtinLookup_eq_fast];kernel_rfl
theorem xE:entryFor table "zip.__getattribute__" = some Builtin.«object.__getattribute__» :=
 entryFor_alias (id':="object.__getattribute__") (by kernel_rfl) (by decide +kernel) (by decide +kernel) (by kernel_rfl)
theorem lV:entryFor table "dict.update.loop" = some Builtin.«dict.update.loop»:=entryFor_of_tree (by kernel_rfl)
theorem gH:plainId "dict.update.loop" = true:=by decide +kernel
theorem sR (a:Addr) (xs:Array Value) (sl:Array (Option Value)) (name:Str) (u:Tok) (amk:typeLookup (.type "zip") name=pure none) (FK:(["__module__","__name__","__qualname__","__doc__","__annotations__"]:List Str).contains name=false) (hsz:name.length+100<=sizeLine:=by size_fits) :
   Meets (Builtin.«object.__getattribute__» ⟨[.ref a,.str name u],[]⟩) (λ A R s=>s.heap.get? a=some { cls:=.type "zip",dict:=none,data:=.fields xs,slots:=sl }/\raisesAttr (.ref a) name A R s) :=
 Meets.of_wp λ prog w A R s hs=>by
   obtain ⟨hp,g,d,tk,os⟩:=s
   obtain ⟨hx,hs⟩:=hs
   have hT:(⟨hp,g,d,tk,os⟩:Shared).TypeIs (.ref a) "zip":=⟨_,hx,rfl⟩
   unfold Builtin.«object.__getattribute__»
   repeat (any_goals (first|assumption|wp_step))
   simp only [FK,ai3,alc]
   repeat (any_goals (first|assumption|wp_step))
   exact wpAny_raiseAttrError hs.1 hs.2 (attrMsg_fits (by decide +kernel) hsz)
theorem HN {prog:Program} {w:World} {A:Around} {E:Value->Shared->Prop} {s:Shared} {a:Addr} {xs:Array Value} {Q:Option Value->Shared->Prop}
   (hx:s.heap.get? a=some { cls:=.type "zip",dict:=none,data:=.fields xs,slots:=#[]}) (hA:A.handled=none)
   (h:∀ h' tk,(∀ b o,s.heap.get? b=some o->h'.get? b=some o)->Q none { s with heap:=h',toks:=tk }) :
   wpAny (model prog w) A (getAttr? (.ref a) "keys") Q E s:=by
 obtain ⟨hp,g,d,tk,os⟩:=s
 have hT:∀ tk',(⟨hp,g,d,tk',os⟩:Shared).TypeIs (.ref a) "zip":=λ _=>⟨_,hx,rfl⟩
 have f1:=sub_AttributeError
 have f3:=F.slot_zip_getattribute.lookup
 have f4:=F.slot_zip_getattribute.bind (.ref a)
 have f5:=pT
 unfold getAttr? getAttrBy? getAttrBy
 repeat (any_goals (first|assumption|exact hT _|((with_reducible show wpAny _ _ (call (Value.builtin "zip.__getattribute__") _ _) _ _ _);refine call_meets F.slot_zip_getattribute (hT _) xE (F.args_zip_getattribute_2 _ _) (sR a xs #[] "keys" _ vp (by decide +kernel)) ⟨hx,hA,λ h' tk' e hx'=>?_⟩)|wp_step))
 obtain ⟨t',u',he⟩:=hx'.there
 show wpAny _ _ (getattributeRaised _ _ _ _ _ _ _) _ _ _
 unfold getattributeRaised
 repeat (any_goals (first|assumption|wp_step))
 exact h _ _ hx'.keeps
end PySem
namespace PySem
open PySem.Spec PyProof.Rows
abbrev mj (h:Heap) (z TI TO T:Addr) (b:Bool):Prop :=
 h.get? z=some { cls:=.type "zip",dict:=none,data:=.fields #[rawInt T,.bool b,.bool false,.ref TI,.ref TO],slots:=#[]}
section
variable {prog:Program} {w:World} {A:Around} {E:Value->Shared->Prop} {s:Shared}
theorem mU {M:Model} {a:Addr} {Q:Option Obj->Shared->Prop} (h:Q (s.heap.get? a) s):wpAny M A (loadIfAlive a) Q E s:=λ Γ p hΓ=>by
 unfold loadIfAlive
 rw [Sem.wp_loadIfAlive]
 exact h
theorem Bc {z TI TO T:Addr} {b:Bool} {oT:Obj} {Q:Bool->Shared->Prop} (hz:mj s.heap z TI TO T b) (hT:s.heap.get? T=some oT) (nT:T≠z)
   (h:∀ h',mj h' z TI TO T true->Heap.SameBut z s.heap h'->Q false { s with heap:=h' }) :
   wpAny (model prog w) A (Builtin.SmallTypes.ownedTupleIsFree (.ref z)) Q E s:=by
 unfold Builtin.SmallTypes.ownedTupleIsFree
 refine P5 (akf hz rfl (x:=rawInt T) rfl ?_)
 show wpAny _ _ (loadIfAlive _ >>= _) _ _ _
 refine P5 (mU ?_)
 rw [show ((T:Int)).toNat=T from ag7 T,hT]
 simp only [Option.isNone_some,ai3,alc]
 refine P5 (akf hz rfl (x:=.bool b) rfl ?_)
 cases b with
 | false =>
   rw [ady (by decide)]
   refine P5 (wpAny_setField_rec hz (by simp) λ h₁ Uz Dh=>?_)
   exact abN (h h₁ Uz Dh)
 | true =>
   rw [ac9 (by decide)]
   exact P5 (abN (abN (h _ hz (Heap.SameBut.refl ..))))
theorem uQ {z TI TO T i1 i2 l1 l2:Addr} {b:Bool} {oT:Obj} {k1 k2:Nat} {xs ys:Array Value} {x y:Value} {Q:Value->Shared->Prop} (D:ZipApart z TI TO i1 i2 l1 l2)
   (hz:mj s.heap z TI TO T b) (hT:s.heap.get? T=some oT) (nT:T≠z/\T≠i1/\T≠i2) (sC:IsPair s.heap TI (.ref i1) (.ref i2))
   (h1:s.heap.IsListIter i1 l1 k1) (h2:s.heap.IsListIter i2 l2 k2) (zZ:s.heap.IsList l1 xs) (wj:s.heap.IsList l2 ys) (hx:xs[k1]?=some x) (hy:ys[k2]?=some y)
   (hQ:∀ h',mj h' z TI TO T true->h'.IsListIter i1 l1 (k1+1)->h'.IsListIter i2 l2 (k2+1)->IsPair h' s.heap.objs.size x y->h'.objs.size=s.heap.objs.size+1 ->
     (∀ c o,c≠z->c≠i1->c≠i2->s.heap.get? c=some o->h'.get? c=some o)->Q (.ref s.heap.objs.size) { s with heap:=h' }) :
   wpAny (model prog w) A (Builtin.«zip.__next__» ⟨[.ref z],[]⟩) (λ fin s'=>∃ v,fin = .done (.ret v)/\Q v s') E s:=by
 show wpAny _ _ (field (.ref z) 2 >>= _) _ _ _
 refine P5 (akf hz rfl (x:=.bool false) rfl ?_)
 show wpAny _ _ (field (.ref z) 3 >>= _) _ _ _
 refine P5 (akf hz rfl (x:=.ref TI) rfl ?_)
 refine P5 (ali sC rfl ?_)
 show wpAny _ _ (Builtin.SmallTypes.ownedTupleIsFree (.ref z) >>= _) _ _ _
 refine P5 (Bc hz hT nT.1 λ h₁ Uz Dh=>?_)
 simp only [ai3,alc]
 refine P5 ?_
 rw [← als]
 simp only [alT,List.forIn_nil]
 refine P5 (P5 (akI ?_))
 show wpAny _ _ (Builtin.SmallTypes.nextOf (.ref i1) >>= _) _ _ _
 refine P5 (wpAny_nextOf_list_item (h1.extBut Dh.extBut D.i1z) (zZ.extBut Dh.extBut D.l1z) hx λ h₂ h1₂ Ld=>abN ?_)
 refine abN ?_
 refine P5 (P5 (akI ?_))
 show wpAny _ _ (Builtin.SmallTypes.nextOf (.ref i2) >>= _) _ _ _
 refine P5 (wpAny_nextOf_list_item ((h2.extBut Dh.extBut D.i2z).extBut Ld.extBut D.i12.symm)
   ((wj.extBut Dh.extBut D.l2z).extBut Ld.extBut D.l2i1) hy λ h₄ h2₄ Ux=>abN ?_)
 refine abN (abN ?_)
 refine P5 (wpAny_newTuple (hsz:=(show 2<=sizeLine by decide)) ?_)
 have hsz:h₄.objs.size=s.heap.objs.size:=by rw [Ux.1,Ld.1,Dh.1]
 have hz₄:mj h₄ z TI TO T true:=Ux.extBut _ _ D.i2z.symm (Ld.extBut _ _ D.i1z.symm Uz)
 refine abN ⟨_,rfl,?_⟩
 show Q (.ref h₄.objs.size) _
 rw [hsz]
 refine hQ _ (abA _ hz₄) ((h1₂.extBut Ux.extBut D.i12).at λ o e=>abA _ e) (h2₄.at λ o e=>abA _ e) (by rw [← hsz];exact aep _ rfl) (by rw [alM,hsz]) λ c o c1 c3 c4 e=>abA _ (Ux.extBut _ _ c4 (Ld.extBut _ _ c3 (Dh.extBut _ _ c1 e)))
theorem xH {z TI TO T i1 i2 l1 l2:Addr} {b:Bool} {oT:Obj} {k1:Nat} {xs:Array Value} {Q:Fin->Shared->Prop} (hh:A.handled=none) (D:ZipApart z TI TO i1 i2 l1 l2)
   (hz:mj s.heap z TI TO T b) (hT:s.heap.get? T=some oT) (nT:T≠z/\T≠i1/\T≠i2) (sC:IsPair s.heap TI (.ref i1) (.ref i2))
   (h1:s.heap.IsListIter i1 l1 k1) (zZ:s.heap.IsList l1 xs) (hx:xs[k1]?=none)
   (hE:∀ h' e,(∀ c o,c≠z->c≠i1->s.heap.get? c=some o->h'.get? c=some o)->(∃ o,h'.get? e=some o/\o.cls = .type "StopIteration")->E (.ref e) { s with heap:=h' }) :
   wpAny (model prog w) A (Builtin.«zip.__next__» ⟨[.ref z],[]⟩) Q E s:=by
 show wpAny _ _ (field (.ref z) 2 >>= _) _ _ _
 refine P5 (akf hz rfl (x:=.bool false) rfl ?_)
 show wpAny _ _ (field (.ref z) 3 >>= _) _ _ _
 refine P5 (akf hz rfl (x:=.ref TI) rfl ?_)
 refine P5 (ali sC rfl ?_)
 show wpAny _ _ (Builtin.SmallTypes.ownedTupleIsFree (.ref z) >>= _) _ _ _
 refine P5 (Bc hz hT nT.1 λ h₁ Uz Dh=>?_)
 simp only [ai3,alc]
 refine P5 ?_
 rw [← als]
 simp only [alT,List.forIn_nil]
 refine P5 (P5 (akI ?_))
 show wpAny _ _ (Builtin.SmallTypes.nextOf (.ref i1) >>= _) _ _ _
 refine P5 (wpAny_nextOf_list_end hh (h1.extBut Dh.extBut D.i1z) (zZ.extBut Dh.extBut D.l1z) hx λ h₂ e Ld he=>?_)
 exact hE h₂ e (λ c o c1 c3 q=>Ld _ _ c3 (Dh.extBut _ _ c1 q)) he
end
end PySem
namespace PySem
open PySem.Spec PyProof.Rows
noncomputable def tp (l:List (PyData×Addr×Value)):List (PyData×Addr×Value):=l.foldl (λ acc e=>storedH acc e.1 e.2.1 e.2.2) []
theorem k9 (l:List (PyData×Addr×Value)) (e:PyData×Addr×Value):tp (l++[e])=storedH (tp l) e.1 e.2.1 e.2.2:=by
 unfold tp
 rw [ajV]
 rfl
theorem ya {xs:List (PyData×Addr×Value)} {k:PyData} {a:Addr} {v:Value} {x:PyData×Addr×Value} (h:x∈storedH xs k a v):(∃ e∈xs,e.1=x.1/\e.2.1=x.2.1)∨x=(k,a,v):=by
 unfold storedH at h
 split at h
 .
  obtain ⟨y,hy,rfl⟩:=List.mem_map.mp h
  refine .inl ⟨y,hy,?_⟩
  unfold putAt
  split<;>exact ⟨rfl,rfl⟩
 . rcases List.mem_append.mp h with z|z
   . exact .inl ⟨x,z,rfl,rfl⟩
   . exact .inr (List.mem_singleton.mp z)
theorem yo (xs:List (PyData×Addr×Value)) (k:PyData) (a:Addr) (v:Value):(storedH xs k a v).length<=xs.length+1:=by
 unfold storedH
 split<;>simp
theorem qV {h:Heap} {es:List (PyData×Addr×Value)} (hk:∀ e∈es,rj h e.1 e.2.1):∀ i,∀ x∈tp (es.take i),rj h x.1 x.2.1
 | 0,x,hx=>by rw [amw] at hx;exact absurd hx aaI
 | i+1,x,hx=>by
   by_cases hi:i<es.length
   . rw [ajQ,Mq hi,alp,k9] at hx
     rcases ya hx with ⟨e,he,e1,e2⟩|rfl
     . rw [← e1,← e2];exact qV hk i e he
     . exact hk _ (acx hi)
   . rw [agD (by lia),← agD (i:=i) (l:=es) (by lia)] at hx
     exact qV hk i x hx
theorem qZ (es:List (PyData×Addr×Value)):∀ i,(tp (es.take i)).length<=i
 | 0=>by rw [amw];exact aaU _
 | i+1=>by
   by_cases hi:i<es.length
   . rw [ajQ,Mq hi,alp,k9]
     exact acS (yo ..) (alG (qZ es i))
   . rw [agD (by lia),← agD (i:=i) (l:=es) (by lia)]
     exact Nat.le_succ_of_le (qZ es i)
def EB (prog:Program) (w:World) (h:Heap) (d:Addr) (xs:List (PyData×Addr×Value)):Prop:=∃ o es ep,h.get? d=some o/\o.ExactDict/\o.data = .dict es ep/\es.toList=xs.map (entryOfKey (gR prog w))/\(xs.map (·.1)).Nodup
theorem rj.up {h h':Heap} {k:PyData} {a:Addr} (x:rj h k a) (hk:∀ b o,h.get? b=some o->h'.get? b=some o):rj h' k a:=by
 obtain ⟨x,as,r,k1,k2,k3,e⟩:=x
 exact ⟨x,as,mw (λ b ob q _ _ _=>hk b ob q) x k1 r,k1,k2,k3,e⟩
def kE (h:Heap) (d z TI TO i1 i2:Addr):Prop:=(IsZip h z TI TO .none/\∃ a b,IsPair h TO a b)∨∃ T b oT,mj h z TI TO T b/\h.get? T=some oT/\(T≠z/\T≠i1/\T≠i2)/\T≠d
theorem kE.at {h h':Heap} {d z TI TO i1 i2:Addr} (x:kE h d z TI TO i1 i2) (nz:z≠d) (nt:TO≠d) (hk:∀ b o,b≠d->h.get? b=some o->h'.get? b=some o):kE h' d z TI TO i1 i2:=by
 rcases x with ⟨x,a,b,y⟩|⟨T,b,oT,x,y,n,m⟩
 . exact .inl ⟨hk _ _ nz x,a,b,hk _ _ nt y⟩
 . exact .inr ⟨T,b,oT,hk _ _ nz x,hk _ _ m y,n,m⟩
section
variable {prog:Program} {w:World} {A:Around} {E:Value->Shared->Prop} {s:Shared}
theorem sG {d z TI TO i1 i2 l1 l2:Addr} {k1:Nat} {xs ys:Array Value} {x y:Value} {Q:Option Value->Shared->Prop} (D:ZipApart z TI TO i1 i2 l1 l2)
   (hz:kE s.heap d z TI TO i1 i2) (hd:∃ o,s.heap.get? d=some o) (sC:IsPair s.heap TI (.ref i1) (.ref i2))
   (h1:s.heap.IsListIter i1 l1 k1) (h2:s.heap.IsListIter i2 l2 k1) (zZ:s.heap.IsList l1 xs) (wj:s.heap.IsList l2 ys) (hx:xs[k1]?=some x) (hy:ys[k1]?=some y)
   (hQ:∀ h',kE h' d z TI TO i1 i2->h'.IsListIter i1 l1 (k1+1)->h'.IsListIter i2 l2 (k1+1)->IsPair h' s.heap.objs.size x y ->
     (∀ c o,c≠z->c≠TO->c≠i1->c≠i2->s.heap.get? c=some o->h'.get? c=some o)->Q (some (.ref s.heap.objs.size)) { s with heap:=h' }) :
   wpAny (model prog w) A (pyNext (.ref z)) Q E s:=by
 obtain ⟨od,hd⟩:=hd
 have nd:s.heap.objs.size≠d:=ak4 (abZ hd)
 rcases hz with ⟨hz,a,b,DU⟩|⟨T,b,oT,hz,hT,nT,mT⟩
 .
  have lz:=abZ hz
  have l1':i1<s.heap.objs.size:=by obtain ⟨_,e,_⟩:=h1;exact abZ e
  have l2':i2<s.heap.objs.size:=by obtain ⟨_,e,_⟩:=h2;exact abZ e
  exact wpAny_pyNext_zip_item D hz sC DU h1 h2 zZ wj hx hy λ h' a1 a2 a3 a4 a5 a6 hk=>hQ h' (.inr ⟨_,false,_,a1,a5,⟨ak4 lz,ak4 l1',ak4 l2'⟩,nd⟩) a3 a4 a5 hk
 .
  have Nn:s.TypeIs (.ref z) "zip":=⟨_,hz,rfl⟩
  unfold pyNext
  exact P5 (wpAny_attempt (akT (name:=Str.ofString "__next__") Nn al9
    (aln al9 Nn F.entry_zip_next
      (uQ D hz hT nT sC h1 h2 zZ wj hx hy λ h' a1 a3 a4 a5 a6 hk=>abN (hQ h' (.inr ⟨T,true,oT,a1,hk _ _ nT.1 nT.2.1 nT.2.2 hT,nT,mT⟩) a3 a4 a5 λ c o c1 _ c3 c4 e=>hk c o c1 c3 c4 e)) (F.args_zip_next_1 _))))
theorem tF {d z TI TO i1 i2 l1 l2:Addr} {k1:Nat} {xs ys:Array Value} {Q:Option Value->Shared->Prop} (hh:A.handled=none) (D:ZipApart z TI TO i1 i2 l1 l2)
   (hz:kE s.heap d z TI TO i1 i2) (sC:IsPair s.heap TI (.ref i1) (.ref i2))
   (h1:s.heap.IsListIter i1 l1 k1) (h2:s.heap.IsListIter i2 l2 k1) (zZ:s.heap.IsList l1 xs) (wj:s.heap.IsList l2 ys) (hx:xs[k1]?=none)
   (hQ:∀ h',(∀ c o,c≠z->c≠TO->c≠i1->c≠i2->s.heap.get? c=some o->h'.get? c=some o)->Q none { s with heap:=h' }) :
   wpAny (model prog w) A (pyNext (.ref z)) Q E s:=by
 rcases hz with ⟨hz,a,b,DU⟩|⟨T,b,oT,hz,hT,nT,mT⟩
 . exact wpAny_pyNext_zip_end hh D hz sC DU h1 h2 zZ wj (.inl hx) hQ
 .
  have Nn:s.TypeIs (.ref z) "zip":=⟨_,hz,rfl⟩
  unfold pyNext
  refine P5 (wpAny_attempt (akT (name:=Str.ofString "__next__") Nn al9
    (aln al9 Nn F.entry_zip_next (xH hh D hz hT nT sC h1 zZ hx λ h' e hk he=>?_) (F.args_zip_next_1 _))))
  obtain ⟨o,ho,hc⟩:=he
  refine P5 (amH (T:="StopIteration") (b:=true) ⟨o,ho,hc⟩ isSubtype_stop ?_)
  exact abN (hQ _ λ c o c1 _ c3 _ e=>hk c o c1 c3 e)
theorem HU {R:Result->Shared->Prop} {d z TI TO i1 i2 l1 l2:Addr} {h0:Heap} {xs ys:Array Value} {es:List (PyData×Addr×Value)} (D:ZipApart z TI TO i1 i2 l1 l2) (hh:A.handled=none) (hu:(gR prog w).room A.in1)
   (fr:∀ c∈[z,TI,TO,i1,i2,d],h0.get? c=none) (nd:∀ c∈[z,TI,TO,i1,i2],c≠d) (zZ:h0.IsList l1 xs) (wj:h0.IsList l2 ys) (hn:xs.size=es.length)
   (wa:∀ (i:Nat) e,es[i]?=some e->xs[i]?=some (.ref e.2.1)/\ys[i]?=some e.2.2) (hk:∀ e∈es,rj h0 e.1 e.2.1) (hsz:es.length<=sizeLine) :
   ∀ (k i:Nat) (s:Shared),es.length - i=k->i<=es.length->(∀ b o,h0.get? b=some o->s.heap.get? b=some o)->kE s.heap d z TI TO i1 i2->IsPair s.heap TI (.ref i1) (.ref i2) ->
     s.heap.IsListIter i1 l1 i->s.heap.IsListIter i2 l2 i->EB prog w s.heap d (tp (es.take i)) ->
     (∀ h' tk,(∀ b o,h0.get? b=some o->h'.get? b=some o)->EB prog w h' d (tp es)->R (.ok (.ret .none)) { s with heap:=h',toks:=tk }) ->
     codeAny (model prog w) A (.builtin "dict.update.loop" ⟨[.ref d,.ref z,rawInt i,.none],[]⟩) R s:=by
 have IY:∀ {b o},h0.get? b=some o->b≠z/\b≠TI/\b≠TO/\b≠i1/\b≠i2/\b≠d:=λ {b o} e=>by
   refine ⟨?_,?_,?_,?_,?_,?_⟩<;>(rintro rfl;rw [fr _ (by simp)] at e;cases e)
 have ndz:d≠z:=(nd z (by simp)).symm
 have Xw:d≠TO:=(nd TO (by simp)).symm
 have Vq:d≠i1:=(nd i1 (by simp)).symm
 have nd2:d≠i2:=(nd i2 (by simp)).symm
 intro k
 induction k with
 | zero =>
   intro i s hki hi ext hz sC h1 h2 UO hR
   obtain rfl:i=es.length:=by lia
   refine codeAny_builtin lV ?_
   rw [Around.under_plainId gH _]
   show wpAny _ A.in1 (pyNext (.ref z) >>= _) _ _ s
   refine P5 (tF (A:=A.in1) hh D hz sC h1 h2 (zZ.at λ o e=>ext _ _ e) (wj.at λ o e=>ext _ _ e) (Array.getElem?_eq_none (by lia)) λ h' JB=>?_)
   show wpAny _ A.in1 (Builtin.Dict.addKeywords d [] >>= _) _ _ _
   refine P5 (abN (abN ?_))
   rw [adc] at UO
   obtain ⟨o,ea,ep,e1,e2⟩:=UO
   exact hR h' s.toks (λ b o e=>JB b o (IY e).1 (IY e).2.2.1 (IY e).2.2.2.1 (IY e).2.2.2.2.1 (ext b o e)) ⟨o,ea,ep,JB _ _ ndz Xw Vq nd2 e1,e2⟩
 | succ k ih =>
   intro i s hki hi ext hz sC h1 h2 UO hR
   have l5:i<es.length:=by lia
   have ee:=Mq l5
   generalize es[i]=e at ee
   obtain ⟨hx,hy⟩:=wa i e ee
   obtain ⟨od,ea,ep,e1,e2⟩:=UO
   refine codeAny_builtin lV ?_
   rw [Around.under_plainId gH _]
   show wpAny _ A.in1 (pyNext (.ref z) >>= _) _ _ s
   refine P5 (sG D hz ⟨_,e1⟩ sC h1 h2 (zZ.at λ o e=>ext _ _ e) (wj.at λ o e=>ext _ _ e) hx hy λ h' a1 a3 a4 a5 JB=>?_)
   have ext':∀ b o,h0.get? b=some o->h'.get? b=some o:=λ b o e=>JB b o (IY e).1 (IY e).2.2.1 (IY e).2.2.2.1 (IY e).2.2.2.2.1 (ext b o e)
   have ajt:IsPair h' TI (.ref i1) (.ref i2):=JB _ _ D.TIz D.TITO D.TIi1 D.TIi2 sC
   have dd:h'.DictOfH (gR prog w) d (tp (es.take i)):=⟨od,ea,ep,JB _ _ ndz Xw Vq nd2 e1,e2.1,e2.2.1,e2.2.2.1,λ x hx=>(qV hk i x hx).up ext',e2.2.2.2⟩
   have kk:rj h' e.1 e.2.1:=(hk e (aaK ee)).up ext'
   have hT5:Shared.TypeIs { s with heap:=h' } (.ref s.heap.objs.size) "tuple":=⟨_,a5,rfl⟩
   show wpAny _ A.in1 (holding [Value.ref s.heap.objs.size] _ >>= _) _ _ _
   refine P5 (akI (P5 (wpAny_tryCatch ?_)))
   unfold Builtin.Dict.pairItems
   refine P5 (amA hT5 ?_)
   rw [ady (by decide)]
   refine P5 (ali a5 rfl (abN ?_))
   show wpAny _ A.in1 (holding [Value.ref e.2.1,e.2.2] (dictSet d (.ref e.2.1) e.2.2)) _ _ _
   refine akI (wpAny_dictSet_heap (hsz:=acS (qZ es i) (acS hi hsz)) hu kk dd λ RX F5 XI=>?_)
   have kp:∀ b o,b≠d->h'.get? b=some o->RX.get? b=some o:=λ b o n q=>XI.extBut _ _ n q
   obtain ⟨o3,es3,ep3,q1,q2,q3,q4,q5,q6⟩:=F5
   refine abN ⟨plainId_quiet gH _,?_⟩
   have:=ih (i+1) { s with heap:=RX,toks:=s.toks+(gR prog w).draws e.1 } (by lia) l5 (λ b o q=>kp b o (IY q).2.2.2.2.2 (ext' b o q)) (a1.at ndz.symm Xw.symm kp) (kp _ _ (nd TI (by simp)) ajt) (a3.at λ o q=>kp _ o Vq.symm q) (a4.at λ o q=>kp _ o nd2.symm q) (by
     rw [ajQ,ee,alp,k9]
     exact ⟨o3,es3,ep3,q1,q2,q3,q4,q6⟩) λ h'' tk x y=>hR h'' tk x y
   exact this
theorem IT {l1 l2:Addr} {xs ys:Array Value} {es:List (PyData×Addr×Value)} {Q:Value->Shared->Prop} (hh:A.handled=none) (hu:A.units+70<cLine)
   (zZ:s.heap.IsList l1 xs) (wj:s.heap.IsList l2 ys) (hn:xs.size=es.length)
   (wa:∀ (i:Nat) e,es[i]?=some e->xs[i]?=some (.ref e.2.1)/\ys[i]?=some e.2.2) (hk:∀ e∈es,rj s.heap e.1 e.2.1) (hsz:es.length<=sizeLine)
   (h:∀ h' tk d,s.heap.objs.size<=d->(∀ b o,s.heap.get? b=some o->h'.get? b=some o)->EB prog w h' d (tp es)->Q (.ref d) { s with heap:=h',toks:=tk }) {z:Addr} {h5:Heap}
   (ez:z=s.heap.objs.size+4) (z1:IsZip h5 z (s.heap.objs.size+2) (s.heap.objs.size+3) .none) (z2:IsPair h5 (s.heap.objs.size+2) (.ref s.heap.objs.size) (.ref (s.heap.objs.size+1)))
   (z3:IsPair h5 (s.heap.objs.size+3) .none .none) (z4:h5.IsListIter s.heap.objs.size l1 0) (z5:h5.IsListIter (s.heap.objs.size+1) l2 0) (z6:h5.objs.size=s.heap.objs.size+5)
   (kk:∀ c o,s.heap.get? c=some o->h5.get? c=some o) :
   wpAny (model prog w) A (call (.type "dict") [.ref z]) Q E { s with heap:=h5 }:=by
 subst ez
 have lt:∀ {b o},s.heap.get? b=some o->b<s.heap.objs.size:=λ e=>abZ e
 have la:l1<s.heap.objs.size:=by obtain ⟨_,e,_⟩:=zZ;exact lt e
 have lb:l2<s.heap.objs.size:=by obtain ⟨_,e,_⟩:=wj;exact lt e
 refine callType_codes (Q₁:=λ obj s₁=>obj = .ref h5.objs.size/\s₁={ s with heap:=h5.push { cls:=.type "dict",data:=.dict #[]}}) F.kt_called_dict (F.kt_typeCall_dict_1 _) F.entry_dict_init (kt_code_dict_new _ ⟨rfl,rfl⟩) ?_
 rintro obj s₁ ⟨rfl,rfl⟩
 have uY:(h5.push { cls:=.type "dict",data:=.dict #[]}).DictOfH (gR prog w) h5.objs.size []:=Heap.DictOfH.new h5
 refine ⟨uY.typeIs,F.args_dict_init_2 _ _,?_⟩
 unfold Builtin.«dict.__init__»
 refine P5 ?_
 unfold Builtin.Dict.selfAndRest
 refine P5 (wpAny_notOrdered_dict uY.typeIs ?_)
 show wpAny _ _ (pure (h5.objs.size,[Value.ref (s.heap.objs.size+4)])) _ _ _
 refine abN ?_
 show wpAny _ _ (Builtin.Dict.updateFrom "dict.__init__" h5.objs.size (.ref (s.heap.objs.size+4)) [] .none) _ _ _
 unfold Builtin.Dict.updateFrom
 have up:∀ {b o},h5.get? b=some o->(h5.push { cls:=.type "dict",data:=.dict #[]}).get? b=some o:=λ e=>abA _ e
 have hTz:Shared.TypeIs { s with heap:=h5.push { cls:=.type "dict",data:=.dict #[]}} (.ref (s.heap.objs.size+4)) "zip":=⟨_,up z1,rfl⟩
 refine P5 (amA hTz ?_)
 rw [ady (by decide)]
 refine P5 (HN (A:=A.in1.in1) (up z1) hh λ h6 tk6 k6=>?_)
 simp only [Option.isNone_none,alf]
 refine P5 (wpAny_rule ?_)
 refine P5 (amG (k6 _ _ (up z1)) ?_)
 refine abN ⟨plainId_quiet gH _,?_⟩
 have fr:∀ {c},s.heap.objs.size<=c->s.heap.get? c=none:=λ e=>amb e
 refine HU (A:=A.in1) (h0:=s.heap) (es:=es) (D:=zipApart_new la lb) hh (by show A.in1.in1.units+64<cLine;rw [alo,alo];lia) (d:=h5.objs.size) (λ c hc=>?_) (λ c hc=>?_) zZ wj hn wa hk hsz _ 0 _ rfl (aeU _) (λ b o e=>k6 _ _ (up (kk _ _ e))) (.inl ⟨k6 _ _ (up z1),_,_,k6 _ _ (up z3)⟩) (k6 _ _ (up z2)) (z4.at λ o e=>k6 _ _ (up e)) (z5.at λ o e=>k6 _ _ (up e)) ?_ (λ h' tk x y=>⟨rfl,h h' tk _ (by lia) x y⟩)
 . refine fr ?_
   simp only [aa1,aaI,afj] at hc
   rcases hc with rfl|rfl|rfl|rfl|rfl|rfl<;>lia
 . simp only [aa1,aaI,afj] at hc
   rcases hc with rfl|rfl|rfl|rfl|rfl<;>(rw [z6];intro z;exact absurd (show (_:Nat)=_ from z) (by lia))
 . obtain ⟨o,ea,ep,e1,e2,e3,e4,_,e5⟩:=uY
   exact ⟨o,ea,ep,k6 _ _ e1,e2,e3,e4,e5⟩
end
end PySem
namespace PySem
theorem uy {es:List (PyData×Addr×Value)} (hn:(es.map (·.1)).Nodup):∀ i,i<=es.length->tp (es.take i)=es.take i
 | 0,_=>rfl
 | i+1,hi=>by
   rw [ajQ,Mq hi,alp,k9,uy hn i (by lia)]
   refine storedH_new (atKey_none_of_get λ j p e=>?_) _ _
   have hj:=(List.getElem?_eq_some_iff.mp e).1
   rw [adS] at hj
   rw [amE (by lia)] at e
   have:=idxH_unique hn e (show es[i]?=some (es[i].1,es[i].2) from Mq hi)
   lia
end PySem
namespace L2
open PySem PySem.Spec PyProof.Rows Mth
variable {C pk pl pq:Addr} {H H':Hp} {b2:Int} {m':ao} {qs:List Addr}
def DX (P:Program) (w:World) (K:W.Frag) (ta:TA):TE:=λ U H Q=>ta U H λ vs H1=>∃ q1 q2,∃ ax:mQ,vs=[.ref q1,.ref q2]/\aR K H1 q1 (ax.map λ e => .ref e.2.1)/\aR K H1 q2 (ax.map λ e=>e.2.2) /\
 (ax.map (·.1)).Nodup/\(∀ e∈ax,gb K H1 e.1 e.2.1)/\ax.length<=sizeLine/\∀ p,H1 p=none->Q (.ref p) (upd H1 p (jV P w p ax))
theorem cI.u70 {k:Nat} {A:Around} (r:cI k A):A.units+70<cLine:=by have:=r.un;lia
theorem rD:∀ {ax:mQ} {us vs:List Value},Vals (ax.map λ e => .ref e.2.1) us->Vals (ax.map λ e=>e.2.2) vs->∃ es:List (PyData×Addr×Value),XR ax es/\us=es.map (λ e => .ref e.2.1)/\vs=es.map λ e=>e.2.2
 | [],_,_,.nil,.nil=>⟨[],.nil,rfl,rfl⟩
 | e::ax,_,_,.cons r1 t1,.cons r2 t2=>by
   obtain ⟨es,h1,h2,h3⟩:=rD t1 t2
   exact ⟨(e.1,e.2.1,_)::es,.cons ⟨rfl,rfl,r2⟩ h1,by rw [h2,show _=_ from r1];rfl,by rw [h3];rfl⟩
theorem XR.keys {ax:mQ} {es:List (PyData×Addr×Value)} (h:XR ax es):es.map (·.1)=ax.map (·.1):=by
 induction h with
 | nil=>rfl
 | cons r _ ih=>rw [ael,ael,ih,r.1]
theorem XR.mem {ax:mQ} {es:List (PyData×Addr×Value)} (h:XR ax es):∀ e∈es,∃ x∈ax,x.1=e.1/\x.2.1=e.2.1:=by
 induction h with
 | nil=>exact λ _ h=>absurd h aaI
 | cons r _ ih =>
   intro e he
   rcases List.mem_cons.mp he with rfl|he
   . exact ⟨_,abQ,r.1,r.2.1⟩
   . obtain ⟨x,hx,q⟩:=ih e he
     exact ⟨x,aaS _ hx,q⟩
section
variable {X:Cx} {P:Program} {w:World} {K:W.Frag}
theorem zH {a b:Expr} {ta:TA} {p1 p2 aej IE:Pos} (hP:X.prog=P) (hw:X.w=w) (hK:X.K=K) (hu:X.A.units+70<cLine) (hc:X.calm=true) (ha:PA X [a,b] ta) (CO:Gl X "dict") (Ka:X.mg "dict" = none) (Mw:Gl X "zip") (hm2:X.mg "zip" = none) (hs:starEach [a,b] X.env=[(false,eval a X.env),(false,eval b X.env)]:=by rfl) (LX:starEach [b] X.env=[(false,eval b X.env)]:=by rfl) (Gf:starEach [.Call (.Name "zip" p2) [a,b] [] IE] X.env=[(false,eval (.Call (.Name "zip" p2) [a,b] [] IE) X.env)]:=by rfl) :
   PE X (.Call (.Name "dict" p1) [.Call (.Name "zip" p2) [a,b] [] IE] [] aej) (DX P w K ta):=by
 subst hP hw hK
 intro pins s U H Q I h
 refine akX (i3 I CO Ka AS ?_ (by decide) (by decide))
 refine agB ?_ Gf rfl
 rw [Gf]
 refine alJ ?_
 refine akX (i3 I Mw hm2 EM (agB (cD (ha IE pins s U H _ I h) λ us s1 ⟨vs,H1,I1,r1,q1⟩=>?_) (by rw [hs,LX]) (by rw [LX];rfl)) (by decide) (by decide))
 obtain ⟨a,b,ax,e,xa,uq,nd,hk,hl,q⟩:=q1
 subst e
 obtain ⟨u,v,rfl,r,r'⟩:=vals2 r1
 obtain rfl:u=Value.ref a:=r
 obtain rfl:v=Value.ref b:=r'
 obtain ⟨Hn,MD,pl1,L5⟩:=I1.list xa
 obtain ⟨mm,MP,UQ,Zf⟩:=I1.list uq
 obtain ⟨es,xr,rfl,rfl⟩:=rD MD MP
 have le:es.length=ax.length:=xr.length.symm
 refine call_zip_2 pl1.isList UQ.isList λ h' z1 z2 z3 z4 z5 z6 kk=>amx ?_
 refine IT (es:=es) (I1.ok.hd hc) hu pl1.isList UQ.isList (by simp) (λ i e ee=>⟨by simp [ee],by simp [ee]⟩) (λ e he=>?_) (by rw [le];exact hl) (λ h2 tk d ld k2 hd=>?_) rfl z1 z2 z3 z4 z5 z6 kk
 . obtain ⟨x,hx,e1,e2⟩:=xr.mem e he
   rw [← e1,← e2]
   exact (hk x hx).is I1
 .
  have fr:=I1.cQ.fresh ld
  have nde:(es.map (·.1)).Nodup:=by rw [xr.keys];exact nd
  have ez:=uy nde es.length (aaU _)
  rw [adc] at ez
  rw [ez] at hd
  obtain ⟨o,ea,ep,e1,e2,e3,e4,e5⟩:=hd
  have big:=I1.big
  refine ⟨.ref d,_,I1.laid (a:=d) (o:=jV X.prog X.w d ax) (t':=tk) k2 ld (DO ⟨hl,beq_eq_false_iff_ne.mpr (alk (ad8 (acK big ld))),es,xr,o,ea,ep,e1,e2,e3,e4,e5⟩),rfl,q d fr⟩
end
structure Lz (H0 H:Hp) (D:Addr) (qs:List Addr) (ls:List (List (Option Nat))):Prop where
 sm:aC H0 H
 fr:∀ b∈D::qs,H0 b=none
 nd:(D::qs).Nodup
 le:qs.length=ls.length
 hp:H D=some (.lst (qs.map .ref))
 AR:∀ (i:Nat) q l,qs[i]?=some q->ls[i]?=some l->H q=some (.lst (l.map ja))
theorem Lz.row {H0:Hp} {D q:Addr} {ls:List (List (Option Nat))} {l:List (Option Nat)} (h:Lz H0 H D qs ls) (hq:H q=none):Lz H0 (upd (upd H q (.lst (l.map ja))) D (.lst (qs.map .ref++[.ref q]))) D (qs++[q]) (ls++[l]):=by
 have nd:=List.nodup_cons.mp h.nd
 have qp:q≠D:=(au h.hp hq).symm
 have s1:=ak (o:=.lst (l.map ja)) hq
 have nq:q∉qs:=λ z=>by
   obtain ⟨i,hi,e⟩:=List.mem_iff_getElem.mp z
   have Ak:i<ls.length:=by rw [← h.le];exact hi
   have e2:=h.AR i q _ (by rw [Mq hi,e]) (Mq Ak)
   rw [hq] at e2
   cases e2
 refine ⟨λ x u e=>?_,λ b hb=>?_,?_,?_,?_,λ i b l' e e'=>?_⟩
 .
  rw [aq (λ z=>?_)]
  . exact s1 _ _ (h.sm x u e)
  . rw [z,h.fr D abQ] at e
    cases e
 .
  rcases List.mem_cons.mp hb with rfl|hb
  . exact h.fr _ abQ
  . rcases List.mem_append.mp hb with z|z
    . exact h.fr _ (aaS _ z)
    . rw [List.mem_singleton.mp z];exact h.sm.free hq
 .
  refine List.nodup_cons.mpr ⟨λ z=>?_,List.nodup_append.mpr ⟨nd.2,akO _ _,λ a ha b hb e=>nq (by rw [← List.mem_singleton.mp hb,← e];exact ha)⟩⟩
  rcases List.mem_append.mp z with z|z
  . exact nd.1 z
  . exact qp (List.mem_singleton.mp z).symm
 . rw [aaE,aaE,h.le];rfl
 . rw [af,aaN];rfl
 .
  by_cases hi:i<qs.length
  . rw [abM hi] at e
    rw [abM (by rw [← h.le];exact hi)] at e'
    rw [aq (λ z=>nd.1 (by rw [← z];exact aaK e))]
    exact s1 _ _ (h.AR i b l' e e')
  .
   have li:=(List.getElem?_eq_some_iff.mp e).1
   rw [aaE,acG] at li
   obtain rfl:i=qs.length:=by lia
   rw [aex] at e
   rw [h.le,aex] at e'
   cases e
   cases e'
   rw [aq qp,af]
def DW (rows:List bE):Prop:=rows.length<=2000/\∀ r∈rows,r.length<=16/\∀ js,some js∈r->js.length<=400/\∀ j∈js,j<rows.length
inductive EJ (P:Program) (w:World) (K:W.Frag) (CG CR:Addr) (vs:List V) (H:Hp) (Q:VK) (_E:XK):Prop
 | mk (x dx y pm po pr pd lim g:_) (_:vs=[.ref x,.ref y]) (_:H x=some (.ins CR dx [])) (_:dB P w K CG [] H y pm po pr pd lim g) (_:DW g.rows) (_:∀ pl pg pk pq qs S cur H',f8 [x] H H'->aI K H H'->gL CR H' x pl pg pk pq qs S->gQ g.rows S cur->ff g.rows S->(∀ j∈S.queue,vb g.rows S j)->Q .cf H')
theorem aR.sm {K:W.Frag} {q:Addr} {xs:List V} (S:aC H H') (e:aR K H q xs):aR K H' q xs:=by
 rcases e with (e|⟨o,e⟩)|e
 . exact .inl (.inl (S _ _ e))
 . exact .inl (.inr ⟨o,S _ _ e⟩)
 . exact .inr e
structure zO (K:W.Frag) (C x dx:Addr) (H H':Hp) (fs:List (Str×V)) (L:List (Addr×HO)):Prop where
 b:i4 K C x dx H H' fs
 at_:∀ e∈L,H' e.1=some e.2/\e.1≠x/\H e.1=none
 nd:(L.map (·.1)).Nodup
section
variable {K:W.Frag} {C x dx D:Addr} {H H' C9:Hp} {fs fs':List (Str×V)} {L:List (Addr×HO)} {o:HO}
theorem zO.put (h:zO K C x dx H H' fs L):zO K C x dx H (upd H' x (.ins C dx fs')) fs' L:=⟨h.b.put,λ e he=>⟨by rw [aq (h.at_ e he).2.1];exact (h.at_ e he).1,(h.at_ e he).2⟩,h.nd⟩
theorem zO.more (h:zO K C x dx H H' fs L) (s:aC H' C9) (hD:H' D=none) (hD':C9 D=some o):zO K C x dx H C9 fs ((D,o)::L):=by
 refine ⟨⟨λ b u e n=>s _ _ (h.b.st b u e n),h.b.ts.trans s.ts,s _ _ h.b.at_⟩,λ e he=>?_,List.nodup_cons.mpr ⟨λ z=>?_,h.nd⟩⟩
 . rcases List.mem_cons.mp he with rfl|he
   . exact ⟨hD',h.b.ne hD,h.b.none hD⟩
   . exact ⟨s _ _ (h.at_ e he).1,(h.at_ e he).2⟩
 .
  obtain ⟨e,he,z⟩:=List.mem_map.mp z
  have:=(h.at_ e he).1
  rw [z,hD] at this
  cases this
def tP (pl:Addr) (qs:List Addr) (ls:List (List (Option Nat))):List (Addr×HO):=(pl,.lst (qs.map .ref))::qs.zip (ls.map λ l => .lst (l.map ja))
theorem Lz.rkb {ls:List (List (Option Nat))} (h:Lz H H' pl qs ls) (hx:H x=some (.ins C dx [])):zO K C x dx H H' [] (tP pl qs ls):=by
 have nx:∀ b∈pl::qs,b≠x:=λ b hb z=>by rw [← z,h.fr b hb] at hx;cases hx
 have le:qs.length<=(ls.map λ l=>HO.lst (l.map ja)).length:=by rw [zN,h.le];exact aaU _
 refine ⟨⟨λ b o e _=>h.sm b o e,h.sm.ts,h.sm _ _ hx⟩,λ e he=>?_,?_⟩
 .
  rcases List.mem_cons.mp he with rfl|he
  . exact ⟨h.hp,nx _ abQ,h.fr _ abQ⟩
  .
   obtain ⟨i,hi⟩:=List.mem_iff_getElem?.mp he
   obtain ⟨h1,h2⟩:=List.getElem?_zip_eq_some.mp hi
   rw [aat] at h2
   obtain ⟨l,el,e2⟩:=Option.map_eq_some_iff.mp h2
   have hm:=aaS pl (aaK h1)
   exact ⟨by rw [← e2];exact h.AR i _ l h1 el,nx _ hm,h.fr _ hm⟩
 . show (pl::(qs.zip _).map (·.1)).Nodup
   rw [List.map_fst_zip le]
   exact h.nd
theorem zO.rk {pg:Addr} {S:i7} (h:zO K C x dx H H' (QP pl pg pk pq) ((pq,.lst (S.queue.map al))::(pk,.lst (S.bq.map ja))::(pg,.lst (S.cM.map al))::tP pl qs S.bp)) (le:qs.length=S.bp.length):gL C H' x pl pg pk pq qs S:=by
 have lz:qs.length<=(S.bp.map λ l=>HO.lst (l.map ja)).length:=by rw [zN,le];exact aaU _
 refine ⟨⟨dx,h.b.at_⟩,(h.at_ (pl,.lst (qs.map .ref)) (by simp [tP])).1,le,λ i q l e e'=>?_,(h.at_ (pg,.lst (S.cM.map al)) (by simp)).1,(h.at_ (pk,.lst (S.bq.map ja)) (by simp)).1,(h.at_ (pq,.lst (S.queue.map al)) (by simp)).1,?_⟩
 . exact (h.at_ (q,.lst (l.map ja)) (aaS _ (aaS _ (aaS _ (aaS _ (List.mem_iff_getElem?.mpr ⟨i,List.getElem?_zip_eq_some.mpr ⟨e,by rw [aat,e'];rfl⟩⟩)))))).1
 .
  have nd:=h.nd
  unfold tP at nd
  rw [ael,ael,ael,ael,List.map_fst_zip lz] at nd
  simp only [ak9,aa1,akH] at nd ⊢
  obtain ⟨⟨a1,a2,a3,a4⟩,⟨b1,b2,b3⟩,⟨c1,c2⟩,d1,e1⟩:=nd
  exact ⟨⟨λ z=>c1 z.symm,λ z=>b2 z.symm,λ z=>a3 z.symm,d1⟩,⟨λ z=>b1 z.symm,λ z=>a2 z.symm,c2⟩,⟨λ z=>a1 z.symm,b3⟩,a4,e1⟩
theorem zO.fr (h:zO K C x dx H H' fs L):f8 [x] H H':=λ b u e n=>h.b.st b u e λ z=>n (List.mem_singleton.mpr z)
end
structure lJ (rows:List bE) (S:i7) (i n:Nat):Prop where
 ok:gQ rows S 0
 dn:∀ (p:Nat) (r:bE) (c:Nat),rows[p]?=some r->r[c]?=some none->(p<i∨(p=i/\c<n))->∃ l,S.bp[p]?=some l/\l[c]?=some (some 0)
 un:∀ (p:Nat) l (c:Nat),S.bp[p]?=some l->c<l.length->(i<p∨(p=i/\n<=c))->l[c]?=some none
theorem lJ.zero (rows:List bE):lJ rows (BQ rows) 0 0:=by
 refine ⟨LW rows,λ p r c _ _ h=>?_,λ p l c e hc _=>?_⟩
 . rcases h with h|⟨_,h⟩<;>exact absurd h (ahi _)
 .
  have:=Mq hc
  cases q:l[c] with
  | none=>rw [this,q]
  | some t=>rw [q] at this;exact absurd this (yX e)
theorem lJ.skip {rows:List bE} {S:i7} {i n:Nat} {r:bE} {js:List Nat} (h:lJ rows S i n) (er:rows[i]?=some r) (ev:r[n]?=some (some js)):lJ rows S i (n+1):=by
 refine ⟨h.ok,λ p r' c e e' q=>?_,λ p l c e hc q=>h.un p l c e hc (by lia)⟩
 refine h.dn p r' c e e' ?_
 rcases q with q|⟨q,q2⟩
 . exact .inl q
 .
  refine .inr ⟨q,?_⟩
  by_cases z:c=n
  .
   subst q
   subst z
   rw [er] at e
   cases e
   rw [ev] at e'
   cases e'
  . lia
theorem lJ.step {rows:List bE} {S:i7} {i n m:Nat} {r:bE} {l:List (Option Nat)} (h:lJ rows S i n) (er:rows[i]?=some r) (ev:r[n]?=some none) (el:S.bp[i]?=some l) (eg:S.cM[i]?=some m):lJ rows (S.fin i n 0 l m) i (n+1):=by
 have hn:n<l.length:=by rw [h.ok.sh i l r el er];exact (List.getElem?_eq_some_iff.mp ev).1
 have hi:i<S.bp.length:=(List.getElem?_eq_some_iff.mp el).1
 have hc:=h.un i l n el hn (.inr ⟨rfl,aaU _⟩)
 refine ⟨h.ok.fin el eg hc ⟨r,er,.inl ⟨ev,rfl⟩⟩,λ p r' c e e' q=>?_,λ p l' c e uU q=>?_⟩
 .
  by_cases z:p=i/\c=n
  . obtain ⟨rfl,rfl⟩:=z
    exact ⟨_,cA.mpr (.inl ⟨rfl,hi,rfl⟩),cA.mpr (.inl ⟨rfl,hn,rfl⟩)⟩
  . obtain ⟨l',e1,e2⟩:=h.dn p r' c e e' (by lia)
    exact tS el hc e1 e2
 .
  rcases cA.mp (show (S.bp.set i (l.set n (some 0)))[p]?=some l' from e) with ⟨z,_,rfl⟩|⟨z,e⟩
  . rw [aho] at uU
    refine cA.mpr (.inr ⟨by lia,h.un i l c el uU (by lia)⟩)
  . exact h.un p l' c e uU (by lia)
theorem lJ.next {rows:List bE} {S:i7} {i:Nat} {r:bE} (h:lJ rows S i r.length) (er:rows[i]?=some r):lJ rows S (i+1) 0:=by
 refine ⟨h.ok,λ p r' c e e' q=>h.dn p r' c e e' ?_,λ p l c e hc q=>h.un p l c e hc (by lia)⟩
 by_cases z:p=i
 .
  subst z
  rw [er] at e
  cases e
  exact .inr ⟨rfl,(List.getElem?_eq_some_iff.mp e').1⟩
 . lia
theorem lJ.done {rows:List bE} {S:i7} (h:lJ rows S rows.length 0):ff rows S:=λ p r c e e'=>h.dn p r c e e' (.inl (List.getElem?_eq_some_iff.mp e).1)
theorem gL.same {CR:Addr} {x pg:Addr} {S:i7} (h:gL CR H x pl pg pk pq qs S) (s:aC H H'):gL CR H' x pl pg pk pq qs S:=by
 obtain ⟨⟨dx,hx⟩,h1,h2,h3,h4,h5,h6,h7⟩:=h
 exact ⟨⟨dx,s _ _ hx⟩,s _ _ h1,h2,λ i q l e e'=>s _ _ (h3 i q l e e'),s _ _ h4,s _ _ h5,s _ _ h6,h7⟩
theorem Bb {α:Type} {R:Addr->α->Prop}:∀ {as:List Addr} {l:List α},as.length=l.length->(∀ (i:Nat) b a,as[i]?=some b->l[i]?=some a->R b a)->Refs R (as.map .ref) l
 | [],[],_,_=>Refs.nil
 | b::as,a::l,h,f => .cons ⟨b,rfl,f 0 b a rfl rfl⟩ (Bb (amV h) λ i b a e e'=>f (i+1) b a e e')
theorem gL.there {CR:Addr} {x pg:Addr} {S:i7} (h:gL CR H x pl pg pk pq qs S) {b:Addr} (hb:b∈Ec pl pg pk pq qs):H b≠none:=by
 obtain ⟨o,e,_⟩:=h.rQ b hb
 rw [e]
 exact nofun
theorem wD.at {K:W.Frag} {CR:Addr} {x pg pa:Addr} {as:List Addr} {S:i7} {ah:List (List (Nat×Nat))} (h:gL CR H x pl pg pk pq qs S) (a:wD K H H' pa as ah):FL K H' (Ec pl pg pk pq qs) pa ah :=
 ⟨_,a.hp,λ z=>h.there z (a.fr _ abQ),Bb a.le λ i b l e e'=>⟨λ z=>h.there z (a.fr _ (aaS _ (aaK e))),a.AR i b l e e'⟩⟩
theorem zO.U3 {K:W.Frag} {x dx pg:Addr} {fs:List (Str×V)} {ls:List (List (Option Nat))} {o1 o2 o3:HO} (h:zO K C x dx H H' fs ((pq,o1)::(pk,o2)::(pg,o3)::tP pl qs ls)) (le:qs.length=ls.length):∀ b∈Ec pl pg pk pq qs,H b=none:=by
 intro b hb
 simp only [aa1] at hb
 rcases hb with rfl|rfl|rfl|rfl|hb
 . exact (h.at_ (b,.lst (qs.map .ref)) (by simp [tP])).2.2
 . exact (h.at_ (b,o3) (by simp)).2.2
 . exact (h.at_ (b,o2) (by simp)).2.2
 . exact (h.at_ (b,o1) (by simp)).2.2
 . obtain ⟨i,hi,rfl⟩:=List.mem_iff_getElem.mp hb
   have Ak:i<ls.length:=by rw [← le];exact hi
   exact (h.at_ (qs[i],.lst (ls[i].map ja)) (aaS _ (aaS _ (aaS _ (aaS _ (List.mem_iff_getElem?.mpr ⟨i,List.getElem?_zip_eq_some.mpr ⟨Mq hi,by rw [aat,Mq Ak];rfl⟩⟩)))))).2.2
def EU (m:ao):Prop:=∀ s o,eP m s->o∈s.orders m->(qa m s o).length<=400
theorem LZ {K:W.Frag} {vm:List V} {met:List bZ} (h:lU K H vm met):∀ {MM:List (Option Nat)},MM.length=met.length->∃ ax:mQ,vm=ax.map (λ e => .ref e.2.1)/\MM.map ja=ax.map (λ e=>e.2.2)/\ax.map (·.1)=met.map j6/\∀ e∈ax,gb K H e.1 e.2.1:=by
 unfold lU Refs at h
 induction h with
 | nil =>
   intro MM hl
   obtain rfl:=afr hl
   exact ⟨[],rfl,rfl,rfl,λ _ h=>absurd h aaI⟩
 | @cons v s vm met h t ih =>
   intro MM hl
   obtain ⟨p,e,hs⟩:=h
   cases MM with
   | nil=>cases hl
   | cons r MM =>
     obtain ⟨ax,h1,h2,h3,h4⟩:=ih (amV hl)
     refine ⟨(j6 s,p,ja r)::ax,by rw [e,h1];rfl,by rw [ael,h2];rfl,by rw [ael,h3];rfl,λ x hx=>?_⟩
     rcases List.mem_cons.mp hx with rfl|hx
     . exact fK hs
     . exact h4 x hx
theorem Bh:∀ {ax:mQ} {i:Nat} {e:PyData×Addr×V},(ax.map (·.1)).Nodup->ax[i]?=some e->gZ ax e.1=some e.2.2
 | [],_,_,_,h=>by simp at h
 | x::ax,0,e,_,h=>by
   cases h
   unfold gZ
   rw [agv,adD rfl]
   rfl
 | x::ax,i+1,e,hn,h=>by
   have hn:=List.nodup_cons.mp hn
   have h:ax[i]?=some e:=h
   have ne:x.1≠e.1:=λ z=>hn.1 (List.mem_map.mpr ⟨e,aaK h,z.symm⟩)
   have:=Bh hn.2 h
   unfold gZ at this ⊢
   rw [agv,ac7 ne]
   exact this
theorem fV.KC {m:ao} {g:oQ} (h:fV m g) (gh:Jx m) (rl:EU m) (le:g.rows.length=g.met.length) (l2:g.met.length<=2000):DW g.rows:=by
 refine ⟨by lia,λ r hr=>?_⟩
 obtain ⟨i,hi,rfl⟩:=List.mem_iff_getElem.mp hr
 have er:=Mq hi
 have Ak:i<g.met.length:=by lia
 have es:=Mq Ak
 have hp:=h.rows i _ _ es er
 have so:=h.st _ (acx Ak)
 refine ⟨by rw [← hp.length];exact rq gh.h4 _,λ js hj=>?_⟩
 obtain ⟨o,ho,q⟩:=vM hp (some js) hj
 have q2:=rl _ o so ho
 unfold jW at q
 split at q
 .
  have q:Paired (λ j s=>g.met[j]?=some s) js (qa m g.met[i] o):=q
  refine ⟨by rw [q.length];exact q2,λ j hj=>?_⟩
  obtain ⟨t,_,e⟩:=vL q j hj
  rw [le]
  exact (List.getElem?_eq_some_iff.mp e).1
 . exact q.elim
inductive wq (P:Program) (w:World) (K:W.Frag) (C:Addr) (vs:List V) (H:Hp) (Q:VK) (_E:XK):Prop
 | mk (a q lim fp m xs l:_) (_:vs=[.ref a,.ref q,.int lim]) (_:aL K C H a fp m) (_:Jx m) (_:CV m lim) (_:lim<=2000) (_:EU m) (_:H q=some (.lst xs)) (_:lU K H xs l) (_:(∀ s∈l,eP m s)) (_:∀ p ax H',aC H H'->gY P w K H' p ax->(∀ s∈l,∃ v,gZ ax (j6 s)=some (ja v)/\mL m s v)->Q (.ref p) H')
section
variable {m:ao} {s:bZ} {o out:Nat}
theorem L6 (h4:m.rows.length<=4) (so:eP m s) (ho:o∈s.orders m):o<16/\(Pm m s).Law o:=by
 obtain ⟨h1,h2⟩:=List.mem_filter.mp ho
 obtain ⟨C8,oa⟩:=(pe (qY h4)).2 o h1
 obtain ⟨h2,h3⟩:=Bool.and_eq_true_iff.mp h2
 obtain ⟨h3,h4⟩:=Bool.and_eq_true_iff.mp h3
 refine ⟨C8,(Ord.Fk (acK C8 (by decide))).mpr ⟨oa,⟨?_,akM h3,akM h4⟩⟩⟩
 have:=akM h2
 unfold bZ.held at this
 rw [so.lw] at this
 exact this
theorem AE (h4:m.rows.length<=4) (pk:d6 m) (so:eP m s) (ho:o∈s.orders m) (ve:out∈di m s o):bV m s o out:=by
 obtain ⟨C8,lw⟩:=L6 h4 so ho
 obtain ⟨u16,ua⟩:=(pe (vh (s:=s) (o:=o) h4)).2 out ve
 have st:∀ r,0<=m.wd r/\0<=m.dI r:=λ r=>by
   unfold ao.wd ao.dI ao.mv
   cases e:m.aV[r]? with
   | none=>exact ⟨akb _,akb _⟩
   | some z =>
     cases z with
     | none=>exact ⟨akb _,akb _⟩
     | some z =>
       have:=pk.cp z (aaK e)
       exact ⟨this.2.1.1,this.2.2.1.1⟩
 refine ⟨h4,so,lw,C8,u16,λ r h=>?_,λ r=>(st r).1,λ r=>(st r).2,pk.zn.2.1.1,pk.zn.2.2.1⟩
 have:(out &&& s.may m o).testBit r=true:=by rw [ua];exact h
 rw [ah6] at this
 have:=(aga _ _ ▸ this:out.testBit r=true/\(s.may m o).testBit r=true).2
 unfold bZ.may at this
 rw [Ord.ig] at this
 simp only [aga,Bool.not_eq_true',ajC] at this
 exact ⟨this.2.1.1,this.2.1.2,this.2.2⟩
theorem FM {r:List bR} {f g:bR} {x:Nat} (h:x∈oE r f g):x+1<r.length:=by
 have:=List.mem_range.mp (List.mem_filter.mp h).1
 lia
theorem uK (l:List Nat) (i:Nat):gN l i=l.getD i 0:=by
 unfold gN
 rw [UZ]
theorem GA {ds:List Pr} (h:∀ d∈ds,wB 900 900 d) (hl:ds.length<=10):eT 20000 (nf (fH ds).1 (fH ds).2):=by
 obtain ⟨a,b,c⟩:=uN ds h ds.length (aaU _)
 rw [adc] at a b c
 have F:=kj (t:=(fH ds).1) c
 exact ⟨F.PB (a.mono (by lia)),F.Sw (b.mono (by lia)),F.pos⟩
theorem GG (wf:m.Wf) (h4:m.rows.length<=4) (sk:m.bj.length=m.rows.length) (so:eP m s):K2 m s:=by
 intro i b hi hb
 have hbs:∀ j,j<m.rows.length->s.dW.getD j 0+1<(m.rows.getD j []).length:=λ j hj=>by rw [← uK];exact so.band j hj
 have len:∀ d,(gm m s.dW d).length=m.rows.length:=λ d=>by
   unfold gm
   rw [zN,abU,so.lb]
 have hz:b=true->∃ z,m.aV[i]?=some (some z):=λ e=>by
   have:=hb e
   unfold ao.has ao.mv at this
   cases q:m.aV[i]? with
   | none=>rw [q] at this;cases this
   | some z =>
     cases z with
     | none=>rw [q] at this;cases this
     | some z=>exact ⟨z,rfl⟩
 have hs:i<m.bj.length:=by rw [sk];exact hi
 have es:lT m i=m.bj[i]:=by unfold lT;rw [Mq hs];rfl
 have ws:=wf.bj m.bj[i] (acx hs)
 have one:∀ d w,d<=1->eT 120 w->eT 20000 (nW m i (gm m s.dW d) w b):=λ d w hd hw=>by
   obtain ⟨a1,a2,_⟩:=pA (i:=i) (fired:=b) wf h4 (len d) (nJ wf so.lb hbs hd) hw hz
   exact GA a1 a2
 refine ⟨one 0 _ (by decide) ?_,one 1 _ (by decide) ?_⟩
 . rw [es];exact ws.2.1.mono (by decide)
 . rw [es];exact ws.2.2.mono (by decide)
theorem KD (wf:m.Wf) (h4:m.rows.length<=4) (sk:m.bj.length=m.rows.length) (pk:d6 m):Jx m:=by
 refine ⟨h4,λ s so=>GG wf h4 sk so,λ s o so ho out ve=>AE h4 pk so ho ve,λ s o x so ho hx=>?_⟩
 obtain ⟨out,ve,hx⟩:=List.mem_flatMap.mp hx
 obtain ⟨c,hc,rfl⟩:=List.mem_map.mp hx
 obtain ⟨lc,hm⟩:=iK.mp hc
 have lr:(gf m s (Ord.off o out)).length=m.rows.length:=by unfold gf;rw [zN,abU]
 rw [lr] at lc hm
 refine (AE h4 pk so ho ve).next lc λ i hi=>?_
 have:=hm i hi
 rw [uK]
 unfold gf at this
 rw [UZ (l:=List.map _ _),aat,al0 hi] at this
 have this:c.getD i 0∈(tf m s (Ord.off o out) i).getD []:=this
 unfold tf dG at this
 split at this
 . exact FM this
 . exact absurd this aaI
end
structure sV (m:ao):Prop where
 n1:1<=m.rows.length
 n2:m.rows.length<=2
 bd:∀ r∈m.rows,r.length+m.rows.length<=5
 dI:∀ i,m.dI i+m.rows.length<=3
 fails:∀ i,m.fails i<=1
 d8:m.d8<=4
theorem ik {k:Nat} (rows:List (List Nat)):(∀ r∈rows,r.length<=k)->(bo rows).length<=k ^ rows.length:=by
 refine snoc_ind (p:=λ rows=>(∀ r∈rows,r.length<=k)->(bo rows).length<=k ^ rows.length) (λ _=>aaU _) (λ l r ih h=>?_) rows
 rw [ij,aaE,acG,alq]
 refine acS (eG (k:=k) λ a=>by rw [zN];exact h r (by simp)) (akY _ (ih λ x hx=>h x (by simp [hx])))
def Ba (m:ao):List bZ :=
 (bo ((List.range m.rows.length).map λ i=>List.range ((m.rows.getD i []).length - 1))).flatMap λ b=>(List.range (2 ^ m.rows.length)).flatMap λ u =>
   (bo ((List.range m.rows.length).map λ i=>List.range ((m.dI i).toNat+1))).flatMap λ w=>(bo ((List.range m.rows.length).map λ i=>List.range ((m.fails i).toNat+1))).flatMap λ f =>
     (List.range (m.d8.toNat+1)).map λ h=>⟨b,u,w,f,h⟩
theorem LR {n i:Nat} {F:Nat->List Nat} (hi:i<n):((List.range n).map F).getD i []=F i:=by
 rw [UZ,aat,al0 hi];rfl
theorem ID {m:ao} {s:bZ} (so:eP m s):s∈Ba m:=by
 have ch:∀ {l:List Nat} {F:Nat->List Nat},l.length=m.rows.length->(∀ i,i<m.rows.length->gN l i∈F i)->l∈bo ((List.range m.rows.length).map F):=λ {l F} hl hf=>by
   refine iK.mpr ⟨by rw [zN,abU];exact hl,λ i hi=>?_⟩
   rw [zN,abU] at hi
   rw [LR hi,← uK]
   exact hf i hi
 have fit:∀ i,i<m.rows.length->(gN s.gi i:Int)<=max 0 (m.dI i)/\(gN s.failed i:Int)<=max 0 (m.fails i):=λ i hi=>by
   have:=so.cp i hi
   unfold ao.dI ao.fails
   cases e:m.mv i with
   | none=>rw [e] at this;obtain ⟨_,h1,h2⟩:=this;rw [h1,h2];exact ⟨Int.le_max_left _ _,Int.le_max_left _ _⟩
   | some z=>rw [e] at this;exact ⟨ak7 this.1 (Int.le_max_right _ _),ak7 this.2.1 (Int.le_max_right _ _)⟩
 refine List.mem_flatMap.mpr ⟨s.dW,ch so.lb λ i hi=>List.mem_range.mpr (by have:=so.band i hi;lia),List.mem_flatMap.mpr ⟨s.bW,List.mem_range.mpr so.bW,List.mem_flatMap.mpr ⟨s.gi,ch so.lw λ i hi=>List.mem_range.mpr (by have:=(fit i hi).1;lia),List.mem_flatMap.mpr ⟨s.failed,ch so.lf λ i hi=>List.mem_range.mpr (by have:=(fit i hi).2;lia),List.mem_map.mpr ⟨s.heap,List.mem_range.mpr (by have:=so.heap;lia),rfl⟩⟩⟩⟩⟩
theorem GO {m:ao} {a b c d:Nat} (h1:(bo ((List.range m.rows.length).map λ i=>List.range ((m.rows.getD i []).length - 1))).length<=a) (h2:(bo ((List.range m.rows.length).map λ i=>List.range ((m.dI i).toNat+1))).length<=b) (h3:(bo ((List.range m.rows.length).map λ i=>List.range ((m.fails i).toNat+1))).length<=c) (h4:m.d8.toNat+1<=d) :
   (Ba m).length<=a * (2 ^ m.rows.length * (b * (c * d))):=by
 unfold Ba
 refine acS (eG (k:=2 ^ m.rows.length * (b * (c * d))) λ x=>?_) (akY _ h1)
 refine acS (eG (k:=b * (c * d)) λ y=>?_) (by rw [abU];exact aaU _)
 refine acS (eG (k:=c * d) λ w=>?_) (akY _ h2)
 refine acS (eG (k:=d) λ f=>?_) (akY _ h3)
 rw [zN,abU]
 exact h4
theorem sV.fin {m:ao} (h:sV m):CV m 2000:=λ l nd hl=>by
 have le:=ame nd (l₂:=Ba m) λ s hs=>ID (hl s hs)
 have lr:∀ {F:Nat->List Nat},((List.range m.rows.length).map F).length=m.rows.length:=by intro F;rw [zN,abU]
 have rl:∀ {F:Nat->Nat} {k:Nat},(∀ i,i<m.rows.length->F i<=k)->∀ r∈(List.range m.rows.length).map (λ i=>List.range (F i)),r.length<=k:=λ {F k} hf r hr=>by
   obtain ⟨i,hi,rfl⟩:=List.mem_map.mp hr
   rw [abU]
   exact hf i (List.mem_range.mp hi)
 have bd:∀ i,i<m.rows.length->(m.rows.getD i []).length+m.rows.length<=5:=λ i hi=>by
   rw [UZ,Mq hi]
   exact h.bd _ (acx hi)
 have c1:=ik (k:=4 - m.rows.length) _ (rl (F:=λ i=>(m.rows.getD i []).length - 1) λ i hi=>by have:=bd i hi;lia)
 have c2:=ik (k:=4 - m.rows.length) _ (rl (F:=λ i=>(m.dI i).toNat+1) λ i hi=>by have:=h.dI i;have:=h.n2;lia)
 have c3:=ik (k:=2) _ (rl (F:=λ i=>(m.fails i).toNat+1) λ i hi=>by have:=h.fails i;lia)
 rw [lr] at c1 c2 c3
 have:=GO (d:=5) c1 c2 c3 (by have:=h.d8;lia)
 have n1:=h.n1
 have n2:=h.n2
 have:m.rows.length=1∨m.rows.length=2:=by lia
 rcases this with e|e
 . rw [e] at this
   lia
 . rw [e] at this
   lia
theorem sV.res {m:ao} (h:sV m):EU m:=λ s o so ho=>by
 have n2:=h.n2
 have bl:∀ out,(ib m s o out).length<=9:=λ out=>by
   unfold ib
   rw [zN]
   have lr:(gf m s (Ord.off o out)).length=m.rows.length:=by unfold gf;rw [zN,abU]
   have:=ik (k:=3) (gf m s (Ord.off o out)) λ r hr=>by
     obtain ⟨i,hi,rfl⟩:=List.mem_map.mp hr
     have hi:=List.mem_range.mp hi
     unfold tf dG
     split
     . have:=j7 (m.rows.getD i []) (kH m i s.dW ((Ord.off o out).testBit i)) (kc m i s.dW ((Ord.off o out).testBit i)) ((m.rows.getD i []).length - 1)
       have bd:=h.bd m.rows[i] (acx hi)
       have e:m.rows.getD i []=m.rows[i]:=by rw [UZ,Mq hi];rfl
       rw [e] at this ⊢
       show (jH _ _ _ _).length<=3
       have n1:=h.n1
       lia
     . exact aeU _
   rw [lr] at this
   exact acS this (acS (ahb (by decide) n2) (by decide))
 have:=eG (l:=di m s o) (k:=9) bl
 have h2:(di m s o).length<=16:=(ni (vh (s:=s) (o:=o) (by lia))).2
 show ((di m s o).flatMap (ib m s o)).length<=400
 lia
inductive E9 {a b c d e f g h i:Type} (p:a->b->c->d->e->f->g->h->i->Prop):Prop|mk (x:a) (y:b) (z:c) (u:d) (v:e) (w:f) (t:g) (s:h) (r:i) (_:p x y z u v w t s r)
structure AK (n:Nat) (z:Int×Int×Int×Int):Prop where
 s2:z.2.2.1<=2
 s1:2<=n->z.2.2.1<=1
 f:z.2.2.2<=1
structure zE (n b:Nat) (r:R7):Prop where
 len:r.marks.length<=b+1
 st:∀ z,r.cp=some z->AK n z
structure pF (rs:List R7) (b0 b1 b2:Int) (p:Nat) (m:ao):Prop where
 most:m.most=b0
 d8:m.d8=b1
 load:m.load=b2
 rows:∀ (i:Nat) r,m.rows[i]?=some r->∃ q,rs[i]?=some q/\r.length=q.marks.length
 st:∀ (i:Nat) q,i<p->rs[i]?=some q->(m.mv i).map (·.2)=q.cp.map (·.2)
 no:∀ i,p<=i->m.mv i=none
section
variable {rs:List R7} {b0 b1 b2:Int} {p i j:Nat} {m:ao}
theorem pF.new:pF rs b0 b1 b2 0 (ao.new b0 b1 b2):=⟨rfl,rfl,rfl,λ i r e=>(by have e:([]:List (List bR))[i]?=some r:=e;simp at e),λ _ _ h=>absurd h (ahi _),λ _ _=>rfl⟩
theorem pF.dY {r:List bR} {q:R7} (h:pF rs b0 b1 b2 0 m) (hq:rs[m.rows.length]?=some q) (hr:r.length=q.marks.length):pF rs b0 b1 b2 0 (m.dY r):=by
 refine ⟨h.most,h.d8,h.load,λ i x e=>?_,λ _ _ h=>absurd h (ahi _),λ i _=>?_⟩
 .
  have e:(m.rows++[r])[i]?=some x:=e
  by_cases hi:i<m.rows.length
  . rw [abM hi] at e
    exact h.rows i x e
  .
   have:=(List.getElem?_eq_some_iff.mp e).1
   rw [aaE,acG] at this
   obtain rfl:i=m.rows.length:=by lia
   rw [aex] at e
   cases e
   exact ⟨q,hq,hr⟩
 .
  have:=h.no i (aeU _)
  unfold ao.mv at this ⊢
  show ((m.aV++[none])[i]?).getD none=none
  by_cases hi:i<m.aV.length
  . rw [abM hi];exact this
  . rw [afw (by lia)]
    by_cases z:i - m.aV.length=0
    . rw [z];rfl
    . rw [alS (by show 1<=_;lia)];rfl
theorem pF.fI {z:bR×bR×bR} (h:pF rs b0 b1 b2 p m):pF rs b0 b1 b2 p (m.fI i z):=⟨h.most,h.d8,h.load,h.rows,h.st,h.no⟩
theorem pF.dH {f:bR} (h:pF rs b0 b1 b2 p m):pF rs b0 b1 b2 p (m.dH i j f):=⟨h.most,h.d8,h.load,h.rows,h.st,h.no⟩
theorem pF.skip {q:R7} (h:pF rs b0 b1 b2 p m) (hq:rs[p]?=some q) (hs:q.cp=none):pF rs b0 b1 b2 (p+1) m:=by
 refine ⟨h.most,h.d8,h.load,h.rows,λ i x hi e=>?_,λ i hi=>h.no i (by lia)⟩
 by_cases z:i=p
 .
  subst z
  rw [hq] at e
  cases e
  rw [h.no i (aaU _),hs];rfl
 . exact h.st i x (by lia) e
theorem pF.dD {q:R7} {z:bR×Int×Int×Int} {y:Int×Int×Int×Int} (h:pF rs b0 b1 b2 p m) (hp:p<m.aV.length) (hq:rs[p]?=some q) (hs:q.cp=some y) (hz:z.2=y.2):pF rs b0 b1 b2 (p+1) (m.dD p z):=by
 have ev:∀ i,(m.dD p z).mv i=if i=p then some z else m.mv i:=λ i=>by
   unfold ao.mv
   show ((m.aV.set p (some z))[i]?).getD none=_
   by_cases e:i=p
   . subst e;rw [ady rfl,alb hp];rfl
   . rw [ac9 e,alh (λ q=>e q.symm)]
 refine ⟨h.most,h.d8,h.load,h.rows,λ i x hi e=>?_,λ i hi=>?_⟩
 .
  rw [ev]
  by_cases k:i=p
  .
   subst k
   rw [hq] at e
   cases e
   rw [ady rfl,hs]
   exact ahP some hz
  . rw [ac9 k];exact h.st i x (by lia) e
 . rw [ev,ac9 (by lia)];exact h.no i (by lia)
end
def Jw:Option (Int×Int×Int×Int)->Bool->Nat->Nat->Prop
 | none,f,w,b=>f=false/\w=0/\b=0
 | some z,f,w,b=>(w:Int)<=z.2.2.1/\(b:Int)<=z.2.2.2/\(b=0∨(f=false/\w=0))
structure lX (rs:List R7) (b0:Int) (i:Nat) (bs ws fs:List Nat) (b:Nat):Prop where
 lb:bs.length=i
 lw:ws.length=i
 lf:fs.length=i
 bW:b<2 ^ i
 most:((Bit.rooms b).length:Int)<=b0
 band:∀ (j:Nat) q,j<i->rs[j]?=some q->gN bs j+1<q.marks.length
 cp:∀ (j:Nat) q,j<i->rs[j]?=some q->Jw q.cp (b.testBit j) (gN ws j) (gN fs j)
theorem lX.zero {rs:List R7} {b0:Int} (h:0<=b0):lX rs b0 0 [] [] [] 0:=by
 refine ⟨rfl,rfl,rfl,by decide,?_,λ _ _ h=>absurd h (ahi _),λ _ _ h=>absurd h (ahi _)⟩
 have e:(Bit.rooms 0).length=0:=by decide
 rw [e]
 exact h
theorem lX.next {rs:List R7} {b0:Int} {i:Nat} {bs ws fs:List Nat} {b x w f:Nat} {lit:Bool} {q:R7} (h:lX rs b0 i bs ws fs b) (hi:i<61) (hq:rs[i]?=some q) (hx:x+1<q.marks.length) (hf:Jw q.cp lit w f) (hm:lit=true->((Bit.rooms b).length:Int)<b0):lX rs b0 (i+1) (bs++[x]) (ws++[w]) (fs++[f]) (if lit then b+2 ^ i else b)/\(Bit.rooms (if lit then b+2 ^ i else b)).length=(Bit.rooms b).length+(if lit then 1 else 0):=by
 have Zk:b.testBit i=false:=Bit.ip h.bW (aaU _)
 have hor:b+2 ^ i=b ||| 2 ^ i:=by
   have:=amm h.bW 1
   rw [am1] at this
   rw [alr,this,Nat.or_comm]
 have l5:(if lit then b+2 ^ i else b)<2 ^ (i+1):=by
   have:=h.bW
   rw [alq]
   split<;>lia
 have hlen:(Bit.rooms (if lit then b+2 ^ i else b)).length=(Bit.rooms b).length+(if lit then 1 else 0):=by
   cases lit with
   | false=>rfl
   | true =>
     show (Bit.rooms (b+2 ^ i)).length=_+1
     rw [hor,Bit.FD hi Zk]
 have hold:∀ j,j<i->(if lit then b+2 ^ i else b).testBit j=b.testBit j:=λ j hj=>by
   cases lit with
   | false=>rfl
   | true =>
     show (b+2 ^ i).testBit j=_
     rw [alr]
     exact Nat.testBit_two_pow_add_gt hj b
 have uY:(if lit then b+2 ^ i else b).testBit i=lit:=by
   cases lit with
   | false=>exact Zk
   | true =>
     show (b+2 ^ i).testBit i=_
     rw [alr,Nat.testBit_two_pow_add_eq,Zk];rfl
 have nw:∀ {l:List Nat} {y:Nat},l.length=i->gN (l++[y]) i=y:=λ {l y} e=>by rw [← e];exact Me
 refine ⟨⟨by rw [aaE,h.lb];rfl,by rw [aaE,h.lw];rfl,by rw [aaE,h.lf];rfl,l5,?_,λ j r hj er=>?_,λ j r hj er=>?_⟩,hlen⟩
 .
  rw [hlen]
  have:=h.most
  cases lit with
  | false=>exact this
  | true =>
    have:=hm rfl
    show (((Bit.rooms b).length+1:Nat):Int)<=_
    lia
 .
  by_cases e:j<i
  . rw [zc (by rw [h.lb];exact e)];exact h.band j r e er
  . obtain rfl:j=i:=by lia
    rw [hq] at er
    cases er
    rw [nw h.lb];exact hx
 .
  by_cases e:j<i
  . rw [zc (by rw [h.lw];exact e),zc (by rw [h.lf];exact e),hold j e];exact h.cp j r e er
  . obtain rfl:j=i:=by lia
    rw [hq] at er
    cases er
    rw [nw h.lw,nw h.lf,uY];exact hf
theorem lX.ok {rs:List R7} {b0 b1:Int} {m:ao} {s:bZ} (h:lX rs b0 rs.length s.dW s.gi s.failed s.bW) (lk:pF rs b0 b1 b2 rs.length m) (lr:m.rows.length=rs.length) (hp:(s.heap:Int)<=b1):eP m s:=by
 refine ⟨by rw [lr];exact h.lb,by rw [lr];exact h.lw,by rw [lr];exact h.lf,by rw [lr];exact h.bW,by rw [lk.most];exact h.most,by rw [lk.d8];exact hp,λ i hi=>?_,λ i hi=>?_⟩
 .
  obtain ⟨q,eq,e⟩:=lk.rows i _ (Mq hi)
  rw [UZ,Mq hi]
  show _<m.rows[i].length
  rw [e]
  exact h.band i q (by lia) eq
 .
  have Ak:i<rs.length:=by lia
  have eq:=Mq Ak
  have:=h.cp i _ Ak eq
  have e:=lk.st i _ Ak eq
  cases q:rs[i].cp with
  | none =>
    rw [q] at this e
    cases z:m.mv i with
    | none=>exact this
    | some z'=>rw [z] at e;cases e
  | some y =>
    rw [q] at this e
    cases z:m.mv i with
    | none=>rw [z] at e;cases e
    | some z' =>
      rw [z] at e
      have e:z'.2=y.2:=abG e
      show (_:Int)<=z'.2.2.1/\(_:Int)<=z'.2.2.2/\_
      rw [e]
      exact this
theorem pF.Cs {rs:List R7} {b0 b1:Int} {m:ao} (lk:pF rs b0 b1 b2 rs.length m) (lr:m.rows.length=rs.length) (n1:1<=rs.length) (n2:rs.length<=2) (hf:∀ r∈rs,zE rs.length (4 - rs.length) r) (hb:b1<=4):sV m:=by
 have mv:∀ i z,m.mv i=some z->∃ y,y.2=z.2/\AK rs.length y:=λ i z e=>by
   by_cases hi:i<rs.length
   .
    have eq:=Mq hi
    have h:=lk.st i _ hi eq
    rw [e] at h
    cases q:rs[i].cp with
    | none=>rw [q] at h;cases h
    | some y =>
      rw [q] at h
      exact ⟨y,(abG h).symm,(hf _ (acx hi)).st y q⟩
   . rw [lk.no i (by lia)] at e;cases e
 refine ⟨by lia,by lia,λ r hr=>?_,λ i=>?_,λ i=>?_,by rw [lk.d8];exact hb⟩
 .
  obtain ⟨i,hi⟩:=List.mem_iff_getElem?.mp hr
  obtain ⟨q,eq,e⟩:=lk.rows i r hi
  have:=(hf q (aaK eq)).len
  lia
 .
  unfold ao.dI
  cases e:m.mv i with
  | none=>show (0:Int)+_<=3;lia
  | some z =>
    obtain ⟨y,ey,fz⟩:=mv i z e
    have h2:=fz.s2
    have h1:=fz.s1
    rw [ey] at h1 h2
    show z.2.2.1+_<=3
    by_cases k:2<=rs.length
    . have:=h1 k;lia
    . lia
 .
  unfold ao.fails
  cases e:m.mv i with
  | none=>show (0:Int)<=1;decide
  | some z =>
    obtain ⟨y,ey,fz⟩:=mv i z e
    have h2:=fz.f
    rw [ey] at h2
    exact h2
section
variable (K:W.Frag) (C:Addr)
inductive yU  (vs:List V) (H:Hp) (Q:VK) (_E:XK):Prop
 | mk (c:Int) (n b:Nat) (_:vs=[.int c,al n,al b]) (_:1<=n) (_:n<=4) (_:1<=b) (_:b<=4) (_:∀ p xs (rs:List R7) H',aC H H'->H' p=some (.lst xs)->bi K H' (rs.map JX) xs->rs.length=n->(∀ r∈rs,r.Ok/\zE n b r)->Q (.ref p) H')
inductive CD  (vs:List V) (H:Hp) (Q:VK) (_E:XK):Prop
 | mk (pr:Addr) (xs:List V) (rs:List R7) (yB:Addr) (s:yD) (pb:Addr) (b0 b1 b2:Int) (fl:Int) (_:vs=[.ref pr,.ref yB,.ref pb,.int fl]) (_:aR K H pr xs) (_:bi K H (rs.map JX) xs) (_:1<=rs.length) (_:rs.length<=4) (_:(∀ r∈rs,r.Ok)) (_:bO K H yB s.vs) (_:s.Ok) (_:bO K H pb [.int b0,.int b1,.int b2]) (_:(0<=b0/\b0<=4)) (_:(0<=b1/\b1<=30)) (_:(0<=b2/\b2<=30)) (_:∀ a fp m H',aC H H'->aL K C H' a fp m->(∀ c∈fp,H c=none)->m.rows.length=rs.length->QH m->d6 m->pF rs b0 b1 b2 rs.length m->Q (.ref a) H')
inductive zl  (vs:List V) (H:Hp) (Q:VK) (_E:XK):Prop
 | mk (pr:Addr) (xs:List V) (rs:List R7) (pb:Addr) (b0 b1 b2 c k:Int) (_:vs=[.ref pr,.ref pb,.int c,.int k]) (_:aR K H pr xs) (_:bi K H (rs.map JX) xs) (_:1<=rs.length) (_:rs.length<=4) (_:(∀ r∈rs,r.Ok)) (_:bO K H pb [.int b0,.int b1,.int b2]) (_:0<=b0) (_:0<=b1) (_:0<=k) (_:k<=100) (_:∀ q st H',aC H H'->g7 K H' q st->lX rs b0 rs.length st.dW st.gi st.failed st.bW->(st.heap:Int)<=b1->Q (.ref q) H')
end
structure wc (m m':ao):Prop where
 ex:∃ a b c,m'={ m with most:=a,d8:=b,load:=c }/\m.most<=a/\a<=4/\m.d8<=b/\b<=4/\m.load<=c/\c<=30
theorem wc.put {m:ao} (h:wc m m') (pk:d6 m):d6 m':=by
 obtain ⟨a,b,c,rfl,h1,h2,h3,h4,h5,h6⟩:=h.ex
 obtain ⟨q1,q2,q3⟩:=pk.zn
 exact ⟨pk.rise,pk.qH,pk.cp,⟨⟨by show 0<=a;lia,h2⟩,⟨by show 0<=b;lia,by show b<=30;lia⟩,⟨by show 0<=c;lia,h6⟩⟩⟩
theorem wc.Cs {m:ao} (h:wc m m') (f:sV m):sV m':=by
 obtain ⟨a,b,c,rfl,h1,h2,h3,h4,h5,h6⟩:=h.ex
 exact ⟨f.n1,f.n2,f.bd,f.dI,f.fails,h4⟩
theorem wc.st {m:ao} (h:wc m m') {s:bZ} {hp:Nat} (so:eP m s) (lh:(hp:Int)<=m'.d8):eP m' { s with heap:=hp }:=by
 obtain ⟨a,b,c,rfl,h1,h2,h3,h4,h5,h6⟩:=h.ex
 exact ⟨so.lb,so.lw,so.lf,so.bW,ak7 so.most h1,lh,so.band,so.cp⟩
theorem wc.le {m:ao} (h:wc m m') {s:bZ} {hp:Nat} {u v:Option Nat} (lh:s.heap<=hp) (ru:mL m s u) (rv:mL m' { s with heap:=hp } v):v=none∨∃ x y,u=some x/\v=some y/\x<=y:=by
 obtain ⟨a,b,c,rfl,h1,h2,h3,h4,h5,h6⟩:=h.ex
 exact ru.le rv λ k q=>wy h1 h3 h5 k s hp lh q
theorem wc.refl {m:ao} (pk:d6 m) (f:sV m):wc m m:=⟨_,_,_,rfl,akb _,pk.zn.1.2,akb _,f.d8,akb _,pk.zn.2.2.2⟩
theorem wc.with {m:ao} {x y z:Option Int} (pk:d6 m) (f:sV m) (hx:∀ i,x=some i->m.most<=i/\i<=4) (hy:∀ i,y=some i->m.d8<=i/\i<=4) (hz:∀ i,z=some i->m.load<=i/\i<=30):wc m (m.with x y z):=by
 refine ⟨_,_,_,rfl,?_,?_,?_,?_,?_,?_⟩
 . cases x with
   | none=>exact akb _
   | some i=>exact (hx i rfl).1
 . cases x with
   | none=>exact pk.zn.1.2
   | some i=>exact (hx i rfl).2
 . cases y with
   | none=>exact akb _
   | some i=>exact (hy i rfl).1
 . cases y with
   | none=>exact f.d8
   | some i=>exact (hy i rfl).2
 . cases z with
   | none=>exact akb _
   | some i=>exact (hz i rfl).1
 . cases z with
   | none=>exact pk.zn.2.2.2
   | some i=>exact (hz i rfl).2
theorem wc.Il {K:W.Frag} {a:Addr} {fp:List Addr} {m:ao} (h:wc m m') (pk:d6 m) (hh:aL K C H a fp m'):Jx m':=KD hh.wf hh.mx hh.sk (h.put pk)
end L2
namespace K64
open PySem PySem.Spec PyProof.Rows L2 Mth
seal PE PS tK PPs PA PG MG PT JK PI
def top (i:Nat):Stmt:=PySem.Challenge.pw_stoke_k64_whole_more_never_hurts.main.body.getD i (.Pass ⟨0,0,0,0⟩)
abbrev AG:Stmt:=inClass (top 10) 0
abbrev zg:Stmt:=inClass (top 11) 0
abbrev jG:Stmt:=top 13
theorem xN:ay ["bits","room"] ["bits","room"] (ap jG):=⟨rfl,rfl,rfl,by decide +kernel,rfl,by decide +kernel,by decide +kernel⟩
abbrev iR:Stmt:=top 14
theorem vR:ay ["bits","room"] ["bits","room"] (ap iR):=⟨rfl,rfl,rfl,by decide +kernel,rfl,by decide +kernel,by decide +kernel⟩
abbrev jQ:Stmt:=top 15
theorem xW:ay ["bits"] ["bits"] (ap jQ):=⟨rfl,rfl,rfl,by decide +kernel,rfl,by decide +kernel,by decide +kernel⟩
abbrev kS:Stmt:=top 16
theorem zd:ay ["bits"] ["bits"] (ap kS):=⟨rfl,rfl,rfl,by decide +kernel,rfl,by decide +kernel,by decide +kernel⟩
abbrev k7:Stmt:=top 17
theorem jS:ay ["bits","parts","room"] ["bits"] (ap k7):=⟨rfl,rfl,rfl,by decide +kernel,rfl,by decide +kernel,by decide +kernel⟩
abbrev ly:Stmt:=top 18
theorem jy:ay ["rooms","bits","room"] ["rooms"] (ap ly):=⟨rfl,rfl,rfl,by decide +kernel,rfl,by decide +kernel,by decide +kernel⟩
abbrev jE:Stmt:=top 20
theorem d9:ay ["hold","state","bands","burning","waits","failed","heap","many"] ["hold","state"] (ap jE):=⟨rfl,rfl,rfl,by decide +kernel,rfl,by decide +kernel,by decide +kernel⟩
abbrev iI:Stmt:=top 21
theorem eQ:ay ["hold","state","room","bands","burning","waits","failed","heap"] ["hold","state","room"] (ap iI):=⟨rfl,rfl,rfl,by decide +kernel,rfl,by decide +kernel,by decide +kernel⟩
abbrev hX:Stmt:=top 22
theorem iZ:ay ["stove","fired","wait","failed","stay","fails"] ["stove","fired","wait","failed"] (ap hX):=⟨rfl,rfl,rfl,by decide +kernel,rfl,by decide +kernel,by decide +kernel⟩
abbrev fy:Stmt:=top 23
theorem o9:ay ["hold","state"] ["hold","state"] (ap fy):=⟨rfl,rfl,rfl,by decide +kernel,rfl,by decide +kernel,by decide +kernel⟩
abbrev im:Stmt:=top 24
theorem sS:ay ["hold"] ["hold"] (ap im):=⟨rfl,rfl,rfl,by decide +kernel,rfl,by decide +kernel,by decide +kernel⟩
abbrev lu:Stmt:=top 25
theorem Af:ay ["hold","bits"] ["hold","bits"] (ap lu):=⟨rfl,rfl,rfl,by decide +kernel,rfl,by decide +kernel,by decide +kernel⟩
abbrev iL:Stmt:=top 26
theorem vy:ay ["state"] ["state"] (ap iL):=⟨rfl,rfl,rfl,by decide +kernel,rfl,by decide +kernel,by decide +kernel⟩
abbrev jw:Stmt:=top 27
theorem wJ:ay ["hold","order","heap"] ["hold","order","heap"] (ap jw):=⟨rfl,rfl,rfl,by decide +kernel,rfl,by decide +kernel,by decide +kernel⟩
abbrev iM:Stmt:=top 28
theorem jR:ay ["hold","state","held","going_on"] ["hold","state"] (ap iM):=⟨rfl,rfl,rfl,by decide +kernel,rfl,by decide +kernel,by decide +kernel⟩
abbrev lC:Stmt:=top 29
theorem sB:ay ["hold","state","order","lit"] ["hold","state","order"] (ap lC):=⟨rfl,rfl,rfl,by decide +kernel,rfl,by decide +kernel,by decide +kernel⟩
abbrev fF:Stmt:=top 30
theorem dg:ay ["hold","state","order","out","burning","waits","failed","heap"] ["hold","state","order","out"] (ap fF):=⟨rfl,rfl,rfl,by decide +kernel,rfl,by decide +kernel,by decide +kernel⟩
abbrev gB:Stmt:=top 31
theorem rZ:ay ["hold","state","burning","room"] ["hold","state","burning","room"] (ap gB):=⟨rfl,rfl,rfl,by decide +kernel,rfl,by decide +kernel,by decide +kernel⟩
abbrev fB:Stmt:=top 32
theorem oN:ay ["state","burning","out","room"] ["state","burning","out","room"] (ap fB):=⟨rfl,rfl,rfl,by decide +kernel,rfl,by decide +kernel,by decide +kernel⟩
abbrev lH:Stmt:=top 36
theorem gr:ay ["one","other","greater","lesser","rest"] ["one","other"] (ap lH):=⟨rfl,rfl,rfl,by decide +kernel,rfl,by decide +kernel,by decide +kernel⟩
abbrev jN:Stmt:=top 37
theorem kN:ay ["top","bottom","common"] ["top","bottom"] (ap jN):=⟨rfl,rfl,rfl,by decide +kernel,rfl,by decide +kernel,by decide +kernel⟩
abbrev vC:Stmt:=top 38
theorem II:ay ["one","other"] ["one","other"] (ap vC):=⟨rfl,rfl,rfl,by decide +kernel,rfl,by decide +kernel,by decide +kernel⟩
abbrev qo:Stmt:=top 39
theorem EZ:ay ["one","other"] ["one","other"] (ap qo):=⟨rfl,rfl,rfl,by decide +kernel,rfl,by decide +kernel,by decide +kernel⟩
abbrev qz:Stmt:=top 40
theorem xL:ay ["one","other"] ["one","other"] (ap qz):=⟨rfl,rfl,rfl,by decide +kernel,rfl,by decide +kernel,by decide +kernel⟩
abbrev d5:Stmt:=top 42
theorem bG:ay ["pairs","top","bottom","one","other","below"] ["pairs"] (ap d5):=⟨rfl,rfl,rfl,by decide +kernel,rfl,by decide +kernel,by decide +kernel⟩
abbrev iW:Stmt:=top 43
theorem nV:ay ["hold","room","airs","weather","fired","pairs"] ["hold","room","airs","weather","fired"] (ap iW):=⟨rfl,rfl,rfl,by decide +kernel,rfl,by decide +kernel,by decide +kernel⟩
abbrev lB:Stmt:=top 44
theorem ix:ay ["hold","room","bands","fired","low","high","lows","highs"] ["hold","room","bands","fired"] (ap lB):=⟨rfl,rfl,rfl,by decide +kernel,rfl,by decide +kernel,by decide +kernel⟩
abbrev kX:Stmt:=top 45
theorem ss:ay ["hold","room","least","greatest","marks"] ["hold","room","least","greatest"] (ap kX):=⟨rfl,rfl,rfl,by decide +kernel,rfl,by decide +kernel,by decide +kernel⟩
abbrev nc:Stmt:=top 46
theorem tV:ay ["hold","room","least","greatest","marks"] ["hold","room","least","greatest"] (ap nc):=⟨rfl,rfl,rfl,by decide +kernel,rfl,by decide +kernel,by decide +kernel⟩
abbrev gG:Stmt:=top 48
theorem dE:ay ["rows","choices","row","longer","choice"] ["rows"] (ap gG):=⟨rfl,rfl,rfl,by decide +kernel,rfl,by decide +kernel,by decide +kernel⟩
abbrev eV:Stmt:=inClass (top 49) 0
theorem nl:ay ["self","hold"] ["self","hold"] (ap eV):=⟨rfl,rfl,rfl,by decide +kernel,rfl,by decide +kernel,by decide +kernel⟩
abbrev cN:Stmt:=inClass (top 49) 1
theorem bM:ay ["self","state","order","states","out","burning","rows","stoves"] ["self","state","order"] (ap cN):=⟨rfl,rfl,rfl,by decide +kernel,rfl,by decide +kernel,by decide +kernel⟩
abbrev fR:Stmt:=inClass (top 49) 2
theorem dO:ay ["self","room","bands","fired","key","least","greatest","safe"] ["self","room","bands","fired"] (ap fR):=⟨rfl,rfl,rfl,by decide +kernel,rfl,by decide +kernel,by decide +kernel⟩
abbrev fG:Stmt:=top 51
theorem pI:ay ["hold","states","limit","game"] ["hold","states","limit"] (ap fG):=⟨rfl,rfl,rfl,by decide +kernel,rfl,by decide +kernel,by decide +kernel⟩
abbrev fA:Stmt:=inClass (top 52) 0
theorem gv:ay ["self","hold","states","limit","state"] ["self","hold","states","limit"] (ap fA):=⟨rfl,rfl,rfl,by decide +kernel,rfl,by decide +kernel,by decide +kernel⟩
abbrev hV:Stmt:=inClass (top 52) 1
theorem gD:ay ["self","hold","reach","state","orders"] ["self","hold"] (ap hV):=⟨rfl,rfl,rfl,by decide +kernel,rfl,by decide +kernel,by decide +kernel⟩
abbrev fC:Stmt:=inClass (top 52) 2
theorem om:ay ["self","states"] ["self","states"] (ap fC):=⟨rfl,rfl,rfl,by decide +kernel,rfl,by decide +kernel,by decide +kernel⟩
abbrev iH:Stmt:=inClass (top 52) 3
theorem u9:ay ["self","state"] ["self","state"] (ap iH):=⟨rfl,rfl,rfl,by decide +kernel,rfl,by decide +kernel,by decide +kernel⟩
abbrev fE:Stmt:=top 53
theorem ce:ay ["rows","ahead","place","choices","number","row","behind"] ["rows"] (ap fE):=⟨rfl,rfl,rfl,by decide +kernel,rfl,by decide +kernel,by decide +kernel⟩
abbrev eU:Stmt:=inClass (top 54) 0
theorem c6:ay ["self","game","place","choices","number","row"] ["self","game"] (ap eU):=⟨rfl,rfl,rfl,by decide +kernel,rfl,by decide +kernel,by decide +kernel⟩
abbrev fo:Stmt:=inClass (top 54) 1
theorem cG:ay ["self","ahead","done","here","place","number"] ["self","ahead"] (ap fo):=⟨rfl,rfl,rfl,by decide +kernel,rfl,by decide +kernel,by decide +kernel⟩
abbrev iT:Stmt:=inClass (top 54) 2
theorem vj:ay ["self","place","number","lasting"] ["self","place","number","lasting"] (ap iT):=⟨rfl,rfl,rfl,by decide +kernel,rfl,by decide +kernel,by decide +kernel⟩
abbrev fD:Stmt:=top 66
theorem or:ay ["thing","greatest"] ["thing","greatest"] (ap fD):=⟨rfl,rfl,rfl,by decide +kernel,rfl,by decide +kernel,by decide +kernel⟩
abbrev iV:Stmt:=top 67
theorem uO:ay ["marks"] ["marks"] (ap iV):=⟨rfl,rfl,rfl,by decide +kernel,rfl,by decide +kernel,by decide +kernel⟩
abbrev eR:Stmt:=top 68
theorem dU:ay ["rows","product","marks"] ["rows"] (ap eR):=⟨rfl,rfl,rfl,by decide +kernel,rfl,by decide +kernel,by decide +kernel⟩
abbrev cw:Stmt:=inClass (top 69) 0
theorem oZ:ay ["self","most","cap","load"] ["self","most","cap","load"] (ap cw):=⟨rfl,rfl,rfl,by decide +kernel,rfl,by decide +kernel,by decide +kernel⟩
abbrev ft:Stmt:=inClass (top 69) 1
theorem jj:ay ["self","marks","rows"] ["self","marks"] (ap ft):=⟨rfl,rfl,rfl,by decide +kernel,rfl,by decide +kernel,by decide +kernel⟩
abbrev fw:Stmt:=inClass (top 69) 2
theorem oq:ay ["self","into","of","share"] ["self","into","of","share"] (ap fw):=⟨rfl,rfl,rfl,by decide +kernel,rfl,by decide +kernel,by decide +kernel⟩
abbrev fZ:Stmt:=inClass (top 69) 3
theorem qh:ay ["self","room","share","low","high"] ["self","room","share","low","high"] (ap fZ):=⟨rfl,rfl,rfl,by decide +kernel,rfl,by decide +kernel,by decide +kernel⟩
abbrev ca:Stmt:=inClass (top 69) 4
theorem nR:ay ["self","room","heat","wood","stay","fails"] ["self","room","heat","wood","stay","fails"] (ap ca):=⟨rfl,rfl,rfl,by decide +kernel,rfl,by decide +kernel,by decide +kernel⟩
abbrev iS:Stmt:=inClass (top 69) 5
theorem vn:ay ["self"] ["self"] (ap iS):=⟨rfl,rfl,rfl,by decide +kernel,rfl,by decide +kernel,by decide +kernel⟩
abbrev il:Stmt:=inClass (top 69) 6
theorem tH:ay ["self","room"] ["self","room"] (ap il):=⟨rfl,rfl,rfl,by decide +kernel,rfl,by decide +kernel,by decide +kernel⟩
abbrev ii:Stmt:=inClass (top 69) 7
theorem sY:ay ["self","into","of"] ["self","into","of"] (ap ii):=⟨rfl,rfl,rfl,by decide +kernel,rfl,by decide +kernel,by decide +kernel⟩
abbrev jM:Stmt:=inClass (top 69) 8
theorem ww:ay ["self","room"] ["self","room"] (ap jM):=⟨rfl,rfl,rfl,by decide +kernel,rfl,by decide +kernel,by decide +kernel⟩
abbrev hU:Stmt:=inClass (top 69) 9
theorem tN:ay ["self","room"] ["self","room"] (ap hU):=⟨rfl,rfl,rfl,by decide +kernel,rfl,by decide +kernel,by decide +kernel⟩
abbrev eO:Stmt:=inClass (top 69) 10
theorem dZ:ay ["self","room","rest","other"] ["self","room"] (ap eO):=⟨rfl,rfl,rfl,by decide +kernel,rfl,by decide +kernel,by decide +kernel⟩
abbrev fu:Stmt:=inClass (top 69) 11
theorem oI:ay ["self","room"] ["self","room"] (ap fu):=⟨rfl,rfl,rfl,by decide +kernel,rfl,by decide +kernel,by decide +kernel⟩
abbrev cU:Stmt:=inClass (top 69) 12
theorem ge:ay ["self","room","share","former","free"] ["self","room","share","former"] (ap cU):=⟨rfl,rfl,rfl,by decide +kernel,rfl,by decide +kernel,by decide +kernel⟩
abbrev eE:Stmt:=top 70
theorem nY:ay ["hold","most","cap","load","like"] ["hold","most","cap","load"] (ap eE):=⟨rfl,rfl,rfl,by decide +kernel,rfl,by decide +kernel,by decide +kernel⟩
abbrev gC:Stmt:=top 72
theorem qJ:ay ["_law_script","_law_k"] ["_law_script","_law_k"] (ap gC):=⟨rfl,rfl,rfl,by decide +kernel,rfl,by decide +kernel,by decide +kernel⟩
abbrev kW:Stmt:=top 73
theorem qU:ay ["_law_cell","_law_k","_law_turn","_law_prime"] ["_law_cell","_law_k","_law_turn"] (ap kW):=⟨rfl,rfl,rfl,by decide +kernel,rfl,by decide +kernel,by decide +kernel⟩
abbrev jx:Stmt:=top 74
theorem fN:ay ["_law_top","_law_bottom","_law_one","_law_other","_law_rest"] ["_law_top","_law_bottom"] (ap jx):=⟨rfl,rfl,rfl,by decide +kernel,rfl,by decide +kernel,by decide +kernel⟩
abbrev iP:Stmt:=top 75
theorem jq:ay ["_law_cell","_law_far"] ["_law_cell"] (ap iP):=⟨rfl,rfl,rfl,by decide +kernel,rfl,by decide +kernel,by decide +kernel⟩
abbrev jv:Stmt:=top 76
theorem xU:ay ["_law_steps","_law_scale_here"] ["_law_steps","_law_scale_here"] (ap jv):=⟨rfl,rfl,rfl,by decide +kernel,rfl,by decide +kernel,by decide +kernel⟩
abbrev iN:Stmt:=top 77
theorem bB:ay ["_law_cell","_law_many","_law_bands","_law_rooms_here","_law_k","_law_marks","_law_j","_law_below","_law_share","_law_low","_law_high","_law_heat","_law_stove"] ["_law_cell","_law_many","_law_bands"] (ap iN):=⟨rfl,rfl,rfl,by decide +kernel,rfl,by decide +kernel,by decide +kernel⟩
abbrev jL:Stmt:=top 78
theorem eF:ay ["_law_rooms_here","_law_scale_here","_law_bounds","_law_flows","_law_hold_here","_law_one","_law_k","_law_share","_law_stove","_law_j"] ["_law_rooms_here","_law_scale_here","_law_bounds","_law_flows"] (ap jL):=⟨rfl,rfl,rfl,by decide +kernel,rfl,by decide +kernel,by decide +kernel⟩
abbrev iQ:Stmt:=top 79
theorem bS:ay ["_law_rooms_here","_law_bounds","_law_cell","_law_k","_law_bands","_law_waits","_law_failed","_law_burning","_law_lit","_law_j","_law_stove","_law_x"] ["_law_rooms_here","_law_bounds","_law_cell","_law_k"] (ap iQ):=⟨rfl,rfl,rfl,by decide +kernel,rfl,by decide +kernel,by decide +kernel⟩
abbrev gA:Stmt:=top 80
theorem rA:ay ["_law_one","_law_other"] ["_law_one","_law_other"] (ap gA):=⟨rfl,rfl,rfl,by decide +kernel,rfl,by decide +kernel,by decide +kernel⟩
abbrev xM:Stmt:=top 81
theorem gy:ay ["_law_script","_law_first","_law_many","_law_bounds","_law_rooms_here","_law_hold_here","_law_state_here","_law_rank","_law_wider","_law_others","_law_other","_law_more","_law_last"] ["_law_script"] (ap xM):=⟨rfl,rfl,rfl,by decide +kernel,rfl,by decide +kernel,by decide +kernel⟩
structure Ads where
 aQ:Addr
 Reach:Addr
 cz:Addr
 cJ:Addr
 jr:Addr
 tT:Addr
 gW:Addr
 gt:Addr
 mD:Addr
 kC:Addr
structure Txt (K:W.Frag) (mg:Str->Option Value) (A:Ads):Prop where
 FE:mg "Hold" = some (.ref A.aQ)
 Hc:mg "Reach" = some (.ref A.Reach)
 KB:mg "Game" = some (.ref A.cz)
 Jm:mg "Ranks" = some (.ref A.cJ)
 iB:mg "NOUGHT" = some (.ref A.jr)
 AQ:mg "WHOLE" = some (.ref A.tT)
 sT:∃ t,mg "LEAST_MARKS" = some (.int 2 t)
 vT:∃ t,mg "MOST_BANDS" = some (.int 400 t)
 sy:∃ t,mg "MOST_BURNING" = some (.int 4 t)
 zt:∃ t,mg "MOST_CAP" = some (.int 30 t)
 vJ:∃ t,mg "MOST_FAILS" = some (.int 3 t)
 xu:∃ t,mg "MOST_LOAD" = some (.int 30 t)
 vI:∃ t,mg "MOST_MARKS" = some (.int 7 t)
 vq:∃ t,mg "MOST_ROOMS" = some (.int 4 t)
 xQ:∃ t,mg "MOST_STAY" = some (.int 3 t)
 xY:∃ t,mg "MOST_WOOD" = some (.int 9 t)
 kz:yL K A.jr [.int 0,.int 1]
 Bm:yL K A.tT [.int 1,.int 1]
 az:yb K A.aQ
 A2:CN K A.aQ
 ie:cB K A.aQ "most"
 iX:cB K A.aQ "cap"
 jB:cB K A.aQ "load"
 bU:cB K A.aQ "mark_rows"
 dP:cB K A.aQ "flows"
 cE:cB K A.aQ "skies"
 de:cB K A.aQ "stoves"
 pY:fY K A.aQ "__init__" "Hold.__init__" cw (.ref A.gW)
 p7:BN K A.gW [.int 4,.int 0,.int 0]
 pX:fY K A.aQ "put_room" "Hold.put_room" ft .none
 p8:fY K A.aQ "put_flow" "Hold.put_flow" fw .none
 rC:fY K A.aQ "put_sky" "Hold.put_sky" fZ .none
 ou:fY K A.aQ "put_stove" "Hold.put_stove" ca (.ref A.gt)
 oV:BN K A.gt [.int 0,.int 0,.int 0]
 xX:fY K A.aQ "many" "Hold.many" iS .none
 vK:fY K A.aQ "marks" "Hold.marks" il .none
 v8:fY K A.aQ "share" "Hold.share" ii .none
 zj:fY K A.aQ "sky" "Hold.sky" jM .none
 vX:fY K A.aQ "stove" "Hold.stove" hU .none
 oh:fY K A.aQ "own_share" "Hold.own_share" eO .none
 qj:fY K A.aQ "look_for" "Hold.look_for" fu .none
 kF:fY K A.aQ "look_at_share" "Hold.look_at_share" cU .none
 cX:yb K A.Reach
 Ei:CN K A.Reach
 c7:cB K A.Reach "hold"
 dk:cB K A.Reach "spreads"
 pi:fY K A.Reach "__init__" "Reach.__init__" eV .none
 jZ:fY K A.Reach "states_behind" "Reach.states_behind" cN .none
 rY:fY K A.Reach "spread" "Reach.spread" fR .none
 bL:yb K A.cz
 Gs:CN K A.cz
 eB:cB K A.cz "met"
 j4:cB K A.cz "orders"
 cZ:cB K A.cz "rows"
 fW:cB K A.cz "places"
 lW:cB K A.cz "limit"
 pW:fY K A.cz "__init__" "Game.__init__" fA .none
 vz:fY K A.cz "go_on" "Game.go_on" hV .none
 pR:fY K A.cz "meet_all" "Game.meet_all" fC .none
 yl:fY K A.cz "meet" "Game.meet" iH .none
 bT:yb K A.cJ
 DG:CN K A.cJ
 iC:cB K A.cJ "lasts"
 fQ:cB K A.cJ "going"
 eC:cB K A.cJ "ranks"
 f7:cB K A.cJ "queue"
 ph:fY K A.cJ "__init__" "Ranks.__init__" eU .none
 pU:fY K A.cJ "go_back" "Ranks.go_back" fo .none
 yz:fY K A.cJ "end" "Ranks.end" iT .none
 zw:ir K mg "has_room" jG
 wm:ir K mg "with_room" iR
 yZ:ir K mg "how_many" jQ
 Ci:ir K mg "members" kS
 C0:ir K mg "subsets" k7
 Ck:ir K mg "bits_of" ly
 zh:ir K mg "is_state" jE
 xy:ir K mg "fits_room" iI
 uR:ir K mg "fits_stove" hX
 pS:ir K mg "look_at_state" fy
 uS:ir K mg "with_stove" im
 BI:ir K mg "wood_of" lu
 xh:ir K mg "must_stay" iL
 yY:ir K mg "can_burn" jw
 xt:ir K mg "orders_of" iM
 CB:ir K mg "failing" lC
 qi:ir K mg "stoves_behind" fF
 tL:ir K mg "wait_behind" gB
 pV:ir K mg "failed_behind" fB
 BE:ir K mg "divisor" lH
 ze:ir K mg "fraction" jN
 Lb:ir K mg "plus" vC
 Ja:ir K mg "minus" qo
 AC:ir K mg "under" qz
 np:ir K mg "sum_of_products" d5
 yk:ir K mg "warmth_of" iW
 C2:ir K mg "span_of" lB
 Bz:ir K mg "touched" kX
 DL:ir K mg "within" nc
 tG:ir K mg "each_choice" gG
 zX:HZ K mg "ranks_of" fG (.ref A.mD)
 zq:BN K A.mD [.int 2000]
 pZ:ir K mg "choices_ahead" fE
 qe:ir K mg "is_whole_upto" fD
 xD:ir K mg "is_rising" iV
 oP:ir K mg "bands_together" eR
 xB:HZ K mg "hold_like" eE (.ref A.kC)
 j5:BN K A.kC [.cf,.cf,.cf]
 tD:ir K mg "_law_cell_at" gC
 BM:ir K mg "_law_mix" kW
 zW:ir K mg "_law_part" jx
 wx:ir K mg "_law_scale" iP
 zU:ir K mg "_law_warm" jv
 xK:ir K mg "_law_rooms" iN
 yO:ir K mg "_law_hold" jL
 yq:ir K mg "_law_state" iQ
 tE:ir K mg "_law_no_less" gA
 MZ:ir K mg "law" xM
 Es:mg "abs" = none
 J6:mg "all" = none
 K3:mg "bool" = none
 Fo:mg "dict" = none
 cR:mg "enumerate" = none
 wT:mg "int" = none
 mY:mg "isinstance" = none
 fm:mg "len" = none
 vV:mg "list" = none
 E1:mg "max" = none
 Fn:mg "min" = none
 eW:mg "range" = none
 SD:mg "sum" = none
 lE:mg "tuple" = none
 J5:mg "zip" = none
abbrev kq_ (K:W.Frag) (a:Addr):Prop:=W.keepIn K (.ref a)=true
abbrev kc_ (K:W.Frag) (a:Value) (x:Str):Prop:=W.codeIn K a x=true
abbrev kf_ (K:W.Frag) (a:Addr) (b:Value) (c:Option Addr) (x y:Str) (s:Stmt) (d e f:Value) (g:Option Addr) (h i:Value) (n:Array (Option Value)):Prop:=K.lookup a=some ⟨b,c,.func (W.fnOf x y (ci s) (bC s) (ap s) .none d e f g h i),n⟩
abbrev kn_ (K:W.Frag) (x:Str) (a:Addr):Prop:=W.nsIn K mainGlobals x=some (some (.ref a))
abbrev kg_ (K:W.Frag) (a:Addr) (x:Str) (b:Addr):Prop:=W.findIn K (.ref a) x=some (some (.ref b))
theorem txt_mk {K:W.Frag} {h:Heap} {mg:Str->Option Value} (X:K.In h) (G:h.Ns mainGlobals mg)
 {z0 z1 z2 z3 z4 z5 NW z36 PD MV OD Sx z84 N2 DC EX Ev DS Fi DA ER DM D6 Ew FA EO Eh En Fj FN Fq G7 HI Io Jh IR Hi Ic Hs Hj Go IP G3 IF Gn Jg Ib GW Iu Hl Ik Iq Im Hb Gp Je HY Jd IQ HH Iz Jb KY IV GM HV Ha HJ Kk Ii Hk GQ GL Jl He G1 GR Gy IA:Addr}
 {z6 z7 z8 z9 z10 z11 z12 z13 z14 z15 z19 z20 z24 z25 z37 z38 z39 z85 z86 z87 Xq:Tok}
 {TQ z21 z27 z28 z41 z45 z46 z55 z56 z65 z66 z75 z76 z89 z93 z94 afJ XB adw adX acy ai8 Zh ai0 Y8 ad3 ae4 VA Yv aj2 aj6 aka adA af4 aaM YW ajD Yz X0 ahv Wb agG Zr ae6 aig aaG aaf agN acp acP Wx abJ ab5 X8 af3 Za ajZ agh Zs Xm aan aeC aeb aee V9 agI Yd ade aj4 Ya afL ZZ Xh Zo XX aib ah7 ajH abg aaT aag ags aei Xc afH Wh Xd ajq acO Ve aff agV afP V6 aas acI WA afA afb ag5 afn Z8 abl Y3 aie afS aaR ahc ahs aed Yh abO aeX aj0 ag8 agb act ai7 ZX Yx ajl afI YC aiu afl acU Ze acR abT aao VJ adh XU aec afy adU adK aau Wm aeN aiK Y4 Zg Wn:Option Addr}
 {z17 z22 z42 z90 aj5 WW:Nat}
 {z18 z23 z29 z43 z47 z57 z67 z77 z91 z95 aaO ajw aaq aey ad1 Yi WF aeO ahY air aiQ ada ahy ahx U9 ZC YA agA afa Yo abC Zt Wo ZQ ac5 agm ag4 aai ab7 aaZ abR ahD ahW Wv aiD WY afC ajv aiU akm agj akz adp agw afo aef YR ah0 aiO XS YX ahE Zc afp ajY acW ag0 aiv ZH XM Zd Y0 VB Yr YD:Array (Option Value)}
 {z30 z31 z32 z33 z34 z35 z40 z48 z49 z50 z51 z52 z53 z58 z59 z60 z61 z62 z63 z68 z69 z70 z71 z72 z73 z78 z79 z80 z81 z82 z83 z88 z96 z97 z98 z99 Sn aks aih ab9 V2 afW Ni WK aco Xf Y6 Wg Pe aiw Vt YJ ZS adE NP ajW aaz Wi af7 aes Pw Zj Vs ZB ahu aiH Qk agQ WT afM abf aji NR ac4 aaL W7 adl abK OS akx adx aki aaD akA Nk ajm Wl akc ain aeT OO afx abF acg YV X9 Pd af6 adV ako ajP agl OA VZ adN Wt akj acJ PX ZN adu X1 YL ae9 SQ VF abi afs Vj akg Rj agz aad abE V0 aiX Nw XF adj ajy aeV afz Os aa5 akC Wc aii aaj QV ajI acu aa3 aaQ aa0 OZ aer ahV abq aju ZY QM aba afg ae0 akJ afv Pg abo ajA Yl aa2 akr Ol ab0 Zl ahQ WS Y1 Rv abv ad4 abp aaC akn Te acn Yk ajn VQ ago Sg ajJ ag9 ag2 aav ad9 NA XJ ahN X6 adr Zm Rs aak ahO VD abu adO Nj VO Yy aic ae5 agO Rr aa8 ad2 ai9 ajG U7 Rf X7 ahr ab6 aeM ahd Tv aj1 afD YE X4 ab3 Pz ad6 akv akE V7 Xs NZ WV ahm ajK akF agH Po aeq aiM ahJ aet aeZ Nh aev VX Wu ac3 ZT M3 acV afi ahj akd acX QN ad5 adW Vx YI afc Nv agt acL acQ ah2 X5 SA ac0 abx aeo ac1 ack Qi acv Vm VG VP Wa M4 akq afO Zx adZ aaA Q1 aje Xk afu akD aik Pb acE Zz ahC ZI abb NK ahU ajN ahL adB agU SM afd Z9 ajL adn Wq Tl Xu ab1 ab4 Xg abS Tt afF aem agW aeg acH Sm Xt akh ad0 ag3 WR OP Vy aam agR VW aeI Y2 R6 XE aiC aen agE W2 Ow agS VU ajf V1 aeJ OC Yj W5 aac adI ac2 Np aij afq Zn ajx VI RN adq WN agn Xz aeE abj Sj XQ XT ae8 ZE abk Qt acB acj Xr aiJ adg SR ac6 aek ahf ZJ ahh Rh agk Xb Zq afX WC Ox agM ZA XH XV ajs P4 af1 aax VY abd XG TH adT acz Vf Wd ahn SK afm aky Xl Zy WM Oq Zi Y5 aea aiY acF Qo adP:Value}
 (VT:kn_ K "Hold" z0)
 (aeB:kn_ K "Reach" z1)
 (Yg:kn_ K "Game" z2)
 (aiy:kn_ K "Ranks" z3)
 (YB:kn_ K "NOUGHT" z4)
 (adC:kn_ K "WHOLE" z5)
 (ajE:W.nsIn K mainGlobals "LEAST_MARKS" = some (some (.int 2 z6)))
 (YS:W.nsIn K mainGlobals "MOST_BANDS" = some (some (.int 400 z7)))
 (V5:W.nsIn K mainGlobals "MOST_BURNING" = some (some (.int 4 z8)))
 (Wy:W.nsIn K mainGlobals "MOST_CAP" = some (some (.int 30 z9)))
 (ahF:W.nsIn K mainGlobals "MOST_FAILS" = some (some (.int 3 z10)))
 (aaW:W.nsIn K mainGlobals "MOST_LOAD" = some (some (.int 30 z11)))
 (aa9:W.nsIn K mainGlobals "MOST_MARKS" = some (some (.int 7 z12)))
 (ajU:W.nsIn K mainGlobals "MOST_ROOMS" = some (some (.int 4 z13)))
 (ah1:W.nsIn K mainGlobals "MOST_STAY" = some (some (.int 3 z14)))
 (acq:W.nsIn K mainGlobals "MOST_WOOD" = some (some (.int 9 z15)))
 (YM:K.lookup z4=some ⟨.type "tuple",TQ,.seq #[.int 0 z19,.int 1 z20] z17,z18⟩)
 (adY:K.lookup z5=some ⟨.type "tuple",z21,.seq #[.int 1 z24,.int 1 z25] z22,z23⟩)
 (aah:W.plainGet K z0 Str.empty=true)
 (ajB:W.hasDictIn K z0=true)
 (ae2:W.plainOver K z0=true)
 (afG:W.findIn K (.ref z0) "__setattr__" = some (some (.builtin "object.__setattr__")))
 (ajo:W.makesIn K z0=true)
 (aiF:kq_ K z0)
 (Xa:W.findIn K (.ref z0) "most" = some none)
 (YG:W.findIn K (.ref z0) "cap" = some none)
 (ag1:W.findIn K (.ref z0) "load" = some none)
 (aa6:W.findIn K (.ref z0) "mark_rows" = some none)
 (acr:W.findIn K (.ref z0) "flows" = some none)
 (YH:W.findIn K (.ref z0) "skies" = some none)
 (akB:W.findIn K (.ref z0) "stoves" = some none)
 (aiS:kg_ K z0 "__init__" NW)
 (af5:W.isFn K (.ref NW)=true)
 (akk:K.lookup NW=some ⟨z30,z27,.func (W.fnOf "__init__" "Hold.__init__" (ci cw) (bC cw) (ap cw) (.ref z36) z31 z32 z33 z28 z34 z35),z29⟩)
 (Wj:kc_ K z34 "Hold.__init__")
 (Oi:kq_ K NW)
 (acw:K.lookup z36=some ⟨z40,z41,.seq #[.int 4 z37,.int 0 z38,.int 0 z39] z42,z43⟩)
 (ahp:kg_ K z0 "put_room" PD)
 (ad7:W.isFn K (.ref PD)=true)
 (aio:kf_ K PD z48 z45 "put_room" "Hold.put_room" ft z49 z50 z51 z46 z52 z53 z47)
 (abH:kc_ K z52 "Hold.put_room")
 (RM:kq_ K PD)
 (aaJ:kg_ K z0 "put_flow" MV)
 (afk:W.isFn K (.ref MV)=true)
 (ZF:kf_ K MV z58 z55 "put_flow" "Hold.put_flow" fw z59 z60 z61 z56 z62 z63 z57)
 (aeP:kc_ K z62 "Hold.put_flow")
 (PY:kq_ K MV)
 (ai5:kg_ K z0 "put_sky" OD)
 (acm:W.isFn K (.ref OD)=true)
 (ae1:kf_ K OD z68 z65 "put_sky" "Hold.put_sky" fZ z69 z70 z71 z66 z72 z73 z67)
 (agf:kc_ K z72 "Hold.put_sky")
 (OG:kq_ K OD)
 (aeW:kg_ K z0 "put_stove" Sx)
 (Zb:W.isFn K (.ref Sx)=true)
 (agY:K.lookup Sx=some ⟨z78,z75,.func (W.fnOf "put_stove" "Hold.put_stove" (ci ca) (bC ca) (ap ca) (.ref z84) z79 z80 z81 z76 z82 z83),z77⟩)
 (aku:kc_ K z82 "Hold.put_stove")
 (QI:kq_ K Sx)
 (acT:K.lookup z84=some ⟨z88,z89,.seq #[.int 0 z85,.int 0 z86,.int 0 z87] z90,z91⟩)
 (aaX:kg_ K z0 "many" N2)
 (WH:W.isFn K (.ref N2)=true)
 (WE:kf_ K N2 z96 z93 "many" "Hold.many" iS z97 z98 z99 z94 Sn aks z95)
 (Vk:kc_ K Sn "Hold.many")
 (PP:kq_ K N2)
 (Vg:kg_ K z0 "marks" DC)
 (ait:W.isFn K (.ref DC)=true)
 (aa7:kf_ K DC aih afJ "marks" "Hold.marks" il ab9 V2 afW XB Ni WK aaO)
 (aby:kc_ K Ni "Hold.marks")
 (NV:kq_ K DC)
 (Ws:kg_ K z0 "share" EX)
 (aca:W.isFn K (.ref EX)=true)
 (aaY:kf_ K EX aco adw "share" "Hold.share" ii Xf Y6 Wg adX Pe aiw ajw)
 (Vo:kc_ K Pe "Hold.share")
 (SG:kq_ K EX)
 (Xn:kg_ K z0 "sky" Ev)
 (ahK:W.isFn K (.ref Ev)=true)
 (agL:kf_ K Ev Vt acy "sky" "Hold.sky" jM YJ ZS adE ai8 NP ajW aaq)
 (ake:kc_ K NP "Hold.sky")
 (Pc:kq_ K Ev)
 (afZ:kg_ K z0 "stove" DS)
 (ajM:W.isFn K (.ref DS)=true)
 (abt:kf_ K DS aaz Zh "stove" "Hold.stove" hU Wi af7 aes ai0 Pw Zj aey)
 (Ys:kc_ K Pw "Hold.stove")
 (QJ:kq_ K DS)
 (acZ:kg_ K z0 "own_share" Fi)
 (aiR:W.isFn K (.ref Fi)=true)
 (aaB:kf_ K Fi Vs Y8 "own_share" "Hold.own_share" eO ZB ahu aiH ad3 Qk agQ ad1)
 (WU:kc_ K Qk "Hold.own_share")
 (Nb:kq_ K Fi)
 (abm:kg_ K z0 "look_for" DA)
 (acA:W.isFn K (.ref DA)=true)
 (W8:kf_ K DA WT ae4 "look_for" "Hold.look_for" fu afM abf aji VA NR ac4 Yi)
 (afE:kc_ K NR "Hold.look_for")
 (RR:kq_ K DA)
 (ah3:kg_ K z0 "look_at_share" ER)
 (WX:W.isFn K (.ref ER)=true)
 (afU:kf_ K ER aaL Yv "look_at_share" "Hold.look_at_share" cU W7 adl abK aj2 OS akx WF)
 (agP:kc_ K OS "Hold.look_at_share")
 (Re:kq_ K ER)
 (aeG:W.plainGet K z1 Str.empty=true)
 (aiI:W.hasDictIn K z1=true)
 (ZR:W.plainOver K z1=true)
 (Va:W.findIn K (.ref z1) "__setattr__" = some (some (.builtin "object.__setattr__")))
 (acd:W.makesIn K z1=true)
 (abh:kq_ K z1)
 (agr:W.findIn K (.ref z1) "hold" = some none)
 (ajF:W.findIn K (.ref z1) "spreads" = some none)
 (ah8:kg_ K z1 "__init__" DM)
 (agc:W.isFn K (.ref DM)=true)
 (adb:kf_ K DM adx aj6 "__init__" "Reach.__init__" eV aki aaD akA aka Nk ajm aeO)
 (Xo:kc_ K Nk "Reach.__init__")
 (Qn:kq_ K DM)
 (ae7:kg_ K z1 "states_behind" D6)
 (afV:W.isFn K (.ref D6)=true)
 (aeQ:kf_ K D6 Wl adA "states_behind" "Reach.states_behind" cN akc ain aeT af4 OO afx ahY)
 (aaF:kc_ K OO "Reach.states_behind")
 (Tg:kq_ K D6)
 (WD:kg_ K z1 "spread" Ew)
 (Vz:W.isFn K (.ref Ew)=true)
 (adi:kf_ K Ew abF aaM "spread" "Reach.spread" fR acg YV X9 YW Pd af6 air)
 (aiP:kc_ K Pd "Reach.spread")
 (Qm:kq_ K Ew)
 (ahg:W.plainGet K z2 Str.empty=true)
 (aaa:W.hasDictIn K z2=true)
 (V3:W.plainOver K z2=true)
 (ahS:W.findIn K (.ref z2) "__setattr__" = some (some (.builtin "object.__setattr__")))
 (aiL:W.makesIn K z2=true)
 (aft:kq_ K z2)
 (aaw:W.findIn K (.ref z2) "met" = some none)
 (WI:W.findIn K (.ref z2) "orders" = some none)
 (XC:W.findIn K (.ref z2) "rows" = some none)
 (Yu:W.findIn K (.ref z2) "places" = some none)
 (aew:W.findIn K (.ref z2) "limit" = some none)
 (abz:kg_ K z2 "__init__" FA)
 (ado:W.isFn K (.ref FA)=true)
 (XN:kf_ K FA adV ajD "__init__" "Game.__init__" fA ako ajP agl Yz OA VZ aiQ)
 (XD:kc_ K OA "Game.__init__")
 (QY:kq_ K FA)
 (abe:kg_ K z2 "go_on" EO)
 (Ye:W.isFn K (.ref EO)=true)
 (ajh:kf_ K EO adN X0 "go_on" "Game.go_on" hV Wt akj acJ ahv PX ZN ada)
 (acb:kc_ K PX "Game.go_on")
 (Qg:kq_ K EO)
 (Ww:kg_ K z2 "meet_all" Eh)
 (V8:W.isFn K (.ref Eh)=true)
 (Z3:kf_ K Eh adu Wb "meet_all" "Game.meet_all" fC X1 YL ae9 agG SQ VF ahy)
 (agF:kc_ K SQ "Game.meet_all")
 (NQ:kq_ K Eh)
 (aj9:kg_ K z2 "meet" En)
 (abn:W.isFn K (.ref En)=true)
 (W0:kf_ K En abi Zr "meet" "Game.meet" iH afs Vj akg ae6 Rj agz ahx)
 (adv:kc_ K Rj "Game.meet")
 (Si:kq_ K En)
 (acs:W.plainGet K z3 Str.empty=true)
 (Xv:W.hasDictIn K z3=true)
 (aap:W.plainOver K z3=true)
 (aaP:W.findIn K (.ref z3) "__setattr__" = some (some (.builtin "object.__setattr__")))
 (afQ:W.makesIn K z3=true)
 (ahZ:kq_ K z3)
 (Y9:W.findIn K (.ref z3) "lasts" = some none)
 (adm:W.findIn K (.ref z3) "going" = some none)
 (Yp:W.findIn K (.ref z3) "ranks" = some none)
 (Z4:W.findIn K (.ref z3) "queue" = some none)
 (Vb:kg_ K z3 "__init__" Fj)
 (aif:W.isFn K (.ref Fj)=true)
 (ahX:kf_ K Fj aad aig "__init__" "Ranks.__init__" eU abE V0 aiX aaG Nw XF U9)
 (ZU:kc_ K Nw "Ranks.__init__")
 (N6:kq_ K Fj)
 (YT:kg_ K z3 "go_back" FN)
 (adz:W.isFn K (.ref FN)=true)
 (ae3:kf_ K FN adj aaf "go_back" "Ranks.go_back" fo ajy aeV afz agN Os aa5 ZC)
 (aeY:kc_ K Os "Ranks.go_back")
 (Pn:kq_ K FN)
 (ajS:kg_ K z3 "end" Fq)
 (VH:W.isFn K (.ref Fq)=true)
 (ajp:kf_ K Fq akC acp "end" "Ranks.end" iT Wc aii aaj acP QV ajI YA)
 (aiT:kc_ K QV "Ranks.end")
 (N1:kq_ K Fq)
 (aht:kn_ K "has_room" G7)
 (ahT:kf_ K G7 acu Wx "has_room" "has_room" jG aa3 aaQ aa0 abJ OZ aer agA)
 (Z6:kc_ K OZ "has_room")
 (aia:kq_ K G7)
 (abI:kn_ K "with_room" HI)
 (ai2:kf_ K HI ahV ab5 "with_room" "with_room" iR abq aju ZY X8 QM aba afa)
 (VL:kc_ K QM "with_room")
 (acC:kq_ K HI)
 (akK:kn_ K "how_many" Io)
 (XW:kf_ K Io afg af3 "how_many" "how_many" jQ ae0 akJ afv Za Pg abo Yo)
 (Vp:kc_ K Pg "how_many")
 (Vi:kq_ K Io)
 (YN:kn_ K "members" Jh)
 (aiB:kf_ K Jh ajA ajZ "members" "members" kS Yl aa2 akr agh Ol ab0 abC)
 (ai6:kc_ K Ol "members")
 (ZD:kq_ K Jh)
 (agd:kn_ K "subsets" IR)
 (Yw:kf_ K IR Zl Zs "subsets" "subsets" k7 ahQ WS Y1 Xm Rv abv Zt)
 (Xi:kc_ K Rv "subsets")
 (Xp:kq_ K IR)
 (af9:kn_ K "bits_of" Hi)
 (aa4:kf_ K Hi ad4 aan "bits_of" "bits_of" ly abp aaC akn aeC Te acn Wo)
 (ais:kc_ K Te "bits_of")
 (aiz:kq_ K Hi)
 (VN:kn_ K "is_state" Ic)
 (ZP:kf_ K Ic Yk aeb "is_state" "is_state" jE ajn VQ ago aee Sg ajJ ZQ)
 (Xj:kc_ K Sg "is_state")
 (agX:kq_ K Ic)
 (Vu:kn_ K "fits_room" Hs)
 (W9:kf_ K Hs ag9 V9 "fits_room" "fits_room" iI ag2 aav ad9 agI NA XJ ac5)
 (W1:kc_ K NA "fits_room")
 (ajz:kq_ K Hs)
 (acN:kn_ K "fits_stove" Hj)
 (afY:kf_ K Hj ahN Yd "fits_stove" "fits_stove" hX X6 adr Zm ade Rs aak agm)
 (adk:kc_ K Rs "fits_stove")
 (ahH:kq_ K Hj)
 (ajX:kn_ K "look_at_state" Go)
 (acf:kf_ K Go ahO aj4 "look_at_state" "look_at_state" fy VD abu adO Ya Nj VO ag4)
 (YO:kc_ K Nj "look_at_state")
 (aal:kq_ K Go)
 (aeL:kn_ K "with_stove" IP)
 (ahI:kf_ K IP Yy afL "with_stove" "with_stove" im aic ae5 agO ZZ Rr aa8 aai)
 (ZW:kc_ K Rr "with_stove")
 (ajr:kq_ K IP)
 (acl:kn_ K "wood_of" G3)
 (akl:kf_ K G3 ad2 Xh "wood_of" "wood_of" lu ai9 ajG U7 Zo Rf X7 ab7)
 (ace:kc_ K Rf "wood_of")
 (XO:kq_ K G3)
 (aiW:kn_ K "must_stay" IF)
 (aeA:kf_ K IF ahr XX "must_stay" "must_stay" iL ab6 aeM ahd aib Tv aj1 aaZ)
 (afR:kc_ K Tv "must_stay")
 (aay:kq_ K IF)
 (afN:kn_ K "can_burn" Gn)
 (WZ:kf_ K Gn afD ah7 "can_burn" "can_burn" jw YE X4 ab3 ajH Pz ad6 abR)
 (ajg:kc_ K Pz "can_burn")
 (ah9:kq_ K Gn)
 (adf:kn_ K "orders_of" Jg)
 (XZ:kf_ K Jg akv abg "orders_of" "orders_of" iM akE V7 Xs aaT NZ WV ahD)
 (Xx:kc_ K NZ "orders_of")
 (aja:kq_ K Jg)
 (agu:kn_ K "failing" Ib)
 (adJ:kf_ K Ib ahm aag "failing" "failing" lC ajK akF agH ags Po aeq ahW)
 (VR:kc_ K Po "failing")
 (afh:kq_ K Ib)
 (aha:kn_ K "stoves_behind" GW)
 (Xe:kf_ K GW aiM aei "stoves_behind" "stoves_behind" fF ahJ aet aeZ Xc Nh aev Wv)
 (VE:kc_ K Nh "stoves_behind")
 (ag6:kq_ K GW)
 (abV:kn_ K "wait_behind" Iu)
 (agq:kf_ K Iu VX afH "wait_behind" "wait_behind" gB Wu ac3 ZT Wh M3 acV aiD)
 (ajR:kc_ K M3 "wait_behind")
 (ab8:kq_ K Iu)
 (abr:kn_ K "failed_behind" Hl)
 (aiE:kf_ K Hl afi Xd "failed_behind" "failed_behind" fB ahj akd acX ajq QN ad5 WY)
 (ajO:kc_ K QN "failed_behind")
 (agx:kq_ K Hl)
 (aeS:kn_ K "divisor" Ik)
 (agJ:kf_ K Ik adW acO "divisor" "divisor" lH Vx YI afc Ve Nv agt afC)
 (ahl:kc_ K Nv "divisor")
 (ai4:kq_ K Ik)
 (Sq:kn_ K "fraction" Iq)
 (Qx:kf_ K Iq acL aff "fraction" "fraction" jN acQ ah2 X5 agV SA ac0 ajv)
 (Sh:kc_ K SA "fraction")
 (Sv:kq_ K Iq)
 (OM:kn_ K "plus" Im)
 (Ru:kf_ K Im abx afP "plus" "plus" vC aeo ac1 ack V6 Qi acv aiU)
 (P0:kc_ K Qi "plus")
 (Oo:kq_ K Im)
 (Og:kn_ K "minus" Hb)
 (Tc:kf_ K Hb Vm aas "minus" "minus" qo VG VP Wa acI M4 akq akm)
 (SH:kc_ K M4 "minus")
 (MW:kq_ K Hb)
 (Qd:kn_ K "under" Gp)
 (RG:kf_ K Gp afO WA "under" "under" qz Zx adZ aaA afA Q1 aje agj)
 (QU:kc_ K Q1 "under")
 (Ss:kq_ K Gp)
 (OI:kn_ K "sum_of_products" Je)
 (Th:kf_ K Je Xk afb "sum_of_products" "sum_of_products" d5 afu akD aik ag5 Pb acE akz)
 (Ra:kc_ K Pb "sum_of_products")
 (Sk:kq_ K Je)
 (N4:kn_ K "warmth_of" HY)
 (NI:kf_ K HY Zz afn "warmth_of" "warmth_of" iW ahC ZI abb Z8 NK ahU adp)
 (Tw:kc_ K NK "warmth_of")
 (Rk:kq_ K HY)
 (Nr:kn_ K "span_of" Jd)
 (Qe:kf_ K Jd ajN abl "span_of" "span_of" lB ahL adB agU Y3 SM afd agw)
 (Oy:kc_ K SM "span_of")
 (Px:kq_ K Jd)
 (OW:kn_ K "touched" IQ)
 (OB:kf_ K IQ Z9 aie "touched" "touched" kX ajL adn Wq afS Tl Xu afo)
 (Su:kc_ K Tl "touched")
 (RJ:kq_ K IQ)
 (O8:kn_ K "within" HH)
 (Rg:kf_ K HH ab1 aaR "within" "within" nc ab4 Xg abS ahc Tt afF aef)
 (NT:kc_ K Tt "within")
 (QA:kq_ K HH)
 (R5:kn_ K "each_choice" Iz)
 (N5:kf_ K Iz aem ahs "each_choice" "each_choice" gG agW aeg acH aed Sm Xt YR)
 (Nq:kc_ K Sm "each_choice")
 (RC:kq_ K Iz)
 (Ql:kn_ K "ranks_of" Jb)
 (Q7:K.lookup Jb=some ⟨akh,Yh,.func (W.fnOf "ranks_of" "ranks_of" (ci fG) (bC fG) (ap fG) (.ref KY) ad0 ag3 WR abO OP Vy),ah0⟩)
 (QX:kc_ K OP "ranks_of")
 (OL:kq_ K Jb)
 (Rt:K.lookup KY=some ⟨aam,aeX,.seq #[.int 2000 Xq] aj5,aiO⟩)
 (QZ:kn_ K "choices_ahead" IV)
 (Py:kf_ K IV agR aj0 "choices_ahead" "choices_ahead" fE VW aeI Y2 ag8 R6 XE XS)
 (Nf:kc_ K R6 "choices_ahead")
 (Tb:kq_ K IV)
 (SW:kn_ K "is_whole_upto" GM)
 (Tn:kf_ K GM aiC agb "is_whole_upto" "is_whole_upto" fD aen agE W2 act Ow agS YX)
 (P1:kc_ K Ow "is_whole_upto")
 (ND:kq_ K GM)
 (RI:kn_ K "is_rising" HV)
 (Nc:kf_ K HV VU ai7 "is_rising" "is_rising" iV ajf V1 aeJ ZX OC Yj ahE)
 (Sf:kc_ K OC "is_rising")
 (Pj:kq_ K HV)
 (NB:kn_ K "bands_together" Ha)
 (NX:kf_ K Ha W5 Yx "bands_together" "bands_together" eR aac adI ac2 ajl Np aij Zc)
 (SO:kc_ K Np "bands_together")
 (NM:kq_ K Ha)
 (QO:kn_ K "hold_like" HJ)
 (Ts:K.lookup HJ=some ⟨afq,afI,.func (W.fnOf "hold_like" "hold_like" (ci eE) (bC eE) (ap eE) (.ref Kk) Zn ajx VI YC RN adq),afp⟩)
 (Oe:kc_ K RN "hold_like")
 (R0:kq_ K HJ)
 (TD:K.lookup Kk=some ⟨WN,aiu,.seq #[.none,.none,.none] WW,ajY⟩)
 (Se:kn_ K "_law_cell_at" Ii)
 (Sz:kf_ K Ii agn afl "_law_cell_at" "_law_cell_at" gC Xz aeE abj acU Sj XQ acW)
 (Ph:kc_ K Sj "_law_cell_at")
 (Sb:kq_ K Ii)
 (RL:kn_ K "_law_mix" Hk)
 (SU:kf_ K Hk XT Ze "_law_mix" "_law_mix" kW ae8 ZE abk acR Qt acB ag0)
 (Qs:kc_ K Qt "_law_mix")
 (P3:kq_ K Hk)
 (SF:kn_ K "_law_part" GQ)
 (Rw:kf_ K GQ acj abT "_law_part" "_law_part" jx Xr aiJ adg aao SR ac6 aiv)
 (QQ:kc_ K SR "_law_part")
 (SS:kq_ K GQ)
 (QR:kn_ K "_law_scale" GL)
 (Qw:kf_ K GL aek VJ "_law_scale" "_law_scale" iP ahf ZJ ahh adh Rh agk ZH)
 (SC:kc_ K Rh "_law_scale")
 (PN:kq_ K GL)
 (Rn:kn_ K "_law_warm" Jl)
 (P7:kf_ K Jl Xb XU "_law_warm" "_law_warm" jv Zq afX WC aec Ox agM XM)
 (Qa:kc_ K Ox "_law_warm")
 (OQ:kq_ K Jl)
 (Oh:kn_ K "_law_rooms" He)
 (M7:kf_ K He ZA afy "_law_rooms" "_law_rooms" iN XH XV ajs adU P4 af1 Zd)
 (Qb:kc_ K P4 "_law_rooms")
 (RE:kq_ K He)
 (QG:kn_ K "_law_hold" G1)
 (M5:kf_ K G1 aax adK "_law_hold" "_law_hold" jL VY abd XG aau TH adT Y0)
 (NH:kc_ K TH "_law_hold")
 (Nl:kq_ K G1)
 (Ng:kn_ K "_law_state" GR)
 (Om:kf_ K GR acz Wm "_law_state" "_law_state" iQ Vf Wd ahn aeN SK afm VB)
 (O3:kc_ K SK "_law_state")
 (M0:kq_ K GR)
 (Ps:kn_ K "_law_no_less" Gy)
 (R1:kf_ K Gy aky aiK "_law_no_less" "_law_no_less" gA Xl Zy WM Y4 Oq Zi Yr)
 (O5:kc_ K Oq "_law_no_less")
 (RT:kq_ K Gy)
 (PQ:kn_ K "law" IA)
 (NC:kf_ K IA Y5 Zg "law" "law" xM aea aiY acF Wn Qo adP YD)
 (NO:kc_ K Qo "law")
 (SV:kq_ K IA)
 (O6:W.nsIn K mainGlobals "abs" = some none)
 (RY:W.nsIn K mainGlobals "all" = some none)
 (Tu:W.nsIn K mainGlobals "bool" = some none)
 (QB:W.nsIn K mainGlobals "dict" = some none)
 (PF:W.nsIn K mainGlobals "enumerate" = some none)
 (Qu:W.nsIn K mainGlobals "int" = some none)
 (M8:W.nsIn K mainGlobals "isinstance" = some none)
 (Pp:W.nsIn K mainGlobals "len" = some none)
 (QE:W.nsIn K mainGlobals "list" = some none)
 (Rz:W.nsIn K mainGlobals "max" = some none)
 (Ro:W.nsIn K mainGlobals "min" = some none)
 (PC:W.nsIn K mainGlobals "range" = some none)
 (Na:W.nsIn K mainGlobals "sum" = some none)
 (RQ:W.nsIn K mainGlobals "tuple" = some none)
 (NG:W.nsIn K mainGlobals "zip" = some none)
 : Txt K mg ⟨z0,z1,z2,z3,z4,z5,z36,z84,KY,Kk⟩ :=
⟨aeD X G VT,
aeD X G aeB,
aeD X G Yg,
aeD X G aiy,
aeD X G YB,
aeD X G adC,
⟨_,aeD X G ajE⟩,
⟨_,aeD X G YS⟩,
⟨_,aeD X G V5⟩,
⟨_,aeD X G Wy⟩,
⟨_,aeD X G ahF⟩,
⟨_,aeD X G aaW⟩,
⟨_,aeD X G aa9⟩,
⟨_,aeD X G ajU⟩,
⟨_,aeD X G ah1⟩,
⟨_,aeD X G acq⟩,
J0 YM,
J0 adY,
⟨aah,ajB,ae2,afG⟩,
⟨ajo,aiF⟩,
Xa,
YG,
ag1,
aa6,
acr,
YH,
akB,
⟨NW,_,⟨aiS,af5,Oi⟩,bQ (st:=cw) akk Wj Oi⟩,
⟨_,_,_,acw,rfl,(.cons ⟨_,rfl⟩ (.cons ⟨_,rfl⟩ (.cons ⟨_,rfl⟩ .nil)))⟩,
⟨PD,_,⟨ahp,ad7,RM⟩,bQ (st:=ft) aio abH RM⟩,
⟨MV,_,⟨aaJ,afk,PY⟩,bQ (st:=fw) ZF aeP PY⟩,
⟨OD,_,⟨ai5,acm,OG⟩,bQ (st:=fZ) ae1 agf OG⟩,
⟨Sx,_,⟨aeW,Zb,QI⟩,bQ (st:=ca) agY aku QI⟩,
⟨_,_,_,acT,rfl,(.cons ⟨_,rfl⟩ (.cons ⟨_,rfl⟩ (.cons ⟨_,rfl⟩ .nil)))⟩,
⟨N2,_,⟨aaX,WH,PP⟩,bQ (st:=iS) WE Vk PP⟩,
⟨DC,_,⟨Vg,ait,NV⟩,bQ (st:=il) aa7 aby NV⟩,
⟨EX,_,⟨Ws,aca,SG⟩,bQ (st:=ii) aaY Vo SG⟩,
⟨Ev,_,⟨Xn,ahK,Pc⟩,bQ (st:=jM) agL ake Pc⟩,
⟨DS,_,⟨afZ,ajM,QJ⟩,bQ (st:=hU) abt Ys QJ⟩,
⟨Fi,_,⟨acZ,aiR,Nb⟩,bQ (st:=eO) aaB WU Nb⟩,
⟨DA,_,⟨abm,acA,RR⟩,bQ (st:=fu) W8 afE RR⟩,
⟨ER,_,⟨ah3,WX,Re⟩,bQ (st:=cU) afU agP Re⟩,
⟨aeG,aiI,ZR,Va⟩,
⟨acd,abh⟩,
agr,
ajF,
⟨DM,_,⟨ah8,agc,Qn⟩,bQ (st:=eV) adb Xo Qn⟩,
⟨D6,_,⟨ae7,afV,Tg⟩,bQ (st:=cN) aeQ aaF Tg⟩,
⟨Ew,_,⟨WD,Vz,Qm⟩,bQ (st:=fR) adi aiP Qm⟩,
⟨ahg,aaa,V3,ahS⟩,
⟨aiL,aft⟩,
aaw,
WI,
XC,
Yu,
aew,
⟨FA,_,⟨abz,ado,QY⟩,bQ (st:=fA) XN XD QY⟩,
⟨EO,_,⟨abe,Ye,Qg⟩,bQ (st:=hV) ajh acb Qg⟩,
⟨Eh,_,⟨Ww,V8,NQ⟩,bQ (st:=fC) Z3 agF NQ⟩,
⟨En,_,⟨aj9,abn,Si⟩,bQ (st:=iH) W0 adv Si⟩,
⟨acs,Xv,aap,aaP⟩,
⟨afQ,ahZ⟩,
Y9,
adm,
Yp,
Z4,
⟨Fj,_,⟨Vb,aif,N6⟩,bQ (st:=eU) ahX ZU N6⟩,
⟨FN,_,⟨YT,adz,Pn⟩,bQ (st:=fo) ae3 aeY Pn⟩,
⟨Fq,_,⟨ajS,VH,N1⟩,bQ (st:=iT) ajp aiT N1⟩,
⟨G7,_,aeD X G aht,aZ (st:=jG) ahT Z6 aia⟩,
⟨HI,_,aeD X G abI,aZ (st:=iR) ai2 VL acC⟩,
⟨Io,_,aeD X G akK,aZ (st:=jQ) XW Vp Vi⟩,
⟨Jh,_,aeD X G YN,aZ (st:=kS) aiB ai6 ZD⟩,
⟨IR,_,aeD X G agd,aZ (st:=k7) Yw Xi Xp⟩,
⟨Hi,_,aeD X G af9,aZ (st:=ly) aa4 ais aiz⟩,
⟨Ic,_,aeD X G VN,aZ (st:=jE) ZP Xj agX⟩,
⟨Hs,_,aeD X G Vu,aZ (st:=iI) W9 W1 ajz⟩,
⟨Hj,_,aeD X G acN,aZ (st:=hX) afY adk ahH⟩,
⟨Go,_,aeD X G ajX,aZ (st:=fy) acf YO aal⟩,
⟨IP,_,aeD X G aeL,aZ (st:=im) ahI ZW ajr⟩,
⟨G3,_,aeD X G acl,aZ (st:=lu) akl ace XO⟩,
⟨IF,_,aeD X G aiW,aZ (st:=iL) aeA afR aay⟩,
⟨Gn,_,aeD X G afN,aZ (st:=jw) WZ ajg ah9⟩,
⟨Jg,_,aeD X G adf,aZ (st:=iM) XZ Xx aja⟩,
⟨Ib,_,aeD X G agu,aZ (st:=lC) adJ VR afh⟩,
⟨GW,_,aeD X G aha,aZ (st:=fF) Xe VE ag6⟩,
⟨Iu,_,aeD X G abV,aZ (st:=gB) agq ajR ab8⟩,
⟨Hl,_,aeD X G abr,aZ (st:=fB) aiE ajO agx⟩,
⟨Ik,_,aeD X G aeS,aZ (st:=lH) agJ ahl ai4⟩,
⟨Iq,_,aeD X G Sq,aZ (st:=jN) Qx Sh Sv⟩,
⟨Im,_,aeD X G OM,aZ (st:=vC) Ru P0 Oo⟩,
⟨Hb,_,aeD X G Og,aZ (st:=qo) Tc SH MW⟩,
⟨Gp,_,aeD X G Qd,aZ (st:=qz) RG QU Ss⟩,
⟨Je,_,aeD X G OI,aZ (st:=d5) Th Ra Sk⟩,
⟨HY,_,aeD X G N4,aZ (st:=iW) NI Tw Rk⟩,
⟨Jd,_,aeD X G Nr,aZ (st:=lB) Qe Oy Px⟩,
⟨IQ,_,aeD X G OW,aZ (st:=kX) OB Su RJ⟩,
⟨HH,_,aeD X G O8,aZ (st:=nc) Rg NT QA⟩,
⟨Iz,_,aeD X G R5,aZ (st:=gG) N5 Nq RC⟩,
⟨Jb,_,aeD X G Ql,bQ (st:=fG) Q7 QX OL⟩,
⟨_,_,_,Rt,rfl,(.cons ⟨_,rfl⟩ .nil)⟩,
⟨IV,_,aeD X G QZ,aZ (st:=fE) Py Nf Tb⟩,
⟨GM,_,aeD X G SW,aZ (st:=fD) Tn P1 ND⟩,
⟨HV,_,aeD X G RI,aZ (st:=iV) Nc Sf Pj⟩,
⟨Ha,_,aeD X G NB,aZ (st:=eR) NX SO NM⟩,
⟨HJ,_,aeD X G QO,bQ (st:=eE) Ts Oe R0⟩,
⟨_,_,_,TD,rfl,(.cons rfl (.cons rfl (.cons rfl .nil)))⟩,
⟨Ii,_,aeD X G Se,aZ (st:=gC) Sz Ph Sb⟩,
⟨Hk,_,aeD X G RL,aZ (st:=kW) SU Qs P3⟩,
⟨GQ,_,aeD X G SF,aZ (st:=jx) Rw QQ SS⟩,
⟨GL,_,aeD X G QR,aZ (st:=iP) Qw SC PN⟩,
⟨Jl,_,aeD X G Rn,aZ (st:=jv) P7 Qa OQ⟩,
⟨He,_,aeD X G Oh,aZ (st:=iN) M7 Qb RE⟩,
⟨G1,_,aeD X G QG,aZ (st:=jL) M5 NH Nl⟩,
⟨GR,_,aeD X G Ng,aZ (st:=iQ) Om O3 M0⟩,
⟨Gy,_,aeD X G Ps,aZ (st:=gA) R1 O5 RT⟩,
⟨IA,_,aeD X G PQ,aZ (st:=xM) NC NO SV⟩,
ahk X G O6,
ahk X G RY,
ahk X G Tu,
ahk X G QB,
ahk X G PF,
ahk X G Qu,
ahk X G M8,
ahk X G Pp,
ahk X G QE,
ahk X G Rz,
ahk X G Ro,
ahk X G PC,
ahk X G Na,
ahk X G RQ,
ahk X G NG⟩
section
variable {P:Program} {w:World} {K:W.Frag} {mg:Str->Option Value} {base:Heap} {Ad:Ads}
def gu {lo:Int} {n:Nat} {g:TG} {tb:TS} {D:Ends} {U:L2.St} {H:Hp} (Pv:Nat->L2.St->Hp->Prop) (h0:Pv 0 U H) (hs:let G:Nat->L2.St->Hp->Prop:=λ i U H=>g (.int (lo+i)) U H λ σ2 H2=>tb { D with nx:=Pv (i+1),ct:=Pv (i+1),bk:=D.nx } σ2 H2
   ∀ (i:Nat) (U:L2.St) (H:Hp),i<n->Pv i U H->G i U H) (hd:∀ U H,Pv n U H->D.nx U H):=BH (lo:=lo) (n:=n) (g:=g) (tb:=tb) (D:=D) (U:=U) (H:=H) Pv h0 hs hd
def fL {K:W.Frag} {a:Addr} {xs:List V} {g:TG} {tb:TS} {D:Ends} {U:L2.St} {H:Hp} (Pv:Nat->L2.St->Hp->Prop) (h0:Pv 0 U H) (hl:∀ i U H,i<=xs.length->Pv i U H->aR K H a xs) (hs:let G:Nat->V->L2.St->Hp->Prop:=λ i x U H=>g x U H λ σ2 H2=>tb { D with nx:=Pv (i+1),ct:=Pv (i+1),bk:=D.nx } σ2 H2
   ∀ (i:Nat) (x:V) (U:L2.St) (H:Hp),xs[i]?=some x->Pv i U H->G i x U H) (hd:∀ U H,Pv xs.length U H->D.nx U H):=je (K:=K) (a:=a) (xs:=xs) (g:=g) (tb:=tb) (D:=D) (U:=U) (H:=H) Pv h0 hl hs hd
theorem zR (T:Txt K mg Ad):Def P w K mg base "divisor" 1 ["one","other"] LI:=by
 refine T.BE.cS gr λ f bA A outer s H vs Q E hr h=>?_
 obtain ⟨a,b,rfl,k⟩:=h
 refine ⟨_,(ag (aD (i:=2) gr.nd rfl (lc rfl) (aS oR (by rfl) T.Es yK (aa (pv 0) ac)))
     (ag (aD (i:=3) gr.nd rfl (lc rfl) (aS oR (by rfl) T.Es yK (aa (pv 1) ac)))
     (ag (nA adG (aO sD (pv 3) ai (aM _)) (ag (aD (i:=4) gr.nd rfl (lc rfl) (av aX (pv 2) (pv 3)))
     (ag (aD (i:=2) gr.nd rfl (lc rfl) (pv 3))
     (am (aD (i:=3) gr.nd rfl (lc rfl) (pv 4))))))
     (am (aF (pv 2)))))),?_⟩
 try dsimp only [eL,aU]
 first|(refine eI ?_;intro _ _ _ _ _)|skip
 refine ⟨_,rfl,_,rfl,λ g0 eg=>⟨_,rfl,_,rfl,λ l0 el=>?_⟩⟩
 refine ⟨λ m U H'=>H'=H/\E3 λ (g l:Int) (r:Option V)=>A5 (U=[some (.int a),some (.int b),some (.int g),some (.int l),r]) (0<=g) (0<=l) (m=l.toNat) (Int.gcd g l=Int.gcd a b),
   ⟨_,rfl,g0,l0,none,rfl,by lia,by lia,rfl,by rw [eg,el];rfl⟩,?_⟩
 rintro m U H' ⟨rfl,g,l,r,rfl,hg,hl,rfl,e⟩
 refine ⟨_,rfl,rfl,_,rfl,?_⟩
 refine BA (λ h=>?_) (λ h=>?_)
 .
  have l1:0<l:=by rw [ju] at h;lia
  refine ⟨λ σ' C9=>C9=H'/\σ'=[some (.int a),some (.int b),some (.int l),some (.int (g % l)),some (.int (g % l))],λ σ' C9 ⟨e1,e2⟩=>?_,?_⟩
  . have m0:=ams g (by lia:l≠0)
    have m1:=al7 g l1
    exact ⟨(g % l).toNat,by lia,e1,l,g % l,_,e2,hl,m0,rfl,(J7 hg l1).trans e⟩
  . refine ⟨_,rfl,_,rfl,_,_,rfl,rfl,l1,λ r _ _ er=>?_⟩
    subst er
    exact ⟨_,rfl,_,rfl,rfl,rfl⟩
 .
  have l1:l=0:=ju.mp h
  subst l1
  refine ⟨_,rfl,k g ?_⟩
  rw [← e,NY hg]
theorem kG (T:Txt K mg Ad):Def P w K mg base "fraction" 2 ["top","bottom"] wH:=by
 refine T.ze.cS kN λ f bA A outer s H vs Q E hr h=>?_
 obtain ⟨t,b,rfl,hb,bb,k⟩:=h
 refine ⟨_,(ag (bv (aO fc (pv 1) ai (aM _)) (am bY) aJ)
     (ag (aD (i:=2) kN.nd rfl (lc rfl) (ar (zR (K:=K) T) hr.m (aa (pv 0) (aa (pv 1) ac))))
     (ag (jC (bv (aO ky (pv 1) ai (aM _)) (am (aD (i:=2) kN.nd rfl (lc rfl) (qQ vP (pv 2)))) aJ))
     (am (aF (cm (aa (av bN (pv 0) (pv 2)) (aa (av bN (pv 1) (pv 2)) ac)))))))),?_⟩
 try dsimp only [eL,aU]
 first|(refine eI ?_;intro _ _ _ _ _)|skip
 refine ⟨_,rfl,rfl,_,rfl,?_⟩
 refine n6 (λ e=>hb (ju.mp e)) ?_
 refine ⟨_,rfl,_,rfl,t,b,rfl,λ c ec=>?_⟩
 obtain ⟨c0,cl,fp,fn⟩:=Ds hb ec
 have bc:Bd 8999 c:=(bb.le (by lia)).mono (by decide)
 refine ⟨λ σ' H'=>H'=H/\∃ c',A4 (c'≠0) (Bd 8999 c') (Fr t b (t.fdiv c') (b.fdiv c')) (σ'=[some (.int t),some (.int b),some (.int c')]),?_,?_⟩
 .
  refine ⟨_,rfl,_,_,rfl,rfl,_,rfl,?_⟩
  refine ji (λ h=>?_) (λ h=>?_)
  . exact ⟨_,rfl,_,rfl,rfl,-c,by lia,bc.neg,fn h,rfl⟩
  . exact ⟨rfl,c,by lia,bc,fp (by lia),rfl⟩
 .
  rintro σ' H' ⟨rfl,c',h1,h2,h3,rfl⟩
  refine ⟨_,rfl,_,rfl,_,_,rfl,rfl,⟨h1,h2⟩,λ q eq=>⟨_,rfl,_,rfl,_,_,rfl,rfl,⟨h1,h2⟩,λ r er=>⟨EW,λ p hp=>?_⟩⟩⟩
  subst eq er
  exact k _ _ p _ h3 (ak hp) af
theorem G2 (T:Txt K mg Ad):Def P w K mg base "plus" 3 ["one","other"] (yw (λ a b c d=>a * d+c * b) K):=by
 refine T.Lb.cS II λ f bA A outer s H vs Q E hr h=>?_
 obtain ⟨p1,p2,a,b,c,d,rfl,h1,h2,b0,d0,ba,bb,bc,bd,k⟩:=h
 refine ⟨_,(am (aF (ar (kG (K:=K) T) hr.m (aa (av aY (av bw (aB aw (pv 0) ai (λ _ _=>rfl)) (aB aw (pv 1) ai (λ _ _=>rfl))) (av bw (aB aw (pv 1) ai (λ _ _=>rfl)) (aB aw (pv 0) ai (λ _ _=>rfl)))) (aa (av bw (aB aw (pv 0) ai (λ _ _=>rfl)) (aB aw (pv 1) ai (λ _ _=>rfl))) ac))))),?_⟩
 try dsimp only [eL,aU]
 refine ⟨_,rfl,_,_,_,_,rfl,rfl,.inr h1,rfl,_,rfl,_,_,_,_,rfl,rfl,.inr h2,rfl,_,_,rfl,rfl,⟨_,_,ba,bd,by decide⟩,λ x1 e1=>?_⟩
 refine ⟨_,rfl,_,_,_,_,rfl,rfl,.inr h2,rfl,_,rfl,_,_,_,_,rfl,rfl,.inr h1,rfl,_,_,rfl,rfl,⟨_,_,bc,bb,by decide⟩,λ x2 e2=>⟨_,_,rfl,rfl,λ t et=>?_⟩⟩
 refine ⟨_,rfl,_,_,_,_,rfl,rfl,.inr h1,rfl,_,rfl,_,_,_,_,rfl,rfl,.inr h2,rfl,_,_,rfl,rfl,⟨_,_,bb,bd,by decide⟩,λ u eu=>?_⟩
 subst e1 e2 et eu
 exact ⟨_,_,rfl,alU (ajk b0 d0),(bb.mul bd).mono (by decide),k⟩
theorem wS (T:Txt K mg Ad):Def P w K mg base "minus" 3 ["one","other"] (yw (λ a b c d=>a * d - c * b) K):=by
 refine T.Ja.cS EZ λ f bA A outer s H vs Q E hr h=>?_
 obtain ⟨p1,p2,a,b,c,d,rfl,h1,h2,b0,d0,ba,bb,bc,bd,k⟩:=h
 refine ⟨_,(am (aF (ar (kG (K:=K) T) hr.m (aa (av dX (av bw (aB aw (pv 0) ai (λ _ _=>rfl)) (aB aw (pv 1) ai (λ _ _=>rfl))) (av bw (aB aw (pv 1) ai (λ _ _=>rfl)) (aB aw (pv 0) ai (λ _ _=>rfl)))) (aa (av bw (aB aw (pv 0) ai (λ _ _=>rfl)) (aB aw (pv 1) ai (λ _ _=>rfl))) ac))))),?_⟩
 try dsimp only [eL,aU]
 refine ⟨_,rfl,_,_,_,_,rfl,rfl,.inr h1,rfl,_,rfl,_,_,_,_,rfl,rfl,.inr h2,rfl,_,_,rfl,rfl,⟨_,_,ba,bd,by decide⟩,λ x1 e1=>?_⟩
 refine ⟨_,rfl,_,_,_,_,rfl,rfl,.inr h2,rfl,_,rfl,_,_,_,_,rfl,rfl,.inr h1,rfl,_,_,rfl,rfl,⟨_,_,bc,bb,by decide⟩,λ x2 e2=>⟨_,_,rfl,rfl,λ t et=>?_⟩⟩
 refine ⟨_,rfl,_,_,_,_,rfl,rfl,.inr h1,rfl,_,rfl,_,_,_,_,rfl,rfl,.inr h2,rfl,_,_,rfl,rfl,⟨_,_,bb,bd,by decide⟩,λ u eu=>?_⟩
 subst e1 e2 et eu
 exact ⟨_,_,rfl,alU (ajk b0 d0),(bb.mul bd).mono (by decide),k⟩
theorem j9 (T:Txt K mg Ad):Def P w K mg base "under" 1 ["one","other"] (Er K):=by
 refine T.AC.cS xL λ f bA A outer s H vs Q E hr h=>?_
 obtain ⟨p1,p2,a,b,c,d,rfl,h1,h2,ba,bb,bc,bd,k⟩:=h
 refine ⟨_,(am (aF (db ky (av bw (aB aw (pv 0) ai (λ _ _=>rfl)) (aB aw (pv 1) ai (λ _ _=>rfl))) (av bw (aB aw (pv 1) ai (λ _ _=>rfl)) (aB aw (pv 0) ai (λ _ _=>rfl))) (aM _)))),?_⟩
 try dsimp only [eL,aU]
 refine ⟨_,rfl,_,_,_,_,rfl,rfl,.inr h1,rfl,_,rfl,_,_,_,_,rfl,rfl,.inr h2,rfl,_,_,rfl,rfl,⟨_,_,ba,bd,by decide⟩,λ x1 e1=>?_⟩
 refine ⟨_,rfl,_,_,_,_,rfl,rfl,.inr h2,rfl,_,rfl,_,_,_,_,rfl,rfl,.inr h1,rfl,_,_,rfl,rfl,⟨_,_,bc,bb,by decide⟩,λ x2 e2=>⟨_,_,rfl,rfl,?_⟩⟩
 subst e1 e2
 exact k
theorem cF (T:Txt K mg Ad):Def P w K mg base "is_whole_upto" 1 ["thing","greatest"] G0:=by
 refine T.qe.cS or λ f bA A outer s H vs Q E hr h=>?_
 obtain ⟨n,g,rfl,k⟩:=h
 refine ⟨_,(ag (bv (PW.pt (ub (cC (aS pG (by rfl) T.mY lR (aa (pv 0) (aa (Be (v:=V.ty "bool") rfl T.K3 IX rfl) ac)))) (rS (dJ (cC (aS pG (by rfl) T.mY lR (aa (pv 0) (aa (Be (v:=V.ty "int") rfl T.wT rV rfl) ac)))))))) (am (aF mX)) aJ)
     (am (aF (D3 iG iG ai (pv 0) (pv 1))))),?_⟩
 try dsimp only [eL,aU]
 refine ⟨_,rfl,_,_,_,_,_,rfl,.int n,rfl,vf K,_,rfl,fX ⟨_,rfl,_,_,_,_,_,rfl,.int n,rfl,rfl,_,rfl,fX ?_⟩⟩
 refine ⟨_,rfl,_,_,rfl,rfl,_,rfl,?_⟩
 by_cases h0:(0:Int)<=n
 .
  refine oM h0 ⟨_,rfl,_,_,rfl,rfl,?_⟩
  have:decide (n<=g)=decide (0<=n/\n<=g):=decide_eq_decide.mpr ⟨λ h=>⟨h0,h⟩,λ h=>h.2⟩
  show Q (V.bl (decide (n<=g))) H
  rw [this]
  exact k
 .
  refine n6 h0 ?_
  have:decide (0<=n/\n<=g)=false:=ac7 λ h=>h0 h.1
  rw [this] at k
  exact k
theorem cg (T:Txt K mg Ad):gs P w K mg base Ad.aQ "many" 1 ["self"] [] (G6 K Ad.aQ):=by
 refine T.xX.fh vn λ f bA A outer s H vs Q E hr h=>?_
 obtain ⟨a,fp,m,rfl,hh,k⟩:=h
 refine ⟨_,(am (aF (aS bx (by rfl) T.fm c8 (aa (aH (pv 0) rfl) ac)))),?_⟩
 try dsimp only [eL,aU]
 obtain ⟨⟨dx,pm,pf,ps,pt,vm,vs,vt,ax,rfl,ha,i5,gc,mE,gz,gn,n1,n2,n3,dm,ds,dt,df,fk⟩,q1,q2,q3,q4⟩:=hh
 refine ⟨_,rfl,a,_,dx,_,_,rfl,ha,T.az,T.bU,nG ..,_,_,rfl,.inl (aR.of gc),λ n en=>?_⟩
 have e:n=(m.rows.length:Int):=by rw [en,dm.length,zN]
 rw [e]
 exact k
theorem bD (T:Txt K mg Ad):gs P w K mg base Ad.aQ "look_for" 3 ["self","room"] [] (yj K Ad.aQ):=by
 refine T.qj.fh oI λ f bA A outer s H vs Q E hr h=>?_
 obtain ⟨a,fp,m,i,rfl,hh,hi,k⟩:=h
 refine ⟨_,(am (bv (dJ (jc iG ky ai (pv 1) (eX (pv 0) T.az (cg (K:=K) T) .nil hr.m))) (am bY) aJ)),?_⟩
 try dsimp only [eL,aU]
 obtain ⟨⟨dx,pm,pf,ps,pt,vm,vs,vt,ax,og,ha,_⟩,_⟩:=id hh
 refine ⟨_,rfl,_,_,rfl,rfl,_,rfl,oM (by lia) ⟨_,rfl,a,dx,_,rfl,ha,rfl,a,fp,m,rfl,hh,_,_,rfl,rfl,_,rfl,?_⟩⟩
 exact eZ (by lia) k
theorem mV (T:Txt K mg Ad):gs P w K mg base Ad.aQ "sky" 4 ["self","room"] [] (LQ K Ad.aQ):=by
 refine T.zj.fh ww λ f bA A outer s H vs Q E hr h=>?_
 obtain ⟨a,fp,m,i,z,rfl,hh,hz,k⟩:=h
 refine ⟨_,(ag (aW (aK (pv 0) T.az (bD (K:=K) T) .nil hr.m (aa (pv 1) ac)))
     (am (aF (aB aw (aH (pv 0) rfl) (pv 1) (λ _ _=>rfl))))),?_⟩
 try dsimp only [eL,aU]
 obtain ⟨⟨dx,pm,pf,ps,pt,vm,vs,vt,ax,og,ha,i5,gc,mE,gz,gn,n1,n2,n3,dm,ds,dt,df,fk⟩,q1,q2,q3,q4⟩:=id hh
 have hi:i<m.rows.length:=by rw [← q1];exact (List.getElem?_eq_some_iff.mp hz).1
 obtain ⟨v,ev,dv⟩:=ds.get (i:=i) (d:=nF z) (by rw [aat,hz];rfl)
 refine ⟨_,rfl,a,dx,_,rfl,ha,rfl,_,rfl,a,fp,m,i,rfl,hh,hi,?_⟩
 exact ⟨_,rfl,a,_,dx,_,_,rfl,ha,T.az,T.cE,io ..,_,rfl,_,_,_,_,rfl,rfl,.inl (aR.of gz),gO ev,k v dv⟩
theorem dA (T:Txt K mg Ad):gs P w K mg base Ad.aQ "stove" 4 ["self","room"] [] (Ea K Ad.aQ):=by
 refine T.vX.fh tN λ f bA A outer s H vs Q E hr h=>?_
 obtain ⟨a,fp,m,i,z,rfl,hh,hz,k⟩:=h
 refine ⟨_,(ag (aW (aK (pv 0) T.az (bD (K:=K) T) .nil hr.m (aa (pv 1) ac)))
     (am (aF (aB aw (aH (pv 0) rfl) (pv 1) (λ _ _=>rfl))))),?_⟩
 try dsimp only [eL,aU]
 obtain ⟨⟨dx,pm,pf,ps,pt,vm,vs,vt,ax,og,ha,i5,gc,mE,gz,gn,n1,n2,n3,dm,ds,dt,df,fk⟩,q1,q2,q3,q4⟩:=id hh
 have hi:i<m.rows.length:=by rw [← q2];exact (List.getElem?_eq_some_iff.mp hz).1
 obtain ⟨v,ev,dv⟩:=dt.get (i:=i) (d:=gX z) (by rw [aat,hz];rfl)
 refine ⟨_,rfl,a,dx,_,rfl,ha,rfl,_,rfl,a,fp,m,i,rfl,hh,hi,?_⟩
 exact ⟨_,rfl,a,_,dx,_,_,rfl,ha,T.az,T.de,jp ..,_,rfl,_,_,_,_,rfl,rfl,.inl (aR.of gn),gO ev,k v dv⟩
theorem ed (T:Txt K mg Ad):gs P w K mg base Ad.aQ "marks" 4 ["self","room"] [] (D5 K Ad.aQ):=by
 refine T.vK.fh tH λ f bA A outer s H vs Q E hr h=>?_
 obtain ⟨a,fp,m,i,r,rfl,hh,hz,k⟩:=h
 refine ⟨_,(ag (aW (aK (pv 0) T.az (bD (K:=K) T) .nil hr.m (aa (pv 1) ac)))
     (am (aF (cb ia (by rfl) T.vV qF (aa (aB aw (aH (pv 0) rfl) (pv 1) (λ _ _=>rfl)) ac))))),?_⟩
 try dsimp only [eL,aU]
 obtain ⟨⟨dx,pm,pf,ps,pt,vm,vs,vt,ax,og,ha,i5,gc,mE,gz,gn,n1,n2,n3,dm,ds,dt,df,fk⟩,q1,q2,q3,q4⟩:=id hh
 have hi:i<m.rows.length:=(List.getElem?_eq_some_iff.mp hz).1
 obtain ⟨v,ev,b,xs,rfl,hq,dv⟩:=dm.get (i:=i) (d:=sW r) (by rw [aat,hz];rfl)
 refine ⟨_,rfl,a,dx,_,rfl,ha,rfl,_,rfl,a,fp,m,i,rfl,hh,hi,?_⟩
 exact ⟨_,rfl,a,_,dx,_,_,rfl,ha,T.az,T.bU,nG ..,_,rfl,_,_,_,_,rfl,rfl,.inl (aR.of gc),gO ev,b,xs,rfl,.inr hq,λ p hp=>k p xs hp dv⟩
theorem iu (T:Txt K mg Ad):gs P w K mg base Ad.aQ "own_share" 4 ["self","room"] [] (Lg K Ad.aQ):=by
 refine T.oh.fh dZ λ f bA A outer s H vs Q E hr h=>?_
 obtain ⟨a,fp,m,i,rfl,hh,hi,k⟩:=h
 refine ⟨_,(ag (aD (i:=2) dZ.nd rfl (lc rfl) (ar (wS (K:=K) T) hr.m (aa (gI (v:=V.ref _) rfl T.AQ rfl) (aa (aB aw (aB aw (aH (pv 0) rfl) (pv 1) (λ _ _=>rfl)) ai (λ _ _=>rfl)) ac))))
     (ag (cL adG rfl (cH rfl T.eW (aa (eX (pv 0) T.az (cg (K:=K) T) .nil hr.m) ac)) (aA (i:=3) dZ.nd rfl (lc rfl)) (am (aD (i:=2) dZ.nd rfl (lc rfl) (ar (wS (K:=K) T) hr.m (aa (pv 2) (aa (yr (Av hr) (aH (pv 0) rfl) (cm (aa (pv 1) (aa (pv 3) ac))) (gI (v:=V.ref _) rfl T.iB rfl) ⟨rfl,rfl,rfl,rfl⟩) ac))))))
     (am (aF (pv 2))))),?_⟩
 try dsimp only [eL,aU]
 first|(refine dC ?_;intro _ _ _ _)|skip
 obtain ⟨⟨dx,pm,pf,ps,pt,vm,vs,vt,ax,og,ha,i5,gc,mE,gz,gn,n1,n2,n3,dm,ds,dt,df,fk⟩,q1,q2,q3,q4⟩:=id hh
 have hi1:i<m.bj.length:=by rw [q1];exact hi
 have hz:=aE hi1
 obtain ⟨v,ev,dv⟩:=ds.get (i:=i) (d:=nF m.bj[i]) (by rw [aat,hz];rfl)
 obtain ⟨p0,v1,v2,v3,rfl,wk,d1,d2,d3⟩:=dv.qH
 obtain ⟨p1,rfl,xa⟩:=d1.fr
 have es:m.bj[i].1=m.dR i:=by unfold ao.dR;rw [hz];rfl
 have o1:eT 100 m.bj[i].1:=es ▸ q4.dR i
 refine ⟨_,rfl,a,_,dx,_,_,rfl,ha,T.az,T.cE,io ..,_,rfl,_,_,_,_,rfl,rfl,.inl (aR.of gz),gO ev,_,_,_,_,rfl,rfl,.inr wk,rfl,?_⟩
 refine ⟨Ad.tT,p1,1,1,_,_,rfl,T.Bm.at H,xa,by decide,o1.p,mR,mR,o1.t.mono (by decide),o1.b.mono (by decide),λ q r u H1 F s1 hu=>?_⟩
 have e0:(q,r)=m.f6 i 0:=by
   have:=F.nf (ajk (by decide) o1.p)
   rw [this]
   unfold ao.f6 jI
   rw [← es];rfl
 refine ⟨_,rfl,a,dx,_,rfl,s1 _ _ ha,rfl,a,fp,m,rfl,aL.same s1 hh,_,rfl,by lia,by lia,?_⟩
 refine gu (lo:=0) (n:=m.rows.length) (λ j U H'=>aC H H'/\E2 λ (u:Addr) (x:Option V)=>H' u=some (.tup [.int (m.f6 i j).1,.int (m.f6 i j).2])/\U=[some (.ref a),some (al i),some (.ref u),x])
   ⟨s1,u,none,by rw [← e0];exact hu,rfl⟩ ?_ ?_
 .
  rintro _ j U H2 hj ⟨s2,u,x,hu,rfl⟩
  have oj:=(q4.f6 i j).mono (show 201+101 * j<=1000 by lia)
  obtain ⟨of,ot⟩:True/\True:=⟨trivial,trivial⟩
  refine ⟨_,rfl,_,rfl,a,_,dx,_,_,rfl,s2 _ _ ha,T.az,T.dP,lF ..,_,rfl,.inr ⟨_,.inl (s2 _ _ mE)⟩,_,rfl,_,rfl,EW,λ kp Ij=>?_⟩
  have s3:=ak (o:=.tup [al i,.int (0+(j:Int))]) Ij
  have zV:(upd H2 kp (.tup [al i,.int (0+(j:Int))])) kp=some (.tup ((iF i j).map kV)):=by rw [af,af8];rfl
  refine ⟨_,Bx.t (s3 _ _ (s2 _ _ mE)) zV,?_⟩
  have dfl:Dn K (upd H2 kp (.tup [al i,.int (0+(j:Int))])) (dS (m.d7 i j)) ((ga ax (iF i j)).getD (.ref Ad.jr)):=by
    have:=(aL.same (s2.trans s3) hh).ex
    have q:=df i j
    refine Dn.same (s2.trans s3) _ (AJ q (T.kz.fr (f:=(0,1))))
  obtain ⟨pf1,ef1,hf1⟩:=dfl.fr
  have TM:=q4.d7 i j
  rw [ef1]
  refine ⟨u,pf1,_,_,_,_,rfl,bO.of (s3 _ _ hu),hf1,oj.p,TM.p,oj.t,oj.b,TM.t.mono (by decide),TM.b.mono (by decide),λ q r u' H4 F s4 hu'=>?_⟩
  refine ⟨s2.trans (s3.trans s4),u',_,?_,rfl⟩
  have:=F.nf (ajk oj.p TM.p)
  rw [hu',ao.mG]
  unfold jI
  rw [← this]
 . rintro U H2 ⟨s2,u,x,hu,rfl⟩
   exact ⟨_,rfl,k _ H2 s2 (lP (bO.of hu))⟩
theorem ko (T:Txt K mg Ad):gs P w K mg base Ad.aQ "share" 5 ["self","into","of"] [] (FU K Ad.aQ):=by
 refine T.v8.fh sY λ f bA A outer s H vs Q E hr h=>?_
 obtain ⟨a,fp,m,i,j,rfl,hh,hi,hj,k⟩:=h
 refine ⟨_,(ag (aW (aK (pv 0) T.az (bD (K:=K) T) .nil hr.m (aa (pv 1) ac)))
     (ag (aW (aK (pv 0) T.az (bD (K:=K) T) .nil hr.m (aa (pv 2) ac)))
     (ag (bv (aO fc (pv 1) (pv 2) (aM _)) (am (aF (aK (pv 0) T.az (iu (K:=K) T) .nil hr.m (aa (pv 1) ac)))) aJ)
     (am (aF (yr (Av hr) (aH (pv 0) rfl) (cm (aa (pv 1) (aa (pv 2) ac))) (gI (v:=V.ref _) rfl T.iB rfl) ⟨rfl,rfl,rfl,rfl⟩)))))),?_⟩
 try dsimp only [eL,aU]
 first|(refine eI ?_;intro _ _ _ _ _)|skip
 obtain ⟨⟨dx,pm,pf,ps,pt,vm,vs,vt,ax,og,ha,i5,gc,mE,gz,gn,n1,n2,n3,dm,ds,dt,df,fk⟩,q1,q2,q3,q4⟩:=id hh
 refine ⟨_,rfl,a,dx,_,rfl,ha,rfl,_,rfl,a,fp,m,i,rfl,hh,hi,⟨_,rfl,a,dx,_,rfl,ha,rfl,_,rfl,a,fp,m,j,rfl,hh,hj,?_⟩⟩
 refine ⟨_,rfl,_,rfl,rfl,_,rfl,?_⟩
 by_cases Bo:i=j
 . subst Bo
   refine oM rfl ⟨_,rfl,a,dx,_,rfl,ha,rfl,_,rfl,a,fp,m,i,rfl,hh,hi,λ v H' s' dv=>k v H' s' ?_⟩
   rw [ao.share,ady rfl];exact dv
 .
  refine n6 (λ e=>Bo (by have:=ju.mp e;lia)) ?_
  refine ⟨_,rfl,a,_,dx,_,_,rfl,ha,T.az,T.dP,lF ..,_,rfl,.inr ⟨_,.inl mE⟩,_,rfl,_,rfl,EW,λ kp Ij=>?_⟩
  have s3:=ak (o:=.tup [al i,al j]) Ij
  have zV:(upd H kp (.tup [al i,al j])) kp=some (.tup ((iF i j).map kV)):=by rw [af];rfl
  refine ⟨_,Bx.t (s3 _ _ mE) zV,k _ _ s3 ?_⟩
  rw [ao.share,ac9 Bo]
  exact Dn.same s3 _ (AJ (df i j) (T.kz.fr (f:=(0,1))))
theorem fU (T:Txt K mg Ad):gs P w K mg base Ad.aQ "look_at_share" 5 ["self","room","share","former"] [] (Ht K Ad.aQ):=by
 refine T.kF.fh ge λ f bA A outer s H vs Q E hr h=>?_
 obtain ⟨a,fp,m,i,v1,v2,f,g,rfl,hh,hi,d1,d2,o1,o2,hf,hu,k⟩:=h
 refine ⟨_,(ag (aD (i:=4) ge.nd rfl (lc rfl) (ar (G2 (K:=K) T) hr.m (aa (aK (pv 0) T.az (iu (K:=K) T) .nil hr.m (aa (pv 1) ac)) (aa (pv 3) ac))))
     (am (bv (PW.pt (ub (cC (ar (j9 (K:=K) T) hr.m (aa (pv 2) (aa (gI (v:=V.ref _) rfl T.iB rfl) ac)))) (rS (cC (ar (j9 (K:=K) T) hr.m (aa (pv 4) (aa (pv 2) ac))))))) (am bY) aJ))),?_⟩
 try dsimp only [eL,aU]
 obtain ⟨⟨dx,pm,pf,ps,pt,vm,vs,vt,ax,og,ha,i5,gc,mE,gz,gn,n1,n2,n3,dm,ds,dt,df,fk⟩,q1,q2,q3,q4⟩:=id hh
 obtain ⟨p1,rfl,Cd⟩:=d1.fr
 obtain ⟨p2,rfl,yf⟩:=d2.fr
 refine ⟨_,rfl,a,dx,_,rfl,ha,rfl,_,rfl,a,fp,m,i,rfl,hh,hi,λ v H1 s1 dv=>⟨_,rfl,?_⟩⟩
 obtain ⟨p3,rfl,zr⟩:=dv.fr
 have oo:eT 800 (m.own i):=(q4.f6 i _).mono (by lia)
 refine ⟨p3,p2,_,_,_,_,rfl,zr,s1.tup yf,oo.p,o2.p,oo.t.mono (by decide),oo.b.mono (by decide),o2.t.mono (by decide),o2.b.mono (by decide),λ q r u H2 F s2 Zu=>?_⟩
 have e0:(q,r)=lZ (m.own i) g:=F.nf (ajk oo.p o2.p)
 have op:eT 950 (lZ (m.own i) g):=(oo.plus o2).mono (by decide)
 rw [← e0] at op hu
 refine ⟨_,rfl,p1,Ad.jr,_,_,_,_,rfl,s2.tup (s1.tup Cd),T.kz.at _,o1.t.mono (by decide),o1.b.mono (by decide),mR,mR,_,rfl,n6 (by lia) ?_⟩
 refine ⟨_,rfl,_,rfl,u,p1,_,_,_,_,rfl,bO.of Zu,s2.tup (s1.tup Cd),op.t.mono (by decide),op.b.mono (by decide),o1.t.mono (by decide),o1.b.mono (by decide),_,rfl,n6 (am6 hu) (k _ (s1.trans s2))⟩
theorem nN (T:Txt K mg Ad):gs P w K mg base Ad.aQ "put_flow" 6 ["self","into","of","share"] [] (wK K Ad.aQ):=by
 refine T.p8.fh oq λ f bA A outer s H vs Q E hr h=>?_
 obtain ⟨a,fp,m,i,j,v,f,rfl,hh,hi,hj,Bo,dv,o1,hf,hu,k⟩:=h
 refine ⟨_,(ag (aW (aK (pv 0) T.az (bD (K:=K) T) .nil hr.m (aa (pv 1) ac)))
     (ag (aW (aK (pv 0) T.az (bD (K:=K) T) .nil hr.m (aa (pv 2) ac)))
     (ag (bv (aO fc (pv 1) (pv 2) (aM _)) (am bY) aJ)
     (ag (aW (aK (pv 0) T.az (fU (K:=K) T) .nil hr.m (aa (pv 1) (aa (pv 3) (aa (aK (pv 0) T.az (ko (K:=K) T) .nil hr.m (aa (pv 1) (aa (pv 2) ac))) ac)))))
     (am (Ie (Av hr) (aH (pv 0) rfl) (cm (aa (pv 1) (aa (pv 2) ac))) (pv 3) rfl)))))),?_⟩
 try dsimp only [eL,aU]
 first|(refine xc ?_;intro _ _ _ _ _ _)|skip
 obtain ⟨⟨dx,pm,pf,ps,pt,vm,vs,vt,ax,og,ha,i5,gc,mE,gz,gn,n1,n2,n3,dm,ds,dt,df,fk⟩,q1,q2,q3,q4⟩:=id hh
 refine ⟨_,rfl,a,dx,_,rfl,ha,rfl,_,rfl,a,fp,m,i,rfl,hh,hi,⟨_,rfl,a,dx,_,rfl,ha,rfl,_,rfl,a,fp,m,j,rfl,hh,hj,?_⟩⟩
 refine ⟨_,rfl,_,rfl,rfl,_,rfl,n6 (λ e=>Bo (by have:=ju.mp e;lia)) ?_⟩
 refine ⟨_,rfl,a,dx,_,rfl,ha,rfl,_,rfl,_,rfl,_,rfl,a,dx,_,rfl,ha,rfl,_,rfl,_,rfl,a,fp,m,i,j,rfl,hh,hi,hj,λ z H1 s1 dz=>?_⟩
 rw [ao.share,ac9 Bo] at dz
 refine ⟨a,fp,m,i,v,z,f,_,rfl,hh.same s1,hi,Dn.same s1 _ dv,dz,o1,q4.d7 i j,hf,hu,λ H2 s2=>?_⟩
 have Dc:=s1.trans s2
 refine ⟨_,rfl,_,rfl,a,_,dx,_,_,rfl,Dc _ _ ha,T.az,T.dP,lF ..,_,rfl,_,rfl,EW,λ kp Ij=>?_⟩
 have s3:=ak (o:=.tup [al i,al j]) Ij
 have zV:(upd H2 kp (.tup [al i,al j])) kp=some (.tup ((iF i j).map kV)):=by rw [af];rfl
 have sA:=Dc.trans s3
 refine ⟨_,_,rfl,DI.t (sA _ _ mE) zV (ab2 fk.len (by decide)),k _ fp (C7 hh sA ha mE (by lia) (by lia) (Dn.same sA _ dv) o1)⟩
theorem oi (T:Txt K mg Ad):gs P w K mg base Ad.aQ "put_sky" 6 ["self","room","share","low","high"] [] (zS K Ad.aQ):=by
 refine T.rC.fh qh λ f bA A outer s H vs Q E hr h=>?_
 obtain ⟨a,fp,m,i,v1,v2,v3,f,lo,hi,rfl,hh,GV,d1,d2,d3,o1,o2,o3,hlh,hf,hu,k⟩:=h
 refine ⟨_,(ag (aW (aK (pv 0) T.az (bD (K:=K) T) .nil hr.m (aa (pv 1) ac)))
     (ag (bv (cC (ar (j9 (K:=K) T) hr.m (aa (pv 4) (aa (pv 3) ac)))) (am bY) aJ)
     (ag (aW (aK (pv 0) T.az (fU (K:=K) T) .nil hr.m (aa (pv 1) (aa (pv 2) (aa (aB aw (aB aw (aH (pv 0) rfl) (pv 1) (λ _ _=>rfl)) ai (λ _ _=>rfl)) ac)))))
     (am (iy (cm (aa (pv 2) (aa (pv 3) (aa (pv 4) ac)))) (oO (aH (pv 0) rfl) (pv 1) set_list)))))),?_⟩
 try dsimp only [eL,aU]
 first|(refine eI ?_;intro _ _ _ _ _)|skip
 obtain ⟨⟨dx,pm,pf,ps,pt,vm,vs,vt,ax,og,ha,i5,gc,mE,gz,gn,n1,n2,n3,dm,ds,dt,df,fk⟩,q1,q2,q3,q4⟩:=id hh
 obtain ⟨p2,rfl,yf⟩:=d2.fr
 obtain ⟨p3,rfl,zr⟩:=d3.fr
 have hi1:i<m.bj.length:=by rw [q1];exact GV
 have hz:=aE hi1
 obtain ⟨v,ev,dv⟩:=ds.get (i:=i) (d:=nF m.bj[i]) (by rw [aat,hz];rfl)
 obtain ⟨p0,w1,w2,w3,rfl,wk,e1,e2,e3⟩:=dv.qH
 have es:m.bj[i].1=m.dR i:=by unfold ao.dR;rw [hz];rfl
 rw [es] at e1
 refine ⟨_,rfl,a,dx,_,rfl,ha,rfl,_,rfl,a,fp,m,i,rfl,hh,GV,?_⟩
 refine ⟨_,rfl,_,rfl,p3,p2,_,_,_,_,rfl,zr,yf,o3.t.mono (by decide),o3.b.mono (by decide),o2.t.mono (by decide),o2.b.mono (by decide),_,rfl,n6 (am6 hlh) ?_⟩
 refine ⟨_,rfl,a,dx,_,rfl,ha,rfl,_,rfl,_,rfl,_,rfl,a,_,dx,_,_,rfl,ha,T.az,T.cE,io ..,_,rfl,_,_,_,_,rfl,rfl,.inl (aR.of gz),gO ev,_,_,_,_,rfl,rfl,.inr wk,rfl,?_⟩
 refine ⟨a,fp,m,i,v1,w1,f,_,rfl,hh,GV,d1,e1,o1,q4.dR i,hf,hu,λ H2 s2=>?_⟩
 refine ⟨_,rfl,_,rfl,_,rfl,Rp,λ kp Ij=>?_⟩
 have s3:=ak (o:=.tup [v1,.ref p2,.ref p3]) Ij
 have sA:=s2.trans s3
 have hl:vs.length=m.bj.length:=by rw [ds.length,zN]
 refine ⟨_,rfl,a,_,dx,_,_,rfl,sA _ _ ha,T.az,T.cE,io ..,_,rfl,ps,vs,_,i,rfl,rfl,sA _ _ gz,jK (by lia),k _ fp (ET hh sA ha gz (EQ (bO.of af) (Dn.same sA _ d1) (Dn.same sA _ d2) (Dn.same sA _ d3)) ⟨o1,o2,o3⟩)⟩
theorem n9 (T:Txt K mg Ad):PZ P w K mg base Ad.aQ "put_stove" "Hold.put_stove" ca (.ref Ad.gt) 4 ["self","room","heat","wood","stay","fails"] (nM K Ad.aQ):=by
 refine T.ou.mok nR (λ vs H Q E h=>?_) (λ f _ _ _ s H vs Q E hr h=>?_)
 . obtain ⟨a,fp,m,i,v,f,w1,st,fl,rfl,_⟩:=h
   rfl
 .
  obtain ⟨a,fp,m,i,v,f,w1,st,fl,rfl,hh,hi,dv,o1,hf,hw,i9,TJ,k⟩:=h
  refine ⟨_,(ag (aW (aK (pv 0) T.az (bD (K:=K) T) .nil hr.m (aa (pv 1) ac)))
    (ag (bv (cC (ar (j9 (K:=K) T) hr.m (aa (pv 2) (aa (gI (v:=V.ref _) rfl T.iB rfl) ac)))) (am bY) aJ)
    (ag (bv (dJ (cC (ar (cF (K:=K) T) hr.m (aa (pv 3) (aa (fe rfl T.xY) ac))))) (am bY) aJ)
    (ag (bv (dJ (cC (ar (cF (K:=K) T) hr.m (aa (pv 4) (aa (fe rfl T.xQ) ac))))) (am bY) aJ)
    (ag (bv (dJ (cC (ar (cF (K:=K) T) hr.m (aa (pv 5) (aa (fe rfl T.vJ) ac))))) (am bY) aJ)
    (am (iy (cm (aa (pv 2) (aa (pv 3) (aa (pv 4) (aa (pv 5) ac))))) (oO (aH (pv 0) rfl) (pv 1) set_list)))))))),?_⟩
  try dsimp only [eL,aU]
  first|(refine nO ?_;intro _ _ _ _ _ _ _)|skip
  obtain ⟨⟨dx,pm,pf,ps,pt,vm,vs,vt,ax,og,ha,i5,gc,mE,gz,gn,n1,n2,n3,dm,ds,dt,df,fk⟩,q1,q2,q3,q4⟩:=id hh
  obtain ⟨p,rfl,hp⟩:=dv.fr
  refine ⟨_,rfl,a,dx,_,rfl,ha,rfl,_,rfl,a,fp,m,i,rfl,hh,hi,?_⟩
  refine ⟨_,rfl,p,Ad.jr,_,_,_,_,rfl,hp,T.kz.at _,o1.t.mono (by decide),o1.b.mono (by decide),mR,mR,_,rfl,n6 (by lia) ?_⟩
  refine ⟨_,rfl,w1,9,rfl,_,rfl,eZ hw ⟨_,rfl,st,3,rfl,_,rfl,eZ i9 ⟨_,rfl,fl,3,rfl,_,rfl,eZ TJ ?_⟩⟩⟩
  refine ⟨_,rfl,_,rfl,_,rfl,_,rfl,Lv,λ kp Ij=>?_⟩
  have sA:=ak (o:=.tup [.ref p,.int w1,.int st,.int fl]) Ij
  have hl:vt.length=m.aV.length:=by rw [dt.length,zN]
  exact ⟨_,rfl,a,_,dx,_,_,rfl,sA _ _ ha,T.az,T.de,jp ..,_,rfl,pt,vt,_,i,rfl,rfl,sA _ _ gn,jK (by lia),k _ fp (zx (z:=(f,w1,st,fl)) hh sA ha gn (gU (bO.of af) (bh (Dn.same sA _ dv) (bh rfl (bh rfl (bh rfl eK))))) o1)⟩
theorem j3 (T:Txt K mg Ad):xA P w K mg base Ad.aQ "put_stove" 4 ["self","room","heat","wood","stay","fails"] [] (nM K Ad.aQ) :=
 (n9 T).IC T.oV λ items hv=>by
   obtain ⟨u1,u2,u3,rfl,r1,r2,r3⟩:=vals3 hv
   exact ⟨[],.nil,λ _ _ _ _ _ _ us hl=>match us,hl with | [_,_,_,_,_,_],_=>⟨_,rfl,rfl⟩⟩
theorem n8 (T:Txt K mg Ad):Def P w K mg base "bands_together" 1 ["rows"] (Fl K):=by
 refine T.oP.cS dU λ f bA A outer s H vs Q E hr h=>?_
 obtain ⟨p,xs,rs,rfl,hq,hd,hl,Gj,k⟩:=h
 refine ⟨_,(ag (aD (i:=1) dU.nd rfl (lc rfl) ai)
     (ag (cL adG rfl (bK (pv 0)) (aA (i:=2) dU.nd rfl (lc rfl)) (am (aD (i:=1) dU.nd rfl (lc rfl) (av bw (pv 1) (av dX (aS bx (by rfl) T.fm c8 (aa (pv 2) ac)) ai)))))
     (am (aF (pv 1))))),?_⟩
 try dsimp only [eL,aU]
 first|(refine dC ?_;intro _ _ _ _)|skip
 have MA:xs.length=rs.length:=by rw [hd.length,zN]
 refine ⟨_,rfl,p,rfl,⟨xs,hq⟩,?_⟩
 refine fL (xs:=xs) (λ i U H'=>H'=H/\∃ (x:Option V),Bd (1+3 * i) (i0 (rs.take i))/\U=[some (.ref p),some (.int (i0 (rs.take i))),x]) ⟨rfl,none,(by show Bd 1 (i0 []);exact mR),rfl⟩ (λ i U H' _ e=>by rw [e.1];exact hq) ?_ ?_
 .
  rintro _ i x U H' hx ⟨rfl,y,hb,rfl⟩
  have hi:i<rs.length:=by rw [← MA];exact (List.getElem?_eq_some_iff.mp hx).1
  obtain ⟨v,ev,b,ys,rfl,uq,dv⟩:=hd.get (i:=i) (d:=sW rs[i]) (by rw [aat,aE hi];rfl)
  obtain rfl:x = .ref b:=abG (hx.symm.trans ev)
  have hlen:=Gj rs[i] (acx hi)
  have el:ys.length=rs[i].length:=by rw [dv.length,zN]
  refine ⟨_,rfl,_,rfl,_,_,rfl,.inr uq,λ n en=>⟨_,_,rfl,rfl,λ u eu=>⟨_,_,rfl,rfl,?_,λ z ez=>?_⟩⟩⟩
  . exact ⟨_,3,hb,(show u.natAbs<2 ^ 3 by lia),(show 1+3 * i+3<=_ by lia)⟩
  .
   have e1:z=i0 (rs.take (i+1)):=by
     rw [ez,eu,en,el]
     unfold i0
     rw [alu,aE hi,ajV];rfl
   refine ⟨rfl,_,?_,by rw [← e1];rfl⟩
   rw [← e1,ez]
   exact (hb.mul (show u.natAbs<2 ^ 3 by lia)).mono (by lia)
 .
  rintro U H' ⟨rfl,y,hb,rfl⟩
  refine ⟨_,rfl,?_⟩
  rw [MA,adc]
  exact k
theorem vD (T:Txt K mg Ad):Def P w K mg base "is_rising" 2 ["marks"] (BG K):=by
 refine T.xD.cS uO λ f bA A outer s H vs Q E hr h=>?_
 obtain ⟨p,xs,r,rfl,hq,hd,ho,hl,k⟩:=h
 refine ⟨_,(am (aF (aS (uz rfl) (by rfl) T.J6 FT (aa (fM ["low","high"] [] [] .nil rfl (L9 rfl T.J5 (aa (pv 0) (aa (kr Gu (pv 0) (nI ai) nX) ac))) (λ _ _ _ _ _=>(cW (K:=K) (n:=2) rfl rfl (aN (aA (i:=0) (show (["low","high"]:List Str).Nodup by decide +kernel) rfl (lc rfl)) (aN (aA (i:=1) (show (["low","high"]:List Str).Nodup by decide +kernel) rfl (lc rfl)) cV)))) (λ _ _ _ _ _=>cr) (λ _ _ _ _ _=>(ar (j9 (K:=K) T) hr.m (aa (pv 0) (aa (pv 1) ac)))) rfl (by decide +kernel) (by decide +kernel) (by decide +kernel)) ac)))),?_⟩
 try dsimp only [eL,aU]
 refine ⟨_,rfl,_,rfl,1,rfl,p,xs,rfl,hq,λ p2 yf=>?_⟩
 have s2:=ak (o:=.lst (zA xs (some 1) none)) yf
 rw [Et] at s2 ⊢
 have MA:xs.length=r.length:=by rw [hd.length,zN]
 refine ⟨p,p2,rfl,⟨xs,s2.seq hq⟩,⟨xs.tail,aR.of af⟩,λ D hD=>?_⟩
 have X3:min xs.length xs.tail.length=(List.zipWith bI r r.tail).length:=by rw [am2,amg,amg,MA]
 refine E8 (K:=K) (a:=p) (b:=p2) (xs:=xs) (ys:=xs.tail) (λ i acc U H'=>A4 (aC (upd H p2 (.lst xs.tail)) H') (H' D=some (.lst acc)) (acc=((List.zipWith bI r r.tail).take i).map V.bl) (E2 λ v0 v1=>U=[v0,v1]))
   ⟨ak hD,af,rfl,none,none,rfl⟩ (λ i acc U H' _ e=>⟨e.1.seq (s2.seq hq),e.1.seq (aR.of af)⟩) ?_ ?_
 .
  rintro i x y pp acc U H' hx hy qS ⟨s3,jm,rfl,v0,v1,rfl⟩
  rw [am8] at hy
  have h1:i+1<r.length:=by rw [← MA];exact (List.getElem?_eq_some_iff.mp hy).1
  obtain ⟨u,eu,du⟩:=hd.get (i:=i) (d:=dS r[i]) (by rw [aat,aE (by lia)];rfl)
  obtain rfl:x=u:=abG (hx.symm.trans eu)
  obtain ⟨v,ev,dv⟩:=hd.get (i:=i+1) (d:=dS r[i+1]) (by rw [aat,aE h1];rfl)
  obtain rfl:y=v:=abG (hy.symm.trans ev)
  obtain ⟨a1,rfl,g1⟩:=du.fr
  obtain ⟨a2,rfl,g2⟩:=dv.fr
  have o1:=ho r[i] (acx _)
  have o2:=ho r[i+1] (acx _)
  have s4:aC H' (upd H' pp (.tup [.ref a1,.ref a2])):=ak qS
  have s5:=s2.trans (s3.trans s4)
  have nD:D≠pp:=au jm qS
  refine ⟨pp,_,rfl,bO.of af,rfl,_,_,rfl,_,_,rfl,rfl,?_⟩
  refine ⟨_,rfl,_,rfl,a1,a2,_,_,_,_,rfl,s5.tup g1,s5.tup g2,o1.t.mono (by decide),o1.b.mono (by decide),o2.t.mono (by decide),o2.b.mono (by decide),?_⟩
  have hb:=qR (aE (show i<r.length by lia)) (aE h1)
  refine ⟨by rw [aq nD];exact jm,?_,aC.put (s3.trans s4) hD,af,?_,_,_,rfl⟩
  . rw [zN,adS]
    have:(7:Nat)<sizeLine:=by decide
    rw [← X3]
    lia
  . rw [alu,hb,aaN]
    rfl
 . rintro acc U H' ⟨s3,jm,rfl,v0,v1,rfl⟩
   rw [X3,adc] at jm
   exact ⟨D,_,rfl,aR.of jm,k _ (s2.trans s3)⟩
theorem nZ (T:Txt K mg Ad):gs P w K mg base Ad.aQ "put_room" 3 ["self","marks"] [] (wO K Ad.aQ):=by
 refine T.pX.fh jj λ f bA A outer s H vs Q E hr h=>?_
 obtain ⟨a,fp,m,p,xs,r,rfl,hh,h4,hq,hd,ho,wj,hl7,Sr,hb,k⟩:=h
 refine ⟨_,(ag (bv (aO D8 (eX (pv 0) T.az (cg (K:=K) T) .nil hr.m) (fe rfl T.vq) (aM _)) (am bY) aJ)
     (ag (bv (dJ (jc iG iG (fe rfl T.sT) (aS bx (by rfl) T.fm c8 (aa (pv 1) ac)) (fe rfl T.vI))) (am bY) aJ)
     (ag (bv (dJ (cC (ar (vD (K:=K) T) hr.m (aa (pv 1) ac)))) (am bY) aJ)
     (ag (aD (i:=2) jj.nd rfl (lc rfl) (av Ep (aH (pv 0) rfl) (cx (aa (cb dQ (by rfl) T.lE i8 (aa (pv 1) ac)) ac))))
     (ag (bv (aO xR (ar (n8 (K:=K) T) hr.m (aa (pv 2) ac)) (fe rfl T.vT) (aM _)) (am bY) aJ)
     (ag (cK (pv 0) (pv 2) rfl)
     (ag (aW (gJ ads adL adH bX (aH (pv 0) rfl) (aa (cm (aa (gI (v:=V.ref _) rfl T.iB rfl) (aa (gI (v:=V.ref _) rfl T.iB rfl) (aa (gI (v:=V.ref _) rfl T.iB rfl) ac)))) ac)))
     (ag (aW (gJ ads adL adH bX (aH (pv 0) rfl) (aa cy ac)))
     (am (aF (av dX (eX (pv 0) T.az (cg (K:=K) T) .nil hr.m) ai))))))))))),?_⟩
 try dsimp only [eL,aU]
 first|(refine DK ?_;intro _ _ _ _ _ _ _ _ _ _)|skip
 obtain ⟨⟨dx,pm,pf,ps,pt,vm,vs,vt,ax,og,ha,i5,gc,mE,gz,gn,n1,n2,n3,dm,ds,dt,df,fk⟩,q1,q2,q3,q4⟩:=id hh
 have MA:xs.length=r.length:=by rw [hd.length,zN]
 have lm:vm.length=m.rows.length:=by rw [dm.length,zN]
 have ls:vs.length=m.bj.length:=by rw [ds.length,zN]
 have lt:vt.length=m.aV.length:=by rw [dt.length,zN]
 have szl:(7:Nat)<sizeLine:=by decide
 refine ⟨_,rfl,a,dx,_,rfl,ha,rfl,a,fp,m,rfl,hh,_,_,rfl,rfl,_,rfl,n6 (by lia) ?_⟩
 refine ⟨_,rfl,_,_,rfl,.inl hq,λ n en=>⟨_,_,rfl,rfl,_,rfl,oM (by lia) ⟨_,_,rfl,rfl,_,rfl,eZ (by lia) ?_⟩⟩⟩
 refine ⟨_,rfl,p,xs,r,rfl,hq,hd,ho,hl7,λ H1 s1=>⟨_,rfl,?_⟩⟩
 rw [Sr]
 refine fX ?_
 refine ⟨_,rfl,a,_,dx,_,_,rfl,s1 _ _ ha,T.az,T.bU,nG ..,_,rfl,p,xs,rfl,.inl ⟨s1.seq hq,λ kt hkt=>⟨Eu,λ kl hkl=>?_⟩⟩⟩
 have s2:=s1.trans (ak (o:=.tup xs) hkt)
 have s3:=s2.trans (ak (o:=.lst [.ref kt]) hkl)
 refine ⟨pm,kl,vm,[.ref kt],rfl,rfl,s3 _ _ gc,af,by rw [acG];lia,λ p3 zr=>?_⟩
 have s3':aC (upd H1 kt (.tup xs)) _:=(ak (o:=.lst [.ref kt]) hkl).trans (ak (o:=.lst (vm++[.ref kt])) zr)
 have s4:=s3.trans (ak (o:=.lst (vm++[.ref kt])) zr)
 have dr:Dn K (upd (upd (upd H1 kt (.tup xs)) kl (.lst [.ref kt])) p3 (.lst (vm++[.ref kt]))) (sW r) (.ref kt):=gU (bO.of (s3' _ _ af)) (bi.same s4 _ hd)
 refine ⟨_,rfl,p3,_,m.rows++[r],rfl,aR.of af,?_,by rw [aaE,acG];lia,?_,_,_,rfl,rfl,_,rfl,n6 (by lia) ?_⟩
 . rw [aaN]
   exact (bi.same s4 _ dm).snoc dr
 .
  intro x hx
  rcases List.mem_append.mp hx with h|h
  . have:=q4.len x h;lia
  . rw [List.mem_singleton.mp h];lia
 refine ⟨_,rfl,_,rfl,a,_,dx,_,rfl,s4 _ _ ha,T.az,T.bU,lt1000 rfl,?_⟩
 have hn3:H p3=none:=s3.free zr
 have x3a:p3≠a:=(au ha hn3).symm
 refine ⟨_,rfl,a,_,dx,_,_,rfl,af,T.az,T.cE,io ..,?_⟩
 have N0:=dF gz ha nofun
 have TN:=dF gn ha nofun
 have g1:=(aq (H:=upd (upd (upd H1 kt (.tup xs)) kl (.lst [.ref kt])) p3 (.lst (vm++[.ref kt]))) (o:=.ins Ad.aQ dx (aG "mark_rows" (.ref p3) (kq m pm pf ps pt))) N0).trans (s4 _ _ gz)
 have g2:=(aq (H:=upd (upd (upd H1 kt (.tup xs)) kl (.lst [.ref kt])) p3 (.lst (vm++[.ref kt]))) (o:=.ins Ad.aQ dx (aG "mark_rows" (.ref p3) (kq m pm pf ps pt))) TN).trans (s4 _ _ gn)
 refine ⟨.inl ⟨rfl,vs,aR.of g1⟩,Rp,λ q0 wk=>?_⟩
 have s5:=ak (o:=.tup [.ref Ad.jr,.ref Ad.jr,.ref Ad.jr]) wk
 refine ⟨ps,vs,_,rfl,rfl,s5 _ _ g1,by lia,?_⟩
 have g3:=(aq (o:=.lst (vs++[.ref q0])) n3.symm).trans (s5 _ _ g2)
 have g4:=(aq (o:=.lst (vs++[.ref q0])) N0.symm).trans (s5 _ _ af)
 refine ⟨_,rfl,a,_,dx,_,_,rfl,g4,T.az,T.de,jp ..,.inl ⟨rfl,vt,aR.of g3⟩,pt,vt,_,rfl,rfl,g3,by lia,?_⟩
 obtain ⟨rX,D⟩:=BR (N:=Ad.jr) (r:=r) hh s4 ha gc gz gn hn3 af dr h4 ho ⟨wj,hl7⟩ (λ H'=>T.kz.fr (f:=(0,1))) wk
 obtain ⟨⟨yH,Cv,uZ,qd,qD,_,_,_,_,_,ha5,_⟩,_⟩:=id D.at_
 refine ⟨_,rfl,a,yH,_,rfl,ha5,rfl,a,rX,_,rfl,D.at_,_,_,rfl,rfl,λ z ez=>?_⟩
 have e:z=(m.rows.length:Int):=by
   rw [ez]
   show (((m.rows++[r]).length:Nat):Int) - 1=_
   rw [aaE,acG];lia
 rw [e]
 exact k _ rX D
theorem oW (T:Txt K mg Ad):PZ P w K mg base Ad.aQ "__init__" "Hold.__init__" cw (.ref Ad.gW) 2 ["self","most","cap","load"] (AN K Ad.aQ):=by
 refine T.pY.mok oZ (λ vs H Q E h=>?_) (λ f _ _ _ s H vs Q E hr h=>?_)
 . obtain ⟨x,dx,most,d8,load,rfl,_⟩:=h
   rfl
 .
  obtain ⟨x,dx,most,d8,load,rfl,hx,i5,hm,hc,hl,k⟩:=h
  refine ⟨_,(ag (bv (dJ (cC (ar (cF (K:=K) T) hr.m (aa (pv 1) (aa (fe rfl T.sy) ac))))) (am bY) aJ)
    (ag (bv (dJ (cC (ar (cF (K:=K) T) hr.m (aa (pv 2) (aa (fe rfl T.zt) ac))))) (am bY) aJ)
    (ag (bv (dJ (cC (ar (cF (K:=K) T) hr.m (aa (pv 3) (aa (fe rfl T.xu) ac))))) (am bY) aJ)
    (ag (cK (pv 0) (pv 1) rfl)
    (ag (cK (pv 0) (pv 2) rfl)
    (ag (cK (pv 0) (pv 3) rfl)
    (ag (cK (pv 0) (cx ac) rfl)
    (ag (cK (pv 0) Fx rfl)
    (ag (cK (pv 0) (cx ac) rfl)
    (am (cK (pv 0) (cx ac) rfl))))))))))),?_⟩
  try dsimp only [eL,aU]
  first|(refine BV ?_;intro _ _ _ _ _ _ _ _ _ _ _)|skip
  refine ⟨_,rfl,most,4,rfl,_,rfl,eZ hm ⟨_,rfl,d8,30,rfl,_,rfl,eZ hc ⟨_,rfl,load,30,rfl,_,rfl,eZ hl ?_⟩⟩⟩
  have B0:i4 K Ad.aQ x dx H H []:=.start hx
  refine ⟨_,rfl,_,rfl,x,_,dx,_,rfl,B0.at_,T.az,T.ie,lt1000 rfl,?_⟩
  have B1:=B0.put (fs':=aG "most" (.int most) [])
  refine ⟨_,rfl,_,rfl,x,_,dx,_,rfl,B1.at_,T.az,T.iX,lt1000 rfl,?_⟩
  have B2:=B1.put (fs':=aG "cap" (.int d8) (aG "most" (.int most) []))
  refine ⟨_,rfl,_,rfl,x,_,dx,_,rfl,B2.at_,T.az,T.jB,lt1000 rfl,?_⟩
  have B3:=B2.put (fs':=aG "load" (.int load) (aG "cap" (.int d8) (aG "most" (.int most) [])))
  refine ⟨aeU _,λ p1 f1=>?_⟩
  have B4:=B3.new (o:=.lst []) f1
  refine ⟨_,rfl,x,_,dx,_,rfl,B4.at_,T.az,T.bU,lt1000 rfl,λ p2 f2=>?_⟩
  have B5:=B4.put (fs':=aG "mark_rows" (.ref p1) (aG "load" (.int load) (aG "cap" (.int d8) (aG "most" (.int most) []))))
  have B6:=B5.new (o:=.dT []) f2
  refine ⟨_,rfl,x,_,dx,_,rfl,B6.at_,T.az,T.dP,lt1000 rfl,aeU _,λ p3 f3=>?_⟩
  have B7:=B6.put (fs':=aG "flows" (.ref p2) (aG "mark_rows" (.ref p1) (aG "load" (.int load) (aG "cap" (.int d8) (aG "most" (.int most) [])))))
  have B8:=B7.new (o:=.lst []) f3
  refine ⟨_,rfl,x,_,dx,_,rfl,B8.at_,T.az,T.cE,lt1000 rfl,aeU _,λ p4 f4=>?_⟩
  have B9:=B8.put (fs':=aG "skies" (.ref p3) (aG "flows" (.ref p2) (aG "mark_rows" (.ref p1) (aG "load" (.int load) (aG "cap" (.int d8) (aG "most" (.int most) []))))))
  have B10:=B9.new (o:=.lst []) f4
  refine ⟨_,rfl,x,_,dx,_,rfl,B10.at_,T.az,T.de,lt1000 rfl,?_⟩
  have B11:=B10.put (fs':=kq (ao.new most d8 load) p1 p2 p3 p4)
  have h1:=B4.keep (u:=.ins Ad.aQ dx (aG "mark_rows" (.ref p1) (aG "load" (.int load) (aG "cap" (.int d8) (aG "most" (.int most) []))))) af (B3.ne f1)
  have h1a:=B6.keep (u:=.ins Ad.aQ dx (aG "flows" (.ref p2) (aG "mark_rows" (.ref p1) (aG "load" (.int load) (aG "cap" (.int d8) (aG "most" (.int most) [])))))) (ak (o:=.dT []) f2 _ _ h1) (B3.ne f1)
  have h2a:=B6.keep (u:=.ins Ad.aQ dx (aG "flows" (.ref p2) (aG "mark_rows" (.ref p1) (aG "load" (.int load) (aG "cap" (.int d8) (aG "most" (.int most) [])))))) af (B5.ne f2)
  have kk:=λ b o (h:_=some o) (n:b≠x)=>B8.keep (b:=b) (u:=.ins Ad.aQ dx (aG "skies" (.ref p3) (aG "flows" (.ref p2) (aG "mark_rows" (.ref p1) (aG "load" (.int load) (aG "cap" (.int d8) (aG "most" (.int most) []))))))) h n
  have L0:=kk _ _ (ak (o:=.lst []) f3 _ _ h1a) (B3.ne f1)
  have h2b:=kk _ _ (ak (o:=.lst []) f3 _ _ h2a) (B5.ne f2)
  have h3b:=kk _ _ af (B7.ne f3)
  have kl:=λ b o (h:_=some o) (n:b≠x)=>B10.keep (b:=b) (u:=.ins Ad.aQ dx (kq (ao.new most d8 load) p1 p2 p3 p4)) h n
  have h1c:=kl _ _ (ak (o:=.lst []) f4 _ _ L0) (B3.ne f1)
  have h2c:=kl _ _ (ak (o:=.lst []) f4 _ _ h2b) (B5.ne f2)
  have h3c:=kl _ _ (ak (o:=.lst []) f4 _ _ h3b) (B7.ne f3)
  have h4c:=kl _ _ af (B9.ne f4)
  exact k _ _ (ED B11 hx i5 h1c h2c h3c h4c (B3.none f1) (B5.none f2) (B7.none f3) (B9.none f4) (au h1a f3) (au L0 f4) (au h3b f4))
theorem hC (T:Txt K mg Ad):xA P w K mg base Ad.aQ "__init__" 2 ["self","most","cap","load"] [] (AN K Ad.aQ) :=
 (oW T).IC T.p7 λ items hv=>by
   obtain ⟨u1,u2,u3,rfl,r1,r2,r3⟩:=vals3 hv
   exact ⟨[],.nil,λ _ _ _ _ _ _ us hl=>match us,hl with | [_,_,_,_],_=>⟨_,rfl,rfl⟩⟩
theorem jO (T:Txt K mg Ad):Qv P w K mg base "hold_like" eE (.ref Ad.kC) 4 ["hold","most","cap","load"] (qy K Ad.aQ):=by
 refine T.xB.dok nY (λ vs H Q E h=>?_) (λ f _ _ _ s H vs Q E hr h=>?_)
 . obtain ⟨a,fp,m,x,y,z,rfl,_⟩:=h
   rfl
 .
  obtain ⟨a,fp,m,o1,o2,o3,rfl,hh,hb,k⟩:=h
  refine ⟨_,(ag (aD (i:=4) nY.nd rfl (lc rfl) (yt T.A2 (hC (K:=K) T) hr.m T.FE (aa (jg (aO j8 (pv 1) cy (aM _)) (aH (pv 0) rfl) (pv 1)) (aa (jg (aO j8 (pv 2) cy (aM _)) (aH (pv 0) rfl) (pv 2)) (aa (jg (aO j8 (pv 3) cy (aM _)) (aH (pv 0) rfl) (pv 3)) ac)))))
    (ag (cK (pv 4) (cb ia (by rfl) T.vV qF (aa (aH (pv 0) rfl) ac)) rfl)
    (ag (cK (pv 4) (cb sO (by rfl) T.Fo AS (aa (aH (pv 0) rfl) ac)) rfl)
    (ag (cK (pv 4) (cb ia (by rfl) T.vV qF (aa (aH (pv 0) rfl) ac)) rfl)
    (ag (cK (pv 4) (cb ia (by rfl) T.vV qF (aa (aH (pv 0) rfl) ac)) rfl)
    (am (aF (pv 4)))))))),?_⟩
  try dsimp only [eL,aU]
  first|(refine nO ?_;intro _ _ _ _ _ _ _)|skip
  obtain ⟨⟨Bv,pm,pf,ps,pt,vm,vs,vt,ax,og,ha,i5,gc,mE,gz,gn,n1,n2,n3,dm,ds,dt,df,fk⟩,q1,q2,q3,q4⟩:=id hh
  refine zB (o:=o1) (d:=m.most) rfl (λ Q' h=>⟨_,rfl,a,_,Bv,_,_,rfl,ha,T.az,T.ie,rM ..,h⟩) ?_
  refine zB (o:=o2) (d:=m.d8) rfl (λ Q' h=>⟨_,rfl,a,_,Bv,_,_,rfl,ha,T.az,T.iX,uF ..,h⟩) ?_
  refine zB (o:=o3) (d:=m.load) rfl (λ Q' h=>⟨_,rfl,a,_,Bv,_,_,rfl,ha,T.az,T.jB,xS ..,h⟩) ?_
  intro x dx fx My Uu
  have fx':upd H dx (.own x) x=none:=by rw [aq Uu.symm];exact fx
  have s0:aC H (upd (upd H dx (.own x)) x (.ins Ad.aQ dx [])):=(ak My).trans (ak fx')
  refine ⟨x,dx,_,_,_,rfl,af,by rw [aq Uu];exact af,hb.1,hb.2.1,hb.2.2,λ H1 Uy D=>⟨rfl,?_⟩⟩
  have s1:aC H H1:=λ b o e=>D.but b o (s0 b o e) λ q=>by
    simp only [aa1,aaI,afj] at q
    rcases q with rfl|rfl
    . rw [fx] at e;cases e
    . rw [My] at e;cases e
  have acY:∀ b∈Uy,H b=none:=λ b hb=>by
    rcases D.own b hb with q|q
    . simp only [aa1,aaI,afj] at q
      rcases q with rfl|rfl
      . exact fx
      . exact My
    . exact s0.free q
  obtain ⟨⟨tY,g1,g2,g3,g4,_,_,_,_,aim,rB,QW,_⟩,_⟩:=D.at_
  have aar:H tY=none:=acY tY (by rw [aim];simp)
  have ndx:tY≠x:=dF QW rB nofun
  have B0:i4 K Ad.aQ x tY H1 H1 (kq (m.with o1 o2 o3) g1 g2 g3 g4):=.start rB
  refine ⟨_,rfl,a,_,Bv,_,_,rfl,s1 _ _ ha,T.az,T.bU,nG ..,pm,vm,rfl,.inl (aR.of (s1 _ _ gc)),λ l1 f1=>?_⟩
  have B1:=B0.new (o:=.lst vm) f1
  refine ⟨_,rfl,x,_,tY,_,rfl,B1.at_,T.az,T.bU,lt1000 rfl,?_⟩
  have B2:=B1.put (fs':=kq (m.with o1 o2 o3) l1 g2 g3 g4)
  have k2:∀ b o,H b=some o->_=some o:=λ b o h=>B2.st b o (s1 b o h) (au h fx)
  have e1:=B1.keep (u:=.ins Ad.aQ tY (kq (m.with o1 o2 o3) l1 g2 g3 g4)) af (B0.ne f1)
  refine ⟨_,rfl,a,_,Bv,_,_,rfl,k2 _ _ ha,T.az,T.dP,lF ..,pf,ax,rfl,k2 _ _ mE,fk.hash,λ l2 f2=>?_⟩
  have B3:=B2.new (o:=.dT ax) f2
  refine ⟨_,rfl,x,_,tY,_,rfl,B3.at_,T.az,T.dP,lt1000 rfl,?_⟩
  have B4:=B3.put (fs':=kq (m.with o1 o2 o3) l1 l2 g3 g4)
  have k4:∀ b o,H b=some o->_=some o:=λ b o h=>B4.st b o (s1 b o h) (au h fx)
  have kk4:=λ b o (h:_=some o) (n:b≠x)=>B3.keep (b:=b) (u:=.ins Ad.aQ tY (kq (m.with o1 o2 o3) l1 l2 g3 g4)) h n
  have e1b:=kk4 _ _ (ak (o:=.dT ax) f2 _ _ e1) (B0.ne f1)
  have e2b:=kk4 _ _ af (B2.ne f2)
  refine ⟨_,rfl,a,_,Bv,_,_,rfl,k4 _ _ ha,T.az,T.cE,io ..,ps,vs,rfl,.inl (aR.of (k4 _ _ gz)),λ l3 f3=>?_⟩
  have B5:=B4.new (o:=.lst vs) f3
  refine ⟨_,rfl,x,_,tY,_,rfl,B5.at_,T.az,T.cE,lt1000 rfl,?_⟩
  have B6:=B5.put (fs':=kq (m.with o1 o2 o3) l1 l2 l3 g4)
  have k6:∀ b o,H b=some o->_=some o:=λ b o h=>B6.st b o (s1 b o h) (au h fx)
  have kk6:=λ b o (h:_=some o) (n:b≠x)=>B5.keep (b:=b) (u:=.ins Ad.aQ tY (kq (m.with o1 o2 o3) l1 l2 l3 g4)) h n
  have e1c:=kk6 _ _ (ak (o:=.lst vs) f3 _ _ e1b) (B0.ne f1)
  have e2c:=kk6 _ _ (ak (o:=.lst vs) f3 _ _ e2b) (B2.ne f2)
  have e3c:=kk6 _ _ af (B4.ne f3)
  refine ⟨_,rfl,a,_,Bv,_,_,rfl,k6 _ _ ha,T.az,T.de,jp ..,pt,vt,rfl,.inl (aR.of (k6 _ _ gn)),λ l4 f4=>?_⟩
  have B7:=B6.new (o:=.lst vt) f4
  refine ⟨_,rfl,x,_,tY,_,rfl,B7.at_,T.az,T.de,lt1000 rfl,?_⟩
  have B8:=B7.put (fs':=kq (m.with o1 o2 o3) l1 l2 l3 l4)
  have k8:∀ b o,H b=some o->_=some o:=λ b o h=>B8.st b o (s1 b o h) (au h fx)
  have UC:=λ b o (h:_=some o) (n:b≠x)=>B7.keep (b:=b) (u:=.ins Ad.aQ tY (kq (m.with o1 o2 o3) l1 l2 l3 l4)) h n
  have e1d:=UC _ _ (ak (o:=.lst vt) f4 _ _ e1c) (B0.ne f1)
  have e2d:=UC _ _ (ak (o:=.lst vt) f4 _ _ e2c) (B2.ne f2)
  have e3d:=UC _ _ (ak (o:=.lst vt) f4 _ _ e3c) (B4.ne f3)
  have e4d:=UC _ _ af (B6.ne f4)
  have L:=HL (m':=m.with o1 o2 o3) hh ha gc mE gz gn s1 ⟨rfl,rfl,rfl,rfl⟩ B8 (B8.st _ _ QW ndx) e1d e2d e3d e4d (au e1b f3) (au e1c f4) (au e3c f4)
  refine ⟨_,rfl,k x _ _ k8 L λ c hc=>?_⟩
  simp only [aa1,aaI,afj] at hc
  rcases hc with rfl|rfl|rfl|rfl|rfl|rfl
  . exact fx
  . exact aar
  . exact s1.free f1
  . exact s1.free (B2.none f2)
  . exact s1.free (B4.none f3)
  . exact s1.free (B6.none f4)
theorem kn (T:Txt K mg Ad):By P w K mg base "hold_like" 4 ["hold","most","cap","load"] [] (qy K Ad.aQ) :=
 (jO T).Hg T.j5 λ items hv=>by
   obtain ⟨u1,u2,u3,rfl,r1,r2,r3⟩:=vals3 hv
   exact ⟨[],.nil,λ _ _ _ _ _ _ us hl=>match us,hl with | [_,_,_,_],_=>⟨_,rfl,rfl⟩⟩
theorem rG (T:Txt K mg Ad):By P w K mg base "hold_like" 4 ["hold","most","cap","load"] [.cf,.cf] (qy K Ad.aQ) :=
 (jO T).Hg T.j5 λ items hv=>by
   obtain ⟨u1,u2,u3,rfl,r1,r2,r3⟩:=vals3 hv
   exact ⟨[u2,u3],.cons r2 (.cons r3 .nil),λ _ _ _ _ _ _ us hl=>match us,(by simpa using hl:us.length=2) with | [_,_],_=>⟨_,rfl,rfl⟩⟩
theorem eD (T:Txt K mg Ad):Def P w K mg base "has_room" 1 ["bits","room"] ye:=by
 refine T.zw.cS xN λ f bA A outer s H vs Q E hr h=>?_
 obtain ⟨n,r,rfl,k⟩:=h
 refine ⟨_,(am (aF (db fc (av aX (av Bj (pv 0) (pv 1)) ai) ai (aM _)))),?_⟩
 try dsimp only [eL,aU]
 refine ⟨_,rfl,_,rfl,_,_,rfl,rfl,akt _,λ s es=>⟨_,_,rfl,rfl,by decide,λ m _ _ em=>⟨rfl,?_⟩⟩⟩
 rw [Ip n r es em]
 exact k
theorem nv (T:Txt K mg Ad):Def P w K mg base "with_room" 1 ["bits","room"] vE:=by
 refine T.wm.cS vR λ f bA A outer s H vs Q E hr h=>?_
 obtain ⟨n,r,rfl,GV,k⟩:=h
 refine ⟨_,(am (aF (av Kr (pv 0) (av Gv ai (pv 1))))),?_⟩
 try dsimp only [eL,aU]
 refine ⟨_,rfl,_,rfl,_,_,rfl,rfl,⟨akt _,by lia,by decide⟩,λ s es=>⟨_,_,rfl,rfl,λ m em=>?_⟩⟩
 have e1:s=((2 ^ r:Nat):Int):=by rw [es,ag7,Int.one_mul,Int.natCast_pow];rfl
 rw [em,e1,Cz]
 exact k
theorem jJ (T:Txt K mg Ad):Def P w K mg base "members" 2 ["bits"] Ab:=by
 refine T.Ci.cS zd λ f bA A outer s H vs Q E hr h=>?_
 obtain ⟨n,rfl,hn,k⟩:=h
 refine ⟨_,(am (aF (fM ["room"] ["bits"] [0] (.cons ⟨rfl,rfl,.inl rfl⟩ .nil) rfl (cH rfl T.eW (aa (Kl PySem.F.plainAttrs_int PySem.F.slot_int_bit_length PySem.F.type_int_bit_length BK (pv 0)) ac)) (λ _ _ _ _ _=>(aA (i:=0) (show (["room","bits"]:List Str).Nodup by decide +kernel) rfl (lc rfl))) (λ _ _ _ _ _=>(jP (cC (ar (eD (K:=K) T) hr.m (aa (pv 1) (aa (pv 0) ac)))))) (λ _ _ _ _ _=>(pv 0)) rfl (by decide +kernel) (by decide +kernel) (by decide +kernel)))),?_⟩
 try dsimp only [eL,aU]
 refine ⟨_,rfl,rfl,_,rfl,rfl,λ b eb=>?_⟩
 have hb:Builtin.Int.intBits (n:Int)<=61:=PySem.intBits_le_iff.mpr (by simpa using hn)
 have Ig:n<2 ^ Builtin.Int.intBits (n:Int):=by
   have:=PySem.intBits_le_iff.mp (aaU (Builtin.Int.intBits (n:Int)))
   simpa using this
 have eN:b.toNat=Builtin.Int.intBits (n:Int):=by lia
 refine ⟨b,rfl,by lia,by lia,λ D hD=>?_⟩
 refine fJ (λ i acc U H'=>A3 (H'=upd H D (.lst acc)) (acc=((List.range i).filter n.testBit).map al) (∃ v,U=[v,some (al n)])) ⟨rfl,rfl,none,rfl⟩ ?_ ?_
 .
  rintro i acc U H' hi ⟨rfl,rfl,v,rfl⟩
  refine ⟨_,rfl,_,rfl,n,i,(by show [_,_]=[_,_];rw [af8];rfl),_,rfl,?_⟩
  have er:((List.range (i+1)).filter n.testBit).map al=((List.range i).filter n.testBit).map al++(if n.testBit i=true then [al i] else []):=by
    rw [agC,ahz,aaN]
    by_cases q:n.testBit i=true<;>simp [q]
  by_cases q:n.testBit i=true
  .
   rw [q]
   refine gS ⟨_,rfl,af,?_,?_,?_,_,rfl⟩
   . have:=agg n.testBit (List.range i)
     rw [abU] at this
     rw [zN]
     exact aT (by lia)
   . rw [kZ]
   . rw [er,ady q,af8];rfl
  . rw [Bool.not_eq_true] at q
    rw [q]
    refine fX ⟨rfl,?_,_,rfl⟩
    rw [er,q];simp
 . rintro acc U H' ⟨rfl,rfl,v,rfl⟩
   refine k D _ hD (ak hD) ?_
   rw [af,eN,Bit.Ac Ig hb]
theorem qK (T:Txt K mg Ad):Def P w K mg base "subsets" 3 ["bits"] zo:=by
 refine T.C0.cS jS λ f bA A outer s H vs Q E hr h=>?_
 obtain ⟨n,rfl,hn,h8,k⟩:=h
 refine ⟨_,(ag (aD (i:=1) jS.nd rfl (lc rfl) (cx (aa ai ac)))
     (ag (cL adG rfl (bK (ar (jJ (K:=K) T) hr.m (aa (pv 0) ac))) (aA (i:=2) jS.nd rfl (lc rfl)) (am (aD (i:=1) jS.nd rfl (lc rfl) (av Ep (pv 1) (fM ["part"] ["room"] [2] (.cons ⟨rfl,rfl,.inl rfl⟩ .nil) rfl (bK (pv 1)) (λ _ _ _ _ _=>(aA (i:=0) (show (["part","room"]:List Str).Nodup by decide +kernel) rfl (lc rfl))) (λ _ _ _ _ _=>cr) (λ _ _ _ _ _=>(ar (nv (K:=K) T) hr.m (aa (pv 0) (aa (pv 1) ac)))) rfl (by decide +kernel) (by decide +kernel) (by decide +kernel))))))
     (am (aF (pv 1))))),?_⟩
 try dsimp only [eL,aU]
 first|(refine dC ?_;intro _ _ _ _)|skip
 refine ⟨(by show 1<=sizeLine;decide),λ p0 MK=>⟨_,rfl,n,rfl,hn,λ pm Hm gc sm km=>⟨pm,rfl,⟨_,aR.of km⟩,?_⟩⟩⟩
 have s0:=(ak (o:=.lst [.int 0]) MK).trans sm
 refine je (K:=K) (a:=pm) (xs:=(Bit.rooms n).map al) (λ i U H'=>aC Hm H'/\E2 λ (pp:Addr) (v:Option V)=>A3 (H pp=none) (U=[some (al n),some (.ref pp),v]) (H' pp=some (.lst ((Bit.parts ((Bit.rooms n).take i)).map al))))
   ⟨aC.refl _,p0,none,MK,rfl,sm _ _ af⟩ (λ i U H' _ ⟨s1,_⟩=>aR.of (s1 _ _ km)) ?_ ?_
 .
  rintro i x U H' hx ⟨s1,pp,v,qS,rfl,kp⟩
  obtain ⟨r,er,rfl⟩:=cY hx
  have hil:i<(Bit.rooms n).length:=(List.getElem?_eq_some_iff.mp er).1
  have aqy:r<61:=(Bit.fO.mp (aaK er)).1
  have apx:(Bit.parts ((Bit.rooms n).take i)).length<=256:=by
    rw [(Iv n i).len,adS]
    exact acS (ahb (by decide) (by lia:min i (Bit.rooms n).length<=8)) (by decide)
  have next:Bit.parts ((Bit.rooms n).take (i+1))=Bit.parts ((Bit.rooms n).take i)++(Bit.parts ((Bit.rooms n).take i)).map (· ||| 2 ^ r):=by
    rw [bz er,yI]
  generalize Bit.parts ((Bit.rooms n).take i)=ps at *
  refine ⟨_,rfl,_,rfl,pp,rfl,⟨_,aR.of kp⟩,λ D hD=>?_⟩
  have nD:pp≠D:=au kp hD
  refine cu (K:=K) (a:=pp) (xs:=ps.map al) (λ j acc σ' H2=>A3 (H2=upd H' D (.lst acc)) (acc=(ps.take j).map (λ p=>al (p ||| 2 ^ r))) (∃ v,σ'=[v,some (al r)])) ⟨rfl,rfl,none,rfl⟩
    (λ j acc σ' H2 _ ⟨e,_,_⟩=>by subst e;exact aR.of (by rw [aq nD];exact kp)) ?_ ?_
  .
   rintro j y acc σ' H2 hy ⟨rfl,rfl,v2,rfl⟩
   obtain ⟨p,ep,rfl⟩:=cY hy
   refine ⟨_,rfl,_,rfl,p,r,rfl,by lia,af,?_,?_,?_,_,rfl⟩
   . rw [zN,adS];exact aT (by lia)
   . rw [kZ]
   . rw [bz ep,aaN];rfl
  .
   rintro acc σ' H2 ⟨rfl,rfl,v2,rfl⟩
   rw [zN,adc]
   refine ⟨pp,D,_,_,rfl,rfl,(by rw [aq nD];exact kp),af,?_,λ q hq=>?_⟩
   . rw [zN,zN];exact akV (aT (by lia))
   . have s2:=ak (o:=.lst (ps.map λ p=>al (p ||| 2 ^ r))) hD
     have s3:=ak (o:=.lst (ps.map al++ps.map λ p=>al (p ||| 2 ^ r))) hq
     refine ⟨s1.trans (s2.trans s3),q,_,s0.free (s1.free (s2.free hq)),rfl,?_⟩
     rw [af,next,aaN,ak5];rfl
 . rintro U H' ⟨s1,pp,v,qS,rfl,kp⟩
   rw [zN,adc] at kp
   exact ⟨_,rfl,k pp H' qS (s0.trans s1) kp⟩
theorem pN (T:Txt K mg Ad):Def P w K mg base "how_many" 3 ["bits"] yd:=by
 refine T.yZ.cS xW λ f bA A outer s H vs Q E hr h=>?_
 obtain ⟨n,rfl,hn,k⟩:=h
 refine ⟨_,(am (aF (aS bx (by rfl) T.fm c8 (aa (ar (jJ (K:=K) T) hr.m (aa (pv 0) ac)) ac)))),?_⟩
 try dsimp only [eL,aU]
 refine ⟨_,rfl,n,rfl,hn,λ pm Hm gc sm km=>⟨pm,_,rfl,.inl (aR.of km),λ y ey=>?_⟩⟩
 rw [zN] at ey
 rw [ey]
 exact k Hm sm
theorem mh (T:Txt K mg Ad):Def P w K mg base "bits_of" 2 ["rooms"] (CJ K):=by
 refine T.Ck.cS jy λ f bA A outer s H vs Q E hr h=>?_
 obtain ⟨p,l,rfl,hp,hl,k⟩:=h
 refine ⟨_,(ag (aD (i:=1) jy.nd rfl (lc rfl) ai)
     (ag (cL adG rfl (bK (pv 0)) (aA (i:=2) jy.nd rfl (lc rfl)) (am (aD (i:=1) jy.nd rfl (lc rfl) (ar (nv (K:=K) T) hr.m (aa (pv 1) (aa (pv 2) ac))))))
     (am (aF (pv 1))))),?_⟩
 try dsimp only [eL,aU]
 first|(refine dC ?_;intro _ _ _ _)|skip
 refine ⟨_,rfl,p,rfl,⟨_,hp⟩,?_⟩
 refine je (K:=K) (a:=p) (xs:=l.map al) (λ i U H'=>H'=H/\∃ v,U=[some (.ref p),some (al (Bit.sumOf (l.take i))),v]) ⟨rfl,none,rfl⟩ (λ i U H' _ e=>by rw [e.1];exact hp) ?_ ?_
 .
  rintro i x U H' hx ⟨rfl,v,rfl⟩
  obtain ⟨r,er,rfl⟩:=cY hx
  have en:Bit.sumOf (l.take (i+1))=Bit.sumOf (l.take i) ||| 2 ^ r:=by
    rw [bz er]
    unfold Bit.sumOf
    rw [ajV]
    rfl
  exact ⟨_,rfl,_,rfl,_,r,rfl,hl r (aaK er),rfl,_,by rw [en];rfl⟩
 . rintro U H' ⟨rfl,v,rfl⟩
   rw [zN,adc]
   exact ⟨_,rfl,k⟩
theorem sZ (T:Txt K mg Ad):Def P w K mg base "fits_stove" 1 ["stove","fired","wait","failed"] (tj K):=by
 refine T.uR.cS iZ λ f bA A outer s H vs Q E hr h=>?_
 obtain ⟨v,z,f,w',b,rfl,hd,hf,k⟩:=h
 refine ⟨_,(ag (bv (aO j8 (pv 0) cy (aM _)) (am (aF (mJ (uT (pv 1)) (mJ (db fc (pv 2) ai (aM _)) (mH (db fc (pv 3) ai (aM _))))))) aJ)
     (ag (iy (kr Bq (pv 0) (nI ai) nX) (cW (K:=K) (n:=2) rfl rfl (aN (aA (i:=4) iZ.nd rfl (lc rfl)) (aN (aA (i:=5) iZ.nd rfl (lc rfl)) cV))))
     (ag (bv (PW.pt (ub (dJ (jc iG iG ai (pv 2) (pv 4))) (rS (dJ (jc iG iG ai (pv 3) (pv 5)))))) (am (aF mX)) aJ)
     (am (aF (OJ (db fc (pv 3) ai (aM _)) (mH (mJ (uT (pv 1)) (mH (db fc (pv 2) ai (aM _))))))))))),?_⟩
 try dsimp only [eL,aU]
 first|(refine eI ?_;intro _ _ _ _ _)|skip
 cases z with
 | none =>
   obtain ⟨rfl,rfl,rfl⟩:=hf
   have hd:v = .cf:=hd
   subst hd
   exact ⟨_,rfl,rfl,_,rfl,oM rfl ⟨_,rfl,_,rfl,_,rfl,gS ⟨_,rfl,rfl,_,rfl,oM rfl ⟨_,rfl,rfl,blT rfl (k H (aC.refl _))⟩⟩⟩⟩
 | some z =>
   obtain ⟨p,v1,rfl,hp,_⟩:=hd.cp
   refine ⟨_,rfl,rfl,_,rfl,n6 nofun ?_⟩
   refine ⟨_,rfl,2,rfl,p,_,2,rfl,hp,rfl,rfl,by decide,(by show 2<=4;decide),λ q hq=>?_⟩
   refine ⟨q,_,rfl,bO.of af,rfl,_,_,rfl,_,_,rfl,rfl,?_⟩
   have s1:=ak (o:=.tup [V.int z.2.2.1,V.int z.2.2.2]) hq
   obtain ⟨f1,f2,f3⟩:=hf
   refine ⟨_,rfl,_,_,rfl,rfl,_,rfl,oM (by lia) ⟨_,rfl,_,_,rfl,rfl,_,rfl,eZ f1 ?_⟩⟩
   refine ⟨_,rfl,_,_,rfl,rfl,_,rfl,oM (by lia) ⟨_,rfl,_,_,rfl,rfl,_,rfl,eZ f2 ?_⟩⟩
   refine ⟨_,rfl,rfl,_,rfl,?_⟩
   rcases f3 with rfl|⟨rfl,rfl⟩
   . exact oM rfl (k _ s1)
   . refine ji (λ _=>k _ s1) (λ _=>⟨_,rfl,_,rfl,_,rfl,gS ⟨_,rfl,rfl,blT rfl (k _ s1)⟩⟩)
theorem vQ (T:Txt K mg Ad):Def P w K mg base "fits_room" 5 ["hold","state","room"] (uD K Ad.aQ):=by
 refine T.xy.cS eQ λ f bA A outer s H vs Q E hr h=>?_
 obtain ⟨a,fp,m,p,st,i,rfl,hh,hs,ok,hi,k⟩:=h
 refine ⟨_,(ag (iy (pv 1) (cW (K:=K) (n:=5) rfl rfl (aN (aA (i:=3) eQ.nd rfl (lc rfl)) (aN (aA (i:=4) eQ.nd rfl (lc rfl)) (aN (aA (i:=5) eQ.nd rfl (lc rfl)) (aN (aA (i:=6) eQ.nd rfl (lc rfl)) (aN (aA (i:=7) eQ.nd rfl (lc rfl)) cV)))))))
     (ag (bv (dJ (jc iG ky ai (aB aw (pv 3) (pv 2) (λ _ _=>rfl)) (av dX (aS bx (by rfl) T.fm c8 (aa (aK (pv 0) T.az (ed (K:=K) T) .nil hr.m (aa (pv 2) ac)) ac)) ai))) (am (aF mX)) aJ)
     (am (aF (ar (sZ (K:=K) T) hr.m (aa (aK (pv 0) T.az (dA (K:=K) T) .nil hr.m (aa (pv 2) ac)) (aa (ar (eD (K:=K) T) hr.m (aa (pv 4) (aa (pv 2) ac))) (aa (aB aw (pv 5) (pv 2) (λ _ _=>rfl)) (aa (aB aw (pv 6) (pv 2) (λ _ _=>rfl)) ac))))))))),?_⟩
 try dsimp only [eL,aU]
 first|(refine dC ?_;intro _ _ _ _)|skip
 obtain ⟨pb,pw,pf,e0,eb,ew,ef⟩:=id hs
 obtain ⟨⟨dx,_,_,_,_,_,_,_,_,_,ha,_⟩,q1,q2,q3,q4⟩:=id hh
 have uH:=aE hi
 have Ko:m.rows.getD i []=m.rows[i]:=by rw [UZ,uH];rfl
 have hb:=ok.band i hi
 rw [Ko] at hb
 have l7:=q4.len m.rows[i] (acx hi)
 have hz:=kR (m:=m) (i:=i) (by lia)
 refine ⟨_,rfl,p,_,rfl,e0,rfl,_,_,rfl,_,_,rfl,_,_,rfl,_,_,rfl,_,_,rfl,rfl,?_⟩
 refine ⟨_,rfl,_,rfl,_,_,_,_,rfl,rfl,.inr eb,sI (by rw [ok.lb];exact hi),_,_,rfl,rfl,_,rfl,oM (by lia) ?_⟩
 refine ⟨_,rfl,a,dx,_,rfl,ha,rfl,_,rfl,a,fp,m,i,_,rfl,hh,uH,λ pm xs gc yn=>⟨pm,xs,rfl,.inl (aR.of af),λ y ey=>⟨_,_,rfl,rfl,λ z ez=>⟨_,_,rfl,rfl,_,rfl,eZ ?_ ?_⟩⟩⟩⟩
 . have:=yn.length
   rw [zN] at this
   lia
 have s1:=ak (o:=.lst xs) gc
 refine ⟨_,rfl,a,dx,_,rfl,s1 _ _ ha,rfl,_,rfl,a,fp,m,i,_,rfl,hh.same s1,hz,λ v dv=>?_⟩
 refine ⟨_,rfl,_,rfl,st.bW,i,rfl,?_⟩
 refine ⟨_,rfl,_,rfl,_,_,_,_,rfl,rfl,.inr (s1.tup ew),sI (by rw [ok.lw];exact hi),?_⟩
 refine ⟨_,rfl,_,rfl,_,_,_,_,rfl,rfl,.inr (s1.tup ef),sI (by rw [ok.lf];exact hi),?_⟩
 exact ⟨v,m.mv i,_,_,_,rfl,dv,ok.cp i hi,λ H' s'=>k H' (s1.trans s')⟩
theorem xi (T:Txt K mg Ad):Def P w K mg base "is_state" 6 ["hold","state"] (xz K Ad.aQ):=by
 refine T.zh.cS d9 λ f bA A outer s H vs Q E hr h=>?_
 obtain ⟨a,fp,m,p,st,rfl,hh,hs,ok,k⟩:=h
 refine ⟨_,(ag (iy (pv 1) (cW (K:=K) (n:=5) rfl rfl (aN (aA (i:=2) d9.nd rfl (lc rfl)) (aN (aA (i:=3) d9.nd rfl (lc rfl)) (aN (aA (i:=4) d9.nd rfl (lc rfl)) (aN (aA (i:=5) d9.nd rfl (lc rfl)) (aN (aA (i:=6) d9.nd rfl (lc rfl)) cV)))))))
     (ag (aD (i:=7) d9.nd rfl (lc rfl) (eX (pv 0) T.az (cg (K:=K) T) .nil hr.m))
     (ag (bv (PW.pt (ub (aO sD (aS bx (by rfl) T.fm c8 (aa (pv 2) ac)) (pv 7) (aM _)) (ub (aO sD (aS bx (by rfl) T.fm c8 (aa (pv 4) ac)) (pv 7) (aM _)) (rS (aO sD (aS bx (by rfl) T.fm c8 (aa (pv 5) ac)) (pv 7) (aM _)))))) (am (aF mX)) aJ)
     (ag (bv (PW.pt (ub (aO sD (av Bj (pv 3) (pv 7)) ai (aM _)) (rS (aO xR (ar (pN (K:=K) T) hr.m (aa (pv 3) ac)) (aH (pv 0) rfl) (aM _))))) (am (aF mX)) aJ)
     (ag (bv (dJ (jc iG iG ai (pv 6) (aH (pv 0) rfl))) (am (aF mX)) aJ)
     (am (aF (aS (uz rfl) (by rfl) T.J6 FT (aa (fM ["room"] ["hold","state"] [0,1] (.cons ⟨rfl,rfl,.inl rfl⟩ (.cons ⟨rfl,rfl,.inl rfl⟩ .nil)) rfl (cH rfl T.eW (aa (pv 7) ac)) (λ _ _ _ _ _=>(aA (i:=0) (show (["room","hold","state"]:List Str).Nodup by decide +kernel) rfl (lc rfl))) (λ _ _ _ _ _=>cr) (λ _ _ _ _ _=>(ar (vQ (K:=K) T) hr.m (aa (pv 1) (aa (pv 2) (aa (pv 0) ac))))) rfl (by decide +kernel) (by decide +kernel) (by decide +kernel)) ac))))))))),?_⟩
 try dsimp only [eL,aU]
 first|(refine nO ?_;intro _ _ _ _ _ _ _)|skip
 obtain ⟨pb,pw,pf,e0,eb,ew,ef⟩:=id hs
 obtain ⟨⟨dx,pm,GD,HS,HG,vm,vs,vt,ax,_,ha,_⟩,q1,q2,q3,q4⟩:=id hh
 have ahA:st.bW<2 ^ 61:=acK ok.bW (ahb (by decide) (by lia))
 refine ⟨_,rfl,p,_,rfl,e0,rfl,_,_,rfl,_,_,rfl,_,_,rfl,_,_,rfl,_,_,rfl,rfl,?_⟩
 refine ⟨_,rfl,a,dx,_,rfl,ha,rfl,a,fp,m,rfl,hh,?_⟩
 refine ⟨_,rfl,pb,_,rfl,.inr eb,λ y ey=>⟨_,rfl,rfl,_,rfl,eZ (by rw [ey,zN,ok.lb];rfl) ?_⟩⟩
 refine ⟨_,rfl,pw,_,rfl,.inr ew,λ y ey=>⟨_,rfl,rfl,_,rfl,eZ (by rw [ey,zN,ok.lw];rfl) ?_⟩⟩
 refine ⟨_,rfl,pf,_,rfl,.inr ef,λ y ey=>⟨_,rfl,rfl,_,rfl,eZ (by rw [ey,zN,ok.lf];rfl) ?_⟩⟩
 refine ⟨_,rfl,_,rfl,_,_,rfl,rfl,akt _,λ s es=>⟨rfl,_,rfl,eZ ?_ ?_⟩⟩
 . rw [es,ag7]
   have:((st.bW:Nat):Int) / 2 ^ m.rows.length=0:=Int.ediv_eq_zero_of_lt (akt _) (by exact_mod_cast ok.bW)
   rw [this]
 refine ⟨_,rfl,st.bW,rfl,ahA,λ H1 s1=>⟨_,rfl,a,_,dx,_,_,rfl,s1 _ _ ha,T.az,T.ie,rM ..,_,_,rfl,rfl,_,rfl,n6 (by have:=ok.most;lia) ?_⟩⟩
 refine ⟨_,rfl,_,_,rfl,rfl,_,rfl,oM (by lia) ⟨_,rfl,a,_,dx,_,_,rfl,s1 _ _ ha,T.az,T.iX,uF ..,_,_,rfl,rfl,_,rfl,eZ ok.heap ?_⟩⟩
 refine ⟨_,rfl,_,rfl,by lia,by lia,λ D hD=>?_⟩
 refine fJ (lo:=0) (n:=m.rows.length) (λ i acc U H'=>A4 (aC H1 H') (H' D=some (.lst acc)) (acc=(List.replicate i true).map V.bl) (∃ v,U=[v,some (.ref a),some (.ref p)])) ⟨ak hD,af,rfl,none,rfl⟩ ?_ ?_
 . rintro i acc U H' hi ⟨s2,iq,rfl,v,rfl⟩
   refine ⟨_,rfl,_,rfl,_,rfl,a,fp,m,p,st,i,(by rw [af8];rfl),hh.same (s1.trans s2),hs.same (s1.trans s2),ok,hi,λ H3 s3=>⟨s3 _ _ iq,aT (by rw [zN,akW];lia),(s2.trans s3).put hD,af,?_,_,rfl⟩⟩
   rw [List.replicate_succ',aaN];rfl
 .
  rintro acc U H' ⟨s2,iq,rfl,v,rfl⟩
  refine ⟨D,_,rfl,aR.of iq,?_⟩
  have:(List.replicate m.rows.length true).all id=true:=by
    rw [alI]
    intro x hx
    exact (List.mem_replicate.mp hx).2
  rw [this]
  exact k H' (s1.trans s2)
theorem jh (T:Txt K mg Ad):Def P w K mg base "look_at_state" 7 ["hold","state"] (tz K Ad.aQ):=by
 refine T.pS.cS o9 λ f bA A outer s H vs Q E hr h=>?_
 obtain ⟨a,fp,m,p,st,rfl,hh,hs,ok,k⟩:=h
 refine ⟨_,(am (bv (dJ (cC (ar (xi (K:=K) T) hr.m (aa (pv 0) (aa (pv 1) ac))))) (am bY) aJ)),?_⟩
 try dsimp only [eL,aU]
 exact ⟨_,rfl,_,rfl,a,fp,m,p,st,rfl,hh,hs,ok,λ H' s'=>⟨_,rfl,fX (k H' s')⟩⟩
theorem lO (T:Txt K mg Ad):Def P w K mg base "with_stove" 5 ["hold"] (sP K Ad.aQ):=by
 refine T.uS.cS sS λ f bA A outer s H vs Q E hr h=>?_
 obtain ⟨a,fp,m,rfl,hh,k⟩:=h
 refine ⟨_,(am (aF (ar (mh (K:=K) T) hr.m (aa (fM ["room"] ["hold"] [0] (.cons ⟨rfl,rfl,.inl rfl⟩ .nil) rfl (cH rfl T.eW (aa (eX (pv 0) T.az (cg (K:=K) T) .nil hr.m) ac)) (λ _ _ _ _ _=>(aA (i:=0) (show (["room","hold"]:List Str).Nodup by decide +kernel) rfl (lc rfl))) (λ _ _ _ _ _=>(jP (aO lG (aK (pv 1) T.az (dA (K:=K) T) .nil hr.m (aa (pv 0) ac)) cy (aM _)))) (λ _ _ _ _ _=>(pv 0)) rfl (by decide +kernel) (by decide +kernel) (by decide +kernel)) ac)))),?_⟩
 try dsimp only [eL,aU]
 obtain ⟨⟨dx,pm,GD,HS,HG,vm,vs,vt,ax,_,ha,_⟩,q1,q2,q3,q4⟩:=id hh
 refine ⟨_,rfl,a,dx,_,rfl,ha,rfl,a,fp,m,rfl,hh,_,rfl,by lia,by lia,λ D hD=>?_⟩
 refine fJ (lo:=0) (n:=m.rows.length) (λ i acc U H'=>A4 (aC H H') (H' D=some (.lst acc)) (acc=((List.range i).filter m.has).map al) (∃ v,U=[v,some (.ref a)])) ⟨ak hD,af,rfl,none,rfl⟩ ?_ ?_
 .
  rintro i acc U H' hi ⟨s1,lY,rfl,v,rfl⟩
  have hz:=kR (m:=m) (i:=i) (by lia)
  have er:((List.range (i+1)).filter m.has).map al=((List.range i).filter m.has).map al++(if m.has i=true then [al i] else []):=by
    rw [agC,ahz,aaN]
    by_cases q:m.has i=true<;>simp [q]
  have la:=agg m.has (List.range i)
  rw [abU] at la
  refine ⟨_,rfl,a,dx,_,rfl,s1 _ _ ha,rfl,_,rfl,a,fp,m,i,_,(by rw [af8];rfl),hh.same s1,hz,λ v dv=>⟨rfl,_,rfl,?_⟩⟩
  cases e:m.mv i with
  | none =>
    rw [e] at dv
    have dv:v = .cf:=dv
    have hn:m.has i=false:=by unfold ao.has;rw [e];rfl
    refine eZ dv ⟨s1,lY,?_,_,rfl⟩
    rw [er,hn];simp
  | some z =>
    rw [e] at dv
    obtain ⟨pz,_,rfl,_⟩:=dv.cp
    have hn:m.has i=true:=by unfold ao.has;rw [e];rfl
    refine OK nofun ⟨_,rfl,lY,aT (by rw [zN];lia),s1.put hD,af,?_,_,rfl⟩
    rw [er,hn,af8];rfl
 . rintro acc U H' ⟨s1,lY,rfl,v,rfl⟩
   exact ⟨D,(List.range m.rows.length).filter m.has,rfl,aR.of lY,λ r hr=>by have:=List.mem_range.mp (List.mem_filter.mp hr).1;lia,k H' s1⟩
theorem qX (T:Txt K mg Ad):Def P w K mg base "wood_of" 6 ["hold","bits"] (zL K Ad.aQ):=by
 refine T.BI.cS Af λ f bA A outer s H vs Q E hr h=>?_
 obtain ⟨a,fp,m,b,rfl,hh,k⟩:=h
 refine ⟨_,(am (aF (aS (Cj rfl) (by rfl) T.SD Lw (aa (fM ["room"] ["hold"] [0] (.cons ⟨rfl,rfl,.inl rfl⟩ .nil) rfl (bK (ar (jJ (K:=K) T) hr.m (aa (av kQ (pv 1) (ar (lO (K:=K) T) hr.m (aa (pv 0) ac))) ac))) (λ _ _ _ _ _=>(aA (i:=0) (show (["room","hold"]:List Str).Nodup by decide +kernel) rfl (lc rfl))) (λ _ _ _ _ _=>cr) (λ _ _ _ _ _=>(aB (gF (K:=K) rfl) (aK (pv 1) T.az (dA (K:=K) T) .nil hr.m (aa (pv 0) ac)) ai (λ _ _=>rfl))) rfl (by decide +kernel) (by decide +kernel) (by decide +kernel)) ac)))),?_⟩
 try dsimp only [eL,aU]
 obtain ⟨⟨dx,pm,GD,HS,HG,vm,vs,vt,ax,_,ha,_⟩,q1,q2,q3,q4⟩:=id hh
 refine ⟨_,rfl,_,rfl,a,fp,m,rfl,hh,λ H1 s1=>⟨_,_,rfl,rfl,λ y ey=>⟨b &&& m.ws,(by rw [ey,mq];rfl),?_,λ pl Hm gT sm km=>⟨pl,rfl,⟨_,aR.of km⟩,λ D hD=>?_⟩⟩⟩⟩
 . exact ab2 alH (alP (qY q3) (by decide))
 have S1:=s1.trans sm
 have lr:=uk (b &&& m.ws)
 have nD:pl≠D:=au km hD
 refine cu (K:=K) (a:=pl) (xs:=(Bit.rooms (b &&& m.ws)).map al) (λ j acc U H'=>A4 (aC Hm H') (H' D=some (.lst acc)) (acc=(((Bit.rooms (b &&& m.ws)).take j).map m.wd).map V.int) (∃ v,U=[v,some (.ref a)]))
   ⟨ak hD,af,rfl,none,rfl⟩ (λ j acc U H' _ e=>aR.of (e.1 _ _ km)) ?_ ?_
 .
  rintro j x acc U H' hx ⟨s2,iq,rfl,v,rfl⟩
  obtain ⟨r,er,rfl⟩:=cY hx
  have hm:=(Bit.fO.mp (aaK er)).2
  rw [ah6,ao.ws,Ord.ig,aga,aga,ajC] at hm
  obtain ⟨_,GV,Gj⟩:=hm
  obtain ⟨z,ez⟩:=Option.isSome_iff_exists.mp Gj
  have hz:=kR (m:=m) (i:=r) (by lia)
  have hj:j<(Bit.rooms (b &&& m.ws)).length:=(List.getElem?_eq_some_iff.mp er).1
  refine ⟨_,rfl,a,dx,_,rfl,(S1.trans s2) _ _ ha,rfl,_,rfl,a,fp,m,r,_,rfl,hh.same (S1.trans s2),hz,λ u du=>?_⟩
  rw [ez] at du
  obtain ⟨pz,v1,rfl,AD,_⟩:=du.cp
  refine ⟨pz,_,_,_,rfl,rfl,.inr AD,rfl,iq,aT (by rw [zN,zN,adS];lia),s2.put hD,af,?_,_,rfl⟩
  rw [bz er,aaN,aaN]
  have:m.wd r=z.2.1:=by unfold ao.wd;rw [ez];rfl
  show _=_++[V.int (m.wd r)]
  rw [this]
 .
  rintro acc U H' ⟨s2,iq,rfl,v,rfl⟩
  rw [zN,adc] at iq
  refine ⟨D,_,rfl,aR.of iq,λ r er=>?_⟩
  rw [er]
  exact k H' (S1.trans s2)
theorem uE (T:Txt K mg Ad):Def P w K mg base "must_stay" 3 ["state"] (uB K):=by
 refine T.xh.cS vy λ f bA A outer s H vs Q E hr h=>?_
 obtain ⟨p,st,rfl,hs,l4,k⟩:=h
 refine ⟨_,(am (aF (ar (mh (K:=K) T) hr.m (aa (fM ["room","wait"] [] [] .nil rfl (Ks rfl T.cR (aa (aB aw (pv 0) ai (λ _ _=>rfl)) ac)) (λ _ _ _ _ _=>(cW (K:=K) (n:=2) rfl rfl (aN (aA (i:=0) (show (["room","wait"]:List Str).Nodup by decide +kernel) rfl (lc rfl)) (aN (aA (i:=1) (show (["room","wait"]:List Str).Nodup by decide +kernel) rfl (lc rfl)) cV)))) (λ _ _ _ _ _=>(jP (aO xR (pv 1) ai (aM _)))) (λ _ _ _ _ _=>(pv 0)) rfl (by decide +kernel) (by decide +kernel) (by decide +kernel)) ac)))),?_⟩
 try dsimp only [eL,aU]
 obtain ⟨pb,pw,pf,e0,eb,ew,ef⟩:=id hs
 refine ⟨_,rfl,p,_,_,_,rfl,rfl,.inr e0,rfl,pw,rfl,⟨_,ew⟩,λ D hD=>?_⟩
 refine jD (sq:=bO K) (a:=pw) (xs:=st.gi.map al) (λ i acc U H'=>A4 (aC H H') (H' D=some (.lst acc)) (acc=((List.range i).filter st.wt).map al) (E2 λ v0 v1=>U=[v0,v1]))
   ⟨ak hD,af,rfl,none,none,rfl⟩ (λ i acc U H' _ e=>e.1.tup ew) ?_ ?_
 .
  rintro i x pp acc U H' hx qS ⟨s1,lY,rfl,v0,v1,rfl⟩
  obtain ⟨wv,ewv,rfl⟩:=cY hx
  have hi:i<st.gi.length:=(List.getElem?_eq_some_iff.mp ewv).1
  have eg:gN st.gi i=wv:=by unfold gN;rw [ewv];rfl
  have s2:aC H' (upd H' pp (.tup [al i,al wv])):=ak qS
  have nD:D≠pp:=au lY qS
  have iq:=s2 _ _ lY
  have la:=agg st.wt (List.range i)
  rw [abU] at la
  refine ⟨pp,_,rfl,bO.of af,rfl,_,_,rfl,_,_,rfl,rfl,?_⟩
  refine ⟨_,rfl,_,_,rfl,rfl,_,rfl,ji (λ h=>?_) (λ h=>?_)⟩
  . have hw:st.wt i=true:=by unfold bZ.wt;rw [eg];exact adD (by lia)
    refine ⟨_,rfl,iq,aT (by rw [zN];lia),(s1.trans s2).put hD,af,?_,_,_,rfl⟩
    rw [agC,ahz,aaN]
    simp [hw]
  . have hw:st.wt i=false:=by unfold bZ.wt;rw [eg];exact ac7 (by lia)
    refine ⟨s1.trans s2,iq,?_,_,_,rfl⟩
    rw [agC,ahz,aaN]
    simp [hw]
 . rintro acc U H' ⟨s1,lY,rfl,v0,v1,rfl⟩
   rw [zN] at lY
   exact ⟨D,(List.range st.gi.length).filter st.wt,rfl,aR.of lY,λ r hr=>by have:=List.mem_range.mp (List.mem_filter.mp hr).1;lia,k H' s1⟩
theorem xZ (T:Txt K mg Ad):Def P w K mg base "can_burn" 7 ["hold","order","heap"] (yy K Ad.aQ):=by
 refine T.yY.cS wJ λ f bA A outer s H vs Q E hr h=>?_
 obtain ⟨a,fp,m,o,hp,rfl,hh,ho,k⟩:=h
 refine ⟨_,(am (aF (mJ (db iG (ar (pN (K:=K) T) hr.m (aa (pv 1) ac)) (aH (pv 0) rfl) (aM _)) (mH (db iG (ar (qX (K:=K) T) hr.m (aa (pv 0) (aa (pv 1) ac))) (pv 2) (aM _)))))),?_⟩
 try dsimp only [eL,aU]
 obtain ⟨⟨dx,pm,GD,HS,HG,vm,vs,vt,ax,_,ha,_⟩,q1,q2,q3,q4⟩:=id hh
 refine ⟨_,rfl,o,rfl,ho,λ H1 s1=>⟨_,rfl,a,_,dx,_,_,rfl,s1 _ _ ha,T.az,T.ie,rM ..,_,_,rfl,rfl,_,rfl,ji (λ h=>?_) (λ h=>?_)⟩⟩
 .
  refine ⟨_,rfl,_,rfl,a,fp,m,o,rfl,hh.same s1,λ H2 s2=>⟨_,rfl,_,_,rfl,rfl,?_⟩⟩
  have e:m.Gg o hp=decide (m.kh o<=hp):=by unfold ao.Gg;rw [adD h,Bool.true_and]
  have:=k H2 (s1.trans s2)
  rw [e] at this
  exact this
 .
  have e:m.Gg o hp=false:=by unfold ao.Gg;rw [ac7 h,amz]
  have:=k H1 s1
  rw [e] at this
  exact this
theorem vY (T:Txt K mg Ad):Def P w K mg base "orders_of" 8 ["hold","state"] (uJ K Ad.aQ):=by
 refine T.xt.cS jR λ f bA A outer s H vs Q E hr h=>?_
 obtain ⟨a,fp,m,p,st,rfl,hh,hs,ok,k⟩:=h
 refine ⟨_,(ag (aW (ar (jh (K:=K) T) hr.m (aa (pv 0) (aa (pv 1) ac))))
     (ag (aD (i:=2) jR.nd rfl (lc rfl) (ar (uE (K:=K) T) hr.m (aa (pv 1) ac)))
     (ag (aD (i:=3) jR.nd rfl (lc rfl) (av kQ (aB aw (pv 1) ai (λ _ _=>rfl)) (pv 2)))
     (am (aF (fM ["order"] ["going_on","hold","held","state"] [3,0,2,1] (.cons ⟨rfl,rfl,.inl rfl⟩ (.cons ⟨rfl,rfl,.inl rfl⟩ (.cons ⟨rfl,rfl,.inl rfl⟩ (.cons ⟨rfl,rfl,.inl rfl⟩ .nil)))) rfl (bK (ar (qK (K:=K) T) hr.m (aa (ar (lO (K:=K) T) hr.m (aa (pv 0) ac)) ac))) (λ _ _ _ _ _=>(aA (i:=0) (show (["order","going_on","hold","held","state"]:List Str).Nodup by decide +kernel) rfl (lc rfl))) (λ _ _ _ _ _=>(jP (PW.pt (uL (aO fc (av kQ (pv 0) (pv 3)) (pv 1) (aM _)) (qE (cC (ar (xZ (K:=K) T) hr.m (aa (pv 2) (aa (pv 0) (aa (aB (gF (K:=K) rfl) (pv 4) ai (λ _ _=>rfl)) ac)))))))))) (λ _ _ _ _ _=>(pv 0)) rfl (by decide +kernel) (by decide +kernel) (by decide +kernel))))))),?_⟩
 try dsimp only [eL,aU]
 first|(refine eI ?_;intro _ _ _ _ _)|skip
 obtain ⟨pb,pw,pf,e0,eb,ew,ef⟩:=id hs
 obtain ⟨⟨dx,pm,GD,HS,HG,vm,vs,vt,ax,_,ha,_⟩,q1,q2,q3,q4⟩:=id hh
 refine ⟨_,rfl,_,rfl,a,fp,m,p,st,rfl,hh,hs,ok,λ H1 s1=>?_⟩
 refine ⟨_,rfl,p,st,rfl,hs.same s1,by rw [ok.lw];exact q3,λ H2 s2=>?_⟩
 have S2:=s1.trans s2
 refine ⟨_,rfl,p,_,_,_,rfl,rfl,.inr (S2.tup e0),rfl,_,rfl,_,_,rfl,rfl,λ go ego=>?_⟩
 obtain rfl:go=((st.bW &&& st.held:Nat):Int):=by rw [ego,mq]
 have LU:=qY q3
 have SY:(Bit.rooms m.ws).length<=8:=by
   rw [ao.ws,Ord.CF _ (by lia)]
   have:=agg m.has (List.range m.rows.length)
   rw [abU] at this
   lia
 refine ⟨_,rfl,a,fp,m,rfl,hh.same S2,λ H3 s3=>⟨m.ws,rfl,alP LU (by decide),SY,λ pl Hm gT sm km=>⟨pl,rfl,⟨_,aR.of km⟩,λ D hD=>?_⟩⟩⟩
 have S3:=(S2.trans s3).trans sm
 have lp:(Bit.parts (Bit.rooms m.ws)).length<=16:=by
   rw [Ord.Bl _ LU]
   exact acS (agg _ _) (by rw [abU];decide)
 have Q9:∀ o∈Bit.parts (Bit.rooms m.ws),o<16:=λ o h=>by
   rw [Ord.Bl _ LU] at h
   exact List.mem_range.mp (List.mem_filter.mp h).1
 generalize gz:Bit.parts (Bit.rooms m.ws)=ps at lp Q9 km
 refine cu (K:=K) (a:=pl) (xs:=ps.map al) (λ j acc U H'=>A4 (aC Hm H') (H' D=some (.lst acc)) (acc=((ps.take j).filter (st.Dg m)).map al) (∃ v,U=[v,some (al (st.bW &&& st.held)),some (.ref a),some (al st.held),some (.ref p)]))
   ⟨ak hD,af,rfl,none,rfl⟩ (λ j acc U H' _ e=>aR.of (e.1 _ _ km)) ?_ ?_
 .
  rintro j x acc U H' hx ⟨s4,Ag,rfl,v,rfl⟩
  obtain ⟨o,eo,rfl⟩:=cY hx
  have ho:=Q9 o (aaK eo)
  have la:=agg (st.Dg m) (ps.take j)
  rw [adS] at la
  refine ⟨_,rfl,_,rfl,_,_,rfl,rfl,λ y ey=>⟨_,rfl,rfl,_,rfl,?_⟩⟩
  obtain rfl:y=((o &&& st.held:Nat):Int):=by rw [ey,mq]
  have er:((ps.take (j+1)).filter (st.Dg m)).map al=((ps.take j).filter (st.Dg m)).map al++(if st.Dg m o=true then [al o] else []):=by
    rw [bz eo,ahz,aaN]
    cases q:st.Dg m o<;>simp [q]
  refine ji (λ h=>?_) (λ h=>?_)
  .
   have h:o &&& st.held=st.bW &&& st.held:=by have:=ju.mp h;lia
   have ep:st.Dg m o=m.Gg o st.heap:=by unfold bZ.Dg;rw [adD h,Bool.true_and]
   refine ⟨_,rfl,_,rfl,_,rfl,p,_,_,_,rfl,rfl,.inr ((S3.trans s4).tup e0),rfl,a,fp,m,o,_,rfl,hh.same (S3.trans s4),alP ho (by decide),λ H5 s5=>⟨_,rfl,?_⟩⟩
   cases q:m.Gg o st.heap with
   | true =>
     refine gS ⟨_,rfl,s5 _ _ Ag,aT (by rw [zN];lia),(s4.trans s5).put hD,af,?_,_,rfl⟩
     rw [er,ep,q];rfl
   | false =>
     refine fX ⟨s4.trans s5,s5 _ _ Ag,?_,_,rfl⟩
     rw [er,ep,q];simp
  . have h:¬ (o &&& st.held=st.bW &&& st.held):=λ e=>h (by rw [e];rfl)
    have ep:st.Dg m o=false:=by unfold bZ.Dg;rw [ac7 h,amz]
    refine fX ⟨s4,Ag,?_,_,rfl⟩
    rw [er,ep];simp
 .
  rintro acc U H' ⟨s4,Ag,rfl,v,rfl⟩
  rw [zN,adc] at Ag
  refine k D H' (S3.free hD) (S3.trans s4) ?_
  rw [Ag,← gz]
  rfl
theorem zm (T:Txt K mg Ad):Def P w K mg base "failing" 5 ["hold","state","order"] (zI K Ad.aQ):=by
 refine T.CB.cS sB λ f bA A outer s H vs Q E hr h=>?_
 obtain ⟨a,fp,m,p,st,o,rfl,hh,hs,ok,ho,k⟩:=h
 refine ⟨_,(ag (aD (i:=3) sB.nd rfl (lc rfl) (av kQ (pv 2) (qQ yP (aB aw (pv 1) ai (λ _ _=>rfl)))))
     (am (aF (ar (mh (K:=K) T) hr.m (aa (fM ["room"] ["state","hold"] [1,0] (.cons ⟨rfl,rfl,.inl rfl⟩ (.cons ⟨rfl,rfl,.inl rfl⟩ .nil)) rfl (bK (ar (jJ (K:=K) T) hr.m (aa (pv 3) ac))) (λ _ _ _ _ _=>(aA (i:=0) (show (["room","state","hold"]:List Str).Nodup by decide +kernel) rfl (lc rfl))) (λ _ _ _ _ _=>(jP (aO ky (aB (gF (K:=K) rfl) (aB (gF (K:=K) rfl) (pv 1) ai (λ _ _=>rfl)) (pv 0) (λ _ _=>rfl)) (aB (gF (K:=K) rfl) (aK (pv 2) T.az (dA (K:=K) T) .nil hr.m (aa (pv 0) ac)) ai (λ _ _=>rfl)) (aM _)))) (λ _ _ _ _ _=>(pv 0)) rfl (by decide +kernel) (by decide +kernel) (by decide +kernel)) ac))))),?_⟩
 try dsimp only [eL,aU]
 obtain ⟨pb,pw,pf,e0,eb,ew,ef⟩:=id hs
 obtain ⟨⟨dx,pm,GD,HS,HG,vm,vs,vt,ax,_,ha,_⟩,q1,q2,q3,q4⟩:=id hh
 have C8:o<16:=by rw [← ho];exact ab2 alH (qY q3)
 have b16:st.bW<16:=Ord.Jo q3 ok.bW
 refine ⟨_,rfl,_,rfl,p,_,_,_,rfl,rfl,.inr e0,rfl,_,rfl,_,_,rfl,rfl,λ y ey=>?_⟩
 obtain rfl:y=((Ord.off o st.bW:Nat):Int):=by rw [ey];exact mK _ _
 have TQ:Ord.off o st.bW<2 ^ 4:=Ord.Lf (n:=4) C8
 have em:=KO q3 ok ho
 have Ca:∀ r∈Bit.rooms (Ord.off o st.bW),r<m.rows.length/\m.has r=true:=λ r hr=>by
   have:=(Bit.fO.mp hr).2
   rw [Ord.uV C8 b16,aga] at this
   exact BY ho this.1
 generalize Ord.off o st.bW=z at TQ em Ca ⊢
 refine ⟨_,rfl,z,rfl,alP TQ (by decide),λ pl Hm gT sm km=>⟨pl,rfl,⟨_,aR.of km⟩,λ D hD=>?_⟩⟩
 refine cu (K:=K) (a:=pl) (xs:=(Bit.rooms z).map al) (λ j acc U H'=>A4 (aC Hm H') (H' D=some (.lst acc)) (acc=(((Bit.rooms z).take j).filter λ r=>decide ((gN st.failed r:Int)<m.fails r)).map al) (∃ v,U=[v,some (.ref p),some (.ref a)]))
   ⟨ak hD,af,rfl,none,rfl⟩ (λ j acc U H' _ e=>aR.of (e.1 _ _ km)) ?_ ?_
 .
  rintro j x acc U H' hx ⟨s2,iq,rfl,v,rfl⟩
  obtain ⟨r,er,rfl⟩:=cY hx
  obtain ⟨GV,Gj⟩:=Ca r (aaK er)
  obtain ⟨zz,ez⟩:=sJ Gj
  have hz:=kR (m:=m) (i:=r) (by lia)
  have S2:=sm.trans s2
  have la:=agg (λ r=>decide ((gN st.failed r:Int)<m.fails r)) ((Bit.rooms z).take j)
  have lr:=uk z
  rw [adS] at la
  have TJ:m.fails r=zz.2.2.2:=by unfold ao.fails;rw [ez];rfl
  refine ⟨_,rfl,p,_,_,_,rfl,rfl,.inr (S2.tup e0),rfl,_,rfl,pf,_,_,_,rfl,rfl,.inr (S2.tup ef),sI (by rw [ok.lf];exact GV),?_⟩
  refine ⟨_,rfl,a,dx,_,rfl,S2 _ _ ha,rfl,_,rfl,a,fp,m,r,_,rfl,hh.same S2,hz,λ u du=>?_⟩
  rw [ez] at du
  obtain ⟨pz,v1,rfl,AD,_⟩:=du.cp
  have KZ:(((Bit.rooms z).take (j+1)).filter λ r=>decide ((gN st.failed r:Int)<m.fails r)).map al=(((Bit.rooms z).take j).filter λ r=>decide ((gN st.failed r:Int)<m.fails r)).map al++(if decide ((gN st.failed r:Int)<m.fails r)=true then [al r] else []):=by
    rw [bz er,ahz,aaN]
    by_cases q:(gN st.failed r:Int)<m.fails r<;>simp [q]
  refine ⟨pz,_,_,_,rfl,rfl,.inr AD,rfl,_,_,rfl,rfl,_,rfl,ji (λ h=>?_) (λ h=>?_)⟩
  . refine ⟨_,rfl,iq,aT (by rw [zN];lia),s2.put hD,af,?_,_,rfl⟩
    rw [KZ,adD (by rw [TJ];exact h)];rfl
  . refine ⟨s2,iq,?_,_,rfl⟩
    rw [KZ,ac7 (by rw [TJ];exact h)];simp
 .
  rintro acc U H' ⟨s2,iq,rfl,v,rfl⟩
  rw [zN,adc] at iq
  have:=k H' (sm.trans s2)
  rw [← em] at this
  exact ⟨D,_,rfl,aR.of iq,λ r hr=>by have:=(Ca r (List.mem_filter.mp hr).1).1;lia,this⟩
theorem rh (T:Txt K mg Ad):Def P w K mg base "wait_behind" 5 ["hold","state","burning","room"] (rO K Ad.aQ):=by
 refine T.tL.cS rZ λ f bA A outer s H vs Q E hr h=>?_
 obtain ⟨a,fp,m,p,st,b,i,rfl,hh,hs,ok,hi,hz,h0,k⟩:=h
 refine ⟨_,(ag (bv (aO sD (ar (eD (K:=K) T) hr.m (aa (aB aw (pv 1) ai (λ _ _=>rfl)) (aa (pv 3) ac))) (ar (eD (K:=K) T) hr.m (aa (pv 2) (aa (pv 3) ac))) (aM _)) (am (aF (aB aw (aK (pv 0) T.az (dA (K:=K) T) .nil hr.m (aa (pv 3) ac)) ai (λ _ _=>rfl)))) aJ)
     (am (aF (aS (o7 rfl) (by rfl) T.E1 zK (aa ai (aa (av dX (aB aw (aB aw (pv 1) ai (λ _ _=>rfl)) (pv 3) (λ _ _=>rfl)) ai) ac)))))),?_⟩
 try dsimp only [eL,aU]
 obtain ⟨pb,pw,pf,e0,eb,ew,ef⟩:=id hs
 obtain ⟨⟨dx,pm,GD,HS,HG,vm,vs,vt,ax,_,ha,_⟩,q1,q2,q3,q4⟩:=id hh
 refine ⟨_,rfl,p,_,_,_,rfl,rfl,.inr e0,rfl,_,rfl,st.bW,i,rfl,?_⟩
 refine ⟨_,rfl,_,rfl,b,i,rfl,rfl,_,rfl,BA (λ Mu=>?_) (λ heq=>?_)⟩
 .
  have Mu:¬ st.bW.testBit i=b.testBit i:=λ e=>Mu (by rw [e])
  obtain ⟨z,ez⟩:=sJ (hz Mu)
  have i9:=kR (m:=m) (i:=i) (by lia)
  refine ⟨_,rfl,a,dx,_,rfl,ha,rfl,_,rfl,a,fp,m,i,_,rfl,hh,i9,λ u du=>?_⟩
  rw [ez] at du
  obtain ⟨pz,v1,rfl,AD,_⟩:=du.cp
  have e1:m.dI i=z.2.2.1:=by unfold ao.dI;rw [ez];rfl
  have e2:al (st.iw m b i) = .int z.2.2.1:=by
    unfold bZ.iw
    rw [ac9 Mu,← e1]
    show V.int _=_
    rw [ak3 h0]
  rw [e2] at k
  exact ⟨pz,_,_,_,rfl,rfl,.inr AD,rfl,k⟩
 .
  have heq:st.bW.testBit i=b.testBit i:=by injection heq
  refine ⟨_,rfl,p,_,_,_,rfl,rfl,.inr e0,rfl,_,rfl,pw,_,_,_,rfl,rfl,.inr ew,sI (by rw [ok.lw];exact hi),_,_,rfl,rfl,λ y ey=>?_⟩
  refine ⟨0,y,rfl,?_⟩
  have e2:(if y > 0 then y else 0)=((st.iw m b i:Nat):Int):=by
    unfold bZ.iw
    rw [ady heq]
    split<;>lia
  rw [e2]
  exact k
theorem oX (T:Txt K mg Ad):Def P w K mg base "failed_behind" 2 ["state","burning","out","room"] (o5 K):=by
 refine T.pV.cS oN λ f bA A outer s H vs Q E hr h=>?_
 obtain ⟨p,st,b,out,i,rfl,hs,hi,k⟩:=h
 refine ⟨_,(ag (bv (cC (ar (eD (K:=K) T) hr.m (aa (pv 2) (aa (pv 3) ac)))) (am (aF (av aY (aB aw (aB aw (pv 0) ai (λ _ _=>rfl)) (pv 3) (λ _ _=>rfl)) ai))) aJ)
     (ag (bv (cC (ar (eD (K:=K) T) hr.m (aa (pv 1) (aa (pv 3) ac)))) (am (aF ai)) aJ)
     (am (aF (aB aw (aB aw (pv 0) ai (λ _ _=>rfl)) (pv 3) (λ _ _=>rfl)))))),?_⟩
 try dsimp only [eL,aU]
 first|(refine dC ?_;intro _ _ _ _)|skip
 obtain ⟨pb,pw,pf,e0,eb,ew,ef⟩:=id hs
 unfold bZ.jl at k
 refine ⟨_,rfl,_,rfl,out,i,rfl,_,rfl,?_⟩
 cases h1:out.testBit i with
 | true =>
   rw [h1] at k
   refine gS ⟨_,rfl,p,_,_,_,rfl,rfl,.inr e0,rfl,_,rfl,pf,_,_,_,rfl,rfl,.inr ef,sI hi,_,_,rfl,rfl,λ y ey=>?_⟩
   rw [ey]
   exact k
 | false =>
   rw [h1] at k
   refine fX ⟨_,rfl,_,rfl,b,i,rfl,_,rfl,?_⟩
   cases h2:b.testBit i with
   | true =>
     rw [h2] at k
     exact gS k
   | false =>
     rw [h2] at k
     exact fX ⟨_,rfl,p,_,_,_,rfl,rfl,.inr e0,rfl,_,rfl,pf,_,_,_,rfl,rfl,.inr ef,sI hi,k⟩
theorem oJ (T:Txt K mg Ad):Def P w K mg base "stoves_behind" 7 ["hold","state","order","out"] (BX K Ad.aQ):=by
 refine T.qi.cS dg λ f bA A outer s H vs Q E hr h=>?_
 obtain ⟨a,fp,m,p,st,o,out,rfl,hh,hs,ok,hz,h0,MK,k⟩:=h
 refine ⟨_,(ag (aD (i:=4) dg.nd rfl (lc rfl) (av kQ (pv 2) (qQ yP (pv 3))))
     (ag (sj (yi:=5) ["room"] ["hold","state","burning"] [0,1,4] (.cons ⟨rfl,rfl,.inl rfl⟩ (.cons ⟨rfl,rfl,.inl rfl⟩ (.cons ⟨rfl,rfl,.inl rfl⟩ .nil))) rfl (cH rfl T.eW (aa (eX (pv 0) T.az (cg (K:=K) T) .nil hr.m) ac)) (λ _ _ _ _ _=>(aA (i:=0) (show (["room","hold","state","burning"]:List Str).Nodup by decide +kernel) rfl (lc rfl))) (λ _ _ _ _ _=>cr) (λ _ _ _ _ _=>(ar (rh (K:=K) T) hr.m (aa (pv 1) (aa (pv 2) (aa (pv 3) (aa (pv 0) ac)))))) rfl (by decide +kernel) (by decide +kernel) (by decide +kernel) dg.nd rfl (lc rfl) rfl)
     (ag (sj (yi:=6) ["room"] ["state","burning","out"] [1,4,3] (.cons ⟨rfl,rfl,.inl rfl⟩ (.cons ⟨rfl,rfl,.inl rfl⟩ (.cons ⟨rfl,rfl,.inl rfl⟩ .nil))) rfl (cH rfl T.eW (aa (eX (pv 0) T.az (cg (K:=K) T) .nil hr.m) ac)) (λ _ _ _ _ _=>(aA (i:=0) (show (["room","state","burning","out"]:List Str).Nodup by decide +kernel) rfl (lc rfl))) (λ _ _ _ _ _=>cr) (λ _ _ _ _ _=>(ar (oX (K:=K) T) hr.m (aa (pv 1) (aa (pv 2) (aa (pv 3) (aa (pv 0) ac)))))) rfl (by decide +kernel) (by decide +kernel) (by decide +kernel) dg.nd rfl (lc rfl) rfl)
     (ag (aD (i:=7) dg.nd rfl (lc rfl) (aS (ox rfl) (by rfl) T.Fn yS (aa (aH (pv 0) rfl) (aa (av aY (av dX (aB aw (pv 1) ai (λ _ _=>rfl)) (ar (qX (K:=K) T) hr.m (aa (pv 0) (aa (pv 4) ac)))) (aH (pv 0) rfl)) ac))))
     (am (aF (cm (aa (pv 4) (aa (cb dQ (by rfl) T.lE i8 (aa (pv 5) ac)) (aa (cb dQ (by rfl) T.lE i8 (aa (pv 6) ac)) (aa (pv 7) ac))))))))))),?_⟩
 try dsimp only [eL,aU]
 first|(refine xc ?_;intro _ _ _ _ _ _)|skip
 obtain ⟨pb,pw,pf,e0,eb,ew,ef⟩:=id hs
 obtain ⟨⟨dx,pm,GD,HS,HG,vm,vs,vt,ax,_,ha,_⟩,q1,q2,q3,q4⟩:=id hh
 refine ⟨_,rfl,_,rfl,_,rfl,_,_,rfl,rfl,λ y ey=>?_⟩
 obtain rfl:y=((Ord.off o out:Nat):Int):=by rw [ey];exact mK _ _
 generalize Ord.off o out=b at hz MK k ⊢
 refine ⟨_,rfl,a,dx,_,rfl,ha,rfl,a,fp,m,rfl,hh,_,rfl,by lia,by lia,λ D hD=>?_⟩
 refine fJ (lo:=0) (n:=m.rows.length) (λ j acc U H'=>A4 (aC H H') (H' D=some (.lst acc)) (acc=((List.range j).map (st.iw m b)).map al) (∃ v,U=[v,some (.ref a),some (.ref p),some (al b)])) ⟨ak hD,af,rfl,none,rfl⟩ ?_ ?_
 . rintro j acc U H' hj ⟨s1,lY,rfl,v,rfl⟩
   refine ⟨_,rfl,_,rfl,_,rfl,_,rfl,a,fp,m,p,st,b,j,(by rw [af8];rfl),hh.same s1,hs.same s1,ok,hj,hz j,h0 j,lY,aT (by rw [zN,zN,abU];lia),s1.put hD,af,?_,_,rfl⟩
   rw [agC,aaN,aaN];rfl
 rintro acc U H1 ⟨s1,lY,rfl,v,rfl⟩
 refine ⟨_,rfl,a,dx,_,rfl,s1 _ _ ha,rfl,a,fp,m,rfl,hh.same s1,_,rfl,by lia,by lia,λ D2 iq=>?_⟩
 refine fJ (lo:=0) (n:=m.rows.length) (λ j acc U H'=>A4 (aC H1 H') (H' D2=some (.lst acc)) (acc=((List.range j).map (st.jl b out)).map al) (∃ v,U=[v,some (.ref p),some (al b),some (al out)])) ⟨ak iq,af,rfl,none,rfl⟩ ?_ ?_
 . rintro j acc U H' hj ⟨s2,jm,rfl,v,rfl⟩
   refine ⟨_,rfl,_,rfl,_,rfl,_,rfl,p,st,b,out,j,(by rw [af8];rfl),hs.same (s1.trans s2),by rw [ok.lf];exact hj,jm,aT (by rw [zN,zN,abU];lia),s2.put iq,af,?_,_,rfl⟩
   rw [agC,aaN,aaN];rfl
 rintro acc U H2 ⟨s2,jm,rfl,v,rfl⟩
 have S2:=s1.trans s2
 refine ⟨_,rfl,a,_,dx,_,_,rfl,S2 _ _ ha,T.az,T.iX,uF ..,?_⟩
 refine ⟨_,rfl,p,_,_,_,rfl,rfl,.inr (S2.tup e0),rfl,?_⟩
 refine ⟨_,rfl,_,rfl,a,fp,m,b,rfl,hh.same S2,λ H3 s3=>?_⟩
 have S3:=S2.trans s3
 refine ⟨_,_,rfl,rfl,λ x1 g1=>⟨_,rfl,a,_,dx,_,_,rfl,S3 _ _ ha,T.az,T.jB,xS ..,_,_,rfl,rfl,λ x2 g2=>⟨_,x2,rfl,?_⟩⟩⟩
 have e2:(if x2<m.d8 then x2 else m.d8)=(((st.jU m b).toNat:Nat):Int):=by
   rw [ak3 MK]
   unfold bZ.jU
   split<;>lia
 rw [e2]
 refine ⟨_,rfl,_,rfl,D,_,rfl,.inl ⟨aR.of ((s2.trans s3) _ _ lY),λ kw hkw=>?_⟩⟩
 have u1:aC _ _:=ak (o:=.tup (((List.range m.rows.length).map (st.iw m b)).map al)) hkw
 refine ⟨_,rfl,D2,_,rfl,.inl ⟨aR.of (u1 _ _ (s3 _ _ jm)),λ kf hkf=>?_⟩⟩
 have u2:aC _ _:=ak (o:=.tup (((List.range m.rows.length).map (st.jl b out)).map al)) hkf
 refine ⟨_,rfl,Lv,λ q hq=>?_⟩
 have u3:aC _ _:=ak (o:=.tup [al b,.ref kw,.ref kf,al (st.jU m b).toNat]) hq
 exact k q kw kf _ (((S3.trans u1).trans u2).trans u3) af (u3 _ _ (u2 _ _ af)) (u3 _ _ af)
theorem CT {t u:L2.TE} {a b:Bool} {U:L2.St} {H:Hp} {Q:VK} (ht:∀ Q:VK,Q (.bl a) H->t U H Q) (hu:∀ Q:VK,Q (.bl b) H->u U H Q) (h:Q (.bl (a && b)) H):E6 t u U H Q:=by
 refine ht _ ⟨a,rfl,?_⟩
 cases a with
 | true=>exact gS (hu Q h)
 | false=>exact fX h
theorem my (T:Txt K mg Ad):Def P w K mg base "sum_of_products" 3 ["pairs"] (LA K):=by
 refine T.np.cS bG λ f bA A outer s H vs Q E hr h=>?_
 obtain ⟨p,xs,ds,rfl,hp,hd,ho,hl,hB,k⟩:=h
 refine ⟨_,(ag (aD (i:=1) bG.nd rfl (lc rfl) ai)
     (ag (aD (i:=2) bG.nd rfl (lc rfl) ai)
     (ag (cL adG rfl (bK (pv 0)) (cW (K:=K) (n:=2) rfl rfl (aN (aA (i:=3) bG.nd rfl (lc rfl)) (aN (aA (i:=4) bG.nd rfl (lc rfl)) cV))) (ag (aD (i:=5) bG.nd rfl (lc rfl) (av bw (aB aw (pv 3) ai (λ _ _=>rfl)) (aB aw (pv 4) ai (λ _ _=>rfl))))
     (ag (aD (i:=1) bG.nd rfl (lc rfl) (av aY (av bw (pv 1) (pv 5)) (av bw (av bw (aB aw (pv 3) ai (λ _ _=>rfl)) (aB aw (pv 4) ai (λ _ _=>rfl))) (pv 2))))
     (am (aD (i:=2) bG.nd rfl (lc rfl) (av bw (pv 2) (pv 5)))))))
     (am (aF (ar (kG (K:=K) T) hr.m (aa (pv 1) (aa (pv 2) ac)))))))),?_⟩
 try dsimp only [eL,aU]
 first|(refine eI ?_;intro _ _ _ _ _)|skip
 have lx:xs.length=ds.length:=by rw [hd.length,zN]
 refine ⟨_,rfl,p,rfl,⟨_,hp⟩,?_⟩
 refine je (K:=K) (a:=p) (xs:=xs) (λ i U H'=>H'=H/\E3 λ (v3 v4 v5:Option V)=>U=[some (.ref p),some (.int (fH (ds.take i)).1),some (.int (fH (ds.take i)).2),v3,v4,v5]) ⟨rfl,none,none,none,rfl⟩ (λ i U H' _ e=>by rw [e.1];exact hp) ?_ ?_
 .
  rintro i x U H' hx ⟨rfl,v3,v4,v5,rfl⟩
  have hi:i<ds.length:=by rw [← lx];exact (List.getElem?_eq_some_iff.mp hx).1
  obtain ⟨b1,b2,b3⟩:=uN ds ho i (by lia)
  have et:ds.take (i+1)=ds.take i++[ds[i]]:=by rw [alu,aE hi];rfl
  obtain ⟨y,ey,pq,ws,rfl,GS,dws⟩:=hd.get (i:=i) (d:=Ed ds[i]) (by rw [aat,aE hi];rfl)
  obtain rfl:x = .ref pq:=abG (hx.symm.trans ey)
  have hd:=ho ds[i] (acx hi)
  obtain ⟨w1,r1,rfl,d1,w2,r2,rfl,d2,e3⟩:=dws
  have e3:r2=[]:=e3
  subst e3
  obtain ⟨p1,rfl,h1⟩:=Dn.fr d1
  obtain ⟨p2,rfl,h2⟩:=Dn.fr d2
  rw [et,rH]
  generalize ds[i]=d at hd h1 h2 ⊢
  generalize fH (ds.take i)=s at b1 b2 b3 ⊢
  refine ⟨pq,_,rfl,GS,rfl,_,_,rfl,_,_,rfl,rfl,?_⟩
  refine ⟨_,rfl,p1,_,_,_,rfl,rfl,.inr h1,rfl,_,rfl,p2,_,_,_,rfl,rfl,.inr h2,rfl,_,_,rfl,rfl,⟨900,900,hd.a.b,hd.b.b,by decide⟩,λ be ebe=>?_⟩
  have ebe:be=d.1.2 * d.2.2:=ebe
  have bb:Bd 1800 (d.1.2 * d.2.2):=hd.a.b.mul hd.b.b
  subst ebe
  have sm:1802 * i+2+1800<=100000:=by lia
  refine ⟨_,rfl,_,rfl,_,_,rfl,rfl,⟨1802 * i+2,1800,b1,bb,by lia⟩,λ x1 e1=>?_⟩
  refine ⟨_,rfl,p1,_,_,_,rfl,rfl,.inr h1,rfl,_,rfl,p2,_,_,_,rfl,rfl,.inr h2,rfl,_,_,rfl,rfl,⟨900,900,hd.a.t,hd.b.t,by decide⟩,λ x2 e2=>?_⟩
  have bt:Bd 1800 x2:=by rw [e2];exact hd.a.t.mul hd.b.t
  refine ⟨_,rfl,_,_,rfl,rfl,⟨1800,1800 * i+1,bt,b2,by lia⟩,λ x3 e3=>⟨_,_,rfl,rfl,λ x4 e4=>?_⟩⟩
  refine ⟨_,rfl,_,rfl,_,_,rfl,rfl,⟨1800 * i+1,1800,b2,bb,by lia⟩,λ x5 e5=>⟨rfl,some (.ref p1),some (.ref p2),some (.int (d.1.2 * d.2.2)),?_⟩⟩
  have f4:x4=s.1 * (d.1.2 * d.2.2)+d.1.1 * d.2.1 * s.2:=by rw [e4,e1,e3,e2]
  have f5:x5=s.2 * (d.1.2 * d.2.2):=e5
  rw [f4,f5]
  rfl
 .
  rintro U H' ⟨rfl,v3,v4,v5,rfl⟩
  rw [lx,adc]
  have ahe:=IS ho
  refine ⟨_,rfl,_,rfl,_,_,rfl,by lia,hB,λ q r u H2 F s2 hu=>k u H2 s2 ?_⟩
  have:=F.nf ahe
  rw [hu,← this]
theorem nL (T:Txt K mg Ad):Def P w K mg base "warmth_of" 6 ["hold","room","airs","weather","fired"] (CZ K Ad.aQ):=by
 refine T.yk.cS nV λ f bA A outer s H vs Q E hr h=>?_
 obtain ⟨a,fp,m,i,pa,Od,dL,wv,wf,fired,rfl,hh,hi,Uw,da,la,oa,dw,ow,hz,k⟩:=h
 refine ⟨_,(ag (sj (yi:=5) ["of","air"] ["room","hold"] [1,0] (.cons ⟨rfl,rfl,.inl rfl⟩ (.cons ⟨rfl,rfl,.inl rfl⟩ .nil)) rfl (oS rfl T.cR (aa (pv 2) ac)) (λ _ _ _ _ _=>(cW (K:=K) (n:=2) rfl rfl (aN (aA (i:=0) (show (["of","air","room","hold"]:List Str).Nodup by decide +kernel) rfl (lc rfl)) (aN (aA (i:=1) (show (["of","air","room","hold"]:List Str).Nodup by decide +kernel) rfl (lc rfl)) cV)))) (λ _ _ _ _ _=>cr) (λ _ _ _ _ _=>(cm (aa (aK (pv 3) T.az (ko (K:=K) T) .nil hr.m (aa (pv 2) (aa (pv 0) ac))) (aa (pv 1) ac)))) rfl (by decide +kernel) (by decide +kernel) (by decide +kernel) nV.nd rfl (lc rfl) rfl)
     (ag (aW (gJ ads adL adH bX (pv 5) (aa (cm (aa (aB aw (aK (pv 0) T.az (mV (K:=K) T) .nil hr.m (aa (pv 1) ac)) ai (λ _ _=>rfl)) (aa (pv 3) ac))) ac)))
     (ag (jC (bv (cC (pv 4)) (am (aW (gJ ads adL adH bX (pv 5) (aa (cm (aa (gI (v:=V.ref _) rfl T.AQ rfl) (aa (aB aw (aK (pv 0) T.az (dA (K:=K) T) .nil hr.m (aa (pv 1) ac)) ai (λ _ _=>rfl)) ac))) ac)))) aJ))
     (am (aF (ar (my (K:=K) T) hr.m (aa (pv 5) ac))))))),?_⟩
 try dsimp only [eL,aU]
 first|(refine eI ?_;intro _ _ _ _ _)|skip
 obtain ⟨⟨dx,pm,GD,HS,HG,vm,vs,vt,ax,og,ha,_⟩,q1,q2,q3,q4⟩:=id hh
 obtain ⟨pok,aeF,pbd⟩:=pA (i:=i) (fired:=fired) q4 q3 la oa ow hz
 have lav:Od.length=dL.length:=by rw [da.length,zN]
 refine ⟨_,rfl,pa,rfl,⟨_,Uw⟩,λ D hD=>?_⟩
 refine jD (sq:=aR K) (a:=pa) (xs:=Od) (λ j acc U H'=>A4 (aC H H') (H' D=some (.lst acc)) (bi K H' (((List.range j).map λ j=>((m.share i j,dL.getD j (0,1)):Pr)).map Ed) acc) (E2 λ v0 v1=>U=[v0,v1,some (al i),some (.ref a)]))
   ⟨ak hD,af,rfl,none,none,rfl⟩ (λ j acc U H' _ e=>e.1.seq Uw) ?_ ?_
 .
  rintro j x pp acc U H' hx qS ⟨s1,lY,d1,v0,v1,rfl⟩
  have hj:j<dL.length:=by rw [← lav];exact (List.getElem?_eq_some_iff.mp hx).1
  obtain ⟨y,ey,dy⟩:=da.get (i:=j) (d:=dS dL[j]) (by rw [aat,aE hj];rfl)
  obtain rfl:x=y:=abG (hx.symm.trans ey)
  have s2:aC H' (upd H' pp (.tup [al j,x])):=ak qS
  have nD:D≠pp:=au lY qS
  have S2:=s1.trans s2
  refine ⟨pp,_,rfl,bO.of af,rfl,_,_,rfl,_,_,rfl,rfl,?_⟩
  refine ⟨_,rfl,a,dx,_,rfl,S2 _ _ ha,rfl,_,rfl,_,rfl,a,fp,m,i,j,rfl,hh.same S2,hi,by lia,λ v H3 s3 dv=>?_⟩
  have S3:=S2.trans s3
  refine ⟨_,rfl,EW,λ pt gn=>?_⟩
  have s4:aC H3 (upd H3 pt (.tup [v,x])):=ak gn
  have S4:=S3.trans s4
  have Ag:=s4 _ _ (s3 _ _ (s2 _ _ lY))
  have ts:aI K (upd H3 pt (.tup [v,x])) (upd (upd H3 pt (.tup [v,x])) D (.lst (acc++[.ref pt]))):=bH Ag rfl
  have BP:acc.length=j:=by rw [d1.length,zN,zN,abU]
  refine ⟨Ag,aT (by lia),(S4).put hD,af,?_,_,_,rfl⟩
  rw [agC,aaN,aaN]
  refine (bi.ts ((aC.ts ((s2.trans s3).trans s4)).trans ts) _ (qT _) d1).snoc (Dn.ts ts _ (qx _) ?_)
  have ea:dL.getD j (0,1)=dL[j]:=by rw [UZ,aE hj];rfl
  show Dn K _ (Ed (m.share i j,dL.getD j (0,1))) _
  rw [ea]
  exact gU (bO.of af) (bh (Dn.same s4 _ dv) (bh (Dn.same S4 _ dy) eK))
 .
  rintro acc U H1 ⟨s1,lY,d1,v0,v1,rfl⟩
  rw [lav] at d1
  have d1:bi K H1 ((eS m i dL).map Ed) acc:=d1
  have BP:acc.length<=4:=by rw [d1.length,zN];unfold eS;rw [zN,abU];lia
  have UP:i<m.bj.length:=by lia
  have RS:=aE UP
  have Mo:m.dR i=m.bj[i].1:=by unfold ao.dR;rw [RS];rfl
  refine ⟨_,rfl,.inl ⟨rfl,_,aR.of lY⟩,_,rfl,a,dx,_,rfl,s1 _ _ ha,rfl,_,rfl,a,fp,m,i,_,rfl,hh.same s1,RS,λ v dv=>?_⟩
  obtain ⟨p0,Gc,TU,UE,rfl,wk,dd1,LK,dd3⟩:=dv.qH
  refine ⟨p0,_,_,_,rfl,rfl,.inr wk,rfl,_,rfl,EW,λ pt gn=>?_⟩
  have s2:aC H1 (upd H1 pt (.tup [Gc,wv])):=ak gn
  have iq:=s2 _ _ lY
  refine ⟨D,_,_,rfl,rfl,iq,aT (by lia),?_⟩
  have ts:aI K (upd H1 pt (.tup [Gc,wv])) (upd (upd H1 pt (.tup [Gc,wv])) D (.lst (acc++[.ref pt]))):=bH iq rfl
  have jm:(upd (upd H1 pt (.tup [Gc,wv])) D (.lst (acc++[.ref pt]))) D=some (.lst (acc++[.ref pt])):=af
  have S3:aC H (upd (upd H1 pt (.tup [Gc,wv])) D (.lst (acc++[.ref pt]))):=(s1.trans s2).put hD
  have d3:bi K (upd (upd H1 pt (.tup [Gc,wv])) D (.lst (acc++[.ref pt]))) ((eS m i dL++[(m.dR i,wf)]).map Ed) (acc++[.ref pt]):=by
    rw [aaN]
    refine (bi.ts ((aC.ts s2).trans ts) _ (qT _) d1).snoc (Dn.ts ts _ (qx _) ?_)
    refine gU (bO.of af) (bh (Dn.same s2 _ ?_) (bh (Dn.same (s1.trans s2) _ dw) eK))
    rw [Mo];exact dd1
  generalize (upd (upd H1 pt (.tup [Gc,wv])) D (.lst (acc++[.ref pt])))=H3 at jm S3 d3 ⊢
  refine ⟨λ σ' H'=>aC H H'/\∃ xs,A3 (H' D=some (.lst xs)) (bi K H' ((ic m i dL wf fired).map Ed) xs) (σ'=[some (.ref a),some (al i),some (.ref pa),some wv,some (.bl fired),some (.ref D)]),?_,?_⟩
  .
   refine ⟨_,rfl,_,rfl,?_⟩
   cases fired with
   | false =>
     refine fX ⟨S3,_,jm,?_,rfl⟩
     unfold ic
     rw [ac9 ac8,ahG]
     exact d3
   | true =>
     obtain ⟨z,ez⟩:=hz rfl
     refine gS ⟨_,rfl,.inl ⟨rfl,_,aR.of jm⟩,?_⟩
     refine ⟨_,rfl,a,dx,_,rfl,S3 _ _ ha,rfl,_,rfl,a,fp,m,i,_,rfl,hh.same S3,ez,λ u du=>?_⟩
     obtain ⟨pz,zs,rfl,AD,t1,r1,rfl,e1,_⟩:=du
     refine ⟨pz,_,_,_,rfl,rfl,.inr AD,bF (j:=0) rfl,EW,λ Up aiN=>?_⟩
     have s4:aC H3 (upd H3 Up (.tup [.ref Ad.tT,t1])):=ak aiN
     have Ag:=s4 _ _ jm
     refine ⟨D,_,_,rfl,rfl,Ag,aT (by rw [aaE];simp only [aeR,alR];lia),(S3.trans s4).put hD,_,af,?_,rfl⟩
     have ts2:aI K (upd H3 Up (.tup [.ref Ad.tT,t1])) (upd (upd H3 Up (.tup [.ref Ad.tT,t1])) D (.lst ((acc++[.ref pt])++[.ref Up]))):=bH Ag rfl
     have ez2:(((m.aV[i]?).getD none).map (·.1)).getD (0,1)=z.1:=by rw [ez];rfl
     unfold ic
     rw [ady rfl,aaN]
     refine (bi.ts ((aC.ts s4).trans ts2) _ (qT _) d3).snoc (Dn.ts ts2 _ (qx _) ?_)
     show Dn K _ (Ed ((1,1),(((m.aV[i]?).getD none).map (·.1)).getD (0,1))) _
     rw [ez2]
     exact gU (bO.of af) (bh (T.Bm.fr (f:=(1,1))) (bh (Dn.same s4 _ e1) eK))
  . rintro σ' H4 ⟨S4,xs,Ag,d4,rfl⟩
    exact ⟨_,rfl,D,xs,_,rfl,aR.of Ag,d4,pok,aeF,pbd,λ q H5 s5 Ih=>k q H5 (S4.trans s5) Ih⟩
theorem zi (T:Txt K mg Ad):Def P w K mg base "span_of" 7 ["hold","room","bands","fired"] (G8 K Ad.aQ):=by
 refine T.C2.cS ix λ f bA A outer s H vs Q E hr h=>?_
 obtain ⟨a,fp,m,i,pb,bs,fired,rfl,hh,hi,hb,lb,yR,hz,k⟩:=h
 refine ⟨_,(ag (iy (kr Bq (aK (pv 0) T.az (mV (K:=K) T) .nil hr.m (aa (pv 1) ac)) (nI ai) nX) (cW (K:=K) (n:=2) rfl rfl (aN (aA (i:=4) ix.nd rfl (lc rfl)) (aN (aA (i:=5) ix.nd rfl (lc rfl)) cV))))
     (ag (sj (yi:=6) ["of","band"] ["hold"] [0] (.cons ⟨rfl,rfl,.inl rfl⟩ .nil) rfl (Fb rfl T.cR (aa (pv 2) ac)) (λ _ _ _ _ _=>(cW (K:=K) (n:=2) rfl rfl (aN (aA (i:=0) (show (["of","band","hold"]:List Str).Nodup by decide +kernel) rfl (lc rfl)) (aN (aA (i:=1) (show (["of","band","hold"]:List Str).Nodup by decide +kernel) rfl (lc rfl)) cV)))) (λ _ _ _ _ _=>cr) (λ _ _ _ _ _=>(aB (gF (K:=K) rfl) (aK (pv 2) T.az (ed (K:=K) T) .nil hr.m (aa (pv 0) ac)) (pv 1) (λ _ _=>rfl))) rfl (by decide +kernel) (by decide +kernel) (by decide +kernel) ix.nd rfl (lc rfl) rfl)
     (ag (sj (yi:=7) ["of","band"] ["hold"] [0] (.cons ⟨rfl,rfl,.inl rfl⟩ .nil) rfl (Fb rfl T.cR (aa (pv 2) ac)) (λ _ _ _ _ _=>(cW (K:=K) (n:=2) rfl rfl (aN (aA (i:=0) (show (["of","band","hold"]:List Str).Nodup by decide +kernel) rfl (lc rfl)) (aN (aA (i:=1) (show (["of","band","hold"]:List Str).Nodup by decide +kernel) rfl (lc rfl)) cV)))) (λ _ _ _ _ _=>cr) (λ _ _ _ _ _=>(aB (gF (K:=K) rfl) (aK (pv 2) T.az (ed (K:=K) T) .nil hr.m (aa (pv 0) ac)) (av aY (pv 1) ai) (λ _ _=>rfl))) rfl (by decide +kernel) (by decide +kernel) (by decide +kernel) ix.nd rfl (lc rfl) rfl)
     (am (aF (cm (aa (ar (nL (K:=K) T) hr.m (aa (pv 0) (aa (pv 1) (aa (pv 6) (aa (pv 4) (aa (pv 3) ac)))))) (aa (ar (nL (K:=K) T) hr.m (aa (pv 0) (aa (pv 1) (aa (pv 7) (aa (pv 5) (aa (pv 3) ac)))))) ac)))))))),?_⟩
 try dsimp only [eL,aU]
 first|(refine eI ?_;intro _ _ _ _ _)|skip
 obtain ⟨⟨dx,pm,GD,HS,HG,vm,vs,vt,ax,og,ha,_⟩,q1,q2,q3,q4⟩:=id hh
 have UP:i<m.bj.length:=by lia
 have RS:=aE UP
 have Mo:lT m i=m.bj[i]:=by unfold lT;rw [RS];rfl
 have yF:=q4.bj m.bj[i] (acx UP)
 have olo:eT 120 (lT m i).2.1:=by rw [Mo];exact yF.2.1.mono (by decide)
 have ohi:eT 120 (lT m i).2.2:=by rw [Mo];exact yF.2.2.mono (by decide)
 have PJ:(gm m bs 0).length=m.rows.length:=by unfold gm;rw [zN,abU,lb]
 have le1:(gm m bs 1).length=m.rows.length:=by unfold gm;rw [zN,abU,lb]
 refine ⟨_,rfl,a,dx,_,rfl,ha,rfl,_,rfl,a,fp,m,i,_,rfl,hh,RS,λ v dv=>?_⟩
 obtain ⟨p0,Gc,TU,UE,rfl,wk,dd1,LK,dd3⟩:=dv.qH
 refine ⟨1,rfl,p0,_,1,rfl,wk,rfl,rfl,by decide,(by show 1<=3;decide),λ q0 hq=>?_⟩
 refine ⟨q0,_,rfl,bO.of af,rfl,_,_,rfl,_,_,rfl,rfl,?_⟩
 have S0:aC H (upd H q0 (.tup ([Gc,TU,UE].drop 1))):=ak hq
 generalize upd H q0 (.tup ([Gc,TU,UE].drop 1))=H0 at S0 ⊢
 have dlo:Dn K H0 (dS (lT m i).2.1) TU:=by rw [Mo];exact Dn.same S0 _ LK
 have dhi:Dn K H0 (dS (lT m i).2.2) UE:=by rw [Mo];exact Dn.same S0 _ dd3
 rcases hb with hb|hb
 .
  have hb:=S0.seq hb
  refine ⟨_,rfl,pb,rfl,.inl ⟨⟨_,hb⟩,λ D hD=>?_⟩⟩
  refine jD (sq:=aR K) (a:=pb) (xs:=bs.map al) (λ j acc U H'=>A4 (aC H0 H') (H' D=some (.lst acc)) (bi K H' (((List.range j).map λ j=>(m.rows.getD j []).getD (bs.getD j 0+0) (0,1)).map dS) acc) (E2 λ v0 v1=>U=[v0,v1,some (.ref a)]))
    ⟨ak hD,af,rfl,none,none,rfl⟩ (λ j acc U H' _ e=>e.1.seq hb) ?_ ?_
  .
   rintro j x pp acc U H' hx qS ⟨s1,lY,d1,v0,v1,rfl⟩
   obtain ⟨b,eb,rfl⟩:=cY hx
   have hj:j<bs.length:=(List.getElem?_eq_some_iff.mp eb).1
   have hr:j<m.rows.length:=by lia
   have eg:bs.getD j 0=b:=by rw [UZ,eb];rfl
   have s2:aC H' (upd H' pp (.tup [al j,al b])):=ak qS
   have S2:=S0.trans (s1.trans s2)
   have er:m.rows.getD j []=m.rows[j]:=by rw [UZ,aE hr];rfl
   have q:=yR j hr
   rw [er,eg] at q
   refine ⟨pp,_,rfl,bO.of af,rfl,_,_,rfl,_,_,rfl,rfl,?_⟩
   refine ⟨_,rfl,a,dx,_,rfl,S2 _ _ ha,rfl,_,rfl,a,fp,m,j,_,rfl,hh.same S2,aE hr,λ pm xs gc v9=>?_⟩
   have s3:aC (upd H' pp (.tup [al j,al b])) (upd (upd H' pp (.tup [al j,al b])) pm (.lst xs)):=ak gc
   obtain ⟨y,ey,dy⟩:=v9.get (i:=b) (d:=dS m.rows[j][b]) (by rw [aat,aE (by lia)];rfl)
   have jm:=s3 _ _ (s2 _ _ lY)
   have ts:aI K (upd (upd H' pp (.tup [al j,al b])) pm (.lst xs)) (upd (upd (upd H' pp (.tup [al j,al b])) pm (.lst xs)) D (.lst (acc++[y]))):=bH jm rfl
   have BP:acc.length=j:=by rw [d1.length,zN,zN,abU]
   refine ⟨_,rfl,pm,_,_,_,rfl,rfl,.inl (aR.of af),bF ey,jm,aT (by lia),(s1.trans (s2.trans s3)).put hD,af,?_,_,_,rfl⟩
   rw [agC,aaN,aaN]
   refine (bi.ts ((aC.ts (s2.trans s3)).trans ts) _ (nP _ id) (by simpa using d1)).snoc (Dn.ts ts _ (hZ _) ?_)
   show Dn K _ (dS ((m.rows.getD j []).getD (bs.getD j 0+0) (0,1))) y
   rw [er,eg,amW,UZ,aE (by lia:b<m.rows[j].length)]
   exact Dn.same s3 _ dy
  rintro acc U H1 ⟨s1,lY,d1,v0,v1,rfl⟩
  rw [zN] at d1
  have d1:bi K H1 ((gm m bs 0).map dS) acc:=d1
  have De:=s1.seq hb
  have S1:=S0.trans s1
  refine ⟨_,rfl,pb,rfl,.inl ⟨⟨_,De⟩,λ D2 iq=>?_⟩⟩
  refine jD (sq:=aR K) (a:=pb) (xs:=bs.map al) (λ j acc U H'=>A4 (aC H1 H') (H' D2=some (.lst acc)) (bi K H' (((List.range j).map λ j=>(m.rows.getD j []).getD (bs.getD j 0+1) (0,1)).map dS) acc) (E2 λ v0 v1=>U=[v0,v1,some (.ref a)]))
    ⟨ak iq,af,rfl,none,none,rfl⟩ (λ j acc U H' _ e=>e.1.seq De) ?_ ?_
  .
   rintro j x pp iz U H' hx qS ⟨NS,Lc,OE,v0,v1,rfl⟩
   obtain ⟨b,eb,rfl⟩:=cY hx
   have hj:j<bs.length:=(List.getElem?_eq_some_iff.mp eb).1
   have hr:j<m.rows.length:=by lia
   have eg:bs.getD j 0=b:=by rw [UZ,eb];rfl
   have s2:aC H' (upd H' pp (.tup [al j,al b])):=ak qS
   have S2:=S1.trans (NS.trans s2)
   have er:m.rows.getD j []=m.rows[j]:=by rw [UZ,aE hr];rfl
   have q:=yR j hr
   rw [er,eg] at q
   refine ⟨pp,_,rfl,bO.of af,rfl,_,_,rfl,_,_,rfl,rfl,?_⟩
   refine ⟨_,rfl,a,dx,_,rfl,S2 _ _ ha,rfl,_,rfl,a,fp,m,j,_,rfl,hh.same S2,aE hr,λ pm xs gc v9=>?_⟩
   have s3:aC (upd H' pp (.tup [al j,al b])) (upd (upd H' pp (.tup [al j,al b])) pm (.lst xs)):=ak gc
   obtain ⟨y,ey,dy⟩:=v9.get (i:=b+1) (d:=dS m.rows[j][b+1]) (by rw [aat,aE (by lia)];rfl)
   have jm:=s3 _ _ (s2 _ _ Lc)
   have ts:aI K (upd (upd H' pp (.tup [al j,al b])) pm (.lst xs)) (upd (upd (upd H' pp (.tup [al j,al b])) pm (.lst xs)) D2 (.lst (iz++[y]))):=bH jm rfl
   have BP:iz.length=j:=by rw [OE.length,zN,zN,abU]
   refine ⟨_,rfl,_,_,rfl,rfl,λ z ez=>?_⟩
   obtain rfl:z=((b+1:Nat):Int):=by rw [ez];push_cast;rfl
   refine ⟨pm,_,_,_,rfl,rfl,.inl (aR.of af),bF ey,jm,aT (by lia),(NS.trans (s2.trans s3)).put iq,af,?_,_,_,rfl⟩
   rw [agC,aaN,aaN]
   refine (bi.ts ((aC.ts (s2.trans s3)).trans ts) _ (nP _ id) (by simpa using OE)).snoc (Dn.ts ts _ (hZ _) ?_)
   show Dn K _ (dS ((m.rows.getD j []).getD (bs.getD j 0+1) (0,1))) y
   rw [er,eg,UZ,aE (by lia:b+1<m.rows[j].length)]
   exact Dn.same s3 _ dy
  rintro iz U H2 ⟨s2,jm,d2,v0,v1,rfl⟩
  rw [zN] at d2
  have d2:bi K H2 ((gm m bs 1).map dS) iz:=d2
  have S2:=S1.trans s2
  refine ⟨_,rfl,_,rfl,_,rfl,_,rfl,_,rfl,a,fp,m,i,D,acc,gm m bs 0,_,_,fired,rfl,hh.same S2,hi,aR.of (s2 _ _ lY),bi.same s2 _ d1,PJ,nJ q4 lb yR (by decide),Dn.same ((s1.trans s2)) _ dlo,olo,hz,λ w1 H3 s3 hw1=>?_⟩
  have S3:=S2.trans s3
  refine ⟨_,rfl,_,rfl,_,rfl,_,rfl,_,rfl,a,fp,m,i,D2,iz,gm m bs 1,_,_,fired,rfl,hh.same S3,hi,aR.of (s3 _ _ jm),bi.same s3 _ d2,le1,nJ q4 lb yR (by decide),Dn.same ((s1.trans s2).trans s3) _ dhi,ohi,hz,λ w2 H4 s4 WO=>⟨EW,λ q hq=>?_⟩⟩
  have s5:aC H4 (upd H4 q (.tup [.ref w1,.ref w2])):=ak hq
  exact k q w1 w2 _ ((S3.trans s4).trans s5) af (s5 _ _ (s4 _ _ hw1)) (s5 _ _ WO)
 .
  have hb:=S0.tup hb
  refine ⟨_,rfl,pb,rfl,.inr ⟨⟨_,hb⟩,λ D hD=>?_⟩⟩
  refine jD (sq:=bO K) (a:=pb) (xs:=bs.map al) (λ j acc U H'=>A4 (aC H0 H') (H' D=some (.lst acc)) (bi K H' (((List.range j).map λ j=>(m.rows.getD j []).getD (bs.getD j 0+0) (0,1)).map dS) acc) (E2 λ v0 v1=>U=[v0,v1,some (.ref a)]))
    ⟨ak hD,af,rfl,none,none,rfl⟩ (λ j acc U H' _ e=>e.1.tup hb) ?_ ?_
  .
   rintro j x pp acc U H' hx qS ⟨s1,lY,d1,v0,v1,rfl⟩
   obtain ⟨b,eb,rfl⟩:=cY hx
   have hj:j<bs.length:=(List.getElem?_eq_some_iff.mp eb).1
   have hr:j<m.rows.length:=by lia
   have eg:bs.getD j 0=b:=by rw [UZ,eb];rfl
   have s2:aC H' (upd H' pp (.tup [al j,al b])):=ak qS
   have S2:=S0.trans (s1.trans s2)
   have er:m.rows.getD j []=m.rows[j]:=by rw [UZ,aE hr];rfl
   have q:=yR j hr
   rw [er,eg] at q
   refine ⟨pp,_,rfl,bO.of af,rfl,_,_,rfl,_,_,rfl,rfl,?_⟩
   refine ⟨_,rfl,a,dx,_,rfl,S2 _ _ ha,rfl,_,rfl,a,fp,m,j,_,rfl,hh.same S2,aE hr,λ pm xs gc v9=>?_⟩
   have s3:aC (upd H' pp (.tup [al j,al b])) (upd (upd H' pp (.tup [al j,al b])) pm (.lst xs)):=ak gc
   obtain ⟨y,ey,dy⟩:=v9.get (i:=b) (d:=dS m.rows[j][b]) (by rw [aat,aE (by lia)];rfl)
   have jm:=s3 _ _ (s2 _ _ lY)
   have ts:aI K (upd (upd H' pp (.tup [al j,al b])) pm (.lst xs)) (upd (upd (upd H' pp (.tup [al j,al b])) pm (.lst xs)) D (.lst (acc++[y]))):=bH jm rfl
   have BP:acc.length=j:=by rw [d1.length,zN,zN,abU]
   refine ⟨_,rfl,pm,_,_,_,rfl,rfl,.inl (aR.of af),bF ey,jm,aT (by lia),(s1.trans (s2.trans s3)).put hD,af,?_,_,_,rfl⟩
   rw [agC,aaN,aaN]
   refine (bi.ts ((aC.ts (s2.trans s3)).trans ts) _ (nP _ id) (by simpa using d1)).snoc (Dn.ts ts _ (hZ _) ?_)
   show Dn K _ (dS ((m.rows.getD j []).getD (bs.getD j 0+0) (0,1))) y
   rw [er,eg,amW,UZ,aE (by lia:b<m.rows[j].length)]
   exact Dn.same s3 _ dy
  rintro acc U H1 ⟨s1,lY,d1,v0,v1,rfl⟩
  rw [zN] at d1
  have d1:bi K H1 ((gm m bs 0).map dS) acc:=d1
  have De:=s1.tup hb
  have S1:=S0.trans s1
  refine ⟨_,rfl,pb,rfl,.inr ⟨⟨_,De⟩,λ D2 iq=>?_⟩⟩
  refine jD (sq:=bO K) (a:=pb) (xs:=bs.map al) (λ j acc U H'=>A4 (aC H1 H') (H' D2=some (.lst acc)) (bi K H' (((List.range j).map λ j=>(m.rows.getD j []).getD (bs.getD j 0+1) (0,1)).map dS) acc) (E2 λ v0 v1=>U=[v0,v1,some (.ref a)]))
    ⟨ak iq,af,rfl,none,none,rfl⟩ (λ j acc U H' _ e=>e.1.tup De) ?_ ?_
  .
   rintro j x pp iz U H' hx qS ⟨NS,Lc,OE,v0,v1,rfl⟩
   obtain ⟨b,eb,rfl⟩:=cY hx
   have hj:j<bs.length:=(List.getElem?_eq_some_iff.mp eb).1
   have hr:j<m.rows.length:=by lia
   have eg:bs.getD j 0=b:=by rw [UZ,eb];rfl
   have s2:aC H' (upd H' pp (.tup [al j,al b])):=ak qS
   have S2:=S1.trans (NS.trans s2)
   have er:m.rows.getD j []=m.rows[j]:=by rw [UZ,aE hr];rfl
   have q:=yR j hr
   rw [er,eg] at q
   refine ⟨pp,_,rfl,bO.of af,rfl,_,_,rfl,_,_,rfl,rfl,?_⟩
   refine ⟨_,rfl,a,dx,_,rfl,S2 _ _ ha,rfl,_,rfl,a,fp,m,j,_,rfl,hh.same S2,aE hr,λ pm xs gc v9=>?_⟩
   have s3:aC (upd H' pp (.tup [al j,al b])) (upd (upd H' pp (.tup [al j,al b])) pm (.lst xs)):=ak gc
   obtain ⟨y,ey,dy⟩:=v9.get (i:=b+1) (d:=dS m.rows[j][b+1]) (by rw [aat,aE (by lia)];rfl)
   have jm:=s3 _ _ (s2 _ _ Lc)
   have ts:aI K (upd (upd H' pp (.tup [al j,al b])) pm (.lst xs)) (upd (upd (upd H' pp (.tup [al j,al b])) pm (.lst xs)) D2 (.lst (iz++[y]))):=bH jm rfl
   have BP:iz.length=j:=by rw [OE.length,zN,zN,abU]
   refine ⟨_,rfl,_,_,rfl,rfl,λ z ez=>?_⟩
   obtain rfl:z=((b+1:Nat):Int):=by rw [ez];push_cast;rfl
   refine ⟨pm,_,_,_,rfl,rfl,.inl (aR.of af),bF ey,jm,aT (by lia),(NS.trans (s2.trans s3)).put iq,af,?_,_,_,rfl⟩
   rw [agC,aaN,aaN]
   refine (bi.ts ((aC.ts (s2.trans s3)).trans ts) _ (nP _ id) (by simpa using OE)).snoc (Dn.ts ts _ (hZ _) ?_)
   show Dn K _ (dS ((m.rows.getD j []).getD (bs.getD j 0+1) (0,1))) y
   rw [er,eg,UZ,aE (by lia:b+1<m.rows[j].length)]
   exact Dn.same s3 _ dy
  rintro iz U H2 ⟨s2,jm,d2,v0,v1,rfl⟩
  rw [zN] at d2
  have d2:bi K H2 ((gm m bs 1).map dS) iz:=d2
  have S2:=S1.trans s2
  refine ⟨_,rfl,_,rfl,_,rfl,_,rfl,_,rfl,a,fp,m,i,D,acc,gm m bs 0,_,_,fired,rfl,hh.same S2,hi,aR.of (s2 _ _ lY),bi.same s2 _ d1,PJ,nJ q4 lb yR (by decide),Dn.same ((s1.trans s2)) _ dlo,olo,hz,λ w1 H3 s3 hw1=>?_⟩
  have S3:=S2.trans s3
  refine ⟨_,rfl,_,rfl,_,rfl,_,rfl,_,rfl,a,fp,m,i,D2,iz,gm m bs 1,_,_,fired,rfl,hh.same S3,hi,aR.of (s3 _ _ jm),bi.same s3 _ d2,le1,nJ q4 lb yR (by decide),Dn.same ((s1.trans s2).trans s3) _ dhi,ohi,hz,λ w2 H4 s4 WO=>⟨EW,λ q hq=>?_⟩⟩
  have s5:aC H4 (upd H4 q (.tup [.ref w1,.ref w2])):=ak hq
  exact k q w1 w2 _ ((S3.trans s4).trans s5) af (s5 _ _ (s4 _ _ hw1)) (s5 _ _ WO)
theorem kY (T:Txt K mg Ad):Def P w K mg base "under" 1 ["one","other"] (CU K):=by
 refine T.AC.cS xL λ f bA A outer s H vs Q E hr h=>?_
 obtain ⟨p1,p2,a,b,c,d,rfl,h1,h2,ba,bb,bc,bd,k⟩:=h
 refine ⟨_,(am (aF (db ky (av bw (aB aw (pv 0) ai (λ _ _=>rfl)) (aB aw (pv 1) ai (λ _ _=>rfl))) (av bw (aB aw (pv 1) ai (λ _ _=>rfl)) (aB aw (pv 0) ai (λ _ _=>rfl))) (aM _)))),?_⟩
 try dsimp only [eL,aU]
 refine ⟨_,rfl,_,_,_,_,rfl,rfl,.inr h1,rfl,_,rfl,_,_,_,_,rfl,rfl,.inr h2,rfl,_,_,rfl,rfl,⟨_,_,ba,bd,by decide⟩,λ x1 e1=>?_⟩
 refine ⟨_,rfl,_,_,_,_,rfl,rfl,.inr h2,rfl,_,rfl,_,_,_,_,rfl,rfl,.inr h1,rfl,_,_,rfl,rfl,⟨_,_,bc,bb,by decide⟩,λ x2 e2=>⟨_,_,rfl,rfl,?_⟩⟩
 subst e1 e2
 exact k
theorem yV (T:Txt K mg Ad):Def P w K mg base "touched" 5 ["hold","room","least","greatest"] (BU K Ad.aQ):=by
 refine T.Bz.cS ss λ f bA A outer s H vs Q E hr h=>?_
 obtain ⟨a,fp,m,i,r,v1,v2,f1,f2,rfl,hh,Lr,d1,d2,o1,o2,k⟩:=h
 refine ⟨_,(ag (aD (i:=4) ss.nd rfl (lc rfl) (aK (pv 0) T.az (ed (K:=K) T) .nil hr.m (aa (pv 1) ac)))
     (am (aF (fM ["band"] ["greatest","least","marks"] [3,2,4] (.cons ⟨rfl,rfl,.inl rfl⟩ (.cons ⟨rfl,rfl,.inl rfl⟩ (.cons ⟨rfl,rfl,.inl rfl⟩ .nil))) rfl (cH rfl T.eW (aa (av dX (aS bx (by rfl) T.fm c8 (aa (pv 4) ac)) ai) ac)) (λ _ _ _ _ _=>(aA (i:=0) (show (["band","greatest","least","marks"]:List Str).Nodup by decide +kernel) rfl (lc rfl))) (λ _ _ _ _ _=>(jP (PW.pt (uL (dJ (cC (ar (kY T) hr.m (aa (pv 1) (aa (aB (gF (K:=K) rfl) (pv 3) (pv 0) (λ _ _=>rfl)) ac))))) (qE (dJ (cC (ar (kY T) hr.m (aa (aB (gF (K:=K) rfl) (pv 3) (av aY (pv 0) ai) (λ _ _=>rfl)) (aa (pv 2) ac)))))))))) (λ _ _ _ _ _=>(pv 0)) rfl (by decide +kernel) (by decide +kernel) (by decide +kernel))))),?_⟩
 try dsimp only [eL,aU]
 obtain ⟨⟨dx,pm,pf,ps,pt,vm,vs,vt,ax,og,ha,_⟩,lsk,lst,l4,wf⟩:=id hh
 have Oj:r∈m.rows:=aaK Lr
 have hl:=wf.len r Oj
 have u5:=wf.rows r Oj
 refine ⟨_,rfl,a,dx,_,rfl,ha,rfl,_,rfl,a,fp,m,i,r,rfl,hh,Lr,λ p xs hp v9=>?_⟩
 have S1:aC H (upd H p (.lst xs)):=ak hp
 have kp:(upd H p (.lst xs)) p=some (.lst xs):=af
 have D1:=bi.same S1 _ v9
 have e1:=Dn.same S1 _ d1
 have e2:=Dn.same S1 _ d2
 generalize upd H p (.lst xs)=H1 at S1 kp D1 e1 e2 ⊢
 have lx:xs.length=r.length:=by rw [v9.length,zN]
 obtain ⟨p1,rfl,q1⟩:=e1.fr
 obtain ⟨p2,rfl,q2⟩:=e2.fr
 refine ⟨_,rfl,_,_,rfl,.inl (aR.of kp),λ y ey=>?_⟩
 have hn:2<=r.length/\r.length<=7:=hl
 refine ⟨_,_,rfl,rfl,λ z ez=>⟨_,rfl,by lia,by lia,λ D hD=>?_⟩⟩
 obtain ⟨n,en⟩:∃ n:Nat,z=(n:Int)/\n+1=r.length:=⟨r.length - 1,by lia,by lia⟩
 obtain ⟨rfl,en⟩:=en
 refine fJ (lo:=0) (n:=n) (λ j acc U H'=>A4 (aC H1 H') (H' D=some (.lst acc)) (acc=(jH r f1 f2 j).map al) (∃ v,U=[v,some (.ref p2),some (.ref p1),some (.ref p)]))
   ⟨ak hD,af,rfl,none,rfl⟩ ?_ ?_
 .
  rintro j acc U H' hj ⟨s2,iq,rfl,v,rfl⟩
  have SE:j<r.length:=by lia
  have Mg:j+1<r.length:=by lia
  obtain ⟨x,ex,yn⟩:=(bi.same s2 _ D1).get (i:=j) (d:=dS r[j]) (by rw [aat,aE SE];rfl)
  obtain ⟨x',Ub,tY⟩:=(bi.same s2 _ D1).get (i:=j+1) (d:=dS r[j+1]) (by rw [aat,aE Mg];rfl)
  obtain ⟨u1,rfl,w1⟩:=yn.fr
  obtain ⟨u2,rfl,w2⟩:=tY.fr
  have xn:=(u5 r[j] (acx SE)).mono (n:=20000) (by decide)
  have Jf:=(u5 r[j+1] (acx Mg)).mono (n:=20000) (by decide)
  have q1':=s2.tup q1
  have q2':=s2.tup q2
  have kp':=s2 _ _ kp
  have et:o6 r f1 f2 j=((!bI f2 r[j]) && !bI r[j+1] f1):=by
    unfold o6
    rw [UZ,UZ,aE SE,aE Mg];rfl
  have la:=j7 r f1 f2 j
  refine ⟨_,rfl,_,rfl,_,rfl,_,_,_,_,rfl,rfl,.inl (aR.of kp'),by rw [af8];exact bF ex,p2,u1,_,_,_,_,rfl,q2',w1,o2.t,o2.b,xn.t,xn.b,_,rfl,?_⟩
  show if (!bI f2 r[j])=true then _ else _
  cases c1:bI f2 r[j] with
  | true =>
    refine fX (fX ⟨s2,iq,?_,_,rfl⟩)
    rw [jT,et,c1];simp
  | false =>
    refine gS ⟨_,rfl,_,rfl,_,_,rfl,rfl,λ y1 ey1=>⟨_,_,_,_,rfl,rfl,.inl (aR.of kp'),by rw [ey1,af8];exact bF (j:=j+1) Ub,_,rfl,u2,p1,_,_,_,_,rfl,w2,q1',Jf.t,Jf.b,o1.t,o1.b,_,rfl,?_⟩⟩
    show if (!bI r[j+1] f1)=true then _ else _
    cases c2:bI r[j+1] f1 with
    | true =>
      refine fX ⟨s2,iq,?_,_,rfl⟩
      rw [jT,et,c1,c2];simp
    | false =>
      refine gS ⟨_,rfl,iq,aT (by rw [zN];lia),s2.put hD,af,?_,_,rfl⟩
      rw [jT,et,c1,c2,aaN,af8];rfl
 .
  rintro acc U H' ⟨s2,iq,rfl,v,rfl⟩
  have e:n=r.length - 1:=by lia
  rw [e] at iq
  exact k D H' (S1.free hD) (S1.trans s2) iq
theorem BB (T:Txt K mg Ad):Def P w K mg base "within" 5 ["hold","room","least","greatest"] (zQ K Ad.aQ):=by
 refine T.DL.cS tV λ f bA A outer s H vs Q E hr h=>?_
 obtain ⟨a,fp,m,i,r,v1,v2,f1,f2,rfl,hh,Lr,d1,d2,o1,o2,k⟩:=h
 refine ⟨_,(ag (aD (i:=4) tV.nd rfl (lc rfl) (aK (pv 0) T.az (ed (K:=K) T) .nil hr.m (aa (pv 1) ac)))
     (am (aF (mJ (uT (ar (kY T) hr.m (aa (pv 2) (aa (aB aw (pv 4) ai (λ _ _=>rfl)) ac)))) (mH (uT (ar (kY T) hr.m (aa (aB aw (pv 4) (qQ vP ai) (λ _ _=>rfl)) (aa (pv 3) ac))))))))),?_⟩
 try dsimp only [eL,aU]
 obtain ⟨⟨dx,pm,pf,ps,pt,vm,vs,vt,ax,og,ha,_⟩,lsk,lst,l4,wf⟩:=id hh
 have Oj:r∈m.rows:=aaK Lr
 have hl:=wf.len r Oj
 have u5:=wf.rows r Oj
 refine ⟨_,rfl,a,dx,_,rfl,ha,rfl,_,rfl,a,fp,m,i,r,rfl,hh,Lr,λ p xs hp v9=>?_⟩
 have S1:aC H (upd H p (.lst xs)):=ak hp
 have kp:(upd H p (.lst xs)) p=some (.lst xs):=af
 have D1:=bi.same S1 _ v9
 have e1:=Dn.same S1 _ d1
 have e2:=Dn.same S1 _ d2
 generalize upd H p (.lst xs)=H1 at S1 kp D1 e1 e2 ⊢
 have lx:xs.length=r.length:=by rw [v9.length,zN]
 obtain ⟨p1,rfl,q1⟩:=e1.fr
 obtain ⟨p2,rfl,q2⟩:=e2.fr
 have h0:0<r.length:=by lia
 have h1:r.length - 1<r.length:=by lia
 obtain ⟨x,ex,yn⟩:=D1.get (i:=0) (d:=dS r[0]) (by rw [aat,aE h0];rfl)
 obtain ⟨x',Ub,tY⟩:=D1.get (i:=r.length - 1) (d:=dS r[r.length - 1]) (by rw [aat,aE h1];rfl)
 obtain ⟨u1,rfl,w1⟩:=yn.fr
 obtain ⟨u2,rfl,w2⟩:=tY.fr
 have xn:=(u5 r[0] (acx h0)).mono (n:=20000) (by decide)
 have Jf:=(u5 r[r.length - 1] (acx h1)).mono (n:=20000) (by decide)
 have et:lA r f1 f2=((!bI f1 r[0]) && !bI r[r.length - 1] f2):=by
   unfold lA
   rw [UZ,UZ,aE h0,aE h1];rfl
 have kk:=k H1 S1
 rw [et] at kk
 refine ⟨_,rfl,_,rfl,_,_,_,_,rfl,rfl,.inl (aR.of kp),bF (j:=0) ex,p1,u1,_,_,_,_,rfl,q1,w1,o1.t,o1.b,xn.t,xn.b,_,rfl,_,rfl,?_⟩
 show if (!bI f1 r[0])=true then _ else _
 cases c1:bI f1 r[0] with
 | true =>
   rw [c1] at kk
   exact fX kk
 | false =>
   rw [c1] at kk
   refine gS ⟨_,rfl,_,rfl,_,_,_,_,rfl,rfl,.inl (aR.of kp),HQ (by lia) (by rw [lx];exact Ub),_,rfl,u2,p2,_,_,_,_,rfl,w2,q2,Jf.t,Jf.b,o2.t,o2.b,_,rfl,?_⟩
   show Q (.bl (!bI r[r.length - 1] f2)) H1
   exact kk
theorem qL (T:Txt K mg Ad):Def P w K mg base "each_choice" 1 ["rows"] (Ae K):=by
 refine T.tG.cS dE λ f bA A outer s H vs Q E hr h=>?_
 obtain ⟨p,xs,rows,rfl,hp,hrs,l4,l6,k⟩:=h
 refine ⟨_,(ag (aD (i:=1) dE.nd rfl (lc rfl) (cx (aa (cm ac) ac)))
     (ag (cL adG rfl (bK (pv 0)) (aA (i:=2) dE.nd rfl (lc rfl)) (ag (aD (i:=3) dE.nd rfl (lc rfl) (cx ac))
     (ag (cL adG rfl (bK (pv 1)) (aA (i:=4) dE.nd rfl (lc rfl)) (am (aW (gJ ads amD amC ug (pv 3) (aa (fM ["band"] ["choice"] [4] (.cons ⟨rfl,rfl,.inl rfl⟩ .nil) rfl (bK (pv 2)) (λ _ _ _ _ _=>(aA (i:=0) (show (["band","choice"]:List Str).Nodup by decide +kernel) rfl (lc rfl))) (λ _ _ _ _ _=>cr) (λ _ _ _ _ _=>(av (xJ (K:=K) rfl) (pv 1) (cm (aa (pv 0) ac)))) rfl (by decide +kernel) (by decide +kernel) (by decide +kernel)) ac)))))
     (am (aD (i:=1) dE.nd rfl (lc rfl) (pv 3))))))
     (am (aF (pv 1))))),?_⟩
 try dsimp only [eL,aU]
 first|(refine dC ?_;intro _ _ _ _)|skip
 refine ⟨Do,λ t0 ht0=>⟨Eu,λ pc hpc=>?_⟩⟩
 have s0:=ak (o:=.tup []) ht0
 have s1:=ak (o:=.lst [.ref t0]) hpc
 refine ⟨_,rfl,p,rfl,⟨_,(s0.trans s1).seq hp⟩,?_⟩
 have lx:=hrs.length
 refine je (K:=K) (a:=p) (xs:=xs) (λ i U H'=>aC H H'/\E2 λ q ys=>A3 (H' q=some (.lst ys)) (HF K H' ys (bo (rows.take i))) (E3 λ (v2 v3 v4:Option V)=>U=[some (.ref p),some (.ref q),v2,v3,v4]))
   ⟨s0.trans s1,pc,[.ref t0],af,Refs.snoc .nil (bO.of (s1 _ _ af)),none,none,none,rfl⟩ (λ i U H' _ ⟨s2,_⟩=>s2.seq hp) ?_ ?_
 .
  rintro i x U H1 hx ⟨S1,q,ys,hq,hc,v2,v3,v4,rfl⟩
  obtain ⟨qr,r,rfl,er,hqr⟩:=hrs.get hx
  have hi:i<rows.length:=(List.getElem?_eq_some_iff.mp er).1
  have r6:=l6 r (aaK er)
  have lc:=iJ l6 i
  have p6:6 ^ i<=216:=by
    have:=ahb (n:=6) (by decide) (show i<=3 by lia)
    lia
  have enx:bo (rows.take (i+1))=(bo (rows.take i)).flatMap λ c=>r.map λ b=>c++[b]:=by
    rw [bz er,ij]
  have lcs:∀ c∈bo (rows.take i),c.length<=4:=λ c h=>by
    have:=(iK.mp h).1
    rw [adS] at this
    lia
  generalize bo (rows.take i)=cs at hc lc enx lcs
  rw [enx]
  clear enx
  refine ⟨Do,λ pl gT=>?_⟩
  have s2:=ak (o:=.lst []) gT
  refine ⟨_,rfl,q,rfl,⟨_,aR.of (s2 _ _ hq)⟩,?_⟩
  refine je (K:=K) (a:=q) (xs:=ys) (λ j U H'=>aC H1 H'/\∃ zs,A3 (H' pl=some (.lst zs)) (HF K H' zs ((cs.take j).flatMap λ c=>r.map λ b=>c++[b])) (∃ (v4:Option V),U=[some (.ref p),some (.ref q),some (.ref qr),some (.ref pl),v4]))
    ⟨s2,[],af,.nil,v4,rfl⟩ (λ j U H' _ ⟨s3,_⟩=>aR.of (s3 _ _ hq)) ?_ ?_
  .
   rintro j y U H2 hy ⟨S2,zs,hz,OR,v4,rfl⟩
   obtain ⟨tc,c,rfl,ec,htc⟩:=hc.get hy
   have hj:j<cs.length:=(List.getElem?_eq_some_iff.mp ec).1
   have Gj:aR K H2 qr (r.map al):=(S1.trans S2).seq hqr
   have Qf:bO K H2 tc (c.map al):=S2.tup htc
   have lz:zs.length<=216 * 6:=by
     rw [OR.length]
     refine acS (eG (k:=6) λ a=>by rw [zN];exact r6) ?_
     rw [adS]
     lia
   rw [bz ec,am3,amQ]
   refine ⟨_,rfl,.inl ⟨rfl,_,aR.of hz⟩,_,rfl,qr,rfl,⟨_,Gj⟩,λ D hD=>?_⟩
   refine cu (K:=K) (a:=qr) (xs:=r.map al) (λ b acc σ' H3=>A4 (aC H2 H3) (H3 D=some (.lst acc)) (HF K H3 acc ((r.take b).map λ x=>c++[x])) (∃ v,σ'=[v,some (.ref tc)]))
     ⟨ak hD,af,.nil,none,rfl⟩ (λ b acc σ' H3 _ ⟨s3,_,_,_⟩=>s3.seq Gj) ?_ ?_
   .
    rintro b z acc σ' H3 hb ⟨s3,jm,lM,v,rfl⟩
    obtain ⟨bn,eb,rfl⟩:=cY hb
    have hbl:b<r.length:=(List.getElem?_eq_some_iff.mp eb).1
    have la:acc.length<=6:=by rw [lM.length,zN,adS];lia
    refine ⟨_,rfl,_,rfl,Eu,λ tb htb=>?_⟩
    have s4:=ak (o:=.tup [al bn]) htb
    refine ⟨tc,tb,_,_,rfl,rfl,(s3.trans s4).tup Qf,bO.of af,?_,λ t5 H5 s5 h5=>?_⟩
    . have:=lcs c (aaK ec)
      exact akV (aT (by rw [zN,acG];lia))
    . refine ⟨s5 _ _ (s4 _ _ jm),ab2 la (by decide),((s3.trans s4).trans s5).put hD,af,?_,_,rfl⟩
      rw [bz eb,aaN]
      have ts:aI K H5 (upd H5 D (.lst (acc++[.ref t5]))):=bH (s5 _ _ (s4 _ _ jm)) rfl
      refine Refs.snoc (lM.imp λ p a h=>ts _ _ ((s4.trans s5).tup h)) (ts _ _ ?_)
      rw [aaN]
      exact h5
   .
    rintro acc σ' H3 ⟨s3,jm,lM,v,rfl⟩
    rw [zN,adc] at lM
    have la:acc.length<=6:=by rw [lM.length,zN];exact r6
    have hz3:=s3 _ _ hz
    refine ⟨pl,D,zs,acc,rfl,rfl,hz3,jm,akV (ab2 (show zs.length+acc.length<=1302 by lia) (by decide)),?_⟩
    have ts:aI K H3 (upd H3 pl (.lst (zs++acc))):=bH hz3 rfl
    exact ⟨(S2.trans s3).put gT,_,af,Refs.append (OR.imp λ p a h=>ts _ _ (s3.tup h)) (lM.imp λ p a h=>ts _ _ h),_,rfl⟩
  . rintro U H2 ⟨S2,zs,hz,OR,v4,rfl⟩
    rw [hc.length,adc] at OR
    exact ⟨_,rfl,S1.trans S2,pl,zs,hz,OR,_,_,_,rfl⟩
 . rintro U H1 ⟨S1,q,ys,hq,hc,v2,v3,v4,rfl⟩
   rw [agD (by lia)] at hc
   exact ⟨_,rfl,k q ys H1 S1 hq hc⟩
theorem mB (T:Txt K mg Ad):gs P w K mg base Ad.Reach "__init__" 1 ["self","hold"] [] (BS P w K Ad.aQ Ad.Reach):=by
 refine T.pi.fh nl λ f bA A outer s H vs Q E hr h=>?_
 obtain ⟨x,dx,a,fp,m,rfl,hx,hh,nx,k⟩:=h
 refine ⟨_,(ag (cK (pv 0) (pv 1) rfl)
     (am (cK (pv 0) (A0 (P:=P) (w:=w) rfl rfl) rfl))),?_⟩
 try dsimp only [eL,aU]
 have B0:i4 K Ad.Reach x dx H H []:=.start hx
 refine ⟨_,rfl,_,rfl,x,_,dx,_,rfl,B0.at_,T.cX,T.c7,lt1000 rfl,?_⟩
 have B1:=B0.put (fs':=aG "hold" (.ref a) [])
 intro d hd
 have B2:=B1.new (o:=jV P w d []) hd
 refine ⟨_,rfl,x,_,dx,_,rfl,B2.at_,T.cX,T.dk,lt1000 rfl,?_⟩
 have B3:=B2.put (fs':=aG "spreads" (.ref d) (aG "hold" (.ref a) []))
 have nd:d≠x:=B1.ne hd
 have hdn:H d=none:=B1.none hd
 refine k d _ (λ c u hc n=>B3.st c u hc λ z=>n (List.mem_singleton.mpr z)) B3.ts hdn ⟨⟨dx,B3.at_⟩,hh.Hz B3.st B3.ts nx,λ z=>?_,[],gY.nil (by rw [aq nd];exact af),aaU _,λ i bs f v e=>by cases e⟩
 obtain ⟨o,ho⟩:=hh.some d z
 rw [hdn] at ho
 cases ho
set_option maxHeartbeats 0 in
theorem oY (T:Txt K mg Ad):gs P w K mg base Ad.Reach "spread" 8 ["self","room","bands","fired"] [] (BF P w K Ad.aQ Ad.Reach):=by
 refine T.rY.fh dO λ f bA A outer s H vs Q E hr h=>?_
 obtain ⟨x,d,a,fp,m,c,i,pb,bs,b,L,rfl,Kp,hL,hc,hi,D0,lb,hb,hf,TK,Uo,k⟩:=h
 refine ⟨_,(ag (aD (i:=4) dO.nd rfl (lc rfl) (cm (aa (pv 1) (aa (pv 2) (aa (pv 3) ac)))))
     (ag (jC (bv (aO (ux (P:=P) (w:=w) (K:=K) rfl rfl rfl hr.Gm) (pv 4) (aH (pv 0) rfl) (by with_unfolding_all rfl)) (ag (iy (ar (zi (K:=K) T) hr.m (aa (aH (pv 0) rfl) (aa (pv 1) (aa (pv 2) (aa (pv 3) ac))))) (cW (K:=K) (n:=2) rfl rfl (aN (aA (i:=5) dO.nd rfl (lc rfl)) (aN (aA (i:=6) dO.nd rfl (lc rfl)) cV))))
     (ag (aD (i:=7) dO.nd rfl (lc rfl) (ar (BB (K:=K) T) hr.m (aa (aH (pv 0) rfl) (aa (pv 1) (aa (pv 5) (aa (pv 6) ac))))))
     (am (Ai (P:=P) (w:=w) (K:=K) rfl rfl rfl hr.Gm (aH (pv 0) rfl) (pv 4) (jg (cC (pv 7)) (ar (yV (K:=K) T) hr.m (aa (aH (pv 0) rfl) (aa (pv 1) (aa (pv 5) (aa (pv 6) ac))))) cy) rfl)))) aJ))
     (am (aF (kP (P:=P) (w:=w) (K:=K) rfl rfl rfl hr.Gm (aH (pv 0) rfl) (pv 4) (λ _ _=>rfl)))))),?_⟩
 try dsimp only [eL,aU]
 first|(refine dC ?_;intro _ _ _ _)|skip
 refine ⟨_,rfl,_,rfl,_,rfl,Rp,λ tk U4=>?_⟩
 have s1:=ak (o:=.tup [al i,.ref pb,.bl b]) U4
 have Fc:=Kp.same s1
 have rp:gb K (upd H tk (.tup [al i,.ref pb,.bl b])) (jX i bs b) tk:=zG (bO.of af) (s1.tup D0)
 generalize upd H tk (.tup [al i,.ref pb,.bl b])=H1 at s1 Fc rp ⊢
 obtain ⟨⟨dx,hx⟩,hh,nd,ax,JY,hl,hv⟩:=id Fc
 refine ⟨λ σ' H'=>(E2 λ ax v=>A7 (f8 [d] H1 H') (aI K H1 H') (dM P w K Ad.aQ Ad.Reach L H' x d a fp m (c+1)) (gY P w K H' d ax) (gb K H' (jX i bs b) tk) (gZ ax (jX i bs b)=some v) (eA L H' v (dG m i bs b)))/\E3 λ (v5 v6 v7:Option V)=>σ'=[some (.ref x),some (al i),some (.ref pb),some (.bl b),some (.ref tk),v5,v6,v7],?_,?_⟩
 .
  refine ⟨_,rfl,_,rfl,x,_,dx,_,_,rfl,hx,T.cX,T.dk,rfl,d,tk,ax,_,rfl,rfl,JY,rp,_,rfl,?_⟩
  cases e:gZ ax (jX i bs b) with
  | some v=>exact fX ⟨⟨ax,v,λ _ _ h _=>h,aI.refl _,Fc.more (ak2 _),JY,rp,e,hv i bs b v e⟩,none,none,none,rfl⟩
  | none =>
    refine gS ?_
    refine ⟨_,rfl,x,_,dx,_,_,rfl,hx,T.cX,T.c7,rfl,_,rfl,_,rfl,_,rfl,a,fp,m,i,pb,bs,b,rfl,hh,hi,.inr (s1.tup D0),lb,hb,hf,λ q q1 q2 H2 s2 e0 e1 e2=>?_⟩
    refine ⟨q,_,rfl,bO.of e0,rfl,_,_,rfl,_,_,rfl,rfl,?_⟩
    have OX:=s2 _ _ hx
    have uH:=aE hi
    have Ko:m.rows.getD i []=m.rows[i]:=by rw [UZ,uH];rfl
    refine ⟨_,rfl,x,_,dx,_,_,rfl,OX,T.cX,T.c7,rfl,_,rfl,_,rfl,_,rfl,a,fp,m,i,m.rows[i],.ref q1,.ref q2,_,_,rfl,hh.same s2,uH,lP (bO.of e1),lP (bO.of e2),TK,Uo,λ H3 s3=>?_⟩
    have S3:=s2.trans s3
    have Nz:=S3 _ _ hx
    have GZ:dG m i bs b=if lA m.rows[i] (kH m i bs b) (kc m i bs b)=true then some (oE m.rows[i] (kH m i bs b) (kc m i bs b)) else none:=by unfold dG;rw [Ko]
    cases ew:lA m.rows[i] (kH m i bs b) (kc m i bs b) with
    | true =>
      rw [ew,ady rfl] at GZ
      refine ⟨_,rfl,_,rfl,gS ⟨_,rfl,x,_,dx,_,_,rfl,Nz,T.cX,T.c7,rfl,_,rfl,_,rfl,_,rfl,a,fp,m,i,m.rows[i],.ref q1,.ref q2,_,_,rfl,hh.same S3,uH,lP (bO.of (s3 _ _ e1)),lP (bO.of (s3 _ _ e2)),TK,Uo,λ pt H4 nt s4 ht=>?_⟩⟩
      have S4:=S3.trans s4
      have hs4:eA L H4 (.ref pt) (dG m i bs b):=by rw [GZ];exact ⟨pt,rfl,λ z=>hL pt z ((s1.trans S3).free nt),ht⟩
      obtain ⟨p1,p2,p3,p4⟩:=(Fc.same S4).put (JY.same S4) hl (λ i bs f v e=>(hv i bs f v e).same S4) (rp.ts S4.ts) hs4
      exact ⟨_,rfl,x,_,dx,_,_,rfl,S4 _ _ hx,T.cX,T.dk,rfl,_,rfl,d,tk,ax,_,rfl,rfl,JY.same S4,rp.ts S4.ts,ab2 (acS hl hc) (by decide),⟨_,.ref pt,λ c o e n=>p2 c o (S4 c o e) n,S4.ts.trans p3,p1,(JY.same S4).put (rp.ts S4.ts),(rp.ts S4.ts).ts p3,by rw [kJ,ady rfl],p4⟩,_,_,_,rfl⟩
    | false =>
      rw [ew,ac9 ac8] at GZ
      have hs4:eA L H3 .cf (dG m i bs b):=by rw [GZ];rfl
      obtain ⟨p1,p2,p3,p4⟩:=(Fc.same S3).put (JY.same S3) hl (λ i bs f v e=>(hv i bs f v e).same S3) (rp.ts S3.ts) hs4
      exact ⟨_,rfl,_,rfl,fX ⟨_,rfl,x,_,dx,_,_,rfl,Nz,T.cX,T.dk,rfl,_,rfl,d,tk,ax,_,rfl,rfl,JY.same S3,rp.ts S3.ts,ab2 (acS hl hc) (by decide),⟨_,.cf,λ c o e n=>p2 c o (S3 c o e) n,S3.ts.trans p3,p1,(JY.same S3).put (rp.ts S3.ts),(rp.ts S3.ts).ts p3,by rw [kJ,ady rfl],p4⟩,_,_,_,rfl⟩⟩
 .
  rintro σ' H2 ⟨⟨Fy,v,b2,t2,UK,PK,Pk,ev,Gf⟩,v5,v6,v7,rfl⟩
  obtain ⟨tY,OX⟩:=UK.ins
  refine ⟨_,rfl,x,_,tY,_,_,rfl,OX,T.cX,T.dk,rfl,_,rfl,d,tk,Fy,_,v,rfl,rfl,PK,Pk,ev,?_⟩
  exact k v H2 (λ c o e n=>b2 c o (s1 c o e) n) (s1.ts.trans t2) UK Gf
set_option maxHeartbeats 0 in
theorem jk (T:Txt K mg Ad):gs P w K mg base Ad.Reach "states_behind" 9 ["self","state","order"] [] (Co P w K Ad.aQ Ad.Reach):=by
 refine T.jZ.fh bM λ f bA A outer s H vs Q E hr h=>?_
 obtain ⟨x,d,a,fp,m,c,p,st,o,L,rfl,Kp,hL,hc,hs,so,ow,tn,zP,k1,k2⟩:=h
 refine ⟨_,(ag (aD (i:=3) bM.nd rfl (lc rfl) (cx ac))
     (ag (cL adG rfl (bK (ar (qK (K:=K) T) hr.m (aa (ar (zm (K:=K) T) hr.m (aa (aH (pv 0) rfl) (aa (pv 1) (aa (pv 2) ac)))) ac))) (aA (i:=4) bM.nd rfl (lc rfl)) (ag (aD (i:=5) bM.nd rfl (lc rfl) (av kQ (pv 2) (qQ yP (pv 4))))
     (ag (sj (yi:=6) ["room"] ["self","state","burning"] [0,1,5] (.cons ⟨rfl,rfl,.inl rfl⟩ (.cons ⟨rfl,rfl,.inl rfl⟩ (.cons ⟨rfl,rfl,.inl rfl⟩ .nil))) rfl (cH rfl T.eW (aa (eX (aH (pv 0) rfl) T.az (cg (K:=K) T) .nil hr.m) ac)) (λ _ _ _ _ _=>(aA (i:=0) (show (["room","self","state","burning"]:List Str).Nodup by decide +kernel) rfl (lc rfl))) (λ _ _ _ _ _=>cr) (λ _ _ _ _ _=>(aK (pv 1) T.cX (oY (P:=P) (w:=w) T) .nil hr.m (aa (pv 0) (aa (aB (gF (K:=K) rfl) (pv 2) ai (λ _ _=>rfl)) (aa (ar (eD (K:=K) T) hr.m (aa (pv 3) (aa (pv 0) ac))) ac))))) rfl (by decide +kernel) (by decide +kernel) (by decide +kernel) bM.nd rfl (lc rfl) rfl)
     (ag (bv (aO (Ky (Av hr)) cy (pv 6) (by with_unfolding_all rfl)) (am (aF cy)) aJ)
     (ag (aD (i:=7) bM.nd rfl (lc rfl) (ar (oJ (K:=K) T) hr.m (aa (aH (pv 0) rfl) (aa (pv 1) (aa (pv 2) (aa (pv 4) ac))))))
     (am (aW (gJ ads amD amC ug (pv 3) (aa (fM ["bands"] ["stoves"] [7] (.cons ⟨rfl,rfl,.inl rfl⟩ .nil) rfl (bK (ar (qL (K:=K) T) hr.m (aa (pv 6) ac))) (λ _ _ _ _ _=>(aA (i:=0) (show (["bands","stoves"]:List Str).Nodup by decide +kernel) rfl (lc rfl))) (λ _ _ _ _ _=>cr) (λ _ _ _ _ _=>(av (xJ (K:=K) rfl) (cm (aa (pv 0) ac)) (pv 1))) rfl (by decide +kernel) (by decide +kernel) (by decide +kernel)) ac)))))))))
     (am (aF (pv 3))))),?_⟩
 try dsimp only [eL,aU]
 first|(refine dC ?_;intro _ _ _ _)|skip
 obtain ⟨_,_,_,q3,q4⟩:=id Kp.hold
 refine ⟨Do,λ ps gz=>?_⟩
 have s1:=ak (o:=.lst []) gz
 have e1:(upd H ps (.lst [])) ps=some (.lst []):=af
 generalize upd H ps (.lst [])=H1 at s1 e1 ⊢
 obtain ⟨dx,hx⟩:=Kp.ins
 refine ⟨_,rfl,x,_,dx,_,_,rfl,s1 _ _ hx,T.cX,T.c7,rfl,_,rfl,_,rfl,a,fp,m,p,st,o,rfl,Kp.hold.same s1,hs.same s1,so,ow,λ H2 s2=>?_⟩
 have S2:=s1.trans s2
 have m16:st.may m o<16:=vh q3
 have ol:=ni m16
 refine ⟨st.may m o,rfl,by lia,ol.1,λ pl H3 gT s3 hl=>⟨pl,rfl,⟨_,aR.of hl⟩,?_⟩⟩
 have S3:=S2.trans s3
 have e3:H3 ps=some (.lst []):=s3 _ _ (s2 _ _ e1)
 have npl:pl≠ps:=(au (s2 _ _ e1) gT).symm
 have aj3:ps∉fp:=λ z=>by
   obtain ⟨u,hu⟩:=Kp.hold.some ps z
   rw [gz] at hu;cases hu
 have MX:dM P w K Ad.aQ Ad.Reach (ps::L) H3 x d a fp m c:=(Kp.new gz).same S3
 obtain ⟨kv0,Rx,_⟩:=MX.Mj
 have Uq:pl≠d:=λ z=>by rw [z,Rx.ob] at hl;cases hl
 have nps:ps≠d:=λ z=>by rw [z,Rx.ob] at e3;cases e3
 have LX:=hs.same S3
 have lo:(di m st o).length<=16:=ol.2
 have hl:H3 pl=some (.lst ((di m st o).map al)):=hl
 unfold qa at k2
 generalize di m st o=outs at hl lo tn k1 k2
 refine fL (K:=K) (a:=pl) (xs:=outs.map al) (λ i U H'=>A6 (f8 [d,ps] H3 H') (aI K H3 H') (dM P w K Ad.aQ Ad.Reach (ps::L) H' x d a fp m (c+4 * i)) (∃ xs,H' ps=some (.lst xs)/\lU K H' xs ((outs.take i).flatMap (ib m st o))) (∀ out∈outs.take i,jb m st (Ord.off o out)=true) (E4 λ (v4 v5 v6 v7:Option V)=>U=[some (.ref x),some (.ref p),some (al o),some (.ref ps),v4,v5,v6,v7]))
   ⟨λ _ _ h _=>h,aI.refl _,MX,⟨[],e3,Refs.nil⟩,λ _ h=>absurd h (by simp),none,none,none,none,rfl⟩ (λ i U H' _ ⟨b,_,_,_,_,_⟩=>aR.of (b _ _ hl (by simp [Uq,npl]))) ?_ ?_
 .
  rintro _ i v U H4 hv ⟨b4,t4,JR,⟨xs,HD,wa⟩,Al,v4,v5,v6,v7,rfl⟩
  obtain ⟨out,eo,rfl⟩:=cY hv
  have hi:i<outs.length:=(List.getElem?_eq_some_iff.mp eo).1
  have Qq:=tn out (aaK eo)
  have bits:∀ i,(Ord.off o out).testBit i=true->m.has i=true:=λ i h=>(Qq.L3 (Qq.Mz h).1).2
  refine ⟨_,rfl,_,rfl,_,rfl,_,_,rfl,rfl,λ y ey=>?_⟩
  obtain rfl:y=((Ord.off o out:Nat):Int):=by rw [ey];exact mK _ _
  obtain ⟨dx4,Vr⟩:=JR.ins
  obtain ⟨⟨dxh,_,_,_,_,_,_,_,_,_,afK,_⟩,_⟩:=id JR.hold
  refine ⟨_,rfl,x,_,dx4,_,_,rfl,Vr,T.cX,T.c7,rfl,a,dxh,_,rfl,afK,rfl,a,fp,m,rfl,JR.hold,_,rfl,by lia,by lia,λ D hD=>?_⟩
  have Q6:g7 K H4 p st:=LX.ts t4
  obtain ⟨pb,pw,pf,h0,MT,hw0,hf0⟩:=id Q6
  obtain ⟨kv4,aiZ,_⟩:=JR.Mj
  have nD:D≠d:=(au aiZ.ob hD).symm
  have nfD:D∉fp:=λ z=>by
    obtain ⟨u,hu⟩:=JR.hold.some D z
    rw [hD] at hu;cases hu
  refine fJ (lo:=0) (n:=m.rows.length) (λ j acc σ' H5=>A6 (f8 [d] H4 H5) (aI K H4 H5) (dM P w K Ad.aQ Ad.Reach (D::ps::L) H5 x d a fp m (c+4 * i+j)) (H5 D=some (.lst acc)) (Paired (eA (D::ps::L) H5) acc ((List.range j).map (tf m st (Ord.off o out)))) (∃ v,σ'=[v,some (.ref x),some (.ref p),some (al (Ord.off o out))]))
    ⟨λ b u h _=>ak hD b u h,(ak hD).ts,(JR.new hD).same (ak hD),af,.nil,none,rfl⟩ ?_ ?_
  .
   rintro j acc σ' H5 hj ⟨b5,t5,A1,RB,lM,v,rfl⟩
   obtain ⟨N3,Sy⟩:=A1.ins
   obtain ⟨kv5,Nt,_⟩:=A1.Mj
   have la:acc.length=j:=by rw [akU lM,zN,abU]
   have Ji:=b5 _ _ HD (by simp [nps])
   obtain ⟨TK,Uo⟩:=zP j ((Ord.off o out).testBit j) hj (bits j)
   refine ⟨_,rfl,x,N3,_,rfl,Sy,rfl,_,rfl,_,rfl,p,_,_,_,rfl,rfl,.inr (t5 _ _ h0),rfl,_,rfl,_,rfl,Ord.off o out,j,by rw [af8];rfl,?_⟩
   refine ⟨x,d,a,fp,m,c+4 * i+j,j,pb,st.dW,(Ord.off o out).testBit j,D::ps::L,by rw [af8];rfl,A1,?_,by lia,hj,t5 _ _ MT,so.lb,λ j hj=>by have:=so.band j hj;unfold gN at this;rw [UZ];exact this,λ z=>?_,TK,Uo,λ v6 H6 b6 t6 re6 agi=>?_⟩
   .
    intro b hb
    rcases List.mem_cons.mp hb with rfl|hb
    . rw [RB];exact nofun
    rcases List.mem_cons.mp hb with rfl|hb
    . rw [Ji];exact nofun
    . by_cases z:b=d
      . rw [z,Nt.ob];exact nofun
      . cases e:H b with
        | none=>exact absurd e (hL b hb)
        | some u=>rw [b5 b u (b4 b u (S3 b u e) (by simp only [aa1,aaI,afj,akH];exact ⟨z,au e gz⟩)) (by simp [z])];exact nofun
   . obtain ⟨z',ez⟩:=sJ (bits j z)
     exact ⟨z',by rw [kR (by lia),ez]⟩
   .
    have HE:=b6 _ _ RB (by simp [nD])
    obtain ⟨kv6,af0,_⟩:=re6.Mj
    have ks:∀ {v r},eA (D::ps::L) H6 v r->eA (D::ps::L) (upd H6 D (.lst (acc++[v6]))) v r:=λ h=>h.but af0.ob mN (λ c u e _ n=>by rw [aq (λ z=>n (by simp [z]))];exact e) λ _ h=>h
    refine ⟨HE,aT (by lia),λ b u h n=>by rw [aq (au h hD)];exact b6 b u (b5 b u h n) n,t5.trans (t6.trans (bH HE rfl)),re6.write HE (by simp) nfD,af,?_,_,rfl⟩
    rw [agC,aaN]
    exact aly (Paired.vW lM λ a r h=>ks (h.but Nt.ob mN (λ c u e n _=>b6 c u e (by simp [n])) λ _ h=>h)) (ks agi)
  .
   rintro acc σ' H5 ⟨b5,t5,A1,RB,lM,v,rfl⟩
   have KA:∀ v∈acc,v = .cf∨∃ a ys,v = .ref a/\aR K H5 a ys:=λ v hv=>(AF lM v hv).imp id λ ⟨q,ys,e,h⟩=>⟨q,ys,e,aR.of h⟩
   have Ji:=b5 _ _ HD (by simp [nps])
   obtain ⟨N3,Sy⟩:=A1.ins
   have B5:f8 [d] H H5:=λ b u h n=>b5 b u (b4 b u (S3 b u h) (by
     simp only [aa1,aaI,afj,akH] at n ⊢
     exact ⟨n,au h gz⟩)) n
   have T5:aI K H H5:=S3.ts.trans (t4.trans t5)
   refine ⟨_,rfl,D,acc,rfl,rfl,aR.of RB,KA,_,rfl,ji (λ hn=>?_) (λ hn=>?_)⟩
   . exact k1 ⟨out,aaK eo,uA.mp ((rT lM).mp hn)⟩ H5 B5 T5 ((A1.less λ b h=>aaS _ (aaS _ h)).more (by lia))
   have nn:none∉(List.range m.rows.length).map (tf m st (Ord.off o out)):=λ z=>hn ((rT lM).mpr z)
   have uH:=wC lM nn
   rw [Hv] at uH
   have sf:jb m st (Ord.off o out)=true:=by
     cases e:jb m st (Ord.off o out) with
     | true=>rfl
     | false=>exact absurd (uA.mpr e) nn
   refine ⟨_,rfl,x,_,N3,_,_,rfl,Sy,T.cX,T.c7,rfl,_,rfl,_,rfl,_,rfl,a,fp,m,p,st,o,out,rfl,A1.hold,Q6.ts t5,so,λ i h=>Qq.has h,Qq.JS,Qq.JJ,λ qt pw' uZ H6 s6 g1 g2 g3=>?_⟩
   have lr:(gf m st (Ord.off o out)).length=m.rows.length:=by unfold gf;rw [zN,abU]
   refine ⟨_,rfl,.inl ⟨rfl,_,aR.of (s6 _ _ Ji)⟩,_,rfl,D,acc,gf m st (Ord.off o out),rfl,aR.of (s6 _ _ RB),uH.imp λ q r h=>aR.of (s6 _ _ h),by lia,wA q4,λ qc ys H7 s7 hqc vk=>⟨qc,rfl,⟨_,aR.of hqc⟩,λ D2 iq=>?_⟩⟩
   have bl:=jo q4 q3 (s:=st) (o:=o) out
   unfold ib at bl
   rw [zN] at bl
   have eb:ib m st o out=(bo (gf m st (Ord.off o out))).map λ c=>st.behind m c o out:=rfl
   have l4:∀ c∈bo (gf m st (Ord.off o out)),c.length<=4:=λ c h=>by have:=(iK.mp h).1;lia
   generalize bo (gf m st (Ord.off o out))=cs at vk bl eb l4
   refine cu (K:=K) (a:=qc) (xs:=ys) (λ j iz σ' H8=>A4 (aC H7 H8) (H8 D2=some (.lst iz)) (lU K H8 iz ((cs.take j).map λ c=>st.behind m c o out)) (∃ v,σ'=[v,some (.ref qt)]))
     ⟨ak iq,af,Refs.nil,none,rfl⟩ (λ j iz σ' H8 _ ⟨s8,_,_,_⟩=>aR.of (s8 _ _ hqc)) ?_ ?_
   .
    rintro j z iz σ' H8 hz ⟨s8,Ju,qI,v,rfl⟩
    obtain ⟨tc,cc,rfl,ec,htc⟩:=vk.get hz
    have hj:j<cs.length:=(List.getElem?_eq_some_iff.mp ec).1
    have la:iz.length<=1296:=by rw [qI.length,zN,adS];lia
    have Kq:=s7.trans s8
    refine ⟨_,rfl,Eu,λ tb htb=>?_⟩
    have s9:=ak (o:=.tup [.ref tc]) htb
    refine ⟨_,rfl,tb,qt,_,_,rfl,rfl,bO.of af,bO.of (s9 _ _ (Kq _ _ g1)),(by show 1+4<=sizeLine;decide),λ tq E7 sN h10=>?_⟩
    have O2:=sN _ _ (s9 _ _ Ju)
    have ts:aI K E7 (upd E7 D2 (.lst (iz++[.ref tq]))):=bH O2 rfl
    have DQ:=s9.trans sN
    refine ⟨O2,ab2 la (by decide),(s8.trans DQ).put iq,af,?_,_,rfl⟩
    rw [bz ec,aaN]
    refine Refs.snoc (qI.imp λ p a h=>(h.same DQ).ts ts) ?_
    exact ⟨tc,pw',uZ,ts _ _ h10,ts _ _ ((s8.trans DQ).tup htc),ts _ _ ((Kq.trans DQ).tup (bO.of g2)),ts _ _ ((Kq.trans DQ).tup (bO.of g3))⟩
   .
    rintro iz σ' H8 ⟨s8,Ju,qI,v,rfl⟩
    rw [vk.length,adc] at qI
    rw [← eb] at qI
    have S8:=(s6.trans s7).trans s8
    have L7:=S8 _ _ Ji
    have lx:xs.length<=16 * 1296:=by
      rw [wa.length]
      refine acS (eG (k:=1296) (jo q4 q3)) ?_
      rw [adS]
      lia
    have la:iz.length<=1296:=by rw [qI.length];exact jo q4 q3 out
    refine ⟨ps,D2,xs,iz,rfl,rfl,L7,Ju,akV (ab2 (show xs.length+iz.length<=22032 by lia) (by decide)),?_⟩
    have ts:aI K H8 (upd H8 ps (.lst (xs++iz))):=bH L7 rfl
    refine ⟨λ b u h n=>?_,t4.trans (t5.trans (S8.ts.trans ts)),(((A1.less λ b h=>aaS _ h).same S8).write L7 (by simp) aj3).more (by lia),⟨_,af,?_⟩,λ ZO h'=>?_,_,_,_,_,rfl⟩
    . have n':=n
      simp only [aa1,aaI,afj,akH] at n'
      rw [aq n'.2]
      exact S8 _ _ (b5 _ _ (b4 b u h n) (by simp [n'.1]))
    . rw [bz eo,am3,amQ]
      exact Refs.append (wa.imp λ p a h=>(((h.ts t5).same S8).ts ts)) (qI.imp λ p a h=>h.ts ts)
    . rw [bz eo] at h'
      rcases List.mem_append.mp h' with z|z
      . exact Al ZO z
      . rw [List.mem_singleton.mp z];exact sf
 .
  rintro U H4 ⟨b4,t4,JR,⟨xs,HD,wa⟩,Al,v4,v5,v6,v7,rfl⟩
  rw [zN,adc] at wa Al
  refine ⟨_,rfl,k2 Al ps xs H4 gz (λ b u h n=>b4 b u (S3 b u h) ?_) (S3.ts.trans t4) ((JR.less λ b h=>aaS _ h).more (by rw [zN];lia)) HD wa⟩
  simp only [aa1,aaI,afj,akH] at n ⊢
  exact ⟨n,au h gz⟩
set_option maxHeartbeats 0 in
theorem md (T:Txt K mg Ad):gs P w K mg base Ad.cz "meet" 1 ["self","state"] [] (HR P w K Ad.cz):=by
 refine T.yl.fh u9 λ f bA A outer s H vs Q E hr h=>?_
 obtain ⟨x,p,pm,po,pr,pd,lim,g,m,st,L,rfl,hg,ok,fin,l2,hs,so,k⟩:=h
 refine ⟨_,(ag (jC (bv (aO (ux (P:=P) (w:=w) (K:=K) rfl rfl rfl hr.Gm) (pv 1) (aH (pv 0) rfl) (by with_unfolding_all rfl)) (ag (bv (aO D8 (aS bx (by rfl) T.fm c8 (aa (aH (pv 0) rfl) ac)) (aH (pv 0) rfl) (aM _)) (am bY) aJ)
     (ag (Ai (P:=P) (w:=w) (K:=K) rfl rfl rfl hr.Gm (aH (pv 0) rfl) (pv 1) (aS bx (by rfl) T.fm c8 (aa (aH (pv 0) rfl) ac)) rfl)
     (am (aW (gJ ads adL adH bX (aH (pv 0) rfl) (aa (pv 1) ac)))))) aJ))
     (am (aF (kP (P:=P) (w:=w) (K:=K) rfl rfl rfl hr.Gm (aH (pv 0) rfl) (pv 1) (λ _ _=>rfl))))),?_⟩
 try dsimp only [eL,aU]
 obtain ⟨⟨dx,hx⟩,⟨vm,hm,Gb⟩,_,_,⟨ax,hk,hl,hp⟩,_,_,_⟩:=id hg
 have key:=fK hs
 refine ⟨λ σ' H'=>(E3 λ j g' i6=>A9 (f8 [pm,pd] H H') (aI K H H') (dB P w K Ad.cz L H' x pm po pr pd lim g') (sM g g') (fV m g') (g'.met[j]?=some st) (gY P w K H' pd i6) (gZ i6 (j6 st)=some (al j)) (g'=g∨g'=g.add st))/\σ'=[some (.ref x),some (.ref p)],?_,?_⟩
 .
  refine ⟨_,rfl,_,rfl,x,_,dx,_,_,rfl,hx,T.bL,T.fW,rfl,pd,p,ax,j6 st,rfl,rfl,hk,key,_,rfl,?_⟩
  by_cases wl:st∈g.met
  . obtain ⟨j,ej⟩:=List.mem_iff_getElem?.mp wl
    rw [hp.1 j st ej]
    exact fX ⟨⟨j,g,ax,λ _ _ h _=>h,aI.refl _,hg,sM.refl g,ok,ej,hk,hp.1 j st ej,.inl rfl⟩,rfl⟩
  .
   rw [hp.2 st wl]
   have J3:=ok.add so wl
   have ll:((g.met++[st]).length:Int)<=lim:=fin _ J3.nd J3.st
   rw [aaE,acG] at ll
   have lv:=Gb.length
   refine gS ⟨_,rfl,x,_,dx,_,_,rfl,hx,T.bL,T.eB,rfl,pm,vm,rfl,.inl (aR.of hm),λ y ey=>⟨_,rfl,x,_,dx,_,_,rfl,hx,T.bL,T.lW,rfl,_,_,rfl,rfl,_,rfl,ji (λ h=>?_) (λ h=>?_)⟩⟩
   . exfalso;lia
   refine ⟨_,rfl,x,_,dx,_,_,rfl,hx,T.bL,T.eB,rfl,pm,vm,rfl,.inl (aR.of hm),λ y2 ey2=>?_⟩
   obtain rfl:y2=((g.met.length:Nat):Int):=by rw [ey2,lv]
   refine ⟨_,rfl,x,_,dx,_,_,rfl,hx,T.bL,T.fW,rfl,_,rfl,pd,p,ax,j6 st,rfl,rfl,hk,key,ab2 (show ax.length<=2000 by lia) (by decide),?_⟩
   obtain ⟨g1,b1,t1⟩:=hg.add hm Gb hk hl hp hs wl
   have nm:pm≠pd:=λ z=>by rw [z,hk.ob] at hm;cases hm
   have nx:x≠pd:=λ z=>by rw [z,hk.ob] at hx;cases hx
   have Ka:(upd H pd (jV P w pd (fj ax (j6 st) p (al g.met.length)))) pm=some (.lst vm):=by rw [aq nm];exact hm
   have rB:(upd H pd (jV P w pd (fj ax (j6 st) p (al g.met.length)))) x=some (.ins Ad.cz dx (RW pm po pr pd lim)):=by rw [aq nx];exact hx
   obtain ⟨Fy,PK,_,yf⟩:=g1.pls
   have ej:(g.add st).met[g.met.length]?=some st:=aex
   exact ⟨_,rfl,x,_,dx,_,_,rfl,rB,T.bL,T.eB,rfl,.inl ⟨rfl,_,aR.of Ka⟩,_,rfl,pm,vm,_,rfl,rfl,Ka,ab2 (show vm.length<=2000 by lia) (by decide),⟨g.met.length,g.add st,Fy,b1,t1,g1,sM.add g st,J3,ej,PK,yf.1 _ _ ej,.inr rfl⟩,rfl⟩
 . rintro σ' H2 ⟨⟨j,g',i6,b2,t2,Mw,gx,Jf,ej,PK,ev,wh⟩,rfl⟩
   obtain ⟨tY,OX⟩:=Mw.ins
   exact ⟨_,rfl,x,_,tY,_,_,rfl,OX,T.bL,T.fW,rfl,_,rfl,pd,p,i6,j6 st,al j,rfl,rfl,PK,fK (hs.ts t2),ev,k j g' H2 b2 t2 Mw gx Jf ej wh⟩
set_option maxHeartbeats 0 in
theorem ng (T:Txt K mg Ad):gs P w K mg base Ad.cz "meet_all" 2 ["self","states"] [] (zf P w K Ad.cz):=by
 refine T.pR.fh om λ f bA A outer s H vs Q E hr h=>?_
 obtain ⟨x,v,pm,po,pr,pd,lim,g,m,L,rfl,hg,ok,fin,l2,h⟩:=h
 refine ⟨_,(am (aF (jg (aO j8 (pv 1) cy (aM _)) cy (fM ["state"] ["self"] [0] (.cons ⟨rfl,rfl,.inl rfl⟩ .nil) rfl (bK (pv 1)) (λ _ _ _ _ _=>(aA (i:=0) (show (["state","self"]:List Str).Nodup by decide +kernel) rfl (lc rfl))) (λ _ _ _ _ _=>cr) (λ _ _ _ _ _=>(aK (pv 1) T.bL (md (P:=P) (w:=w) T) .nil hr.m (aa (pv 0) ac))) rfl (by decide +kernel) (by decide +kernel) (by decide +kernel))))),?_⟩
 try dsimp only [eL,aU]
 rcases h with ⟨rfl,k⟩|⟨q,xs,l,rfl,hq,nq,wa,MN,ll,k⟩
 . exact ⟨_,rfl,rfl,_,rfl,gS k⟩
 refine ⟨_,rfl,rfl,_,rfl,ji (λ h=>nomatch h) λ _=>?_⟩
 refine ⟨_,rfl,q,rfl,⟨_,aR.of hq⟩,λ D hD=>?_⟩
 obtain ⟨⟨dx,hx⟩,⟨vm,hm,_⟩,⟨vo,ho,_⟩,⟨vr,Lr,_⟩,⟨ax,hk,_⟩,_,_,_⟩:=id hg
 have Mr:D≠pm:=(au hm hD).symm
 have U2:D≠po:=(au ho hD).symm
 have TZ:D≠pr:=(au Lr hD).symm
 have UR:D≠pd:=(au hk.ob hD).symm
 have nqd:q≠pd:=λ z=>by rw [z,hk.ob] at hq;cases hq
 have lx:=wa.length
 have s0:=ak (o:=.lst []) hD
 refine cu (K:=K) (a:=q) (xs:=xs) (λ i acc σ' H'=>A5 (f8 [pm,pd] H H') (aI K H H') (H' D=some (.lst acc)) (E2 λ g' js=>A5 (dB P w K Ad.cz (D::L) H' x pm po pr pd lim g') (sM g g') (fV m g') (acc=js.map al) (Paired (λ j s=>g'.met[j]?=some s) js (l.take i))) (∃ v,σ'=[v,some (.ref x)]))
   ⟨λ b u h _=>s0 b u h,s0.ts,af,⟨g,[],(hg.new hD).same s0,sM.refl g,ok,rfl,.nil⟩,none,rfl⟩ (λ i acc σ' H' _ ⟨b,_,_,_,_⟩=>aR.of (b _ _ hq (by simp [nq,nqd]))) ?_ ?_
 .
  rintro i y acc σ' H1 hy ⟨b1,t1,lY,⟨g1,js,CO,Gi,xn,rfl,CH⟩,v,rfl⟩
  obtain ⟨p,st,rfl,es,i9⟩:=wa.get hy
  have hi:i<l.length:=(List.getElem?_eq_some_iff.mp es).1
  have lj:js.length<=100000:=by rw [akU CH,adS];lia
  obtain ⟨yn,rB⟩:=CO.ins
  refine ⟨_,rfl,x,yn,_,rfl,rB,rfl,_,rfl,x,p,pm,po,pr,pd,lim,g1,m,st,D::L,rfl,CO,xn,fin,l2,i9.ts t1,MN st (aaK es),λ j g2 H2 b2 t2 Mw gx2 Jf ej _=>?_⟩
  have iq:=b2 _ _ lY (by simp [Mr,UR])
  refine ⟨iq,ab2 (show (js.map al).length<=100000 by rw [zN];exact lj) (by decide),λ b u h n=>?_,t1.trans (t2.trans (bH iq rfl)),af,⟨g2,js++[j],Mw.write iq (by simp) Mr U2 TZ,Gi.trans gx2,Jf,by rw [aaN];rfl,?_⟩,_,rfl⟩
  . rw [aq (au h hD)]
    exact b2 b u (b1 b u h n) n
  . rw [bz es]
    exact aly (Paired.vW CH λ j s e=>gx2.at e) ej
 . rintro acc σ' H1 ⟨b1,t1,lY,⟨g1,js,CO,Gi,xn,rfl,CH⟩,v,rfl⟩
   rw [lx,adc] at CH
   exact k D js g1 H1 hD b1 t1 (CO.less λ b h=>aaS _ h) Gi xn lY CH
set_option maxHeartbeats 0 in
theorem su (T:Txt K mg Ad):gs P w K mg base Ad.cz "go_on" 10 ["self","hold"] [] (HW P w K Ad.aQ Ad.cz):=by
 refine T.vz.fh gD λ f bA A outer s H vs Q E hr h=>?_
 obtain ⟨x,a,pm,po,pr,pd,lim,g0,m,fp,rfl,hg0,ok0,lo0,fin,l2,hm,hh,f1,f2,f3,f4,k⟩:=h
 refine ⟨_,(ag (aD (i:=2) gD.nd rfl (lc rfl) (nU T.Ei (mB (P:=P) (w:=w) T) .nil hr.m T.Hc (aa (pv 1) ac)))
     (am (nA adG (aO ky (aS bx (by rfl) T.fm c8 (aa (aH (pv 0) rfl) ac)) (aS bx (by rfl) T.fm c8 (aa (aH (pv 0) rfl) ac)) (aM _)) (ag (aD (i:=3) gD.nd rfl (lc rfl) (aB aw (aH (pv 0) rfl) (aS bx (by rfl) T.fm c8 (aa (aH (pv 0) rfl) ac)) (λ _ _=>rfl)))
     (ag (aD (i:=4) gD.nd rfl (lc rfl) (ar (vY (K:=K) T) hr.m (aa (pv 1) (aa (pv 3) ac))))
     (ag (aW (gJ ads adL adH bX (aH (pv 0) rfl) (aa (pv 4) ac)))
     (am (aW (gJ ads adL adH bX (aH (pv 0) rfl) (aa (fM ["order"] ["self","state","reach"] [0,3,2] (.cons ⟨rfl,rfl,.inl rfl⟩ (.cons ⟨rfl,rfl,.inl rfl⟩ (.cons ⟨rfl,rfl,.inl rfl⟩ .nil))) rfl (bK (pv 4)) (λ _ _ _ _ _=>(aA (i:=0) (show (["order","self","state","reach"]:List Str).Nodup by decide +kernel) rfl (lc rfl))) (λ _ _ _ _ _=>cr) (λ _ _ _ _ _=>(aK (pv 1) T.bL (ng (P:=P) (w:=w) T) .nil hr.m (aa (aK (pv 3) T.cX (jk (P:=P) (w:=w) T) .nil hr.m (aa (pv 2) (aa (pv 0) ac))) ac))) rfl (by decide +kernel) (by decide +kernel) (by decide +kernel)) ac)))))))))),?_⟩
 try dsimp only [eL,aU]
 refine ⟨_,rfl,λ xr Kb QT i5 n=>?_⟩
 have s1:aC H (upd (upd H Kb (.own xr)) xr (.ins Ad.Reach Kb [])):=(ak i5).trans (ak (by first|(rw [aq n];exact QT)|(rw [aq n.symm];exact QT)))
 have rB:(upd (upd H Kb (.own xr)) xr (.ins Ad.Reach Kb [])) xr=some (.ins Ad.Reach Kb []):=af
 generalize upd (upd H Kb (.own xr)) xr (.ins Ad.Reach Kb [])=H1 at s1 rB ⊢
 have ve:∀ {b},H b=none->b∉fp:=λ e z=>by
   obtain ⟨u,hu⟩:=hh.some _ z
   rw [e] at hu;cases hu
 refine ⟨xr,Kb,a,fp,m,rfl,rB,hh.same s1,ve QT,λ d H2 b2 t2 hd UK=>⟨rfl,?_⟩⟩
 have dn:H d=none:=s1.free hd
 have S2:aC H H2:=λ b u e=>b2 b u (s1 b u e) (by simp only [akp];exact au e QT)
 obtain ⟨_,⟨vm0,hm0,_⟩,⟨vo0,ho0,_⟩,⟨vr0,Rc,_⟩,⟨kv0,US,_⟩,n1,n2,n3⟩:=id hg0
 have ex:∀ {b u},H b=some u->b≠d/\b≠xr:=λ e=>⟨au e dn,au e QT⟩
 obtain ⟨dm,xm⟩:=ex hm0
 obtain ⟨do',xo⟩:=ex ho0
 obtain ⟨dr,xrr⟩:=ex Rc
 obtain ⟨dd,xd⟩:=ex US.ob
 refine ⟨λ mz U H'=>A4 (f8 [pm,po,pr,pd] H H') (aI K H H') (∃ g,A6 (dB P w K Ad.cz [] H' x pm po pr pd lim g) (fV m g) (g.eM.length=g.rows.length) (∃ more,g.met=g0.met++more) (dM P w K Ad.aQ Ad.Reach [pm,po,pr] H' xr d a fp m (1024 * g.rows.length)) (mz=2000 - g.rows.length)) (E2 λ (v3 v4:Option V)=>U=[some (.ref x),some (.ref a),some (.ref xr),v3,v4]),
   ⟨_,λ b u h _=>S2 b u h,S2.ts,⟨g0,hg0.same S2,ok0,lo0,⟨[],(ahG _).symm⟩,UK.zero.more (aeU _),rfl⟩,none,none,rfl⟩,?_⟩
 rintro mz U H3 ⟨b3,t3,⟨g,hg,ok,lo,pre,re,rfl⟩,v3,v4,rfl⟩
 obtain ⟨⟨dx,hx⟩,⟨vm,Gb,svm⟩,⟨vo,hvo,dvo⟩,⟨vr,Ug,dvr⟩,⟨ax,hk,_⟩,_,_,_⟩:=id hg
 have lvr:vr.length=g.rows.length:=by rw [dvr.length,zN]
 have lvo:vo.length=g.eM.length:=by rw [dvo.length,zN]
 have lvm:=svm.length
 have aqh:(g.met.length:Int)<=lim:=fin g.met ok.nd ok.st
 refine ⟨_,rfl,x,_,dx,_,_,rfl,hx,T.bL,T.cZ,rfl,pr,vr,rfl,.inl (aR.of Ug),λ y1 e1=>⟨_,rfl,x,_,dx,_,_,rfl,hx,T.bL,T.eB,rfl,pm,vm,rfl,.inl (aR.of Gb),λ y2 e2=>⟨_,_,rfl,rfl,_,rfl,ji (λ h=>?_) (λ h=>?_)⟩⟩⟩
 .
  have hi:g.rows.length<g.met.length:=by lia
  refine ⟨λ σ' H'=>A4 (f8 [pm,po,pr,pd] H H') (aI K H H') (∃ g',A6 (dB P w K Ad.cz [] H' x pm po pr pd lim g') (fV m g') (g'.eM.length=g'.rows.length) (∃ more,g'.met=g0.met++more) (dM P w K Ad.aQ Ad.Reach [pm,po,pr] H' xr d a fp m (1024 * g'.rows.length)) (g'.rows.length=g.rows.length+1)) (E2 λ (v3 v4:Option V)=>σ'=[some (.ref x),some (.ref a),some (.ref xr),v3,v4]),
    λ σ' H' ⟨b,t,⟨g',h1,h2,h3,h4,h5,h6⟩,w3,w4,e⟩=>⟨2000 - g'.rows.length,by lia,b,t,⟨g',h1,h2,h3,h4,h5,rfl⟩,w3,w4,e⟩,?_⟩
  obtain ⟨p,st,ep,es,i9⟩:=svm.get (aE (show g.rows.length<vm.length by lia))
  have so:=ok.st st (aaK es)
  have aty:ud vm ((g.rows.length:Nat):Int)=some (.ref p):=gO (by rw [aE (show g.rows.length<vm.length by lia),ep])
  refine ⟨_,rfl,x,_,dx,_,_,rfl,hx,T.bL,T.eB,rfl,_,rfl,x,_,dx,_,_,rfl,hx,T.bL,T.cZ,rfl,pr,vr,rfl,.inl (aR.of Ug),λ y3 e3=>⟨pm,_,_,_,rfl,rfl,.inl (aR.of Gb),(by rw [e3,lvr];exact aty:ud vm y3=some (.ref p)),?_⟩⟩
  refine ⟨_,rfl,_,rfl,a,fp,m,p,st,rfl,re.hold,i9,so,λ q H4 nq s4 hq=>?_⟩
  have Dt:=s4 _ _ hvo
  refine ⟨_,rfl,x,_,dx,_,_,rfl,s4 _ _ hx,T.bL,T.j4,rfl,.inl ⟨rfl,_,aR.of Dt⟩,_,rfl,po,vo,_,rfl,rfl,Dt,ab2 (show vo.length<=2000 by lia) (by decide),?_⟩
  have nqm:q≠pm:=(au Gb nq).symm
  have nqo:q≠po:=(au hvo nq).symm
  have nqr:q≠pr:=(au Ug nq).symm
  have hg5:=(hg.same s4).ord Dt hq (by simp [nqm,nqo,nqr])
  have A1:=(re.same s4).write (ys:=vo++[.ref q]) Dt (by simp) f2
  have ts5:aI K H4 (upd H4 po (.lst (vo++[.ref q]))):=bH Dt rfl
  have Ih:(upd H4 po (.lst (vo++[.ref q]))) q=some (.lst ((st.orders m).map al)):=by rw [aq nqo];exact hq
  have C6:(upd H4 po (.lst (vo++[.ref q]))) pr=some (.lst vr):=by rw [aq n3.symm];exact s4 _ _ Ug
  have b5:f8 [pm,po,pr,pd] H (upd H4 po (.lst (vo++[.ref q]))):=λ b u h z=>by
    have:=b3 b u h z
    simp only [aa1,aaI,afj,akH] at z
    rw [aq z.2.1]
    exact s4 _ _ this
  have T5:aI K H (upd H4 po (.lst (vo++[.ref q]))):=t3.trans (s4.ts.trans ts5)
  have Oz:g7 K (upd H4 po (.lst (vo++[.ref q]))) p st:=(i9.same s4).ts ts5
  have ok5:=ok.ord (s:=st) (by rw [lo];exact es)
  have lor:=rq hm.h4 st
  generalize upd H4 po (.lst (vo++[.ref q]))=H5 at hg5 A1 Ih C6 b5 T5 Oz ⊢
  obtain ⟨⟨N3,Sy⟩,⟨vm5,hm5,_⟩,⟨vo5,ho5,_⟩,_,⟨kv5,hk5,_⟩,_,_,_⟩:=id hg5
  refine ⟨_,rfl,x,_,N3,_,_,rfl,Sy,T.bL,T.cZ,rfl,.inl ⟨rfl,_,aR.of C6⟩,_,rfl,q,rfl,⟨_,aR.of Ih⟩,λ D hD=>?_⟩
  have nqd:q≠d:=λ z=>by
    obtain ⟨kvd,hkd,_⟩:=A1.Mj
    rw [z,hkd.ob] at Ih;cases Ih
  have nqp:q≠pd:=λ z=>by rw [z,hk5.ob] at Ih;cases Ih
  have Mr:D≠pm:=(au hm5 hD).symm
  have U2:D≠po:=(au ho5 hD).symm
  have TZ:D≠pr:=(au C6 hD).symm
  have nDp:D≠pd:=(au hk5.ob hD).symm
  have nDf:D∉fp:=λ z=>by
    obtain ⟨u,hu⟩:=A1.hold.some D z
    rw [hD] at hu;cases hu
  obtain ⟨apw,Yn,_⟩:=A1.Mj
  have UR:D≠d:=(au Yn.ob hD).symm
  have s5:=ak (o:=.lst []) hD
  refine cu (K:=K) (a:=q) (xs:=(st.orders m).map al) (λ j acc σ' H6=>A5 (f8 [pm,pd,d] H5 H6) (aI K H5 H6) (H6 D=some (.lst acc)) (E2 λ g' r=>A6 (dB P w K Ad.cz [D] H6 x pm po pr pd lim g') (sM (g.ord (st.orders m)) g') (fV m g') (dM P w K Ad.aQ Ad.Reach [D,pm,po,pr] H6 xr d a fp m (1024 * g.rows.length+64 * j)) (bi K (cP H6 ([D]++[pm,po,pr])) ((r:bE).map qO) acc) (Paired (λ o b=>mS g'.met (jW m st o) b) ((st.orders m).take j) r)) (∃ v,σ'=[v,some (.ref x),some (.ref p),some (.ref xr)]))
    ⟨λ b u h _=>s5 b u h,s5.ts,af,⟨_,[],(hg5.new hD).same s5,sM.refl _,ok5,(A1.new hD).same s5,eK,.nil⟩,none,rfl⟩ (λ j acc σ' H6 _ ⟨b,_,_,_,_⟩=>aR.of (b _ _ Ih (by simp [nqm,nqp,nqd]))) ?_ ?_
  .
   rintro j y acc σ' H6 hy ⟨b6,t6,HE,⟨g1,r,CO,Gi,xn,ME,PV,OY⟩,v,rfl⟩
   obtain ⟨o,eo,rfl⟩:=cY hy
   have ho:=aaK eo
   have hj:j<(st.orders m).length:=(List.getElem?_eq_some_iff.mp eo).1
   have BP:acc.length<=16:=by rw [PV.length,zN,← akU OY,adS];lia
   obtain ⟨dx6,hx6⟩:=CO.ins
   obtain ⟨We,Yc⟩:=ME.ins
   obtain ⟨_,⟨vm6,MJ,_⟩,⟨vo6,ho6,_⟩,⟨vr6,hr6,_⟩,⟨kv6,hk6,_⟩,_,_,_⟩:=id CO
   obtain ⟨aqe,IB,_⟩:=ME.Mj
   have Tk:∀ (v':V) (b':Option (List Nat)) (g2:oQ) (H8:Hp),f8 [pm,pd,d] H6 H8->aI K H6 H8->dB P w K Ad.cz [D] H8 x pm po pr pd lim g2->sM g1 g2->fV m g2->dM P w K Ad.aQ Ad.Reach [D,pm,po,pr] H8 xr d a fp m (1024 * g.rows.length+64 * j+64)->bi K (cP H8 ([D]++[pm,po,pr])) (r.map qO) acc->Dn K (cP H8 ([D]++[pm,po,pr])) (qO b') v'->mS g2.met (jW m st o) b' ->
       H8 D=some (.lst acc)/\acc.length<sizeLine/\(f8 [pm,pd,d] H5 (upd H8 D (.lst (acc++[v'])))/\aI K H5 (upd H8 D (.lst (acc++[v'])))/\(upd H8 D (.lst (acc++[v']))) D=some (.lst (acc++[v']))/\(∃ g' r,dB P w K Ad.cz [D] (upd H8 D (.lst (acc++[v']))) x pm po pr pd lim g'/\sM (g.ord (st.orders m)) g'/\fV m g'/\dM P w K Ad.aQ Ad.Reach [D,pm,po,pr] (upd H8 D (.lst (acc++[v']))) xr d a fp m (1024 * g.rows.length+64 * (j+1))/\bi K (cP (upd H8 D (.lst (acc++[v']))) ([D]++[pm,po,pr])) ((r:bE).map qO) (acc++[v'])/\Paired (λ o b=>mS g'.met (jW m st o) b) ((st.orders m).take (j+1)) r)):=by
     intro v' b' g2 H8 b8 t8 YF UJ Yt re8 TV dv8 ri
     have Ju:=b8 _ _ HE (by simp [Mr,nDp,UR])
     refine ⟨Ju,aT (by lia),λ b u h n=>?_,t6.trans (t8.trans (bH Ju rfl)),af,g2,r++[b'],YF.write Ju (by simp) Mr U2 TZ,Gi.trans UJ,Yt,(re8.write Ju (by simp) nDf).more (by lia),?_,?_⟩
     . rw [aq (au h hD)]
       exact b8 b u (b6 b u h n) n
     . rw [kO (by simp),aaN]
       exact bi.snoc TV dv8
     . rw [bz eo]
       obtain ⟨⟨more,em⟩,_⟩:=UJ
       exact aly (Paired.vW OY λ o b q=>by rw [em];exact q.more) ri
   have Z1:∀ b∈[D,pm,po,pr],H6 b≠none:=by
     intro b hb
     simp only [aa1,aaI,afj] at hb
     rcases hb with rfl|rfl|rfl|rfl
     . rw [HE];exact nofun
     . rw [MJ];exact nofun
     . rw [ho6];exact nofun
     . rw [hr6];exact nofun
   refine ⟨_,rfl,x,dx6,_,rfl,hx6,rfl,_,rfl,xr,We,_,rfl,Yc,rfl,_,rfl,_,rfl,xr,d,a,fp,m,_,p,st,o,[D,pm,po,pr],rfl,ME,Z1,by lia,Oz.ts t6,so,hm.ow ho,hm.tn st o so ho,hm.sp st so,λ hu H7 b7 t7 re7=>?_,λ hsf q2 xs2 H7 nq2 b7 t7 re7 uq ai1=>?_⟩
   . have L8:=CO.but IB.ob dd.symm b7 t7
     refine ⟨x,.cf,pm,po,pr,pd,lim,g1,m,[D],rfl,L8,xn,fin,l2,.inl ⟨rfl,?_⟩⟩
     obtain ⟨z1,z2,z3,z4,z5,g9,r9,y1,y2,y3,y4,y5,y6⟩:=Tk .cf none g1 H7 (λ b u h n=>b7 b u h (by simp only [aa1,aaI,afj,akH] at n;simp [n.2.2])) t7 L8 (sM.refl g1) xn re7 (bi.vO IB.ob rfl (CK b7) PV) rfl (by rw [Ek hu];trivial)
     exact ⟨z1,z2,z3,z4,z5,⟨g9,r9,y1,y2,y3,y4,y5,y6⟩,_,rfl⟩
   .
    have L8:=CO.but IB.ob dd.symm b7 t7
    have ap6:=Hh (id ME.hold).5 hm.h4 st o
    refine ⟨x,.ref q2,pm,po,pr,pd,lim,g1,m,[D],rfl,L8,xn,fin,l2,.inr ⟨q2,xs2,qa m st o,rfl,uq,(au MJ nq2).symm,ai1,λ s' h'=>hm.nx st o s' so ho h',by lia,λ D2 js g2 H8 iq b8 t8 YF UJ Yt aez CH=>?_⟩⟩
    obtain ⟨_,⟨vm7,hm7,_⟩,⟨vo7,ho7,_⟩,⟨vr7,hr7,_⟩,⟨kv7,hk7,_⟩,_,_,_⟩:=id L8
    have hD7:=b7 _ _ HE (by simp [UR])
    have re8:=re7.frame (M:=[pm,pd]) b8 t8 (by simp [xm.symm,xd.symm]) (by simp [dm.symm,dd.symm]) (λ c hc z=>by
      simp only [aa1,aaI,afj] at z
      rcases z with rfl|rfl
      . exact f1 hc
      . exact f4 hc) (λ c hc=>by
      simp only [aa1,aaI,afj] at hc
      rcases hc with rfl|rfl
      . exact .inl (by simp)
      . exact .inr λ xs z=>by rw [hk7.ob] at z;cases z)
    have dr7:bi K (cP H7 ([D]++[pm,po,pr])) (r.map qO) acc:=bi.vO IB.ob rfl (CK b7) PV
    have TV:bi K (cP H8 ([D]++[pm,po,pr])) (r.map qO) acc:=bi.vO hk7.ob rfl (λ c u e n1 n2=>b8 c u e (by
      simp only [amj,alQ,aa1,aaI,afj,akH] at n2 ⊢
      exact ⟨n2.2.1,n1⟩)) dr7
    obtain ⟨z1,z2,z3,z4,z5,g9,r9,y1,y2,y3,y4,y5,y6⟩:=Tk (.ref D2) (some js) g2 H8 (λ b u h n=>by
      simp only [aa1,aaI,afj,akH] at n
      exact b8 b u (b7 b u h (by simp [n.2.2])) (by simp [n.1,n.2.1])) (t7.trans t8) YF UJ Yt re8 TV (AX (aR.of (kB aez (by
      simp only [amj,alQ,aa1,aaI,afj,akH]
      exact ⟨(au hD7 iq).symm,(au hm7 iq).symm,(au ho7 iq).symm,(au hr7 iq).symm⟩)))) (by rw [FW hsf];exact CH)
    exact ⟨z1,z2,z3,z4,z5,⟨g9,r9,y1,y2,y3,y4,y5,y6⟩,_,rfl⟩
  .
   rintro acc σ' H6 ⟨b6,t6,HE,⟨g1,r,CO,Gi,xn,ME,PV,OY⟩,v,rfl⟩
   rw [zN,adc] at OY
   have GU:=b6 _ _ C6 (by
     simp only [aa1,aaI,afj,akH]
     exact ⟨n2.symm,(λ z=>by rw [z,hk5.ob] at C6;cases C6),dr⟩)
   have er:g1.rows=g.rows:=Gi.rows
   have eo:g1.eM=g.eM++[st.orders m]:=Gi.eM
   have dr0:bi K (cP H6 ([]++[pm,po,pr])) (r.map qO) acc:=bi.same (λ b u e=>by
     unfold cP at e ⊢
     split at e
     . cases e
     . rename_i z
       rw [ac9 (show b∉[]++[pm,po,pr] from λ y=>z (List.mem_append.mpr (.inr y)))]
       exact e) _ PV
   have L8:=(CO.less (L':=[]) λ b h=>absurd h aaI).row GU HE (by simp [Mr,U2,TZ]) dr0
   have ok7:=xn.row (s:=st) (r:=r) (by rw [er];exact Gi.at (show (g.ord (st.orders m)).met[g.rows.length]?=some st from es)) OY
   refine ⟨pr,vr,_,rfl,rfl,GU,ab2 (show vr.length<=2000 by lia) (by decide),λ b u h z=>?_,T5.trans (t6.trans (bH GU rfl)),⟨g1.row r,L8,ok7,?_,?_,?_,?_⟩,_,_,rfl⟩
   . have:=b5 b u h z
     simp only [aa1,aaI,afj,akH] at z
     rw [aq z.2.2.1]
     exact b6 _ _ this (by simp only [aa1,aaI,afj,akH];exact ⟨z.1,z.2.2.2,au h dn⟩)
   . show g1.eM.length=(g1.rows++[r]).length
     rw [eo,er,aaE,aaE,lo]
     rfl
   . obtain ⟨⟨more,em⟩,_⟩:=Gi
     obtain ⟨O7,em0⟩:=pre
     exact ⟨O7++more,by show g1.met=_;rw [em];show g.met++more=_;rw [em0,alA]⟩
   . refine ((ME.less λ b h=>aaS _ h).write GU (by simp) f3).more ?_
     show _<=1024 * (g1.rows++[r]).length
     rw [er,aaE,acG,zN]
     lia
   . show (g1.rows++[r]).length=_
     rw [er,aaE];rfl
 . exact k g H3 b3 t3 hg ok lo (by have:=ok.lr;lia) pre
set_option maxHeartbeats 0 in
theorem nB (T:Txt K mg Ad):gs P w K mg base Ad.cz "__init__" 11 ["self","hold","states","limit"] [] (El P w K Ad.aQ Ad.cz):=by
 refine T.pW.fh gv λ f bA A outer s H vs Q E hr h=>?_
 obtain ⟨x,dx,a,q,lim,fp,m,xs,l,rfl,hx,hh,nx,hm,fin,l2,hq,wa,MN,k⟩:=h
 refine ⟨_,(ag (cL adG rfl (bK (pv 2)) (aA (i:=4) gv.nd rfl (lc rfl)) (am (aW (ar (jh (K:=K) T) hr.m (aa (pv 1) (aa (pv 4) ac))))))
     (ag (cK (pv 0) (cx ac) rfl)
     (ag (cK (pv 0) (cx ac) rfl)
     (ag (cK (pv 0) (cx ac) rfl)
     (ag (cK (pv 0) (A0 (P:=P) (w:=w) rfl rfl) rfl)
     (ag (cK (pv 0) (pv 3) rfl)
     (ag (cL adG rfl (bK (pv 2)) (aA (i:=4) gv.nd rfl (lc rfl)) (am (aW (aK (pv 0) T.bL (md (P:=P) (w:=w) T) .nil hr.m (aa (pv 4) ac)))))
     (am (aW (aK (pv 0) T.bL (su (P:=P) (w:=w) T) .nil hr.m (aa (pv 1) ac))))))))))),?_⟩
 try dsimp only [eL,aU]
 first|(refine Eb ?_;intro _ _ _ _ _ _ _ _ _)|skip
 have lx:=wa.length
 refine ⟨_,rfl,q,rfl,⟨_,aR.of hq⟩,?_⟩
 refine fL (K:=K) (a:=q) (xs:=xs) (λ i U H'=>aC H H'/\∃ (v:Option V),U=[some (.ref x),some (.ref a),some (.ref q),some (.int lim),v]) ⟨aC.refl _,none,rfl⟩ (λ i U H' _ ⟨s1,_⟩=>aR.of (s1 _ _ hq)) ?_ ?_
 . rintro _ i v U H1 hv ⟨s1,v4,rfl⟩
   obtain ⟨p,st,rfl,es,i9⟩:=wa.get hv
   exact ⟨_,rfl,_,rfl,a,fp,m,p,st,rfl,hh.same s1,i9.same s1,MN st (aaK es),λ H2 s2=>⟨s1.trans s2,_,rfl⟩⟩
 rintro U H1 ⟨s1,v4,rfl⟩
 have B0:i4 K Ad.cz x dx H1 H1 []:=.start (s1 _ _ hx)
 refine ⟨Do,λ pm gc=>?_⟩
 have B1:=B0.new (o:=.lst []) gc
 refine ⟨_,rfl,x,_,dx,_,rfl,B1.at_,T.bL,T.eB,lt1000 rfl,?_⟩
 have B2:=B1.put (fs':=aG "met" (.ref pm) [])
 have MO:=B0.ne gc
 have Ct:(upd (upd H1 pm (.lst [])) x (.ins Ad.cz dx (aG "met" (.ref pm) []))) pm=some (.lst []):=by rw [aq MO];exact af
 have mn:H1 pm=none:=gc
 generalize upd (upd H1 pm (.lst [])) x (.ins Ad.cz dx (aG "met" (.ref pm) []))=H2 at B2 Ct ⊢
 refine ⟨Do,λ po AT=>?_⟩
 have B3:=B2.new (o:=.lst []) AT
 refine ⟨_,rfl,x,_,dx,_,rfl,B3.at_,T.bL,T.j4,lt1000 rfl,?_⟩
 have B4:=B3.put (fs':=aG "orders" (.ref po) (aG "met" (.ref pm) []))
 have W4:=B2.ne AT
 have on:H1 po=none:=B2.none AT
 have nmo:pm≠po:=au Ct AT
 have Ln:(upd (upd H2 po (.lst [])) x (.ins Ad.cz dx (aG "orders" (.ref po) (aG "met" (.ref pm) [])))) po=some (.lst []):=by rw [aq W4];exact af
 have Mn:(upd (upd H2 po (.lst [])) x (.ins Ad.cz dx (aG "orders" (.ref po) (aG "met" (.ref pm) [])))) pm=some (.lst []):=by rw [aq MO,aq nmo];exact Ct
 generalize upd (upd H2 po (.lst [])) x (.ins Ad.cz dx (aG "orders" (.ref po) (aG "met" (.ref pm) [])))=H4 at B4 Ln Mn ⊢
 refine ⟨Do,λ pr mO=>?_⟩
 have B5:=B4.new (o:=.lst []) mO
 refine ⟨_,rfl,x,_,dx,_,rfl,B5.at_,T.bL,T.cZ,lt1000 rfl,?_⟩
 have B6:=B5.put (fs':=aG "rows" (.ref pr) (aG "orders" (.ref po) (aG "met" (.ref pm) [])))
 have npr:=B4.ne mO
 have rn:H1 pr=none:=B4.none mO
 have nmr:pm≠pr:=au Mn mO
 have nor:po≠pr:=au Ln mO
 have OV:(upd (upd H4 pr (.lst [])) x (.ins Ad.cz dx (aG "rows" (.ref pr) (aG "orders" (.ref po) (aG "met" (.ref pm) []))))) pr=some (.lst []):=by rw [aq npr];exact af
 have Ff:(upd (upd H4 pr (.lst [])) x (.ins Ad.cz dx (aG "rows" (.ref pr) (aG "orders" (.ref po) (aG "met" (.ref pm) []))))) po=some (.lst []):=by rw [aq W4,aq nor];exact Ln
 have Ta:(upd (upd H4 pr (.lst [])) x (.ins Ad.cz dx (aG "rows" (.ref pr) (aG "orders" (.ref po) (aG "met" (.ref pm) []))))) pm=some (.lst []):=by rw [aq MO,aq nmr];exact Mn
 generalize upd (upd H4 pr (.lst [])) x (.ins Ad.cz dx (aG "rows" (.ref pr) (aG "orders" (.ref po) (aG "met" (.ref pm) []))))=H6 at B6 OV Ff Ta ⊢
 refine λ pd Ul=>?_
 have B7:=B6.new (o:=jV P w pd []) Ul
 refine ⟨_,rfl,x,_,dx,_,rfl,B7.at_,T.bL,T.fW,lt1000 rfl,?_⟩
 have B8:=B7.put (fs':=aG "places" (.ref pd) (aG "rows" (.ref pr) (aG "orders" (.ref po) (aG "met" (.ref pm) []))))
 have Uq:=B6.ne Ul
 have dn:H1 pd=none:=B6.none Ul
 refine ⟨_,rfl,_,rfl,x,_,dx,_,rfl,B8.at_,T.bL,T.lW,lt1000 rfl,?_⟩
 have B9:=B8.put (fs':=aG "limit" (.int lim) (aG "places" (.ref pd) (aG "rows" (.ref pr) (aG "orders" (.ref po) (aG "met" (.ref pm) [])))))
 have kp:∀ {b o o1 o2 o3},H6 b=some o->b≠x->(upd (upd (upd H6 pd o1) x o2) x o3) b=some o:=λ e n=>by rw [aq n,aq n,aq (au e Ul)];exact e
 have aci:(upd (upd (upd H6 pd (jV P w pd [])) x (.ins Ad.cz dx (aG "places" (.ref pd) (aG "rows" (.ref pr) (aG "orders" (.ref po) (aG "met" (.ref pm) [])))))) x (.ins Ad.cz dx (aG "limit" (.int lim) (aG "places" (.ref pd) (aG "rows" (.ref pr) (aG "orders" (.ref po) (aG "met" (.ref pm) []))))))) pd=some (jV P w pd []):=by rw [aq Uq,aq Uq];exact af
 have g9:dB P w K Ad.cz [] _ x pm po pr pd lim ⟨[],[],[]⟩:=⟨⟨dx,B9.at_⟩,⟨[],kp Ta MO,Refs.nil⟩,⟨[],kp Ff W4,eK⟩,⟨[],kp OV npr,eK⟩,⟨[],gY.nil aci,aaU _,wV.nil⟩,nmo,nmr,nor⟩
 generalize upd (upd (upd H6 pd (jV P w pd [])) x (.ins Ad.cz dx (aG "places" (.ref pd) (aG "rows" (.ref pr) (aG "orders" (.ref po) (aG "met" (.ref pm) [])))))) x (.ins Ad.cz dx (aG "limit" (.int lim) (aG "places" (.ref pd) (aG "rows" (.ref pr) (aG "orders" (.ref po) (aG "met" (.ref pm) []))))))=H9 at B9 g9 ⊢
 have b9:f8 [x] H H9:=λ b u e n=>B9.st b u (s1 b u e) λ z=>n (List.mem_singleton.mpr z)
 have T9:aI K H H9:=s1.ts.trans B9.ts
 have nqx:q∉[x]:=λ z=>by rw [List.mem_singleton.mp z,hx] at hq;cases hq
 have fr:∀ b∈[pm,po,pr,pd],H b=none:=by
   intro b hb
   simp only [aa1,aaI,afj] at hb
   rcases hb with rfl|rfl|rfl|rfl
   . exact s1.free mn
   . exact s1.free on
   . exact s1.free rn
   . exact s1.free dn
 have ex:∀ {b u},H b=some u->b∉[x]->b∉[pm,po,pr,pd]:=λ e _ z=>by rw [fr _ z] at e;cases e
 refine ⟨_,rfl,q,rfl,⟨_,aR.of (b9 _ _ hq nqx)⟩,?_⟩
 refine fL (K:=K) (a:=q) (xs:=xs) (λ i U H'=>A4 (f8 [x] H H') (aI K H H') (∃ g,A7 (dB P w K Ad.cz [] H' x pm po pr pd lim g) (fV m g) (g.eM=[]) (g.rows=[]) (∀ s∈l.take i,s∈g.met) (∀ s r,l=s::r->0<i->g.met[0]?=some s) (i=0->g.met=[])) (∃ (v:Option V),U=[some (.ref x),some (.ref a),some (.ref q),some (.int lim),v]))
   ⟨b9,T9,⟨_,g9,⟨ald,aaU _,aaU _,λ _ h=>absurd h aaI,λ i s o e=>by simp at e,λ i s o e=>by simp at e⟩,rfl,rfl,λ s h=>absurd h (by simp),λ _ _ _ h=>absurd h (ah4 _),λ _=>rfl⟩,_,rfl⟩ (λ i U H' _ ⟨b,_,_,_⟩=>aR.of (b _ _ hq nqx)) ?_ ?_
 .
  rintro _ i v U E7 hv ⟨Iy,Kg,⟨g,hg,ok,o0,r0,wl,hz,h00⟩,v5,rfl⟩
  obtain ⟨p,st,rfl,es,i9⟩:=wa.get hv
  obtain ⟨LV,Lq⟩:=hg.ins
  refine ⟨_,rfl,x,LV,_,rfl,Lq,rfl,_,rfl,x,p,pm,po,pr,pd,lim,g,m,st,[],rfl,hg,ok,fin,l2,i9.ts Kg,MN st (aaK es),λ j g' u7 DZ Le K0 gx zY ej wh=>⟨λ b u e n=>DZ b u (Iy b u e n) (λ z=>ex e n (by
    simp only [aa1,aaI,afj] at z ⊢
    rcases z with z|z
    . exact .inl z
    . exact .inr (.inr (.inr z)))),Kg.trans Le,⟨g',K0,zY,gx.eM.trans o0,gx.rows.trans r0,λ s hs=>?_,λ s r e _=>?_,λ e=>absurd e (Nat.succ_ne_zero _)⟩,_,rfl⟩⟩
  .
   rw [bz es] at hs
   rcases List.mem_append.mp hs with z|z
   . obtain ⟨⟨more,em⟩,_⟩:=gx
     rw [em]
     exact ahM _ (wl s z)
   . rw [List.mem_singleton.mp z];exact aaK ej
  .
   by_cases h0:0<i
   . exact gx.at (hz s r e h0)
   .
    obtain rfl:i=0:=by lia
    rw [e] at es
    cases es
    rcases wh with rfl|rfl
    . rw [h00 rfl] at ej;simp at ej
    . show (g.met++_)[0]?=_
      rw [h00 rfl];rfl
 .
  rintro U E7 ⟨Iy,Kg,⟨g,hg,ok,o0,r0,wl,hz,h00⟩,v5,rfl⟩
  rw [lx,adc] at wl
  obtain ⟨LV,Lq⟩:=hg.ins
  have nf:∀ {b},b∈[pm,po,pr,pd]->b∉fp:=λ hb z=>by
    obtain ⟨u,hu⟩:=hh.some _ z
    rw [fr _ hb] at hu;cases hu
  refine ⟨_,rfl,x,LV,_,rfl,Lq,rfl,_,rfl,x,a,pm,po,pr,pd,lim,g,m,fp,rfl,hg,ok,by rw [o0,r0];rfl,fin,l2,hm,hh.Hz (λ b u e n=>Iy b u e λ z=>n (List.mem_singleton.mp z)) Kg nx,nf (by simp),nf (by simp),nf (by simp),nf (by simp),λ g' u7 DZ Le K0 zY Ym ajc ⟨more,em⟩=>?_⟩
  refine k pm po pr pd g' u7 (λ b u e n=>DZ b u (Iy b u e n) (ex e n)) (Kg.trans Le) fr K0 zY Ym ajc (λ s hs=>by rw [em];exact ahM _ (wl s hs)) λ s r e=>?_
  have:=hz s r e (by rw [lx,e];exact Nat.succ_pos _)
  rw [em,abM (List.getElem?_eq_some_iff.mp this).1]
  exact this
set_option maxHeartbeats 0 in
theorem lS (T:Txt K mg Ad):gs P w K mg base Ad.cJ "end" 1 ["self","place","number","lasting"] [] (KH Ad.cJ):=by
 refine T.yz.fh vj λ f bA A outer s H vs Q E hr h=>?_
 obtain ⟨x,pl,pg,pk,pq,qs,S,p,c,t,n,l,rfl,hk,el,hc,en,n0,hp,hz,k⟩:=h
 refine ⟨_,(ag (iy (pv 3) (oO (aB aw (aH (pv 0) rfl) (pv 1) (λ _ _=>rfl)) (pv 2) set_list))
     (ag (GN (aH (pv 0) rfl) (pv 1) EG ai K6 set_list)
     (am (bv (aO fc (aB aw (aH (pv 0) rfl) (pv 1) (λ _ _=>rfl)) ai (aM _)) (ag (iy (av aY (pv 3) ai) (oO (aH (pv 0) rfl) (pv 1) set_list))
     (am (aW (gJ ads adL adH bX (aH (pv 0) rfl) (aa (pv 1) ac))))) aJ)))),?_⟩
 try dsimp only [eL,aU]
 first|(refine dC ?_;intro _ _ _ _)|skip
 obtain ⟨dx,hx⟩:=hk.ins
 have gT:p<qs.length:=by rw [hk.len];exact (List.getElem?_eq_some_iff.mp el).1
 have eq:qs[p]?=some qs[p]:=Mq gT
 have xa:=hk.AR p _ l eq el
 have nd:=hk.nd
 simp only [ak9,aa1,akH] at nd
 obtain ⟨⟨a1,a2,a3,a4⟩,⟨b1,b2,b3⟩,⟨c1,c2⟩,d1,_⟩:=nd
 have wl:=aaK eq
 have eg:(S.cM.map al)[p]?=some (al n):=by rw [aat,en];rfl
 have IH:p<(S.cM.map al).length:=(List.getElem?_eq_some_iff.mp eg).1
 refine ⟨_,rfl,_,rfl,x,_,dx,_,_,rfl,hx,T.bT,T.iC,rfl,_,rfl,pl,_,_,_,rfl,rfl,.inl (aR.of hk.VC),bF (by rw [aat,eq];rfl),_,rfl,qs[p],_,_,c,rfl,rfl,xa,?_,?_⟩
 . exact jK (by rw [zN];exact hc)
 have gq:pg≠qs[p]:=λ z=>b3 (z ▸ wl)
 have xq:x≠qs[p]:=λ z=>by rw [z,xa] at hx;cases hx
 have xg:x≠pg:=λ z=>by rw [z,hk.SB] at hx;cases hx
 refine ⟨_,rfl,x,_,dx,_,_,rfl,(aq xq).trans hx,T.bT,T.fQ,rfl,_,rfl,pg,_,p,_,rfl,rfl,aR.of ((aq gq).trans hk.SB),eg,_,_,rfl,rfl,pg,_,_,p,rfl,rfl,(aq gq).trans hk.SB,jK IH,?_⟩
 have h1:=hk.fin (c:=c) (t:=t) (n:=n) eq el
 have ez:(V.int ((n:Int) - 1))=al (n - 1):=by
   show V.int _=V.int _
   rw [show ((n:Int) - 1)=((n - 1:Nat):Int) by lia]
 rw [ez]
 have b1':f8 (pl::pg::pk::pq::qs) H (upd (upd H qs[p] (.lst ((l.map ja).set c (al t)))) pg (.lst ((S.cM.map al).set p (al (n - 1))))):=λ b u e nb=>by
   simp only [aa1,akH] at nb
   rw [aq nb.2.1,aq (λ z=>nb.2.2.2.2 (by rw [z];exact wl))]
   exact e
 generalize upd (upd H qs[p] (.lst ((l.map ja).set c (al t)))) pg (.lst ((S.cM.map al).set p (al (n - 1))))=H1 at h1 b1' ⊢
 obtain ⟨yn,rB⟩:=h1.ins
 have eg1:((S.cM.set p (n - 1)).map al)[p]?=some (al (n - 1)):=by
   rw [aat,cA.mpr (.inl ⟨rfl,by rw [zN] at IH;exact IH,rfl⟩)];rfl
 refine ⟨_,rfl,x,_,yn,_,_,rfl,rB,T.bT,T.fQ,rfl,_,rfl,pg,_,_,_,rfl,rfl,.inl (aR.of h1.SB),bF eg1,?_⟩
 refine ⟨rfl,_,rfl,?_⟩
 by_cases MI:n=1
 .
  rw [show decide (al (n - 1)=V.int 0)=true from adD (by rw [MI];rfl)]
  have Cd:p<(S.bq.map ja).length:=by rw [zN];exact hp
  have xk:x≠pk:=λ z=>by rw [z,h1.SL] at rB;cases rB
  have h2:=h1.aid (p:=p) (t:=t)
  have b2':f8 (pl::pg::pk::pq::qs) H (upd (upd H1 pk (.lst ((S.bq.map ja).set p (al (t+1))))) pq (.lst (S.queue.map al++[al p]))):=λ b u e nb=>by
    have:=b1' b u e nb
    simp only [aa1,akH] at nb
    rw [aq nb.2.2.2.1,aq nb.2.2.1]
    exact this
  refine gS ⟨_,rfl,_,_,rfl,rfl,λ r er=>?_⟩
  obtain rfl:r=((t+1:Nat):Int):=er
  refine ⟨_,rfl,x,_,yn,_,_,rfl,rB,T.bT,T.eC,rfl,_,rfl,pk,_,_,p,rfl,rfl,h1.SL,jK Cd,?_⟩
  have uq:=(aq (o:=.lst ((S.bq.map ja).set p (al (t+1)))) (λ z=>c1 z.symm)).trans h1.Us
  refine ⟨_,rfl,x,_,yn,_,_,rfl,(aq xk).trans rB,T.bT,T.f7,rfl,.inl ⟨rfl,_,aR.of uq⟩,_,rfl,pq,_,_,rfl,rfl,uq,ab2 (show (S.queue.map al).length<=10000 by rw [zN];exact hz) (by decide),k _ b2' ?_⟩
  unfold i7.fin
  rw [ady MI,ady MI]
  exact h2
 .
  rw [show decide (al (n - 1)=V.int 0)=false from ac7 (λ z=>MI (by have:=V.int.inj z;lia))]
  refine fX (k H1 b1' ?_)
  unfold i7.fin
  rw [ac9 MI,ac9 MI]
  exact h1
set_option maxHeartbeats 0 in
theorem nH (T:Txt K mg Ad):gs P w K mg base Ad.cJ "go_back" 2 ["self","ahead"] [] (BW K Ad.cJ):=by
 refine T.pU.fh cG λ f bA A outer s H vs Q E hr h=>?_
 obtain ⟨x,pl,pg,pk,pq,qs,S0,pa,ah,rows,rfl,US,ok0,nd0,hah,Rm,lr,k⟩:=h
 refine ⟨_,(ag (aD (i:=2) cG.nd rfl (lc rfl) ai)
     (am (nA adG (aO ky (pv 2) (aS bx (by rfl) T.fm c8 (aa (aH (pv 0) rfl) ac)) (aM _)) (ag (aD (i:=3) cG.nd rfl (lc rfl) (aB aw (aH (pv 0) rfl) (pv 2) (λ _ _=>rfl)))
     (ag (cL adG rfl (bK (aB aw (pv 1) (pv 3) (λ _ _=>rfl))) (cW (K:=K) (n:=2) rfl rfl (aN (aA (i:=4) cG.nd rfl (lc rfl)) (aN (aA (i:=5) cG.nd rfl (lc rfl)) cV))) (am (bv (aO j8 (aB aw (aB aw (aH (pv 0) rfl) (pv 4) (λ _ _=>rfl)) (pv 5) (λ _ _=>rfl)) cy (aM _)) (am (aW (aK (pv 0) T.bT (lS (P:=P) (w:=w) T) .nil hr.m (aa (pv 4) (aa (pv 5) (aa (aB aw (aH (pv 0) rfl) (pv 3) (λ _ _=>rfl)) ac)))))) aJ)))
     (am (LY (i:=2) cG.nd rfl (lc rfl) ai LN))))))),?_⟩
 try dsimp only [eL,aU]
 refine ⟨λ mz U H'=>(E3 λ S cur d=>A8 (f8 (Ec pl pg pk pq qs) H H') (gL Ad.cJ H' x pl pg pk pq qs S) (gQ rows S cur) (ff rows S) (∀ i j,i<d->S.queue[i]?=some j->vb rows S j) (∀ i j k,d<=i->S.queue[i]?=some j->S.bq[j]?=some (some k)->cur<=k) (mz=2000 - d) (E3 λ (v3 v4 v5:Option V)=>U=[some (.ref x),some (.ref pa),some (al d),v3,v4,v5])),
   ⟨_,S0,0,0,λ _ _ h _=>h,US,ok0,nd0,λ i j h=>absurd h (ahi _),λ _ _ _ _ _ _=>aeU _,rfl,none,none,none,rfl⟩,?_⟩
 rintro mz U H1 ⟨S,cur,d,b1,hk,ok,nd,gd,lo,rfl,v3,v4,v5,rfl⟩
 obtain ⟨dx,hx⟩:=hk.ins
 have ql:=ok.ql
 refine ⟨_,rfl,_,rfl,x,_,dx,_,_,rfl,hx,T.bT,T.f7,rfl,pq,_,rfl,.inl (aR.of hk.Us),λ y ey=>⟨_,_,rfl,rfl,_,rfl,ji (λ h=>?_) (λ h=>?_)⟩⟩
 .
  rw [zN] at ey
  have hi:d<S.queue.length:=by lia
  have ej:S.queue[d]?=some S.queue[d]:=Mq hi
  generalize S.queue[d]=j at ej
  obtain ⟨kk,ek⟩:=(ok.qu j).mp (aaK ej)
  have xn:=ok.up (lo d j kk (aaU _) ej ek)
  have hj:j<ah.length:=by rw [Rm.1,← ok.lk];exact (List.getElem?_eq_some_iff.mp ek).1
  have ea:ah[j]?=some ah[j]:=Mq hj
  generalize ah[j]=l at ea
  refine ⟨λ σ' H'=>∃ S',A6 (f8 (Ec pl pg pk pq qs) H H') (gL Ad.cJ H' x pl pg pk pq qs S') (gQ rows S' kk) (yE S S') (vb rows S' j) (E3 λ (v3 v4 v5:Option V)=>σ'=[some (.ref x),some (.ref pa),some (al (d+1)),v3,v4,v5]),
    λ σ' H' ⟨S',b',JB,J3,xx,gj,w3,w4,w5,e⟩=>⟨2000 - (d+1),by lia,S',kk,d+1,b',JB,J3,nd.more xx,λ i a hi e=>?_,λ i a k hi e er=>?_,rfl,w3,w4,w5,e⟩,?_⟩
  .
   by_cases q:i=d
   . rw [q,xx.at ej] at e
     cases e
     exact gj
   . have hq:i<S.queue.length:=by lia
     have e2:=xx.at (Mq hq)
     rw [e] at e2
     cases e2
     exact (gd i _ (by lia) (Mq hq)).more xx
  .
   obtain ⟨i1,e1⟩:=List.getElem?_eq_some_iff.mp (xx.at ej)
   obtain ⟨i2,e2⟩:=List.getElem?_eq_some_iff.mp e
   have:=List.pairwise_iff_getElem.mp J3.srt d i i1 i2 (by lia)
   rw [e1,e2] at this
   exact this kk k (xx.rk _ _ ek) er
  obtain ⟨va,Uw,npa,hva⟩:=hah.but b1 (Bp US.rQ b1)
  obtain ⟨q,wk⟩:∃ q,va[j]?=some (.ref q)/\q∉Ec pl pg pk pq qs/\∃ vs,H1 q=some (.lst vs)/\Refs (λ b (pc:Nat×Nat)=>bO K H1 b [al pc.1,al pc.2]) vs l:=by
    have hv:j<va.length:=by rw [hva.length];exact hj
    obtain ⟨q,l',eq,el,z⟩:=hva.get (Mq hv)
    rw [ea] at el
    cases el
    exact ⟨q,by rw [Mq hv,eq],z⟩
  obtain ⟨eq,nq,vs,hq,hvs⟩:=wk
  refine ⟨_,rfl,x,_,dx,_,_,rfl,hx,T.bT,T.f7,rfl,_,rfl,pq,_,_,_,rfl,rfl,.inl (aR.of hk.Us),bF (by rw [aat,ej];rfl),?_⟩
  refine ⟨_,rfl,_,rfl,pa,_,_,_,rfl,rfl,.inl (aR.of Uw),bF eq,q,rfl,⟨_,aR.of hq⟩,?_⟩
  refine fL (K:=K) (a:=q) (xs:=vs) (λ i U H'=>∃ S',A7 (f8 (Ec pl pg pk pq qs) H H') (f8 (Ec pl pg pk pq qs) H1 H') (gL Ad.cJ H' x pl pg pk pq qs S') (gQ rows S' kk) (yE S S') (∀ p c,(p,c)∈l.take i->∃ t la,S'.bp[p]?=some la/\la[c]?=some (some t)) (E2 λ (v4 v5:Option V)=>U=[some (.ref x),some (.ref pa),some (al d),some (al j),v4,v5])) ⟨S,b1,λ _ _ h _=>h,hk,xn,yE.refl S,λ p c h=>by simp at h,_,_,rfl⟩ (λ i U H' _ ⟨_,_,b,_,_,_,_,_⟩=>aR.of (b _ _ hq nq)) ?_ ?_
  .
   rintro _ i v U H2 hv ⟨S1,b2,JF,rp,yF,xx,tk,w4,w5,rfl⟩
   obtain ⟨b,⟨p,c⟩,rfl,es,hsq⟩:=hvs.get hv
   obtain ⟨r,js,er,ec,CH⟩:=(Rm.2 j l p c ea).mp (aaK es)
   have hp:p<rows.length:=(List.getElem?_eq_some_iff.mp er).1
   have Cd:p<S1.bp.length:=by rw [yF.ll];exact hp
   have yf:p<S1.cM.length:=by rw [yF.lg];exact hp
   have zr:p<qs.length:=by rw [rp.len];exact Cd
   have el:=Mq Cd
   have eg:=Mq yf
   have eq3:=Mq zr
   have hc:c<S1.bp[p].length:=by rw [yF.sh p _ _ el er];exact (List.getElem?_eq_some_iff.mp ec).1
   have Da:=Mq hc
   have wl:=rp.AR p _ _ eq3 el
   obtain ⟨yn,rB⟩:=rp.ins
   have T2:aI K H1 H2:=Bp hk.rQ JF
   refine ⟨b,_,rfl,T2 _ _ hsq,rfl,_,_,rfl,_,_,rfl,rfl,?_⟩
   refine ⟨_,rfl,x,_,yn,_,_,rfl,rB,T.bT,T.iC,rfl,_,rfl,pl,_,_,_,rfl,rfl,.inl (aR.of rp.VC),bF (by rw [aat,eq3];rfl),_,rfl,qs[p],_,_,_,rfl,rfl,.inl (aR.of wl),bF (by rw [aat,Da];rfl),rfl,_,rfl,?_⟩
   have tkn:∀ {S2:i7},yE S1 S2->(∃ t la,S2.bp[p]?=some la/\la[c]?=some (some t))->∀ p' c',(p',c')∈l.take (i+1)->∃ t la,S2.bp[p']?=some la/\la[c']?=some (some t):=λ x2 hh p' c' hm=>by
     rw [bz es] at hm
     rcases List.mem_append.mp hm with z|z
     . obtain ⟨t,la,e1,e2⟩:=tk p' c' z
       obtain ⟨la2,f1,f2⟩:=x2.la _ _ _ _ e1 e2
       exact ⟨t,la2,f1,f2⟩
     . cases List.mem_singleton.mp z
       exact hh
   cases q0:S1.bp[p][c] with
   | some t =>
     rw [q0] at Da
     refine fX ⟨S1,b2,JF,rp,yF,xx,tkn (yE.refl _) ⟨t,_,el,Da⟩,_,_,rfl⟩
   | none =>
     rw [q0] at Da
     have en:=yF.go p _ _ el eg
     have n0:S1.cM[p]≠0:=λ z=>by
       rw [z] at en
       exact List.countP_eq_zero.mp en.symm _ (aaK Da) rfl
     have Pu:=xx.rk _ _ ek
     have why:sH rows S1.bq p c kk:=⟨r,er,.inr ⟨js,ec,j,CH,Pu⟩⟩
     refine gS ⟨_,rfl,x,yn,_,rfl,rB,rfl,_,rfl,_,rfl,_,rfl,x,_,yn,_,_,rfl,rB,T.bT,T.eC,rfl,_,rfl,pk,_,_,_,rfl,rfl,.inl (aR.of rp.SL),bF (by rw [aat,Pu];rfl),x,pl,pg,pk,pq,qs,S1,p,c,kk,_,_,rfl,rp,el,hc,eg,n0,by rw [yF.lk];exact hp,acS yF.ql (acS lr (by decide)),λ H3 b3 hk3=>?_⟩
     refine ⟨_,xI b2 b3,xI JF b3,hk3,yF.fin el eg Da why,xx.trans (yF.M9 el eg Da),tkn (yF.M9 el eg Da) ⟨kk,_,cA.mpr (.inl ⟨rfl,Cd,rfl⟩),cA.mpr (.inl ⟨rfl,hc,rfl⟩)⟩,_,_,rfl⟩
  .
   rintro U H2 ⟨S1,b2,JF,rp,yF,xx,tk,w4,w5,rfl⟩
   rw [hvs.length,adc] at tk
   refine ⟨_,rfl,_,_,rfl,rfl,S1,b2,rp,yF,xx,λ p r c js er ec CH=>?_,_,_,_,rfl⟩
   obtain ⟨t,la,e1,e2⟩:=tk p c ((Rm.2 j l p c ea).mpr ⟨r,js,er,ec,CH⟩)
   exact ⟨la,t,kk,e1,e2,xx.rk _ _ ek,yF.lo _ _ _ _ e1 e2⟩
 .
  rw [zN] at ey
  refine k H1 S cur b1 hk ok nd λ j hj=>?_
  obtain ⟨i,hi,rfl⟩:=List.mem_iff_getElem.mp hj
  exact gd i _ (by lia) (Mq hi)
set_option maxHeartbeats 0 in
theorem oU (T:Txt K mg Ad):Def P w K mg base "choices_ahead" 1 ["rows"] (DH K):=by
 refine T.pZ.cS ce λ f bA A outer s H vs Q E hr h=>?_
 obtain ⟨pr,vr,rows,rfl,mO,dr,lr,hb,k⟩:=h
 refine ⟨_,(ag (sj (yi:=1) ["row"] [] [] .nil rfl (bK (pv 0)) (λ _ _ _ _ _=>(aA (i:=0) (show (["row"]:List Str).Nodup by decide +kernel) rfl (lc rfl))) (λ _ _ _ _ _=>cr) (λ _ _ _ _ _=>(cx ac)) rfl (by decide +kernel) (by decide +kernel) (by decide +kernel) ce.nd rfl (lc rfl) rfl)
     (ag (cL adG rfl (oS rfl T.cR (aa (pv 0) ac)) (cW (K:=K) (n:=2) rfl rfl (aN (aA (i:=2) ce.nd rfl (lc rfl)) (aN (aA (i:=3) ce.nd rfl (lc rfl)) cV))) (am (cL adG rfl (oS rfl T.cR (aa (pv 3) ac)) (cW (K:=K) (n:=2) rfl rfl (aN (aA (i:=4) ce.nd rfl (lc rfl)) (aN (aA (i:=5) ce.nd rfl (lc rfl)) cV))) (am (bv (aO lG (pv 5) cy (aM _)) (am (cL adG rfl (bK (pv 5)) (aA (i:=6) ce.nd rfl (lc rfl)) (am (aW (gJ ads adL adH bX (aB aw (pv 1) (pv 6) (λ _ _=>rfl)) (aa (cm (aa (pv 2) (aa (pv 4) ac))) ac)))))) aJ)))))
     (am (aF (pv 1))))),?_⟩
 try dsimp only [eL,aU]
 first|(refine dC ?_;intro _ _ _ _)|skip
 have lv:vr.length=rows.length:=by rw [dr.length,zN]
 refine ⟨_,rfl,pr,rfl,⟨_,aR.of mO⟩,λ D hD=>?_⟩
 have s0:=ak (o:=.lst []) hD
 have a0:wD K H (upd H D (.lst [])) D [] []:=⟨s0,λ b hb=>by rw [List.mem_singleton.mp hb];exact hD,List.nodup_cons.mpr ⟨aaI,ald⟩,rfl,af,λ j b l e=>by simp at e⟩
 refine cu (K:=K) (a:=pr) (xs:=vr) (λ i acc σ' H'=>∃ as,A3 (wD K H H' D as ((rows.take i).map λ _=>[])) (acc=as.map .ref) (∃ v,σ'=[v])) ⟨[],a0,rfl,none,rfl⟩ (λ i acc σ' H' _ ⟨_,h,_,_⟩=>aR.of (h.sm _ _ mO)) ?_ ?_
 .
  rintro i y acc σ' H1 hy ⟨as,a1,rfl,v,rfl⟩
  have hi:i<rows.length:=by rw [← lv];exact (List.getElem?_eq_some_iff.mp hy).1
  have la:=a1.le
  rw [zN,adS] at la
  refine ⟨Do,λ q hq=>⟨ak hq _ _ a1.hp,ab2 (show (as.map V.ref).length<=100000 by rw [zN];lia) (by decide),as++[q],?_,by rw [aaN];rfl,_,rfl⟩⟩
  rw [bz (Mq hi),aaN]
  exact a1.row hq
 rintro acc σ' H1 ⟨as,a1,rfl,v,rfl⟩
 rw [lv,adc] at a1
 have sq:∀ {C9 q xs},aC H C9->aR K H q xs->aR K C9 q xs:=λ S e=>by
   rcases e with (e|⟨o,e⟩)|e
   . exact .inl (.inl (S _ _ e))
   . exact .inl (.inr ⟨o,S _ _ e⟩)
   . exact .inr e
 refine ⟨_,rfl,pr,rfl,⟨_,aR.of (a1.sm _ _ mO)⟩,?_⟩
 refine vF (sq:=aR K) (xs:=vr) (λ i U H'=>∃ ah,A4 (wD K H H' D as ah) (ku rows i 0 0 ah) (vG (i * 16 * 400) ah) (E5 λ (v2 v3 v4 v5 v6:Option V)=>U=[some (.ref pr),some (.ref D),v2,v3,v4,v5,v6])) ⟨_,a1,ku.zero rows,λ j l e=>?_,none,none,none,none,none,rfl⟩ (λ i U H' _ ⟨_,h,_,_,_⟩=>aR.of (h.sm _ _ mO)) ?_ ?_
 . rw [aat] at e
   obtain ⟨r,_,rfl⟩:=Option.map_eq_some_iff.mp e
   exact aeU _
 .
  rintro i x pp U H2 hx qS ⟨ah,a2,t2,l2,v2,v3,v4,v5,v6,rfl⟩
  have hi:i<rows.length:=by rw [← lv];exact (List.getElem?_eq_some_iff.mp hx).1
  have er:=Mq hi
  generalize rows[i]=r at er
  obtain ⟨x',ex,dx⟩:=dr.get (d:=pK r) (by rw [aat,er];rfl)
  rw [hx] at ex
  cases ex
  obtain ⟨q,xs,rfl,hq,dq⟩:=dx
  have lq:xs.length=r.length:=by rw [dq.length,zN]
  have bd:=hb r (aaK er)
  refine ⟨pp,_,rfl,bO.of af,rfl,_,_,rfl,_,_,rfl,rfl,?_⟩
  have a3:=a2.same (ak (o:=.tup [al i,.ref q]) qS)
  generalize upd H2 pp (.tup [al i,.ref q])=H3 at a3 ⊢
  refine ⟨_,rfl,q,rfl,⟨_,sq a3.sm hq⟩,?_⟩
  refine vF (sq:=aR K) (xs:=xs) (λ n U H'=>∃ ah,A4 (wD K H H' D as ah) (ku rows i n 0 ah) (vG ((i * 16+n) * 400) ah) (E3 λ (v4 v5 v6:Option V)=>U=[some (.ref pr),some (.ref D),some (al i),some (.ref q),v4,v5,v6])) ⟨_,a3,t2,l2,_,_,_,rfl⟩ (λ i U H' _ ⟨_,h,_,_,_⟩=>sq h.sm hq) ?_ ?_
  .
   rintro n y Qj U H4 hy KG ⟨Ud,a4,t4,l4,w4,w5,w6,rfl⟩
   have hn:n<r.length:=by rw [← lq];exact (List.getElem?_eq_some_iff.mp hy).1
   have ev:=Mq hn
   generalize r[n]=vv at ev
   obtain ⟨y',ey,dy⟩:=dq.get (d:=qO vv) (by rw [aat,ev];rfl)
   rw [hy] at ey
   cases ey
   refine ⟨Qj,_,rfl,bO.of af,rfl,_,_,rfl,_,_,rfl,rfl,?_⟩
   have a5:=a4.same (ak (o:=.tup [al n,y]) KG)
   generalize upd H4 Qj (.tup [al n,y])=H5 at a5 ⊢
   cases vv with
   | none =>
     obtain rfl:y = .cf:=dy
     exact ⟨_,rfl,rfl,_,rfl,fX ⟨Ud,a5,t4.J9 er ev (λ _ z=>by cases z),l4.mono (by lia),_,_,_,rfl⟩⟩
   | some js =>
     obtain ⟨q2,ys,rfl,uq,dq2⟩:=dy
     obtain rfl:=ur dq2
     obtain ⟨lj,hj⟩:=bd.2 js (aaK ev)
     refine ⟨_,rfl,rfl,_,rfl,gS ?_⟩
     refine ⟨_,rfl,q2,rfl,⟨_,sq a5.sm uq⟩,?_⟩
     refine fL (K:=K) (a:=q2) (xs:=js.map al) (λ kx U H'=>∃ ah,A4 (wD K H H' D as ah) (ku rows i n kx ah) (vG ((i * 16+n) * 400+kx) ah) (∃ (v6:Option V),U=[some (.ref pr),some (.ref D),some (al i),some (.ref q),some (al n),some (.ref q2),v6])) ⟨Ud,a5,t4,by rw [amW];exact l4,_,rfl⟩ (λ i U H' _ ⟨_,h,_,_,_⟩=>sq h.sm uq) ?_ ?_
     .
      rintro _ kx z U H6 hz ⟨Uv,a6,t6,l6,u6,rfl⟩
      rw [aat] at hz
      obtain ⟨j,ej,rfl⟩:=Option.map_eq_some_iff.mp hz
      have SE:=hj j (aaK ej)
      have hja:j<Uv.length:=by rw [t6.1];exact SE
      have CH:j<as.length:=by rw [a6.le];exact hja
      have ea:=Mq hja
      have eb:=Mq CH
      have hk:kx<js.length:=(List.getElem?_eq_some_iff.mp ej).1
      generalize Uv[j]=la at ea
      generalize as[j]=b at eb
      refine ⟨_,rfl,_,rfl,D,_,_,_,rfl,rfl,.inl (aR.of a6.hp),bF (by rw [aat,eb];rfl),?_⟩
      obtain ⟨vs,FZ,UA⟩:=a6.AR j b la eb ea
      refine ⟨.inl ⟨rfl,_,aR.of FZ⟩,_,rfl,_,rfl,EW,λ t ht=>?_⟩
      have st:=ak (o:=.tup [al i,al n]) ht
      have a7:=a6.same st
      have hb7:=st _ _ FZ
      have hv7:=UA.imp λ p (pc:Nat×Nat) z=>st.ts (K:=K) _ _ z
      have ht7:bO K (upd H6 t (.tup [al i,al n])) t [al i,al n]:=bO.of af
      generalize upd H6 t (.tup [al i,al n])=H7 at a7 hb7 hv7 ht7 ⊢
      have le:=l6 j la ea
      refine ⟨b,vs,_,rfl,rfl,hb7,ab2 (show vs.length<=14000000 by rw [hv7.length];lia) (by decide),_,a7.put eb ea hb7 hv7 ht7,t6.put er ev ej ea,by rw [← Nat.add_assoc];exact l6.put ea,_,rfl⟩
     . rintro U H6 ⟨Uv,a6,t6,l6,u6,rfl⟩
       rw [zN] at t6 l6
       exact ⟨Uv,a6,t6.J9 er ev (λ _ z=>by cases z;rfl),l6.mono (by lia),_,_,_,rfl⟩
  . rintro U H4 ⟨Ud,a4,t4,l4,w4,w5,w6,rfl⟩
    rw [lq] at t4 l4
    exact ⟨Ud,a4,t4.Ob er,l4.mono (by have:=bd.1;lia),_,_,_,_,_,rfl⟩
 . rintro U H2 ⟨ah,a2,t2,l2,v2,v3,v4,v5,v6,rfl⟩
   rw [lv] at t2
   exact ⟨_,rfl,k D as ah H2 a2 t2.done⟩
set_option maxHeartbeats 0 in
theorem mM (T:Txt K mg Ad):gs P w K mg base Ad.cJ "__init__" 3 ["self","game"] [] (EJ P w K Ad.cz Ad.cJ):=by
 refine T.ph.fh c6 λ f bA A outer s H vs Q E hr h=>?_
 obtain ⟨x,dx,y,pm,po,pr,pd,lim,g,rfl,hx,hg,hb,k⟩:=h
 refine ⟨_,(ag (cK (pv 0) (fM ["choices"] [] [] .nil rfl (bK (aH (pv 1) rfl)) (λ _ _ _ _ _=>(aA (i:=0) (show (["choices"]:List Str).Nodup by decide +kernel) rfl (lc rfl))) (λ _ _ _ _ _=>cr) (λ _ _ _ _ _=>(fM ["row"] [] [] .nil rfl (Fv (K:=K) rfl (pv 0)) (λ _ _ _ _ _=>(aA (i:=0) (show (["row"]:List Str).Nodup by decide +kernel) rfl (lc rfl))) (λ _ _ _ _ _=>cr) (λ _ _ _ _ _=>cy) rfl (by decide +kernel) (by decide +kernel) (by decide +kernel))) rfl (by decide +kernel) (by decide +kernel) (by decide +kernel)) rfl)
     (ag (cK (pv 0) (fM ["choices"] [] [] .nil rfl (bK (aH (pv 1) rfl)) (λ _ _ _ _ _=>(aA (i:=0) (show (["choices"]:List Str).Nodup by decide +kernel) rfl (lc rfl))) (λ _ _ _ _ _=>cr) (λ _ _ _ _ _=>(aS (CI (K:=K) rfl) (by rfl) T.fm c8 (aa (pv 0) ac))) rfl (by decide +kernel) (by decide +kernel) (by decide +kernel)) rfl)
     (ag (cK (pv 0) (fM ["many"] [] [] .nil rfl (bK (aH (pv 0) rfl)) (λ _ _ _ _ _=>(aA (i:=0) (show (["many"]:List Str).Nodup by decide +kernel) rfl (lc rfl))) (λ _ _ _ _ _=>cr) (λ _ _ _ _ _=>(jg (aO fc (pv 0) ai (aM _)) ai cy)) rfl (by decide +kernel) (by decide +kernel) (by decide +kernel)) rfl)
     (ag (cK (pv 0) (fM ["place","rank"] [] [] .nil rfl (oS rfl T.cR (aa (aH (pv 0) rfl) ac)) (λ _ _ _ _ _=>(cW (K:=K) (n:=2) rfl rfl (aN (aA (i:=0) (show (["place","rank"]:List Str).Nodup by decide +kernel) rfl (lc rfl)) (aN (aA (i:=1) (show (["place","rank"]:List Str).Nodup by decide +kernel) rfl (lc rfl)) cV)))) (λ _ _ _ _ _=>(jP (aO fc (pv 1) ai (aM _)))) (λ _ _ _ _ _=>(pv 0)) rfl (by decide +kernel) (by decide +kernel) (by decide +kernel)) rfl)
     (ag (cL adG rfl (oS rfl T.cR (aa (aH (pv 1) rfl) ac)) (cW (K:=K) (n:=2) rfl rfl (aN (aA (i:=2) c6.nd rfl (lc rfl)) (aN (aA (i:=3) c6.nd rfl (lc rfl)) cV))) (am (cL adG rfl (oS rfl T.cR (aa (pv 3) ac)) (cW (K:=K) (n:=2) rfl rfl (aN (aA (i:=4) c6.nd rfl (lc rfl)) (aN (aA (i:=5) c6.nd rfl (lc rfl)) cV))) (am (bv (aO j8 (pv 5) cy (aM _)) (am (aW (aK (pv 0) T.bT (lS (P:=P) (w:=w) T) .nil hr.m (aa (pv 2) (aa (pv 4) (aa ai ac)))))) aJ)))))
     (am (aW (aK (pv 0) T.bT (nH (P:=P) (w:=w) T) .nil hr.m (aa (ar (oU (K:=K) T) hr.m (aa (aH (pv 1) rfl) ac)) ac))))))))),?_⟩
 try dsimp only [eL,aU]
 first|(refine nO ?_;intro _ _ _ _ _ _ _)|skip
 obtain ⟨dy,hy⟩:=hg.ins
 obtain ⟨vr,mO,dr⟩:=hg.rows
 have dr0:=bi.same gK _ dr
 have lv:vr.length=g.rows.length:=by rw [dr.length,zN]
 refine ⟨_,rfl,y,_,dy,_,_,rfl,hy,T.bL,T.cZ,rfl,pr,rfl,⟨_,aR.of mO⟩,λ pl gT=>?_⟩
 have s0:=ak (o:=.lst []) gT
 have a0:Lz H (upd H pl (.lst [])) pl [] []:=⟨s0,λ b hb=>by rw [List.mem_singleton.mp hb];exact gT,List.nodup_cons.mpr ⟨aaI,ald⟩,rfl,af,λ j b l e=>by simp at e⟩
 refine cu (K:=K) (a:=pr) (xs:=vr) (λ i acc σ' H'=>∃ qs,A3 (Lz H H' pl qs ((g.rows.take i).map λ r=>r.map λ _=>none)) (acc=qs.map .ref) (∃ v,σ'=[v])) ⟨[],a0,rfl,none,rfl⟩ (λ i acc σ' H' _ ⟨_,h,_,_⟩=>aR.of (h.sm _ _ mO)) ?_ ?_
 .
  rintro i v acc σ' H1 hv ⟨qs,a1,rfl,v0,rfl⟩
  have hi:i<g.rows.length:=by rw [← lv];exact (List.getElem?_eq_some_iff.mp hv).1
  have er:=Mq hi
  obtain ⟨v',ev,dv⟩:=dr0.get (d:=pK g.rows[i]) (by rw [aat,er];rfl)
  rw [hv] at ev
  cases ev
  obtain ⟨q,xs,rfl,hq,dq⟩:=dv
  have lq:xs.length=g.rows[i].length:=by rw [dq.length,zN]
  have lb:=(hb.2 _ (acx hi)).1
  have la:=a1.le
  rw [zN,adS] at la
  refine ⟨_,rfl,q,rfl,⟨_,hq.sm a1.sm⟩,λ D hD=>?_⟩
  refine cu (K:=K) (a:=q) (xs:=xs) (λ j f9 σ2 H'=>H'=upd H1 D (.lst f9)/\f9=List.replicate j .cf/\∃ v,σ2=[v]) ⟨rfl,rfl,none,rfl⟩ (λ j f9 σ2 H' _ ⟨e,_,_⟩=>by rw [e];exact (hq.sm a1.sm).sm (ak hD)) ?_ ?_
  . rintro j u f9 σ2 H2 hu ⟨rfl,rfl,v2,rfl⟩
    have hj:j<xs.length:=(List.getElem?_eq_some_iff.mp hu).1
    exact ⟨af,ab2 (show (List.replicate j V.cf).length<=100000 by rw [akW];lia) (by decide),kZ,List.replicate_succ'.symm,_,rfl⟩
  .
   rintro f9 σ2 H2 ⟨rfl,rfl,v2,rfl⟩
   have en:List.replicate xs.length V.cf=(g.rows[i].map λ _=>(none:Option Nat)).map ja:=by
     rw [lq,ak5]
     exact (List.map_const' ..).symm
   refine ⟨ak hD _ _ a1.hp,ab2 (show (qs.map V.ref).length<=100000 by rw [zN];have:=hb.1;lia) (by decide),qs++[D],?_,by rw [aaN];rfl,_,rfl⟩
   rw [bz er,aaN,en]
   exact a1.row hD
 rintro acc σ' H1 ⟨qs,a1,rfl,v,rfl⟩
 rw [lv,adc] at a1
 have la:=a1.le
 rw [zN] at la
 have B0:=a1.rkb (K:=K) hx
 generalize hls:(g.rows.map λ r=>r.map λ _=>(none:Option Nat))=ls0 at B0
 refine ⟨_,rfl,x,_,dx,_,rfl,B0.b.at_,T.bT,T.iC,lt1000 rfl,?_⟩
 have B1:=B0.put (fs':=aG "lasts" (.ref pl) [])
 have ny:y≠x:=λ z=>by rw [z,hx] at hy;injection hy with h;injection h with _ _ h;cases h
 have nr:pr≠x:=λ z=>by rw [z,hx] at mO;cases mO
 have rd:∀ {H' fs L},zO K Ad.cJ x dx H H' fs L->H' y=some (.ins Ad.cz dy (RW pm po pr pd lim))/\H' pr=some (.lst vr)/\bi K H' (g.rows.map pK) vr:=λ B=>⟨B.b.st _ _ hy ny,B.b.st _ _ mO nr,bi.same gK _ (bi.vO hx rfl (λ c u e n _=>B.b.st c u e n) dr)⟩
 generalize upd H1 x (.ins Ad.cJ dx (aG "lasts" (.ref pl) []))=H2 at B1 ⊢
 obtain ⟨hy2,O1,dr2⟩:=rd B1
 refine ⟨_,rfl,y,_,dy,_,_,rfl,hy2,T.bL,T.cZ,rfl,pr,rfl,⟨_,aR.of O1⟩,λ pg IH=>?_⟩
 refine cu (K:=K) (a:=pr) (xs:=vr) (λ i acc σ' H'=>A3 (H'=upd H2 pg (.lst acc)) (acc=(g.rows.take i).map (λ r:bE=>al r.length)) (∃ v,σ'=[v])) ⟨rfl,rfl,none,rfl⟩ (λ i acc σ' H' _ ⟨e,_,_⟩=>by rw [e];exact aR.of (ak IH _ _ O1)) ?_ ?_
 .
  rintro i v acc σ' H3 hv ⟨rfl,rfl,v0,rfl⟩
  have hi:i<g.rows.length:=by rw [← lv];exact (List.getElem?_eq_some_iff.mp hv).1
  have er:=Mq hi
  obtain ⟨v',ev,dv⟩:=dr2.get (d:=pK g.rows[i]) (by rw [aat,er];rfl)
  rw [hv] at ev
  cases ev
  obtain ⟨q,xs,rfl,hq,dq⟩:=dv
  have lq:xs.length=g.rows[i].length:=by rw [dq.length,zN]
  refine ⟨_,rfl,q,xs,rfl,.inl (hq.sm (ak IH)),λ r KZ=>⟨af,ab2 (show _<=100000 by rw [zN,adS];have:=hb.1;lia) (by decide),kZ,?_,_,rfl⟩⟩
  rw [bz er,aaN,KZ,lq]
  rfl
 rintro acc σ' H3 ⟨rfl,rfl,v0,rfl⟩
 rw [lv,adc]
 have B2:=B1.more (ak (o:=.lst (g.rows.map λ r:bE=>al r.length)) IH) IH af
 refine ⟨_,rfl,x,_,dx,_,rfl,B2.b.at_,T.bT,T.fQ,lt1000 rfl,?_⟩
 have B3:=B2.put (fs':=aG "going" (.ref pg) (aG "lasts" (.ref pl) []))
 generalize upd (upd H2 pg (.lst (g.rows.map λ r:bE=>al r.length))) x (.ins Ad.cJ dx (aG "going" (.ref pg) (aG "lasts" (.ref pl) [])))=H4 at B3 ⊢
 have QS:=(B3.at_ _ abQ).1
 have lg:(g.rows.map λ r:bE=>al r.length).length=g.rows.length:=zN ..
 refine ⟨_,rfl,x,_,dx,_,_,rfl,B3.b.at_,T.bT,T.fQ,rfl,pg,rfl,⟨_,aR.of QS⟩,λ pk Rb=>?_⟩
 refine cu (K:=K) (a:=pg) (xs:=g.rows.map λ r:bE=>al r.length) (λ i acc σ' H'=>A3 (H'=upd H4 pk (.lst acc)) (acc=(g.rows.take i).map (λ r:bE=>ja (if r.length=0 then some 0 else none))) (∃ v,σ'=[v])) ⟨rfl,rfl,none,rfl⟩ (λ i acc σ' H' _ ⟨e,_,_⟩=>by rw [e];exact aR.of (ak Rb _ _ QS)) ?_ ?_
 .
  rintro i v acc σ' H5 hv ⟨rfl,rfl,v0,rfl⟩
  have hi:i<g.rows.length:=by rw [← lg];exact (List.getElem?_eq_some_iff.mp hv).1
  have er:=Mq hi
  rw [aat,er] at hv
  cases hv
  have nx:(upd H4 pk (.lst ((g.rows.take i).map (λ r:bE=>ja (if r.length=0 then some 0 else none))))) pk=some (.lst ((g.rows.take i).map (λ r:bE=>ja (if r.length=0 then some 0 else none))))/\((g.rows.take i).map (λ r:bE=>ja (if r.length=0 then some 0 else none))).length<sizeLine:=⟨af,ab2 (show _<=100000 by rw [zN,adS];have:=hb.1;lia) (by decide)⟩
  refine ⟨_,rfl,rfl,_,rfl,?_⟩
  by_cases h0:g.rows[i].length=0
  . rw [show decide (al g.rows[i].length=V.int 0)=true from adD (by rw [h0];rfl)]
    refine gS ⟨nx.1,nx.2,kZ,?_,_,rfl⟩
    rw [bz er,aaN,am7,ady h0]
    rfl
  . rw [show decide (al g.rows[i].length=V.int 0)=false from ac7 (λ z=>h0 (by have:=V.int.inj z;lia))]
    refine fX ⟨nx.1,nx.2,kZ,?_,_,rfl⟩
    rw [bz er,aaN,am7,ac9 h0]
    rfl
 rintro acc σ' H5 ⟨rfl,rfl,v0,rfl⟩
 rw [lg,adc]
 have B4:=B3.more (ak (o:=.lst (g.rows.map λ r:bE=>ja (if r.length=0 then some 0 else none))) Rb) Rb af
 refine ⟨_,rfl,x,_,dx,_,rfl,B4.b.at_,T.bT,T.eC,lt1000 rfl,?_⟩
 have B5:=B4.put (fs':=aG "ranks" (.ref pk) (aG "going" (.ref pg) (aG "lasts" (.ref pl) [])))
 generalize upd (upd H4 pk (.lst (g.rows.map λ r:bE=>ja (if r.length=0 then some 0 else none)))) x (.ins Ad.cJ dx (aG "ranks" (.ref pk) (aG "going" (.ref pg) (aG "lasts" (.ref pl) []))))=H6 at B5 ⊢
 have SI:=(B5.at_ _ abQ).1
 have lk:(g.rows.map λ r:bE=>ja (if r.length=0 then some 0 else none)).length=g.rows.length:=zN ..
 refine ⟨_,rfl,x,_,dx,_,_,rfl,B5.b.at_,T.bT,T.eC,rfl,pk,rfl,⟨_,aR.of SI⟩,λ pq GS=>?_⟩
 refine jD (sq:=aR K) (a:=pk) (xs:=g.rows.map λ r:bE=>ja (if r.length=0 then some 0 else none)) (λ i acc σ' H'=>A4 (aC H6 H') (H' pq=some (.lst acc)) (acc=((List.range i).filter λ p=>g.rows[p]? == some []).map al) (E2 λ v w=>σ'=[v,w])) ⟨ak GS,af,rfl,none,none,rfl⟩ (λ i acc σ' H' _ ⟨e,_,_,_⟩=>aR.of (e _ _ SI)) ?_ ?_
 .
  rintro i v p acc σ' H7 hv hp ⟨s7,Uj,rfl,v0,w0,rfl⟩
  have hi:i<g.rows.length:=by rw [← lk];exact (List.getElem?_eq_some_iff.mp hv).1
  have er:=Mq hi
  rw [aat,er] at hv
  obtain rfl:v=ja (if g.rows[i].length=0 then some 0 else none):=(abG hv).symm
  have s8:=ak (o:=.tup [al i,ja (if g.rows[i].length=0 then some 0 else none)]) hp
  refine ⟨p,_,rfl,bO.of af,rfl,_,_,rfl,_,_,rfl,rfl,?_⟩
  have hq8:=s8 _ _ Uj
  have Kq:=s7.trans s8
  generalize upd H7 p (.tup [al i,ja (if g.rows[i].length=0 then some 0 else none)])=H8 at hq8 Kq ⊢
  have lf:(((List.range i).filter λ p=>g.rows[p]? == some []).map al).length<=100000:=by
    rw [zN]
    have:=agg (λ p=>g.rows[p]? == some []) (List.range i)
    rw [abU] at this
    have:=hb.1
    lia
  have rs:(List.range (i+1)).filter (λ p=>g.rows[p]? == some [])=(List.range i).filter (λ p=>g.rows[p]? == some [])++[i].filter (λ p=>g.rows[p]? == some []):=by
    rw [agC,ahz]
  by_cases h0:g.rows[i].length=0
  .
   have e1:[i].filter (λ p=>g.rows[p]? == some [])=[i]:=by
     have:=List.length_eq_zero_iff.mp h0
     simp [er,this]
   rw [ady h0]
   refine ⟨_,rfl,rfl,_,rfl,gS ⟨_,rfl,hq8,ab2 lf (by decide),λ b u e=>?_,af,?_,_,_,rfl⟩⟩
   . rw [aq (au e GS)];exact Kq b u e
   . rw [rs,e1,aaN];rfl
  .
   have e1:[i].filter (λ p=>g.rows[p]? == some [])=[]:=by
     have:g.rows[i]≠[]:=λ z=>h0 (by rw [z];rfl)
     simp [er,this]
   rw [ac9 h0]
   refine ⟨_,rfl,rfl,_,rfl,fX ⟨Kq,hq8,?_,_,_,rfl⟩⟩
   rw [rs,e1,ahG]
 rintro acc σ' H7 ⟨s7,Uj,rfl,v0,w0,rfl⟩
 rw [lk] at Uj
 have B6:=B5.more s7 GS Uj
 refine ⟨_,rfl,x,_,dx,_,rfl,B6.b.at_,T.bT,T.f7,lt1000 rfl,?_⟩
 have B7:=B6.put (fs':=aG "queue" (.ref pq) (aG "ranks" (.ref pk) (aG "going" (.ref pg) (aG "lasts" (.ref pl) []))))
 generalize upd H7 x (.ins Ad.cJ dx (aG "queue" (.ref pq) (aG "ranks" (.ref pk) (aG "going" (.ref pg) (aG "lasts" (.ref pl) [])))))=H8 at B7 ⊢
 have R8:gL Ad.cJ H8 x pl pg pk pq qs (BQ g.rows):=by
   refine zO.rk (K:=K) (dx:=dx) (H:=H) ?_ (by rw [la];exact (zN ..).symm)
   rw [show (BQ g.rows).bq.map ja=g.rows.map (λ r:bE=>ja (if r.length=0 then some 0 else none)) from ak5,show (BQ g.rows).cM.map al=g.rows.map (λ r:bE=>al r.length) from ak5,show (BQ g.rows).bp=ls0 from hls]
   exact B7
 have U3:=B7.U3 (by rw [la,← hls];exact (zN ..).symm)
 have b8:=B7.fr
 have t8:=B7.b.ts
 clear B0 B1 B2 B3 B4 B5 B6 B7
 have rdB:∀ {H'},f8 [x] H H'->H' y=some (.ins Ad.cz dy (RW pm po pr pd lim))/\H' pr=some (.lst vr)/\bi K H' (g.rows.map pK) vr:=λ b=>⟨b _ _ hy (by simp [ny]),b _ _ mO (by simp [nr]),bi.same gK _ (bi.vO hx rfl (λ c u e n _=>b c u e (by simp [n])) dr)⟩
 obtain ⟨hy8,aj7,TV⟩:=rdB b8
 refine ⟨_,rfl,y,_,dy,_,_,rfl,hy8,T.bL,T.cZ,rfl,pr,rfl,⟨_,aR.of aj7⟩,?_⟩
 refine vF (sq:=aR K) (xs:=vr) (λ i U H'=>∃ S,A5 (f8 [x] H H') (aI K H H') (gL Ad.cJ H' x pl pg pk pq qs S) (lJ g.rows S i 0) (E4 λ (v2 v3 v4 v5:Option V)=>U=[some (.ref x),some (.ref y),v2,v3,v4,v5])) ⟨_,b8,t8,R8,lJ.zero _,none,none,none,none,rfl⟩ (λ i U H' _ ⟨_,b,_,_,_,_⟩=>aR.of (rdB b).2.1) ?_ ?_
 .
  rintro i v pp U H9 hv qS ⟨S,b9,t9,R9,O0,v2,v3,v4,v5,rfl⟩
  have hi:i<g.rows.length:=by rw [← lv];exact (List.getElem?_eq_some_iff.mp hv).1
  have er:=Mq hi
  generalize g.rows[i]=r at er
  have bd:=hb.2 r (aaK er)
  have sN:=ak (o:=.tup [al i,v]) qS
  refine ⟨pp,_,rfl,bO.of af,rfl,_,_,rfl,_,_,rfl,rfl,?_⟩
  have Iy:f8 [x] H _:=λ c u e n=>sN c u (b9 c u e n)
  have Kg:=t9.trans sN.ts
  have R10:=R9.same sN
  generalize upd H9 pp (.tup [al i,v])=E7 at Iy Kg R10 ⊢
  obtain ⟨v',ev,dv⟩:=dr.get (d:=pK r) (by rw [aat,er];rfl)
  rw [hv] at ev
  cases ev
  obtain ⟨q,xs,rfl,hq,dq⟩:=dv
  have lq:xs.length=r.length:=by rw [dq.length,zN]
  have hqb:∀ {H'},f8 [x] H H'->aR K H' q xs:=λ b=>by
    have nx:∀ {u},H q=some u->kg u=false->q∉[x]:=λ e n z=>by
      rw [List.mem_singleton.mp z,hx] at e
      cases e
      cases n
    rcases hq with (e|⟨o,e⟩)|e
    . exact .inl (.inl (b _ _ (gK _ _ e) (nx (gK _ _ e) rfl)))
    . exact .inl (.inr ⟨o,b _ _ (gK _ _ e) (nx (gK _ _ e) rfl)⟩)
    . exact .inr e
  refine ⟨_,rfl,q,rfl,⟨_,hqb Iy⟩,?_⟩
  refine vF (sq:=aR K) (xs:=xs) (λ n U H'=>∃ S,A5 (f8 [x] H H') (aI K H H') (gL Ad.cJ H' x pl pg pk pq qs S) (lJ g.rows S i n) (E2 λ (v4 v5:Option V)=>U=[some (.ref x),some (.ref y),some (al i),some (.ref q),v4,v5])) ⟨_,Iy,Kg,R10,O0,_,_,rfl⟩ (λ i U H' _ ⟨_,b,_,_,_,_⟩=>hqb b) ?_ ?_
  .
   rintro n u Qj U u7 hu KG ⟨S1,DZ,Le,Pf,qg,w4,w5,rfl⟩
   have hn:n<r.length:=by rw [← lq];exact (List.getElem?_eq_some_iff.mp hu).1
   have ec:=Mq hn
   generalize r[n]=vv at ec
   obtain ⟨u',eu,du⟩:=dq.get (d:=qO vv) (by rw [aat,ec];rfl)
   rw [hu] at eu
   cases eu
   have Dc:=ak (o:=.tup [al n,u]) KG
   refine ⟨Qj,_,rfl,bO.of af,rfl,_,_,rfl,_,_,rfl,rfl,?_⟩
   have JF:f8 [x] H _:=λ c z e m=>Dc c z (DZ c z e m)
   have Nm:=Le.trans Dc.ts
   have RZ:=Pf.same Dc
   generalize upd u7 Qj (.tup [al n,u])=TR at JF Nm RZ ⊢
   cases vv with
   | some js =>
     obtain ⟨q2,ys,rfl,_,_⟩:=du
     exact ⟨_,rfl,rfl,_,rfl,fX ⟨S1,JF,Nm,RZ,qg.skip er ec,_,_,rfl⟩⟩
   | none =>
     obtain rfl:u = .cf:=du
     have Cd:i<S1.bp.length:=by rw [qg.ok.ll];exact hi
     have yf:i<S1.cM.length:=by rw [qg.ok.lg];exact hi
     have el:=Mq Cd
     have eg:=Mq yf
     generalize S1.bp[i]=l at el
     generalize S1.cM[i]=m at eg
     have hc:n<l.length:=by rw [qg.ok.sh i l r el er];exact hn
     have Da:=qg.un i l n el hc (.inr ⟨rfl,aaU _⟩)
     have en:=qg.ok.go i _ _ el eg
     have n0:m≠0:=λ z=>by
       rw [z] at en
       exact List.countP_eq_zero.mp en.symm _ (aaK Da) rfl
     obtain ⟨yn,rB⟩:=RZ.ins
     refine ⟨_,rfl,rfl,_,rfl,gS ⟨_,rfl,x,yn,_,rfl,rB,rfl,_,rfl,_,rfl,x,pl,pg,pk,pq,qs,S1,i,n,0,m,l,rfl,RZ,el,hc,eg,n0,by rw [qg.ok.lk];exact hi,acS qg.ok.ql (acS hb.1 (by decide)),λ Jv b13 R13=>?_⟩⟩
     refine ⟨_,λ c z e mx=>b13 c z (JF c z e mx) λ y=>?_,Nm.trans (Bp RZ.rQ b13),R13,qg.step er ec el eg,_,_,rfl⟩
     rw [U3 c y] at e
     cases e
  . rintro U u7 ⟨S1,DZ,Le,Pf,qg,w4,w5,rfl⟩
    rw [lq] at qg
    exact ⟨S1,DZ,Le,Pf,qg.next er,_,_,_,_,rfl⟩
 .
  rintro U H9 ⟨S,b9,t9,R9,O0,v2,v3,v4,v5,rfl⟩
  rw [lv] at O0
  obtain ⟨dx9,hx9⟩:=R9.ins
  obtain ⟨hy9,Yb,dr9⟩:=rdB b9
  refine ⟨_,rfl,x,dx9,_,rfl,hx9,rfl,_,rfl,y,_,dy,_,_,rfl,hy9,T.bL,T.cZ,rfl,pr,vr,g.rows,rfl,Yb,dr9,hb.1,hb.2,λ pa as ah E7 Gh Rm=>?_⟩
  refine ⟨x,pl,pg,pk,pq,qs,S,pa,ah,g.rows,rfl,R9.same Gh.sm,O0.ok,O0.done,Gh.at R9,Rm,hb.1,λ u7 S' cur DZ Pf zY abc agT=>?_⟩
  exact k pl pg pk pq qs S' cur u7 (λ c z e mx=>DZ c z (Gh.sm c z (b9 c z e mx)) λ y=>by rw [U3 c y] at e;cases e) ((t9.trans Gh.sm.ts).trans (Bp (R9.same Gh.sm).rQ DZ)) Pf zY abc agT
set_option maxHeartbeats 0 in
theorem wX (T:Txt K mg Ad):Qv P w K mg base "ranks_of" fG (.ref Ad.mD) 13 ["hold","states","limit"] (wq P w K Ad.aQ):=by
 refine T.zX.dok pI (λ vs H Q E h=>?_) (λ f _ _ _ s H vs Q E hr h=>?_)
 . obtain ⟨a,q,lim,fp,m,xs,l,rfl,_⟩:=h
   rfl
 .
  obtain ⟨a,q,lim,fp,m,xs,l,rfl,hh,gh,fin,l2,rl,hq,wa,MN,k⟩:=h
  refine ⟨_,(ag (aD (i:=3) pI.nd rfl (lc rfl) (nU T.Gs (nB (P:=P) (w:=w) T) .nil hr.m T.KB (aa (pv 0) (aa (pv 1) (aa (pv 2) ac)))))
    (am (aF (zH (P:=P) (w:=w) (K:=K) rfl rfl rfl hr.u70 rfl (aa (aH (pv 3) rfl) (aa (aH (nU T.DG (mM (P:=P) (w:=w) T) .nil hr.m T.Jm (aa (pv 3) ac)) rfl) ac)) rfl T.Fo rfl T.J5)))),?_⟩
  try dsimp only [eL,aU]
  refine ⟨_,rfl,_,rfl,_,rfl,λ y dy hy hdy n=>?_⟩
  have s1:aC H (upd (upd H dy (.own y)) y (.ins Ad.cz dy [])):=(ak hdy).trans (ak (by first|(rw [aq n];exact hy)|(rw [aq n.symm];exact hy)))
  have hy1:(upd (upd H dy (.own y)) y (.ins Ad.cz dy [])) y=some (.ins Ad.cz dy []):=af
  generalize upd (upd H dy (.own y)) y (.ins Ad.cz dy [])=H1 at s1 hy1 ⊢
  refine ⟨y,dy,a,q,lim,fp,m,xs,l,rfl,hy1,hh.same s1,λ z=>?_,gh,fin,l2,s1 _ _ hq,wa.imp (λ _ _ z=>z.same s1),MN,λ pm po pr pd g H2 b2 t2 fr hg ok lo lr wl _=>⟨rfl,?_⟩⟩
  . obtain ⟨u,hu⟩:=hh.some y z
    rw [hy] at hu;cases hu
  have s2:aC H H2:=λ b u e=>b2 b u (s1 b u e) (by simp only [akp];exact au e hy)
  obtain ⟨dy2,hy2⟩:=hg.ins
  have lm:g.met.length<=2000:=by
    have:=fin g.met ok.nd ok.st
    lia
  have hb:=ok.KC gh rl lr lm
  refine ⟨_,rfl,y,_,dy2,_,_,rfl,hy2,T.bL,T.eB,rfl,_,rfl,λ x dx hx i5 n2=>?_⟩
  have s3:aC H2 (upd (upd H2 dx (.own x)) x (.ins Ad.cJ dx [])):=(ak i5).trans (ak (by first|(rw [aq n2];exact hx)|(rw [aq n2.symm];exact hx)))
  have Nz:(upd (upd H2 dx (.own x)) x (.ins Ad.cJ dx [])) x=some (.ins Ad.cJ dx []):=af
  generalize upd (upd H2 dx (.own x)) x (.ins Ad.cJ dx [])=H3 at s3 Nz ⊢
  refine ⟨x,dx,y,pm,po,pr,pd,lim,g,rfl,Nz,hg.same s3,hb,λ pl pg pk pq qs S cur H4 b4 t4 hk rk nd gd=>⟨rfl,?_⟩⟩
  have s4:aC H2 H4:=λ b u e=>b4 b u (s3 b u e) (by simp only [akp];exact au e hx)
  obtain ⟨dx4,Vr⟩:=hk.ins
  obtain ⟨vm,gc,Gb⟩:=(hg.same s4).met
  have lk:S.bq.length=g.met.length:=by rw [rk.lk,lr]
  obtain ⟨ax,e1,e2,e3,e4⟩:=LZ Gb lk
  have ndk:(ax.map (·.1)).Nodup:=by
    rw [e3]
    exact List.Pairwise.map j6 (λ a b h z=>h (vw z)) ok.nd
  have lkv:ax.length=g.met.length:=by rw [← zN (·.1),e3,zN]
  refine ⟨x,_,dx4,_,_,rfl,Vr,T.bT,T.eC,rfl,pm,pk,ax,rfl,by rw [← e1];exact aR.of gc,by rw [← e2];exact aR.of hk.SL,ndk,e4,acS (show _<=2000 by lia) (by decide),λ p hp=>?_⟩
  have s5:=ak (o:=jV P w p ax) hp
  refine k p ax _ ((s2.trans s4).trans s5) ⟨af,λ e he=>(e4 e he).ts s5.ts⟩ λ st i9=>?_
  obtain ⟨i,hi,ei⟩:=List.mem_iff_getElem.mp (wl st i9)
  have hik:i<ax.length:=by rw [lkv];exact hi
  have hir:i<S.bq.length:=by rw [lk];exact hi
  have ek:=Mq hik
  have er:=Mq hir
  have em:g.met[i]?=some st:=by rw [Mq hi,ei]
  have k1:(ax.map (·.1))[i]?=some ax[i].1:=by rw [aat,ek];rfl
  rw [e3,aat,em] at k1
  have k2:(ax.map (λ e=>e.2.2))[i]?=some ax[i].2.2:=by rw [aat,ek];rfl
  rw [← e2,aat,er] at k2
  refine ⟨S.bq[i],?_,rk.rank nd gd ok lr em er⟩
  rw [show j6 st=ax[i].1 from abG k1,Bh ndk ek]
  exact k2.symm
theorem gE (T:Txt K mg Ad):By P w K mg base "ranks_of" 13 ["hold","states","limit"] [.int 2000] (wq P w K Ad.aQ) :=
 (wX T).Hg T.zq λ items hv=>by
   obtain ⟨u1,e,r1⟩:=vals1 hv
   obtain rfl:items=#[u1]:=by
     obtain ⟨l⟩:=items
     exact ahP _ e
   exact ⟨[u1],.cons r1 .nil,λ _ _ _ _ _ _ us hl=>match us,(by simpa using hl:us.length=2) with | [_,_],_=>⟨_,rfl,rfl⟩⟩
inductive Lj  (vs:List V) (H:Hp) (Q:VK) (_E:XK):Prop
 | mk (c k t:Int) (_:vs=[.int c,.int k,.int t]) (_:0<=k) (_:k<=1000) (_:0<=t) (_:t<=7) (_:∀ H' r,aC H H'->0<=r->r<=65537->Q (.int r) H')
theorem BL {t:Int} (h0:0<=t) (h1:t<=7):∃ p:Int,ud ([.int 65537,.int 65521,.int 65519,.int 65497,.int 65479,.int 65449,.int 65447,.int 65437]:List V) t=some (.int p)/\65437<=p/\p<=65537:=by
 have:t=0∨t=1∨t=2∨t=3∨t=4∨t=5∨t=6∨t=7:=by lia
 rcases this with rfl|rfl|rfl|rfl|rfl|rfl|rfl|rfl<;>exact ⟨_,rfl,by decide,by decide⟩
theorem bJ (T:Txt K mg Ad):Def P w K mg base "_law_mix" 1 ["_law_cell","_law_k","_law_turn"] Lj:=by
 refine T.BM.cS qU λ f bA A outer s H vs Q E hr h=>?_
 obtain ⟨c,k,t,rfl,k0,k1,t0,t1,q⟩:=h
 refine ⟨_,(ag (aD (i:=3) qU.nd rfl (lc rfl) (aB aw (cx (aa ai (aa ai (aa ai (aa ai (aa ai (aa ai (aa ai (aa ai ac))))))))) (pv 2) (λ _ _=>rfl)))
     (am (aF (av aX (av bw (av aY (av aX (pv 0) ai) ai) (av aY (av aY (av bw (pv 1) (pv 1)) ai) (av bw ai (pv 2)))) (pv 3))))),?_⟩
 try dsimp only [eL,aU]
 obtain ⟨pr,epr,p0,p1⟩:=BL t0 t1
 refine ⟨(by show 8<=sizeLine;decide),λ pl gT=>⟨_,rfl,pl,_,_,_,rfl,rfl,.inl (aR.of af),epr,?_⟩⟩
 refine ⟨_,rfl,_,_,rfl,rfl,by decide,λ m m0 m1 _=>⟨_,_,rfl,rfl,λ a ea=>⟨_,rfl,_,rfl,_,_,rfl,rfl,⟨100,100,MF 100 (by lia) (by lia),MF 100 (by lia) (by lia),by decide⟩,λ kk Pu=>?_⟩⟩⟩
 have kk0:0<=kk:=by rw [Pu];exact akS k0 k0
 have kk1:kk<=1000 * 1000:=by rw [Pu];exact alY k1 k1 k0 (by decide)
 refine ⟨_,_,rfl,rfl,λ s1 es1=>⟨_,rfl,_,_,rfl,rfl,⟨100,100,MF 100 (by lia) (by lia),MF 100 (by lia) (by lia),by decide⟩,λ tt ett=>⟨_,_,rfl,rfl,λ s2 es2=>?_⟩⟩⟩
 refine ⟨_,_,rfl,rfl,⟨100,100,MF 100 (by lia) (by lia),MF 100 (by lia) (by lia),by decide⟩,λ pp epp=>⟨_,rfl,_,_,rfl,rfl,by lia,λ r r0 r1 _=>?_⟩⟩
 exact q _ r (ak gT) r0 (by lia)
theorem iU (T:Txt K mg Ad):Def P w K mg base "_law_part" 1 ["_law_top","_law_bottom"] EF:=by
 refine T.zW.cS fN λ f bA A outer s H vs Q E hr h=>?_
 obtain ⟨t,b,rfl,hb,bb,k⟩:=h
 refine ⟨_,(ag (aD (i:=2) fN.nd rfl (lc rfl) (aS oR (by rfl) T.Es yK (aa (pv 0) ac)))
     (ag (aD (i:=3) fN.nd rfl (lc rfl) (pv 1))
     (ag (nA adG (aO xR (pv 3) ai (aM _)) (ag (aD (i:=4) fN.nd rfl (lc rfl) (av aX (pv 2) (pv 3)))
     (ag (aD (i:=2) fN.nd rfl (lc rfl) (pv 3))
     (am (aD (i:=3) fN.nd rfl (lc rfl) (pv 4))))))
     (am (aF (cm (aa (av bN (pv 0) (pv 2)) (aa (av bN (pv 1) (pv 2)) ac)))))))),?_⟩
 try dsimp only [eL,aU]
 first|(refine eI ?_;intro _ _ _ _ _)|skip
 refine ⟨_,rfl,_,rfl,λ g0 eg=>⟨_,rfl,?_⟩⟩
 refine ⟨λ m U H'=>H'=H/\E3 λ (g l:Int) (r:Option V)=>A5 (U=[some (.int t),some (.int b),some (.int g),some (.int l),r]) (0<=g) (0<=l) (m=l.toNat) (Int.gcd g l=Int.gcd t b),
   ⟨_,rfl,g0,b,none,rfl,by lia,by lia,rfl,by rw [eg];rfl⟩,?_⟩
 rintro m U H' ⟨rfl,g,l,r,rfl,hg,hl,rfl,e⟩
 refine ⟨_,rfl,_,_,rfl,rfl,_,rfl,?_⟩
 refine ji (λ h=>?_) (λ h=>?_)
 .
  have l1:0<l:=h
  refine ⟨λ σ' C9=>C9=H'/\σ'=[some (.int t),some (.int b),some (.int l),some (.int (g % l)),some (.int (g % l))],λ σ' C9 ⟨e1,e2⟩=>?_,?_⟩
  . have m0:=ams g (by lia:l≠0)
    have m1:=al7 g l1
    exact ⟨(g % l).toNat,by lia,e1,l,g % l,_,e2,hl,m0,rfl,(J7 hg l1).trans e⟩
  . refine ⟨_,rfl,_,rfl,_,_,rfl,rfl,l1,λ r _ _ er=>?_⟩
    subst er
    exact ⟨_,rfl,_,rfl,rfl,rfl⟩
 .
  have l1:l=0:=by lia
  subst l1
  have ec:g=((Int.gcd t b:Nat):Int):=by rw [← e,NY hg]
  obtain ⟨c0,cl,fp,fn⟩:=Ds (by lia:b≠0) ec
  have bc:Bd 8999 g:=(bb.le (by lia)).mono (by decide)
  refine ⟨_,rfl,_,rfl,_,_,rfl,rfl,⟨by lia,bc⟩,λ q eq=>⟨_,rfl,_,rfl,_,_,rfl,rfl,⟨by lia,bc⟩,λ r er=>⟨EW,λ p hp=>?_⟩⟩⟩
  subst eq er
  exact k _ _ p _ (fp hb) (ak hp) af
theorem vU (T:Txt K mg Ad):Def P w K mg base "_law_scale" 1 ["_law_cell"] Cc:=by
 refine T.wx.cS jq λ f bA A outer s H vs Q E hr h=>?_
 obtain ⟨c,rfl,k⟩:=h
 refine ⟨_,(ag (aD (i:=1) jq.nd rfl (lc rfl) (av AU ai ai))
     (ag (jC (bv (aO fc (av aX (pv 0) ai) ai (aM _)) (am (aD (i:=1) jq.nd rfl (lc rfl) (av AU ai ai))) aJ))
     (am (aF (cm (aa (av aY ai (av aX (av bN (pv 0) ai) (pv 1))) (aa (av aY ai (av aX (av bN (pv 0) ai) (pv 1))) (aa (av dX (av aX (av bN (pv 0) ai) (av aY (av bw ai (pv 1)) ai)) (pv 1)) (aa (av aY ai (av aX (av bN (pv 0) ai) (pv 1))) ac))))))))),?_⟩
 try dsimp only [eL,aU]
 first|(refine dC ?_;intro _ _ _ _)|skip
 refine ⟨_,_,rfl,rfl,⟨by decide,by decide,by decide⟩,λ e4 e4'=>?_⟩
 have e4':e4=10000:=by rw [e4'];rfl
 subst e4'
 refine ⟨λ σ' H'=>H'=H/\∃ (Mv:Int),A3 (1<=Mv) (Mv<=10 ^ 9) (σ'=[some (.int c),some (.int Mv)]),?_,?_⟩
 .
  refine ⟨_,rfl,_,_,rfl,rfl,by decide,λ r _ _ _=>⟨rfl,_,rfl,ji (λ _=>⟨_,_,rfl,rfl,⟨by decide,by decide,by decide⟩,λ e9 YK=>?_⟩) (λ _=>⟨rfl,10000,by decide,by decide,rfl⟩)⟩⟩
  have YK:e9=1000000000:=by rw [YK];rfl
  subst YK
  exact ⟨rfl,_,by decide,by decide,rfl⟩
 rintro σ' H' ⟨rfl,Mv,f1,f2,rfl⟩
 have bf:Bd 40 Mv:=show Mv.natAbs<2 ^ 40 by lia
 refine ⟨_,rfl,_,_,rfl,rfl,⟨by decide,mR⟩,λ y1 _=>⟨_,rfl,_,_,rfl,rfl,by lia,λ r1 a0 a1 _=>⟨_,_,rfl,rfl,λ z1 ez1=>?_⟩⟩⟩
 refine ⟨_,rfl,_,_,rfl,rfl,⟨by decide,mR⟩,λ y2 _=>⟨_,rfl,_,_,rfl,rfl,by lia,λ r2 b0 b1 _=>⟨_,_,rfl,rfl,λ z2 ez2=>?_⟩⟩⟩
 refine ⟨_,rfl,_,_,rfl,rfl,⟨by decide,mR⟩,λ y3 _=>⟨_,rfl,_,_,rfl,rfl,⟨2,40,mR,bf,by decide⟩,λ y4 ey4=>⟨_,_,rfl,rfl,λ y5 ey5=>⟨_,_,rfl,rfl,by lia,λ r3 c0 c1 _=>⟨_,rfl,_,_,rfl,rfl,λ z3 ez3=>?_⟩⟩⟩⟩⟩
 refine ⟨_,rfl,_,_,rfl,rfl,⟨by decide,mR⟩,λ y6 _=>⟨_,rfl,_,_,rfl,rfl,by lia,λ r4 d0 d1 _=>⟨_,_,rfl,rfl,λ z4 ez4=>⟨Lv,λ p hp=>?_⟩⟩⟩⟩
 exact k p ⟨z1,z2,z3,z4⟩ _ ⟨by show 1<=z1/\z1<=10 ^ 9;lia,by show 1<=z2/\z2<=10 ^ 9;lia,by show z3.natAbs<=10 ^ 9;lia,by show 1<=z4/\z4<=10 ^ 9;lia⟩ (ak hp) af
theorem kA (T:Txt K mg Ad):Def P w K mg base "_law_warm" 2 ["_law_steps","_law_scale_here"] (Ee K):=by
 refine T.zU.cS xU λ f bA A outer s H vs Q E hr h=>?_
 obtain ⟨x,p,sc,rfl,hp,ok,hx,k⟩:=h
 refine ⟨_,(am (aF (ar (iU (K:=K) T) hr.m (aa (av aY (av bw (av bw (pv 0) (aB aw (pv 1) ai (λ _ _=>rfl))) (aB aw (pv 1) ai (λ _ _=>rfl))) (av bw (aB aw (pv 1) ai (λ _ _=>rfl)) (aB aw (pv 1) ai (λ _ _=>rfl)))) (aa (av bw (aB aw (pv 1) ai (λ _ _=>rfl)) (aB aw (pv 1) ai (λ _ _=>rfl))) ac))))),?_⟩
 try dsimp only [eL,aU]
 obtain ⟨d0,d1⟩:=ok.den
 obtain ⟨n0,n1,n2⟩:=ok.num hx
 have oa:=ok.a
 have ob:=ok.b
 have ot:=ok.t
 have od:=ok.d
 have bd:∀ {y:Int},y.natAbs<=10 ^ 12->Bd 60 y:=λ {y} h=>show y.natAbs<2 ^ 60 by lia
 refine ⟨_,rfl,_,rfl,p,_,_,_,rfl,rfl,.inr hp,rfl,_,_,rfl,rfl,⟨60,60,bd (by lia),bd (by lia),by decide⟩,λ y1 e1=>?_⟩
 refine ⟨_,rfl,p,_,_,_,rfl,rfl,.inr hp,rfl,_,_,rfl,rfl,⟨60,60,bd (by rw [e1];exact n0),bd (by lia),by decide⟩,λ y2 e2=>?_⟩
 refine ⟨_,rfl,p,_,_,_,rfl,rfl,.inr hp,rfl,_,rfl,p,_,_,_,rfl,rfl,.inr hp,rfl,_,_,rfl,rfl,⟨60,60,bd (by lia),bd (by lia),by decide⟩,λ y3 e3=>⟨_,_,rfl,rfl,λ y4 e4=>?_⟩⟩
 refine ⟨_,rfl,p,_,_,_,rfl,rfl,.inr hp,rfl,_,rfl,p,_,_,_,rfl,rfl,.inr hp,rfl,_,_,rfl,rfl,⟨60,60,bd (by lia),bd (by lia),by decide⟩,λ y5 e5=>?_⟩
 subst e1 e2 e3 e4 e5
 have b5:Bd 4000 (sc.b * sc.d):=by
   have:Bd 100 (sc.b * sc.d):=show Int.natAbs _<2 ^ 100 by lia
   exact this.mono (by decide)
 refine ⟨_,_,rfl,d0,b5,λ q r u H' F s1 hu=>k u H' s1 ?_⟩
 have e:=F.nf d0
 rw [hu]
 unfold dh
 rw [← e]
theorem xO {H:Hp}:∀ l:List Int,bi K H (l.map PyData.int) (l.map V.int)
 | []=>eK
 | x::l=>bh rfl (xO l)
set_option maxHeartbeats 0 in
theorem vc (T:Txt K mg Ad):Def P w K mg base "_law_rooms" 2 ["_law_cell","_law_many","_law_bands"] (yU K):=by
 refine T.xK.cS bB λ f bA A outer s H vs Q E hr h=>?_
 obtain ⟨c,n,bd,rfl,n1,n4,b1,b4,k⟩:=h
 refine ⟨_,(ag (aD (i:=3) bB.nd rfl (lc rfl) (cx ac))
     (ag (cL adG rfl (cH rfl T.eW (aa (pv 1) ac)) (aA (i:=4) bB.nd rfl (lc rfl)) (ag (aD (i:=5) bB.nd rfl (lc rfl) (cx (aa (av dX (av aX (ar (bJ (K:=K) T) hr.m (aa (pv 0) (aa ai (aa ai ac)))) ai) ai) ac)))
     (ag (cL adG rfl (cH rfl T.eW (aa (av aY ai (av aX (ar (bJ (K:=K) T) hr.m (aa (pv 0) (aa (pv 4) (aa ai ac)))) (pv 2))) ac)) (aA (i:=6) bB.nd rfl (lc rfl)) (am (aW (gJ ads adL adH bX (pv 5) (aa (av aY (av aY (aB aw (pv 5) (qQ vP ai) (λ _ _=>rfl)) ai) (av aX (ar (bJ (K:=K) T) hr.m (aa (pv 0) (aa (av aY (pv 4) (av bw ai (pv 6))) (aa ai ac)))) ai)) ac)))))
     (ag (aD (i:=7) bB.nd rfl (lc rfl) (aS (o7 rfl) (by rfl) T.E1 zK (aa ai (aa (av dX (av aX (ar (bJ (K:=K) T) hr.m (aa (pv 0) (aa (pv 4) (aa ai ac)))) ai) ai) ac))))
     (ag (aD (i:=8) bB.nd rfl (lc rfl) (av aY ai (av aX (av bN (ar (bJ (K:=K) T) hr.m (aa (pv 0) (aa (pv 4) (aa ai ac)))) ai) ai)))
     (ag (aD (i:=9) bB.nd rfl (lc rfl) (av dX (aB aw (pv 5) ai (λ _ _=>rfl)) (pv 7)))
     (ag (aD (i:=10) bB.nd rfl (lc rfl) (aS (o7 rfl) (by rfl) T.E1 zK (aa (pv 9) (aa (av aY (av dX (aB aw (pv 5) (qQ vP ai) (λ _ _=>rfl)) (av aX (ar (bJ (K:=K) T) hr.m (aa (pv 0) (aa (pv 4) (aa ai ac)))) ai)) (cb lI (by rfl) T.wT rV (aa (db fc (av aX (av bN (ar (bJ (K:=K) T) hr.m (aa (pv 0) (aa (pv 4) (aa ai ac)))) ai) ai) ai (aM _)) ac))) ac))))
     (ag (aD (i:=11) bB.nd rfl (lc rfl) (av aY (av bN (av aY (av bw (pv 8) (pv 7)) ai) ai) (av aX (ar (bJ (K:=K) T) hr.m (aa (pv 0) (aa (pv 4) (aa ai ac)))) ai)))
     (ag (jC (bv (aO fc (av aX (av bN (ar (bJ (K:=K) T) hr.m (aa (pv 0) (aa (pv 4) (aa ai ac)))) ai) ai) ai (aM _)) (am (aD (i:=11) bB.nd rfl (lc rfl) (av aX (av bN (ar (bJ (K:=K) T) hr.m (aa (pv 0) (aa (pv 4) (aa ai ac)))) ai) ai))) aJ))
     (ag (aD (i:=12) bB.nd rfl (lc rfl) (cm (aa (pv 11) (aa (av aX (ar (bJ (K:=K) T) hr.m (aa (pv 0) (aa (pv 4) (aa ai ac)))) ai) (aa (av aX (av bN (ar (bJ (K:=K) T) hr.m (aa (pv 0) (aa (pv 4) (aa ai ac)))) ai) ai) (aa (av aX (ar (bJ (K:=K) T) hr.m (aa (pv 0) (aa (pv 4) (aa ai ac)))) ai) ac))))))
     (ag (jC (bv (aO xR (pv 1) ai (aM _)) (am (aD (i:=12) bB.nd rfl (lc rfl) (cm (aa (pv 11) (aa (av aX (aB aw (pv 12) ai (λ _ _=>rfl)) ai) (aa (av bw (av aX (aB aw (pv 12) ai (λ _ _=>rfl)) ai) (cb lI (by rfl) T.wT rV (aa (db fc (pv 1) ai (aM _)) ac))) (aa (av bw (aB aw (pv 12) ai (λ _ _=>rfl)) (cb lI (by rfl) T.wT rV (aa (mJ (db fc (pv 1) ai (aM _)) (mH (db fc (pv 4) ai (aM _)))) ac))) ac))))))) aJ))
     (ag (jC (bv (aO fc (av aX (av bN (ar (bJ (K:=K) T) hr.m (aa (pv 0) (aa (pv 4) (aa ai ac)))) ai) ai) ai (aM _)) (am (aD (i:=12) bB.nd rfl (lc rfl) cy)) aJ))
     (am (aW (gJ ads adL adH bX (pv 3) (aa (cm (aa (pv 5) (aa (pv 8) (aa (pv 9) (aa (pv 10) (aa (pv 12) ac)))))) ac))))))))))))))))
     (am (aF (pv 3))))),?_⟩
 try dsimp only [eL,aU]
 first|(refine dC ?_;intro _ _ _ _)|skip
 refine ⟨Do,λ po AT=>⟨_,rfl,_,rfl,by lia,by lia,?_⟩⟩
 refine gu (lo:=0) (n:=n) (λ i U H'=>A3 (aC H H') (E2 λ (xs:List V) (rs:List R7)=>A4 (H' po=some (.lst xs)) (bi K (cP H' [po]) (rs.map JX) xs) (rs.length=i) (∀ r∈rs,r.Ok/\zE n bd r)) (E9 λ x4 x5 x6 x7 x8 x9 JE J1 RH=>U=[some (.int c),some (al n),some (al bd),some (.ref po),x4,x5,x6,x7,x8,x9,JE,J1,RH]))
   ⟨ak AT,⟨[],[],af,eK,rfl,nofun⟩,none,none,none,none,none,none,none,none,none,rfl⟩ ?_ ?_
 .
  rintro _ i U H1 hi ⟨S1,⟨xs,rs,Jc,v9,lr,u5⟩,x4,x5,x6,x7,x8,x9,JE,J1,RH,rfl⟩
  refine ⟨_,rfl,c,0,0,rfl,by decide,by decide,by decide,by decide,λ H2 r0 s2 r00 r01=>⟨_,_,rfl,rfl,by decide,λ m0 m00 m01 _=>⟨_,_,rfl,rfl,λ f0 ef0=>⟨Eu,λ pm gc=>?_⟩⟩⟩⟩
  have LO:H1 pm=none:=s2.free gc
  have T2:=s2.trans (ak (o:=.lst [.int f0]) gc)
  have Ct:(upd H2 pm (.lst [.int f0])) pm=some (.lst [.int f0]):=af
  generalize upd H2 pm (.lst [.int f0])=H2b at T2 Ct ⊢
  refine ⟨_,rfl,_,rfl,c,0+(i:Int),1,rfl,by lia,by lia,by decide,by decide,λ H3 r1 s3 TX Yf=>⟨_,rfl,_,_,rfl,rfl,by lia,λ m1 m10 m11 _=>⟨_,_,rfl,rfl,λ cn ecn=>?_⟩⟩⟩
  obtain ⟨cnt,rfl⟩:∃ x:Nat,cn=(x:Int):=⟨cn.toNat,by lia⟩
  refine ⟨_,rfl,by lia,by lia,?_⟩
  refine gu (lo:=0) (n:=cnt) (λ j U H'=>A3 (aC H1 H') (∃ (ms:List Int),A4 (H' pm=some (.lst (ms.map V.int))) (ms.length=j+1) (∀ (a:Nat) (x y:Int),ms[a]?=some x->ms[a+1]?=some y->x<y) (∀ x∈ms,-30<=x/\x<=30+14 * (j:Int))) (∃ x6,U=[some (.int c),some (al n),some (al bd),some (.ref po),some (.int (0+(i:Int))),some (.ref pm),x6,x7,x8,x9,JE,J1,RH]))
    ⟨T2.trans s3,⟨[f0],s3 _ _ Ct,rfl,λ a x y h1 h2=>?_,λ x hx=>?_⟩,_,rfl⟩ ?_ ?_
  . have:=(List.getElem?_eq_some_iff.mp h2).1
    have:a+1<1:=this
    lia
  . rw [List.mem_singleton.mp hx];lia
  .
   rintro _ j U H' hj ⟨T3,⟨ms,NF,UH,UI,yR⟩,x6,rfl⟩
   have hl:(ms.map V.int).length=j+1:=by rw [zN,UH]
   have JZ:ms[j]?=some ms[j]:=aE (by lia)
   refine ⟨_,rfl,.inl ⟨rfl,_,aR.of NF⟩,_,rfl,_,rfl,pm,_,_,.int ms[j],rfl,rfl,.inl (aR.of NF),?_,?_⟩
   . refine EL ?_
     rw [hl,aat,show j+1 - 1=j by lia,JZ];rfl
   refine ⟨_,_,rfl,rfl,λ y1 e1=>⟨_,rfl,_,rfl,_,rfl,_,_,rfl,rfl,⟨3,5,mR,(show Int.natAbs _<2 ^ 5 by lia),by decide⟩,λ y2 e2=>⟨_,_,rfl,rfl,λ y3 e3=>?_⟩⟩⟩
   have e2:y2=3 * (0+(j:Int)):=e2
   refine ⟨c,y3,2,rfl,by lia,by lia,by decide,by decide,λ H4 r s4 _ _=>⟨_,_,rfl,rfl,by decide,λ q q0 q1 _=>⟨_,_,rfl,rfl,λ y4 e4=>?_⟩⟩⟩
   refine ⟨pm,_,_,rfl,rfl,s4 _ _ NF,aT (by lia),(T3.trans s4).put LO,⟨ms++[y4],by rw [aaN];exact af,by rw [aaE,UH];rfl,λ a x y hx hy=>?_,λ x hx=>?_⟩,_,rfl⟩
   .
    by_cases ha:a+1<ms.length
    . rw [abM ha] at hy
      rw [abM (by lia)] at hx
      exact UI a x y hx hy
    .
     have hya:=(List.getElem?_eq_some_iff.mp hy).1
     rw [aaE,acG] at hya
     have eaj:a=j:=by lia
     subst eaj
     rw [abM (by lia),JZ] at hx
     rw [afw (by lia),show a+1 - ms.length=0 by lia] at hy
     cases hx
     have hy:some y4=some y:=hy
     cases hy
     lia
   . have hlj:=yR ms[j] (acx _)
     rcases List.mem_append.mp hx with h|h
     . have:=yR x h;lia
     . rw [List.mem_singleton.mp h];lia
  rintro U H4 ⟨T4,⟨ms,NF,UH,UI,yR⟩,WP,rfl⟩
  have hl:(ms.map V.int).length=cnt+1:=by rw [zN,UH]
  have hc4:1<=cnt/\cnt<=4:=by lia
  have hcb:cnt<=bd:=by lia
  have g0:ms[0]?=some ms[0]:=aE (by lia)
  have gl:ms[cnt]?=some ms[cnt]:=aE (by lia)
  have b0:=yR ms[0] (acx _)
  have bl:=yR ms[cnt] (acx _)
  have PJ:ms[0]<=ms[cnt]:=by
    have key:∀ t (h:t<ms.length),ms[0]<=ms[t]:=λ t=>by
      induction t with
      | zero=>intro h;exact akb _
      | succ t ih =>
        intro h
        have a:=ih (by lia)
        have b:=UI t ms[t] ms[t+1] (aE (by lia)) (aE h)
        lia
    exact key cnt (by lia)
  generalize hm0:ms[0]=mf at g0 b0 PJ
  generalize X3:ms[cnt]=ml at gl bl PJ
  refine ⟨_,rfl,_,rfl,c,0+(i:Int),3,rfl,by lia,by lia,by decide,by decide,λ H5 r s5 _ _=>⟨_,_,rfl,rfl,by decide,λ q q0 q1 _=>⟨_,_,rfl,rfl,λ y ey=>⟨_,_,rfl,?_⟩⟩⟩⟩
  have Db:0<=(if y > 0 then y else 0)/\(if y > 0 then y else 0)<=12:=by split<;>lia
  generalize (if y > 0 then y else 0)=be at Db ⊢
  refine ⟨_,rfl,_,rfl,c,0+(i:Int),3,rfl,by lia,by lia,by decide,by decide,λ H6 r s6 _ _=>⟨_,_,rfl,rfl,⟨by decide,mR⟩,λ y _=>⟨_,_,rfl,rfl,by decide,λ q q0 q1 _=>⟨_,_,rfl,rfl,λ sh esh=>?_⟩⟩⟩⟩
  have T6:=(T4.trans s5).trans s6
  have MJ:H6 pm=some (.lst (ms.map V.int)):=(s5.trans s6) _ _ NF
  refine ⟨_,rfl,pm,_,_,.int mf,rfl,rfl,.inl (aR.of MJ),bF (by rw [aat,g0];rfl),_,rfl,_,_,rfl,rfl,λ lo elo=>?_⟩
  refine ⟨_,rfl,_,rfl,_,rfl,pm,_,_,.int ml,rfl,rfl,.inl (aR.of MJ),EL (by rw [hl,aat,show cnt+1 - 1=cnt by lia,gl];rfl),?_⟩
  refine ⟨_,rfl,_,rfl,c,0+(i:Int),4,rfl,by lia,by lia,by decide,by decide,λ H7 r s7 _ _=>⟨_,_,rfl,rfl,by decide,λ q q0 q1 _=>⟨_,_,rfl,rfl,λ y1 ey1=>?_⟩⟩⟩
  refine ⟨_,rfl,_,rfl,c,0+(i:Int),4,rfl,by lia,by lia,by decide,by decide,λ H8 r s8 _ _=>⟨_,_,rfl,rfl,⟨by decide,mR⟩,λ y2 _=>⟨_,_,rfl,rfl,by decide,λ q2 _ _ _=>⟨rfl,.inr ⟨_,rfl,⟨_,_,rfl,rfl,λ y3 ey3=>⟨_,_,rfl,?_⟩⟩⟩⟩⟩⟩⟩
  have Vn:lo<=(if y3 > lo then y3 else lo)/\(if y3 > lo then y3 else lo).natAbs<=300:=by
    have:y3<=y1+1:=by rw [ey3];split<;>lia
    have:y1<=y3:=by rw [ey3];split<;>lia
    split<;>lia
  generalize (if y3 > lo then y3 else lo)=L4 at Vn ⊢
  have T8:=(T6.trans s7).trans s8
  have hm8:H8 pm=some (.lst (ms.map V.int)):=(s7.trans s8) _ _ MJ
  refine ⟨_,rfl,_,rfl,_,_,rfl,rfl,⟨3,5,(show Int.natAbs _<2 ^ 3 by lia),(show Int.natAbs _<2 ^ 5 by lia),by decide⟩,λ y4 ey4=>⟨_,_,rfl,rfl,λ y5 ey5=>⟨_,_,rfl,rfl,⟨by decide,mR⟩,λ y6 ey6=>?_⟩⟩⟩
  have hy4:0<=y4/\y4<=36:=by
    rw [ey4]
    exact ⟨akS (by lia) Db.1,alY (by lia:sh<=3) Db.2 Db.1 (by decide)⟩
  rw [amt _ (by decide)] at ey6
  refine ⟨_,rfl,_,rfl,c,0+(i:Int),5,rfl,by lia,by lia,by decide,by decide,λ H9 r s9 _ _=>⟨_,_,rfl,rfl,by decide,λ q q0 q1 _=>⟨_,_,rfl,rfl,λ he ehe=>?_⟩⟩⟩
  have T9:=T8.trans s9
  have hm9:=s9 _ _ hm8
  refine ⟨λ σ' H'=>(aC H1 H'/\H' pm=some (.lst (ms.map V.int)))/\∃ (he:Int),(0<=he/\he<=100)/\σ'=[some (.int c),some (al n),some (al bd),some (.ref po),some (.int (0+(i:Int))),some (.ref pm),WP,some (.int be),some (.int sh),some (.int lo),some (.int L4),some (.int he),RH],?_,?_⟩
  . refine ⟨_,rfl,_,rfl,c,0+(i:Int),5,rfl,by lia,by lia,by decide,by decide,λ E7 r sN _ _=>⟨_,_,rfl,rfl,⟨by decide,mR⟩,λ y _=>⟨_,_,rfl,rfl,by decide,λ q _ _ _=>⟨rfl,_,rfl,ji (λ _=>?_) (λ _=>⟨⟨T9.trans sN,sN _ _ hm9⟩,he,by lia,rfl⟩)⟩⟩⟩⟩
    exact ⟨_,rfl,_,rfl,c,0+(i:Int),5,rfl,by lia,by lia,by decide,by decide,λ u7 r yA _ _=>⟨_,_,rfl,rfl,⟨by decide,mR⟩,λ y _=>⟨_,_,rfl,rfl,by decide,λ q q0 q1 _=>⟨⟨(T9.trans sN).trans yA,(sN.trans yA) _ _ hm9⟩,q,by lia,rfl⟩⟩⟩⟩
  rintro σ' E7 ⟨⟨T10,aae⟩,he,hhe,rfl⟩
  refine ⟨_,rfl,_,rfl,_,rfl,c,0+(i:Int),6,rfl,by lia,by lia,by decide,by decide,λ u7 r yA _ _=>⟨_,_,rfl,rfl,by decide,λ w1 w10 w11 _=>?_⟩⟩
  refine ⟨_,rfl,_,rfl,c,0+(i:Int),6,rfl,by lia,by lia,by decide,by decide,λ TR r Dc _ _=>⟨_,_,rfl,rfl,⟨by decide,mR⟩,λ y _=>⟨_,_,rfl,rfl,by decide,λ w2 w20 w21 _=>?_⟩⟩⟩
  refine ⟨_,rfl,_,rfl,c,0+(i:Int),7,rfl,by lia,by lia,by decide,by decide,λ Jv r Ga _ _=>⟨_,_,rfl,rfl,by decide,λ w3 w30 w31 _=>⟨Lv,λ pt gn=>?_⟩⟩⟩
  have FY:=ak (o:=.tup [.int he,.int w1,.int w2,.int w3]) gn
  have T14:=((T10.trans yA).trans (Dc.trans Ga)).trans FY
  have KQ:=((yA.trans (Dc.trans Ga)).trans FY) _ _ aae
  refine ⟨λ σ' H'=>(aC H1 H'/\H' pm=some (.lst (ms.map V.int)))/\E2 λ (pt:Addr) (z:Int×Int×Int×Int)=>A4 (H' pt=some (.tup [.int z.1,.int z.2.1,.int z.2.2.1,.int z.2.2.2])) (A4 (0<=z.1/\z.1<=100) (0<=z.2.1/\z.2.1<=9) (0<=z.2.2.1/\z.2.2.1<=3) (0<=z.2.2.2/\z.2.2.2<=3)) (AK n z) (σ'=[some (.int c),some (al n),some (al bd),some (.ref po),some (.int (0+(i:Int))),some (.ref pm),WP,some (.int be),some (.int sh),some (.int lo),some (.int L4),some (.int he),some (.ref pt)]),?_,?_⟩
  .
   have AB:(upd Jv pt (.tup [.int he,.int w1,.int w2,.int w3])) pt=some (.tup [.int he,.int w1,.int w2,.int w3]):=af
   refine ⟨_,rfl,_,_,rfl,rfl,_,rfl,ji (λ _=>?_) (λ hng=>⟨⟨T14,KQ⟩,pt,(he,w1,w2,w3),af,⟨hhe,by show 0<=w1/\w1<=9;lia,by show 0<=w2/\w2<=3;lia,by show 0<=w3/\w3<=3;lia⟩,⟨by show w2<=2;lia,λ hn2=>absurd (show (n:Int) > 1 by lia) hng,by show w3<=1;lia⟩,rfl⟩)⟩
   generalize upd Jv pt (.tup [.int he,.int w1,.int w2,.int w3])=Um at T14 KQ AB ⊢
   refine ⟨_,rfl,_,rfl,pt,_,_,.int w1,rfl,rfl,.inr (bO.of AB),rfl,_,_,rfl,rfl,by decide,λ u1 u10 u11 _=>?_⟩
   refine ⟨_,rfl,pt,_,_,.int w2,rfl,rfl,.inr (bO.of AB),rfl,_,_,rfl,rfl,by decide,λ u2 u20 u21 _=>⟨_,rfl,rfl,.inr ⟨_,rfl,?_⟩⟩⟩
   have Ig:∀ b:Bool,0<=(if b=true then (1:Int) else 0)/\(if b=true then (1:Int) else 0)<=1:=λ b=>by cases b<;>decide
   have h2:=Ig (decide (al n=V.int 2))
   generalize (if decide (al n=V.int 2)=true then (1:Int) else 0)=bb at h2 ⊢
   refine ⟨_,_,rfl,rfl,⟨3,3,(show Int.natAbs _<2 ^ 3 by lia),(show Int.natAbs _<2 ^ 3 by lia),by decide⟩,λ u3 eu3=>?_⟩
   have hu3:0<=u3/\u3<=1:=by
     rw [eu3]
     exact ⟨akS u20 h2.1,ak7 (alY (by lia:u2<=1) h2.2 h2.1 (by decide)) (by decide)⟩
   refine ⟨_,rfl,pt,_,_,.int w3,rfl,rfl,.inr (bO.of AB),rfl,?_⟩
   refine (show E6 _ _ _ _ _ from CT (a:=decide (al n=V.int 2)) (b:=decide (V.int (0+(i:Int))=V.int 0)) (λ Q' q=>⟨_,rfl,rfl,q⟩) (λ Q' q=>⟨_,rfl,rfl,q⟩) ?_)
   refine .inr ⟨_,rfl,?_⟩
   have h3:=Ig (decide (al n=V.int 2) && decide (V.int (0+(i:Int))=V.int 0))
   generalize (if (decide (al n=V.int 2) && decide (V.int (0+(i:Int))=V.int 0))=true then (1:Int) else 0)=bc at h3 ⊢
   refine ⟨_,_,rfl,rfl,⟨3,3,(show Int.natAbs _<2 ^ 3 by lia),(show Int.natAbs _<2 ^ 3 by lia),by decide⟩,λ u4 eu4=>⟨Lv,λ p5 hp5=>?_⟩⟩
   have hu4:0<=u4/\u4<=1:=by
     rw [eu4]
     exact ⟨akS w30 h3.1,ak7 (alY (by lia:w3<=1) h3.2 h3.1 (by decide)) (by decide)⟩
   have MC:=ak (o:=.tup [.int he,.int u1,.int u3,.int u4]) hp5
   exact ⟨⟨T14.trans MC,MC _ _ KQ⟩,p5,(he,u1,u3,u4),af,⟨hhe,by show 0<=u1/\u1<=9;lia,by show 0<=u3/\u3<=3;lia,by show 0<=u4/\u4<=3;lia⟩,⟨by show u3<=2;lia,λ _=>hu3.2,hu4.2⟩,rfl⟩
  rintro σ' H15 ⟨⟨T15,Of⟩,p5,z5,hp5,okz,fz,rfl⟩
  refine ⟨λ σ' H'=>(aC H1 H'/\H' pm=some (.lst (ms.map V.int)))/\E2 λ (sv:V) (t:Option (Int×Int×Int×Int))=>A4 ((t=none/\sv = .cf)∨∃ (pt:Addr) (z:Int×Int×Int×Int),t=some z/\sv = .ref pt/\H' pt=some (.tup [.int z.1,.int z.2.1,.int z.2.2.1,.int z.2.2.2])) (∀ z,t=some z->(0<=z.1/\z.1<=100)/\(0<=z.2.1/\z.2.1<=9)/\(0<=z.2.2.1/\z.2.2.1<=3)/\(0<=z.2.2.2/\z.2.2.2<=3)) (∀ z,t=some z->AK n z) (σ'=[some (.int c),some (al n),some (al bd),some (.ref po),some (.int (0+(i:Int))),some (.ref pm),WP,some (.int be),some (.int sh),some (.int lo),some (.int L4),some (.int he),some sv]),?_,?_⟩
  . exact ⟨_,rfl,_,rfl,c,0+(i:Int),7,rfl,by lia,by lia,by decide,by decide,λ Qz r La _ _=>⟨_,_,rfl,rfl,⟨by decide,mR⟩,λ y _=>⟨_,_,rfl,rfl,by decide,λ q _ _ _=>⟨rfl,_,rfl,ji (λ _=>⟨⟨T15.trans La,La _ _ Of⟩,.cf,none,.inl ⟨rfl,rfl⟩,nofun,nofun,rfl⟩) (λ _=>⟨⟨T15.trans La,La _ _ Of⟩,.ref p5,some z5,.inr ⟨p5,z5,rfl,rfl,La _ _ hp5⟩,λ z e=>by cases e;obtain ⟨a1,a2,a3,a4⟩:=okz;exact ⟨a1,a2,a3,a4⟩,λ z e=>by cases e;exact fz,rfl⟩)⟩⟩⟩⟩
  rintro σ' Qz ⟨⟨T16,Z7⟩,sv,t,hsv,okt,fzt,rfl⟩
  have Az:=T16 _ _ Jc
  have MO:pm≠po:=λ z=>by rw [z,Jc] at LO;cases LO
  refine ⟨_,rfl,.inl ⟨rfl,_,aR.of Az⟩,_,rfl,_,rfl,_,rfl,_,rfl,_,rfl,(by show 5<=sizeLine;decide),λ pq GS=>?_⟩
  have K7:=ak (o:=.tup [.ref pm,.int sh,.int lo,.int L4,sv]) GS
  have Tj:=K7 _ _ Az
  have lx:xs.length=i:=by rw [v9.length,zN,lr]
  refine ⟨po,xs,_,rfl,rfl,Tj,aT (by lia),(((S1.trans T16).trans K7).put AT),⟨_,rs++[⟨ms,sh,lo,L4,t⟩],af,?_,by rw [aaE,lr];rfl,λ r hr=>?_⟩,_,_,_,_,_,_,_,_,_,rfl⟩
  .
   rw [kO (by simp),aaN]
   have npq:pq≠po:=λ z=>by rw [z,Az] at GS;cases GS
   have c17:∀ {x:Addr} {o:HO},(upd Qz pq (.tup [.ref pm,.int sh,.int lo,.int L4,sv])) x=some o->x≠po->cP (upd Qz pq (.tup [.ref pm,.int sh,.int lo,.int L4,sv])) [po] x=some o:=λ h n=>kB h (by simpa using n)
   refine (bi.same (rF (T16.trans K7)) _ v9).snoc ?_
   refine gU (bO.of (c17 af npq)) (bh ⟨pm,_,rfl,aR.of (c17 (K7 _ _ Z7) MO),?_⟩ (bh rfl (bh rfl (bh rfl (bh ?_ eK)))))
   . exact xO ms
   . rcases hsv with ⟨rfl,rfl⟩|⟨pt,z,rfl,rfl,gn⟩
     . rfl
     . have npt:pt≠po:=λ q=>by rw [q,Az] at gn;cases gn
       exact gU (bO.of (c17 (K7 _ _ gn) npt)) (bh rfl (bh rfl (bh rfl (bh rfl eK))))
  . rcases List.mem_append.mp hr with h|h
    . exact u5 r h
    . rw [List.mem_singleton.mp h]
      exact ⟨⟨by show 2<=ms.length/\ms.length<=5;lia,UI,λ x hx=>by have:=yR x hx;lia,by show 1<=sh/\sh<=3;lia,Vn.1,by show lo.natAbs<=300;lia,Vn.2,okt⟩,⟨by show ms.length<=bd+1;lia,fzt⟩⟩
 . rintro U H1 ⟨S1,⟨xs,rs,Jc,v9,lr,u5⟩,x4,x5,x6,x7,x8,x9,JE,J1,RH,rfl⟩
   exact ⟨_,rfl,k po xs rs H1 S1 Jc (bi.same gK _ v9) lr u5⟩
theorem zJ {H:Hp} {r:R7} {v:V} (h:Dn K H (JX r) v):∃ p pm sv,v = .ref p/\bO K H p [.ref pm,.int r.share,.int r.low,.int r.high,sv]/\aR K H pm (r.marks.map V.int)/\Dn K H (stI r.cp) sv:=by
 obtain ⟨p,ws,rfl,hp,t1,r1,rfl,g1,t2,r2,rfl,g2,t3,r3,rfl,g3,t4,r4,rfl,g4,t5,r5,rfl,g5,g6⟩:=h
 have g6:r5=[]:=g6
 have g2:t2 = .int r.share:=g2
 have g3:t3 = .int r.low:=g3
 have g4:t4 = .int r.high:=g4
 subst g2 g3 g4 g6
 obtain ⟨pm,us,rfl,hm,dm⟩:=g1
 obtain rfl:=pD dm
 exact ⟨p,pm,t5,rfl,hp,hm,g5⟩
theorem Bg {H:Hp} {z:Int×Int×Int×Int} {v:V} (h:Dn K H (stI (some z)) v):∃ p,v = .ref p/\bO K H p [.int z.1,.int z.2.1,.int z.2.2.1,.int z.2.2.2]:=by
 obtain ⟨p,ws,rfl,hp,t1,r1,rfl,g1,t2,r2,rfl,g2,t3,r3,rfl,g3,t4,r4,rfl,g4,g5⟩:=h
 have g5:r4=[]:=g5
 have g1:t1 = .int z.1:=g1
 have g2:t2 = .int z.2.1:=g2
 have g3:t3 = .int z.2.2.1:=g3
 have g4:t4 = .int z.2.2.2:=g4
 subst g1 g2 g3 g4 g5
 exact ⟨p,rfl,hp⟩
theorem Cm {r:List bR} (h:∀ (i:Nat) (x y:bR),r[i]?=some x->r[i+1]?=some y->bI x y=true):kU r=true:=by
 refine List.all_eq_true.mpr λ b hb=>?_
 obtain ⟨i,hi⟩:=List.getElem?_of_mem hb
 have hl:=(List.getElem?_eq_some_iff.mp hi).1
 rw [am2,amg] at hl
 have g:=qR (aE (show i<r.length by lia)) (aE (show i+1<r.length by lia))
 rw [g] at hi
 cases hi
 exact h i _ _ (aE (by lia)) (aE (by lia))
theorem JM {s:yD} (ok:s.Ok) {r:R7} (hr:r.Ok):kU (r.marks.map λ x=>dh x s)=true:=by
 refine Cm λ i x y hx hy=>?_
 rw [aat] at hx hy
 cases e1:r.marks[i]? with
 | none=>rw [e1] at hx;cases hx
 | some a =>
   cases e2:r.marks[i+1]? with
   | none=>rw [e2] at hy;cases hy
   | some b =>
     rw [e1] at hx
     rw [e2] at hy
     cases hx
     cases hy
     have h1:=hr.bd a (aaK e1)
     have h2:=hr.bd b (aaK e2)
     rw [wP ok (by lia) (by lia)]
     exact adD (hr.rise i a b e1 e2)
theorem No {k:Int} (h0:0<=k) (h3:k<=3):Qr (nf k 12):=by
 unfold Qr
 rw [Aj (by decide)]
 have a:(0:Rat)<=(k:Rat):=by exact_mod_cast h0
 have b:(k:Rat)<=3:=by exact_mod_cast h3
 have e:((12:Int):Rat)=12:=rfl
 rw [e]
 constructor<;>grind
theorem Y7 {k b:Int} (hb:0<b) (bb:b.natAbs<=10 ^ 25) (hk:k.natAbs<=10 ^ 25):eT 100 (nf k b):=by
 have F:=kj (t:=k) hb
 exact ⟨F.PB (show Int.natAbs _<2 ^ 100 by lia),F.Sw (show Int.natAbs _<2 ^ 100 by lia),F.pos⟩
theorem Jy {k b:Int} (hb:0<b) (hk:0<=k):0<=(nf k b).1:=Ov.nonneg hb (Ov.nf hb) hk
set_option maxHeartbeats 0 in
theorem xp (T:Txt K mg Ad):Def P w K mg base "_law_hold" 7 ["_law_rooms_here","_law_scale_here","_law_bounds","_law_flows"] (CD K Ad.aQ):=by
 refine T.yO.cS eF λ f bA A outer s H vs Q E hr h=>?_
 obtain ⟨pr,xs,rs,yB,sc,pb,b0,b1,b2,fl,rfl,mO,dr,n1,n4,u5,Rl,zP,D0,MT,De,Ig,k⟩:=h
 refine ⟨_,(ag (aD (i:=4) eF.nd rfl (lc rfl) (yt T.A2 (hC (K:=K) T) hr.m T.FE (aa (aB aw (pv 2) ai (λ _ _=>rfl)) (aa (aB aw (pv 2) ai (λ _ _=>rfl)) (aa (aB aw (pv 2) ai (λ _ _=>rfl)) ac)))))
     (ag (cL adG rfl (bK (pv 0)) (aA (i:=5) eF.nd rfl (lc rfl)) (am (aW (aK (pv 4) T.az (nZ (K:=K) T) .nil hr.m (aa (fM ["_law_mark"] ["_law_scale_here"] [1] (.cons ⟨rfl,rfl,.inl rfl⟩ .nil) rfl (bK (aB aw (pv 5) ai (λ _ _=>rfl))) (λ _ _ _ _ _=>(aA (i:=0) (show (["_law_mark","_law_scale_here"]:List Str).Nodup by decide +kernel) rfl (lc rfl))) (λ _ _ _ _ _=>cr) (λ _ _ _ _ _=>(ar (kA (K:=K) T) hr.m (aa (pv 0) (aa (pv 1) ac)))) rfl (by decide +kernel) (by decide +kernel) (by decide +kernel)) ac)))))
     (ag (cL adG rfl (cH rfl T.eW (aa (aS bx (by rfl) T.fm c8 (aa (pv 0) ac)) ac)) (aA (i:=6) eF.nd rfl (lc rfl)) (ag (aD (i:=7) eF.nd rfl (lc rfl) (ar (iU (K:=K) T) hr.m (aa (aB aw (aB aw (pv 0) (pv 6) (λ _ _=>rfl)) ai (λ _ _=>rfl)) (aa ai ac))))
     (ag (aW (aK (pv 4) T.az (oi (K:=K) T) .nil hr.m (aa (pv 6) (aa (pv 7) (aa (ar (kA (K:=K) T) hr.m (aa (aB aw (aB aw (pv 0) (pv 6) (λ _ _=>rfl)) ai (λ _ _=>rfl)) (aa (pv 1) ac))) (aa (ar (kA (K:=K) T) hr.m (aa (aB aw (aB aw (pv 0) (pv 6) (λ _ _=>rfl)) ai (λ _ _=>rfl)) (aa (pv 1) ac))) ac))))))
     (ag (aD (i:=8) eF.nd rfl (lc rfl) (aB aw (aB aw (pv 0) (pv 6) (λ _ _=>rfl)) ai (λ _ _=>rfl)))
     (ag (jC (bv (aO lG (pv 8) cy (aM _)) (am (aW (Ey (pv 4) T.az (j3 (K:=K) T) hr.m (aa (pv 6) (aa (ar (iU (K:=K) T) hr.m (aa (av bw (aB aw (pv 8) ai (λ _ _=>rfl)) (aB aw (pv 1) ai (λ _ _=>rfl))) (aa (aB aw (pv 1) ai (λ _ _=>rfl)) ac))) (aa (aB aw (pv 8) ai (λ _ _=>rfl)) (aa (aB aw (pv 8) ai (λ _ _=>rfl)) (aa (aB aw (pv 8) ai (λ _ _=>rfl)) ac)))))))) aJ))
     (am (cL adG rfl (cH rfl T.eW (aa (aS bx (by rfl) T.fm c8 (aa (pv 0) ac)) ac)) (aA (i:=9) eF.nd rfl (lc rfl)) (am (bv (aO sD (pv 9) (pv 6) (aM _)) (am (aW (aK (pv 4) T.az (nN (K:=K) T) .nil hr.m (aa (pv 6) (aa (pv 9) (aa (ar (iU (K:=K) T) hr.m (aa (av aX (av bN (pv 3) (aB aw (cx (aa ai (aa ai (aa ai (aa ai ac))))) (pv 9) (λ _ _=>rfl))) ai) (aa ai ac))) ac)))))) aJ)))))))))
     (am (aF (pv 4)))))),?_⟩
 try dsimp only [eL,aU]
 first|(refine eI ?_;intro _ _ _ _ _)|skip
 have lx:xs.length=rs.length:=by rw [dr.length,zN]
 refine ⟨_,rfl,pb,_,_,_,rfl,rfl,.inr D0,rfl,_,rfl,pb,_,_,_,rfl,rfl,.inr D0,rfl,_,rfl,pb,_,_,_,rfl,rfl,.inr D0,rfl,λ a Bv fa My Uu=>?_⟩
 have s0:aC H (upd (upd H Bv (.own a)) a (.ins Ad.aQ Bv [])):=λ c o hc=>by
   rw [aq (au hc fa),aq (au hc My)]
   exact hc
 refine ⟨a,Bv,b0,b1,b2,rfl,af,by rw [aq Uu];exact af,MT,De,Ig,λ H1 Uy D1=>⟨rfl,?_⟩⟩
 obtain ⟨S1,F1⟩:=D1.keep s0 (λ c hc=>by
   simp only [aa1,aaI,afj] at hc
   rcases hc with rfl|rfl
   . exact fa
   . exact My)
 refine ⟨_,rfl,pr,rfl,⟨_,S1.seq mO⟩,?_⟩
 refine fL (xs:=xs) (λ i U H'=>A3 (aC H H') (E2 λ fp m=>A6 (aL K Ad.aQ H' a fp m) (∀ c∈fp,H c=none) (m.rows.length=i) (QH m) (d6 m) (pF rs b0 b1 b2 0 m)) (∃ x5,U=[some (.ref pr),some (.ref yB),some (.ref pb),some (.int fl),some (.ref a),x5,none,none,none,none]))
   ⟨S1,⟨Uy,_,D1.at_,F1,rfl,QH.new,⟨nofun,nofun,nofun,⟨MT,De,Ig⟩⟩,pF.new⟩,none,rfl⟩ (λ i U H' _ e=>e.1.seq mO) ?_ ?_
 .
  rintro _ i x U H2 hx ⟨S2,⟨TY,m2,h2,F2,l2,q2,TW,lk2⟩,x5,rfl⟩
  have hi:i<rs.length:=by rw [← lx];exact (List.getElem?_eq_some_iff.mp hx).1
  obtain ⟨v,ev,dv⟩:=dr.get (i:=i) (d:=JX rs[i]) (by rw [aat,aE hi];rfl)
  obtain rfl:x=v:=abG (hx.symm.trans ev)
  obtain ⟨pq,pm,sv,rfl,hq,hm,_⟩:=zJ dv
  have iE:=u5 rs[i] (acx hi)
  have Dk:=Mq hi
  generalize rs[i]=r at hq hm iE dv Dk
  obtain ⟨⟨dxo,_,_,_,_,_,_,_,_,_,Xy,_⟩,_,_,_,w2⟩:=id h2
  refine ⟨_,rfl,a,dxo,_,rfl,Xy,rfl,_,rfl,pq,_,_,_,rfl,rfl,.inr (S2.tup hq),rfl,pm,rfl,⟨_,S2.seq hm⟩,λ Dl hD=>?_⟩
  refine cu (K:=K) (a:=pm) (xs:=r.marks.map V.int) (λ j acc U H3=>A4 (aC H2 H3) (H3 Dl=some (.lst acc)) (bi K H3 ((r.marks.take j).map λ x=>dS (dh x sc)) acc) (∃ v,U=[v,some (.ref yB)]))
    ⟨ak hD,af,eK,none,rfl⟩ (λ j acc U H3 _ e=>(S2.trans e.1).seq hm) ?_ ?_
  .
   rintro j y acc U H3 hy ⟨s3,jm,d3,v,rfl⟩
   obtain ⟨z,ez,rfl⟩:∃ z,r.marks[j]?=some z/\V.int z=y:=by
     rw [aat] at hy
     cases e:r.marks[j]? with
     | none=>rw [e] at hy;cases hy
     | some r=>rw [e] at hy;cases hy;exact ⟨r,rfl,rfl⟩
   have hz:=iE.bd z (aaK ez)
   have hjl:=(List.getElem?_eq_some_iff.mp ez).1
   have la:acc.length=j:=by rw [d3.length,zN,adS];lia
   refine ⟨_,rfl,_,rfl,z,yB,sc,rfl,(S2.trans s3).tup Rl,zP,by lia,λ q H4 s4 h4=>?_⟩
   have UM:aI K H4 (upd H4 Dl (.lst (acc++[.ref q]))):=bH (s4 _ _ jm) rfl
   refine ⟨s4 _ _ jm,aT (by have:=iE.len;lia),(s3.trans s4).put hD,af,?_,_,rfl⟩
   rw [alu,ez,aaN]
   exact (bi.ts ((aC.ts s4).trans UM) _ (nP _ _) d3).snoc (Dn.ts UM _ (hZ _) (lP (bO.of h4)))
  .
   rintro acc U H3 ⟨s3,jm,d3,v,rfl⟩
   rw [zN,adc] at d3
   have lr:(r.marks.map λ x=>dh x sc).length=r.marks.length:=zN ..
   have d3':bi K H3 ((r.marks.map λ x=>dh x sc).map dS) acc:=by rw [ak5];exact d3
   have ol:=iE.len
   refine ⟨a,TY,m2,Dl,acc,r.marks.map λ x=>dh x sc,rfl,h2.same s3,by lia,aR.of jm,d3',λ f hf=>?_,by lia,by lia,JM zP iE,Ej (λ y hy=>?_) (by rw [aaE,acG];lia),λ H4 fp4 D4=>?_⟩
   . obtain ⟨z,hz,rfl⟩:=List.mem_map.mp hf
     have:=iE.bd z hz
     exact kK zP (by lia)
   . rcases List.mem_append.mp hy with hy|hy
     . exact ⟨(w2.len y hy).1,(TW.rise y hy).2⟩
     . rw [List.mem_singleton.mp hy,lr];exact ol
   . obtain ⟨S4,F4⟩:=D4.keep (S2.trans s3) F2
     exact ⟨S4,⟨fp4,_,D4.at_,F4,by show (m2.rows++[_]).length=_;rw [aaE,l2];rfl,q2.dY,TW.dY (JM zP iE) (by lia),lk2.dY (by rw [l2];exact Dk) lr⟩,_,rfl⟩
 rintro U H2 ⟨S2,⟨TY,m2,h2,F2,l2,q2,TW,lk2⟩,x5,rfl⟩
 refine ⟨_,rfl,pr,_,rfl,.inl (S2.seq mO),λ n en=>⟨_,rfl,by lia,by lia,?_⟩⟩
 rw [lx] at en l2
 subst en
 refine gu (lo:=0) (n:=rs.length) (λ i U H'=>A3 (aC H H') (E2 λ fp m=>A6 (aL K Ad.aQ H' a fp m) (∀ c∈fp,H c=none) (m.rows.length=rs.length) (QH m) (d6 m) (pF rs b0 b1 b2 i m)) (E4 λ x6 x7 x8 x9=>U=[some (.ref pr),some (.ref yB),some (.ref pb),some (.int fl),some (.ref a),x5,x6,x7,x8,x9]))
   ⟨S2,⟨TY,m2,h2,F2,l2,q2,TW,lk2⟩,none,none,none,none,rfl⟩ ?_ ?_
 .
  rintro _ i U H3 hi ⟨S3,⟨UF,m3,h3,F3,l3,q3,W3,Wz⟩,x6,x7,x8,x9,rfl⟩
  obtain ⟨v,ev,dv⟩:=dr.get (i:=i) (d:=JX rs[i]) (by rw [aat,aE hi];rfl)
  obtain ⟨pq,pm,sv,rfl,hq,hm,dst⟩:=zJ dv
  have iE:=u5 rs[i] (acx hi)
  have Dk:=Mq hi
  generalize rs[i]=r at hq hm iE dv dst Dk
  have Km:ud xs (0+(i:Int))=some (.ref pq):=by rw [af8];exact gO ev
  obtain ⟨⟨dxo,_,_,_,_,_,_,_,_,_,Xy,_⟩,k1,k2,k3,w3⟩:=id h3
  have osh:=iE.sh
  refine ⟨_,rfl,_,rfl,pr,_,_,_,rfl,rfl,.inl (S3.seq mO),Km,pq,_,_,_,rfl,rfl,.inr (S3.tup hq),rfl,_,_,rfl,by decide,mR,λ q r' u H4 F s4 hu=>?_⟩
  have e4:=Ez (K:=K) (by decide) F hu
  have S4:=S3.trans s4
  refine ⟨_,rfl,a,dxo,_,rfl,s4 _ _ Xy,rfl,_,rfl,_,rfl,_,rfl,_,rfl,pr,_,_,_,rfl,rfl,.inl (S4.seq mO),Km,pq,_,_,_,rfl,rfl,.inr (S4.tup hq),rfl,_,rfl,r.low,yB,sc,rfl,S4.tup Rl,zP,by have:=iE.lb;lia,λ q5 H5 s5 h5=>?_⟩
  have S5:=S4.trans s5
  refine ⟨_,rfl,_,rfl,pr,_,_,_,rfl,rfl,.inl (S5.seq mO),Km,pq,_,_,_,rfl,rfl,.inr (S5.tup hq),rfl,_,rfl,r.high,yB,sc,rfl,S5.tup Rl,zP,by have:=iE.hb;lia,λ q6 H6 s6 h6=>?_⟩
  have S6:=S5.trans s6
  have So:bI (dh r.high sc) (dh r.low sc)=false:=by
    rw [wP zP (by have:=iE.hb;lia) (by have:=iE.lb;lia)]
    exact ac7 (by have:=iE.lo;lia)
  have o12:eT 100 (nf r.share 12):=Y7 (by decide) (by decide) (by lia)
  have YU:=No (show 0<=r.share by lia) (by lia)
  refine ⟨a,UF,m3,i,.ref u,.ref q5,.ref q6,nf r.share 12,dh r.low sc,dh r.high sc,by rw [af8];rfl,h3.same ((s4.trans s5).trans s6),by lia,Dn.same (s5.trans s6) _ e4,Dn.same s6 _ (lP (bO.of h5)),lP (bO.of h6),o12,kK zP (by have:=iE.lb;lia),kK zP (by have:=iE.hb;lia),So,(Jq o12.p).mp YU.1,q3.IM w3 k3 (by lia) o12.p YU.2,λ H7 fp7 D7=>?_⟩
  obtain ⟨S7,F7⟩:=D7.keep S6 F3
  have qh7:=q3.fI (i:=i) (z:=(nf r.share 12,dh r.low sc,dh r.high sc)) (by lia) YU
  have lk7:=Wz.fI (i:=i) (z:=(nf r.share 12,dh r.low sc,dh r.high sc))
  have pk7:=W3.fI (i:=i) (z:=(nf r.share 12,dh r.low sc,dh r.high sc)) So
  refine ⟨_,rfl,_,rfl,pr,_,_,_,rfl,rfl,.inl (S7.seq mO),Km,pq,_,_,_,rfl,rfl,.inr (S7.tup hq),rfl,?_⟩
  refine ⟨λ σ' H'=>A3 (aC H H') (E2 λ fp m=>A6 (aL K Ad.aQ H' a fp m) (∀ c∈fp,H c=none) (m.rows.length=rs.length) (QH m) (d6 m) (pF rs b0 b1 b2 (i+1) m)) (E2 λ x7 x8=>σ'=[some (.ref pr),some (.ref yB),some (.ref pb),some (.int fl),some (.ref a),x5,some (.int (0+(i:Int))),x7,x8,x9]),?_,?_⟩
  .
   refine ⟨_,rfl,rfl,_,rfl,?_⟩
   cases i9:r.cp with
   | none =>
     rw [i9] at dst
     have dst:sv = .cf:=dst
     subst dst
     exact eZ rfl ⟨S7,⟨fp7,_,D7.at_,F7,l3,qh7,pk7,lk7.skip Dk i9⟩,_,_,rfl⟩
   | some z =>
     rw [i9] at dst
     obtain ⟨pz,rfl,AD⟩:=Bg dst
     obtain ⟨z1,z2,z3,z4⟩:=iE.st z i9
     refine BA (λ _=>?_) (λ q=>nomatch q)
     obtain ⟨⟨dx7,_,_,_,_,_,_,_,_,_,ha7,_⟩,_⟩:=id D7.at_
     have oa:=zP.a
     have ob:=zP.b
     refine ⟨_,rfl,a,dx7,_,rfl,ha7,rfl,_,rfl,_,rfl,pz,_,_,_,rfl,rfl,.inr (S7.tup AD),rfl,_,rfl,yB,_,_,_,rfl,rfl,.inr (S7.tup Rl),rfl,_,_,rfl,rfl,⟨10,40,(show Int.natAbs _<2 ^ 10 by lia),(show Int.natAbs _<2 ^ 40 by lia),by decide⟩,λ y ey=>?_⟩
     refine ⟨_,rfl,yB,_,_,_,rfl,rfl,.inr (S7.tup Rl),rfl,_,_,rfl,by lia,(show Bd 40 sc.b from (show sc.b.natAbs<2 ^ 40 by lia)).mono (by decide),λ q r' u8 H8 F8 s8 hu8=>?_⟩
     have e8:=Ez (K:=K) (by lia) F8 hu8
     have S8:=S7.trans s8
     have hy:0<=y/\y.natAbs<=10 ^ 12:=by
       rw [ey]
       refine ⟨akS z1.1 (by lia),?_⟩
       have:=wE (x:=100) (y:=10 ^ 9) (a:=z.1) (b:=sc.a) (by lia) (by lia)
       lia
     have o8:eT 100 (nf y sc.b):=Y7 (by lia) (by lia) (by lia)
     refine ⟨_,rfl,pz,_,_,_,rfl,rfl,.inr (S8.tup AD),rfl,_,rfl,pz,_,_,_,rfl,rfl,.inr (S8.tup AD),rfl,_,rfl,pz,_,_,_,rfl,rfl,.inr (S8.tup AD),rfl,a,fp7,_,i,.ref u8,nf y sc.b,z.2.1,z.2.2.1,z.2.2.2,by rw [af8];rfl,D7.at_.same s8,by show i<m3.rows.length;lia,e8,o8,Jy (by lia) hy.1,z2,z3,z4,λ H9 Uk D9=>?_⟩
     obtain ⟨S9,F9⟩:=D9.keep S8 F7
     exact ⟨S9,⟨Uk,_,D9.at_,F9,l3,qh7.dD,pk7.dD (z:=(nf y sc.b,z.2.1,z.2.2.1,z.2.2.2)) ⟨Jy (by lia) hy.1,z2,z3,z4⟩,lk7.dD (by have:=D7.at_.st;have e7:(m3.fI i (nf r.share 12,dh r.low sc,dh r.high sc)).rows.length=m3.rows.length:=rfl;lia) Dk i9 rfl⟩,_,_,rfl⟩
  rintro σ' H8 ⟨S8,⟨fp8,m8,h8,F8,l8,q8,pk8,lk8⟩,x7',x8',rfl⟩
  refine ⟨_,rfl,pr,_,rfl,.inl (S8.seq mO),λ n en=>⟨_,rfl,by lia,by lia,?_⟩⟩
  rw [lx] at en
  subst en
  refine gu (lo:=0) (n:=rs.length) (λ j U H'=>A3 (aC H H') (E2 λ fp m=>A6 (aL K Ad.aQ H' a fp m) (∀ c∈fp,H c=none) (m.rows.length=rs.length) (QH m) (d6 m) (pF rs b0 b1 b2 (i+1) m)) (∃ x9,U=[some (.ref pr),some (.ref yB),some (.ref pb),some (.int fl),some (.ref a),x5,some (.int (0+(i:Int))),x7',x8',x9]))
    ⟨S8,⟨fp8,m8,h8,F8,l8,q8,pk8,lk8⟩,_,rfl⟩ ?_ ?_
  .
   rintro _ j U H9 hj ⟨S9,⟨Uk,m9,h9,F9,l9,q9,pk9,lk9⟩,x9',rfl⟩
   refine ⟨_,rfl,_,rfl,rfl,_,rfl,BA (λ ne=>?_) (λ _=>⟨S9,⟨Uk,m9,h9,F9,l9,q9,pk9,lk9⟩,_,rfl⟩)⟩
   have Bo:i≠j:=λ z=>ne (by rw [z])
   obtain ⟨⟨dx9,_,_,_,_,_,_,_,_,_,ha9,_⟩,o1,o2,o3,w9⟩:=id h9
   refine ⟨_,rfl,a,dx9,_,rfl,ha9,rfl,_,rfl,_,rfl,_,rfl,Lv,λ p4 hp4=>⟨_,rfl,?_⟩⟩
   have sN:=ak (o:=.lst [.int 1,.int 4,.int 16,.int 64]) hp4
   have hat:∃ g:Int,ud [V.int 1,V.int 4,V.int 16,V.int 64] (0+(j:Int))=some (.int g)/\1<=g/\g<=64:=by
     rw [af8]
     have hj4:j<4:=by lia
     match j,hj4 with
     | 0,_=>exact ⟨1,bF rfl,by decide,by decide⟩
     | 1,_=>exact ⟨4,bF rfl,by decide,by decide⟩
     | 2,_=>exact ⟨16,bF rfl,by decide,by decide⟩
     | 3,_=>exact ⟨64,bF rfl,by decide,by decide⟩
   obtain ⟨g,hg,g1,g2⟩:=hat
   refine ⟨p4,_,_,_,rfl,rfl,.inl (aR.of af),hg,_,_,rfl,rfl,⟨by lia,(show Bd 10 g from (show g.natAbs<2 ^ 10 by lia)).mono (by decide)⟩,λ y ey=>⟨_,_,rfl,rfl,by decide,λ q q0 q1 _=>?_⟩⟩
   refine ⟨_,_,rfl,by decide,mR,λ qq r' u u7 F11 yA hu=>?_⟩
   have e11:=Ez (K:=K) (by decide) F11 hu
   have LJ:=No q0 (by lia)
   have Kt:eT 100 (nf q 12):=Y7 (by decide) (by decide) (by lia)
   have Dc:=sN.trans yA
   refine ⟨a,Uk,m9,i,j,.ref u,nf q 12,by rw [af8,af8];rfl,h9.same Dc,by lia,by lia,Bo,e11,Kt,(Jq Kt.p).mp LJ.1,q9.Dw w9 o3 (by lia) (by lia) Bo Kt.p LJ.2,λ Jv aip D13=>?_⟩
   obtain ⟨S13,F13⟩:=D13.keep (S9.trans Dc) F9
   exact ⟨S13,⟨aip,_,D13.at_,F13,l9,q9.dH Bo LJ,pk9.dH,lk9.dH⟩,_,rfl⟩
  . rintro U H9 ⟨S9,hx9,x9',rfl⟩
    exact ⟨S9,hx9,_,_,_,_,rfl⟩
 . rintro U H3 ⟨S3,⟨UF,m3,h3,F3,l3,q3,W3,Wz⟩,x6,x7,x8,x9,rfl⟩
   exact ⟨_,rfl,k a UF m3 H3 S3 h3 F3 l3 q3 W3 Wz⟩
set_option maxHeartbeats 0 in
theorem vA (T:Txt K mg Ad):Def P w K mg base "_law_state" 2 ["_law_rooms_here","_law_bounds","_law_cell","_law_k"] (zl K):=by
 refine T.yq.cS bS λ f bA A outer s H vs Q E hr h=>?_
 obtain ⟨pr,xs,rs,pbo,b0,b1,b2,c,kk,rfl,mO,dr,n1,n4,u5,D0,MT,De,k0,k1,k⟩:=h
 refine ⟨_,(ag (aD (i:=4) bS.nd rfl (lc rfl) (cx ac))
     (ag (aD (i:=5) bS.nd rfl (lc rfl) (cx ac))
     (ag (aD (i:=6) bS.nd rfl (lc rfl) (cx ac))
     (ag (aD (i:=7) bS.nd rfl (lc rfl) ai)
     (ag (aD (i:=8) bS.nd rfl (lc rfl) ai)
     (ag (cL adG rfl (cH rfl T.eW (aa (aS bx (by rfl) T.fm c8 (aa (pv 0) ac)) ac)) (aA (i:=9) bS.nd rfl (lc rfl)) (ag (aD (i:=10) bS.nd rfl (lc rfl) (aB aw (aB aw (pv 0) (pv 9) (λ _ _=>rfl)) ai (λ _ _=>rfl)))
     (ag (aW (gJ ads adL adH bX (pv 4) (aa (av aX (ar (bJ (K:=K) T) hr.m (aa (pv 2) (aa (av aY (pv 3) (pv 9)) (aa ai ac)))) (av dX (aS bx (by rfl) T.fm c8 (aa (aB aw (aB aw (pv 0) (pv 9) (λ _ _=>rfl)) ai (λ _ _=>rfl)) ac)) ai)) ac)))
     (ag (aW (gJ ads adL adH bX (pv 5) (aa ai ac)))
     (ag (aW (gJ ads adL adH bX (pv 6) (aa ai ac)))
     (ag (aD (i:=11) bS.nd rfl (lc rfl) (ar (bJ (K:=K) T) hr.m (aa (pv 2) (aa (av aY (pv 3) (av bw ai (pv 9))) (aa ai ac)))))
     (am (bv (PW.pt (uL (aO lG (pv 10) cy (aM _)) (qE (aO ky (av aX (pv 11) ai) ai (aM _))))) (ag (iy (av aX (av bN (pv 11) ai) (av aY (aB aw (pv 10) ai (λ _ _=>rfl)) ai)) (oO (pv 5) (pv 9) set_list))
     (am (bv (PW.pt (uL (aO fc (av aX (pv 11) ai) ai (aM _)) (qE (aO ky (pv 8) (aB aw (pv 1) ai (λ _ _=>rfl)) (aM _))))) (ag (aD (i:=7) bS.nd rfl (lc rfl) (av aY (pv 7) (aB aw (cx (aa ai (aa ai (aa ai (aa ai ac))))) (pv 9) (λ _ _=>rfl))))
     (am (aD (i:=8) bS.nd rfl (lc rfl) (av aY (pv 8) ai)))) aJ))) (am (bv (aO lG (pv 10) cy (aM _)) (am (iy (av aX (av bN (pv 11) ai) (av aY (aB aw (pv 10) ai (λ _ _=>rfl)) ai)) (oO (pv 6) (pv 9) set_list))) aJ))))))))))
     (am (aF (cm (aa (cb dQ (by rfl) T.lE i8 (aa (pv 4) ac)) (aa (pv 7) (aa (cb dQ (by rfl) T.lE i8 (aa (pv 5) ac)) (aa (cb dQ (by rfl) T.lE i8 (aa (pv 6) ac)) (aa (av aX (ar (bJ (K:=K) T) hr.m (aa (pv 2) (aa (pv 3) (aa ai ac)))) (av aY (aB aw (pv 1) ai (λ _ _=>rfl)) ai)) ac)))))))))))))),?_⟩
 try dsimp only [eL,aU]
 first|(refine Dm ?_;intro _ _ _ _ _ _ _ _)|skip
 have lx:xs.length=rs.length:=by rw [dr.length,zN]
 refine ⟨Do,λ pb hb=>⟨Do,λ pw hw=>⟨Do,λ pf hf=>?_⟩⟩⟩
 have sb:=ak (o:=.lst []) hb
 have sw:=ak (o:=.lst []) hw
 have sf:=ak (o:=.lst []) hf
 have ebb:=(sw.trans sf) _ _ (af (H:=H) (a:=pb) (o:=.lst []))
 have eww:=sf _ _ (af (H:=upd H pb (.lst [])) (a:=pw) (o:=.lst []))
 have Uc:pb≠pw:=λ z=>by rw [← z,af] at hw;cases hw
 have U1:pb≠pf:=λ z=>by rw [← z] at hf;rw [sw _ _ af] at hf;cases hf
 have Nd:pw≠pf:=λ z=>by rw [← z,af] at hf;cases hf
 have eff:(upd (upd (upd H pb (.lst [])) pw (.lst [])) pf (.lst [])) pf=some (.lst []):=af
 have S0:=(sb.trans sw).trans sf
 have hwH:H pw=none:=sb.free hw
 have hfH:H pf=none:=(sb.trans sw).free hf
 generalize upd (upd (upd H pb (.lst [])) pw (.lst [])) pf (.lst [])=H0 at ebb eww eff S0 ⊢
 refine ⟨_,rfl,pr,_,rfl,.inl (S0.seq mO),λ n en=>⟨_,rfl,by lia,by lia,?_⟩⟩
 rw [lx] at en
 subst en
 refine gu (lo:=0) (n:=rs.length) (λ i U H'=>aC H H'/\E4 λ (bs ws fs:List Nat) (bu:Nat)=>A5 (H' pb=some (.lst (bs.map al))) (H' pw=some (.lst (ws.map al))) (H' pf=some (.lst (fs.map al))) (lX rs b0 i bs ws fs bu) (E3 λ (x9 JE J1:Option V)=>U=[some (.ref pr),some (.ref pbo),some (.int c),some (.int kk),some (.ref pb),some (.ref pw),some (.ref pf),some (al bu),some (al (Bit.rooms bu).length),x9,JE,J1]))
   ⟨S0,[],[],[],0,ebb,eww,eff,lX.zero MT,none,none,none,rfl⟩ ?_ ?_
 .
  rintro _ i U H1 hi ⟨S1,bs,ws,fs,bu,L0,h1w,Vc,pt,x9,JE,J1,rfl⟩
  obtain ⟨v,ev,dv⟩:=dr.get (i:=i) (d:=JX rs[i]) (by rw [aat,aE hi];rfl)
  obtain ⟨pq,pm,sv,rfl,hq,hm,dst⟩:=zJ dv
  have iE:=u5 rs[i] (acx hi)
  have Dk:=Mq hi
  generalize rs[i]=r at hq hm iE dv dst Dk
  have lb:=pt.lb
  have lw:=pt.lw
  have lf:=pt.lf
  have UL:i<61:=by lia
  have Km:ud xs (0+(i:Int))=some (.ref pq):=by rw [af8];exact gO ev
  have ol:=iE.len
  refine ⟨_,rfl,_,rfl,pr,_,_,_,rfl,rfl,.inl (S1.seq mO),Km,pq,_,_,_,rfl,rfl,.inr (S1.tup hq),rfl,?_⟩
  refine ⟨_,rfl,.inl ⟨rfl,_,aR.of L0⟩,_,rfl,_,rfl,_,rfl,_,_,rfl,rfl,λ y1 e1=>⟨c,y1,0,rfl,by lia,by lia,by decide,by decide,λ H2 r2 s2 _ _=>?_⟩⟩
  have S2:=S1.trans s2
  refine ⟨_,rfl,_,rfl,pr,_,_,_,rfl,rfl,.inl (S2.seq mO),Km,pq,_,_,_,rfl,rfl,.inr (S2.tup hq),rfl,pm,_,rfl,.inl (S2.seq hm),λ y2 e2=>⟨_,_,rfl,rfl,λ y3 e3=>⟨_,_,rfl,rfl,by rw [zN] at e2;lia,λ q q0 q1 _=>?_⟩⟩⟩
  obtain ⟨q,rfl⟩:∃ x:Nat,q=(x:Int):=⟨q.toNat,by lia⟩
  have Uh:q+1<r.marks.length:=by rw [zN] at e2;lia
  have h2b:=s2 _ _ L0
  have h2w:=s2 _ _ h1w
  have h2f:=s2 _ _ Vc
  refine ⟨pb,_,_,rfl,rfl,h2b,aT (by rw [zN];lia),?_⟩
  refine ⟨_,rfl,.inl ⟨rfl,_,aR.of (by rw [aq Uc.symm];exact h2w)⟩,pw,_,_,rfl,rfl,by rw [aq Uc.symm];exact h2w,aT (by rw [zN];lia),?_⟩
  refine ⟨_,rfl,.inl ⟨rfl,_,aR.of (by rw [aq Nd.symm,aq U1.symm];exact h2f)⟩,pf,_,_,rfl,rfl,by rw [aq Nd.symm,aq U1.symm];exact h2f,aT (by rw [zN];lia),?_⟩
  have S3:aC H (upd (upd (upd H2 pb (.lst (bs.map al++[.int (q:Int)]))) pw (.lst (ws.map al++[.int 0]))) pf (.lst (fs.map al++[.int 0]))):=((S2.put hb).put hwH).put hfH
  have e3b:(upd (upd (upd H2 pb (.lst (bs.map al++[.int (q:Int)]))) pw (.lst (ws.map al++[.int 0]))) pf (.lst (fs.map al++[.int 0]))) pb=some (.lst ((bs++[q]).map al)):=by rw [aq U1,aq Uc,af,aaN];rfl
  have e3w:(upd (upd (upd H2 pb (.lst (bs.map al++[.int (q:Int)]))) pw (.lst (ws.map al++[.int 0]))) pf (.lst (fs.map al++[.int 0]))) pw=some (.lst ((ws++[0]).map al)):=by rw [aq Nd,af,aaN];rfl
  have e3f:(upd (upd (upd H2 pb (.lst (bs.map al++[.int (q:Int)]))) pw (.lst (ws.map al++[.int 0]))) pf (.lst (fs.map al++[.int 0]))) pf=some (.lst ((fs++[0]).map al)):=by rw [af,aaN];rfl
  generalize upd (upd (upd H2 pb (.lst (bs.map al++[.int (q:Int)]))) pw (.lst (ws.map al++[.int 0]))) pf (.lst (fs.map al++[.int 0]))=H3 at S3 e3b e3w e3f ⊢
  refine ⟨_,rfl,_,rfl,_,rfl,_,_,rfl,rfl,⟨3,5,mR,(show Int.natAbs _<2 ^ 5 by lia),by decide⟩,λ y4 e4=>⟨_,_,rfl,rfl,λ y5 e5=>?_⟩⟩
  have e4:y4=7 * (0+(i:Int)):=e4
  refine ⟨c,y5,1,rfl,by lia,by lia,by decide,by decide,λ H4 xv s4 xv0 _=>?_⟩
  have S4:=S3.trans s4
  have e4b:=s4 _ _ e3b
  have W6:=s4 _ _ e3w
  have e4f:=s4 _ _ e3f
  have sl:∀ {l:List Nat} {a b:Nat},l.length=i->(l++[a]).set i b=l++[b]:=λ {l a b} e=>by subst e;simp
  cases i9:r.cp with
  | none =>
    rw [i9] at dst
    have dst:sv = .cf:=dst
    subst dst
    exact ⟨_,rfl,rfl,_,rfl,eZ rfl ⟨_,rfl,rfl,_,rfl,eZ rfl ⟨S4,_,_,_,bu,e4b,W6,e4f,(pt.next (w:=0) (f:=0) (lit:=false) UL Dk Uh (by rw [i9];exact ⟨rfl,rfl,rfl⟩) nofun).1,_,_,_,rfl⟩⟩⟩
  | some z =>
    rw [i9] at dst
    obtain ⟨pz,rfl,AD⟩:=Bg dst
    obtain ⟨z1,z2,z3,z4⟩:=iE.st z i9
    have Ri:=S4.tup AD
    refine ⟨_,rfl,rfl,_,rfl,BA (λ _=>?_) (λ q=>nomatch q)⟩
    refine ⟨_,rfl,_,_,rfl,rfl,by decide,λ m4 m40 m41 em4=>⟨_,_,rfl,rfl,_,rfl,ji (λ _=>?_) (λ _=>?_)⟩⟩
    .
     refine ⟨_,rfl,_,_,rfl,rfl,⟨by decide,mR⟩,λ y6 _=>⟨_,rfl,pz,_,_,_,rfl,rfl,.inr Ri,rfl,_,_,rfl,rfl,λ y7 e7=>⟨_,_,rfl,rfl,by lia,λ wv wv0 wv1 _=>?_⟩⟩⟩
     obtain ⟨wv,rfl⟩:∃ x:Nat,wv=(x:Int):=⟨wv.toNat,by lia⟩
     have Uf:(wv:Int)<=z.2.2.1:=by lia
     refine ⟨_,rfl,_,rfl,pw,_,_,i,rfl,rfl,W6,(by rw [af8];exact jK (by rw [zN,aaE];show i<ws.length+1;lia)),?_⟩
     have S5:aC H (upd H4 pw (.lst (((ws++[0]).map al).set i (.int (wv:Int))))):=S4.put hwH
     have U5:(upd H4 pw (.lst (((ws++[0]).map al).set i (.int (wv:Int))))) pw=some (.lst ((ws++[wv]).map al)):=by rw [af,show V.int (wv:Int)=al wv from rfl,← amd,sl lw]
     have TL:(upd H4 pw (.lst (((ws++[0]).map al).set i (.int (wv:Int))))) pb=some (.lst ((bs++[q]).map al)):=by rw [aq Uc];exact e4b
     have MH:(upd H4 pw (.lst (((ws++[0]).map al).set i (.int (wv:Int))))) pf=some (.lst ((fs++[0]).map al)):=by rw [aq Nd.symm];exact e4f
     generalize upd H4 pw (.lst (((ws++[0]).map al).set i (.int (wv:Int))))=H5 at S5 U5 TL MH ⊢
     have JL:=(pt.next (w:=wv) (f:=0) (lit:=false) UL Dk Uh (by rw [i9];exact ⟨Uf,z4.1,.inl rfl⟩) nofun).1
     refine ⟨_,rfl,_,_,rfl,rfl,by decide,λ m5 _ _ _=>⟨rfl,_,rfl,ji (λ _=>?_) (λ _=>⟨S5,_,_,_,bu,TL,U5,MH,JL,_,_,_,rfl⟩)⟩⟩
     refine ⟨_,rfl,_,rfl,pbo,_,_,_,rfl,rfl,.inr (S5.tup D0),rfl,_,_,rfl,rfl,_,rfl,ji (λ l5=>?_) (λ _=>⟨S5,_,_,_,bu,TL,U5,MH,JL,_,_,_,rfl⟩)⟩
     refine ⟨_,rfl,Lv,λ p6 hp6=>⟨_,rfl,?_⟩⟩
     have s6:=ak (o:=.lst [.int 1,.int 2,.int 4,.int 8]) hp6
     have hat:ud [V.int 1,V.int 2,V.int 4,V.int 8] (0+(i:Int))=some (.int ((2 ^ i:Nat):Int)):=by
       rw [af8]
       have hi4:i<4:=by lia
       match i,hi4 with
       | 0,_=>exact bF rfl
       | 1,_=>exact bF rfl
       | 2,_=>exact bF rfl
       | 3,_=>exact bF rfl
     refine ⟨p6,_,_,_,rfl,rfl,.inl (aR.of af),hat,_,_,rfl,rfl,λ y8 e8=>⟨_,rfl,_,_,rfl,rfl,λ y9 e9=>?_⟩⟩
     obtain rfl:y8=((bu+2 ^ i:Nat):Int):=by rw [e8];push_cast;rfl
     obtain ⟨n1',n2'⟩:=pt.next (w:=wv) (f:=0) (lit:=true) UL Dk Uh (by rw [i9];exact ⟨Uf,z4.1,.inl rfl⟩) (λ _=>l5)
     have n2':(Bit.rooms (bu+2 ^ i)).length=(Bit.rooms bu).length+1:=n2'
     obtain rfl:y9=(((Bit.rooms (bu+2 ^ i)).length:Nat):Int):=by rw [e9,n2'];push_cast;rfl
     exact ⟨S5.trans s6,_,_,_,bu+2 ^ i,s6 _ _ TL,s6 _ _ U5,s6 _ _ MH,n1',_,_,_,rfl⟩
    .
     refine ⟨_,rfl,rfl,_,rfl,BA (λ _=>?_) (λ q=>nomatch q)⟩
     refine ⟨_,rfl,_,_,rfl,rfl,⟨by decide,mR⟩,λ y6 _=>⟨_,rfl,pz,_,_,_,rfl,rfl,.inr Ri,rfl,_,_,rfl,rfl,λ y7 e7=>⟨_,_,rfl,rfl,by lia,λ wv wv0 wv1 _=>?_⟩⟩⟩
     obtain ⟨wv,rfl⟩:∃ x:Nat,wv=(x:Int):=⟨wv.toNat,by lia⟩
     have Uf:(wv:Int)<=z.2.2.2:=by lia
     refine ⟨_,rfl,_,rfl,pf,_,_,i,rfl,rfl,e4f,(by rw [af8];exact jK (by rw [zN,aaE];show i<fs.length+1;lia)),?_⟩
     have MH:(upd H4 pf (.lst (((fs++[0]).map al).set i (.int (wv:Int))))) pf=some (.lst ((fs++[wv]).map al)):=by rw [af,show V.int (wv:Int)=al wv from rfl,← amd,sl lf]
     exact ⟨S4.put hfH,_,_,_,bu,by rw [aq U1];exact e4b,by rw [aq Nd];exact W6,MH,(pt.next (w:=0) (f:=wv) (lit:=false) UL Dk Uh (by rw [i9];exact ⟨z3.1,Uf,.inr ⟨rfl,rfl⟩⟩) nofun).1,_,_,_,rfl⟩
 .
  rintro U H1 ⟨S1,bs,ws,fs,bu,L0,h1w,Vc,pt,x9,JE,J1,rfl⟩
  refine ⟨_,rfl,pb,_,rfl,.inl ⟨aR.of L0,λ t1 ht1=>?_⟩⟩
  have s2:=ak (o:=.tup (bs.map al)) ht1
  have e2:(upd H1 t1 (.tup (bs.map al))) t1=some (.tup (bs.map al)):=af
  generalize upd H1 t1 (.tup (bs.map al))=H2 at s2 e2 ⊢
  refine ⟨_,rfl,_,rfl,pw,_,rfl,.inl ⟨aR.of (s2 _ _ h1w),λ t2 Qf=>?_⟩⟩
  have s3:=ak (o:=.tup (ws.map al)) Qf
  have e3:(upd H2 t2 (.tup (ws.map al))) t2=some (.tup (ws.map al)):=af
  generalize upd H2 t2 (.tup (ws.map al))=H3 at s3 e3 ⊢
  refine ⟨_,rfl,pf,_,rfl,.inl ⟨aR.of ((s2.trans s3) _ _ Vc),λ t3 ht3=>?_⟩⟩
  have s4:=ak (o:=.tup (fs.map al)) ht3
  have e4:(upd H3 t3 (.tup (fs.map al))) t3=some (.tup (fs.map al)):=af
  generalize upd H3 t3 (.tup (fs.map al))=H4 at s4 e4 ⊢
  refine ⟨_,rfl,_,rfl,c,kk,2,rfl,k0,by lia,by decide,by decide,λ H5 r5 s5 _ _=>?_⟩
  have S4:=((S1.trans s2).trans s3).trans s4
  refine ⟨_,rfl,pbo,_,_,_,rfl,rfl,.inr ((S4.trans s5).tup D0),rfl,_,_,rfl,rfl,λ y e=>⟨_,_,rfl,rfl,by lia,λ hp MK Cd _=>⟨(by show 5<=sizeLine;decide),λ qt hqt=>?_⟩⟩⟩
  obtain ⟨hp,rfl⟩:∃ x:Nat,hp=(x:Int):=⟨hp.toNat,by lia⟩
  have s6:=ak (o:=.tup [.ref t1,al bu,.ref t2,.ref t3,al hp]) hqt
  refine k qt ⟨bs,bu,ws,fs,hp⟩ _ ((S4.trans s5).trans s6) ⟨t1,t2,t3,bO.of af,bO.of (((s3.trans s4).trans (s5.trans s6)) _ _ e2),bO.of ((s4.trans (s5.trans s6)) _ _ e3),bO.of ((s5.trans s6) _ _ e4)⟩ pt (by show (hp:Int)<=b1;lia)
theorem fS (T:Txt K mg Ad):Def P w K mg base "_law_cell_at" 1 ["_law_script","_law_k"] (zu K):=by
 refine T.tD.cS qJ λ f bA A outer s H vs Q E hr h=>?_
 obtain ⟨a,ns,z,rfl,hS,hz,k⟩:=h
 refine ⟨_,(ag (bv (aO ky (pv 1) (aS bx (by rfl) T.fm c8 (aa (pv 0) ac)) (aM _)) (am (aF (aB aw (pv 0) (pv 1) (λ _ _=>rfl)))) aJ)
     (am (aF ai))),?_⟩
 try dsimp only [eL,aU]
 refine ⟨_,rfl,_,rfl,_,_,rfl,.inl hS,λ n en=>⟨_,_,rfl,rfl,_,rfl,?_⟩⟩
 rw [zN] at en
 refine ji (λ h=>?_) (λ h=>?_)
 .
  have hl:z.toNat<ns.length:=by lia
  have e:(ns.map V.int)[z.toNat]?=some (.int (ns[z.toNat]'hl)):=by simp [hl]
  have e2:=bF e
  rw [ak3 hz] at e2
  refine ⟨_,rfl,_,rfl,_,_,_,_,rfl,rfl,.inl hS,e2,k _ (.inl (acx hl))⟩
 . exact k 0 (.inr rfl)
theorem se (T:Txt K mg Ad):By P w K mg base "hold_like" 4 ["hold","most","cap","load"] [.cf] (qy K Ad.aQ) :=
 (jO T).Hg T.j5 λ items hv=>by
   obtain ⟨u1,u2,u3,rfl,r1,r2,r3⟩:=vals3 hv
   exact ⟨[u3],.cons r3 .nil,λ _ _ _ _ _ _ us hl=>match us,(by simpa using hl:us.length=3) with | [_,_,_],_=>⟨_,rfl,rfl⟩⟩
inductive CS  (vs:List V) (H:Hp) (Q:VK) (_E:XK):Prop
 | mk (a b:Option Nat) (_:vs=[ja a,ja b]) (_:(b=none∨∃ x y,a=some x/\b=some y/\x<=y)) (_:Q (.bl true) H)
theorem iA (T:Txt K mg Ad):Def P w K mg base "_law_no_less" 1 ["_law_one","_law_other"] CS:=by
 refine T.tE.cS rA λ f bA A outer s H vs Q E hr h=>?_
 obtain ⟨a,b,rfl,MS,k⟩:=h
 refine ⟨_,(ag (bv (aO j8 (pv 1) cy (aM _)) (am (aF mX)) aJ)
     (am (aF (mJ (db lG (pv 0) cy (aM _)) (mH (db D8 (pv 1) (pv 0) (aM _))))))),?_⟩
 try dsimp only [eL,aU]
 rcases MS with rfl|⟨x,y,rfl,rfl,le⟩
 . exact ⟨_,rfl,rfl,_,rfl,gS k⟩
 . refine ⟨_,rfl,rfl,_,rfl,fX ⟨_,rfl,rfl,_,rfl,gS ⟨_,rfl,_,rfl,_,_,rfl,rfl,?_⟩⟩⟩
   rw [adD (show (x:Int)<=(y:Int) by lia)]
   exact k
set_option maxHeartbeats 0 in
theorem KN {f:Addr} {fd:FuncData} (F:Gw K "law" "law" xM f fd) (T:Txt K mg Ad):ki P w K mg base wg 14 f fd ["_law_script"] (FF K):=by
 refine F.ok gy (λ vs H Q E h=>?_) (λ bA A outer s H vs Q E hr h=>?_)
 . obtain ⟨a,ns,rfl,_⟩:=h
   rfl
 .
  obtain ⟨ps,ns,rfl,hS,hlen,AA,k⟩:=h
  refine ⟨_,(ag (aD (i:=1) gy.nd rfl (lc rfl) (ar (fS (K:=K) T) hr.m (aa (pv 0) (aa ai ac))))
    (ag (aD (i:=2) gy.nd rfl (lc rfl) (av aY ai (cb lI (by rfl) T.wT rV (aa (db fc (av aX (pv 1) ai) ai (aM _)) ac))))
    (ag (aD (i:=3) gy.nd rfl (lc rfl) (cm (aa (av aX (av bN (pv 1) ai) ai) (aa (av aX (av bN (pv 1) ai) ai) (aa (av aX (av bN (pv 1) ai) ai) ac)))))
    (ag (aD (i:=4) gy.nd rfl (lc rfl) (ar (vc (K:=K) T) hr.m (aa (ar (fS (K:=K) T) hr.m (aa (pv 0) (aa ai ac))) (aa (pv 2) (aa (av dX ai (pv 2)) ac)))))
    (ag (aD (i:=5) gy.nd rfl (lc rfl) (ar (xp (K:=K) T) hr.m (aa (pv 4) (aa (ar (vU (K:=K) T) hr.m (aa (ar (fS (K:=K) T) hr.m (aa (pv 0) (aa ai ac))) ac)) (aa (pv 3) (aa (av aX (av bN (pv 1) ai) ai) ac))))))
    (ag (aD (i:=6) gy.nd rfl (lc rfl) (ar (vA (K:=K) T) hr.m (aa (pv 4) (aa (pv 3) (aa (ar (fS (K:=K) T) hr.m (aa (pv 0) (aa ai ac))) (aa ai ac))))))
    (ag (aD (i:=7) gy.nd rfl (lc rfl) (kP (P:=P) (w:=w) (K:=K) rfl rfl rfl hr.Gm (gM (gE (P:=P) (w:=w) T) hr.m (aa (pv 5) (aa (cx (aa (pv 6) ac)) ac))) (pv 6) (λ _ _=>rfl)))
    (ag (aD (i:=8) gy.nd rfl (lc rfl) (aS (ox rfl) (by rfl) T.Fn yS (aa ai (aa (av aY (aB aw (pv 3) ai (λ _ _=>rfl)) ai) ac))))
    (ag (aD (i:=9) gy.nd rfl (lc rfl) (cx (aa (gM (se (K:=K) T) hr.m (aa (pv 5) (aa cy (aa (av aY (aB aw (pv 3) ai (λ _ _=>rfl)) ai) ac)))) (aa (gM (kn (K:=K) T) hr.m (aa (pv 5) (aa cy (aa cy (aa (av aY (aB aw (pv 3) ai (λ _ _=>rfl)) ai) ac))))) (aa (gM (rG (K:=K) T) hr.m (aa (pv 5) (aa (pv 8) ac))) ac)))))
    (ag (aW (gJ ads adL adH bX (pv 9) (aa (gM (kn (K:=K) T) hr.m (aa (pv 5) (aa (pv 8) (aa (av aY (aB aw (pv 3) ai (λ _ _=>rfl)) ai) (aa (av aY (aB aw (pv 3) ai (λ _ _=>rfl)) ai) ac))))) ac)))
    (ag (cL adG rfl (bK (pv 9)) (aA (i:=10) gy.nd rfl (lc rfl)) (am (bv (dJ (cC (ar (iA (K:=K) T) hr.m (aa (pv 7) (aa (kP (P:=P) (w:=w) (K:=K) rfl rfl rfl hr.Gm (gM (gE (P:=P) (w:=w) T) hr.m (aa (pv 10) (aa (cx (aa (pv 6) ac)) ac))) (pv 6) (λ _ _=>rfl)) ac))))) (am (aF mX)) aJ)))
    (ag (aD (i:=11) gy.nd rfl (lc rfl) (av u0 (kr AW (pv 6) nX (nI ai)) (cm (aa (aS (ox rfl) (by rfl) T.Fn yS (aa (aB aw (pv 3) ai (λ _ _=>rfl)) (aa (av aY (aB aw (pv 6) ai (λ _ _=>rfl)) ai) ac))) ac))))
    (ag (bv (dJ (cC (ar (iA (K:=K) T) hr.m (aa (pv 7) (aa (kP (P:=P) (w:=w) (K:=K) rfl rfl rfl hr.Gm (gM (gE (P:=P) (w:=w) T) hr.m (aa (pv 5) (aa (cx (aa (pv 11) ac)) ac))) (pv 11) (λ _ _=>rfl)) ac))))) (am (aF mX)) aJ)
    (ag (aD (i:=12) gy.nd rfl (lc rfl) (av u0 (kr AW (pv 6) nX (nI ai)) (cm (aa (av aY (aB aw (pv 6) ai (λ _ _=>rfl)) ai) ac))))
    (am (aF (ar (iA (K:=K) T) hr.m (aa (pv 7) (aa (kP (P:=P) (w:=w) (K:=K) rfl rfl rfl hr.Gm (gM (gE (P:=P) (w:=w) T) hr.m (aa (aB aw (pv 9) ai (λ _ _=>rfl)) (aa (cx (aa (pv 12) ac)) ac))) (pv 12) (λ _ _=>rfl)) ac))))))))))))))))))),?_⟩
  try dsimp only [eL,aU]
  first|(refine CL ?_;intro _ _ _ _ _ _ _ _ _ _ _ _ _ _ _ _)|skip
  refine ⟨_,rfl,ps,ns,0,rfl,hS,by decide,λ fi _=>?_⟩
  refine ⟨_,rfl,_,_,rfl,rfl,by decide,λ r r0 r1 _=>⟨rfl,.inr ⟨_,rfl,⟨_,_,rfl,rfl,λ mn emn=>?_⟩⟩⟩⟩
  obtain ⟨n,rfl⟩:∃ n:Nat,mn=(n:Int):=⟨mn.toNat,by rw [emn];split<;>rfl⟩
  have hn:1<=n/\n<=2:=by split at emn<;>lia
  refine ⟨_,rfl,_,_,rfl,rfl,⟨by decide,mR⟩,λ y1 _=>⟨_,_,rfl,rfl,by decide,λ b0 b00 b01 _=>?_⟩⟩
  refine ⟨_,rfl,_,_,rfl,rfl,⟨by decide,mR⟩,λ y2 _=>⟨_,_,rfl,rfl,by decide,λ b1 Iy DZ _=>?_⟩⟩
  refine ⟨_,rfl,_,_,rfl,rfl,⟨by decide,mR⟩,λ y3 _=>⟨_,_,rfl,rfl,by decide,λ b2 b20 b21 _=>⟨Rp,λ pb D0=>?_⟩⟩⟩
  have s1:=ak (o:=.tup [.int b0,.int b1,.int b2]) D0
  have e1:(upd H pb (.tup [.int b0,.int b1,.int b2])) pb=some (.tup [.int b0,.int b1,.int b2]):=af
  generalize upd H pb (.tup [.int b0,.int b1,.int b2])=H1 at s1 e1 ⊢
  refine ⟨_,rfl,ps,ns,1,rfl,s1.seq hS,by decide,λ c1 _=>⟨_,rfl,_,rfl,_,_,rfl,rfl,λ bd ebd=>?_⟩⟩
  obtain ⟨b,rfl⟩:∃ b:Nat,bd=(b:Int):=⟨bd.toNat,by lia⟩
  have hb4:b=4 - n:=by lia
  refine ⟨c1,n,b,rfl,by lia,by lia,by lia,by lia,λ pr xs rs H2 s2 h2 d2 lr u5=>?_⟩
  have S2:=s1.trans s2
  refine ⟨_,rfl,_,rfl,ps,ns,2,rfl,S2.seq hS,by decide,λ c2 _=>⟨c2,rfl,λ yB sc H3 zP s3 h3=>?_⟩⟩
  have S3:=S2.trans s3
  have hb3:=(s2.trans s3) _ _ e1
  refine ⟨_,rfl,_,rfl,_,_,rfl,rfl,⟨by decide,mR⟩,λ y4 _=>⟨_,_,rfl,rfl,by decide,λ fl _ _ _=>?_⟩⟩
  refine ⟨pr,xs,rs,yB,sc,pb,b0,b1,b2,fl,rfl,aR.of (s3 _ _ h2),bi.same s3 _ d2,by lia,by lia,λ r hr=>(u5 r hr).1,bO.of h3,zP,bO.of hb3,by lia,by lia,by lia,λ a fp m H4 s4 hh F0 l0 qq0 Gk lk=>?_⟩
  have S4:=S3.trans s4
  have K5:H4 pb=some (.tup [.int b0,.int b1,.int b2]):=s4 _ _ hb3
  refine ⟨_,rfl,_,rfl,_,rfl,ps,ns,3,rfl,S4.seq hS,by decide,λ c3 _=>?_⟩
  refine ⟨pr,xs,rs,pb,b0,b1,b2,c3,1,rfl,aR.of ((s3.trans s4) _ _ h2),bi.same (s3.trans s4) _ d2,by lia,by lia,λ r hr=>(u5 r hr).1,bO.of K5,by lia,by lia,by decide,by decide,λ q st H5 s5 i9 part hp=>?_⟩
  subst lr
  have so:eP m st:=part.ok lk l0 hp
  have tJ:sV m:=lk.Cs l0 hn.1 hn.2 (λ r hr=>by have:=(u5 r hr).2;rw [hb4] at this;exact this) (by lia)
  have mr:=wc.refl Gk tJ
  have hb5:bO K H5 pb [.int b0,.int b1,.int b2]:=bO.of (s5 _ _ K5)
  have hh5:=hh.same s5
  have S5:=S4.trans s5
  clear s1 s2 s3 s4 s5 S2 S3 S4 h2 d2 h3 e1 hb3 K5 F0 u5 part
  refine ⟨_,rfl,_,rfl,Eu,λ pl gT=>?_⟩
  refine ⟨a,pl,2000,fp,m,[.ref q],[st],rfl,hh5.same (ak gT),mr.Il Gk hh5,tJ.fin,by decide,tJ.res,af,.cons ⟨q,rfl,i9.same (ak gT)⟩ .nil,λ s hs=>by rw [List.mem_singleton.mp hs];exact so,λ p ax H6 s6 hd6 UA=>?_⟩
  obtain ⟨v0,ev0,BQ⟩:=UA st (List.mem_singleton.mpr rfl)
  have OF:=(ak (o:=.lst [.ref q]) gT).trans s6
  clear s6 gT
  have LC:=i9.same OF
  refine ⟨_,rfl,p,q,ax,j6 st,_,rfl,rfl,hd6,fK LC,ev0,?_⟩
  have Mx:=hh5.same OF
  have FZ:=OF.tup hb5
  have S6:=S5.trans OF
  clear OF hd6 UA ev0
  refine ⟨_,rfl,pb,_,_,_,rfl,rfl,.inr FZ,rfl,_,_,rfl,rfl,λ y5 e5=>⟨_,_,rfl,?_⟩⟩
  have hw:b0<=(if y5<4 then y5 else 4)/\(if y5<4 then y5 else 4)<=4:=by split<;>lia
  generalize (if y5<4 then y5 else 4)=wi at hw ⊢
  have lm:=lk.most
  have lc:=lk.d8
  have ll:=lk.load
  have Tz:∀ {x y z:Option Int},(∀ i,x=some i->i=wi)->(∀ i,y=some i->i=b1+1)->(∀ i,z=some i->i=b2+1)->wc m (m.with x y z):=λ hx hy hz=>wc.with Gk tJ (λ i e=>by rw [hx i e,lm];lia) (λ i e=>by rw [hy i e,lc];lia) (λ i e=>by rw [hz i e,ll];lia)
  have m1:=Tz (x:=none) (y:=some (b1+1)) (z:=none) nofun (λ i e=>(abG e).symm) nofun
  have m2:=Tz (x:=none) (y:=none) (z:=some (b2+1)) nofun nofun (λ i e=>(abG e).symm)
  have m3:=Tz (x:=some wi) (y:=none) (z:=none) (λ i e=>(abG e).symm) nofun nofun
  have m4:=Tz (x:=some wi) (y:=some (b1+1)) (z:=some (b2+1)) (λ i e=>(abG e).symm) (λ i e=>(abG e).symm) (λ i e=>(abG e).symm)
  refine ⟨_,rfl,_,rfl,pb,_,_,_,rfl,rfl,.inr FZ,rfl,_,_,rfl,rfl,λ y6 e6=>?_⟩
  obtain rfl:y6=b1+1:=e6
  refine ⟨a,fp,m,none,some (b1+1),none,rfl,Mx,(m1.put Gk).zn,λ o1 H7 Uy s7 h1 F1=>?_⟩
  refine ⟨_,rfl,_,rfl,pb,_,_,_,rfl,rfl,.inr (s7.tup FZ),rfl,_,_,rfl,rfl,λ y7 e7=>?_⟩
  obtain rfl:y7=b2+1:=e7
  refine ⟨a,fp,m,none,none,some (b2+1),rfl,Mx.same s7,(m2.put Gk).zn,λ o2 H8 TY s8 h2 F2=>?_⟩
  refine ⟨_,rfl,_,rfl,a,fp,m,some wi,none,none,rfl,(Mx.same s7).same s8,(m3.put Gk).zn,λ o3 H9 UF s9 h3 F3=>⟨Rp,λ po AT=>?_⟩⟩
  have sN:=ak (o:=.lst [.ref o1,.ref o2,.ref o3]) AT
  have tZ:(upd H9 po (.lst [.ref o1,.ref o2,.ref o3])) po=some (.lst [.ref o1,.ref o2,.ref o3]):=af
  have Vl:=(s7.trans s8).trans s9
  have Ff:H6 po=none:=Vl.free AT
  generalize upd H9 po (.lst [.ref o1,.ref o2,.ref o3])=E7 at sN tZ ⊢
  have Tq:=Vl.trans sN
  refine ⟨_,rfl,.inl ⟨rfl,_,aR.of tZ⟩,_,rfl,_,rfl,_,rfl,pb,_,_,_,rfl,rfl,.inr (Tq.tup FZ),rfl,_,_,rfl,rfl,λ y8 e8=>⟨_,rfl,pb,_,_,_,rfl,rfl,.inr (Tq.tup FZ),rfl,_,_,rfl,rfl,λ y9 e9=>?_⟩⟩
  obtain rfl:y8=b1+1:=e8
  obtain rfl:y9=b2+1:=e9
  refine ⟨a,fp,m,some wi,some (b1+1),some (b2+1),rfl,Mx.same Tq,(m4.put Gk).zn,λ o4 u7 fp4 yA h4 F4=>?_⟩
  refine ⟨po,_,_,rfl,rfl,yA _ _ tZ,aT (show 3<=1000 by decide),?_⟩
  have T0:aC H6 (upd u7 po (.lst ([.ref o1,.ref o2,.ref o3]++[.ref o4]))):=(Tq.trans yA).put Ff
  have fx:∀ {fq:List Addr} {a' m'},aL K Ad.aQ u7 a' fq m'->po∉fq->aL K Ad.aQ (upd u7 po (.lst ([.ref o1,.ref o2,.ref o3]++[.ref o4]))) a' fq m':=λ hq hn=>uf hq (λ b u e hb=>by rw [aq (λ z=>hn (by rw [← z];exact hb))];exact e) (bH (yA _ _ tZ) rfl)
  have nf:∀ {Hx Hy:Hp} {fq:List Addr} {a' m'},aL K Ad.aQ Hx a' fq m'->aC Hx Hy->Hy po=none->po∉fq:=λ hq sx hn z=>by
    obtain ⟨u,hu⟩:=hq.some po z
    rw [sx _ _ hu] at hn
    cases hn
  have k1:=fx (h1.same (((s8.trans s9).trans sN).trans yA)) (nf h1 (s8.trans s9) AT)
  have k2:=fx (h2.same ((s9.trans sN).trans yA)) (nf h2 s9 AT)
  have k3:=fx (h3.same (sN.trans yA)) (nf h3 (aC.refl _) AT)
  have k4:=fx h4 (λ z=>by have:=F4 po z;rw [tZ] at this;cases this)
  have AY:(upd u7 po (.lst ([.ref o1,.ref o2,.ref o3]++[.ref o4]))) po=some (.lst [.ref o1,.ref o2,.ref o3,.ref o4]):=af
  generalize upd u7 po (.lst ([.ref o1,.ref o2,.ref o3]++[.ref o4]))=TR at T0 k1 k2 k3 k4 AY ⊢
  have DJ:=LC.same T0
  have Zv:=Mx.same T0
  have adR:=T0.tup FZ
  have all:∀ x∈[V.ref o1,.ref o2,.ref o3,.ref o4],∃ o fq m',x = .ref o/\aL K Ad.aQ TR o fq m'/\wc m m':=by
    intro x hx
    simp only [aa1,aaI,afj] at hx
    rcases hx with rfl|rfl|rfl|rfl
    . exact ⟨_,_,_,rfl,k1,m1⟩
    . exact ⟨_,_,_,rfl,k2,m2⟩
    . exact ⟨_,_,_,rfl,k3,m3⟩
    . exact ⟨_,_,_,rfl,k4,m4⟩
  clear s7 s8 s9 sN yA Tq Vl h1 h2 h3 h4 F1 F2 F3 F4 k1 k2 k3 fx nf Tz m1 m2 m3 tZ AT Ff LC Mx FZ
  refine ⟨_,rfl,po,rfl,⟨_,aR.of AY⟩,?_⟩
  refine fL (K:=K) (a:=po) (xs:=[V.ref o1,.ref o2,.ref o3,.ref o4]) (λ i U H'=>aC TR H'/\∃ (v:Option V),U=[some (.ref ps),some (.int fi),some (al rs.length),some (.ref pb),some (.ref pr),some (.ref a),some (.ref q),some (ja v0),some (.int wi),some (.ref po),v,none,none]) ⟨aC.refl _,none,rfl⟩ (λ i U H' _ ⟨s,_⟩=>aR.of (s _ _ AY)) ?_ ?_
  .
   rintro _ i x U Jv hx ⟨Ga,v10,rfl⟩
   obtain ⟨o,fq,m',rfl,ho,mo⟩:=all x (aaK hx)
   refine ⟨_,rfl,_,rfl,_,rfl,Eu,λ pl gT=>?_⟩
   have sl:=ak (o:=.lst [.ref q]) gT
   have NN:=(ho.same Ga).same sl
   have TC:=(DJ.same Ga).same sl
   have so':eP m' st:=mo.st (s:=st) (hp:=st.heap) so (by obtain ⟨a',b',c',rfl,_,_,z,_⟩:=mo.ex;exact ak7 so.heap z)
   refine ⟨o,pl,2000,fq,m',[.ref q],[st],rfl,NN,mo.Il Gk NN,(mo.Cs tJ).fin,by decide,(mo.Cs tJ).res,af,.cons ⟨q,rfl,TC⟩ .nil,λ s hs=>by rw [List.mem_singleton.mp hs];exact so',λ p' i6 Um FY ZV ahw=>?_⟩
   obtain ⟨v1,ev1,rk1⟩:=ahw st (List.mem_singleton.mpr rfl)
   refine ⟨_,rfl,p',q,i6,j6 st,_,rfl,rfl,ZV,fK (TC.same FY),ev1,?_⟩
   exact ⟨v0,v1,rfl,mo.le (aaU _) BQ rk1,_,rfl,fX ⟨(Ga.trans sl).trans FY,_,rfl⟩⟩
  rintro U Jv ⟨Ga,v10,rfl⟩
  obtain ⟨qb,qw,qf,wk,xa,uq,hq3⟩:=DJ.same Ga
  have ajb:=Ga.tup adR
  refine ⟨_,rfl,_,rfl,q,_,4,rfl,wk,rfl,rfl,(by show 4<5;decide),λ t1 ht1=>?_⟩
  have FY:=ak (o:=.tup (List.take 4 [V.ref qb,al st.bW,V.ref qw,V.ref qf,al st.heap])) ht1
  have e14:(upd Jv t1 (.tup (List.take 4 [V.ref qb,al st.bW,V.ref qw,V.ref qf,al st.heap]))) t1=some (.tup [.ref qb,al st.bW,.ref qw,.ref qf]):=af
  generalize upd Jv t1 (.tup (List.take 4 [V.ref qb,al st.bW,V.ref qw,V.ref qf,al st.heap]))=Um at FY e14 ⊢
  refine ⟨_,rfl,pb,_,_,_,rfl,rfl,.inr (FY.tup ajb),rfl,_,rfl,q,_,_,_,rfl,rfl,.inr (FY.tup wk),rfl,_,_,rfl,rfl,λ U6 e10=>⟨_,_,rfl,Eu,λ t2 Qf=>?_⟩⟩
  have hpc:(st.heap:Int)<=b1:=hp
  obtain ⟨hm,ehm,Ka,hm2⟩:∃ hm:Nat,(if U6<b1 then U6 else b1)=(hm:Int)/\st.heap<=hm/\(hm:Int)<=b1:=⟨(if U6<b1 then U6 else b1).toNat,by split<;>lia,by split<;>lia,by split<;>lia⟩
  rw [ehm]
  have MC:=ak (o:=.tup [.int (hm:Int)]) Qf
  have e15:(upd Um t2 (.tup [.int (hm:Int)])) t2=some (.tup [.int (hm:Int)]):=af
  generalize upd Um t2 (.tup [.int (hm:Int)])=H15 at MC e15 ⊢
  refine ⟨t1,t2,_,_,rfl,rfl,bO.of (MC _ _ e14),bO.of e15,(by show 5<=sizeLine;decide),λ q2 Qz La abP=>?_⟩
  have UV:=(FY.trans MC).trans La
  have JD:g7 K Qz q2 { st with heap:=hm }:=⟨qb,qw,qf,abP,UV.tup xa,UV.tup uq,UV.tup hq3⟩
  have Tr:=Ga.trans UV
  have MY:=Zv.same Tr
  have som:eP m { st with heap:=hm }:=mr.st so (by rw [lc];exact hm2)
  refine ⟨_,rfl,_,rfl,_,rfl,Eu,λ pl gT=>?_⟩
  have sl:=ak (o:=.lst [.ref q2]) gT
  refine ⟨a,pl,2000,fp,m,[.ref q2],[{ st with heap:=hm }],rfl,MY.same sl,mr.Il Gk MY,tJ.fin,by decide,tJ.res,af,.cons ⟨q2,rfl,JD.same sl⟩ .nil,λ s hs=>by rw [List.mem_singleton.mp hs];exact som,λ p2 Fy H17 K7 VM aaV=>?_⟩
  obtain ⟨v2,ev2,rk2⟩:=aaV _ (List.mem_singleton.mpr rfl)
  have S17:=sl.trans K7
  refine ⟨_,rfl,p2,q2,Fy,_,_,rfl,rfl,VM,fK (JD.same S17),ev2,?_⟩
  refine ⟨v0,v2,rfl,mr.le Ka BQ rk2,_,rfl,fX ?_⟩
  have Kh:=Tr.trans S17
  obtain ⟨rb,yQ,rf,Rc,GV,Gj,hr3⟩:=DJ.same Kh
  refine ⟨_,rfl,_,rfl,q,_,4,rfl,Rc,rfl,rfl,(by show 4<5;decide),λ t3 ht3=>?_⟩
  have s18:=ak (o:=.tup (List.take 4 [V.ref rb,al st.bW,V.ref yQ,V.ref rf,al st.heap])) ht3
  have e18:(upd H17 t3 (.tup (List.take 4 [V.ref rb,al st.bW,V.ref yQ,V.ref rf,al st.heap]))) t3=some (.tup [.ref rb,al st.bW,.ref yQ,.ref rf]):=af
  generalize upd H17 t3 (.tup (List.take 4 [V.ref rb,al st.bW,V.ref yQ,V.ref rf,al st.heap]))=H18 at s18 e18 ⊢
  refine ⟨_,rfl,q,_,_,_,rfl,rfl,.inr (s18.tup Rc),rfl,_,_,rfl,rfl,λ y11 e11=>⟨Eu,λ t4 ht4=>?_⟩⟩
  obtain rfl:y11=((st.heap+1:Nat):Int):=by rw [e11];push_cast;rfl
  have s19:=ak (o:=.tup [.int ((st.heap+1:Nat):Int)]) ht4
  have e19:(upd H18 t4 (.tup [.int ((st.heap+1:Nat):Int)])) t4=some (.tup [.int ((st.heap+1:Nat):Int)]):=af
  generalize upd H18 t4 (.tup [.int ((st.heap+1:Nat):Int)])=H19 at s19 e19 ⊢
  refine ⟨t3,t4,_,_,rfl,rfl,bO.of (s19 _ _ e18),bO.of e19,(by show 5<=sizeLine;decide),λ q3 H20 s20 adt=>?_⟩
  have UG:=(s18.trans s19).trans s20
  have JG:g7 K H20 q3 { st with heap:=st.heap+1 }:=⟨rb,yQ,rf,adt,UG.tup GV,UG.tup Gj,UG.tup hr3⟩
  have J8:=Kh.trans UG
  have SZ:=k4.same J8
  have sol:eP _ { st with heap:=st.heap+1 }:=m4.st so (by show ((st.heap+1:Nat):Int)<=b1+1;lia)
  refine ⟨_,rfl,_,rfl,po,_,_,_,rfl,rfl,.inl (aR.of (J8 _ _ AY)),rfl,_,rfl,Eu,λ UQ aeh=>?_⟩
  have J2:=ak (o:=.lst [.ref q3]) aeh
  refine ⟨o4,UQ,2000,fp4,_,[.ref q3],[{ st with heap:=st.heap+1 }],rfl,SZ.same J2,m4.Il Gk SZ,(m4.Cs tJ).fin,by decide,(m4.Cs tJ).res,af,.cons ⟨q3,rfl,JG.same J2⟩ .nil,λ s hs=>by rw [List.mem_singleton.mp hs];exact sol,λ p3 ahq H21 s21 ahR XA=>?_⟩
  obtain ⟨v3,ev3,rk3⟩:=XA _ (List.mem_singleton.mpr rfl)
  refine ⟨_,rfl,p3,q3,ahq,_,_,rfl,rfl,ahR,fK (JG.same (J2.trans s21)),ev3,?_⟩
  exact ⟨v0,v3,rfl,m4.le (ak2 _) BQ rk3,k _⟩
end
theorem walk {l:W.OpenLaw} {q:Program} {loose:List Str} {XP:(Str->Option Value)->Heap->Prop} {YP:World->Heap->Prop} {d:DefRec} {K:Params->W.Frag} (hn:l.most=some 63) (QK:d.params.defaults=[]) (FK:d.name = "law")
   (hY:∀ (w:World) (h:Heap),YP w h->(K w.params).In h)
   (F:∀ (w:World) (mg:Str->Option Value) (h:Heap),(K w.params).In h->h.Ns mainGlobals mg->∃ A,Txt (K w.params) mg A) :
   W.WalkO q loose XP YP l.row.toRowW d [] (λ f vs=>PySem.call f vs) :=
 L2.FV (k:=14) (x:="_law_script") hn QK ⟨rfl,by decide,by decide⟩ hY
   (λ w mg fa h KX G Ms=>by
     obtain ⟨_,T⟩:=F w mg h KX G
     obtain ⟨f,fd,hm,Fd⟩:=id T.MZ
     rw [FK] at Ms
     have e:=Ms.symm.trans hm
     cases e
     exact ⟨fd,Fd.KI (λ _ _ _ _ _ _ _=>rfl),λ base _ _=>KN Fd T⟩)
end K64
namespace PySem.W.Fast
def tw4397847738755968145:=0
def tw14776051480817123527:=0
def tw8499339370702319055:=0
def tw18298451143030831396:=0
def tw16357788998900492367:=0
def tw16360844386186505173:=0
def tw3977084072757062303:=0
def tw6864204697478450768:=0
def tw5984941259103370178:=0
def tw4154381932497589026:=0
def tw1997916026497668725:=0
def tw16767260035547706948:=0
def tw9013286328833931540:=0
def tw12579498672672100001:=0
def tw5691171874188339212:=0
def tw11482834200699051405:=0
def tw15657637048783523280:=0
def tw14238294901573676066:=0
def tw4930702640416799318:=0
def tw1723929809230253553:=0
def tw16301270930213125304:=0
def tw4377876653563763863:=0
def tw14119971340520777245:=0
def tw8174943826260764833:=0
def tw16349320840975806169:=0
def tw10850683382887272200:=0
def tw10698119639569052020:=0
def tw9115715002363489985:=0
def tw15016985149724689565:=0
def tw11028159876825702195:=0
def tw4040737413872660433:=0
def tw17873577808333627719:=0
def tw6236917956548355007:=0
def tw3154532906799876313:=0
def tw16425778937465375685:=0
def tw7209662951049079989:=0
def tw5304204230437205204:=0
def tw5215072536696931376:=0
def tw4833587298836719417:=0
def tw13024612041659911050:=0
def tw5630086489275345475:=0
def tw14310811133666155252:=0
def tw1811138865874627610:=0
def tw1283571666488337389:=0
def tw9609743008088370523:=0
def tw8488044999472409049:=0
def tw15399134007734469375:=0
def tw2809364391125420691:=0
def tw5695263717566076799:=0
def tw17980338392084279288:=0
def tw2563624434817697459:=0
def tw4529569845209402925:=0
def tw4085422683147066747:=0
def tw7635407573923941741:=0
def tw1176453877322678260:=0
def tw9357368977187369451:=0
def tw8712257685028400692:=0
def tw8687454563289589139:=0
def tw11408931031011931374:=0
def tw12623517357851096627:=0
def tw3262617617245870961:=0
def tw6664452293262755848:=0
def tw15516725200491878539:=0
def tw13215112862054568456:=0
def tw13561701368224814986:=0
def tw1603748415911141709:=0
def tw14685825947722605236:=0
def tw4591327468449593788:=0
def tw16028980016628754303:=0
def tw11714001501901357299:=0
def tw13706717973250509240:=0
def tw3528813041599111575:=0
def tw15910525212470166986:=0
def tw2107783528400404266:=0
def tw3030348158259955243:=0
def tw287392949734728475:=0
def tw3194627564219792958:=0
def tw13069470190689416823:=0
def tw3041138323066741036:=0
def tw4606988382849303186:=0
def tw5267756645003502272:=0
def tw17932548394115458687:=0
def tw17447088218515812041:=0
def tw14777695545386263434:=0
def tw15147682133935921341:=0
def tw8350818547002615417:=0
def tw16571787190131552052:=0
def tw10772154933430330233:=0
def tw16582706625515988633:=0
def tw7982382002892818090:=0
def tw13008403725794562531:=0
def tw6079788985020343462:=0
def tw1392587538004852395:=0
def tw14991679933490650215:=0
def tw3805084816231306055:=0
def tw3726103098732644874:=0
def tw15511831077165104420:=0
def tw11323088929108707601:=0
def tw1444690385898595142:=0
def tw10251482235210631345:=0
def tw13064308829149057253:=0
def tw15763354805118803741:=0
def tw8961602062825794246:=0
def tw6015706247981705225:=0
def tw3900042430157242293:=0
def tw14159801594230894852:=0
def tw14954588304116850607:=0
def tw4670700152775361986:=0
def tw15226392860555396655:=0
def tw9371016329415810581:=0
def tw7869345946233333733:=0
def tw9362247376615753502:=0
def tw11465136356319709612:=0
def tw8679060704190844184:=0
def tw14125149765508706373:=0
def tw1927655141326605308:=0
def tw10980296209165412596:=0
def tw6085983618828975301:=0
def tw15432097343980854371:=0
def tw7007202768461655440:=0
def tw11107254134331117069:=0
def tw2296350093911991075:=0
def tw5768907162556492217:=0
def tw2578891544426277064:=0
def tw631656814371004278:=0
def tw618330559940713916:=0
def tw6783999623717070348:=0
def tw5063417034961674180:=0
def tw2006519961504053004:=0
def tw17916366377156342957:=0
def tw1514509811771083092:=0
def tw15412603584888887812:=0
def tw11544634159767432871:=0
def tw5907828668176628462:=0
def tw2852034931068134077:=0
def tw7369571243147548857:=0
def tw14528994059702782756:=0
def tw10453885948856708063:=0
def tw9955101959933594215:=0
def tw8628600636520876312:=0
def tw10558779177750952084:=0
def tw1831244233061102278:=0
def tw5552994175806170624:=0
def tw8110630777390019122:=0
def tw17116651773294287052:=0
def tw14067571947715121071:=0
def tw17664092198602327947:=0
def tw8398620874137483175:=0
def tw18217306262306056090:=0
def tw15584733261059990979:=0
def tw8059546229980481644:=0
def tw7183905648663698803:=0
def tw4212249311183253427:=0
def tw3584072954166695762:=0
def tw16186823301155959616:=0
def tw13258679942952453036:=0
def tw8659732155013142141:=0
def tw5609656402193672165:=0
def tw4308052013495690602:=0
def tw10838541159099237535:=0
def tw9263944577481387187:=0
def tw5906029623997236743:=0
def tw4907075255217660814:=0
def tw1087388773522669211:=0
def tw13791579808076332865:=0
def tw17533736409344967860:=0
def tw14171429332067566385:=0
def tw210985538818638965:=0
def tw15508605060896356297:=0
def tw3541618616047939877:=0
def tw11983172378415604538:=0
def tw6086495913959073814:=0
def tw4974185450674601749:=0
def tw874294047128080131:=0
def tw18064617631191592677:=0
def tw1316791920616389228:=0
def tw13794583701598499541:=0
def tw12425998757149693967:=0
def tw16209295625316764768:=0
def tw3388433473803412794:=0
def tw82134421468367209:=0
def tw4329398702067940562:=0
def tw2845537256143581825:=0
def tw17999139386717679193:=0
def tw6007415915398843877:=0
def tw17885551309995408453:=0
def tw12987923327644049346:=0
def tw11874600843982322576:=0
def tw12754805781487559402:=0
def tw16144385656680216180:=0
def tw1460842011812125630:=0
def tw11891314026398296518:=0
def tw621635789786470848:=0
def tw8163010436822837961:=0
def tw10374561290171839257:=0
def tw8196993831377161720:=0
def tw6466871966234604560:=0
def tw12012127119282029377:=0
def tw5388633752437164509:=0
def tw1436645496631898530:=0
def tw12754665376474160224:=0
def tw9539941937768989871:=0
def tw8171616407081932370:=0
def tw1793754586295270200:=0
def tw1667489529448653141:=0
def tw130866578038110720:=0
def tw10810277921947077466:=0
def tw18346291600793762504:=0
def tw197514333528480696:=0
def tw17315740133673649840:=0
def tw13519952648276988335:=0
def tw10938129417418433879:=0
def tw12398210242578284604:=0
def tw10082110926047311507:=0
def tw9527101798231607828:=0
def tw17826710151652385808:=0
def tw17420024763223310094:=0
def tw13202182623652589542:=0
def tw13063960977656162104:=0
def tw10007237422097618426:=0
def tw7687514511964568285:=0
def tw9238768012483048755:=0
def tw6756478970401148578:=0
def tw11489428964172818338:=0
def tw7078310257399270486:=0
def tw9470663825111226947:=0
def tw32299732815199283:=0
def tw12976485653422300257:=0
def tw5439512715510945588:=0
def tw6397459594336959444:=0
def tw13632356278057290789:=0
def tw9046002608657467182:=0
def tw8170426988268812636:=0
def tw12918844897299249196:=0
def tw8307705804944256909:=0
def tw16903577660838039174:=0
def tw6737867119175290423:=0
def tw1777062805507470311:=0
def tw13856608213671474459:=0
def tw4880141552034266131:=0
def tw7976378675801171951:=0
def tw6806233247593929490:=0
def tw12251106255554580798:=0
def tw14234966764537108876:=0
def tw9996116607115794096:=0
def tw4593890023183924191:=0
def tw2008180660679490386:=0
def tw17050349074835097219:=0
def tw1460415688992571332:=0
def tw8091738112493163858:=0
def tw3730173044368475922:=0
def tw2291499136895965206:=0
def tw12160115091933387324:=0
def tw9019219412485908165:=0
def tw7051641979495271575:=0
def tw3594395396205341001:=0
def tw10500341974404977679:=0
def tw5598099516157143588:=0
def tw5565090617066623036:=0
def tw16208222565284924929:=0
def tw11221171836932095268:=0
def tw5862866931413336411:=0
def tw15779969357889139792:=0
def tw13688364785366290241:=0
def tw1321738804039073030:=0
def tw3530492841282712549:=0
def tw12041917296117931054:=0
def tw608205846990922880:=0
def tw3340384431876383188:=0
def tw786985554329800551:=0
def tw132098768488371176:=0
def tw6670745148283648925:=0
def tw3247981447335930118:=0
def tw1729344738930442762:=0
def tw16449354238271685648:=0
def tw13344805830548905447:=0
def tw14095837278209389177:=0
def tw7246160109754876750:=0
def tw4349329856693568444:=0
def tw3559322540634083216:=0
def tw14163676386944658471:=0
def tw601299124468814209:=0
def tw306584129266609779:=0
def tw3867728041924329827:=0
def tw14557694883669651446:=0
def tw8860004269480640551:=0
def tw4132249198417722370:=0
def tw13243004763852198455:=0
def tw10585490212669307545:=0
def tw7722845057260956067:=0
def tw18245092462103143495:=0
def tw12664380663346736369:=0
def tw6617645968423406875:=0
def tw6508652087072022720:=0
def tw2065936409706562528:=0
def tw12485155075155927549:=0
def tw4168577551320524464:=0
def tw2278103532866862318:=0
def tw12614755355772351848:=0
def tw3267182669873185170:=0
def tw9993344214130105393:=0
def tw4224713844947889481:=0
def tw16513661774125823023:=0
def tw16052990048798977804:=0
def tw6422198498049620669:=0
def tw10000025525257553698:=0
def tw7827288959660453661:=0
def tw1719193203936031846:=0
def tw17351207315872328253:=0
def tw7711051629524262486:=0
def tw17162053353609929947:=0
def tw3063978598882674527:=0
def tw206249166481481637:=0
def tw15750952044018262586:=0
def tw8633002888977375045:=0
def tw6343437573728581545:=0
def tw5667669685312570970:=0
def tw9905726760368686045:=0
def tw12609440575791352107:=0
def tw18262476377560063048:=0
def tw7833842425735098420:=0
def tw3723651212526249008:=0
def tw17815410417401989988:=0
def tw8432042217530915259:=0
def tw2118018840857812967:=0
def tw6161844450015596245:=0
def tw9144095155853856169:=0
def tw16859771627016948476:=0
def tw11266068067655730853:=0
def tw17531546266506576748:=0
def tw2233133136733148270:=0
def tw16961974901259975078:=0
def tw15116800977917732066:=0
def tw13877341654517607060:=0
def tw12012746312085331341:=0
def tw15761071845753052728:=0
def tw10226070609480612516:=0
def tw8184381874738019762:=0
def tw1028241534664917492:=0
def tw9889448740477289708:=0
def tw11980264584199296743:=0
def tw9984421314524587459:=0
def tw14735160833325516491:=0
def tw17514496933578408496:=0
def tw5294360207785127488:=0
def tw10879359016343829210:=0
def tw12470448841741408475:=0
def tw6454371870938455586:=0
def tw5750091261495981608:=0
def tw13755885882251161765:=0
def tw10891373043758583758:=0
def tw2590585143899531248:=0
def tw15497178534865439899:=0
def tw12701899364325549874:=0
def tw7609082155545532798:=0
def tw953684084802920591:=0
def tw14812019549191964106:=0
def tw8266276641588515207:=0
def tw7835048087920760372:=0
def tw6038285520737107362:=0
def tw4504695905749465958:=0
def tw8758386187387023036:=0
def tw12081622792029596784:=0
def tw1406972078252661889:=0
def tw2195444150430938029:=0
def tw17116314207143919649:=0
def tw17669447141139255237:=0
def tw4499075942944516933:=0
def tw11958482328958544186:=0
def tw12632396087204166200:=0
def tw4125209562790949024:=0
def tw12167215151068036665:=0
def tw5370138971587371133:=0
def tw2258295947673070706:=0
def tw16988747080170329137:=0
def tw18257631498122794266:=0
def tw952418403572926472:=0
def tw1839973955803339800:=0
def tw18262807014246987230:=0
def tw4769859963150434035:=0
def tw16009474279517356132:=0
def tw5129851041568433392:=0
def tw5342300983695694425:=0
def tw7296304596179966401:=0
def tw7289473561239045835:=0
def tw8834421397226974080:=0
def tw18017024884126473521:=0
def tw15390950381444663466:=0
def tw3039929244296373054:=0
def tw7688171319849367622:=0
def tw5503970348552016083:=0
def tw16053536621728816278:=0
def tw5967691164623474802:=0
def tw15223633319257719051:=0
def tw2181182395489642598:=0
def tw3243014700591295251:=0
def tw13850702511326326628:=0
def tw17636605834873928147:=0
def tw294937819815198171:=0
def tw3757874400499670030:=0
def tw2862627525482713347:=0
def tw10778767416054678565:=0
def tw942637717750224586:=0
def tw6911448434971275989:=0
def tw6514891917530238450:=0
def tw7831169117231869356:=0
def tw629026395427522235:=0
def tw13377345810578705875:=0
def tw7850405916735004655:=0
def tw3513486637269788071:=0
def tw9637506449424141465:=0
def tw5659357877870819599:=0
def tw13231369908786255675:=0
end PySem.W.Fast
open PySem PySem.W PyProof.Rows
set_option maxRecDepth 100000 in
set_option maxHeartbeats 0 in
theorem PySem.Challenge.cw_stoke_k64_whole_more_never_hurts_holds : PySem.Challenge.rw_stoke_k64_whole_more_never_hurts.Holds := by
 w_on; o_law; k_head; (case hw => w_witness2)
 k_fill
 refine K64.walk (l:=PySem.Challenge.rw_stoke_k64_whole_more_never_hurts) rfl rfl rfl (fun w h Y => PySem.W.kIn_of Y) ?F
 case F =>
   intro w mg h KX G
   refine' ⟨_,K64.txt_mk KX G ?_ ?_ ?_ ?_ ?_ ?_ ?_ ?_ ?_ ?_ ?_ ?_ ?_ ?_ ?_ ?_ ?_ ?_ ?_ ?_ ?_ ?_ ?_ ?_ ?_ ?_ ?_ ?_ ?_ ?_ ?_ ?_ ?_ ?_ ?_ ?_ ?_ ?_ ?_ ?_ ?_ ?_ ?_ ?_ ?_ ?_ ?_ ?_ ?_ ?_ ?_ ?_ ?_ ?_ ?_ ?_ ?_ ?_ ?_ ?_ ?_ ?_ ?_ ?_ ?_ ?_ ?_ ?_ ?_ ?_ ?_ ?_ ?_ ?_ ?_ ?_ ?_ ?_ ?_ ?_ ?_ ?_ ?_ ?_ ?_ ?_ ?_ ?_ ?_ ?_ ?_ ?_ ?_ ?_ ?_ ?_ ?_ ?_ ?_ ?_ ?_ ?_ ?_ ?_ ?_ ?_ ?_ ?_ ?_ ?_ ?_ ?_ ?_ ?_ ?_ ?_ ?_ ?_ ?_ ?_ ?_ ?_ ?_ ?_ ?_ ?_ ?_ ?_ ?_ ?_ ?_ ?_ ?_ ?_ ?_ ?_ ?_ ?_ ?_ ?_ ?_ ?_ ?_ ?_ ?_ ?_ ?_ ?_ ?_ ?_ ?_ ?_ ?_ ?_ ?_ ?_ ?_ ?_ ?_ ?_ ?_ ?_ ?_ ?_ ?_ ?_ ?_ ?_ ?_ ?_ ?_ ?_ ?_ ?_ ?_ ?_ ?_ ?_ ?_ ?_ ?_ ?_ ?_ ?_ ?_ ?_ ?_ ?_ ?_ ?_ ?_ ?_ ?_ ?_ ?_ ?_ ?_ ?_ ?_ ?_ ?_ ?_ ?_ ?_ ?_ ?_ ?_ ?_ ?_ ?_ ?_ ?_ ?_ ?_ ?_ ?_ ?_ ?_ ?_ ?_ ?_ ?_ ?_ ?_ ?_ ?_ ?_ ?_ ?_ ?_ ?_ ?_ ?_ ?_ ?_ ?_ ?_ ?_ ?_ ?_ ?_ ?_ ?_ ?_ ?_ ?_ ?_ ?_ ?_ ?_ ?_ ?_ ?_ ?_ ?_ ?_ ?_ ?_ ?_ ?_ ?_ ?_ ?_ ?_ ?_ ?_ ?_ ?_ ?_ ?_ ?_ ?_ ?_ ?_ ?_ ?_ ?_ ?_ ?_ ?_ ?_ ?_ ?_ ?_ ?_ ?_ ?_ ?_ ?_ ?_ ?_ ?_ ?_ ?_ ?_ ?_ ?_ ?_ ?_ ?_ ?_ ?_ ?_ ?_ ?_ ?_ ?_ ?_ ?_ ?_ ?_ ?_ ?_ ?_ ?_ ?_ ?_ ?_ ?_ ?_ ?_ ?_ ?_ ?_ ?_ ?_ ?_ ?_ ?_ ?_ ?_ ?_ ?_ ?_ ?_ ?_ ?_ ?_ ?_ ?_ ?_ ?_ ?_ ?_ ?_ ?_ ?_ ?_ ?_ ?_ ?_ ?_ ?_ ?_ ?_ ?_ ?_ ?_ ?_ ?_ ?_ ?_ ?_ ?_ ?_ ?_ ?_ ?_ ?_ ?_ ?_ ?_ ?_ ?_ ?_ ?_ ?_ ?_⟩
   all_goals try ((try delta K64.kq_); (try delta K64.kc_); (try delta K64.kf_); (try delta K64.kn_); (try delta K64.kg_); first | k_is | k_exc | kernel_rfl)
