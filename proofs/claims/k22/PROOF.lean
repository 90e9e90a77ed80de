import PyProof.Rows.All
import Wide.All
import OpenK.AllK
import Wide.FinOn
import Lean
import PyProof.EqAt
import PyProof.EqKinds
import PyProof.TupleCall
import PySem.Challenge.RW_stoke_k22_whole_outcomes_walked
set_option Elab.async false
set_option linter.all false
set_option maxRecDepth 100000
def AM:=@List.length_map
def OQ:=@List.getD_eq_getElem?_getD
def T1:=@List.getElem?_map
def Wi:=@PySem.wpAny_bind
def YT:=@List.map_append
def aas:=@PySem.Heap.get?_push_of_some
def aat:=@Nat.le_refl
def aaI:=@List.not_mem_nil
def abi:=@List.length_append
def abZ:=@Bool.false_ne_true
def ab8:=@List.getElem_mem
def acs:=@List.mem_cons
def acO:=@if_neg
def acS:=@if_pos
def ac2:=@Option.some.inj
def ado:=@PySem.Heap.lt_size
def adt:=@PySem.wpAny_pure
def adw:=@List.length_range
def adJ:=@List.size_toArray
def ad4:=@List.length_take
def ad5:=@List.mem_of_getElem?
def ad7:=@decide_eq_false
def ad8:=@Int.zero_add
def aec:=@Nat.lt_of_lt_of_le
def aeC:=@List.mem_cons_of_mem
def aeX:=@Bool.and_eq_true
def ae6:=@Nat.ne_of_lt
def afc:=@List.length_cons
def afg:=@List.mem_cons_self
def afj:=@PySem.W.mg_of
def afq:=@PySem.Heap.get?_push_size
def aft:=@List.getElem?_append_left
def afF:=@PySem.F.plainAttrs_list
def afP:=@PySem.PassesOwn.never
def afW:=@Int.mul_right_comm
def afY:=@List.getElem?_eq_getElem
def aga:=@decide_eq_true
def agc:=@Nat.lt_of_le_of_lt
def agd:=@PySem.F.type_list_append
def ago:=@PySem.F.slot_list_append
def agt:=@List.map_cons
def agB:=@Nat.le_trans
def agM:=@List.getElem?_append_right
def agN:=@List.range_succ
def agT:=@or_false
def ag9:=@Int.mul_pos
def ahF:=@PySem.wpAny_mono
def ahP:=@decide_eq_true_eq
def ahU:=@List.take_length
def ah0:=@List.mem_append_right
def aiv:=@Nat.zero_le
def aiD:=@Nat.testBit_and
def aiT:=@List.find?_cons
def ajc:=@List.eq_nil_of_length_eq_zero
def ajo:=@List.length_singleton
def ajp:=@List.length_filter_le
def ajz:=@Nat.pow_le_pow_right
def ajM:=@Nat.lt_irrefl
def akl:=@Int.mul_assoc
def akL:=@List.foldl_append
def akM:=@Int.toNat_natCast
def akQ:=@PySem.W.mg_none_of
def akT:=@PyProof.Rows.callWith_type1
def akU:=@Nat.eq_of_testBit_eq
def akV:=@List.getElem?_set_ne
def akW:=@Int.eq_of_mul_eq_mul_right
def ak5:=@List.getElem?_set_self
def aln:=@List.length_set
def alw:=@List.append_nil
def alO:=@Int.le_of_lt
def amj:=@Bool.eq_iff_iff
def amJ:=@PySem.wpAny_truthy_bool
def amL:=@List.filter_append
def amN:=@List.lookup_cons
def amO:=@PySem.mem_of_lookup
def anm:=@List.getElem_of_mem
def ann:=@Int.toNat_of_nonneg
def ano:=@Int.mul_lt_mul_of_pos_right
def anp:=@Int.le_refl
def anq:=@Ne.symm
def anr:=@Int.lt_of_mul_lt_mul_right
def ans:=@List.length_replicate
def ant:=@Int.natCast_nonneg
def anu:=@Option.map_some
def anv:=@congrArg
def anw:=@List.getElem?_range
def anx:=@List.any_cons
def anz:=@Int.mul_le_mul_of_nonneg_left
def anA:=@List.take_succ
def anB:=@List.take_of_length_le
def anC:=@Nat.le_succ
def anD:=@Int.ne_of_gt
def anE:=@PySem.Heap.get?_update_other
def anF:=@Bool.not_eq_true'
def anG:=@PySem.F.excBase_ValueError
def anH:=@PySem.wpAny_passesOwn
def anI:=@PySem.Heap.get?_update_self
def anJ:=@Nat.le_add_right
def anK:=@List.all_eq_true
def anL:=@PySem.wpAny_pyIter_enum
def anM:=@List.map_map
def anN:=@List.getElem?_take_of_lt
def anO:=@Int.mul_fdiv_cancel_left
def anP:=@Int.mul_comm
def anQ:=@Int.add_zero
def anR:=@PySem.F.slot_tuple_iterator_next
def anS:=@if_true
def anT:=@List.length_nil
def anU:=@Bool.false_eq_true
def anV:=@PySem.wpAny_holding
def anW:=@PySem.W.kia_one
def anX:=@PySem.Paired.length
def anY:=@Nat.le_of_lt
def anZ:=@List.mem_append_left
def an0:=@PySem.wpAny_loadPart_at
def an1:=@PySem.plainObj_wpAny_Assign_Attribute
def an2:=@if_false
def an3:=@not_or
def an4:=@Nat.not_lt_zero
def an5:=@List.getElem?_concat_length
def an6:=@Nat.lt_trans
def an7:=@Nat.add_comm
def an8:=@PySem.Heap.get?_none_of_le
def an9:=@PySem.Calls.evalArgs_plain
def aoa:=@PySem.wpAny_standAt
def aob:=@List.nodup_nil
def aoc:=@Int.mul_nonneg
def aod:=@PySem.Within.cons
def aoe:=@PySem.F.args_tuple_add_2
def aog:=@Nat.lt_succ_of_lt
def aoh:=@PySem.F.entry_tuple_add
def aoi:=@List.getElem?_replicate
def aoj:=@List.filter_cons_of_pos
def aok:=@List.filter_cons_of_neg
def aol:=@PySem.wpAny_Call_Name_kw
def aom:=@PySem.codeAny_mono
def aon:=@Nat.succ_ne_self
def aoo:=@Nat.and_le_right
def aop:=@PySem.F.slot_tuple_add
def aoq:=@PySem.wpAny_dictEntries
def aor:=@PySem.F.slot_dict_get
def aos:=@Nat.pow_succ
def aot:=@Nat.ne_of_gt
def aou:=@Nat.le_of_ble_eq_true
def aov:=@List.nil_append
def aow:=@List.getElem?_eq_none
def aox:=@PySem.AutoSeq1.wpAny_loadPart'
def aoy:=@Int.mul_lt_mul_right
def aoz:=@Int.natAbs_mul
def aoA:=@Nat.testBit_two_pow
def aoB:=@List.filterMap_cons
def aoC:=@PySem.Calls.callWith_builtin
def aoD:=@Array.length_toList
def aoE:=@PySem.wpAny_specialOf
def aoG:=@PySem.wpAny_execs_nil
def aoH:=@PySem.W.of_hideAll
def aoI:=@List.getElem?_tail
def aoJ:=@List.cons.inj
def aoK:=@Int.emod_lt_of_pos
def aoL:=@of_decide_eq_true
def aoM:=@Option.isSome_map
def aoN:=@List.append_assoc
def aoO:=@List.map_set
def aoP:=@PySem.Heap.size_push
def aoQ:=@PySem.sizeLine_eq
def aoR:=@beq_self_eq_true
def aoS:=@PySem.Paired.snoc
def aoT:=@Nat.lt_succ_self
def aoU:=@List.filter_cons
def aoV:=@PySem.Heap.SameBut.update
def aoW:=@PySem.tupleKind_room_in1
def aoX:=@and_congr_right
def aoY:=@PySem.W.looks_clsIn
def aoZ:=@Nat.two_pow_add_eq_or_of_lt
def ao0:=@List.of_mem_zip
def ao1:=@List.mem_filter
def ao2:=@List.cons.injEq
def ao3:=@Int.emod_nonneg
def ao4:=@PySem.Calls.spliced_cons
def ao5:=@Bool.or_eq_true
def ao6:=@Int.fdiv_eq_ediv_of_nonneg
def ao7:=@PySem.wpAny_newObj_type
def ao8:=@Nat.testBit_or
def ao9:=@Nat.lt_pow_two_of_testBit
def apa:=@List.mem_or_eq_of_mem_set
def apb:=@Bool.not_false
def apc:=@Bool.false_and
def apd:=@PySem.F.type_list_extend
def ape:=@PySem.F.slot_list_extend
def apf:=@PySem.wpAny_lookBehind
def apg:=@PySem.pastItsLine_dict
def aph:=@PySem.noFill_tuple_add
def api:=@decide_eq_false_iff_not
def apj:=@PySem.F.args_dict_get_3
def apk:=@Nat.add_sub_cancel_left
def apl:=@Int.ofNat.inj
def apm:=@Int.eq_ofNat_of_zero_le
def apn:=@Bool.not_true
def apo:=@PySem.Around.in1_units
def app:=@PySem.F.entry_dict_get
def apq:=@Nat.le_of_succ_le_succ
def apr:=@List.pairwise_lt_range
def aps:=@List.flatMap_singleton
def apt:=@List.filter_eq_nil_iff
def apv:=@PySem.F.args_tuple_iterator_next_1
def apw:=@PySem.wpAny_field
def apx:=@List.map_nil
def apy:=@List.getElem?_zipWith
def apz:=@List.getElem?_toArray
def apA:=@Int.le_trans
def apB:=@PySem.F.entry_tuple_iterator_next
def apC:=@Bool.or_true
def apD:=@PySem.wpAny_letOwnedTupleGo_enum
def apE:=@PySem.Calls.Name_function_global
def apF:=@PySem.wpAny_seqItems
def apG:=@PySem.wpAny_loadPart
def apH:=@PySem.W.hideAll_none
def apI:=@PySem.PyData.int.inj
def apK:=@Nat.mul_one
def apL:=@List.replicate_succ
def apM:=@List.flatMap_append
def apN:=@Int.mul_neg
def apO:=@PySem.wpAny_call
def apP:=@true_and
def apQ:=@of_decide_eq_false
def apR:=@decide_eq_true_iff
def apS:=@PySem.W.any_some
def apT:=@List.mem_singleton
def apU:=@List.contains_cons
def apV:=@Array.forIn_toList
def apW:=@Array.find?_toList
def apX:=@Array.append_assoc
namespace L2
open PySem PySem.Spec PyProof.Rows
variable {C dx it:Addr} {H:Hp} {Q:VK} {ch fp:List Addr} {es:List Expr} {g:TG} {o:HO} {pins:List (Addr×Obj)} {qual:Str} {s':Shared} {t':Nat} {tb:TS} {te:TE} {tg:Expr} {u:Value} {us:List Value} {v:V} {xs:List V} {U:St}
abbrev Key:=Sum Int Str
def u9:Key->Value->Bool
 | .inl k,v=>Value.isInt k v
 | .inr x,v=>Value.isStrOf x v
def aeR (w:World):Key->Int
 | .inl k=>hashInt k
 | .inr x=>hashStr w x
theorem de:∀ {k:Key} {v:Value},u9 k v=true->(∃ i t,k=Sum.inl i/\v=Value.int i t)∨(∃ x t,k=Sum.inr x/\v=Value.str x t)
 | .inl i,v,h=>by
   obtain ⟨t,e⟩:=Value.isInt_shape (k:=i) (v:=v) h
   exact .inl ⟨i,t,rfl,e⟩
 | .inr x,v,h=>by
   obtain ⟨t,e⟩:=Value.isStrOf_shape (x:=x) (v:=v) h
   exact .inr ⟨x,t,rfl,e⟩
theorem En (i:Int) (t:Tok):u9 (.inl i) (.int i t)=true:=by simp [u9,Value.isInt]
theorem Dr (x:Str) (t:Tok):u9 (.inr x) (.str x t)=true:=by simp [u9,Value.isStrOf]
theorem Om (a b:Int):decide ((Sum.inl a:Key)=Sum.inl b)=(a == b):=by
 by_cases e:a=b
 . subst e;simp
 . have h:¬ (Sum.inl a:Key)=Sum.inl b:=λ q=>e (Sum.inl.inj q)
   rw [ad7 h]
   exact (beq_eq_false_iff_ne.mpr e).symm
theorem Nl (a b:Str):decide ((Sum.inr a:Key)=Sum.inr b)=decide (a=b):=by
 by_cases e:a=b
 . subst e;simp
 . have h:¬ (Sum.inr a:Key)=Sum.inr b:=λ q=>e (Sum.inr.inj q)
   rw [ad7 h,ad7 e]
theorem MQ (a:Int) (b:Str):decide ((Sum.inl a:Key)=Sum.inr b)=false:=ad7 (λ q=>nomatch q)
theorem N7 (a:Str) (b:Int):decide ((Sum.inr a:Key)=Sum.inl b)=false:=ad7 (λ q=>nomatch q)
def cn (prog:Program) (w:World):PySem.KeyKind prog w Key where
 is:=u9
 hash:=aeR w
 inj:=λ v a b ha hb=>by
   rcases de ha with ⟨i,t,rfl,rfl⟩|⟨x,t,rfl,rfl⟩
   . rcases de hb with ⟨j,u,rfl,e⟩|⟨y,u,rfl,e⟩
     . injection e with e1 _;rw [e1]
     . exact nomatch e
   . rcases de hb with ⟨j,u,rfl,e⟩|⟨y,u,rfl,e⟩
     . exact nomatch e
     . injection e with e1 _;rw [e1]
 byValue:=λ k v h=>by
   rcases de h with ⟨i,t,rfl,rfl⟩|⟨x,t,rfl,rfl⟩<;>rfl
 pyHash:=λ hv h=>by
   rcases de hv with ⟨i,t,rfl,rfl⟩|⟨x,t,rfl,rfl⟩
   . exact wpAny_pyHash_int h
   . exact wpAny_pyHash_str h
 eqBool:=λ hu hv h=>by
   rcases de hu with ⟨i,t,rfl,rfl⟩|⟨x,t,rfl,rfl⟩
   . rcases de hv with ⟨j,u,rfl,rfl⟩|⟨y,u,rfl,rfl⟩
     . rw [Om] at h;exact wpAny_eqBool_int h
     . rw [MQ] at h;exact SeqAt.EqAt.int_str i t y u _ _ _ _ h
   . rcases de hv with ⟨j,u,rfl,rfl⟩|⟨y,u,rfl,rfl⟩
     . rw [N7] at h;exact SeqAt.EqAt.str_int x t j u _ _ _ _ h
     . rw [Nl] at h;exact wpAny_eqBool_str h
 «strs»:=λ k x t v h=>by
   rcases de h with ⟨i,u,rfl,e⟩|⟨y,u,rfl,e⟩
   . exact nomatch e
   . injection e with e1 _
     subst e1
     cases v<;>rfl
theorem zV (prog:Program) (w:World) (i:Int) (t:Tok):(cn prog w).is (.inl i) (.int i t)=true:=En i t
theorem zu (prog:Program) (w:World) (x:Str) (t:Tok):(cn prog w).is (.inr x) (.str x t)=true:=Dr x t
inductive V where
 | b9|bl (b:Bool)|int (i:Int)|str (x:Str)|DE (b:Array UInt8)|LQ (b:UInt64)|ref (a:Addr)|ty (n:String)
 deriving DecidableEq
def RelV:V->Value->Prop
 | .b9,u=>u=Value.none
 | .bl b,u=>u=Value.bool b
 | .int i,u=>∃ t,u=Value.int i t
 | .str x,u=>∃ t,u=Value.str x t
 | .DE b,u=>∃ t,u=Value.bytes b t
 | .LQ b,u=>∃ t,u=Value.float b t
 | .ref a,u=>u=Value.ref a
 | .ty n,u=>u=Value.type n
abbrev Vals:List V->List Value->Prop:=Paired RelV
theorem Vals.length (r:Vals xs us):xs.length=us.length:=anX r
theorem Vals.get:∀ {xs:List V} {us:List Value} {i:Nat} {x:V},Vals xs us->xs[i]?=some x->∃ u,us[i]?=some u/\RelV x u
 | _,_,_,_,.nil,e=>by simp at e
 | _,_,0,_,.cons r _,e=>by simp at e;subst e;exact ⟨_,rfl,r⟩
 | _,_,i+1,x,.cons _ t,e=>by
   obtain ⟨u,h1,h2⟩:=Vals.get (i:=i) (x:=x) t (by simpa using e)
   exact ⟨u,by simpa using h1,h2⟩
theorem Vals.set {x:V} (r:RelV x u):∀ {xs:List V} {us:List Value} (i:Nat),Vals xs us->Vals (xs.set i x) (us.set i u)
 | _,_,_,.nil => .nil
 | _,_,0,.cons _ t => .cons r t
 | _,_,i+1,.cons q t => .cons q (Vals.set r i t)
theorem Vals.append:∀ {xs ys:List V} {us ws:List Value},Vals xs us->Vals ys ws->Vals (xs++ys) (us++ws)
 | _,_,_,_,.nil,s=>s
 | _,_,_,_,.cons r t,s => .cons r (Vals.append t s)
theorem Vals.take:∀ {xs:List V} {us:List Value} (n:Nat),Vals xs us->Vals (xs.take n) (us.take n)
 | _,_,0,_ => .nil
 | _,_,_+1,.nil => .nil
 | _,_,n+1,.cons r t => .cons r (Vals.take n t)
theorem Vals.drop:∀ {xs:List V} {us:List Value} (n:Nat),Vals xs us->Vals (xs.drop n) (us.drop n)
 | _,_,0,r=>r
 | _,_,_+1,.nil => .nil
 | _,_,n+1,.cons _ t=>Vals.drop n t
def jy:Option V->Option Value->Prop
 | some v,some u=>RelV v u
 | none,none=>True
 | _,_=>False
def KV {κ:Type}:List (κ×V)->List (κ×Value)->Prop:=Paired λ (p:κ×V) (q:κ×Value)=>p.1=q.1/\RelV p.2 q.2
def kV:Key->V
 | .inl i => .int i
 | .inr x => .str x
inductive HO where
 | lst (xs:List V)
 | tup (xs:List V)
 | dK (az:List (Key×V))|dT (az:List (List Key×V))
 | set (S:Int->Bool) (n:Nat)
 | ins (C dx:Addr) (fs:List (Str×V))
 | own (x:Addr)
 | xd (fs:List (Str×V))
 | met (f x:Addr)
 | Xl (lo hi:Int)
 | zA (o:Obj) (u:HO)
 | Kb (ps:Array Value)
 | ext (φ:Heap->Prop)
abbrev Hp:=Addr->Option HO
def upd (H:Hp) (a:Addr) (o:HO):Hp:=λ b=>if b=a then some o else H b
theorem ag {a:Addr}:upd H a o a=some o:=by unfold upd;rw [acS rfl]
theorem ax {a b:Addr} (h:b≠a):upd H a o b=H b:=by unfold upd;rw [acO h]
theorem BX {a:Addr} {u:HO}:upd (upd H a o) a u=upd H a u:=by
 funext b;unfold upd;split<;>rfl
theorem Ux {a b:Addr} {u:HO} (h:H a=some o) (h':H b=some u) (d:o≠u):a≠b:=by
 intro e;subst e;rw [h] at h';exact d (ac2 h')
theorem av {a b:Addr} (h:H a=some o) (h':H b=none):a≠b:=by
 intro e;subst e;rw [h] at h';cases h'
section
variable (P:Program) (w:World)
def cS (H:Hp) (h:Heap) (a:Addr):HO->Prop
 | .lst xs=>xs.length<=sizeLine/\∃ (br:List Value) (n:Nat),Vals xs br/\h.get? a=some { cls:=.type "list",data:=.seq br.toArray n }
 | .tup xs=>xs.length<=sizeLine/\∃ br:List Value,Vals xs br/\IsTup h a br.toArray
 | .dK az=>az.length<=sizeLine/\(a == sysModules)=false/\∃ vs,KV az vs/\h.DictOf (cn P w) a vs
 | .dT az=>az.length<=sizeLine/\(a == sysModules)=false/\∃ xs:List (List Key×Addr×Value),
     Paired (λ (p:List Key×V) (q:List Key×Addr×Value)=>p.1=q.1/\H q.2.1=some (.tup (p.1.map kV))/\RelV p.2 q.2.2) az xs /\
     ∃ o es ep,h.get? a=some o/\o.ExactDict/\o.data = .dict es ep/\es.toList=xs.map (entryOfKey (tupleKind (cn P w)))/\(xs.map (·.1)).Nodup
 | .set S n=>h.SetOf (intKind P w) a S n
 | .ins C dx fs=>H dx=some (.own a)/\fs.length<=1000/\dx≠a/\h.get? a=some (W.instObj C dx) /\
     ∃ mA,h.Ns1 dx mA/\(∀ f,jy (fs.lookup f) (mA f))/\PySem.Within mA (fs.map (·.1))
 | .own _=>∃ o,h.get? a=some o
 | .xd fs=>∃ mA,h.Ns1 a mA/\∀ f,jy (fs.lookup f) (mA f)
 | .Xl lo hi=>∃ t u v,h.get? a=some { cls:=.type "range",data:=.fields #[.int lo t,.int hi u,.int 1 v]}
 | .zA o u=>h.get? a=some o/\cS H h a u
 | .Kb ps=>h.get? a=some { cls:=.none,data:=.fields ps }
 | .met f x=>h.get? a=some (W.methodObj (.ref f) (.ref x))
 | .ext φ=>φ h/\(∃ o,h.get? a=some o)/\∀ h1 h2:Heap,φ h1->(∀ o,h1.get? a=some o->h2.get? a=some o)->φ h2
def kW (H:Hp) (h:Heap):Prop:=∀ a o,H a=some o->cS P w H h a o
end
section
variable {P:Program} {w:World} {H H':Hp} {h h':Heap} {a:Addr} {o:HO}
theorem cS.lt (x:cS P w H h a o):a<h.objs.size:=by
 cases o with
 | lst xs=>obtain ⟨_,_,_,_,e⟩:=x;exact ado e
 | tup xs=>obtain ⟨_,_,_,p⟩:=x;exact p.lt
 | dK az=>obtain ⟨_,_,_,_,o,_,_,e,_⟩:=x;exact ado e
 | dT az=>obtain ⟨_,_,_,_,o,_,_,e,_⟩:=x;exact ado e
 | set S n=>obtain ⟨o,_,_,_,e,_⟩:=x;exact ado e
 | ins C dx fs=>obtain ⟨_,_,_,e,_⟩:=x;exact ado e
 | own y=>obtain ⟨_,e⟩:=x;exact ado e
 | xd fs=>obtain ⟨_,⟨_,_,_,e,_⟩,_⟩:=x;exact ado e
 | Xl lo hi=>obtain ⟨_,_,_,e⟩:=x;exact ado e
 | zA ob u=>obtain ⟨e,_⟩:=x;exact ado e
 | Kb ps=>exact ado (show h.get? a=some _ from x)
 | met f y=>exact ado (show h.get? a=some _ from x)
 | ext φ=>obtain ⟨_,⟨_,e⟩,_⟩:=x;exact ado e
theorem Paired.EM {α β:Type} {F G:α->β->Prop}:∀ {l₁:List α} {l₂:List β},Paired F l₁ l₂->(∀ a b,F a b->G a b)->Paired G l₁ l₂
 | _,_,.nil,_ => .nil
 | _,_,.cons r t,f => .cons (f _ _ r) (Paired.EM t f)
theorem cS.gf (x:cS P w H h a o) (k:∀ b u,(b=a∨H b=some (.own a))->h.get? b=some u->h'.get? b=some u) (ho:∀ b,H b=some (.own a)->H' b=some (.own a)) (ht:∀ b xs,H b=some (.tup xs)->H' b=some (.tup xs)):cS P w H' h' a o:=by
 induction o with
 | lst xs=>obtain ⟨z,br,n,r,e⟩:=x;exact ⟨z,br,n,r,k _ _ (.inl rfl) e⟩
 | tup xs=>obtain ⟨z,br,r,ob,e,c⟩:=x;exact ⟨z,br,r,ob,k _ _ (.inl rfl) e,c⟩
 | dK az=>obtain ⟨z,y,vs,r,ob,es,ep,e,c⟩:=x;exact ⟨z,y,vs,r,ob,es,ep,k _ _ (.inl rfl) e,c⟩
 | dT az =>
   obtain ⟨z,y,xs,r,ob,es,ep,e,c⟩:=x
   exact ⟨z,y,xs,Paired.EM r λ p q z=>⟨z.1,ht _ _ z.2.1,z.2.2⟩,ob,es,ep,k _ _ (.inl rfl) e,c⟩
 | set S n=>obtain ⟨ob,es,ep,t,e,c⟩:=x;exact ⟨ob,es,ep,t,k _ _ (.inl rfl) e,c⟩
 | ins C dx fs =>
   obtain ⟨d,z,ne,e,mA,⟨od,es,ep,e2,c⟩,r⟩:=x
   exact ⟨ho _ d,z,ne,k _ _ (.inl rfl) e,mA,⟨od,es,ep,k _ _ (.inr d) e2,c⟩,r⟩
 | own y=>obtain ⟨ob,e⟩:=x;exact ⟨ob,k _ _ (.inl rfl) e⟩
 | xd fs=>obtain ⟨mA,⟨od,es,ep,e,c⟩,r⟩:=x;exact ⟨mA,⟨od,es,ep,k _ _ (.inl rfl) e,c⟩,r⟩
 | Xl lo hi=>obtain ⟨t,u,v,e⟩:=x;exact ⟨t,u,v,k _ _ (.inl rfl) e⟩
 | zA ob u ih=>obtain ⟨e,q⟩:=x;exact ⟨k _ _ (.inl rfl) e,ih q⟩
 | Kb ps =>
   have e:h.get? a=some { cls:=.none,data:=.fields ps }:=x
   show h'.get? a=some { cls:=.none,data:=.fields ps }
   exact k a _ (.inl rfl) e
 | met f y =>
   have e:h.get? a=some (W.methodObj (.ref f) (.ref y)):=x
   show h'.get? a=some (W.methodObj (.ref f) (.ref y))
   exact k a _ (.inl rfl) e
 | ext φ=>obtain ⟨p,⟨o,e⟩,st⟩:=x;exact ⟨st _ _ p λ o q=>k _ _ (.inl rfl) q,⟨o,k _ _ (.inl rfl) e⟩,st⟩
theorem kW.lt (x:kW P w H h) (e:H a=some o):a<h.objs.size:=(x a o e).lt
theorem kW.fresh (x:kW P w H h) (e:h.objs.size<=a):H a=none:=by
 cases q:H a with
 | none=>rfl
 | some u=>exact absurd (aec (x.lt q) e) (ajM _)
theorem kW.kept (x:kW P w H h) (k:∀ b u,h.get? b=some u->h'.get? b=some u):kW P w H h':=λ a o e =>
 (x a o e).gf (λ b u _ q=>k b u q) (λ _ q=>q) λ _ _ q=>q
theorem kW.laid (x:kW P w H h) (k:∀ b u,h.get? b=some u->h'.get? b=some u) (hp:h.objs.size<=a) (new:cS P w (upd H a o) h' a o):kW P w (upd H a o) h':=λ b u e=>by
 have hn:=x.fresh hp
 by_cases hb:b=a
 . subst hb;rw [ag] at e;cases e;exact new
 . rw [ax hb] at e
   exact (x b u e).gf (λ c v _ q=>k c v q) (λ c q=>by rw [ax (av q hn)];exact q) λ c xs q=>by rw [ax (av q hn)];exact q
end
def Rd (H:Hp) (a:Addr) (u:HO):Prop:=H a=some u∨∃ o,H a=some (.zA o u)
theorem Rd.ok {P:Program} {w:World} {h:Heap} {a:Addr} {u:HO} (r:Rd H a u) (x:kW P w H h):cS P w H h a u:=by
 rcases r with r|⟨o,r⟩
 . exact x a u r
 . obtain ⟨_,q⟩:=x a _ r
   exact q
def TU:Option HO->Prop
 | some (.lst _)=>True
 | some (.dK _)=>True
 | some (.dT _)=>True
 | some (.set _ _)=>True
 | some (.ins _ _ _)=>True
 | some (.ext _)=>True
 | _=>False
section
variable {P:Program} {w:World} {H:Hp} {h h':Heap} {x e:Addr} {o':HO}
theorem kW.write (ok:kW P w H h) (mu:TU (H x)) (he:e=x∨H e=some (.own x)) (k:∀ b u,b≠e->h.get? b=some u->h'.get? b=some u) (CH:∃ u,h'.get? e=some u) (new:cS P w (upd H x o') h' x o'):kW P w (upd H x o') h':=λ b u q=>by
 have Rv:∀ c y,H c=some (.own y)->c≠x:=λ c y r z=>by subst z;rw [r] at mu;exact mu
 have abm:∀ c xs,H c=some (.tup xs)->c≠x:=λ c xs r z=>by subst z;rw [r] at mu;exact mu
 by_cases hb:b=x
 . subst hb;rw [ag] at q;cases q;exact new
 .
  rw [ax hb] at q
  by_cases Nk:b=e
  .
   have q':H b=some (.own x):=by
     rcases he with z|z
     . exact absurd (Nk.trans z) hb
     . rw [Nk];exact z
   rw [q] at q';cases q'
   obtain ⟨v,hv⟩:=CH
   exact ⟨v,by rw [Nk];exact hv⟩
  .
   refine (ok b u q).gf (λ c v hc r=>k c v ?_ r) (λ c r=>by rw [ax (Rv c b r)];exact r) λ c xs r=>by rw [ax (abm c xs r)];exact r
   rcases hc with rfl|hc
   . exact Nk
   . rintro rfl
     rcases he with z|z
     . exact Rv c b hc z
     . rw [hc] at z;cases z;exact hb rfl
end
structure Un (fs ex:List Addr) (H H':Hp) (h h':Heap):Prop where
 keep:∀ b o,h.get? b=some o->H b=none->b∉fs->b∉ex->h'.get? b=some o
 slot:∀ b o,h.get? b=some o->H b=none->b∈fs->b∉ex->∃ sl,h'.get? b=some { o with slots:=sl }
 free:∀ b o,h.get? b=some o->H b=none->b∉ex->H' b=none
 there:∀ b o,h.get? b=some o->b∉ex->∃ o',h'.get? b=some o'
 p9:∀ b xs,H b=some (.tup xs)->H' b=some (.tup xs)
 o6:∀ b o u,H b=some (.zA o u)->H' b=some (.zA o u)
 p8:∀ b ps,H b=some (.Kb ps)->∃ more,H' b=some (.Kb (ps++more))
section
variable {fs fs' ex YO:List Addr} {H H1 H2:Hp} {h h1 h2 h':Heap} {a x e:Addr} {o:HO}
theorem Un.any (u:Un fs ex H H1 h h1) {b:Addr} {ob:Obj} (q:h.get? b=some ob) (n:H b=none) (hx:b∉ex):∃ sl,h1.get? b=some { ob with slots:=sl }:=by
 by_cases hb:b∈fs
 . exact u.slot b ob q n hb hx
 . exact ⟨ob.slots,u.keep b ob q n hb hx⟩
theorem Un.kept (k:∀ b u,h.get? b=some u->h'.get? b=some u):Un fs ex H H h h' :=
 ⟨λ b ob q _ _ _=>k b ob q,λ b ob q _ _ _=>⟨ob.slots,k b ob q⟩,λ _ _ _ n _=>n,λ b ob q _=>⟨ob,k b ob q⟩,λ _ _ q=>q,λ _ _ _ q=>q,λ _ ps q=>⟨#[],by rw [q];simp⟩⟩
theorem Un.refl:Un fs ex H H h h:=Un.kept λ _ _ q=>q
theorem Un.laid (k:∀ b u,h.get? b=some u->h'.get? b=some u) (hp:h.objs.size<=a) (hn:H a=none):Un fs ex H (upd H a o) h h' where
 keep:=λ b u q _ _ _=>k b u q
 slot:=λ b u q _ _ _=>⟨u.slots,k b u q⟩
 free:=λ b u q n _=>by rw [ax (ae6 (aec (ado q) hp))];exact n
 there:=λ b u q _=>⟨u,k b u q⟩
 p9:=λ b xs q=>by rw [ax (av q hn)];exact q
 o6:=λ b u xs q=>by rw [ax (av q hn)];exact q
 p8:=λ b ps q=>⟨#[],by rw [ax (av q hn),q];simp⟩
theorem Un.write (mu:TU (H x)) (he:e=x∨H e=some (.own x)) (k:∀ b u,b≠e->h.get? b=some u->h'.get? b=some u) (CH:∃ u,h'.get? e=some u):Un fs ex H (upd H x o) h h':=by
 have hx:∀ b,H b=none->b≠x:=λ b n z=>by subst z;rw [n] at mu;exact mu
 have hb:∀ b,H b=none->b≠e:=λ b n z=>by
   subst z
   rcases he with r|r
   . exact hx b n r
   . rw [n] at r;cases r
 have hm:∀ b u,H b=some u->¬ TU (some u)->b≠x:=λ b u q nm z=>by subst z;rw [q] at mu;exact nm mu
 refine ⟨λ b u q n _ _=>k b u (hb b n) q,λ b u q n _ _=>⟨u.slots,k b u (hb b n) q⟩,λ b u q n _=>by rw [ax (hx b n)];exact n,λ b u q _=>?_,
   λ b xs q=>by rw [ax (hm b _ q λ z=>z)];exact q,λ b u xs q=>by rw [ax (hm b _ q λ z=>z)];exact q,λ b ps q=>⟨#[],by rw [ax (hm b _ q λ z=>z),q];simp⟩⟩
 by_cases Nk:b=e
 . subst Nk;exact CH
 . exact ⟨u,k b u Nk q⟩
end
def Yy (h:Heap) (H:Hp):List Addr:=(List.range h.objs.size).filter λ a=>(H a).isSome
def wE (h:Heap) (H:Hp):Heap:=W.hideAll h (Yy h H)
theorem Eo (h:Heap) (H:Hp):(wE h H).objs.size=h.objs.size:=W.hideAll_size _ _
theorem FN {h:Heap} {b:Addr} {o:Obj} (e:h.get? b=some o) (n:H b=none):(wE h H).get? b=some o :=
 W.hideAll_get _ e λ hm=>by
   have q:(H b).isSome=true:=(List.mem_filter.mp hm).2
   rw [n] at q;simp at q
theorem IA {h:Heap} {b:Addr} {o:Obj} (e:(wE h H).get? b=some o):h.get? b=some o/\H b=none:=by
 have e':h.get? b=some o:=aoH (Yy h H) e
 refine ⟨e',?_⟩
 cases q:H b with
 | none=>rfl
 | some x =>
   have hm:b∈Yy h H:=List.mem_filter.mpr ⟨List.mem_range.mpr (ado e'),by simp [q]⟩
   have z:(wE h H).get? b=none:=apH (Yy h H) hm
   rw [z] at e;cases e
def IC (g h:Heap) (L:Addr):List (Addr×Obj):=(List.range h.objs.size).filterMap λ a=>if a=L∨(g.get? a).isSome=true then none else (h.get? a).map λ o=>(a,o)
def rest (g h:Heap) (L d:Addr):List (Addr×Obj):=(IC g h L).filter λ p=>decide (p.1≠d)
structure Mod (K:W.Frag) (mg:Str->Option Value) (base:Heap):Prop where
 LK:K.In base
 glob:base.Ns mainGlobals mg
 blt:∃ mb,base.Ns builtinsNs mb/\∀ x:Str,x ≠ "__name__"->mb x=bootBuiltins x
 nolimit:base.NoLimit
structure Cx where
 prog:Program
 w:World
 K:W.Frag
 mg:Str->Option Value
 base:Heap
 A:Around
 N:List Str
 s₀:Shared
 H₀:Hp
 env:Env
 outer:List Env
 stack:List Env
 ex:List Addr
 fn:Str->Bool
 calm:Bool
 pn:List (Addr×Obj)
 xe:Value->Shared->Prop
def iS (l:List Env):List Addr:=l.filterMap (·.frame)
abbrev Cx.fs (X:Cx):List Addr:=iS X.outer
def YD (sc:Scope) (x:Str):Prop:=sc.names.lookup x=some .local∨sc.names.lookup x=some .cell∨sc.names.lookup x=some .free
def Loc (sc:Scope) (x:Str):Prop:=sc.names.lookup x=some .local∨sc.names.lookup x=some .cell
def Look (env:Env) (h:Heap) (m:Str->Option Value) (x:Str) (u:Value):Prop :=
 (env.kindOf x=some .local/\m x=some u)∨((env.kindOf x=some .cell∨env.kindOf x=some .free)/\∃ c,env.cells.lookup x=some c/\h.IsCell c (some u))
structure Cx.Ok (X:Cx):Prop where
 mod:Mod X.K X.mg X.base
 kind:X.env.scope.kind = .function
 glob:X.env.globals=mainGlobals
 blt:X.env.builtins=builtinsNs
 above:X.s₀.heap.objs.size<=X.env.locals
 inj:∀ x y c,X.env.cells.lookup x=some c->X.env.cells.lookup y=some c->x=y
 has:∀ x,(X.env.kindOf x=some .cell∨X.env.kindOf x=some .free)->∃ c,X.env.cells.lookup x=some c
 QK:∀ x c,X.fn x=true->X.env.cells.lookup x=some c->X.s₀.heap.objs.size<=c
 hd:X.calm=true->X.A.handled=none
 frames:X.A.frames=some X.stack
 YG:X.stack=X.outer∨(X.stack=X.env::X.outer/\X.env.frame=some X.env.locals)
 exf:∀ b∈X.ex,b≠X.env.locals/\∀ x c,X.env.cells.lookup x=some c->c≠b
 bs:∀ b o,X.base.get? b=some o->X.s₀.heap.get? b=some o/\X.H₀ b=none
 LW:X.base.objs.size<=X.s₀.heap.objs.size
 GZ:∀ b o,X.base.get? b=some o->b∉X.ex
 KH:∀ b∈X.ex,b∉X.fs
 ni:X.s₀.heap.FunFrames X.base X.outer
 HX:∀ b∈X.fs,X.H₀ b=none
structure Inv (X:Cx) (pins:List (Addr×Obj)) (U:List (Option V)) (H:Hp) (s:Shared):Prop where
 ok:X.Ok
 os:s.os=X.s₀.os
 bare:AllBare s.gens
 base:Un X.fs X.ex X.H₀ H X.s₀.heap s.heap
 loc:∃ m,s.heap.Ns X.env.locals m/\∀ (i:Nat) (x:Str) (v:V),X.N[i]?=some x->U[i]?=some (some v)->YD X.env.scope x->∃ u,RelV v u/\Look X.env s.heap m x u
 cell:∀ x c,X.env.cells.lookup x=some c->∃ v,s.heap.IsCell c v
 free:H X.env.locals=none
 mj:∀ x c,X.env.cells.lookup x=some c->H c=none
 pin:∀ p∈X.pn++pins,s.heap.get? p.1=some p.2/\H p.1=none/\p.1≠X.env.locals/\p.1∉X.fs/\∀ v,p.2.data ≠ .cell v
 cg:kW X.prog X.w H s.heap
 len:U.length=X.N.length
section
variable {X:Cx} {pins:List (Addr×Obj)} {U:List (Option V)} {H H':Hp} {s:Shared} {h':Heap}
theorem Cx.Ok.mq (ok:X.Ok) {b:Addr} {o:Obj} (e:X.base.get? b=some o):b∉X.fs:=λ hb=>by
 have:=(ok.ni.mem hb).1
 rw [e] at this;cases this
theorem Inv.bs (I:Inv X pins U H s):∀ b o,X.base.get? b=some o->s.heap.get? b=some o/\H b=none:=λ b o e =>
 ⟨I.base.keep b o (I.ok.bs b o e).1 (I.ok.bs b o e).2 (I.ok.mq e) (I.ok.GZ b o e),I.base.free b o (I.ok.bs b o e).1 (I.ok.bs b o e).2 (I.ok.GZ b o e)⟩
theorem Inv.bk (I:Inv X pins U H s):∀ b o,X.base.get? b=some o->s.heap.get? b=some o:=λ b o e=>(I.bs b o e).1
theorem Inv.mod (I:Inv X pins U H s):Mod X.K X.mg X.base:=I.ok.mod
theorem Inv.oE (I:Inv X pins U H s):X.K.In s.heap:=I.ok.mod.LK.keeps I.bk
theorem Inv.lt (I:Inv X pins U H s):X.env.locals<s.heap.objs.size:=let ⟨_,hn,_⟩:=I.loc;hn.lt
theorem Inv.sz (I:Inv X pins U H s):X.s₀.heap.objs.size<=s.heap.objs.size:=agB I.ok.above (anY I.lt)
theorem Inv.am0 (I:Inv X pins U H s) {a:Addr} (h:s.heap.objs.size<=a):a∉X.fs:=λ hb=>by
 obtain ⟨_,o,ho,_⟩:=I.ok.ni.mem hb
 exact absurd (aec (ado ho) (agB I.sz h)) (ajM _)
theorem Inv.NR (I:Inv X pins U H s):∀ x c,X.env.cells.lookup x=some c->c≠X.env.locals:=λ x c e z=>by
 obtain ⟨v,o,ho,hd⟩:=I.cell x c e
 obtain ⟨m,⟨o',es,ep,uV,Ey,_⟩,_⟩:=I.loc
 rw [z,uV] at ho;cases ho;rw [Ey] at hd;cases hd
theorem Inv.ni (I:Inv X pins U H s):s.heap.FunFrames X.base X.outer:=by
 have all:∀ (l:List Env),(∀ b∈iS l,b∈X.fs)->X.s₀.heap.FunFrames X.base l->s.heap.FunFrames X.base l:=by
   intro l
   induction l with
   | nil=>intro _ _;trivial
   | cons env r ih =>
     intro hs hl
     obtain ⟨hk,⟨L,o,hf,hn,ho,hd⟩,hr⟩:=hl
     have hL:L∈X.fs:=hs L (by unfold iS;rw [aoB,hf];exact afg)
     obtain ⟨sl,e⟩:=I.base.slot L o ho (I.ok.HX L hL) hL λ z=>I.ok.KH L z hL
     exact ⟨hk,⟨L,_,hf,hn,e,hd⟩,ih (λ b hb=>hs b (by unfold iS;rw [aoB,hf];exact aeC _ hb)) hr⟩
 exact all X.outer (λ _ hb=>hb) I.ok.ni
theorem Inv.stack (I:Inv X pins U H s):s.heap.FunFrames X.base X.stack:=by
 rcases I.ok.YG with e|⟨e,hf⟩
 . rw [e];exact I.ni
 .
  rw [e]
  obtain ⟨m,hn,_⟩:=I.loc
  refine .cons (by rw [I.ok.kind];decide) hf hn ?_ I.ni
  exact an8 (agB I.ok.LW I.ok.above)
theorem Inv.Bg (I:Inv X pins U H s):∀ b∈iS X.stack,b∈X.env.locals::X.fs:=λ b hb=>by
 rcases I.ok.YG with e|⟨e,hf⟩
 . rw [e] at hb;exact aeC _ hb
 .
  rw [e] at hb
  unfold iS at hb
  rw [aoB,hf] at hb
  exact hb
theorem Inv.mT (I:Inv X pins U H s):∀ b∈iS X.stack,H b=none:=λ b hb=>by
 rcases List.mem_cons.mp (I.Bg b hb) with e|hb
 . rw [e];exact I.free
 . obtain ⟨_,o,ho,_⟩:=I.ok.ni.mem hb
   exact I.base.free b o ho (I.ok.HX b hb) λ z=>I.ok.KH b z hb
theorem Inv.step {g':Array GenState} {t':Nat} {d':Drawn} (I:Inv X pins U H s) (wY:∀ b∈ch,(b∈X.ex∨X.s₀.heap.objs.size<=b)/\b≠X.env.locals/\(∀ x c,X.env.cells.lookup x=some c->c≠b)/\∀ p∈X.pn++pins,p.1≠b) (keep:∀ b o,b≠X.env.locals->b∉X.fs->b∉ch->s.heap.get? b=some o->H b=none->h'.get? b=some o) (slot:∀ b o,b≠X.env.locals->b∈X.fs->b∉ch->s.heap.get? b=some o->H b=none->∃ sl,h'.get? b=some { o with slots:=sl }) (free:∀ b o,b∉ch->s.heap.get? b=some o->H b=none->H' b=none) (there:∀ b o,b∉ch->s.heap.get? b=some o->∃ o',h'.get? b=some o') (p9:∀ b xs,H b=some (.tup xs)->H' b=some (.tup xs)) (o6:∀ b o u,H b=some (.zA o u)->H' b=some (.zA o u)) (p8:∀ b ps,H b=some (.Kb ps)->∃ more,H' b=some (.Kb (ps++more))) (ns:∀ m,s.heap.Ns X.env.locals m->h'.Ns X.env.locals m) (cg:kW X.prog X.w H' h') (hg:AllBare g') :
   Inv X pins U H' { s with heap:=h',gens:=g',drawn:=d',toks:=t' }:=by
 have neL:∀ b o,X.s₀.heap.get? b=some o->b≠X.env.locals:=λ b o e=>ae6 (aec (ado e) I.ok.above)
 have Yq:∀ b o,X.s₀.heap.get? b=some o->b∉X.ex->b∉ch:=λ b o e hx hb=>by
   rcases (wY b hb).1 with z|z
   . exact hx z
   . exact absurd (aec (ado e) z) (ajM _)
 have cellK:∀ x c,X.env.cells.lookup x=some c->∀ v,s.heap.IsCell c v->h'.IsCell c v:=λ x c e v ⟨o,ho,hd⟩=>by
   have Up:c∉ch:=λ z=>(wY c z).2.2.1 x c e rfl
   by_cases hc:c∈X.fs
   . obtain ⟨sl,q⟩:=slot c o (I.NR x c e) hc Up ho (I.mj x c e)
     exact ⟨_,q,hd⟩
   . exact ⟨o,keep c o (I.NR x c e) hc Up ho (I.mj x c e),hd⟩
 refine ⟨I.ok,I.os,hg,⟨λ b o e n hb hx=>?_,λ b o e n hb hx=>?_,λ b o e n hx=>?_,λ b o e hx=>?_,λ b xs e=>p9 b xs (I.base.p9 b xs e),λ b o xs e=>o6 b o xs (I.base.o6 b o xs e),λ b ps e=>?_⟩,?_,λ x c e=>?_,?_,λ x c e=>?_,λ p hp=>?_,cg,I.len⟩
 . exact keep b o (neL b o e) hb (Yq b o e hx) (I.base.keep b o e n hb hx) (I.base.free b o e n hx)
 . obtain ⟨sl,e1⟩:=I.base.slot b o e n hb hx
   obtain ⟨sl',e2⟩:=slot b _ (neL b o e) hb (Yq b o e hx) e1 (I.base.free b o e n hx)
   exact ⟨sl',e2⟩
 . obtain ⟨o',e1⟩:=I.base.there b o e hx
   exact free b o' (Yq b o e hx) e1 (I.base.free b o e n hx)
 . obtain ⟨o',e1⟩:=I.base.there b o e hx
   exact there b o' (Yq b o e hx) e1
 . obtain ⟨m1,e1⟩:=I.base.p8 b ps e
   obtain ⟨m2,e2⟩:=p8 b _ e1
   exact ⟨m1++m2,by rw [e2,apX]⟩
 .
  obtain ⟨m,hn,hl⟩:=I.loc
  refine ⟨m,ns m hn,λ i x v e1 e2 e3=>?_⟩
  obtain ⟨u,r,l⟩:=hl i x v e1 e2 e3
  refine ⟨u,r,?_⟩
  rcases l with l|⟨k,c,e,z⟩
  . exact .inl l
  . exact .inr ⟨k,c,e,cellK x c e _ z⟩
 . obtain ⟨v,z⟩:=I.cell x c e
   exact ⟨v,cellK x c e v z⟩
 . obtain ⟨m,⟨o,_,_,ho,_⟩,_⟩:=I.loc
   exact free _ o (λ z=>(wY _ z).2.1 rfl) ho I.free
 . obtain ⟨v,o,ho,hd⟩:=I.cell x c e
   exact free c o (λ z=>(wY c z).2.2.1 x c e rfl) ho (I.mj x c e)
 . obtain ⟨e,n,ne,nf,d⟩:=I.pin p hp
   have Up:p.1∉ch:=λ z=>(wY p.1 z).2.2.2 p hp rfl
   exact ⟨keep p.1 p.2 ne nf Up e n,free p.1 p.2 Up e n,ne,nf,d⟩
theorem Inv.un {t':Nat} (I:Inv X pins U H s) (u:Un X.fs [] H H' s.heap h') (cg:kW X.prog X.w H' h'):Inv X pins U H' { s with heap:=h',toks:=t' }:=by
 obtain ⟨m,⟨o,es,ep,ho,r⟩,_⟩:=id I.loc
 obtain ⟨sl,hL⟩:=u.any ho I.free (by simp)
 exact I.step (g':=s.gens) (d':=s.drawn) (ch:=[]) (λ _ z=>nomatch z) (λ b o _ hb _ e n=>u.keep b o e n hb (by simp)) (λ b o _ hb _ e n=>u.slot b o e n hb (by simp)) (λ b o _ e n=>u.free b o e n (by simp)) (λ b o _ e=>u.there b o e (by simp)) u.p9 u.o6 u.p8 (λ m' hm=>by
   obtain ⟨o',Yg,ep',uV,r'⟩:=hm
   rw [ho] at uV;cases uV
   exact ⟨_,Yg,ep',hL,r'⟩) cg I.bare
theorem Inv.call {g':Array GenState} {t':Nat} {d':Drawn} (I:Inv X pins U H s) (u:Un (iS X.stack) ch H H' s.heap h') (cg:kW X.prog X.w H' h') (hg:AllBare g') (wY:∀ b∈ch,(b∈X.ex∨X.s₀.heap.objs.size<=b)/\b≠X.env.locals/\(∀ x c,X.env.cells.lookup x=some c->c≠b)/\∀ p∈X.pn++pins,p.1≠b) :
   Inv X pins U H' { s with heap:=h',gens:=g',drawn:=d',toks:=t' }:=by
 obtain ⟨m,⟨o,es,ep,ho,r⟩,_⟩:=id I.loc
 obtain ⟨sl,hL⟩:=u.any ho I.free λ z=>(wY _ z).2.1 rfl
 exact I.step (ch:=ch) wY (λ b o hL hb hc e n=>u.keep b o e n (λ z=>(List.mem_cons.mp (I.Bg b z)).elim hL hb) hc) (λ b o _ _ hc e n=>u.any e n hc) (λ b o hc e n=>u.free b o e n hc) (λ b o hc e=>u.there b o e hc) u.p9 u.o6 u.p8 (λ m' hm=>by
   obtain ⟨o',Yg,ep',uV,r'⟩:=hm
   rw [ho] at uV;cases uV
   exact ⟨_,Yg,ep',hL,r'⟩) cg hg
theorem Inv.turned {t':Nat} (I:Inv X pins U H s) (k:∀ b o,b≠it->s.heap.get? b=some o->h'.get? b=some o) (hn:H it=none) (hL:it≠X.env.locals) (h1:it∈X.ex∨X.s₀.heap.objs.size<=it) (h2:∀ x c,X.env.cells.lookup x=some c->c≠it) (h3:∀ p∈X.pn++pins,p.1≠it):Inv X pins U H { s with heap:=h',toks:=t' }:=by
 have nit:∀ b u,H b=some u->b≠it:=λ b u e z=>by rw [z,hn] at e;cases e
 refine I.step (g':=s.gens) (d':=s.drawn) (ch:=[it]) (λ b hb=>?_) (λ b o _ _ hc e _=>k b o (λ z=>hc (by simp [z])) e) (λ b o _ _ hc e _=>⟨o.slots,k b o (λ z=>hc (by simp [z])) e⟩) (λ _ _ _ _ n=>n)
   (λ b o hc e=>⟨o,k b o (λ z=>hc (by simp [z])) e⟩) (λ _ _ e=>e) (λ _ _ _ e=>e) (λ b ps e=>⟨#[],by rw [e];simp⟩) (λ m hm=>?_) (λ b u e=>?_) I.bare
 . have e:b=it:=by simpa using hb
   subst e
   exact ⟨h1,hL,h2,h3⟩
 . obtain ⟨o,es,ep,ho,r⟩:=hm
   exact ⟨o,es,ep,k _ o (anq hL) ho,r⟩
 .
  refine (I.cg b u e).gf (λ c v hc q=>k c v ?_ q) (λ _ q=>q) λ _ _ q=>q
  rcases hc with z|z
  . rw [z];exact nit b u e
  . exact nit c _ z
theorem Inv.tok (I:Inv X pins U H s) (t:Nat):Inv X pins U H { s with toks:=t }:=I.un (h':=s.heap) (t':=t) Un.refl I.cg
theorem Inv.kept {t':Nat} (I:Inv X pins U H s) (k:∀ b u,s.heap.get? b=some u->h'.get? b=some u):Inv X pins U H { s with heap:=h',toks:=t' }:=I.un (Un.kept k) (I.cg.kept k)
theorem Inv.laid {a:Addr} {t':Nat} (I:Inv X pins U H s) (k:∀ b u,s.heap.get? b=some u->h'.get? b=some u) (hp:s.heap.objs.size<=a) (new:cS X.prog X.w (upd H a o) h' a o) :
   Inv X pins U (upd H a o) { s with heap:=h',toks:=t' }:=I.un (Un.laid k hp (I.cg.fresh hp)) (I.cg.laid k hp new)
theorem Inv.write {x e:Addr} {t':Nat} (I:Inv X pins U H s) (mu:TU (H x)) (he:e=x∨H e=some (.own x)) (k:∀ b u,b≠e->s.heap.get? b=some u->h'.get? b=some u) (CH:∃ u,h'.get? e=some u) (new:cS X.prog X.w (upd H x o) h' x o):Inv X pins U (upd H x o) { s with heap:=h',toks:=t' }:=I.un (Un.write mu he k CH) (I.cg.write mu he k CH new)
theorem Inv.BS {LF:List (Addr×Obj)} (I:Inv X pins U H s) (h:∀ p∈LF,s.heap.get? p.1=some p.2/\H p.1=none/\p.1≠X.env.locals/\p.1∉X.fs/\∀ v,p.2.data ≠ .cell v):Inv X LF U H s :=
 ⟨I.ok,I.os,I.bare,I.base,I.loc,I.cell,I.free,I.mj,λ p hp=>(List.mem_append.mp hp).elim (λ z=>I.pin p (anZ _ z)) (h p),I.cg,I.len⟩
theorem zB {N:List Str} (hN:N.Nodup) {i j:Nat} {x:Str} (a:N[i]?=some x) (b:N[j]?=some x):i=j:=by
 obtain ⟨h1,e1⟩:=List.getElem?_eq_some_iff.mp a
 obtain ⟨h2,e2⟩:=List.getElem?_eq_some_iff.mp b
 exact (List.getElem_inj hN).mp (e1.trans e2.symm)
theorem vv {M:Model} {A:Around} {E:Value->Shared->Prop} {i:Nat} {x:Str} {Q:Unit->Shared->Prop} (I:Inv X pins U H s) (hN:X.N.Nodup) (hi:X.N[i]?=some x) (hx:Loc X.env.scope x) (r:RelV v u) (h:∀ s',Inv X pins (U.set i (some v)) H s'->(∃ a,Heap.SameBut a s.heap s'.heap/\(a=X.env.locals∨X.env.cells.lookup x=some a))->Q () s') (hf:X.fn x=true∨X.env.scope.names.lookup x=some .local:=by first|exact .inl rfl|exact .inr rfl|assumption):wpAny M A (storeName X.env x u) Q E s:=by
 obtain ⟨m,hn,hl⟩:=id I.loc
 have ac7:(X.env.scope.kind == .class || (X.env.scope.kind == .module && X.env.locals != X.env.globals))=false:=by rw [I.ok.kind];rfl
 have hiσ:i<U.length:=by rw [I.len];exact (List.getElem?_eq_some_iff.mp hi).1
 have NR:=I.NR
 have tracked:∀ {a:Addr} {h':Heap},(∃ o,s.heap.get? a=some o/\H a=none)->Heap.SameBut a s.heap h'->kW X.prog X.w H h':=λ {a h'} ha hs b ob e=>by
   obtain ⟨_,_,jK⟩:=ha
   refine (I.cg b ob e).gf (λ c w' hc q=>(hs.2 c ?_).trans q) (λ _ q=>q) λ _ _ q=>q
   rintro rfl
   rcases hc with rfl|hc
   . rw [jK] at e;cases e
   . rw [jK] at hc;cases hc
 rcases hx with hk|hk
 .
  refine wpAny_storeName_local hk hn (λ h' hn' hs=>?_) ac7
  obtain ⟨oL,_,_,hoL,_⟩:=id hn
  refine h _ ⟨I.ok,I.os,I.bare,⟨λ b o e n hb hx=>?_,λ b o e n hb hx=>?_,I.base.free,λ b o e hx=>?_,I.base.p9,I.base.o6,I.base.p8⟩,⟨_,hn',λ j y v' e1 e2 e3=>?_⟩,λ y c e=>?_,I.free,I.mj,λ p hp=>?_,tracked ⟨oL,hoL,I.free⟩ hs,by simpa using I.len⟩ ⟨_,hs,.inl rfl⟩
  . exact (hs.2 b (ae6 (aec (ado e) I.ok.above))).trans (I.base.keep b o e n hb hx)
  . obtain ⟨sl,e1⟩:=I.base.slot b o e n hb hx
    exact ⟨sl,(hs.2 b (ae6 (aec (ado e) I.ok.above))).trans e1⟩
  . obtain ⟨o',e1⟩:=I.base.there b o e hx
    exact ⟨o',(hs.2 b (ae6 (aec (ado e) I.ok.above))).trans e1⟩
  .
   by_cases hj:j=i
   . subst hj
     rw [hi] at e1;cases e1
     rw [ak5 hiσ] at e2
     cases e2
     exact ⟨u,r,.inl ⟨hk,by simp⟩⟩
   .
    rw [akV (anq hj)] at e2
    obtain ⟨u',r',q⟩:=hl j y v' e1 e2 e3
    refine ⟨u',r',?_⟩
    rcases q with ⟨k,e⟩|⟨k,c,e,z⟩
    . refine .inl ⟨k,?_⟩
      have:y≠x:=λ e=>hj (zB hN e1 (e ▸ hi))
      simp [this,e]
    . exact .inr ⟨k,c,e,z.sameBut hs (NR y c e)⟩
  . obtain ⟨w',z⟩:=I.cell y c e
    exact ⟨w',z.sameBut hs (NR y c e)⟩
  . obtain ⟨e,n,ne,nf,d⟩:=I.pin p hp
    exact ⟨(hs.2 p.1 ne).trans e,n,ne,nf,d⟩
 .
  have hfn:X.fn x=true:=by
    rcases hf with z|z
    . exact z
    . rw [z] at hk;cases hk
  obtain ⟨c,hc⟩:=I.ok.has x (.inl hk)
  obtain ⟨w',z⟩:=I.cell x c hc
  refine wpAny_storeName_cell I.ok.kind hk hc z (λ h' xJ hs=>?_)
  obtain ⟨oc,hoc,aiA⟩:=id z
  refine h { s with heap:=h' } ⟨I.ok,I.os,I.bare,⟨λ b o e n hb hx=>?_,λ b o e n hb hx=>?_,I.base.free,λ b o e hx=>?_,I.base.p9,I.base.o6,I.base.p8⟩,⟨m,hn.sameBut hs (anq (NR x c hc)),λ j y v' e1 e2 e3=>?_⟩,λ y c' e=>?_,I.free,I.mj,λ p hp=>?_,tracked ⟨oc,hoc,I.mj x c hc⟩ hs,by simpa using I.len⟩ ⟨c,hs,.inr hc⟩
  . exact (hs.2 b (ae6 (aec (ado e) (I.ok.QK x c hfn hc)))).trans (I.base.keep b o e n hb hx)
  . obtain ⟨sl,e1⟩:=I.base.slot b o e n hb hx
    exact ⟨sl,(hs.2 b (ae6 (aec (ado e) (I.ok.QK x c hfn hc)))).trans e1⟩
  . obtain ⟨o',e1⟩:=I.base.there b o e hx
    exact ⟨o',(hs.2 b (ae6 (aec (ado e) (I.ok.QK x c hfn hc)))).trans e1⟩
  .
   by_cases hj:j=i
   . subst hj
     rw [hi] at e1;cases e1
     rw [ak5 hiσ] at e2
     cases e2
     exact ⟨u,r,.inr ⟨.inl hk,c,hc,xJ⟩⟩
   .
    rw [akV (anq hj)] at e2
    obtain ⟨u',r',q⟩:=hl j y v' e1 e2 e3
    refine ⟨u',r',?_⟩
    rcases q with q|⟨k,c',e,z'⟩
    . exact .inl q
    . refine .inr ⟨k,c',e,z'.sameBut hs ?_⟩
      rintro rfl
      exact hj (zB hN e1 (I.ok.inj _ _ _ e hc ▸ hi))
  . by_cases hcc:c'=c
    . subst hcc;exact ⟨_,xJ⟩
    . obtain ⟨w2,z2⟩:=I.cell y c' e
      exact ⟨w2,z2.sameBut hs hcc⟩
  .
   obtain ⟨e,n,ne,nf,d⟩:=I.pin p hp
   refine ⟨(hs.2 p.1 ?_).trans e,n,ne,nf,d⟩
   intro q
   rw [q,hoc] at e
   have q':oc=p.2:=ac2 e
   exact d w' (by rw [← q'];exact aiA)
theorem xE {M:Model} {A:Around} {E:Value->Shared->Prop} {i:Nat} {x:Str} {Q:Unit->Shared->Prop} (I:Inv X pins U H s) (hN:X.N.Nodup) (hi:X.N[i]?=some x) (hx:Loc X.env.scope x) (r:RelV v u) (h:∀ s',Inv X pins (U.set i (some v)) H s'->Q () s') (hf:X.fn x=true∨X.env.scope.names.lookup x=some .local:=by first|exact .inl rfl|exact .inr rfl|assumption):wpAny M A (storeName X.env x u) Q E s :=
 vv I hN hi hx r (λ s' I' _=>h s' I') hf
theorem Inv.O7 (I:Inv X pins U H s) (ho:s'.os=s.os) (u:Un (iS X.stack) ch H H' s.heap s'.heap) (cg:kW X.prog X.w H' s'.heap) (hg:AllBare s'.gens) (wY:∀ b∈ch,(b∈X.ex∨X.s₀.heap.objs.size<=b)/\b≠X.env.locals/\(∀ x c,X.env.cells.lookup x=some c->c≠b)/\∀ p∈X.pn++pins,p.1≠b):Inv X pins U H' s':=by
 obtain ⟨h',g',d',t',o'⟩:=s'
 have e:o'=s.os:=ho
 subst e
 exact I.call (g':=g') (t':=t') (d':=d') u cg hg wY
end
abbrev XK:=Value->Option Addr->Hp->Prop
abbrev St:=List (Option V)
abbrev VK:=V->Hp->Prop
abbrev TE:=St->Hp->VK->Prop
abbrev TT:=St->Hp->(Bool->Hp->Prop)->Prop
abbrev TA:=St->Hp->(List V->Hp->Prop)->Prop
structure Ends where
 nx:St->Hp->Prop
 rt:VK
 bk:St->Hp->Prop:=λ _ _=>False
 ct:St->Hp->Prop:=λ _ _=>False
abbrev TS:=Ends->St->Hp->Prop
inductive EP (X:Cx) (pins:List (Addr×Obj)) (U:St) (Q:VK) (u:Value) (s':Shared):Prop
 | mk (v:V) (H':Hp) (_:Inv X pins U H' s') (_:RelV v u) (_:Q v H')
def TP (X:Cx) (pins:List (Addr×Obj)) (U:St) (Q:Bool->Hp->Prop) (b:Bool) (s':Shared):Prop:=∃ H',Inv X pins U H' s'/\Q b H'
inductive AP (X:Cx) (pins:List (Addr×Obj)) (U:St) (Q:List V->Hp->Prop) (us:List Value) (s':Shared):Prop
 | mk (vs:List V) (H':Hp) (_:Inv X pins U H' s') (_:Vals vs us) (_:Q vs H')
def SP (X:Cx) (pins:List (Addr×Obj)) (D:Ends) (f:Flow) (s':Shared):Prop :=
 match f with
 | .next=>∃ σ' H',Inv X pins σ' H' s'/\D.nx σ' H'
 | .brk=>∃ σ' H',Inv X pins σ' H' s'/\D.bk σ' H'
 | .cont=>∃ σ' H',Inv X pins σ' H' s'/\D.ct σ' H'
 | .ret u=>∃ v σ' H',Inv X pins σ' H' s'/\RelV v u/\D.rt v H'
def PE (X:Cx) (e:Expr) (t:TE):Prop :=
 ∀ (pins:List (Addr×Obj)) (s:Shared) (U:St) (H:Hp) (Q:VK),Inv X pins U H s->t U H Q->wpAny (model X.prog X.w) X.A (eval e X.env) (EP X pins U Q) X.xe s
def PT (X:Cx) (e:Expr) (t:TT):Prop :=
 ∀ (pins:List (Addr×Obj)) (s:Shared) (U:St) (H:Hp) (Q:Bool->Hp->Prop),Inv X pins U H s->t U H Q->wpAny (model X.prog X.w) X.A (isTrue e X.env (eval e X.env)) (TP X pins U Q) X.xe s
def PW (X:Cx) (e:Expr) (t:TT):Prop :=
 ∀ (whole:Sem Value) (pins:List (Addr×Obj)) (s:Shared) (U:St) (H:Hp) (Q:Bool->Hp->Prop),Inv X pins U H s->t U H Q->wpAny (model X.prog X.w) X.A (isTrue e X.env whole) (TP X pins U Q) X.xe s
theorem PW.pt {X:Cx} {e:Expr} {t:TT} (h:PW X e t):PT X e t:=h _
def PA (X:Cx) (es:List Expr) (t:TA):Prop :=
 ∀ (pos:Pos) (pins:List (Addr×Obj)) (s:Shared) (U:St) (H:Hp) (Q:List V->Hp->Prop),Inv X pins U H s->t U H Q->wpAny (model X.prog X.w) X.A (spliced (backTo pos (starEach es X.env))) (AP X pins U Q) X.xe s
def PS (X:Cx) (st:Stmt) (t:TS):Prop :=
 ∀ (pins:List (Addr×Obj)) (s:Shared) (U:St) (H:Hp) (D:Ends),Inv X pins U H s->t D U H->wpAny (model X.prog X.w) X.A (exec st X.env) (SP X pins D) X.xe s
def qg (X:Cx) (st:List Stmt) (t:TS):Prop :=
 ∀ (pins:List (Addr×Obj)) (s:Shared) (U:St) (H:Hp) (D:Ends),Inv X pins U H s->t D U H->wpAny (model X.prog X.w) X.A (execs st X.env) (SP X pins D) X.xe s
theorem cG {α:Type} {t:Sem α} {Q Q':α->Shared->Prop} {M:Model} {A:Around} {E:Value->Shared->Prop} {s:Shared} (h:wpAny M A t Q E s) (hQ:∀ a s,Q a s->Q' a s):wpAny M A t Q' E s:=ahF h hQ λ _ _ x=>x
section
variable {X:Cx}
inductive KP (i:Nat) (U:St) (H:Hp) (Q:VK):Prop
 | mk (v:_) (_:U[i]?=some (some v)) (_:Q v H)
def tC (v:V):TE:=λ _ H Q=>Q v H
theorem Ng {i:Nat} {x:Str} {pos:Pos} (hN:X.N[i]?=some x) (hv:YD X.env.scope x) (hd:(x == ("__debug__" : Str))=false:=by decide) (qI:(x == ("__classdict__" : Str))=false:=by decide):PE X (.Name x pos) (KP i):=by
 intro pins s U H Q I h
 obtain ⟨v,e,h⟩:=h
 obtain ⟨m,hn,hl⟩:=I.loc
 obtain ⟨u,r,l⟩:=hl i x v hN e hv
 have fin:EP X pins U Q u s:=⟨v,H,I,r,h⟩
 rcases l with ⟨hk,hm⟩|⟨hk,c,hc,ic⟩
 . exact wpAny_Name (wpAny_loadName_local I.ok.kind hk hn hm fin) hd
 . rcases hk with hk|hk
   . exact wpAny_Name (wpAny_loadName_cell I.ok.kind hk hc ic fin) hd
   . exact wpAny_Name (wpAny_loadName_free I.ok.kind hk hc ic fin qI) hd
theorem ah {i j pos}:PE X (.Constant (.int i) j pos) (tC (.int i)):=λ _ _ _ H _ I h=>wpAny_Constant_int ⟨.int i,H,I.tok _,⟨_,rfl⟩,h⟩
theorem gX {b j pos}:PE X (.Constant (.bool b) j pos) (tC (.bl b)):=λ _ _ _ H _ I h=>Constant_bool ⟨.bl b,H,I,rfl,h⟩
theorem gu {j pos}:PE X (.Constant .none j pos) (tC .b9):=λ _ _ _ H _ I h=>Constant_none ⟨.b9,H,I,rfl,h⟩
theorem bE {x j pos}:PE X (.Constant (.str x) j pos) (tC (.str x)):=λ _ _ _ H _ I h=>Calls.Constant_str ⟨.str x,H,I.tok _,⟨_,rfl⟩,h⟩
def Gl (X:Cx) (x:Str):Prop:=X.env.kindOf x=some .globalImplicit
theorem oB {E:Value->Shared->Prop} {s:Shared} {x:Str} {pos:Pos} {Q:Value->Shared->Prop} (I:Inv X pins U H s) (hg:Gl X x) (hm:X.mg x=some u) (h:Q u s) (hd:(x == ("__debug__" : Str))=false:=by decide):wpAny (model X.prog X.w) X.A (eval (.Name x pos) X.env) Q E s :=
 apE I.ok.kind hg (Calls.loadGlobal_global (by rw [I.ok.glob];exact I.mod.glob.keeps I.bk) hm h) hd
theorem lK {E:Value->Shared->Prop} {s:Shared} {x:Str} {pos:Pos} {Q:Value->Shared->Prop} (I:Inv X pins U H s) (hg:Gl X x) (hm:X.mg x=none) (hv:bootBuiltins x=some u) (h:Q u s) (hn:x ≠ "__name__":=by decide) (hd:(x == ("__debug__" : Str))=false:=by decide):wpAny (model X.prog X.w) X.A (eval (.Name x pos) X.env) Q E s:=by
 obtain ⟨mb,h1,h2⟩:=I.mod.blt
 exact apE I.ok.kind hg (Calls.loadGlobal_builtin (by rw [I.ok.glob];exact I.mod.glob.keeps I.bk) hm (by rw [I.ok.blt];exact h1.keeps I.bk) ((h2 x hn).trans hv) h) hd
theorem gU {x:Str} {pos:Pos} (hg:Gl X x) (hm:X.mg x=some u) (r:RelV v u) (hd:(x == ("__debug__" : Str))=false:=by decide):PE X (.Name x pos) (tC v) :=
 λ _ _ _ H _ I h=>oB I hg hm ⟨v,H,I,r,h⟩ hd
theorem CK {x:Str} {pos:Pos} (hg:Gl X x) (hm:X.mg x=none) (hv:bootBuiltins x=some u) (r:RelV v u) (hn:x ≠ "__name__":=by decide) (hd:(x == ("__debug__" : Str))=false:=by decide):PE X (.Name x pos) (tC v) :=
 λ _ _ _ H _ I h=>lK I hg hm hv ⟨v,H,I,r,h⟩ hn hd
variable {a b:Expr} {ta tb:TE} {pos:Pos}
def tB (t:TE):TT:=λ U H Q=>t U H λ x H1=>∃ c,x = .bl c/\Q c H1
theorem ce {e:Expr} {t:TE} (h:PE X e t) (he:∀ whole,isTrue e X.env whole=(do let v ← whole;standAt e.pos;holding [v] (truthy v)):=by intro _;rfl):PT X e (tB t):=by
 intro pins s U H Q I hw
 refine isTrue_plain (cG (h pins s U H _ I hw) λ v s1 ⟨x,H1,I1,r1,q1⟩=>?_) (he _)
 obtain ⟨d,rfl,q⟩:=q1
 cases r1
 exact amJ ⟨H1,I1,q⟩
variable {tA Yw:TT} {rest:List Expr}
def afT (t u:TT):TT:=λ U H Q=>t U H λ c H1=>if c=true then u U H1 Q else Q false H1
def tOr (t u:TT):TT:=λ U H Q=>t U H λ c H1=>if c=true then Q true H1 else u U H1 Q
def amm (t:TT):TT:=λ U H Q=>t U H λ c H1=>Q (!c) H1
theorem xa (ha:PT X a tA):PW X (.BoolOp .And [a] pos) tA:=by
 intro wh pins s U H Q I h
 refine isTrue_and (cG (ha pins s U H Q I h) λ c s1 e=>?_)
 cases c with
 | true=>exact isTrue_and_nil e
 | false=>exact e
theorem px (ha:PT X a tA):PW X (.BoolOp .Or [a] pos) tA:=by
 intro wh pins s U H Q I h
 refine isTrue_or (cG (ha pins s U H Q I h) λ c s1 e=>?_)
 cases c with
 | false=>exact isTrue_or_nil e
 | true=>exact e
theorem Be (ha:PT X a tA) (hb:PW X (.BoolOp .And (b::rest) pos) Yw):PW X (.BoolOp .And (a::b::rest) pos) (afT tA Yw):=by
 intro wh pins s U H Q I h
 refine isTrue_and (cG (ha pins s U H _ I h) λ c s1 ⟨H1,I1,q1⟩=>?_)
 cases c with
 | true=>exact hb wh pins s1 U H1 Q I1 q1
 | false=>exact ⟨H1,I1,q1⟩
theorem tJ (ha:PT X a tA) (hb:PW X (.BoolOp .Or (b::rest) pos) Yw):PW X (.BoolOp .Or (a::b::rest) pos) (tOr tA Yw):=by
 intro wh pins s U H Q I h
 refine isTrue_or (cG (ha pins s U H _ I h) λ c s1 ⟨H1,I1,q1⟩=>?_)
 cases c with
 | true=>exact ⟨H1,I1,q1⟩
 | false=>exact hb wh pins s1 U H1 Q I1 q1
theorem dX (ha:PT X a tA):PT X (.UnaryOp .Not a pos) (amm tA):=by
 intro pins s U H Q I h
 exact isTrue_not (ha pins s U H (λ c H1=>Q (!c) H1) I h)
def XX (ta tb:TE):TE:=λ U H Q=>ta U H λ x H1=>∃ c,x = .bl c/\if c=true then tb U H1 Q else Q (.bl false) H1
def ake (ta tb:TE):TE:=λ U H Q=>ta U H λ x H1=>∃ c,x = .bl c/\if c=true then Q (.bl true) H1 else tb U H1 Q
def XQ (ta:TE):TE:=λ U H Q=>ta U H λ x H1=>∃ c,x = .bl c/\Q (.bl (!c)) H1
theorem pI {op} {t:TE} (h:PE X a t):PE X (.BoolOp op [a] pos) t:=λ pins s U H Q I hw=>BoolOp_one (h pins s U H Q I hw)
theorem pi (ha:PE X a ta) (hb:PE X (.BoolOp .And (b::rest) pos) tb):PE X (.BoolOp .And (a::b::rest) pos) (XX ta tb):=by
 intro pins s U H Q I h
 refine BoolOp_and (cG (ha pins s U H _ I h) λ v s1 ⟨x,H1,I1,r1,q1⟩=>?_)
 obtain ⟨c,rfl,q1⟩:=q1
 cases r1
 refine amJ ?_
 cases c with
 | true=>exact hb pins s1 U H1 Q I1 q1
 | false=>exact ⟨.bl false,H1,I1,rfl,q1⟩
theorem Uq (ha:PE X a ta) (hb:PE X (.BoolOp .Or (b::rest) pos) tb):PE X (.BoolOp .Or (a::b::rest) pos) (ake ta tb):=by
 intro pins s U H Q I h
 refine BoolOp_or (cG (ha pins s U H _ I h) λ v s1 ⟨x,H1,I1,r1,q1⟩=>?_)
 obtain ⟨c,rfl,q1⟩:=q1
 cases r1
 refine amJ ?_
 cases c with
 | false=>exact hb pins s1 U H1 Q I1 q1
 | true=>exact ⟨.bl true,H1,I1,rfl,q1⟩
theorem vO (ha:PE X a ta):PE X (.UnaryOp .Not a pos) (XQ ta):=by
 intro pins s U H Q I h
 refine UnaryOp_ (cG (ha pins s U H _ I h) λ v s1 ⟨x,H1,I1,r1,q1⟩=>?_)
 obtain ⟨c,rfl,q1⟩:=q1
 cases r1
 exact not_of (amJ ⟨.bl (!c),H1,I1,rfl,q1⟩)
def tIf (t:TT) (ta tb:TE):TE:=λ U H Q=>t U H λ c H1=>if c=true then ta U H1 Q else tb U H1 Q
theorem nV {c:Expr} (hc:PT X c tA) (ha:PE X a ta) (hb:PE X b tb):PE X (.IfExp c a b pos) (tIf tA ta tb):=by
 intro pins s U H Q I h
 refine wpAny_IfExp (cG (hc pins s U H _ I h) λ d s1 ⟨H1,I1,q1⟩=>?_)
 cases d with
 | true=>exact ha pins s1 U H1 Q I1 q1
 | false=>exact hb pins s1 U H1 Q I1 q1
end
def aT (K:W.Frag) (H:Hp) (a:Addr) (xs:List V):Prop :=
 Rd H a (.lst xs) ∨
   ∃ (o:Obj) (br:Array Value) (n:Nat),K.lookup a=some o/\o.cls = .type "list"/\o.dict=none/\o.data = .seq br n/\br.size<=sizeLine/\Vals xs br.toList
def bP (K:W.Frag) (H:Hp) (a:Addr) (xs:List V):Prop :=
 Rd H a (.tup xs) ∨
   ∃ (o:Obj) (br:Array Value) (n:Nat),K.lookup a=some o/\o.cls = .type "tuple"/\o.data = .seq br n/\br.size<=sizeLine/\Vals xs br.toList
def Y0:Value->Option V
 | .none=>some .b9
 | .bool b=>some (.bl b)
 | .int i _=>some (.int i)
 | .str x _=>some (.str x)
 | .bytes b _=>some (.DE b)
 | .float b _=>some (.LQ b)
 | .ref a=>some (.ref a)
 | .type n=>some (.ty n)
 | _=>none
theorem RelV.abs {x:V} (r:RelV x u):Y0 u=some x:=by
 cases x with
 | b9=>cases r;rfl
 | bl _=>cases r;rfl
 | int _=>obtain ⟨t,rfl⟩:=r;rfl
 | str _=>obtain ⟨t,rfl⟩:=r;rfl
 | DE _=>obtain ⟨t,rfl⟩:=r;rfl
 | LQ _=>obtain ⟨t,rfl⟩:=r;rfl
 | ref _=>cases r;rfl
 | ty _=>cases r;rfl
theorem RelV.inj {x y:V} (r:RelV x u) (q:RelV y u):x=y:=ac2 (r.abs.symm.trans q.abs)
theorem Vals.inj:∀ {xs ys:List V} {us:List Value},Vals xs us->Vals ys us->xs=ys
 | _,_,_,.nil,.nil=>rfl
 | _,_,_,.cons r t,.cons r' t'=>by rw [r.inj r',Vals.inj t t']
section
variable {X:Cx} {pins:List (Addr×Obj)} {U:St} {H:Hp} {s:Shared} {a:Addr} {xs ys:List V}
theorem aT.of {K:W.Frag} (h:H a=some (.lst xs)):aT K H a xs:=.inl (.inl h)
theorem bP.of {K:W.Frag} (h:H a=some (.tup xs)):bP K H a xs:=.inl (.inl h)
theorem Inv.list (I:Inv X pins U H s) (h:aT X.K H a xs):∃ br:List Value,Vals xs br/\PlainL s.heap a br.toArray/\xs.length<=sizeLine:=by
 rcases h with h|⟨o,br,n,hk,hc,hd,hs,hz,r⟩
 . obtain ⟨z,br,n,r,e⟩:=h.ok I.cg
   exact ⟨br,r,⟨_,n,e,rfl,rfl,rfl⟩,z⟩
 .
  refine ⟨br.toList,r,⟨o,n,I.oE a o hk,hc,hd,by simpa using hs⟩,?_⟩
  have e:=r.length
  simp only [aoD] at e
  lia
theorem Inv.tuple (I:Inv X pins U H s) (h:bP X.K H a xs):∃ br:List Value,Vals xs br/\IsTup s.heap a br.toArray/\xs.length<=sizeLine:=by
 rcases h with h|⟨o,br,n,hk,hc,hs,hz,r⟩
 . obtain ⟨z,br,r,p⟩:=h.ok I.cg
   exact ⟨br,r,p,z⟩
 .
  refine ⟨br.toList,r,⟨o,I.oE a o hk,hc,n,by simpa using hs⟩,?_⟩
  have e:=r.length
  simp only [aoD] at e
  lia
theorem Inv.oy (I:Inv X pins U H s) (h:aT X.K H a xs) (h':aT X.K H a ys):xs=ys:=by
 obtain ⟨br,r,⟨o,n,e,_,_,d⟩,_⟩:=I.list h
 obtain ⟨its',r',⟨o',n',e',_,_,d'⟩,_⟩:=I.list h'
 rw [e] at e';cases e'
 rw [d] at d'
 injection d' with d1 _
 have:br=its':=by simpa using anv Array.toList d1
 subst this
 exact r.inj r'
theorem Inv.Ea (I:Inv X pins U H s) (h:bP X.K H a xs) (h':bP X.K H a ys):xs=ys:=by
 obtain ⟨br,r,⟨o,e,_,n,d⟩,_⟩:=I.tuple h
 obtain ⟨its',r',⟨o',e',_,n',d'⟩,_⟩:=I.tuple h'
 rw [e] at e';cases e'
 rw [d] at d'
 injection d' with d1 _
 have:br=its':=by simpa using anv Array.toList d1
 subst this
 exact r.inj r'
end
abbrev Cx.l9 (X:Cx) (E:Value->Shared->Prop):Cx:={ X with xe:=E }
abbrev Cx.D8 (X:Cx):Cx:=X.l9 λ _ _=>False
theorem Cx.Ok.l9 {X:Cx} (ok:X.Ok) (E:Value->Shared->Prop):(X.l9 E).Ok :=
 ⟨ok.mod,ok.kind,ok.glob,ok.blt,ok.above,ok.inj,ok.has,ok.QK,ok.hd,ok.frames,ok.YG,ok.exf,ok.bs,ok.LW,ok.GZ,ok.KH,ok.ni,ok.HX⟩
theorem Cx.Ok.lh {X:Cx} {E:Value->Shared->Prop} (ok:(X.l9 E).Ok):X.Ok :=
 ⟨ok.mod,ok.kind,ok.glob,ok.blt,ok.above,ok.inj,ok.has,ok.QK,ok.hd,ok.frames,ok.YG,ok.exf,ok.bs,ok.LW,ok.GZ,ok.KH,ok.ni,ok.HX⟩
section
variable {X:Cx} {pins:List (Addr×Obj)} {U:St} {H:Hp} {s:Shared} {E:Value->Shared->Prop}
theorem Inv.l9 (I:Inv X pins U H s) (E:Value->Shared->Prop):Inv (X.l9 E) pins U H s:=⟨I.ok.l9 E,I.os,I.bare,I.base,I.loc,I.cell,I.free,I.mj,I.pin,I.cg,I.len⟩
theorem Inv.lh (I:Inv (X.l9 E) pins U H s):Inv X pins U H s:=⟨I.ok.lh,I.os,I.bare,I.base,I.loc,I.cell,I.free,I.mj,I.pin,I.cg,I.len⟩
theorem SP.lh {D:Ends} {f:Flow} (h:SP (X.l9 E) pins D f s'):SP X pins D f s':=by
 cases f with
 | next=>obtain ⟨σ',H',I,q⟩:=h;exact ⟨σ',H',I.lh,q⟩
 | brk=>obtain ⟨σ',H',I,q⟩:=h;exact ⟨σ',H',I.lh,q⟩
 | cont=>obtain ⟨σ',H',I,q⟩:=h;exact ⟨σ',H',I.lh,q⟩
 | ret u=>obtain ⟨v,σ',H',I,r,q⟩:=h;exact ⟨v,σ',H',I.lh,r,q⟩
theorem qg.D8 {st:List Stmt} {t:TS} (h:qg X.D8 st t):qg X st t:=λ pins s U H D I hw =>
 ahF (h pins s U H D (I.l9 _) hw) (λ _ _ q=>q.lh) λ _ _ z=>False.elim z
end
section
variable {X:Cx} {st:Stmt} {rest:List Stmt} {t u:TS} {e:Expr} {te:TE} {pos:Pos}
def Vh:TS:=λ D U H=>D.nx U H
def bv (t u:TS):TS:=λ D U H=>t { D with nx:=u D } U H
theorem aI:qg X [] Vh:=λ _ _ U H _ I h=>aoG ⟨U,H,I,h⟩
theorem ac (h1:PS X st t) (h2:qg X rest u):qg X (st::rest) (bv t u):=by
 intro pins s U H D I h
 refine wpAny_execs_cons (cG (h1 pins s U H { D with nx:=u D } I h) λ f s1 q=>?_)
 cases f with
 | next =>
   obtain ⟨σ',H',I',q⟩:=q
   exact h2 pins s1 σ' H' D I' q
 | ret v=>exact q
 | brk=>exact q
 | cont=>exact q
theorem al (h1:PS X st t):qg X [st] t:=by
 intro pins s U H D I h
 refine wpAny_execs_cons (cG (h1 pins s U H D I h) λ f s1 q=>?_)
 cases f with
 | next=>exact aoG q
 | ret v=>exact q
 | brk=>exact q
 | cont=>exact q
theorem Inv.quiet {s:Shared} (I:Inv X pins U H s):interactive X.env=false:=by simp [interactive,I.ok.kind]
def Su (te:TE):TS:=λ D U H=>te U H λ _ H1=>D.nx U H1
theorem bg (he:PE X e te) (hs:swapsWith e none pos.line X.env=pure false:=by rfl):PS X (.Expr e pos) (Su te):=by
 intro pins s U H D I h
 exact wpAny_Expr_any (cG (he pins s U H _ I h) λ v s1 ⟨x,H1,I1,r1,q1⟩=>⟨U,H1,I1,q1⟩) I.quiet hs
def Y5 (te:TE):TS:=λ D U H=>te U H D.rt
theorem aF (he:PE X e te):PS X (.Return (some e) pos) (Y5 te):=by
 intro pins s U H D I h
 exact wpAny_Return_some (cG (he pins s U H _ I h) λ v s1 ⟨x,H1,I1,r1,q1⟩=>⟨x,U,H1,I1,r1,q1⟩)
def ajn (c:TT) (t u:TS):TS:=λ D U H=>c U H λ b H1=>if b=true then t D U H1 else u D U H1
theorem bx {c:Expr} {a b:List Stmt} {tc:TT} (hc:PT X c tc) (ha:qg X a t) (hb:qg X b u):PS X (.If c a b pos) (ajn tc t u):=by
 intro pins s U H D I h
 refine wpAny_If (cG (hc pins s U H _ I h) λ d s1 ⟨H1,I1,q1⟩=>?_)
 cases d with
 | true=>exact ha pins s1 U H1 D I1 q1
 | false=>exact hb pins s1 U H1 D I1 q1
def Nf:TS:=λ _ _ _=>False
theorem cu:PS X st Nf:=λ _ _ _ _ _ _ h=>h.elim
end
abbrev TG:=V->St->Hp->(St->Hp->Prop)->Prop
abbrev NW:=List V->St->Hp->(St->Hp->Prop)->Prop
def PG (X:Cx) (target:Expr) (t:TG):Prop :=
 ∀ (pins:List (Addr×Obj)) (s:Shared) (U:St) (H:Hp) (v:V) (u:Value) (Q:St->Hp->Prop),Inv X pins U H s->RelV v u->t v U H Q ->
   wpAny (model X.prog X.w) X.A (assign target X.env u) (λ _ s'=>∃ σ' H',Inv X pins σ' H' s'/\Q σ' H') X.xe s
def OA (X:Cx) (ts:List Expr) (t:NW):Prop :=
 ∀ (pins:List (Addr×Obj)) (s:Shared) (U:St) (H:Hp) (vs:List V) (us:List Value) (Q:St->Hp->Prop),Inv X pins U H s->Vals vs us->t vs U H Q ->
   wpAny (model X.prog X.w) X.A (assignInOrder ((assignEach ts X.env).map (·.2)) us) (λ _ s'=>∃ σ' H',Inv X pins σ' H' s'/\Q σ' H') X.xe s
abbrev Os:=V->V->V->Hp->(Hp->Prop)->Prop
def Sf (X:Cx) (t:Os):Prop :=
 ∀ (pins:List (Addr×Obj)) (s:Shared) (U:St) (H:Hp) (o i v:V) (ov iv u:Value) (Q:Hp->Prop),Inv X pins U H s->RelV o ov->RelV i iv->RelV v u->t o i v H Q ->
   wpAny (model X.prog X.w) X.A (setItem ov iv u) (λ _ s'=>∃ H',Inv X pins U H' s'/\Q H') X.xe s
section
variable {X:Cx} {pos:Pos}
def CA (i:Nat):TG:=λ v U H Q=>Q (U.set i (some v)) H
theorem aG {i:Nat} {x:Str} (hN:X.N.Nodup) (hi:X.N[i]?=some x) (hx:Loc X.env.scope x) (hf:X.fn x=true∨X.env.scope.names.lookup x=some .local:=by first|exact .inl rfl|exact .inr rfl|assumption):PG X (.Name x pos) (CA i):=by
 intro pins s U H v u Q I r h
 exact wpAny_assign_Name (xE I hN hi hx r (λ s' I'=>⟨_,H,I',h⟩) hf)
def ab9:NW:=λ vs U H Q=>vs=[]/\Q U H
inductive QY (t:TG) (u:NW) (vs:List V) (U:St) (H:Hp) (Q:(St->Hp->Prop)):Prop
 | mk (v r:_) (_:vs=v::r) (_:t v U H λ σ' H'=>u r σ' H' Q)
theorem fT:OA X [] ab9:=by
 intro pins s U H vs us Q I r h
 obtain ⟨e,h⟩:=h
 subst e
 cases r
 exact assignInOrder_nil ⟨U,H,I,h⟩
theorem bh {e:Expr} {t:TG} {u:NW} (h1:PG X e t) (h2:OA X es u) (hs:(assignEach (e::es) X.env).map (·.2)=assign e X.env::(assignEach es X.env).map (·.2):=by rfl):OA X (e::es) (QY t u):=by
 intro pins s U H vs us Q I r h
 obtain ⟨v,vr,e1,h⟩:=h
 subst e1
 cases r with
 | cons r rr =>
   rw [hs]
   refine assignInOrder_cons (cG (h1 pins s U H _ _ _ I r h) λ _ s1 ⟨σ1,H1,I1,q1⟩=>?_)
   exact h2 pins s1 σ1 H1 _ _ Q I1 rr q1
inductive Uj (K:W.Frag) (n:Nat) (t:NW) (v:V) (U:St) (H:Hp) (Q:(St->Hp->Prop)):Prop
 | mk (a xs:_) (_:v = .ref a) (_:bP K H a xs) (_:xs.length=n) (_:t xs U H Q)
theorem Ms {k:Nat} {t:NW} {n:Nat} (hc:X.calm=true) (h:OA X es t) (hn:(assignEach es X.env).length=n:=by rfl) (mO:(assignEach es X.env).findIdx? (·.1)=none:=by rfl):PG X (.Tuple es k pos) (Uj X.K n t):=by
 intro pins s U H v u Q I r hw
 obtain ⟨a,xs,e1,hq,hl,hw⟩:=hw
 subst e1
 cases r
 obtain ⟨br,rv,ht,hz⟩:=I.tuple hq
 refine assign_Tuple_tuple (I.ok.hd hc) ht (by simp [hn,← hl,rv.length]) mO λ h' hx=>?_
 have I1:Inv X pins U H { s with heap:=h' }:=I.kept (t':=s.toks) λ b o e=>hx b o (ae6 (ado e)) e
 exact h pins _ U H xs _ Q I1 (by simpa using rv) hw
def aaD (to ti:TE) (t:Os):TG:=λ v U H Q=>to U H λ o H1=>ti U H1 λ i H2=>t o i v H2 λ H3=>Q U H3
theorem wR {o i:Expr} {to ti:TE} {t:Os} (ho:PE X o to) (hi:PE X i ti) (hs:Sf X t) (ha:∀ v,assign (.Subscript o i pos) X.env v=(do
     let ov ← holding [v] (eval o X.env)
     let iv ← holding [v,ov] (eval i X.env)
     standAt pos
     holding [v,ov,iv] (setItem ov iv v)
     release [v,ov,iv] []):=by intro _;rfl):PG X (.Subscript o i pos) (aaD to ti t):=by
 intro pins s U H v u Q I r h
 rw [ha]
 refine Wi (anV (cG (ho pins s U H _ I h) λ ov s1 ⟨x,H1,I1,r1,q1⟩=>?_))
 refine Wi (anV (cG (hi pins s1 U H1 _ I1 q1) λ iv s2 ⟨y,H2,I2,r2,q2⟩=>?_))
 refine Wi (aoa (Wi (anV (cG (hs pins s2 U H2 x y v ov iv u _ I2 r1 r2 r q2) λ _ s3 ⟨H3,I3,q3⟩=>?_))))
 exact wpAny_release ⟨U,H3,I3,q3⟩
def IB (te:TE) (g:TG):TS:=λ D U H=>te U H λ x H1=>g x U H1 D.nx
theorem js {e:Expr} (he:PE X e te) (hg:PG X tg g) (hs:swapsWithSole [tg] e pos.line X.env=pure false:=by rfl) (hw:swappedStores [tg] e X.env=pure none:=by rfl) (h1:(assignEach [tg] X.env).map (·.2)=[assign tg X.env]:=by rfl):PS X (.Assign [tg] e pos) (IB te g):=by
 intro pins s U H D I h
 refine wpAny_Assign_stores (cG (he pins s U H _ I h) λ v s1 ⟨x,H1,I1,r1,q1⟩=>?_) hs hw
 rw [h1]
 exact cG (hg pins s1 U H1 x v _ I1 r1 q1) λ _ s2 q=>q
theorem aE {i:Nat} {x:Str} {e:Expr} {pos':Pos} (hN:X.N.Nodup) (hi:X.N[i]?=some x) (hx:Loc X.env.scope x) (he:PE X e te) (hs:swapsWith e (some (.Name x pos')) pos.line X.env=pure false:=by rfl) (hf:X.fn x=true∨X.env.scope.names.lookup x=some .local:=by first|exact .inl rfl|exact .inr rfl|assumption) :
   PS X (.Assign [.Name x pos'] e pos) (IB te (CA i)):=by
 intro pins s U H D I h
 refine wpAny_Assign_Name (cG (he pins s U H _ I h) λ v s1 ⟨y,H1,I1,r1,q1⟩=>?_) hs
 exact xE I1 hN hi hx r1 (λ s2 I2=>⟨_,H1,I2,q1⟩) hf
end
section
variable {X:Cx} {pos:Pos}
def Ni (c:TT) (tb:TS):TS:=λ D U H=>∃ W:Nat->St->Hp->Prop,(∃ m,W m U H)/\∀ m U H,W m U H ->
 c U H λ b H1=>if b=true then ∃ N:St->Hp->Prop,(∀ σ' H',N σ' H'->∃ m',m'<m/\W m' σ' H')/\tb { D with nx:=N,ct:=N,bk:=D.nx } U H1 else D.nx U H1
theorem xz {c:Expr} {body:List Stmt} {tc:TT} (hp:PassesOwn (model X.prog X.w) X.A X.env X.xe) (hc:PT X c tc) (hb:qg X body tb):PS X (.While c body [] pos) (Ni tc tb):=by
 intro pins s U H D I h
 obtain ⟨W,⟨m0,w0⟩,turn⟩:=h
 refine wpAny_While (codeAny_whileLoop (λ n s'=>∃ σ' H',Inv X pins σ' H' s'/\W n σ' H') ?_ m0 ⟨U,H,I,w0⟩)
 rintro n s1 ⟨σ1,H1,I1,w1⟩
 refine anH hp (cG (hc pins s1 σ1 H1 _ I1 (turn n σ1 H1 w1)) λ b s2 ⟨H2,I2,q2⟩=>?_)
 cases b with
 | true =>
   obtain ⟨N,hN,q2⟩:=q2
   rw [acS rfl]
   refine anH hp (cG (hb pins s2 σ1 H2 _ I2 q2) λ f s3 q3=>?_)
   cases f with
   | next =>
     obtain ⟨σ3,H3,I3,n3⟩:=q3
     obtain ⟨m',hm,w3⟩:=hN σ3 H3 n3
     exact ⟨m',hm,σ3,H3,I3,w3⟩
   | cont =>
     obtain ⟨σ3,H3,I3,n3⟩:=q3
     obtain ⟨m',hm,w3⟩:=hN σ3 H3 n3
     exact ⟨m',hm,σ3,H3,I3,w3⟩
   | brk=>exact q3
   | ret v=>exact q3
 | false =>
   rw [acO abZ]
   exact aoG ⟨σ1,H2,I2,q2⟩
end
structure It where
 go:Nat->Hp->Prop
 Gn:Nat->Hp->V->Hp->Prop
 stop:Nat->Hp->Prop
def tT (X:Cx) (pins:List (Addr×Obj)) (H:Hp) (b:Addr):Prop :=
 H b=none/\b≠X.env.locals/\b∉X.fs/\(b∈X.ex∨X.s₀.heap.objs.size<=b)/\(∀ x c,X.env.cells.lookup x=some c->c≠b)/\∀ p∈X.pn++pins,p.1≠b
theorem Inv.yo {X:Cx} {H':Hp} {s:Shared} {b:Addr} (I:Inv X pins U H s) (hb:s.heap.objs.size<=b) (hn:H' b=none):tT X pins H' b:=by
 refine ⟨hn,aot (aec I.lt hb),I.am0 hb,.inr (agB I.sz hb),λ x c e z=>?_,λ p hp z=>?_⟩
 . obtain ⟨v,q⟩:=I.cell x c e
   exact absurd (aec q.lt (by rw [z];exact hb)) (ajM _)
 . exact absurd (aec (ado (I.pin p hp).1) (by rw [z];exact hb)) (ajM _)
structure Turn (P:Program) (w:World) (K:W.Frag) (tg:Expr) (J:It) (fp:List Addr) (it:Addr) (tn:Nat->Heap->Prop):Prop where
 mem:it∈fp
 obj:∀ i h,tn i h->∀ b∈fp,∃ o,h.get? b=some o/\∀ v,o.data ≠ .cell v
 keep:∀ i h h',tn i h->(∀ b∈fp,∀ o,h.get? b=some o->h'.get? b=some o)->tn i h'
 item:∀ (X:Cx),X.prog=P->X.w=w->X.K=K->X.calm=true->∀ (i:Nat) (pins:List (Addr×Obj)) (s:Shared) (U:St) (H:Hp) (E:Value->Shared->Prop),Inv X pins U H s->(∀ b∈fp,tT X pins H b)->tn i s.heap->J.go i H ->
   wpAny (model P w) X.A (pyNext (.ref it)) (λ r s1=>∃ u,r=some u /\
     wpAny (model P w) X.A (letOwnedTupleGo tg (.ref it) u) (λ _ s2=>∃ x H',Inv X pins U H' s2/\RelV x u/\J.Gn i H x H'/\tn (i+1) s2.heap/\∀ b∈fp,H' b=none) E s1) E s
 done:∀ (X:Cx),X.prog=P->X.w=w->X.K=K->X.calm=true->∀ (i:Nat) (pins:List (Addr×Obj)) (s:Shared) (U:St) (H:Hp) (E:Value->Shared->Prop),Inv X pins U H s->(∀ b∈fp,tT X pins H b)->tn i s.heap->J.stop i H ->
   wpAny (model P w) X.A (pyNext (.ref it)) (λ r s1=>r=none/\Inv X pins U H s1) E s
 self:∀ (A:Around) (i:Nat) (s:Shared) (Q:Value->Shared->Prop) (E:Value->Shared->Prop),tn i s.heap->Q (.ref it) s->wpAny (model P w) A (pyIter (.ref it)) Q E s
abbrev TI:=St->Hp->(It->Hp->Prop)->Prop
def PIE (X:Cx) (pins:List (Addr×Obj)) (U:St) (tg:Expr) (R:It->Hp->Prop) (itv:Value) (s2:Shared):Prop :=
 ∃ (it:Addr) (fp:List Addr) (tn:Nat->Heap->Prop) (J:It) (H':Hp),itv = .ref it/\Inv X pins U H' s2/\Turn X.prog X.w X.K tg J fp it tn/\tn 0 s2.heap/\(∀ b∈fp,tT X pins H' b)/\R J H'
def PI (X:Cx) (tg iter:Expr) (wi:TI):Prop :=
 ∀ (pins:List (Addr×Obj)) (s:Shared) (U:St) (H:Hp) (R:It->Hp->Prop),Inv X pins U H s->wi U H R ->
   wpAny (model X.prog X.w) X.A (eval iter X.env) (λ v s1=>wpAny (model X.prog X.w) X.A (pyIter v) (PIE X pins U tg R) X.xe s1) X.xe s
theorem Me {M:Model} {A:Around} {E:Value->Shared->Prop} {s:Shared} {o:Obj} {n:String} {vs:Array Value} {Q:Unit->Shared->Prop} (ho:s.heap.get? it=some o) (hc:o.cls = .type n) (hd:o.data = .fields vs) (hn:["enumerate","zip","dict_itemiterator","dict_reverseitemiterator","odict_iterator","itertools.zip_longest","itertools.pairwise"].contains n=false) (hQ:Q () s):wpAny M A (letOwnedTupleGo tg (.ref it) u) Q E s:=by
 unfold letOwnedTupleGo
 cases tg<;>first
   | exact adt hQ
   | (cases u<;>first
       | exact adt hQ
       | (refine Wi (wpAny_load ho ?_)
          rw [hc,hd]
          show wpAny M A (if (["enumerate","zip","dict_itemiterator","dict_reverseitemiterator","odict_iterator","itertools.zip_longest","itertools.pairwise"].contains n && vs[0]? == some (rawInt _))=true then _ else _) Q E s
          rw [acO (by intro h;rw [hn,apc] at h;cases h)]
          exact adt hQ))
def FM (K:W.Frag) (a:Addr):It :=
 ⟨λ i H=>∃ xs x,aT K H a xs/\xs[i]?=some x,λ i H x H'=>H'=H/\∀ xs,aT K H a xs->xs[i]?=some x,λ i H=>∃ xs,aT K H a xs/\xs.length<=i⟩
def EA (lo:Int) (n:Nat):It:=⟨λ i _=>i<n,λ i H x H'=>H'=H/\x = .int (lo+i),λ i _=>n<=i⟩
theorem Ef {P:Program} {w:World} {K:W.Frag} (a it:Addr):Turn P w K tg (FM K a) [it] it (λ i h=>h.IsListIter it a i) where
 mem:=by simp
 obj:=λ i h st b hb=>by
   have e:b=it:=by simpa using hb
   subst e
   obtain ⟨o,e,c,d⟩:=st
   exact ⟨o,e,λ v z=>by rw [d] at z;cases z⟩
 keep:=λ i h h' st k=>st.at λ o e=>k it (by simp) o e
 item:=by
   intro X hP hw hK hc i pins s U H E I hf st hg
   subst hP hw hK
   obtain ⟨xs,x,hq,hx⟩:=hg
   obtain ⟨br,rv,p,hz⟩:=I.list hq
   obtain ⟨u,hu,ru⟩:=rv.get hx
   obtain ⟨f0,f1,f2,f3,f4,f5⟩:=hf it (by simp)
   refine wpAny_pyNext_list_item st p.isList (x:=u) (by simpa using hu) λ h' K3 sb=>?_
   have I1:Inv X pins U H { s with heap:=h' }:=I.turned (t':=s.toks) (λ b o hb e=>(sb.2 b hb).trans e) f0 f1 f3 f4 f5
   obtain ⟨o,e,c,d⟩:=id K3
   exact ⟨u,rfl,Me (s:={ s with heap:=h' }) e c d (by decide) ⟨x,H,I1,ru,⟨rfl,λ ys hy=>by rw [I.oy hy hq];exact hx⟩,K3,λ b hb=>(hf b hb).1⟩⟩
 done:=by
   intro X hP hw hK hc i pins s U H E I hf st hg
   subst hP hw hK
   obtain ⟨xs,hq,hx⟩:=hg
   obtain ⟨br,rv,p,hz⟩:=I.list hq
   obtain ⟨f0,f1,f2,f3,f4,f5⟩:=hf it (by simp)
   have hl:=rv.length
   exact wpAny_pyNext_list_end (I.ok.hd hc) st p.isList (by simp;lia) λ h' eb=>⟨rfl,I.turned (t':=s.toks) (λ b o hb e=>eb b o hb e) f0 f1 f3 f4 f5⟩
 self:=λ _ _ _ _ _ st h=>wpAny_pyIter_listiter st h
theorem AD {P:Program} {w:World} {K:W.Frag} (it:Addr) (lo:Int) (n:Nat):Turn P w K tg (EA lo n) [it] it (λ i h=>IsRangeIter h it (lo+(i:Nat) * 1) ((n:Int) - (i:Nat)) 1) where
 mem:=by simp
 obj:=λ i h st b hb=>by
   have e:b=it:=by simpa using hb
   subst e
   exact ⟨_,st,λ v z=>by
     have z':Data.fields _=Data.cell v:=z
     cases z'⟩
 keep:=λ i h h' st k=>k it (by simp) _ st
 item:=by
   intro X hP hw hK hc i pins s U H E I hf st hg
   subst hP hw hK
   obtain ⟨f0,f1,f2,f3,f4,f5⟩:=hf it (by simp)
   have W:=Walks.range (prog:=X.prog) (w:=X.w) (I.ok.hd hc) it lo 1 n
   refine W.item i s _ _ hg st λ v h' tk hv K3 kk=>?_
   obtain ⟨t,rfl⟩:=hv
   have I1:Inv X pins U H { s with heap:=h',toks:=tk }:=I.turned (λ b o hb e=>kk b o (by simpa using hb) e) f0 f1 f3 f4 f5
   refine ⟨_,rfl,Me (s:={ s with heap:=h',toks:=tk }) (n:="range_iterator") K3 rfl rfl (by decide) ⟨.int (lo+i),H,I1,⟨t,?_⟩,⟨rfl,rfl⟩,K3,λ b hb=>(hf b hb).1⟩⟩
   rw [Int.mul_one]
 done:=by
   intro X hP hw hK hc i pins s U H E I hf st hg
   subst hP hw hK
   obtain ⟨f0,f1,f2,f3,f4,f5⟩:=hf it (by simp)
   exact wpAny_pyNext_range_end (I.ok.hd hc) st (by have:n<=i:=hg;lia) λ h' eb=>⟨rfl,I.turned (t':=s.toks) (λ b o hb e=>eb b o hb e) f0 f1 f3 f4 f5⟩
 self:=λ _ _ _ _ _ st h=>wpAny_pyIter_rangeiter st h
section
variable {X:Cx} {tg:Expr}
inductive amt (K:W.Frag) (R:It->Hp->Prop) (x:V) (H1:Hp):Prop
 | mk (a:Addr) (h1:x = .ref a) (h2:∃ xs,aT K H1 a xs) (q:R (FM K a) H1)
def SS (K:W.Frag) (tl:TE):TI:=λ U H R=>tl U H (amt K R)
theorem cV {l:Expr} {tl:TE} (hl:PE X l tl):PI X tg l (SS X.K tl):=by
 intro pins s U H R I h
 refine cG (hl pins s U H _ I h) λ v s1 ⟨x,H1,I1,r1,q1⟩=>?_
 obtain ⟨a,e,⟨xs,hq⟩,q⟩:=q1
 subst e
 cases r1
 obtain ⟨br,rv,p,hz⟩:=I1.list hq
 refine wpAny_pyIter_list p.isList ?_
 refine ⟨s1.heap.objs.size,[s1.heap.objs.size],_,_,H1,rfl,I1.kept (t':=s1.toks) λ b o e=>aas _ e,Ef a _,⟨_,afq _ rfl,rfl,rfl⟩,λ b hb=>?_,q⟩
 have e:b=s1.heap.objs.size:=by simpa using hb
 subst e
 exact I1.yo (aat _) (I1.cg.fresh (aat _))
theorem Fv {s:Shared} {R:It->Hp->Prop} {E:Value->Shared->Prop} {lo hi:Int} {t u v:Tok} {tk:Nat} (I:Inv X pins U H s) (h1 : -(2 ^ 62)<=lo) (h2:lo<2 ^ 62) (h3 : -(2 ^ 62)<=hi) (h4:hi<2 ^ 62) (q:R (EA lo (hi - lo).toNat) H):wpAny (model X.prog X.w) X.A (pyIter (.ref s.heap.objs.size)) (PIE X pins U tg R) E { s with heap:=s.heap.push { cls:=.type "range",data:=.fields #[.int lo t,.int hi u,.int 1 v]},toks:=tk }:=by
 refine wpAny_pyIter_range (IsRange.new ..) (small_one h1 h2 h3 h4) ?_
 have I1:Inv X pins U H { s with heap:=s.heap.push { cls:=.type "range",data:=.fields #[.int lo t,.int hi u,.int 1 v]},toks:=tk }:=I.kept λ b o e=>aas _ e
 refine ⟨(s.heap.push { cls:=.type "range",data:=.fields #[.int lo t,.int hi u,.int 1 v]}).objs.size,[(s.heap.push { cls:=.type "range",data:=.fields #[.int lo t,.int hi u,.int 1 v]}).objs.size],_,_,H,rfl,
   I1.kept (t':=tk) λ b o e=>aas _ e,AD _ lo (hi - lo).toNat,?_,λ b hb=>?_,q⟩
 .
  have e1:lo+((0:Nat):Int) * 1=lo:=by simp
  have e2:(((hi - lo).toNat:Nat):Int) - ((0:Nat):Int)=Builtin.Range.rangeSize lo hi 1:=by rw [rangeSize_one];split<;>lia
  show IsRangeIter _ _ (lo+((0:Nat):Int) * 1) ((((hi - lo).toNat:Nat):Int) - ((0:Nat):Int)) 1
  rw [e1,e2]
  exact afq _ rfl
 . have e:b=(s.heap.push { cls:=.type "range",data:=.fields #[.int lo t,.int hi u,.int 1 v]}).objs.size:=by simpa using hb
   subst e
   exact I1.yo (aat _) (I1.cg.fresh (aat _))
inductive act (R:It->Hp->Prop) (vs:List V) (H1:Hp):Prop
 | mk (j:Int) (h1:vs=[.int j]) (h2 : -(2 ^ 62)<=j) (h3:j<2 ^ 62) (q:R (EA 0 j.toNat) H1)
def RA (ta:TA):TI:=λ U H R=>ta U H (act R)
theorem bM {a:Expr} {ta:TA} {p pos:Pos} (hg:Gl X "range") (hm:X.mg "range" = none) (ha:PA X [a] ta) (hs:starEach [a] X.env=[(false,eval a X.env)]:=by rfl):PI X tg (.Call (.Name "range" p) [a] [] pos) (RA ta):=by
 intro pins s U H R I h
 refine Call_ (lK I hg hm boot_range (akT (cG (ha pos pins s U H _ I h) λ us s1 ⟨vs,H1,I1,r1,q1⟩=>?_) hs rfl))
 obtain ⟨j,e,q1,q2,q⟩:=q1
 subst e
 cases r1 with
 | cons r rr =>
   cases rr
   obtain ⟨t,rfl⟩:=r
   exact call_range_1 (Fv I1 (by lia) (by lia) q1 q2 (by simpa using q))
def al4 (wi:TI) (g:TG) (tb:TS):TS:=λ D U H=>wi U H λ J H1=>∃ W:Nat->Nat->St->Hp->Prop,(∃ m,W 0 m U H1)/\∀ i m U H,W i m U H ->
 (J.stop i H/\D.nx U H)∨(J.go i H/\∃ N:St->Hp->Prop,(∀ σ' H',N σ' H'->∃ m',m'<m/\W (i+1) m' σ' H')/\∀ x H',J.Gn i H x H'->g x U H' λ σ2 H2=>tb { D with nx:=N,ct:=N,bk:=D.nx } σ2 H2)
def sd (fp:List Addr) (h:Heap):List (Addr×Obj):=fp.filterMap λ b=>(h.get? b).map λ o=>(b,o)
theorem kM {h:Heap} {b:Addr} {o:Obj} (hb:b∈fp) (e:h.get? b=some o):(b,o)∈sd fp h:=List.mem_filterMap.mpr ⟨b,hb,by rw [e];rfl⟩
theorem DL {h:Heap} {p:Addr×Obj} (hp:p∈sd fp h):p.1∈fp/\h.get? p.1=some p.2:=by
 obtain ⟨b,hb,e⟩:=List.mem_filterMap.mp hp
 cases q:h.get? b with
 | none=>rw [q] at e;cases e
 | some o =>
   rw [q] at e
   have e':(b,o)=p:=ac2 e
   subst e'
   exact ⟨hb,q⟩
theorem Inv.pinned {s:Shared} (I:Inv X pins U H s) (hf:∀ b∈fp,tT X pins H b) (ho:∀ b∈fp,∃ o,s.heap.get? b=some o/\∀ v,o.data ≠ .cell v):Inv X (pins++sd fp s.heap) U H s :=
 I.BS λ p hp=>(List.mem_append.mp hp).elim (λ z=>I.pin p (ah0 _ z)) λ z=>by
   obtain ⟨hb,e⟩:=DL z
   obtain ⟨f0,f1,f2,_⟩:=hf p.1 hb
   obtain ⟨o,e',d⟩:=ho p.1 hb
   rw [e] at e';cases e'
   exact ⟨e,f0,f1,f2,d⟩
theorem Inv.ng {pl:List (Addr×Obj)} {s:Shared} (I:Inv X (pins++pl) U H s):Inv X pins U H s:=I.BS λ p hp=>I.pin p (ah0 _ (anZ _ hp))
theorem cW {iter:Expr} {body:List Stmt} {wi:TI} {pos:Pos} (hp:PassesOwn (model X.prog X.w) X.A X.env X.xe) (hc:X.calm=true) (hi:PI X tg iter wi) (hg:PG X tg g) (hb:qg X body tb) (hs:∀ x,foldedSetIterable iter X.env x=pure x:=by intro _;rfl):PS X (.For tg iter body [] pos) (al4 wi g tb):=by
 intro pins s U H D I h
 refine wpAny_For (cG (hi pins s U H _ I h) λ v s1 h1=>cG h1 λ itv s2 h2=>?_) hs
 obtain ⟨it,fp,tn,J,H2,e,I2,T,YR,f2,W,⟨m0,w0⟩,turn⟩:=h2
 subst e
 have Nz:∀ {H':Hp},(∀ b∈fp,H' b=none)->∀ b∈fp,tT X pins H' b:=λ hn b hb=>⟨hn b hb,(f2 b hb).2⟩
 refine codeAny_forLoop_any (λ n s'=>∃ i σ' H',Inv X pins σ' H' s'/\tn i s'.heap/\(∀ b∈fp,H' b=none)/\W i n σ' H') ?_ m0 ⟨0,U,H2,I2,YR,λ b hb=>(f2 b hb).1,w0⟩
 rintro n s3 ⟨i,σ3,H3,I3,st3,fr3,w3⟩
 rcases turn i n σ3 H3 w3 with ⟨stop,qn⟩|⟨go,N,hN,step⟩
 . refine anH hp (cG (T.done X rfl rfl rfl hc i pins s3 σ3 H3 X.xe I3 (Nz fr3) st3 stop) λ r s4 ⟨hr,I4⟩=>?_)
   subst hr
   exact aoG ⟨σ3,H3,I4,qn⟩
 .
  refine anH hp (cG (T.item X rfl rfl rfl hc i pins s3 σ3 H3 X.xe I3 (Nz fr3) st3 go) λ r s4 ⟨u,hr,h4⟩=>?_)
  subst hr
  refine anH hp (cG h4 λ _ s5 ⟨x,H5,I5,r5,y5,ON,YM⟩=>?_)
  have I5':=I5.pinned (Nz YM) (T.obj _ _ ON)
  refine anH hp (cG (hg _ s5 σ3 H5 x u _ I5' r5 (step x H5 y5)) λ _ s6 ⟨σ6,H6,I6,q6⟩=>?_)
  refine anH hp (cG (hb _ s6 σ6 H6 _ I6 q6) λ f s7 q7=>?_)
  have again:∀ {σ7:St} {H7:Hp},Inv X (pins++sd fp s5.heap) σ7 H7 s7->N σ7 H7->∃ m,m<n/\∃ i σ' H',Inv X pins σ' H' s7/\tn i s7.heap/\(∀ b∈fp,H' b=none)/\W i m σ' H':=λ {σ7 H7} I7 n7=>by
    obtain ⟨m',hm,w7⟩:=hN σ7 H7 n7
    refine ⟨m',hm,i+1,σ7,H7,I7.ng,T.keep _ _ _ ON λ b hb o e=>(I7.pin (b,o) (ah0 _ (ah0 _ (kM hb e)))).1,λ b hb=>?_,w7⟩
    obtain ⟨o,e,d⟩:=T.obj _ _ ON b hb
    exact (I7.pin (b,o) (ah0 _ (ah0 _ (kM hb e)))).2.1
  cases f with
  | next=>obtain ⟨σ7,H7,I7,n7⟩:=q7;exact again I7 n7
  | cont=>obtain ⟨σ7,H7,I7,n7⟩:=q7;exact again I7 n7
  | brk=>obtain ⟨σ7,H7,I7,q7⟩:=q7;exact ⟨σ7,H7,I7.ng,q7⟩
  | ret v=>obtain ⟨x7,σ7,H7,I7,r7,q7⟩:=q7;exact ⟨x7,σ7,H7,I7.ng,r7,q7⟩
end
theorem iU {K:W.Frag} {a:Addr} {D:Ends} (Pv:Nat->St->Hp->Prop) (h0:Pv 0 U H) (hl:∀ i U H,i<=xs.length->Pv i U H->aT K H a xs) (hs:∀ i x U H,xs[i]?=some x->Pv i U H->g x U H λ σ2 H2=>tb { D with nx:=Pv (i+1),ct:=Pv (i+1),bk:=D.nx } σ2 H2) (hd:∀ U H,Pv xs.length U H->D.nx U H) :
   ∃ W:Nat->Nat->St->Hp->Prop,(∃ m,W 0 m U H)/\∀ i m U H,W i m U H ->
     ((FM K a).stop i H/\D.nx U H)∨((FM K a).go i H/\∃ N:St->Hp->Prop,(∀ σ' H',N σ' H'->∃ m',m'<m/\W (i+1) m' σ' H')/\∀ x H',(FM K a).Gn i H x H'->g x U H' λ σ2 H2=>tb { D with nx:=N,ct:=N,bk:=D.nx } σ2 H2):=by
 refine ⟨λ i m U H=>m=xs.length - i/\i<=xs.length/\Pv i U H,⟨xs.length,by simp,aiv _,h0⟩,?_⟩
 rintro i m U H ⟨rfl,hi,p⟩
 have q:=hl i U H hi p
 by_cases mH:i<xs.length
 .
  refine .inr ⟨⟨xs,xs[i],q,by simp [mH]⟩,Pv (i+1),λ σ' H' p'=>⟨xs.length - (i+1),by lia,rfl,mH,p'⟩,λ x H' y=>?_⟩
  obtain ⟨e,y⟩:=y
  subst e
  exact hs i x U _ (y xs q) p
 . have e:i=xs.length:=by lia
   subst e
   exact .inl ⟨⟨xs,q,aat _⟩,hd U H p⟩
theorem uA {lo:Int} {n:Nat} {D:Ends} (Pv:Nat->St->Hp->Prop) (h0:Pv 0 U H) (hs:∀ i U H,i<n->Pv i U H->g (.int (lo+i)) U H λ σ2 H2=>tb { D with nx:=Pv (i+1),ct:=Pv (i+1),bk:=D.nx } σ2 H2) (hd:∀ U H,Pv n U H->D.nx U H) :
   ∃ W:Nat->Nat->St->Hp->Prop,(∃ m,W 0 m U H)/\∀ i m U H,W i m U H ->
     ((EA lo n).stop i H/\D.nx U H)∨((EA lo n).go i H/\∃ N:St->Hp->Prop,(∀ σ' H',N σ' H'->∃ m',m'<m/\W (i+1) m' σ' H')/\∀ x H',(EA lo n).Gn i H x H'->g x U H' λ σ2 H2=>tb { D with nx:=N,ct:=N,bk:=D.nx } σ2 H2):=by
 refine ⟨λ i m U H=>m=n - i/\i<=n/\Pv i U H,⟨n,by simp,aiv _,h0⟩,?_⟩
 rintro i m U H ⟨rfl,hi,p⟩
 by_cases mH:i<n
 .
  refine .inr ⟨mH,Pv (i+1),λ σ' H' p'=>⟨n - (i+1),by lia,rfl,mH,p'⟩,λ x H' y=>?_⟩
  obtain ⟨e,y⟩:=y
  subst e y
  exact hs i U _ mH p
 . have e:i=n:=by lia
   subst e
   exact .inl ⟨aat _,hd U H p⟩
abbrev R2:=V->V->Hp->VK->Prop
def iY (X:Cx) (f:Value->Value->Sem Value) (r:R2):Prop :=
 ∀ (pins:List (Addr×Obj)) (s:Shared) (U:St) (H:Hp) (x y:V) (v u:Value) (Q:VK),Inv X pins U H s->RelV x v->RelV y u->r x y H Q ->
   wpAny (model X.prog X.w) X.A (f v u) (EP X pins U Q) X.xe s
def YC (X:Cx) (f:Value->Sem Value) (r:V->Hp->VK->Prop):Prop :=
 ∀ (pins:List (Addr×Obj)) (s:Shared) (U:St) (H:Hp) (x:V) (v:Value) (Q:VK),Inv X pins U H s->RelV x v->r x H Q ->
   wpAny (model X.prog X.w) X.A (f v) (EP X pins U Q) X.xe s
def iN (X:Cx) (f:Value) (r:List V->Hp->VK->Prop):Prop :=
 ∀ (pins:List (Addr×Obj)) (s:Shared) (U:St) (H:Hp) (xs:List V) (us:List Value) (Q:VK),Inv X pins U H s->Vals xs us->r xs H Q ->
   wpAny (model X.prog X.w) X.A (call f us) (EP X pins U Q) X.xe s
def Tr (r:R2) (ta tb:TE):TE:=λ U H Q=>ta U H λ x H1=>tb U H1 λ y H2=>r x y H2 Q
def tUn (r:V->Hp->VK->Prop) (ta:TE):TE:=λ U H Q=>ta U H λ x H1=>r x H1 Q
inductive rI (C:Int->Int->Prop) (g:Int->Int->V) (x:V) (y:V) (H:Hp) (Q:VK):Prop
 | mk (i j:_) (_:x = .int i) (_:y = .int j) (_:C i j) (_:Q (g i j) H)
inductive HQ (g:Int->Int->V) (x:V) (y:V) (H:Hp) (Q:VK):Prop
 | mk (i j:_) (_:x = .int i) (_:y = .int j) (_:Q (g i j) H)
inductive rU (g:Int->V) (x:V) (H:Hp) (Q:VK):Prop
 | mk (i:_) (_:x = .int i) (_:Q (g i) H)
section
variable {X:Cx} {a b c:Expr} {ta tb tc:TE} {pos:Pos}
theorem M3 (ha:PE X a ta) (hb:PE X b tb) {s:Shared} {R:V->V->Hp->Prop} (I:Inv X pins U H s) (h:ta U H λ x H1=>tb U H1 λ y H2=>R x y H2) {Q:Value->Shared->Prop} {f:Value->Value->Sem Value} (hf:∀ v u s2 x y H2,Inv X pins U H2 s2->RelV x v->RelV y u->R x y H2->wpAny (model X.prog X.w) X.A (f v u) Q X.xe s2) :
   wpAny (model X.prog X.w) X.A (eval a X.env) (λ v s₁=>wpAny (model X.prog X.w) X.A (eval b X.env) (λ u s₂=>wpAny (model X.prog X.w) X.A (f v u) Q X.xe s₂) X.xe s₁) X.xe s:=by
 refine cG (ha pins s U H _ I h) λ v s1 ⟨x,H1,I1,r1,q1⟩=>?_
 refine cG (hb pins s1 U H1 _ I1 q1) λ u s2 ⟨y,H2,I2,r2,q2⟩=>?_
 exact hf v u s2 x y H2 I2 r1 r2 q2
theorem ay {op:Operator} {r:R2} (ho:iY X (binaryOp op) r) (ha:PE X a ta) (hb:PE X b tb):PE X (.BinOp a op b pos) (Tr r ta tb):=by
 intro pins s U H Q I h
 exact wpAny_BinOp (M3 ha hb I h λ v u s2 x y H2 I2 rx ry q=>ho pins s2 U H2 x y v u Q I2 rx ry q)
theorem nE {op:UnaryOp} {r:V->Hp->VK->Prop} (ho:YC X (unaryOp op) r) (ha:PE X a ta):PE X (.UnaryOp op a pos) (tUn r ta):=by
 intro pins s U H Q I h
 exact UnaryOp_ (cG (ha pins s U H _ I h) λ v s1 ⟨x,H1,I1,r1,q1⟩=>ho pins s1 U H1 x v Q I1 r1 q1)
theorem OD {f:Value->Value->Sem Value} {C:Int->Int->Prop} {g:Int->Int->Int} (rule:∀ (i j:Int) (t u:Tok) (s:Shared) (Q:Value->Shared->Prop) (E:Value->Shared->Prop),C i j->Q (.int (g i j) s.toks) { s with toks:=s.toks+1 }->wpAny (model X.prog X.w) X.A (f (.int i t) (.int j u)) Q E s) :
   iY X f (rI C λ i j => .int (g i j)):=by
 intro pins s U H x y v u Q I rx ry h
 obtain ⟨i,j,rfl,rfl,hc,q⟩:=h
 obtain ⟨t,rfl⟩:=rx
 obtain ⟨t',rfl⟩:=ry
 exact rule i j t t' s _ _ hc ⟨.int (g i j),H,I.tok _,⟨_,rfl⟩,q⟩
theorem Kw {f:Value->Value->Sem Value} {g:Int->Int->Int} (rule:∀ (i j:Int) (t u:Tok) (s:Shared) (Q:Value->Shared->Prop) (E:Value->Shared->Prop),Q (.int (g i j) s.toks) { s with toks:=s.toks+1 }->wpAny (model X.prog X.w) X.A (f (.int i t) (.int j u)) Q E s) :
   iY X f (HQ λ i j => .int (g i j)):=by
 intro pins s U H x y v u Q I rx ry h
 obtain ⟨i,j,rfl,rfl,q⟩:=h
 obtain ⟨t,rfl⟩:=rx
 obtain ⟨t',rfl⟩:=ry
 exact rule i j t t' s _ _ ⟨.int (g i j),H,I.tok _,⟨_,rfl⟩,q⟩
theorem JD {f:Value->Value->Sem Value} {g:Int->Int->Bool} (rule:∀ (i j:Int) (t u:Tok) (s:Shared) (Q:Value->Shared->Prop) (E:Value->Shared->Prop),Q (.bool (g i j)) s->wpAny (model X.prog X.w) X.A (f (.int i t) (.int j u)) Q E s) :
   iY X f (HQ λ i j => .bl (g i j)):=by
 intro pins s U H x y v u Q I rx ry h
 obtain ⟨i,j,rfl,rfl,q⟩:=h
 obtain ⟨t,rfl⟩:=rx
 obtain ⟨t',rfl⟩:=ry
 exact rule i j t t' s _ _ ⟨.bl (g i j),H,I,rfl,q⟩
def Jn (i j:Int):Prop:=0<=j/\j<=1000000/\i.natAbs<2 ^ 64
theorem Bq (k:Nat):(0:Int)<=2 ^ k:=by
 rw [two_pow_cast]
 exact ant _
theorem Oo:iY X (binaryOp .Add) (HQ λ i j => .int (i+j)):=Kw λ _ _ _ _ _ _ _ q=>add_int q
theorem NM:iY X (binaryOp .Sub) (HQ λ i j => .int (i - j)):=Kw λ _ _ _ _ _ _ _ q=>sub_int q
theorem ND:iY X (binaryOp .Mod) (rI (λ _ j=>0<j) λ i j => .int (i % j)):=OD λ i j _ _ _ _ _ hc q=>by
 have h1:(0:Int)<j:=hc
 exact mod_int' (by lia) (by rw [Int.fmod_eq_emod_of_nonneg i (by lia)];exact q)
theorem Nq:iY X (binaryOp .Pow) (rI Jn λ i j => .int (i ^ j.toNat)):=OD λ _ _ _ _ _ _ _ hc q=>pow_int_small hc.1 hc.2.1 hc.2.2 q
theorem NA:iY X (binaryOp .LShift) (rI Jn λ i j => .int (i * 2 ^ j.toNat)):=OD λ _ _ _ _ _ _ _ hc q=>lshift_int_small hc.1 hc.2.1 hc.2.2 q
theorem Nj:iY X (binaryOp .RShift) (rI (λ _ j=>0<=j) λ i j => .int (i / 2 ^ j.toNat)):=OD λ i j _ _ _ _ _ hc q =>
 rshift_int hc (by rw [ao6 i (Bq _)];exact q)
theorem M7:iY X (binaryOp .BitAnd) (HQ λ i j => .int (Builtin.bitAnd i j)):=Kw λ _ _ _ _ _ _ _ q=>and_int q
theorem VJ:iY X (binaryOp .BitOr) (HQ λ i j => .int (Builtin.bitOr i j)):=Kw λ _ _ _ _ _ _ _ q=>or_int q
theorem unI {f:Value->Sem Value} {g:Int->Int} (rule:∀ (i:Int) (t:Tok) (s:Shared) (Q:Value->Shared->Prop) (E:Value->Shared->Prop),Q (.int (g i) s.toks) { s with toks:=s.toks+1 }->wpAny (model X.prog X.w) X.A (f (.int i t)) Q E s) :
   YC X f (rU λ i => .int (g i)):=by
 intro pins s U H x v Q I rx h
 obtain ⟨i,rfl,q⟩:=h
 obtain ⟨t,rfl⟩:=rx
 exact rule i t s _ _ ⟨.int (g i),H,I.tok _,⟨_,rfl⟩,q⟩
theorem vZ:YC X (unaryOp .USub) (rU λ i => .int (-i)):=unI λ _ _ _ _ _ q=>neg_int q
theorem rW:YC X (unaryOp .Invert) (rU λ i => .int (Builtin.bitNot i)):=unI λ _ _ _ _ _ q=>invert_int q
end
def V7:V->V->Bool
 | .b9,.b9=>true | .b9,.int _=>true | .int _,.b9=>true | .b9,.bl _=>true | .bl _,.b9=>true | .b9,.str _=>true | .str _,.b9=>true
 | .int _,.int _=>true | .bl _,.bl _=>true | .str _,.str _=>true | .DE _,.DE _=>true
 | .int _,.str _=>true | .str _,.int _=>true | .bl _,.str _=>true | .str _,.bl _=>true
 | _,_=>false
def rEq:R2:=λ x y H Q=>V7 x y=true/\Q (.bl (decide (x=y))) H
def rNe:R2:=λ x y H Q=>V7 x y=true/\Q (.bl (!decide (x=y))) H
theorem Cn {i j:Int}:decide (V.int i=V.int j)=(i == j):=by
 rw [amj]
 simp
theorem Gz {i j:Bool}:decide (V.bl i=V.bl j)=(i == j):=by
 rw [amj]
 simp
theorem CF {i j:Str}:decide (V.str i=V.str j)=(i == j):=by
 rw [amj]
 simp
theorem Co {i j:Array UInt8}:decide (V.DE i=V.DE j)=(i.toList == j.toList):=by
 rw [amj]
 cases i
 cases j
 simp
section
variable {X:Cx} {a b c:Expr} {ta tb tc:TE} {pos:Pos}
theorem bQ {s:Shared} {k k':Bool} (I:Inv X pins U H s) (q:Q (.bl k) H) (e:k=k'):EP X pins U Q (.bool k') s:=by
 subst e
 exact ⟨.bl k,H,I,rfl,q⟩
theorem jn:iY X (compareOp .Eq) rEq:=by
 intro pins s U H x y v u Q I rx ry h
 obtain ⟨hs,q⟩:=h
 cases x with
 | b9 =>
   cases rx
   cases y with
   | b9=>cases ry;exact PySem.EqNone.eq_none_none (bQ I q (by simp))
   | bl j=>cases ry;exact PySem.EqNone.eq_none_bool (bQ I q (by simp))
   | int j=>obtain ⟨t',rfl⟩:=ry;exact PySem.EqNone.eq_none_int (bQ I q (by simp))
   | str j=>obtain ⟨t',rfl⟩:=ry;exact PySem.EqNone.eq_none_str (bQ I q (by simp))
   | _=>exact absurd (show false=true from hs) abZ
 | bl i =>
   cases rx
   cases y with
   | b9=>cases ry;exact PySem.EqNone.eq_bool_none (bQ I q (by simp))
   | bl j=>cases ry;exact eq_bool (bQ I q Gz)
   | str j=>obtain ⟨t',rfl⟩:=ry;exact PySem.EqMixed.eq_bool_str (bQ I q (by simp))
   | _=>exact absurd (show false=true from hs) abZ
 | int i =>
   obtain ⟨t,rfl⟩:=rx
   cases y with
   | b9=>cases ry;exact PySem.EqNone.eq_int_none (bQ I q (by simp))
   | int j=>obtain ⟨t',rfl⟩:=ry;exact eq_int (bQ I q Cn)
   | str j=>obtain ⟨t',rfl⟩:=ry;exact PySem.EqMixed.eq_int_str (bQ I q (by simp))
   | _=>exact absurd (show false=true from hs) abZ
 | str i =>
   obtain ⟨t,rfl⟩:=rx
   cases y with
   | b9=>cases ry;exact PySem.EqNone.eq_str_none (bQ I q (by simp))
   | bl j=>cases ry;exact PySem.EqMixed.eq_str_bool (bQ I q (by simp))
   | int j=>obtain ⟨t',rfl⟩:=ry;exact PySem.EqMixed.eq_str_int (bQ I q (by simp))
   | str j=>obtain ⟨t',rfl⟩:=ry;exact eq_str (bQ I q CF)
   | _=>exact absurd (show false=true from hs) abZ
 | DE i =>
   obtain ⟨t,rfl⟩:=rx
   cases y with
   | DE j=>obtain ⟨t',rfl⟩:=ry;exact W.eq_bytes (bQ I q Co)
   | _=>exact absurd (show false=true from hs) abZ
 | _=>cases y<;>exact absurd (show false=true from hs) abZ
theorem lq:iY X (compareOp .NotEq) rNe:=by
 intro pins s U H x y v u Q I rx ry h
 obtain ⟨hs,q⟩:=h
 cases x with
 | b9 =>
   cases rx
   cases y with
   | b9=>cases ry;exact PySem.EqNone.ne_none_none (bQ I q (by simp))
   | bl j=>cases ry;exact PySem.EqNone.ne_none_bool (bQ I q (by simp))
   | int j=>obtain ⟨t',rfl⟩:=ry;exact PySem.EqNone.ne_none_int (bQ I q (by simp))
   | str j=>obtain ⟨t',rfl⟩:=ry;exact PySem.EqNone.ne_none_str (bQ I q (by simp))
   | _=>exact absurd (show false=true from hs) abZ
 | bl i =>
   cases rx
   cases y with
   | b9=>cases ry;exact PySem.EqNone.ne_bool_none (bQ I q (by simp))
   | bl j=>cases ry;exact ne_bool (bQ I q (anv not Gz))
   | str j=>obtain ⟨t',rfl⟩:=ry;exact PySem.EqMixed.ne_bool_str (bQ I q (by simp))
   | _=>exact absurd (show false=true from hs) abZ
 | int i =>
   obtain ⟨t,rfl⟩:=rx
   cases y with
   | b9=>cases ry;exact PySem.EqNone.ne_int_none (bQ I q (by simp))
   | int j=>obtain ⟨t',rfl⟩:=ry;exact ne_int (bQ I q (anv not Cn))
   | str j=>obtain ⟨t',rfl⟩:=ry;exact PySem.EqMixed.ne_int_str (bQ I q (by simp))
   | _=>exact absurd (show false=true from hs) abZ
 | str i =>
   obtain ⟨t,rfl⟩:=rx
   cases y with
   | b9=>cases ry;exact PySem.EqNone.ne_str_none (bQ I q (by simp))
   | bl j=>cases ry;exact PySem.EqMixed.ne_str_bool (bQ I q (by simp))
   | int j=>obtain ⟨t',rfl⟩:=ry;exact PySem.EqMixed.ne_str_int (bQ I q (by simp))
   | str j=>obtain ⟨t',rfl⟩:=ry;exact ne_str (bQ I q (anv not CF))
   | _=>exact absurd (show false=true from hs) abZ
 | DE i =>
   obtain ⟨t,rfl⟩:=rx
   cases y with
   | DE j=>obtain ⟨t',rfl⟩:=ry;exact W.ne_bytes (bQ I q (anv not Co))
   | _=>exact absurd (show false=true from hs) abZ
 | _=>cases y<;>exact absurd (show false=true from hs) abZ
theorem rC:iY X (compareOp .Lt) (HQ λ i j => .bl (decide (i<j))):=JD λ _ _ _ _ _ _ _ q=>lt_int q
theorem i5:iY X (compareOp .LtE) (HQ λ i j => .bl (decide (i<=j))):=JD λ _ _ _ _ _ _ _ q=>le_int q
theorem xC:iY X (compareOp .Gt) (HQ λ i j => .bl (decide (j<i))):=JD λ _ _ _ _ _ _ _ q=>gt_int q
theorem QJ:iY X (compareOp .GtE) (HQ λ i j => .bl (decide (j<=i))):=JD λ _ _ _ _ _ _ _ q=>ge_int q
theorem tp:iY X (compareOp .Is) (λ x y H Q=>y = .b9/\Q (.bl (decide (x = .b9))) H):=by
 intro pins s U H x y v u Q I rx ry h
 obtain ⟨rfl,q⟩:=h
 cases ry
 refine is_none_gen (bQ I q ?_)
 cases x<;>first
   | (cases rx;rfl)
   | (obtain ⟨t,rfl⟩:=rx;rfl)
theorem qG:iY X (compareOp .IsNot) (λ x y H Q=>y = .b9/\Q (.bl (!decide (x = .b9))) H):=by
 intro pins s U H x y v u Q I rx ry h
 obtain ⟨rfl,q⟩:=h
 cases ry
 refine isnot_none_gen (bQ I q ?_)
 cases x<;>first
   | (cases rx;rfl)
   | (obtain ⟨t,rfl⟩:=rx;rfl)
theorem aV (b:Expr) {op:CmpOp} (h:op ≠ .In:=by decide) (h2:op ≠ .NotIn:=by decide):behindInMarks op b=false:=by
 have e1:(op == CmpOp.In)=false:=by cases op<;>first|rfl|exact absurd rfl h
 have e2:(op == CmpOp.NotIn)=false:=by cases op<;>first|rfl|exact absurd rfl h2
 cases b<;>simp [behindInMarks,e1,e2]
theorem gh {op:CmpOp} {r:R2} (ho:iY X (compareOp op) r) (ha:PE X a ta) (hb:PE X b tb) (hm:behindInMarks op b=false):PE X (.Compare a [op] [b] pos) (Tr r ta tb):=by
 intro pins s U H Q I h
 exact wpAny_Compare1 (M3 ha hb I h λ v u s2 x y H2 I2 rx ry q=>ho pins s2 U H2 x y v u Q I2 rx ry q) hm
inductive agF (Q:Bool->Hp->Prop) (x:V) (H:Hp):Prop
 | mk (k:Bool) (h:x = .bl k) (q:Q k H)
def E6 (t:TE):TT:=λ U H Q=>t U H (agF Q)
theorem aP {op:CmpOp} {r:R2} (ho:iY X (compareOp op) r) (ha:PE X a ta) (hb:PE X b tb) (hm:behindInMarks op b=false):PT X (.Compare a [op] [b] pos) (E6 (Tr r ta tb)):=by
 intro pins s U H Q I h
 refine wpAny_isTrue_Compare1 (cG (ha pins s U H _ I h) λ v s1 ⟨x,H1,I1,r1,q1⟩=>cG (hb pins s1 U H1 _ I1 q1) λ u s2 ⟨y,H2,I2,r2,q2⟩ =>
   cG (ho pins s2 U H2 x y v u _ I2 r1 r2 q2) λ c s3 ⟨z,H3,I3,r3,k,e,q3⟩=>?_) hm
 subst e
 cases r3
 exact amJ ⟨H3,I3,q3⟩
def F0 (r r':R2) (ta tb tc:TE):TE:=λ U H Q=>ta U H λ x H1=>tb U H1 λ y H2=>r x y H2 λ z H3=>∃ k,z = .bl k /\
 (if k=true then tc U H3 λ w' H4=>r' y w' H4 Q else Q (.bl false) H3)
theorem GV {op MW:CmpOp} {r r':R2} (ho:iY X (compareOp op) r) (uV:iY X (compareOp MW) r') (ha:PE X a ta) (hb:PE X b tb) (hc:PE X c tc) (hm:lastMarks [op,MW] [b,c]=false:=by with_unfolding_all rfl):PE X (.Compare a [op,MW] [b,c] pos) (F0 r r' ta tb tc):=by
 intro pins s U H Q I h
 refine Compare_chain (cG (ha pins s U H _ I h) λ v s1 ⟨x,H1,I1,r1,q1⟩=>chain_link (cG (hb pins s1 U H1 _ I1 q1) λ u s2 ⟨y,H2,I2,r2,q2⟩ =>
   cG (ho pins s2 U H2 x y v u _ I2 r1 r2 q2) λ d s3 ⟨z,H3,I3,r3,k,e,q3⟩=>?_)) hm
 subst e
 cases r3
 refine amJ ?_
 cases k with
 | false=>exact ite_ff ⟨.bl false,H3,I3,rfl,q3⟩
 | true=>exact ite_tt (chain_last (cG (hc pins s3 U H3 _ I3 q3) λ w' s4 ⟨z',H4,I4,r4,q4⟩=>uV pins s4 U H4 y z' u w' Q I4 r2 r4 q4))
theorem jH {op MW:CmpOp} {r r':R2} (ho:iY X (compareOp op) r) (uV:iY X (compareOp MW) r') (ha:PE X a ta) (hb:PE X b tb) (hc:PE X c tc) (hm:lastMarks [op,MW] [b,c]=false:=by with_unfolding_all rfl):PT X (.Compare a [op,MW] [b,c] pos) (E6 (F0 r r' ta tb tc)):=by
 intro pins s U H Q I h
 refine isTrue_chain (cG (ha pins s U H _ I h) λ v s1 ⟨x,H1,I1,r1,q1⟩=>test_link (cG (hb pins s1 U H1 _ I1 q1) λ u s2 ⟨y,H2,I2,r2,q2⟩ =>
   cG (ho pins s2 U H2 x y v u _ I2 r1 r2 q2) λ d s3 ⟨z,H3,I3,r3,k,e,q3⟩=>?_)) hm
 subst e
 cases r3
 refine amJ ?_
 cases k with
 | false =>
   obtain ⟨k',e',q'⟩:=q3
   cases e'
   exact ite_ff ⟨H3,I3,q'⟩
 | true =>
   refine ite_tt (test_last (cG (hc pins s3 U H3 _ I3 q3) λ w' s4 ⟨z',H4,I4,r4,q4⟩=>cG (uV pins s4 U H4 y z' u w' _ I4 r2 r4 q4) λ d' s5 ⟨z2,H5,I5,r5,k2,e2,q5⟩=>?_))
   subst e2
   cases r5
   exact amJ ⟨H5,I5,q5⟩
theorem wJ:(sizeLine:Nat)<2 ^ 63:=by rw [aoQ];decide
theorem vals1 {x:V} (r:Vals [x] us):∃ u,us=[u]/\RelV x u:=by
 cases r with
 | cons r1 r2=>cases r2;exact ⟨_,rfl,r1⟩
theorem vals2 {x y:V} (r:Vals [x,y] us):∃ u w',us=[u,w']/\RelV x u/\RelV y w':=by
 cases r with
 | cons r1 r2 =>
   cases r2 with
   | cons r3 r4=>cases r4;exact ⟨_,_,rfl,r1,r3⟩
theorem F2:iN X (.builtin "abs") (λ xs H Q=>∃ i,xs=[.int i]/\Q (.int (if i<0 then -i else i)) H):=by
 intro pins s U H xs us Q I r h
 obtain ⟨i,rfl,q⟩:=h
 obtain ⟨u,rfl,t,rfl⟩:=vals1 r
 exact call_abs_int λ u tk=>⟨.int (if i<0 then -i else i),H,I.tok _,⟨_,rfl⟩,q⟩
theorem vo (hc:X.calm=true):iN X (.builtin "max") (λ xs H Q=>∃ i j,xs=[.int i,.int j]/\Q (.int (if j > i then j else i)) H):=by
 intro pins s U H xs us Q I r h
 obtain ⟨i,j,rfl,q⟩:=h
 obtain ⟨u,w',rfl,⟨t,rfl⟩,⟨t',rfl⟩⟩:=vals2 r
 refine max_two_ints (I.ok.hd hc) λ h' tk k=>⟨_,H,I.kept k,?_,q⟩
 by_cases hj:j > i
 . rw [acS hj,acS hj];exact ⟨_,rfl⟩
 . rw [acO hj,acO hj];exact ⟨_,rfl⟩
theorem uK (hc:X.calm=true):iN X (.builtin "min") (λ xs H Q=>∃ i j,xs=[.int i,.int j]/\Q (.int (if j<i then j else i)) H):=by
 intro pins s U H xs us Q I r h
 obtain ⟨i,j,rfl,q⟩:=h
 obtain ⟨u,w',rfl,⟨t,rfl⟩,⟨t',rfl⟩⟩:=vals2 r
 refine min_two_ints (I.ok.hd hc) λ h' tk k=>⟨_,H,I.kept k,?_,q⟩
 by_cases hj:j<i
 . rw [acS hj,acS hj];exact ⟨_,rfl⟩
 . rw [acO hj,acO hj];exact ⟨_,rfl⟩
end
structure AI (h:Heap) (x dx C:Addr) (mA:Str->Option Value):Prop where
 obj:h.get? x=some (W.instObj C dx)
 ns:h.Ns1 dx mA
 ne:dx≠x
theorem vb {h:Heap} {mA:Str->Option Value} (n:h.Ns1 dx mA):∃ od,h.get? dx=some od/\∀ name,W.lookIn name od=some (mA name):=by
 obtain ⟨o,es,ep,ho,hd,hk,_,hm⟩:=n
 refine ⟨o,ho,λ name=>?_⟩
 have e:=hm name
 unfold nsFind findBy at e
 rw [← apW] at e
 unfold W.lookIn
 rw [hd]
 dsimp only
 split
 . rename_i y q
   rw [q] at e
   exact anv some e
 .
  rename_i q
  rw [q] at e
  have a:es.toList.any (·.refKey)=false:=by
    rw [List.any_eq_false]
    intro y hy
    obtain ⟨z,t,oT⟩:=hk y (Array.mem_toList_iff.mp hy)
    simp [DictEntry.refKey,oT]
  have a':¬ es.toList.any (·.refKey)=true:=by rw [a];exact abZ
  rw [acO a']
  exact anv some e
theorem AI.look {h:Heap} {x:Addr} {mA:Str->Option Value} (I:AI h x dx C mA):∃ od,W.InstAt h x (W.instObj C dx) C (some od)/\∀ name,W.lookIn name od=some (mA name) :=
 let ⟨od,ho,hl⟩:=vb I.ns
 ⟨od,⟨I.obj,rfl,rfl,ho⟩,hl⟩
section
variable {prog:Program} {w:World} {A:Around} {E:Value->Shared->Prop} {s:Shared} {K:W.Frag} {x dx C f:Addr} {mA:Str->Option Value} {name:Str} {v:Value}
theorem get_map {expr:Bool} {Q:Value->Shared->Prop} (X:K.In s.heap) (I:AI s.heap x dx C mA) (hg:W.plainGet K C name=true) (hh:W.hasDictIn K C=true) (ha:W.findIn K (.ref C) name=some none) (hv:mA name=some v) (hv':W.handedIn v=true) (h:Q v { s with toks:=s.toks+1 }) :
   wpAny (model prog w) A (getAttr (.ref x) name expr) Q E s:=by
 obtain ⟨od,J,hl⟩:=I.look
 exact W.get_value X J (W.plainGet_of hg).1 (W.findObj_own hh ha rfl (by rw [hl,hv])) hv' h
theorem E7 {pl:Sem Bool} {Q:Value×List Value->Shared->Prop} (X:K.In s.heap) (I:AI s.heap x dx C mA) (hg:W.plainGet K C name=true) (hf:W.findIn K (.ref C) name=some (some (.ref f))) (ht:W.isFn K (.ref f)=true) (hv:mA name=none) (h:Q (.ref f,[.ref x]) s) :
   wpAny (model prog w) A (getMethod (.ref x) name pl) Q E s:=by
 obtain ⟨od,J,hl⟩:=I.look
 exact W.method_fn X J (W.plainGet_of hg).1 (W.plainGet_of hg).2 hf (beq_iff_eq.mp ht) (by show (W.lookIn name od).map (·.isSome)=some false;rw [hl,hv];rfl) h
theorem K6 {ns:List Str} {Q:Unit->Shared->Prop} (X:K.In s.heap) (I:AI s.heap x dx C mA) (hs:W.findIn K (.ref C) "__setattr__" = some (some (.builtin "object.__setattr__"))) (hp:W.plainOver K C=true) (ht:W.takerIn K C name=some none) (hh:W.hasDictIn K C=true) (hw:PySem.Within mA ns) (hsz:ns.length<=sizeLine) (h:∀ h',AI h' x dx C (λ y=>if y=name then some v else mA y)->Heap.SameBut dx s.heap h'->Q () { s with heap:=h',toks:=s.toks+2 }) :
   wpAny (model prog w) A (setAttr (.ref x) name v) Q E s:=by
 obtain ⟨od,J,hl⟩:=I.look
 refine W.set_plain X J hs (W.osa_open (s:={ s with toks:=s.toks+1 }) (r:=none) X J hp ht λ b=>?_)
 obtain ⟨cd,hc,Ey⟩:=apS hh
 have hx:s.heap.get? x=some ⟨.ref C,some dx,.plain,#[]⟩:=I.obj
 refine Wi (adt (Wi (Wi (apG hx (Wi (W.Looks.here (s:={ s with toks:=s.toks+1 }) (aoY X hc) ?_))))))
 rw [Ey]
 refine adt (a:=some dx) (Wi (adt (Wi ?_)))
 refine wpAny_nsSet1 (s:={ s with toks:=s.toks+1 }) I.ns λ h' L8 DB=>?_
 obtain ⟨oD,esD,epD,W8,SG,WP⟩:=L8.count (aod name v hw)
 refine Wi (apf W8 (by rw [SG];exact apg (agB WP (by rw [afc];lia))) ?_)
 exact adt (h _ ⟨(DB.2 _ (anq I.ne)).trans I.obj,L8,I.ne⟩ DB)
theorem G5 {R:Result->Shared->Prop} {vs:List Value} {kw:List (Str×Value)} (X:K.In s.heap) (hm:W.makesIn K C=true) (hi:W.findIn K (.ref C) "__init__" = some (some (.ref f))) (hf:W.typeIn K (.ref f)=some (.type "function")) (h:codeAny (model prog w) (A.under (.builtin "type.__call__" ⟨.ref C::vs,kw⟩)) (.call (.ref f) ⟨.ref (s.heap.objs.size+1)::vs,kw⟩) (W.InitBack (s.heap.objs.size+1) R)
     { s with heap:=(s.heap.push W.emptyDict).push (W.instObj C s.heap.objs.size)}) :
   codeAny (model prog w) A (.call (.ref C) ⟨vs,kw⟩) R s:=by
 obtain ⟨hh,g,d,t,os⟩:=s
 exact W.make_core (W.makes_of X hm) (W.looks_findIn X hi) (λ self=>W.bind_fn X self hf) (.inl rfl) h
end
def bD (f:Str) (v:V):List (Str×V)->List (Str×V)
 | []=>[(f,v)]
 | (g,x)::r=>if g=f then (g,v)::r else (g,x)::bD f v r
theorem pZ (f g:Str) (v:V):∀ fs:List (Str×V),(bD f v fs).lookup g=if g=f then some v else fs.lookup g
 | []=>by
   show List.lookup g [(f,v)]=_
   by_cases h:g=f
   . have hb:(g == f)=true:=beq_iff_eq.mpr h
     simp only [List.lookup,hb,acS h]
   . have hb:(g == f)=false:=beq_eq_false_iff_ne.mpr h
     simp only [List.lookup,hb,acO h]
 | (k,x)::r=>by
   have ih:=pZ f g v r
   rw [show bD f v ((k,x)::r)=(if k=f then (k,v)::r else (k,x)::bD f v r) from rfl]
   by_cases hk:k=f
   .
    rw [acS hk]
    by_cases h:g=k
    . have hb:(g == k)=true:=beq_iff_eq.mpr h
      simp only [List.lookup,hb,acS (h.trans hk)]
    . have hb:(g == k)=false:=beq_eq_false_iff_ne.mpr h
      simp only [List.lookup,hb,acO (λ e:g=f=>h (e.trans hk.symm))]
   .
    rw [acO hk]
    by_cases h:g=k
    . have hb:(g == k)=true:=beq_iff_eq.mpr h
      simp only [List.lookup,hb,acO (λ e:g=f=>hk (h.symm.trans e))]
    . have hb:(g == k)=false:=beq_eq_false_iff_ne.mpr h
      simp only [List.lookup,hb]
      exact ih
theorem pH (f:Str) (v:V):∀ fs:List (Str×V),f∈(bD f v fs).map (·.1)/\∀ g,g∈fs.map (·.1)->g∈(bD f v fs).map (·.1)
 | []=>⟨by simp [bD],λ g h=>by simp at h⟩
 | (k,x)::r=>by
   obtain ⟨i1,i2⟩:=pH f v r
   rw [show bD f v ((k,x)::r)=(if k=f then (k,v)::r else (k,x)::bD f v r) from rfl]
   by_cases hk:k=f
   . rw [acS hk]
     subst hk
     exact ⟨by simp,λ g h=>by simpa using h⟩
   .
    rw [acO hk]
    refine ⟨?_,λ g h=>?_⟩
    . rw [agt]
      exact aeC _ i1
    . rw [agt] at h ⊢
      rcases List.mem_cons.mp h with e|e
      . exact List.mem_cons.mpr (.inl e)
      . exact aeC _ (i2 g e)
theorem pT (f:Str) (v:V):∀ fs:List (Str×V),(bD f v fs).length<=fs.length+1
 | []=>by simp [bD]
 | (k,x)::r=>by
   have ih:=pT f v r
   rw [show bD f v ((k,x)::r)=(if k=f then (k,v)::r else (k,x)::bD f v r) from rfl]
   by_cases hk:k=f
   . rw [acS hk,afc,afc];lia
   . rw [acO hk,afc,afc];lia
theorem jy.some_of {o:Option Value} (r:jy (some v) o):∃ u,o=some u/\RelV v u:=by
 cases o with
 | none=>exact (show False from r).elim
 | some u=>exact ⟨u,rfl,r⟩
theorem jy.none_of {o:Option Value} (r:jy none o):o=none:=by
 cases o with
 | none=>rfl
 | some u=>exact (show False from r).elim
theorem Ek (r:RelV v u):W.handedIn u=true:=by
 cases v with
 | b9=>cases (show u=Value.none from r);rfl
 | bl b=>cases (show u=Value.bool b from r);rfl
 | int i=>obtain ⟨t,e⟩:=(show ∃ t,u=Value.int i t from r);cases e;rfl
 | str x=>obtain ⟨t,e⟩:=(show ∃ t,u=Value.str x t from r);cases e;rfl
 | DE b=>obtain ⟨t,e⟩:=(show ∃ t,u=Value.bytes b t from r);cases e;rfl
 | LQ b=>obtain ⟨t,e⟩:=(show ∃ t,u=Value.float b t from r);cases e;rfl
 | ref a=>cases (show u=Value.ref a from r);rfl
 | ty n=>cases (show u=Value.type n from r);rfl
section
variable {P:Program} {w:World} {H H':Hp} {h h':Heap} {a C dx:Addr} {fs fs':List (Str×V)}
theorem qU (cg:kW P w H h) (e:H a=some (.ins C dx fs)):∃ mA,AI h a dx C mA/\(∀ f,jy (fs.lookup f) (mA f))/\PySem.Within mA (fs.map (·.1))/\fs.length<=1000/\H dx=some (.own a):=by
 obtain ⟨d,z,ne,ob,mA,n,r,q⟩:=(show cS P w H h a (.ins C dx fs) from cg a _ e)
 exact ⟨mA,⟨ob,n,ne⟩,r,q,z,d⟩
end
structure xu (K:W.Frag) (C:Addr):Prop where
 pg:W.plainGet K C Str.empty=true
 hd:W.hasDictIn K C=true
 po:W.plainOver K C=true
 sa:W.findIn K (.ref C) "__setattr__" = some (some (.builtin "object.__setattr__"))
theorem xu.get {K:W.Frag} (c:xu K C) (f:Str):W.plainGet K C f=true:=c.pg
def dH (K:W.Frag) (C:Addr) (f:Str):Prop:=W.findIn K (.ref C) f=some none
theorem dH.QG {K:W.Frag} {f:Str} (n:dH K C f):W.takerIn K C f=some none:=by
 unfold W.takerIn
 rw [show W.findIn K (.ref C) f=some none from n]
 rfl
structure Meth (K:W.Frag) (C:Addr) (m:Str) (f:Addr):Prop where
 at_:W.findIn K (.ref C) m=some (some (.ref f))
 fn:W.isFn K (.ref f)=true
 kp:W.keepIn K (.ref f)=true
section
variable {X:Cx} {pins:List (Addr×Obj)} {U:St} {H:Hp} {s:Shared} {a C dx:Addr} {fs:List (Str×V)} {f:Str} {v:V} {A:Around} {E:Value->Shared->Prop}
theorem sE {b:Bool} {Q:Value->Shared->Prop} (I:Inv X pins U H s) (e:H a=some (.ins C dx fs)) (c:xu X.K C) (n:dH X.K C f) (l:fs.lookup f=some v) (h:∀ u s',Inv X pins U H s'->RelV v u->Q u s'):wpAny (model X.prog X.w) A (getAttr (.ref a) f b) Q E s:=by
 obtain ⟨mA,O,r,_,_,_⟩:=qU I.cg e
 obtain ⟨u,hu,ru⟩:=jy.some_of (v:=v) (o:=mA f) (by rw [← l];exact r f)
 exact get_map I.oE O (c.get f) c.hd n hu (Ek ru) (h u _ (I.tok _) ru)
theorem rE {m:Str} {g:Addr} {pl:Sem Bool} {Q:Value×List Value->Shared->Prop} (I:Inv X pins U H s) (e:H a=some (.ins C dx fs)) (c:xu X.K C) (k:Meth X.K C m g) (l:fs.lookup m=none) (h:Q (.ref g,[.ref a]) s):wpAny (model X.prog X.w) A (getMethod (.ref a) m pl) Q E s:=by
 obtain ⟨mA,O,r,_,_,_⟩:=qU I.cg e
 have hn:mA m=none:=jy.none_of (by rw [← l];exact r m)
 exact E7 I.oE O (c.get m) k.at_ k.fn hn h
theorem rV {y:V} {Q:Unit->Shared->Prop} (I:Inv X pins U H s) (e:H a=some (.ins C dx fs)) (c:xu X.K C) (n:dH X.K C f) (hl:fs.length<1000) (ry:RelV y u) (h:∀ s',Inv X pins U (upd H a (.ins C dx (bD f y fs))) s'->Q () s'):wpAny (model X.prog X.w) A (setAttr (.ref a) f u) Q E s:=by
 obtain ⟨mA,O,r,wi,_,ho⟩:=qU I.cg e
 have hz:(fs.map (·.1)).length<=sizeLine:=by rw [AM,aoQ];lia
 refine K6 I.oE O c.sa c.po n.QG c.hd wi hz λ h' O' sb=>h _ ?_
 have hd:∃ o,h'.get? dx=some o:=let ⟨o,_,_,e',_⟩:=O'.ns;⟨o,e'⟩
 refine I.write (x:=a) (e:=dx) (by rw [e];exact True.intro) (.inr ho) (λ b q hb z=>(sb.2 b hb).trans z) hd ?_
 refine ⟨by rw [ax O.ne];exact ho,?_,O.ne,O'.obj,_,O'.ns,λ g=>?_,λ g hg=>?_⟩
 . have:=pT f y fs;lia
 .
  show jy ((bD f y fs).lookup g) (if g=f then some u else mA g)
  rw [pZ]
  by_cases q:g=f
  . rw [acS q,acS q];exact ry
  . rw [acO q,acO q];exact r g
 .
  by_cases q:g=f
  . rw [q];exact (pH f y fs).1
  . refine (pH f y fs).2 g (wi g λ z=>hg ?_)
    show (if g=f then some u else mA g)=none
    rw [acO q];exact z
theorem Inv.made (I:Inv X pins U H s):Inv X pins U (upd (upd H s.heap.objs.size (.own (s.heap.objs.size+1))) (s.heap.objs.size+1) (.ins C s.heap.objs.size []))
   { s with heap:=(s.heap.push W.emptyDict).push (W.instObj C s.heap.objs.size)}:=by
 have e1:(s.heap.push W.emptyDict).get? s.heap.objs.size=some W.emptyDict:=afq s.heap rfl
 have e2:((s.heap.push W.emptyDict).push (W.instObj C s.heap.objs.size)).get? (s.heap.objs.size+1)=some (W.instObj C s.heap.objs.size):=by
   have:=afq (s.heap.push W.emptyDict) (o:=W.instObj C s.heap.objs.size) rfl
   rwa [aoP] at this
 have e3:(s.heap.push W.emptyDict).Ns s.heap.objs.size (λ _=>none):=⟨W.emptyDict,#[],_,e1,rfl,(λ e he=>absurd he (by simp)),λ _=>rfl⟩
 have I1:=I.laid (a:=s.heap.objs.size) (o:=.own (s.heap.objs.size+1)) (h':=s.heap.push W.emptyDict) (t':=s.toks) (λ b u q=>aas _ q) (aat _) ⟨_,e1⟩
 refine I1.laid (a:=s.heap.objs.size+1) (o:=.ins C s.heap.objs.size []) (t':=s.toks) (λ b u q=>aas _ q) (Nat.le_of_eq (aoP _ _)) ?_
 have ne:s.heap.objs.size≠s.heap.objs.size+1:=ae6 (aoT _)
 refine ⟨by rw [ax ne,ag],aiv _,ne,e2,λ _=>none,(Heap.Ns1.of_empty e3).at λ o q=>aas _ q,λ _=>True.intro,λ y hy=>absurd rfl hy⟩
theorem Lh {prog:Program} {w:World} {env:Env} {e:Expr} {f:Str} {pos:Pos} {s:Shared} {Q:Value->Shared->Prop} (hb:attributeBase e f env (eval e env)=eval e env) (h:wpAny (model prog w) A (eval e env) (λ o s₁=>wpAny (model prog w) A (getAttr o f true) Q E s₁) E s):wpAny (model prog w) A (eval (.Attribute e f pos) env) Q E s :=
 Attribute_any_ h (by rw [arm_eval_Attribute,hb])
end
inductive UX (K:W.Frag) (f:Str) (Q:VK) (x:V) (H1:Hp):Prop
 | mk (a C dx:Addr) (fs:List (Str×V)) (v:V) (h1:x = .ref a) (h2:H1 a=some (.ins C dx fs)) (h3:xu K C) (h4:dH K C f) (h5:fs.lookup f=some v) (q:Q v H1)
def ak9 (K:W.Frag) (ta:TE) (f:Str):TE:=λ U H Q=>ta U H (UX K f Q)
def ae1 (K:W.Frag) (ta tv:TE) (f:Str):TS:=λ D U H=>tv U H λ y H1=>ta U H1 λ x H2=>∃ a C dx fs,x = .ref a/\H2 a=some (.ins C dx fs)/\xu K C/\dH K C f/\fs.length<1000 /\
 D.nx U (upd H2 a (.ins C dx (bD f y fs)))
def RT (X:Cx) (op:Operator) (rd:V->V->Hp->VK->Prop):Prop :=
 ∀ (pins:List (Addr×Obj)) (s:Shared) (U:St) (H:Hp) (x y:V) (u v:Value) (Q:VK),Inv X pins U H s->RelV x u->RelV y v->rd x y H Q->wpAny (model X.prog X.w) X.A (inplaceOp op u v) (EP X pins U Q) X.xe s
def K5 (K:W.Frag) (ta tv:TE) (rd:V->V->Hp->VK->Prop) (f:Str):TS:=λ D U H=>ta U H λ x H1=>∃ a C dx fs v,x = .ref a/\H1 a=some (.ins C dx fs)/\xu K C/\dH K C f/\fs.lookup f=some v /\
 tv U H1 λ y H2=>rd v y H2 λ z H3=>∃ uH fs',H3 a=some (.ins C uH fs')/\fs'.length<1000/\D.nx U (upd H3 a (.ins C uH (bD f z fs')))
section
variable {X:Cx} {o e value:Expr} {f:Str} {pos pos' pF:Pos} {ta tv:TE}
theorem aU (he:PE X e ta) (hb:attributeBase e f X.env (eval e X.env)=eval e X.env):PE X (.Attribute e f pos) (ak9 X.K ta f):=by
 intro pins s U H Q I h
 refine Lh hb (cG (he pins s U H _ I h) λ u s1 ⟨x,H1,I1,rx,a,C,dx,fs,v,ex,ea,c,n,l,q⟩=>?_)
 subst ex
 obtain rfl:u=Value.ref a:=rx
 exact sE I1 ea c n l λ u' s2 I2 ru=>⟨v,H1,I2,ru,q⟩
theorem dY (ha:PE X o ta) (hv:PE X value tv) (hs:swapsWith value (some (.Attribute o f pos')) pos.line X.env=pure false):PS X (.Assign [.Attribute o f pos'] value pos) (ae1 X.K ta tv f):=by
 intro pins s U H D I h
 refine an1 (cG (hv pins s U H _ I h) λ u s1 ⟨y,H1,I1,ry,q⟩=>cG (ha pins s1 U H1 _ I1 q) λ ov s2 ⟨x,H2,I2,rx,a,C,dx,fs,ex,ea,c,n,l,q2⟩=>?_) hs
 subst ex
 obtain rfl:ov=Value.ref a:=rx
 exact rV I2 ea c n l ry λ s3 I3=>⟨U,_,I3,q2⟩
theorem DS {op:Operator} {rd:V->V->Hp->VK->Prop} (ha:PE X o ta) (hv:PE X value tv) (hop:RT X op rd):PS X (.AugAssign (.Attribute o f pF) op value pos) (K5 X.K ta tv rd f):=by
 intro pins s U H D I h
 refine wpAny_AugAssign_AttributeAny (cG (ha pins s U H _ I h) λ ov s1 ⟨x,H1,I1,rx,a,C,dx,fs,v,ex,ea,c,n,l,q⟩=>?_)
 subst ex
 obtain rfl:ov=Value.ref a:=rx
 refine sE I1 ea c n l λ u s2 I2 ru=>cG (hv pins s2 U H1 _ I2 q) λ w3 s3 ⟨y,H2,I3,ry,q3⟩=>cG (hop pins s3 U H2 v y u w3 _ I3 ru ry q3) λ w4 s4 ⟨z,H3,I4,rz,uH,fs',ea',l',q4⟩=>?_
 exact rV I4 ea' c n l' rz λ s5 I5=>⟨U,_,I5,q4⟩
inductive afX  (x:V) (y:V) (H:Hp) (Q:VK):Prop
 | mk (i j:_) (_:x = .int i) (_:y = .int j) (_:Q (.int (i+j)) H)
theorem MK:RT X .Add afX:=by
 rintro pins s U H x y u v Q I rx ry ⟨i,j,rfl,rfl,q⟩
 obtain ⟨t,rfl⟩:=(show ∃ t,u=Value.int i t from rx)
 obtain ⟨t',rfl⟩:=(show ∃ t',v=Value.int j t' from ry)
 exact PyProof.Rows.iadd_int ⟨.int (i+j),H,I.tok _,⟨_,rfl⟩,q⟩
end
section
variable {X:Cx} {pins:List (Addr×Obj)} {U:St} {H:Hp} {s:Shared} {A:Around} {E:Value->Shared->Prop} {Q:Value->Shared->Prop} {c:Value} {b:Bool}
inductive pB (K:W.Frag) (H:Hp):V->Value->Prop where
 | b9:pB K H .b9 (.type "NoneType")
 | bl (x:Bool):pB K H (.bl x) (.type "bool")
 | int (i:Int):pB K H (.int i) (.type "int")
 | str (x:Str):pB K H (.str x) (.type "str")
 | LQ (x:UInt64):pB K H (.LQ x) (.type "float")
 | lst {a:Addr} {xs:List V} (e:H a=some (.lst xs)):pB K H (.ref a) (.type "list")
 | zA {a:Addr} {o:Obj} {xs:List V} (e:H a=some (.zA o (.lst xs))):pB K H (.ref a) (.type "list")
 | tup {a:Addr} {xs:List V} (e:H a=some (.tup xs)):pB K H (.ref a) (.type "tuple")
 | dK {a:Addr} {az:List (Key×V)} (e:H a=some (.dK az)):pB K H (.ref a) (.type "dict")
 | dT {a:Addr} {az:List (List Key×V)} (e:H a=some (.dT az)):pB K H (.ref a) (.type "dict")
 | ins {a C dx:Addr} {fs:List (Str×V)} (e:H a=some (.ins C dx fs)) (cl:xu K C) (ha:W.findIn K (.ref C) "__class__" = some (some (.builtin "object.__class__")))
     (hn:W.specialIn K (.builtin "object.__class__") "__get__" = some (some (.builtin "getset_descriptor.__get__"))) (YL:W.takesIn K (.builtin "object.__class__")=some true)
     (hm:W.mroIn K C (.type "object")=some true):pB K H (.ref a) (.ref C)
theorem Du {x:V} {t:Value} (I:Inv X pins U H s) (rx:RelV x u) (ty:pB X.K H x t) (e:W.kitOne X.K t c=some b) (h:∀ tk,Q (.bool b) { s with toks:=tk }) :
   wpAny (model X.prog X.w) A (call (.builtin "isinstance") [u,c]) Q E s:=by
 cases ty with
 | b9=>cases (show u=Value.none from rx);exact anW W.kitx_none I.oE True.intro e (λ z=>nomatch z) h
 | bl y=>cases (show u=Value.bool y from rx);exact anW W.kitx_bool I.oE True.intro e (λ z=>nomatch z) h
 | int i=>obtain ⟨t,q⟩:=(show ∃ t,u=Value.int i t from rx);cases q;exact anW W.kitx_int I.oE True.intro e (λ z=>nomatch z) h
 | str y=>obtain ⟨t,q⟩:=(show ∃ t,u=Value.str y t from rx);cases q;exact anW W.kitx_str I.oE True.intro e (λ z=>nomatch z) h
 | LQ y=>obtain ⟨t,q⟩:=(show ∃ t,u=Value.float y t from rx);cases q;exact anW W.kitx_float I.oE True.intro e (λ z=>nomatch z) h
 | @lst a xs ea =>
   cases (show u=Value.ref a from rx)
   obtain ⟨_,_,n,_,h1⟩:=(show cS X.prog X.w H s.heap a (.lst xs) from I.cg a _ ea)
   exact anW W.kitx_list I.oE ⟨_,h1,rfl⟩ e (λ z=>nomatch z) h
 | @zA a ob xs ea =>
   cases (show u=Value.ref a from rx)
   obtain ⟨_,_,_,n,_,h1⟩:=(show cS X.prog X.w H s.heap a (.zA ob (.lst xs)) from I.cg a _ ea)
   exact anW W.kitx_list I.oE ⟨_,h1,rfl⟩ e (λ z=>nomatch z) h
 | @tup a xs ea =>
   cases (show u=Value.ref a from rx)
   obtain ⟨_,_,_,p⟩:=(show cS X.prog X.w H s.heap a (.tup xs) from I.cg a _ ea)
   obtain ⟨o,h1,h2,_⟩:=p
   exact anW W.kitx_tuple I.oE ⟨o,h1,h2⟩ e (λ z=>nomatch z) h
 | @dK a az ea =>
   cases (show u=Value.ref a from rx)
   obtain ⟨_,_,vs,_,p⟩:=(show cS X.prog X.w H s.heap a (.dK az) from I.cg a _ ea)
   obtain ⟨o,es,ep,h1,h2,_⟩:=p
   exact anW W.kitx_dict I.oE ⟨o,h1,h2.1⟩ e (λ z=>nomatch z) h
 | @dT a az ea =>
   cases (show u=Value.ref a from rx)
   obtain ⟨_,_,xs,_,o,es,ep,h1,h2,_⟩:=(show cS X.prog X.w H s.heap a (.dT az) from I.cg a _ ea)
   exact anW W.kitx_dict I.oE ⟨o,h1,h2.1⟩ e (λ z=>nomatch z) h
 | @ins a C dx fs ea cl ha hn YL hm =>
   cases (show u=Value.ref a from rx)
   obtain ⟨mA,O,_⟩:=qU I.cg ea
   obtain ⟨od,J,_⟩:=O.look
   exact anW (W.kitx_own (cl.get _) cl.hd ha hn YL hm) I.oE J e (λ z=>nomatch z) h
end
structure cA (k:Nat) (A:Around):Prop where
 hd:A.handled=none
 dp:A.depth+3 * k+5<recursionLimit
 un:A.units+16 * k+200<cLine
theorem cA.mono {j k:Nat} {A:Around} (r:cA k A) (h:j<=k):cA j A:=⟨r.hd,by have:=r.dp;lia,by have:=r.un;lia⟩
theorem cA.deeper {k:Nat} {A:Around} (r:cA (k+1) A) (env:Env):cA k (A.deeper env) :=
 ⟨r.hd,by have:=r.dp;show A.depth+1+3 * k+5<_;lia,by have:=r.un;show A.units+3+16 * k+200<_;lia⟩
theorem Bm {A:Around} {kw:List (Str×Value)}:(A.under (.builtin "type.__call__" ⟨.ref C::us,kw⟩)).depth=A.depth+1:=by
 first|rfl|simp [Around.under,Code.weight,Code.isCreation,Code.isGuard,Code.isCaller,Code.frames,Code.isFrame,guardIds]
theorem Bb {A:Around} {kw:List (Str×Value)}:(A.under (.builtin "type.__call__" ⟨.ref C::us,kw⟩)).units=A.units+1:=by
 first|rfl|simp [Around.under,Code.cUnits,Code.frames,Code.isFrame]
theorem cA.make {k:Nat} {A:Around} (r:cA (k+1) A) (C:Addr) (us:List Value) (kw:List (Str×Value)):cA k (A.under (.builtin "type.__call__" ⟨.ref C::us,kw⟩)) :=
 ⟨r.hd,by have:=r.dp;rw [Bm];lia,by have:=r.un;rw [Bb];lia⟩
theorem cA.depth {k:Nat} {A:Around} (r:cA k A):A.depth<recursionLimit:=by have:=r.dp;lia
theorem cA.units {k:Nat} {A:Around} (r:cA k A):A.units+64<cLine:=by have:=r.un;lia
def JI:TA:=λ _ H Q=>Q [] H
def PU (ta:TE) (tr:TA):TA:=λ U H Q=>ta U H λ x H1=>tr U H1 λ xs H2=>Q (x::xs) H2
section
variable {X:Cx} {e:Expr} {es:List Expr} {te:TE} {t:TA} {pos:Pos}
theorem af:PA X [] JI:=λ _ _ _ _ H Q I h=>Calls.spliced_nil ⟨[],H,I,.nil,h⟩
theorem aa (ha:PE X e te) (hr:PA X es t) (hs:starEach (e::es) X.env=(false,eval e X.env)::starEach es X.env:=by rfl):PA X (e::es) (PU te t):=by
 intro pos pins s U H Q I h
 rw [hs]
 show wpAny _ _ (spliced ((false,eval e X.env)::backTo pos (starEach es X.env))) _ _ s
 refine ao4 (cG (ha pins s U H _ I h) λ u s1 ⟨x,H1,I1,r1,q1⟩=>?_)
 exact cG (hr pos pins s1 U H1 _ I1 q1) λ us s2 ⟨xs,H2,I2,r2,q2⟩=>⟨x::xs,H2,I2,.cons r1 r2,q2⟩
def aky (t:TA):TE:=λ U H Q=>t U H λ xs H1=>xs.length<=sizeLine/\∀ p,H1 p=none->Q (.ref p) (upd H1 p (.tup xs))
def ahw (t:TA):TE:=λ U H Q=>t U H λ xs H1=>xs.length<=sizeLine/\∀ p,H1 p=none->Q (.ref p) (upd H1 p (.lst xs))
theorem cm {x1} (h:PA X es t):PE X (.Tuple es x1 pos) (aky t):=by
 intro pins s U H Q I hq
 refine wpAny_Tuple_spliced (cG (h pos pins s U H _ I hq) λ us s1 ⟨xs,H1,I1,r,z,q⟩=>⟨by rw [← r.length];exact z,?_⟩)
 have hf:H1 s1.heap.objs.size=none:=I1.cg.fresh (aat _)
 refine ⟨.ref s1.heap.objs.size,upd H1 s1.heap.objs.size (.tup xs),I1.laid (t':=s1.toks) (λ b u e=>aas _ e) (aat _) ?_,rfl,q _ hf⟩
 exact ⟨z,us,r,⟨_,afq _ rfl,rfl,_,rfl⟩⟩
theorem cL (h:PA X es t):PE X (.List es pos) (ahw t):=by
 intro pins s U H Q I hq
 refine wpAny_List_spliced (cG (h pos pins s U H _ I hq) λ us s1 ⟨xs,H1,I1,r,z,q⟩=>⟨by rw [← r.length];exact z,?_⟩)
 have hf:H1 s1.heap.objs.size=none:=I1.cg.fresh (aat _)
 refine ⟨.ref s1.heap.objs.size,upd H1 s1.heap.objs.size (.lst xs),I1.laid (t':=s1.toks) (λ b u e=>aas _ e) (aat _) ?_,rfl,q _ hf⟩
 exact ⟨z,us,0,r,afq _ rfl⟩
end
abbrev Sp:=List V->Hp->VK->XK->Prop
abbrev EC:=List Env->Hp->Shared->XK->Value->Shared->Prop
structure AB (P:Program) (w:World) (K:W.Frag) (mg:Str->Option Value) (base:Heap) (A:Around) (outer:List Env) (s:Shared) (H:Hp):Prop where
 frames:A.frames=some outer
 mod:Mod K mg base
 bs:∀ b o,base.get? b=some o->s.heap.get? b=some o/\H b=none
 LW:base.objs.size<=s.heap.objs.size
 ni:s.heap.FunFrames base outer
 HX:∀ b∈iS outer,H b=none
 cg:kW P w H s.heap
 bare:AllBare s.gens
def CE (outer:List Env) (P:Program) (w:World) (H:Hp) (s:Shared) (Q:VK) (u:Value) (s':Shared):Prop :=
 ∃ v H',s'.os=s.os/\AllBare s'.gens/\Un (iS outer) [] H H' s.heap s'.heap/\kW P w H' s'.heap/\RelV v u/\Q v H'
def CR (CX:EC) (outer:List Env) (P:Program) (w:World) (H:Hp) (s:Shared) (Q:VK) (E:XK) (r:Result) (s':Shared):Prop :=
 match r with
 | .ok (.ret u)=>CE outer P w H s Q u s'
 | .ok _=>False
 | .error e=>CX outer H s E e s'
structure hZ (P:Program) (w:World) (K:W.Frag) (mg:Str->Option Value) (base:Heap) (CX:EC) (k:Nat) (f:Addr) (fd:FuncData) (ps:List Str) (sp:Sp):Prop where
 len:∀ vs H Q E,sp vs H Q E->vs.length=ps.length
 run:∀ (A:Around) (outer:List Env) (s:Shared) (H:Hp) (args:Args) (us:List Value) (vs:List V) (Q:VK) (E:XK),cA k A->AB P w K mg base A outer s H->BindsTo s fd args (ps.zip us)->Vals vs us->sp vs H Q E ->
   codeAny (model P w) A (.call (.ref f) args) (CR CX outer P w H s Q E) s
theorem AB.make {P:Program} {w:World} {K:W.Frag} {mg:Str->Option Value} {base:Heap} {A:Around} {outer:List Env} {s:Shared} (e:AB P w K mg base A outer s H) (C:Addr) (us:List Value) (kw:List (Str×Value)) :
   AB P w K mg base (A.under (.builtin "type.__call__" ⟨.ref C::us,kw⟩)) outer s H:=⟨by first|exact e.frames|(simpa [Around.under,Code.envs,Code.isFrame,pushEnvs] using e.frames),e.mod,e.bs,e.LW,e.ni,e.HX,e.cg,e.bare⟩
section
variable {X:Cx} {pins:List (Addr×Obj)} {U:St} {H:Hp} {s s':Shared}
theorem Inv.MA (I:Inv X pins U H s):AB X.prog X.w X.K X.mg X.base X.A X.stack s H :=
 ⟨I.ok.frames,I.ok.mod,I.bs,agB I.ok.LW I.sz,I.stack,I.mT,I.cg,I.bare⟩
theorem Inv.after (I:Inv X pins U H s) (h:CE X.stack X.prog X.w H s Q u s'):EP X pins U Q u s':=by
 obtain ⟨v,H',os,bare,un,cg,r,q⟩:=h
 obtain ⟨hh,g,d,t,os'⟩:=s'
 obtain rfl:os'=s.os:=os
 exact ⟨v,H',I.call (h':=hh) (g':=g) (d':=d) (t':=t) (ch:=[]) un cg bare (λ b z=>absurd z (by simp)),r,q⟩
end
def Ct (sp:Sp) (f9:List V) (E:XK) (t:TA):TE:=λ U H Q=>t U H λ vs H1=>sp (vs++f9) H1 Q E
inductive MX (C:Addr) (m:Str) (sp:Sp) (f9:List V) (E:XK) (t:TA) (U:St) (Q:VK) (x:V) (H1:Hp):Prop
 | mk (a dx:Addr) (fs:List (Str×V)) (h1:x = .ref a) (h2:H1 a=some (.ins C dx fs)) (h3:fs.lookup m=none) (q:t U H1 λ vs H2=>sp (x::(vs++f9)) H2 Q E)
def u8 (C:Addr) (m:Str) (sp:Sp) (f9:List V) (E:XK) (ta:TE) (t:TA):TE:=λ U H Q=>ta U H (MX C m sp f9 E t U Q)
def FW (C:Addr) (sp:Sp) (f9:List V) (E:XK) (t:TA):TE:=λ U H Q=>t U H λ vs H1=>∀ x dx,H1 x=none->H1 dx=none->dx≠x ->
 sp (.ref x::(vs++f9)) (upd (upd H1 dx (.own x)) x (.ins C dx [])) (λ v H2=>v = .b9/\Q (.ref x) H2) E
def Binds (K:W.Frag) (fd:FuncData) (ps:List Str) (ds:List Value):Prop :=
 ∀ (s:Shared) (us:List Value),K.In s.heap->(us++ds).length=ps.length->BindsTo s fd ⟨us,[]⟩ (ps.zip (us++ds))
theorem Binds.all {K:W.Frag} {fd:FuncData} {ps:List Str} (h:∀ us:List Value,us.length=ps.length->bindArgs fd ⟨us,[]⟩=pure (ps.zip us)):Binds K fd ps []:=λ s us _ hl=>by
 rw [alw] at hl ⊢
 exact .of_eq (h us hl)
def Passes (CX:EC) (X:Cx) (E:XK):Prop:=∀ (pins:List (Addr×Obj)) (U:St) (H:Hp) (s:Shared) (e:Value) (s':Shared),Inv X pins U H s->CX X.stack H s E e s'->X.xe e s'
section
variable {X:Cx} {CX:EC} {k:Nat} {f C:Addr} {fd:FuncData} {ps:List Str} {sp:Sp} {f9:List V} {ds:List Value} {E:XK} {x m:Str} {p pos apos:Pos} {e o:Expr} {es:List Expr} {ta:TE} {t:TA}
theorem Bw {s:Shared} {vs:List V} (F:hZ X.prog X.w X.K X.mg X.base CX k f fd ps sp) (hr:cA k X.A) (hb:Binds X.K fd ps ds) (hd:Vals f9 ds) (hx:Passes CX X E) (I:Inv X pins U H s) (r:Vals vs us) (h:sp (vs++f9) H Q E):wpAny (model X.prog X.w) X.A (call (.ref f) us) (EP X pins U Q) X.xe s:=by
 have r2:Vals (vs++f9) (us++ds):=r.append hd
 have hl:(us++ds).length=ps.length:=by rw [← r2.length];exact F.len _ _ _ _ h
 refine apO (aom (F.run X.A X.stack s H ⟨us,[]⟩ (us++ds) (vs++f9) Q E hr I.MA (hb s us I.oE hl) r2 h) λ r s' hq=>?_)
 cases r with
 | error e=>exact hx pins U H s e s' I hq
 | ok fl =>
   cases fl with
   | ret u=>exact I.after hq
   | next=>exact False.elim hq
   | brk=>exact False.elim hq
   | cont=>exact False.elim hq
theorem BY (F:hZ X.prog X.w X.K X.mg X.base CX k f fd ps sp) (hr:cA k X.A) (hg:Gl X x) (hm:X.mg x=some (.ref f)) (hk:W.keepIn X.K (.ref f)=true) (hb:Binds X.K fd ps ds) (hd:Vals f9 ds) (hx:Passes CX X E) (ha:PA X (e::es) t) (zx:(x == ("__debug__" : Str))=false:=by decide) (he:starEach (e::es) X.env=(false,eval e X.env)::starEach es X.env:=by rfl) (jG:(backTo pos (starEach es X.env)).any (·.1)=false:=by rfl) :
   PE X (.Call (.Name x p) (e::es) [] pos) (Ct sp f9 E t):=by
 intro pins s U H Q I h
 refine aol (oB I hg hm ?_ zx)
 refine W.callWith_K (h₀:=X.base) I.ok.mod.LK hk (cG (ha pos pins s U H _ I h) λ us s1 ⟨vs,H1,I1,r,q⟩=>⟨I1.oE,?_⟩) he jG
 exact Bw F hr hb hd hx I1 r q
theorem Cb {pl:Sem Bool} (he:PE X o ta) (c:xu X.K C) (hm:Meth X.K C m f) (F:hZ X.prog X.w X.K X.mg X.base CX k f fd ps sp) (hr:cA k X.A) (hb:Binds X.K fd ps ds) (hd:Vals f9 ds) (hx:Passes CX X E) (ha:PA X (e::es) t) (mO:starEach (e::es) X.env=(false,eval e X.env)::starEach es X.env:=by rfl) (jG:(backTo pos (starEach es X.env)).any (·.1)=false:=by rfl) (ht:eval (.Call (.Attribute o m apos) (e::es) [] pos) X.env=(do
     let ov ← eval o X.env
     standAt apos.atName
     let (f,first) ← holding [ov] (getMethod ov m pl)
     callWith pos f first (backTo pos (starEach (e::es) X.env)) (backToKw pos (keywordEach [] X.env))):=by rfl) :
   PE X (.Call (.Attribute o m apos) (e::es) [] pos) (u8 C m sp f9 E ta t):=by
 intro pins s U H Q I h
 refine W.methodCall_KW (pl:=pl) (cG (he pins s U H _ I h) λ u s1 ⟨x,H1,I1,rx,a,dx,fs,ex,ea,l,q⟩=>?_) ht
 subst ex
 obtain rfl:u=Value.ref a:=rx
 refine rE I1 ea c hm l ?_
 refine W.callWith_K (first:=[.ref a]) (h₀:=X.base) I.ok.mod.LK hm.kp (cG (ha pos pins s1 U H1 _ I1 q) λ us s2 ⟨vs,H2,I2,r,q2⟩=>⟨I2.oE,?_⟩) mO jG
 exact Bw (us:=.ref a::us) (vs:=.ref a::vs) F hr hb hd hx I2 (.cons rfl r) q2
theorem Ge {pl:Sem Bool} (he:PE X o ta) (c:xu X.K C) (hm:Meth X.K C m f) (F:hZ X.prog X.w X.K X.mg X.base CX k f fd ps sp) (hr:cA k X.A) (hb:Binds X.K fd ps ds) (hd:Vals f9 ds) (hx:Passes CX X E) (ht:eval (.Call (.Attribute o m apos) [] [] pos) X.env=(do
     let ov ← eval o X.env
     standAt apos.atName
     let (f,first) ← holding [ov] (getMethod ov m pl)
     callWith pos f first (backTo pos (starEach [] X.env)) (backToKw pos (keywordEach [] X.env))):=by rfl) :
   PE X (.Call (.Attribute o m apos) [] [] pos) (u8 C m sp f9 E ta JI):=by
 intro pins s U H Q I h
 refine W.methodCall_KW (pl:=pl) (cG (he pins s U H _ I h) λ u s1 ⟨x,H1,I1,rx,a,dx,fs,ex,ea,l,q⟩=>?_) ht
 subst ex
 obtain rfl:u=Value.ref a:=rx
 refine rE I1 ea c hm l ?_
 exact W.callWith_K0 (first:=[.ref a]) I1.oE hm.kp (Bw (us:=[.ref a]) (vs:=[.ref a]) F hr hb hd hx I1 (.cons rfl .nil) q)
structure Mk (K:W.Frag) (C f:Addr):Prop where
 makes:W.makesIn K C=true
 init:W.findIn K (.ref C) "__init__" = some (some (.ref f))
 fn:W.isFn K (.ref f)=true
 kp:W.keepIn K (.ref C)=true
theorem GL {s:Shared} {vs:List V} (M:Mk X.K C f) (F:hZ X.prog X.w X.K X.mg X.base CX k f fd ps sp) (hr:cA (k+1) X.A) (hb:Binds X.K fd ps ds) (hd:Vals f9 ds) (hx:Passes CX X E) (I:Inv X pins U H s) (r:Vals vs us) (h:∀ x dx,H x=none->H dx=none->dx≠x->sp (.ref x::(vs++f9)) (upd (upd H dx (.own x)) x (.ins C dx [])) (λ v H2=>v = .b9/\Q (.ref x) H2) E) :
   wpAny (model X.prog X.w) X.A (call (.ref C) us) (EP X pins U Q) X.xe s:=by
 have hq:=h (s.heap.objs.size+1) s.heap.objs.size (I.cg.fresh (anC _)) (I.cg.fresh (aat _)) (ae6 (aoT _))
 have I2:=Inv.made (C:=C) I
 have r2:Vals (V.ref (s.heap.objs.size+1)::(vs++f9)) (Value.ref (s.heap.objs.size+1)::(us++ds)):=.cons rfl (r.append hd)
 have hl:(Value.ref (s.heap.objs.size+1)::us++ds).length=ps.length:=by
   have e:=r2.length
   rw [F.len _ _ _ _ hq] at e
   exact e.symm
 refine apO (G5 (f:=f) I.oE M.makes M.init (beq_iff_eq.mp M.fn) (aom (F.run _ X.stack _ _ ⟨Value.ref (s.heap.objs.size+1)::us,[]⟩ (Value.ref (s.heap.objs.size+1)::(us++ds)) _ _ E (hr.make C us [])
   (I2.MA.make C us []) (hb _ (Value.ref (s.heap.objs.size+1)::us) I2.oE hl) r2 hq) λ r s' EY=>?_))
 cases r with
 | error e=>exact hx pins U _ _ e s' I2 EY
 | ok fl =>
   cases fl with
   | ret u =>
     obtain ⟨v,H',I3,rv,ev,q3⟩:=I2.after EY
     subst ev
     exact ⟨rv,⟨V.ref (s.heap.objs.size+1),H',I3,rfl,q3⟩⟩
   | next=>exact False.elim EY
   | brk=>exact False.elim EY
   | cont=>exact False.elim EY
theorem Ky (M:Mk X.K C f) (F:hZ X.prog X.w X.K X.mg X.base CX k f fd ps sp) (hr:cA (k+1) X.A) (hg:Gl X x) (hm:X.mg x=some (.ref C)) (hb:Binds X.K fd ps ds) (hd:Vals f9 ds) (hx:Passes CX X E) (ha:PA X (e::es) t) (zx:(x == ("__debug__" : Str))=false:=by decide) (he:starEach (e::es) X.env=(false,eval e X.env)::starEach es X.env:=by rfl) (jG:(backTo pos (starEach es X.env)).any (·.1)=false:=by rfl) :
   PE X (.Call (.Name x p) (e::es) [] pos) (FW C sp f9 E t):=by
 intro pins s U H Q I h
 refine aol (oB I hg hm ?_ zx)
 refine W.callWith_K (h₀:=X.base) I.ok.mod.LK M.kp (cG (ha pos pins s U H _ I h) λ us s1 ⟨vs,H1,I1,r,q⟩=>⟨I1.oE,?_⟩) he jG
 exact GL M F hr hb hd hx I1 r q
end
section
variable {X:Cx} {CX:EC} {k:Nat} {f C:Addr} {fd:FuncData} {ps ks:List Str} {sp:Sp} {E:XK} {x m:Str} {p pos apos arK:Pos} {e o:Expr} {es:List Expr} {kws:List Keyword} {te ta:TE} {t tk:TA} {nm:Option Str}
variable {g:List Value->List Value->List Value} {gV:List V->List V->List V}
end
structure aw (N P:List Str) (sc:Scope):Prop where
 kind:sc.kind = .function
 co:sc.isCoroutine=false
 gen:sc.isGenerator=false
 nd:N.Nodup
 pre:N.take P.length=P
 par:∀ x∈P,sc.names.lookup x=some .local∨sc.names.lookup x=some .cell
 N3:∀ y∈sc.names,y.2 ≠ .free
theorem vh {kindOf:Str->Option NameKind} {x:Str}:∀ {binds:List (Str×Value)} {m:Str->Option Value},(∀ v,(x,v)∉binds)->bindL kindOf binds m x=m x
 | [],_,_=>rfl
 | (n,v)::r,m,h=>by
   unfold bindL
   rw [vh λ w hw=>h w (aeC _ hw)]
   split
   . have:x≠n:=by rintro rfl;exact h v afg
     simp [this]
   . rfl
theorem u0 {kindOf:Str->Option NameKind} {x:Str}:∀ {binds:List (Str×Value)} {m:Str->Option Value},(∀ v,(x,v)∉binds)->bindC kindOf binds m x=m x
 | [],_,_=>rfl
 | (n,v)::r,m,h=>by
   unfold bindC
   rw [u0 λ w hw=>h w (aeC _ hw)]
   split
   . rfl
   . have:x≠n:=by rintro rfl;exact h v afg
     simp [this]
theorem uJ {kindOf:Str->Option NameKind} {x:Str} {v:Value}:∀ {P:List Str} {vs:List Value} {i:Nat} {m:Str->Option Value},P.Nodup->P[i]?=some x->vs[i]?=some v->kindOf x=some .local ->
   bindL kindOf (P.zip vs) m x=some v
 | [],_,_,_,_,h,_,_=>by simp at h
 | _::_,[],_,_,_,_,h,_=>by simp at h
 | p::P,w::vs,0,m,nd,h1,h2,hk=>by
   simp at h1 h2;subst h1;subst h2
   show bindL kindOf ((p,w)::P.zip vs) m p=_
   unfold bindL
   rw [vh λ v hv=>(List.nodup_cons.mp nd).1 (ao0 hv).1,acS hk]
   simp
 | p::P,w::vs,i+1,m,nd,h1,h2,hk=>by
   show bindL kindOf ((p,w)::P.zip vs) m x=_
   unfold bindL
   exact uJ (i:=i) (List.nodup_cons.mp nd).2 (by simpa using h1) (by simpa using h2) hk
theorem ve {kindOf:Str->Option NameKind} {x:Str} {v:Value}:∀ {P:List Str} {vs:List Value} {i:Nat} {m:Str->Option Value},P.Nodup->P[i]?=some x->vs[i]?=some v->kindOf x≠some .local ->
   bindC kindOf (P.zip vs) m x=some v
 | [],_,_,_,_,h,_,_=>by simp at h
 | _::_,[],_,_,_,_,h,_=>by simp at h
 | p::P,w::vs,0,m,nd,h1,h2,hk=>by
   simp at h1 h2;subst h1;subst h2
   show bindC kindOf ((p,w)::P.zip vs) m p=_
   unfold bindC
   rw [u0 λ v hv=>(List.nodup_cons.mp nd).1 (ao0 hv).1,acO hk]
   simp
 | p::P,w::vs,i+1,m,nd,h1,h2,hk=>by
   show bindC kindOf ((p,w)::P.zip vs) m x=_
   unfold bindC
   exact ve (i:=i) (List.nodup_cons.mp nd).2 (by simpa using h1) (by simpa using h2) hk
def start (N:List Str) (vs:List V):St:=vs.map some++List.replicate (N.length - vs.length) none
def eW (CX:EC) (P:Program) (w:World) (K:W.Frag) (mg:Str->Option Value) (base:Heap) (N:List Str) (qual:Str) (scope:Scope) (f:Addr) (cd:Value) (A:Around) (outer:List Env) (s:Shared) (H:Hp) (E:XK):Cx where
 prog:=P
 w:=w
 K:=K
 mg:=mg
 base:=base
 A:=A.deeper (envOfC qual scope s.heap.objs.size f cd)
 N:=N
 s₀:=s
 H₀:=H
 env:=envOfC qual scope s.heap.objs.size f cd
 outer:=outer
 stack:=envOfC qual scope s.heap.objs.size f cd::outer
 ex:=[]
 calm:=true
 fn:=λ _=>true
 pn:=[]
 xe:=λ e s'=>wpAny (model P w) (A.deeper (envOfC qual scope s.heap.objs.size f cd)) (leaving (envOfC qual scope s.heap.objs.size f cd) e) (λ _ s''=>CX outer H s E e s'') (λ e' s''=>CX outer H s E e' s'') s'
theorem zP {sc:Scope} {n:Nat} {x:Str} (h:sc.names.lookup x=some .cell):∃ c,(cellsFrom n sc.names []).lookup x=some c:=by
 have q:=W.cellsFrom_some sc.names n [] (.inl h)
 exact Option.isSome_iff_exists.mp q
theorem DC {CX:EC} {P:Program} {w:World} {K:W.Frag} {mg:Str->Option Value} {base:Heap} {N ps:List Str} {scope:Scope} {f:Addr} {cd:Value} {A:Around} {outer:List Env} {s s1:Shared} {E:XK} {vs:List V} (S:aw N ps scope) (hd:A.handled=none) (e0:AB P w K mg base A outer s H) (hl:vs.length=ps.length) (r:Vals vs us) (x:InCallC s s.heap.objs.size (bindL (envOfC qual scope s.heap.objs.size f cd).kindOf (ps.zip us) λ _=>none) (cellsFrom (s.heap.objs.size+1) scope.names []) (bindC (envOfC qual scope s.heap.objs.size f cd).kindOf (ps.zip us) λ _=>none) s1) :
   Inv (eW CX P w K mg base N qual scope f cd A outer s H E) [] (start N vs) H s1:=by
 have jG:ps.length<=N.length:=by have:=anv List.length S.pre;rw [ad4] at this;lia
 obtain ⟨h1,tk,rfl,hk⟩:=x.done
 have RL:∀ b:Addr,b∉(eW CX P w K mg base N qual scope f cd A outer s H E).ex:=λ b z=>absurd (show b∈([]:List Addr) from z) (by simp)
 refine ⟨⟨e0.mod,S.kind,rfl,rfl,aat _,λ y z c h1 h2=>?_,λ y hy=>?_,λ y c _ h=>?_,λ _=>hd,Around.frames_deeper e0.frames,.inr ⟨rfl,rfl⟩,λ b z=>absurd z (RL b),e0.bs,e0.LW,λ b _ _=>RL b,λ b z=>absurd z (RL b),e0.ni,e0.HX⟩,
   rfl,e0.bare,Un.kept hk,⟨_,x.toInCall.ns,λ i y v h1 h2 h3=>?_⟩,λ y c h=>⟨_,x.cell y c h⟩,e0.cg.fresh (aat _),λ y c h=>?_,λ p hp=>absurd (show p∈([]:List (Addr×Obj)) from hp) (by simp),e0.cg.kept hk,?_⟩
 . exact name_of_addr x.apart (amO h1) (amO h2)
 .
  have hy:scope.names.lookup y=some .cell∨scope.names.lookup y=some .free:=hy
  rcases hy with hy|hy
  . exact zP hy
  . exact absurd rfl (S.N3 _ (amO hy))
 . exact anY (x.above y c (amO h))
 .
  have hi:i<vs.length:=by
    unfold start at h2
    by_cases hi:i<vs.length
    . exact hi
    . rw [agM (by simpa using hi)] at h2
      rw [aoi] at h2
      split at h2<;>cases h2
  have ha:vs[i]?=some v:=by
    unfold start at h2
    rw [aft (by simpa using hi),T1] at h2
    cases e:vs[i]? with
    | none=>rw [e] at h2;cases h2
    | some a=>rw [e] at h2;cases h2;rfl
  obtain ⟨u,hu,rv⟩:=r.get ha
  have hp:ps[i]?=some y:=by
    rw [← S.pre,anN (by lia)];exact h1
  have ndP:ps.Nodup:=by rw [← S.pre];exact S.nd.sublist (List.take_sublist _ _)
  refine ⟨u,rv,?_⟩
  rcases S.par y (ad5 hp) with k|k
  . exact .inl ⟨k,uJ ndP hp hu k⟩
  .
   obtain ⟨c,e⟩:=zP (n:=s.heap.objs.size+1) k
   refine .inr ⟨.inl k,c,e,?_⟩
   have q:=x.cell y c e
   rw [ve ndP hp hu (by show scope.names.lookup y≠_;rw [k];decide)] at q
   exact q
 . exact e0.cg.fresh (anY (x.above y c (amO h)))
 .
  unfold start
  show _=N.length
  rw [abi,AM,ans]
  lia
theorem G6 {CX:EC} {P:Program} {w:World} {K:W.Frag} {mg:Str->Option Value} {base:Heap} {k:Nat} {f:Addr} {name:Str} {params:Arguments} {body:List Stmt} {scope:Scope} {dV kV doc pm bq ct oc:Value} {an od:Option Addr} {xv:Array (Option Value)} {N ps:List Str} {sp:Sp} (lk:K.lookup f=some ⟨oc,od,.func (W.fnOf name qual params body scope dV kV doc pm an bq ct),xv⟩) (qI:W.codeIn K bq qual=true) (S:aw N ps scope) (len:∀ vs H Q E,sp vs H Q E->vs.length=ps.length) (d9:∀ (A:Around) (outer:List Env) (s:Shared) (H:Hp) (vs:List V) (Q:VK) (E:XK),cA k (A.deeper (envOfC qual scope s.heap.objs.size f bq))->sp vs H Q E ->
     ∃ t,qg (eW CX P w K mg base N qual scope f bq A outer s H E) body t/\t { nx:=λ _ H'=>Q .b9 H',rt:=Q } (start N vs) H) :
   hZ P w K mg base CX (k+1) f (W.fnOf name qual params body scope dV kV doc pm an bq ct) ps sp:=by
 refine ⟨len,λ A outer s H args us vs Q E hr e0 hb r HN=>?_⟩
 have hl:=len _ _ _ _ HN
 have KX:K.In s.heap:=e0.mod.LK.keeps λ b o e=>(e0.bs b o e).1
 have lim:s.heap.NoLimit:=e0.mod.nolimit.keeps λ b o e=>(e0.bs b o e).1
 have R4:∀ y∈ps.zip us,scope.names.lookup y.1=some .local∨(scope.names.lookup y.1=some .cell/\((cellsFrom (s.heap.objs.size+1) scope.names []).lookup y.1).isSome=true):=λ ⟨n,v⟩ hy=>by
   rcases S.par n (ao0 hy).1 with q|q
   . exact .inl q
   . exact .inr ⟨q,W.cellsFrom_some _ _ _ (.inl q)⟩
 refine codeAny_call_function hr.depth (KX _ _ lk) rfl S.co S.gen rfl (W.codeRec_of KX qI) (hb _ _ _ _ ?_)
 refine wpAny_newFunctionEnv_cells S.kind R4 λ env he s1 x=>?_
 subst he
 refine ⟨lim.keeps x.toInCall.keep,codeAny_func ?_⟩
 obtain ⟨t,ht,hq⟩:=d9 A outer s H vs Q E (hr.deeper _) HN
 have I:Inv (eW CX P w K mg base N qual scope f bq A outer s H E) [] (start N vs) H s1:=DC S hr.hd e0 hl r x
 refine ahF (ht [] s1 (start N vs) H _ I hq) (λ fl s' hs=>?_) λ e s' hs=>hs
 have fin:∀ {σ':St} {H':Hp} {v:V} {u:Value},Inv (eW CX P w K mg base N qual scope f bq A outer s H E) [] σ' H' s'->RelV v u->Q v H'->CE outer P w H s Q u s' :=
   λ {σ' H' v u} J rv q=>⟨v,H',J.os,J.bare,J.base,J.cg,rv,q⟩
 cases fl with
 | ret u =>
   obtain ⟨v,σ',H',J,rv,q⟩:=hs
   exact fin J rv q
 | next =>
   obtain ⟨σ',H',J,q⟩:=hs
   exact fin (v:=V.b9) (u:=Value.none) J rfl q
 | brk =>
   obtain ⟨_,_,_,q⟩:=hs
   exact False.elim q
 | cont =>
   obtain ⟨_,_,_,q⟩:=hs
   exact False.elim q
section
variable {X:Cx} {x:Str} {p pos:Pos} {e:Expr} {es:List Expr} {t:TA} {id T:String} {r:List V->Hp->VK->Prop}
def tCB (r:List V->Hp->VK->Prop) (t:TA):TE:=λ U H Q=>t U H λ vs H1=>r vs H1 Q
theorem aX (hc:iN X (.builtin id) r) (hg:Gl X x) (hm:X.mg x=none) (hv:bootBuiltins x=some (.builtin id)) (ha:PA X (e::es) t) (hn:x ≠ "__name__":=by decide) (zx:(x == ("__debug__" : Str))=false:=by decide) (he:starEach (e::es) X.env=(false,eval e X.env)::starEach es X.env:=by rfl) (jG:(backTo pos (starEach es X.env)).any (·.1)=false:=by rfl):PE X (.Call (.Name x p) (e::es) [] pos) (tCB r t):=by
 intro pins s U H Q I h
 refine aol (lK I hg hm hv ?_ hn zx)
 exact PyProof.Rows.callWith_builtin1 (cG (ha pos pins s U H _ I h) λ us s1 ⟨vs,H1,I1,r1,q1⟩=>hc pins s1 U H1 vs us Q I1 r1 q1) he jG
theorem cX (hc:iN X (.type T) r) (hg:Gl X x) (hm:X.mg x=none) (hv:bootBuiltins x=some (.type T)) (ha:PA X (e::es) t) (hn:x ≠ "__name__":=by decide) (zx:(x == ("__debug__" : Str))=false:=by decide) (he:starEach (e::es) X.env=(false,eval e X.env)::starEach es X.env:=by rfl) (jG:(backTo pos (starEach es X.env)).any (·.1)=false:=by rfl):PE X (.Call (.Name x p) (e::es) [] pos) (tCB r t):=by
 intro pins s U H Q I h
 refine aol (lK I hg hm hv ?_ hn zx)
 exact akT (cG (ha pos pins s U H _ I h) λ us s1 ⟨vs,H1,I1,r1,q1⟩=>hc pins s1 U H1 vs us Q I1 r1 q1) he jG
end
end L2
namespace HT
open PySem PyProof.Rows
def lexLt:List Int->List Int->Bool
 | [],[]=>false
 | [],_::_=>true
 | _::_,[]=>false
 | x::xs,y::ys=>if x=y then lexLt xs ys else decide (x<y)
section
open PySem.SeqAt
open PySem.AutoSeq1 (wpAny_loadPart')
open PySem.MeetsSeq PySem.MeetsSeq2 PySem.MeetsSeq3
end
section
variable {prog:Program} {w:World} {A:Around} {E:Value->Shared->Prop} {s:Shared}
theorem Jx {t b:Addr} {vs ws:List Value} {Q:Value->Shared->Prop} (ht:IsTup s.heap t vs.toArray) (hb:IsTup s.heap b ws.toArray) (hv:vs≠[])
   (h1:ws=[]->Q (.ref t) s) (h2:ws≠[]->Q (.ref s.heap.objs.size) { s with heap:=s.heap.push { cls:=.type "tuple",data:=.seq (vs++ws).toArray }})
   (hsz:vs.length+ws.length<=sizeLine):wpAny (model prog w) A (binaryOp .Add (.ref t) (.ref b)) Q E s:=by
 obtain ⟨⟨cls,dd,data,sl⟩,ho,hc,n,hd⟩:=id ht
 obtain ⟨⟨ah4,MG,data2,Eu⟩,NH,VP,n2,hd2⟩:=id hb
 simp only at hc hd VP hd2
 subst hc hd VP hd2
 have e:vs.toArray++ws.toArray=(vs++ws).toArray:=by simp
 by_cases hw:ws=[]
 . exact concat_meets ⟨_,ho,rfl⟩ ⟨_,NH,rfl⟩ aph seq_tuple_add aop aoh (aoe _ _)
     (tuple_addW1 t b vs.toArray ws.toArray n n2 dd MG sl Eu (by simpa using hv) (by simp [hw])) ⟨ho,NH,h1 hw⟩
 .
  refine concat_meets ⟨_,ho,rfl⟩ ⟨_,NH,rfl⟩ aph seq_tuple_add aop aoh (aoe _ _)
    (tuple_addW2 t b vs.toArray ws.toArray n n2 dd MG sl Eu (by simpa using hv) (by simpa using hw) (by rw [adJ,adJ];exact hsz)) ⟨ho,NH,?_⟩
  rw [e]
  exact h2 hw
def tW (n d:Nat):Option Int->Nat
 | none=>d
 | some v=>if v<0 then (v+(n:Int)).toNat else min v.toNat n
theorem EH (n d:Nat):tW n d none=d:=rfl
theorem Jg (n d k:Nat):tW n d (some (k:Int))=min k n:=by
 show (if (k:Int)<0 then ((k:Int)+(n:Int)).toNat else min (k:Int).toNat n)=min k n
 rw [acO (by lia),akM]
end
end HT
namespace L2
open PySem PySem.Spec PyProof.Rows
variable {H H':Hp} {h':Heap} {br its':List Value} {pins:List (Addr×Obj)} {t':Nat} {u:Value} {v:V} {xs:List V} {U:St}
abbrev TO:=St->Hp->(Option Int->Hp->Prop)->Prop
def PO (X:Cx) (e:Option Expr) (t:TO):Prop :=
 ∀ (pins:List (Addr×Obj)) (s:Shared) (U:St) (H:Hp) (Q:Option Int->Hp->Prop),Inv X pins U H s->t U H Q ->
   wpAny (model X.prog X.w) X.A (evalPart e X.env) (λ u s'=>∃ o H',Inv X pins U H' s'/\IsPart u o/\Q o H') X.xe s
def J6:TO:=λ _ H Q=>Q none H
def XW (t:TE):TO:=λ U H Q=>t U H λ x H1=>∃ i,x = .int i/\Q (some i) H1
section
variable {X:Cx} {e:Expr} {te:TE} {lo hi:Option Expr} {tl th:TO} {pos p2:Pos}
theorem vX:PO X none J6:=by
 intro pins s U H Q I h
 rw [evalPart_none]
 exact adt ⟨none,H,I,.none,h⟩
theorem jU (h:PE X e te):PO X (some e) (XW te):=by
 intro pins s U H Q I hw
 rw [evalPart_some]
 refine cG (h pins s U H _ I hw) λ u s1 ⟨x,H1,I1,r1,q1⟩=>?_
 obtain ⟨i,rfl,q⟩:=q1
 obtain ⟨t,rfl⟩:=r1
 exact ⟨some i,H1,I1,.int i t,q⟩
def SlR (X:Cx) (r:V->Option Int->Option Int->Hp->VK->Prop):Prop :=
 ∀ (pins:List (Addr×Obj)) (s:Shared) (U:St) (H:Hp) (x:V) (v vl vu:Value) (lo hi:Option Int) (sl:Addr) (Q:VK),Inv X pins U H s->RelV x v->s.heap.IsSliceOf sl vl vu .none->IsPart vl lo->IsPart vu hi->r x lo hi H Q ->
   ∃ T id,typeLookup (.type T) "__getitem__" = pure (some (.builtin id))/\s.TypeIs v T/\wpAny (model X.prog X.w) X.A (getItem v (.ref sl)) (EP X pins U Q) X.xe s
def tSl (r:V->Option Int->Option Int->Hp->VK->Prop) (te:TE) (tl th:TO):TE:=λ U H Q=>te U H λ x H1=>tl U H1 λ l H2=>th U H2 λ u H3=>r x l u H3 Q
theorem lF {r:V->Option Int->Option Int->Hp->VK->Prop} (hr:SlR X r) (he:PE X e te) (hl:PO X lo tl) (hu:PO X hi th):PE X (.Subscript e (.Slice lo hi none p2) pos) (tSl r te tl th):=by
 intro pins s U H Q I h
 refine Subscript_ (cG (he pins s U H _ I h) λ v s1 ⟨x,H1,I1,r1,q1⟩=>?_)
 refine wpAny_Slice (cG (hl pins s1 U H1 _ I1 q1) λ vl s2 ⟨l,H2,I2,pl,q2⟩=>cG (hu pins s2 U H2 _ I2 q2) λ vu s3 ⟨u,H3,I3,pu,q3⟩=>?_)
 rw [evalPart_none]
 refine adt ?_
 have I4:Inv X pins U H3 { s3 with heap:=s3.heap.push { cls:=.type "slice",data:=.fields #[vl,vu,.none]}}:=I3.kept (t':=s3.toks) λ b ob q=>aas _ q
 obtain ⟨T,id,hT,ht,hg⟩:=hr pins { s3 with heap:=s3.heap.push { cls:=.type "slice",data:=.fields #[vl,vu,.none]}} U H3 x v vl vu l u s3.heap.objs.size Q I4 r1 (Heap.IsSliceOf.new ..) pl pu q3
 show wpAny (model X.prog X.w) X.A (subscriptTail e (.Slice lo hi none p2) v (.ref s3.heap.objs.size)) (EP X pins U Q) X.xe { s3 with heap:=s3.heap.push { cls:=.type "slice",data:=.fields #[vl,vu,.none]}}
 exact tail_any (ops:=[.ref s3.heap.objs.size,v]) ht hT hg (by with_unfolding_all rfl)
def oH (xs:List V) (lo hi:Option Int):List V:=(xs.drop (HT.tW xs.length 0 lo)).take (HT.tW xs.length xs.length hi - HT.tW xs.length 0 lo)
theorem pW (xs:List V) (lo hi:Option Int):(oH xs lo hi).length<=xs.length:=by
 unfold oH
 rw [ad4,List.length_drop]
 lia
inductive Um (K:W.Frag) (x:V) (y:V) (H:Hp) (Q:VK):Prop
 | mk (a b xs ys:_) (_:x = .ref a) (_:y = .ref b) (_:bP K H a xs) (_:bP K H b ys) (_:xs≠[]) (_:xs.length+ys.length<=sizeLine) (_:(ys=[]->Q (.ref a) H)) (_:(ys≠[]->∀ p,H p=none->Q (.ref p) (upd H p (.tup (xs++ys)))))
theorem Vals.qL {us:List Value} (r:Vals xs us):us=[]↔xs=[]:=by
 cases r with
 | nil=>simp
 | cons _ _=>simp
theorem CG:iY X (binaryOp .Add) (Um X.K):=by
 intro pins s U H x y v u Q I rx ry h
 obtain ⟨a,b,xs,ys,rfl,rfl,ha,hb,hx,hz,q1,q2⟩:=h
 cases rx
 cases ry
 obtain ⟨br,r1,p1,_⟩:=I.tuple ha
 obtain ⟨mY,r2,p2,_⟩:=I.tuple hb
 refine HT.Jx p1 p2 (λ z=>hx (r1.qL.mp z)) (λ z=>⟨.ref a,H,I,rfl,q1 (r2.qL.mp z)⟩) (λ z=>?_) (by rw [← r1.length,← r2.length];exact hz)
 refine ⟨.ref s.heap.objs.size,_,I.laid (t':=s.toks) (o:=.tup (xs++ys)) (λ b ob q=>aas _ q) (aat _) ?_,rfl,q2 (λ w=>z (r2.qL.mpr w)) _ (I.cg.fresh (aat _))⟩
 exact ⟨by rw [abi];exact hz,_,r1.append r2,IsTup.new _ _⟩
end
def Ck (n:Nat) (i:Int):Option Nat:=if 0<=i then (if i<n then some i.toNat else none) else if -(n:Int)<=i then some (i+n).toNat else none
def tN {α:Type} (xs:List α) (i:Int):Option α:=(Ck xs.length i).bind λ j=>xs[j]?
theorem CD {n:Nat} {i:Int} {j:Nat} (h:Ck n i=some j):seqIndex? i n=some j/\j<n/\-(n:Int)<=i/\i<n:=by
 unfold Ck at h
 by_cases h0:0<=i
 .
  rw [acS h0] at h
  by_cases h1:i<n
  . rw [acS h1] at h
    have e:i.toNat=j:=ac2 h
    exact ⟨by rw [seqIndex_of h0 h1,e],by lia,by lia,h1⟩
  . rw [acO h1] at h;cases h
 .
  rw [acO h0] at h
  by_cases h1 : -(n:Int)<=i
  . rw [acS h1] at h
    have e:(i+n).toNat=j:=ac2 h
    exact ⟨by rw [seqIndex_neg (by lia) h1,e],by lia,h1,by lia⟩
  . rw [acO h1] at h;cases h
theorem Cq {α:Type} {xs:List α} {i:Int} {v:α} (h:tN xs i=some v):∃ j,seqIndex? i xs.length=some j/\xs[j]?=some v/\j<xs.length/\-(xs.length:Int)<=i/\i<xs.length:=by
 unfold tN at h
 cases e:Ck xs.length i with
 | none=>rw [e] at h;cases h
 | some j =>
   rw [e] at h
   obtain ⟨h1,h2,h3,h4⟩:=CD e
   exact ⟨j,h1,h,h2,h3,h4⟩
theorem bA {α:Type} {xs:List α} {j:Nat} {v:α} (h:xs[j]?=some v):tN xs (j:Int)=some v:=by
 have hj:j<xs.length:=(List.getElem?_eq_some_iff.mp h).1
 have e:Ck xs.length (j:Int)=some j:=by
   unfold Ck
   rw [acS (by lia),acS (by lia)];simp
 unfold tN;rw [e];exact h
def Js (b:Expr):Prop:=∀ o i,subscripted b false o i=operate [o,i] (getItem o i)
def R3 (X:Cx) (r:R2):Prop :=
 ∀ (value slice:Expr) (pins:List (Addr×Obj)) (s:Shared) (U:St) (H:Hp) (x y:V) (v u:Value) (Q:VK),Inv X pins U H s->RelV x v->RelV y u->r x y H Q ->
   subscripted slice false v u=operate [v,u] (getItem v u)->wpAny (model X.prog X.w) X.A (subscriptTail value slice v u) (EP X pins U Q) X.xe s
def MtR (X:Cx) (id:String) (r:V->List V->Hp->VK->Prop):Prop :=
 ∀ (pins:List (Addr×Obj)) (s:Shared) (U:St) (H:Hp) (x:V) (xs:List V) (v:Value) (us:List Value) (Q:VK),Inv X pins U H s->RelV x v->Vals xs us->r x xs H Q ->
   wpAny (model X.prog X.w) X.A (call (.builtin id) (v::us)) (EP X pins U Q) X.xe s
section
variable {X:Cx} {a b:Expr} {ta tb:TE} {pos:Pos}
theorem aB {r:R2} (hr:R3 X r) (ha:PE X a ta) (hb:PE X b tb) (hs:Js b):PE X (.Subscript a b pos) (Tr r ta tb):=by
 intro pins s U H Q I h
 exact Subscript_ (M3 ha hb I h λ v u s2 x y H2 I2 rx ry q=>hr a b pins s2 U H2 x y v u Q I2 rx ry q (hs _ _))
inductive aj8 (K:W.Frag) (x:V) (y:V) (H:Hp) (Q:VK):Prop
 | mk (p xs i v:_) (_:x = .ref p) (_:y = .int i) (_:aT K H p xs) (_:tN xs i=some v) (_:Q v H)
inductive aep (K:W.Frag) (x:V) (y:V) (H:Hp) (Q:VK):Prop
 | mk (p xs i v:_) (_:x = .ref p) (_:y = .int i) (_:bP K H p xs) (_:tN xs i=some v) (_:Q v H)
theorem JP:R3 X (aj8 X.K):=by
 intro value slice pins s U H x y v u Q I rx ry h hs
 obtain ⟨p,xs,i,z,rfl,rfl,hq,he,q⟩:=h
 cases rx
 obtain ⟨t,rfl⟩:=ry
 obtain ⟨br,r,pl,hz⟩:=I.list hq
 obtain ⟨j,h1,h2,h3,h4,h5⟩:=Cq he
 obtain ⟨w,ew,zZ⟩:=r.get h2
 have hl:=r.length
 have hn:=wJ
 have fin:EP X pins U Q w s:=⟨z,H,I,zZ,q⟩
 by_cases h0:0<=i
 .
  have hj:i.toNat=j:=by
    rw [seqIndex_of h0 h5] at h1
    exact ac2 h1
  exact item_listR pl.isList h0 (by lia) (by rw [hj];simpa using ew) fin hs
 .
  have hj:(i+(br.toArray.size:Int)).toNat=j:=by
    rw [seqIndex_neg (by lia) h4] at h1
    rw [adJ,← hl]
    exact ac2 h1
  exact subscriptTail_builtinR (x:=w) pl.isList.typeIs slot_list_getitem.lookup
    (wpAny_getItem_list_neg (Q:=λ r s'=>r=w/\EP X pins U Q r s') pl.isList (by lia) (by rw [adJ]<;>lia) (by lia) (by rw [hj];simpa using ew) ⟨rfl,fin⟩) hs
theorem NU:R3 X (aep X.K):=by
 intro value slice pins s U H x y v u Q I rx ry h hs
 obtain ⟨p,xs,i,z,rfl,rfl,hq,he,q⟩:=h
 cases rx
 obtain ⟨t,rfl⟩:=ry
 obtain ⟨br,r,pl,hz⟩:=I.tuple hq
 obtain ⟨j,h1,h2,h3,h4,h5⟩:=Cq he
 obtain ⟨w,ew,zZ⟩:=r.get h2
 have hl:=r.length
 have hn:=wJ
 have fin:EP X pins U Q w s:=⟨z,H,I,zZ,q⟩
 exact subscriptTail_builtinR (x:=w) pl.typeIs slot_tuple_getitem.lookup
   (getItem_tuple (j:=j) (Q:=λ r s'=>r=w/\EP X pins U Q r s') pl (by lia) (by lia) (by rw [adJ,← hl];exact h1) (by simpa using ew) ⟨rfl,fin⟩) hs
theorem BO (br:List Value) (n j:Nat) (u:Value):Obj.mapSeq (·.setIfInBounds j u) { cls:=.type "list",data:=.seq br.toArray n }={ cls:=.type "list",data:=.seq (br.set j u).toArray n }:=by
 simp [Obj.mapSeq]
theorem Inv.lst {s:Shared} {p:Addr} (I:Inv X pins U H s) (h:H p=some (.lst xs)) :
   ∃ (br:List Value) (n:Nat),Vals xs br/\s.heap.get? p=some { cls:=.type "list",data:=.seq br.toArray n }/\xs.length<=sizeLine:=by
 obtain ⟨z,br,n,r,e⟩:=I.cg p _ h
 exact ⟨br,n,r,e,z⟩
theorem Inv.No {s:Shared} {p:Addr} {ys:List V} {n n':Nat} {f:Obj->Obj} (I:Inv X pins U H s) (h:H p=some (.lst xs)) (ho:s.heap.get? p=some { cls:=.type "list",data:=.seq br.toArray n }) (hf:f { cls:=.type "list",data:=.seq br.toArray n }={ cls:=.type "list",data:=.seq its'.toArray n' }) (r:Vals ys its') (hz:ys.length<=sizeLine) (t:Nat) :
   Inv X pins U (upd H p (.lst ys)) { s with heap:=s.heap.update p f,toks:=t }:=by
 have e:(s.heap.update p f).get? p=some { cls:=.type "list",data:=.seq its'.toArray n' }:=by
   rw [anI f ho (by rw [hf]<;>rfl),hf]
 refine I.write (x:=p) (e:=p) (by rw [h];trivial) (.inl rfl) (λ b u hb q=>(anE _ _ (anq hb)).trans q) ⟨_,e⟩ ?_
 exact ⟨hz,its',n',r,e⟩
def Sm:V->V->V->Hp->(Hp->Prop)->Prop:=λ o i v H Q=>∃ p xs k j,o = .ref p/\i = .int k/\H p=some (.lst xs)/\Ck xs.length k=some j/\Q (upd H p (.lst (xs.set j v)))
theorem set_list:Sf X Sm:=by
 intro pins s U H o i v ov iv u Q I ro ri rv h
 obtain ⟨p,xs,k,j,rfl,rfl,hp,hj,q⟩:=h
 cases ro
 obtain ⟨t,rfl⟩:=ri
 obtain ⟨br,n,r,ho,hz⟩:=I.lst hp
 obtain ⟨h1,h2,h3,h4⟩:=CD hj
 have hl:=r.length
 have hn:=wJ
 have I':Inv X pins U (upd H p (.lst (xs.set j v))) { s with heap:=s.heap.update p (Obj.mapSeq (·.setIfInBounds j u))} :=
   I.No hp ho (BO br n j u) (r.set rv j) (by rw [aln];exact hz) s.toks
 by_cases h0:0<=k
 .
  have hk:k.toNat=j:=by
    rw [seqIndex_of h0 h4] at h1
    exact ac2 h1
  exact W.ki_setAt ho h0 (by lia) (by rw [adJ,← hl];exact h4) (by rw [hk];exact ⟨_,I',q⟩)
 .
  have hk:(k+(br.toArray.size:Int)).toNat=j:=by
    rw [seqIndex_neg (by lia) h3] at h1
    rw [adJ,← hl]
    exact ac2 h1
  exact W.ki_setBack ho (by lia) (by rw [adJ,← hl];exact h3) (by lia) (by rw [hk];exact ⟨_,I',q⟩)
theorem wr (lo hi:Option Int) (n:Nat):(sliceBounds lo hi none n).1=((HT.tW n 0 lo:Nat):Int)/\(sliceBounds lo hi none n).2.1=((HT.tW n n hi:Nat):Int)/\(sliceBounds lo hi none n).2.2=1:=by
 refine ⟨?_,?_,rfl⟩
 .
  cases lo with
  | none=>simp [sliceBounds,HT.tW]
  | some i =>
    simp only [sliceBounds,HT.tW,Option.getD_none,show (1:Int) > 0 by decide,anS]
    by_cases h:i<0
    . simp only [h,anS]<;>lia
    . simp only [h,an2]<;>lia
 .
  cases hi with
  | none=>simp [sliceBounds,HT.tW]
  | some i =>
    simp only [sliceBounds,HT.tW,Option.getD_none,show (1:Int) > 0 by decide,anS]
    by_cases h:i<0
    . simp only [h,anS]<;>lia
    . simp only [h,an2]<;>lia
theorem uq (br:List Value) (lo hi:Option Int):slicePick br.toArray lo hi none=((br.drop (HT.tW br.length 0 lo)).take (HT.tW br.length br.length hi - HT.tW br.length 0 lo)).toArray:=by
 obtain ⟨h1,h2,h3⟩:=wr lo hi br.toArray.size
 unfold slicePick
 rw [h1,h2,h3]
 simp only [sliceRange_one,pick_run,adJ]<;>rfl
inductive alI (K:W.Frag) (x:V) (lo:Option Int) (hi:Option Int) (H:Hp) (Q:VK):Prop
 | mk (a xs:_) (_:x = .ref a) (_:aT K H a xs) (_:∀ p,H p=none->Q (.ref p) (upd H p (.lst (oH xs lo hi))))
theorem wG:SlR X (alI X.K):=by
 intro pins s U H x v vl vu lo hi sl Q I rx hs pl pu h
 obtain ⟨a,xs,rfl,hx,q⟩:=h
 cases rx
 obtain ⟨br,r,ht,hz⟩:=I.list hx
 have hlen:=r.length
 refine ⟨"list",_,slot_list_getitem.lookup,ht.isList.typeIs,?_⟩
 refine wpAny_getItem_list_slice ht.isList hs pl pu .none (by simp) ?_ (by rw [adJ]<;>lia)
 rw [uq,← hlen]
 refine ⟨.ref s.heap.objs.size,_,I.laid (t':=s.toks) (o:=.lst (oH xs lo hi)) (λ b ob q=>aas _ q) (aat _) ?_,rfl,q _ (I.cg.fresh (aat _))⟩
 exact ⟨agB (pW xs lo hi) hz,_,0,(r.drop (HT.tW xs.length 0 lo)).take (HT.tW xs.length xs.length hi - HT.tW xs.length 0 lo),afq _ rfl⟩
def oq:V->Bool
 | .b9=>true
 | .bl _=>true
 | .int _=>true
 | .str _=>true
 | _=>false
def LB:V->V->Bool
 | .b9,.b9=>true
 | .bl a,.bl b=>a == b
 | .bl a,.int b=>(if a then 1 else 0) == b
 | .int a,.bl b=>a == (if b then 1 else 0)
 | .int a,.int b=>a == b
 | .str a,.str b=>a == b
 | _,_=>false
theorem Mr {A:Around} {s:Shared} {y x:V} {v:Value} (ry:RelV y u) (rx:RelV x v) (fy:oq y=true) (fx:oq x=true):SeqAt.EqAt A s u v (LB y x):=by
 cases y with
 | b9 =>
   cases ry
   cases x with
   | b9=>cases rx;exact SeqAt.EqAt.same _
   | bl b=>cases rx;exact SeqAt.EqAt.none_bool b
   | int b=>obtain ⟨t,rfl⟩:=rx;exact SeqAt.EqAt.none_int b t
   | str b=>obtain ⟨t,rfl⟩:=rx;exact SeqAt.EqAt.none_str b t
   | _=>exact absurd (show false=true from fx) abZ
 | bl a =>
   cases ry
   cases x with
   | b9=>cases rx;exact SeqAt.EqAt.bool_none a
   | bl b=>cases rx;exact SeqAt.EqAt.bool_bool a b
   | int b=>obtain ⟨t,rfl⟩:=rx;exact SeqAt.EqAt.bool_int a b t
   | str b=>obtain ⟨t,rfl⟩:=rx;exact SeqAt.EqAt.bool_str a b t
   | _=>exact absurd (show false=true from fx) abZ
 | int a =>
   obtain ⟨t',rfl⟩:=ry
   cases x with
   | b9=>cases rx;exact SeqAt.EqAt.int_none a t'
   | bl b=>cases rx;exact SeqAt.EqAt.int_bool a t' b
   | int b=>obtain ⟨t,rfl⟩:=rx;exact SeqAt.EqAt.int_int a t' b t
   | str b=>obtain ⟨t,rfl⟩:=rx;exact SeqAt.EqAt.int_str a t' b t
   | _=>exact absurd (show false=true from fx) abZ
 | str a =>
   obtain ⟨t',rfl⟩:=ry
   cases x with
   | b9=>cases rx;exact SeqAt.EqAt.str_none a t'
   | bl b=>cases rx;exact SeqAt.EqAt.str_bool a t' b
   | int b=>obtain ⟨t,rfl⟩:=rx;exact SeqAt.EqAt.str_int a t' b t
   | str b=>obtain ⟨t,rfl⟩:=rx;exact SeqAt.EqAt.str_str a t' b t
   | _=>exact absurd (show false=true from fx) abZ
 | _=>exact absurd (show false=true from fy) abZ
def Lj (x:V) (u:Value):Bool:=match u with
 | .none=>LB .b9 x
 | .bool b=>LB (.bl b) x
 | .int i _=>LB (.int i) x
 | .str z _=>LB (.str z) x
 | _=>false
theorem GC {x y:V} (r:RelV y u) (f:oq y=true):Lj x u=LB y x:=by
 cases y with
 | b9=>cases r;rfl
 | bl b=>cases r;rfl
 | int i=>obtain ⟨t,rfl⟩:=r;rfl
 | str z=>obtain ⟨t,rfl⟩:=r;rfl
 | _=>exact absurd (show false=true from f) abZ
theorem wV {x:V}:∀ {xs:List V} {us:List Value},Vals xs us->xs.all oq=true->us.any (Lj x)=xs.any λ y=>LB y x
 | _,_,.nil,_=>rfl
 | y::xs,u::us,.cons r t,f=>by
   rw [List.all_cons,aeX] at f
   rw [anx,anx,GC r f.1,wV t f.2]
theorem sP {A:Around} {s:Shared} {x:V} {v:Value} (rx:RelV x v) (fx:oq x=true):∀ {xs:List V} {us:List Value},Vals xs us->xs.all oq=true->∀ u∈us,SeqAt.EqAt A s u v (Lj x u)
 | _,_,.nil,_=>λ u hu=>by cases hu
 | y::xs,u::us,.cons r t,f=>λ u' hu=>by
   rw [List.all_cons,aeX] at f
   rcases List.mem_cons.mp hu with rfl|hu
   . rw [GC r f.1];exact Mr r rx f.1 fx
   . exact sP rx fx t f.2 u' hu
def HB (x:V) (xs:List V):Bool:=xs.any λ y=>LB y x
inductive rIn (K:W.Frag) (neg:Bool) (x:V) (y:V) (H:Hp) (Q:VK):Prop
 | mk (p xs:_) (_:y = .ref p) (_:(aT K H p xs∨bP K H p xs)) (_:oq x=true) (_:xs.all oq=true) (_:Q (.bl (if neg then !HB x xs else HB x xs)) H)
theorem nH:iY X (compareOp .NotIn) (rIn X.K true):=by
 intro pins s U H x y v u Q I rx ry h
 obtain ⟨p,xs,rfl,hq,fx,fs,q⟩:=h
 cases ry
 rcases hq with hq|hq
 .
  obtain ⟨br,r,pl,hz⟩:=I.list hq
  refine SeqAt.notIn_listAt (Lj x) pl.isList (λ w hw=>sP rx fx r fs w (by simpa using hw)) ⟨.bl _,H,I,rfl,?_⟩
  rw [show br.toArray.any (Lj x)=br.any (Lj x) by simp,wV r fs]
  exact q
 .
  obtain ⟨br,r,pl,hz⟩:=I.tuple hq
  refine SeqAt.notIn_tupleAt (Lj x) pl (λ w hw=>sP rx fx r fs w (by simpa using hw)) ⟨.bl _,H,I,rfl,?_⟩
  rw [show br.toArray.any (Lj x)=br.any (Lj x) by simp,wV r fs]
  exact q
theorem xb:iN X (.builtin "len") (λ xs H Q=>∃ p ys,xs=[.ref p]/\(aT X.K H p ys∨bP X.K H p ys)/\Q (.int ys.length) H):=by
 intro pins s U H xs us Q I r h
 obtain ⟨p,ys,rfl,hq,q⟩:=h
 obtain ⟨u,rfl,rx⟩:=vals1 r
 cases rx
 have hn:=wJ
 rcases hq with hq|hq
 . obtain ⟨br,r',pl,hz⟩:=I.list hq
   have hlen:=r'.length
   exact Calls.call_len_list pl.isList (by simp only [adJ]<;>lia) ⟨.int ys.length,H,I.tok _,⟨s.toks+1,by rw [adJ,hlen]⟩,q⟩
 . obtain ⟨br,r',pl,hz⟩:=I.tuple hq
   have hlen:=r'.length
   exact len_tuple pl (by simp only [adJ]<;>lia) ⟨.int ys.length,H,I.tok _,⟨s.toks+1,by rw [adJ,hlen]⟩,q⟩
theorem ip:iN X (.type "list") (λ xs H Q=>∃ p ys,xs=[.ref p]/\(aT X.K H p ys∨bP X.K H p ys)/\∀ l,H l=none->Q (.ref l) (upd H l (.lst ys))):=by
 intro pins s U H xs us Q I r h
 obtain ⟨p,ys,rfl,hq,q⟩:=h
 obtain ⟨u,rfl,rx⟩:=vals1 r
 cases rx
 have fin:∀ (br:List Value),Vals ys br->ys.length<=sizeLine->∀ (h':Heap) (c':Nat),(∀ b o',s.heap.get? b=some o'->h'.get? b=some o') ->
     h'.get? s.heap.objs.size=some { cls:=.type "list",dict:=none,data:=.seq br.toArray c',slots:=#[]}->EP X pins U Q (.ref s.heap.objs.size) { s with heap:=h' }:=λ br r' hz h' c' kp e =>
   ⟨.ref s.heap.objs.size,_,I.laid (t':=s.toks) kp (aat _) (show cS X.prog X.w _ h' _ (.lst ys) from ⟨hz,br,c',r',e⟩),rfl,q _ (I.cg.fresh (aat _))⟩
 rcases hq with hq|hq
 .
  obtain ⟨br,r',pl,hz⟩:=I.list hq
  have hlen:=r'.length
  obtain ⟨o,ho,hc,n,hd⟩:=pl.isList
  exact call_list_seq p (.inl rfl) ho hc hd (λ h' c' kp e=>fin br r' hz h' c' kp e) (by simp only [adJ]<;>lia)
 .
  obtain ⟨br,r',pl,hz⟩:=I.tuple hq
  have hlen:=r'.length
  obtain ⟨o,ho,hc,n,hd⟩:=pl
  exact call_list_seq p (.inr rfl) ho hc hd (λ h' c' kp e=>fin br r' hz h' c' kp e) (by simp only [adJ]<;>lia)
theorem dg:iN X (.type "tuple") (λ xs H Q=>∃ p ys,xs=[.ref p]/\((aT X.K H p ys/\∀ l,H l=none->Q (.ref l) (upd H l (.tup ys)))∨(bP X.K H p ys/\Q (.ref p) H))):=by
 intro pins s U H xs us Q I r h
 obtain ⟨p,ys,rfl,h⟩:=h
 obtain ⟨u,rfl,rx⟩:=vals1 r
 cases rx
 rcases h with ⟨hq,q⟩|⟨hq,q⟩
 .
  obtain ⟨br,r',pl,hz⟩:=I.list hq
  have hlen:=r'.length
  refine call_tuple_list pl.isList (λ h' kp=>?_) (by simp only [adJ]<;>lia)
  have I1:Inv X pins U H { s with heap:=h' }:=I.kept (t':=s.toks) kp
  have I2:Inv X pins U (upd H h'.objs.size (.tup ys)) { s with heap:=h'.push { cls:=.type "tuple",data:=.seq br.toArray }} :=
    I1.laid (t':=s.toks) (λ b o e=>aas _ e) (aat _) (show cS X.prog X.w _ _ _ (.tup ys) from ⟨hz,br,r',IsTup.new _ _⟩)
  exact ⟨.ref h'.objs.size,_,I2,rfl,q _ (I1.cg.fresh (aat _))⟩
 . obtain ⟨br,r',pl,hz⟩:=I.tuple hq
   exact call_tuple_same pl ⟨.ref p,H,I,rfl,q⟩
def tyV (K:W.Frag) (T:String) (x:V) (H:Hp):Prop:=match x with
 | .str _=>T = "str"
 | .int _=>T = "int"
 | .ref p=>(T = "list"/\∃ xs,aT K H p xs)∨(T = "tuple"/\∃ o,K.lookup p=some o/\o.cls = .type "tuple"/\o.dict=none) ∨
     (T = "dict"/\((∃ az,H p=some (.dK az))∨∃ az,H p=some (.dT az)))∨(T = "set"/\∃ S n,H p=some (.set S n))
 | _=>False
theorem E8 {s:Shared} {T:String} {x:V} {v:Value} (I:Inv X pins U H s) (r:RelV x v) (ty:tyV X.K T x H) :
   s.TypeIs v T/\∀ a,v = .ref a->∃ ob,s.heap.get? a=some ob/\ob.dict=none:=by
 cases x with
 | str z =>
   obtain ⟨t,rfl⟩:=r
   cases (show T = "str" from ty)
   exact ⟨typeIs_str s z t,λ _ e=>nomatch e⟩
 | int i =>
   obtain ⟨t,rfl⟩:=r
   cases (show T = "int" from ty)
   exact ⟨typeIs_int s i t,λ _ e=>nomatch e⟩
 | ref p =>
   cases r
   rcases ty with ⟨rfl,xs,hq⟩|⟨rfl,o,hk,hc,hd⟩|⟨rfl,hk⟩|⟨rfl,S,n,hk⟩
   . obtain ⟨br,_,pl,_⟩:=I.list hq
     refine ⟨pl.isList.typeIs,λ a e=>?_⟩
     cases e
     obtain ⟨o,n,e,c,hd,_⟩:=pl
     exact ⟨o,e,hd⟩
   . refine ⟨⟨o,I.oE p o hk,hc⟩,λ a e=>?_⟩
     cases e
     exact ⟨o,I.oE _ o hk,hd⟩
   .
    have z:∃ o,s.heap.get? p=some o/\o.ExactDict:=by
      rcases hk with ⟨az,hk⟩|⟨az,hk⟩
      . obtain ⟨_,_,_,_,o,_,_,e,ex,_⟩:=I.cg p _ hk
        exact ⟨o,e,ex⟩
      . obtain ⟨_,_,_,_,o,_,_,e,ex,_⟩:=I.cg p _ hk
        exact ⟨o,e,ex⟩
    obtain ⟨o,e,ex⟩:=z
    refine ⟨⟨o,e,ex.1⟩,λ a e2=>?_⟩
    cases e2
    exact ⟨o,e,ex.2.1⟩
   . obtain ⟨o,_,_,_,e,ex,_⟩:=I.cg p _ hk
     refine ⟨⟨o,e,ex.1⟩,λ a e2=>?_⟩
     cases e2
     exact ⟨o,e,ex.2.1⟩
 | _=>exact False.elim ty
def ahy (K:W.Frag) (T:String) (r:V->List V->Hp->VK->Prop) (to:TE):TE:=λ U H Q=>to U H λ x H1=>tyV K T x H1/\r x [] H1 Q
def tBM (K:W.Frag) (T:String) (r:V->List V->Hp->VK->Prop) (to:TE) (t:TA):TE:=λ U H Q=>to U H λ x H1=>tyV K T x H1/\t U H1 λ xs H2=>r x xs H2 Q
variable {o e:Expr} {es:List Expr} {to:TE} {t:TA} {name:Str} {apos eC:Pos} {T id:String} {r:V->List V->Hp->VK->Prop}
theorem On (pa:PlainAttrs T) (slot:Slot T name id) (hty:typeOf (.builtin id)=pure (.type "method_descriptor")) (hm:MtR X id r) (ho:PE X o to) (rT:attributeBase o name X.env (eval o X.env)=eval o X.env:=by rfl) (Ho:(apos.endLine == eC.line)=true:=by rfl):PE X (.Call (.Attribute o name apos) [] [] eC) (ahy X.K T r to):=by
 intro pins s U H Q I h
 refine wpAny_Call_method0_late rT Ho (cG (ho pins s U H _ I h) λ v s1 ⟨x,H1,I1,r1,ty,q1⟩=>?_)
 obtain ⟨h1,h2⟩:=E8 I1 r1 ty
 exact ⟨T,id,pa,slot,hty,h1,h2,aoC rfl (PySem.evalArgs_none (hm pins s1 U H1 x [] v [] Q I1 r1 .nil q1))⟩
theorem je (pa:PlainAttrs T) (slot:Slot T name id) (hty:typeOf (.builtin id)=pure (.type "method_descriptor")) (hm:MtR X id r) (ho:PE X o to) (ha:PA X (e::es) t) (rT:attributeBase o name X.env (eval o X.env)=eval o X.env:=by rfl) (alE:((backTo eC (starEach (e::es) X.env)).all (λ x => !x.1) && (backToKw eC (keywordEach [] X.env)).all (λ x=>x.1.isSome)
     && decide ((e::es).length+([]:List Keyword).length+(if ([]:List Keyword).isEmpty then 0 else 1)<30))=true:=by rfl) (Ho:(apos.endLine == eC.line)=true:=by rfl) (hs:starEach (e::es) X.env=(false,eval e X.env)::starEach es X.env:=by rfl) (kD:(backTo eC (starEach es X.env)).any (·.1)=false:=by rfl) :
   PE X (.Call (.Attribute o name apos) (e::es) [] eC) (tBM X.K T r to t):=by
 intro pins s U H Q I h
 refine wpAny_Call_method_late rT alE Ho rfl (cG (ho pins s U H _ I h) λ v s1 ⟨x,H1,I1,r1,ty,q1⟩=>?_)
 obtain ⟨h1,h2⟩:=E8 I1 r1 ty
 refine ⟨T,id,pa,slot,hty,h1,h2,?_⟩
 have hA:=ha eC pins s1 U H1 _ I1 q1
 rw [hs] at hA ⊢
 refine aoC (by show (false || (backTo eC (starEach es X.env)).any (·.1))=false;rw [kD]<;>rfl) (an9 ?_)
 exact cG hA λ us s2 ⟨vs,H2,I2,r2,q2⟩=>hm pins s2 U H2 x vs v us Q I2 r1 r2 q2
end
def MtM (X:Cx) (id:String) (r:V->List V->Hp->VK->Prop):Prop :=
 ∀ (pins:List (Addr×Obj)) (s:Shared) (U:St) (H:Hp) (x:V) (xs:List V) (v:Value) (us:List Value) (Q:VK),Inv X pins U H s->RelV x v->Vals xs us->r x xs H Q ->
   wpAny (model X.prog X.w) X.A (call (.builtin id) (v::us)) (EP X pins U Q) X.xe s
theorem Vals.one:∀ {x:V} {us:List Value},Vals [x] us->∃ u,us=[u]/\RelV x u
 | _,_,.cons r .nil=>⟨_,rfl,r⟩
theorem Vals.zero:∀ {us:List Value},Vals [] us->us=[]
 | _,.nil=>rfl
section
variable {X:Cx} {pins:List (Addr×Obj)} {U:St} {H:Hp} {s:Shared} {l b:Addr} {xs ys zs:List V}
theorem Inv.UD {n:Nat} {f:Array Value->Array Value} {t':Nat} (I:Inv X pins U H s) (hH:H l=some (.lst xs)) (e:s.heap.get? l=some { cls:=.type "list",data:=.seq br.toArray n }) (hf:f br.toArray=its'.toArray) (hv:Vals ys its') (hz:ys.length<=sizeLine) :
   Inv X pins U (upd H l (.lst ys)) { s with heap:=s.heap.update l (Obj.mapSeq f),toks:=t' }:=by
 have q:=PySem.IsL.update e f
 rw [hf] at q
 refine I.write (x:=l) (e:=l) (by rw [hH];exact trivial) (.inl rfl) (λ b' u hb hu=>(anE s.heap (Obj.mapSeq f) (anq hb)).trans hu) ⟨_,q⟩ ?_
 exact ⟨hz,its',_,hv,q⟩
theorem Inv.adV {t':Nat} (I:Inv X pins U H s) (hv:Vals ys br) (hz:ys.length<=sizeLine) :
   Inv X pins U (upd H s.heap.objs.size (.lst ys)) { s with heap:=s.heap.push { cls:=.type "list",data:=.seq br.toArray },toks:=t' } :=
 I.laid (λ _ _ q=>aas _ q) (aat _) ⟨hz,br,0,hv,afq _ rfl⟩
theorem Inv.fresh (I:Inv X pins U H s):H s.heap.objs.size=none:=I.cg.fresh (aat _)
theorem Inv.EU (I:Inv X pins U H s) (hH:H l=some (.lst xs)):xs.length<=sizeLine/\∃ (br:List Value) (n:Nat),Vals xs br/\xs.length=br.length/\s.heap.get? l=some { cls:=.type "list",data:=.seq br.toArray n }:=by
 obtain ⟨z,br,n,r,e⟩:=I.cg l _ hH
 exact ⟨z,br,n,r,r.length,e⟩
theorem Hn {n:Nat} (h:n<=sizeLine):Builtin.List.listTooLong n=false:=by
 unfold Builtin.List.listTooLong
 exact ad7 (by lia)
end
section
variable {X:Cx}
inductive IG  (x:V) (vs:List V) (H:Hp) (Q:VK):Prop
 | mk (l xs y:_) (_:x = .ref l) (_:vs=[y]) (_:H l=some (.lst xs)) (_:xs.length<sizeLine) (_:Q .b9 (upd H l (.lst (xs++[y]))))
theorem cN:MtM X "list.append" IG:=by
 intro pins s U H x vs v us Q I rx rv h
 obtain ⟨l,xs,y,rfl,rfl,hH,hz,q⟩:=h
 cases rx
 obtain ⟨u,rfl,ru⟩:=rv.one
 obtain ⟨z,br,n,r,hl,e⟩:=I.EU hH
 refine call_meets F.slot_list_append ⟨_,e,rfl⟩ F.entry_list_append (F.args_list_append_2 _ _) (PySem.list_append l br.toArray n u (by rw [adJ];lia)) ⟨e,?_⟩
 refine ⟨.b9,_,I.UD (its':=br++[u]) hH e (by simp) (r.append (.cons ru .nil)) ?_,rfl,q⟩
 rw [abi,ajo]
 lia
inductive HZ  (x:V) (vs:List V) (H:Hp) (Q:VK):Prop
 | mk (l b xs zs:_) (_:x = .ref l) (_:vs=[.ref b]) (_:H l=some (.lst xs)) (_:H b=some (.lst zs)) (_:xs.length+zs.length<=sizeLine) (_:Q .b9 (upd H l (.lst (xs++zs))))
theorem vi:MtM X "list.extend" HZ:=by
 intro pins s U H x vs v us Q I rx rv h
 obtain ⟨l,b,xs,zs,rfl,rfl,hH,hB,hz,q⟩:=h
 cases rx
 obtain ⟨u,rfl,ru⟩:=rv.one
 cases ru
 obtain ⟨z,br,n,r,hl,e⟩:=I.EU hH
 obtain ⟨z2,mY,n2,r2,RR,e2⟩:=I.EU hB
 have hsz:br.toArray.size+mY.toArray.size<=sizeLine:=by rw [adJ,adJ];lia
 have Wh:¬ (!br.toArray.isEmpty && Builtin.List.listTooLong (br.toArray.size+mY.toArray.size))=true:=by
   rw [Hn hsz,Bool.and_false]
   exact abZ
 refine call_meets F.slot_list_extend ⟨_,e,rfl⟩ F.entry_list_extend (F.args_list_extend_2 _ _)
   (AutoSeq1.list_extend_list_list_0 l br.toArray n b mY.toArray n2 Wh (by rw [adJ];lia) (by lia)) ⟨e,e2,?_⟩
 refine ⟨.b9,_,I.UD (its':=br++mY) hH e (by simp) (r.append r2) ?_,rfl,q⟩
 rw [abi]
 lia
inductive adT  (x:V) (y:V) (H:Hp) (Q:VK):Prop
 | mk (l b xs zs:_) (_:x = .ref l) (_:y = .ref b) (_:H l=some (.lst xs)) (_:H b=some (.lst zs)) (_:xs.length+zs.length<=sizeLine) (_:∀ p,H p=none->Q (.ref p) (upd H p (.lst (xs++zs))))
theorem FH:iY X (binaryOp .Add) adT:=by
 intro pins s U H x y v u Q I rx ry h
 obtain ⟨l,b,xs,zs,rfl,rfl,hH,hB,hz,q⟩:=h
 cases rx
 cases ry
 obtain ⟨z,br,n,r,hl,e⟩:=I.EU hH
 obtain ⟨z2,mY,n2,r2,RR,e2⟩:=I.EU hB
 refine PySem.P.add_list e e2 ?_ (by rw [adJ,adJ];lia)
 have ea:br.toArray++mY.toArray=(br++mY).toArray:=by simp
 rw [ea]
 exact ⟨.ref _,_,I.adV (t':=s.toks) (r.append r2) (by rw [abi];lia),rfl,q _ I.fresh⟩
end
section
variable {κ:Type} [DecidableEq κ]
def ge (az:List (κ×V)) (k:κ):Option V:=(az.find? λ kv=>decide (kv.1=k)).map (·.2)
def putK (az:List (κ×V)) (k:κ) (v:V):List (κ×V) :=
 if (az.any λ kv=>decide (kv.1=k))=true then az.map (λ kv=>if kv.1=k then (kv.1,v) else kv) else az++[(k,v)]
theorem eV {p:κ×V} {r:List (κ×V)} {k:κ} (e:p.1=k):ge (p::r) k=some p.2:=by simp [ge,aiT,e]
theorem eY {p:κ×V} {r:List (κ×V)} {k:κ} (e:¬ p.1=k):ge (p::r) k=ge r k:=by simp [ge,aiT,e]
theorem jF (k:κ):∀ az:List (κ×V),(az.any λ kv=>decide (kv.1=k))=(ge az k).isSome
 | []=>rfl
 | p::r=>by
   rw [anx]
   by_cases e:p.1=k
   . simp only [eV e,aga e,Bool.true_or,Option.isSome_some]
   . rw [eY e,ad7 e,Bool.false_or];exact jF k r
theorem yX (k j:κ) (y:V):∀ az:List (κ×V),ge (az.map λ kv=>if kv.1=k then (kv.1,y) else kv) j=(ge az j).map λ x=>if j=k then y else x
 | []=>rfl
 | p::r=>by
   have ih:=yX k j y r
   rw [agt]
   by_cases h:p.1=k
   . rw [acS h]
     by_cases e:p.1=j
     . rw [eV (p:=(p.1,y)) e,eV e,anu,acS (e.symm.trans h)]
     . rw [eY (p:=(p.1,y)) e,eY e,ih]
   . rw [acO h]
     by_cases e:p.1=j
     . rw [eV (p:=p) e,eV e,anu,acO (λ z=>h (e.trans z))]
     . rw [eY (p:=p) e,eY e,ih]
theorem uC (k j:κ) (y:V):∀ az:List (κ×V),ge az k=none->ge (az++[(k,y)]) j=if j=k then some y else ge az j
 | [],_=>by
   by_cases e:k=j
   . rw [acS e.symm];exact eV (p:=(k,y)) e
   . rw [acO (λ z=>e z.symm)];exact eY (p:=(k,y)) e
 | p::r,hn=>by
   rw [List.cons_append]
   have hk:¬ p.1=k:=λ z=>by rw [eV z] at hn;cases hn
   rw [eY hk] at hn
   have ih:=uC k j y r hn
   by_cases e:p.1=j
   . rw [eV e,eV e,acO (λ z=>hk (e.trans z))]
   . rw [eY e,eY e,ih]
theorem zL (az:List (κ×V)) (k j:κ) (y:V):ge (putK az k y) j=if j=k then some y else ge az j:=by
 unfold putK
 by_cases a:(az.any λ kv=>decide (kv.1=k))=true
 .
  rw [acS a,yX]
  rw [jF] at a
  by_cases e:j=k
  . obtain ⟨x,hx⟩:=Option.isSome_iff_exists.mp a
    rw [acS e,e,hx,anu,acS rfl]
  . rw [acO e]
    cases ge az j with
    | none=>rfl
    | some x=>rw [anu,acO e]
 .
  rw [acO a]
  refine uC k j y az ?_
  rw [jF] at a
  cases q:ge az k with
  | none=>rfl
  | some x=>rw [q] at a;exact (a rfl).elim
theorem lL (az:List (κ×V)) (k:κ) (v:V):(putK az k v).length<=az.length+1:=by
 unfold putK
 split
 . rw [AM];lia
 . rw [abi,afc,anT];lia
theorem Fz {az:List (κ×V)} {k:κ} (v:V) (h:ge az k=none):putK az k v=az++[(k,v)]:=by
 unfold putK
 rw [jF,h]
 exact acO (by decide)
theorem jy.oW {o:Option V} {u:Option Value} (r:jy o u):o.isSome=u.isSome:=by
 cases o with
 | none=>cases u with
   | none=>rfl
   | some _=>exact (show False from r).elim
 | some _=>cases u with
   | none=>exact (show False from r).elim
   | some _=>rfl
theorem jy.getD {o:Option V} {u:Option Value} {d:V} {d':Value} (r:jy o u) (rd:RelV d d'):RelV (o.getD d) (u.getD d'):=by
 cases o with
 | none=>cases u with
   | none=>exact rd
   | some _=>exact (show False from r).elim
 | some _=>cases u with
   | none=>exact (show False from r).elim
   | some _=>exact r
theorem KV.val {az:List (κ×V)} {vs:List (κ×Value)} (r:KV az vs) (k:κ):jy (ge az k) (valueAt vs k):=by
 unfold KV at r
 induction r with
 | nil=>exact True.intro
 | @cons p q ps qs h t ih =>
   obtain ⟨h1,h2⟩:=h
   by_cases e:p.1=k
   . have e':q.1=k:=h1.symm.trans e
     have b:valueAt (q::qs) k=some q.2:=by simp [valueAt,aiT,e']
     rw [eV e,b];exact h2
   . have e':¬ q.1=k:=λ z=>e (h1.trans z)
     have b:valueAt (q::qs) k=valueAt qs k:=by simp [valueAt,aiT,e']
     rw [eY e,b];exact ih
theorem KV.any {az:List (κ×V)} {vs:List (κ×Value)} (r:KV az vs) (k:κ):(az.any λ kv=>decide (kv.1=k))=vs.any λ kv=>decide (kv.1=k):=by
 unfold KV at r
 induction r with
 | nil=>rfl
 | cons h t ih=>rw [anx,anx,ih,h.1]
theorem KV.N0 {az:List (κ×V)} {vs:List (κ×Value)} (r:KV az vs) (k:κ) {y:V} (ry:RelV y u) :
   KV (az.map λ kv=>if kv.1=k then (kv.1,y) else kv) (vs.map λ kv=>if kv.1=k then (kv.1,u) else kv):=by
 unfold KV at r ⊢
 induction r with
 | nil=>exact .nil
 | @cons p q ps qs h t ih =>
   rw [agt,agt]
   refine .cons ?_ ih
   obtain ⟨h1,h2⟩:=h
   by_cases e:p.1=k
   . rw [acS e,acS (h1.symm.trans e)];exact ⟨h1,ry⟩
   . rw [acO e,acO (λ z=>e (h1.trans z))];exact ⟨h1,h2⟩
theorem KV.put {az:List (κ×V)} {vs:List (κ×Value)} (r:KV az vs) (k:κ) {y:V} (ry:RelV y u):KV (putK az k y) (stored vs k u):=by
 unfold putK stored
 rw [r.any k]
 by_cases e:(vs.any λ kv=>decide (kv.1=k))=true
 . rw [acS e,acS e];exact r.N0 k ry
 . rw [acO e,acO e];exact aoS r ⟨rfl,ry⟩
theorem KV.length {az:List (κ×V)} {vs:List (κ×Value)} (r:KV az vs):az.length=vs.length:=anX r
end
theorem xF {P:Program} {w:World} {k:Key} (r:RelV (kV k) u):(cn P w).is k u=true:=by
 cases k with
 | inl i=>obtain ⟨t,e⟩:=(show ∃ t,u=Value.int i t from r);subst e;exact zV P w i t
 | inr x=>obtain ⟨t,e⟩:=(show ∃ t,u=Value.str x t from r);subst e;exact zu P w x t
theorem uS {P:Program} {w:World}:∀ {ks:List Key} {us:List Value},Vals (ks.map kV) us->ItemsAre (cn P w) ks us
 | [],_,r=>by rw [apx] at r;cases r;exact .nil
 | k::ks,_,r=>by
   rw [agt] at r
   cases r with
   | cons h t=>exact .cons (xF h) (uS t)
abbrev KT (H:Hp):List (List Key×V)->List (List Key×Addr×Value)->Prop:=Paired λ p q=>p.1=q.1/\H q.2.1=some (.tup (p.1.map kV))/\RelV p.2 q.2.2
theorem KT.val {az:List (List Key×V)} {xs:List (List Key×Addr×Value)} (r:KT H az xs) (k:List Key):jy (ge az k) ((atKey xs k).map (·.2)):=by
 induction r with
 | nil=>exact True.intro
 | @cons p q ps qs h t ih =>
   obtain ⟨h1,_,h2⟩:=h
   by_cases e:p.1=k
   . have e':q.1=k:=h1.symm.trans e
     have b:atKey (q::qs) k=some q.2:=by simp [atKey,aiT,e']
     rw [eV e,b];exact h2
   . have e':¬ q.1=k:=λ z=>e (h1.trans z)
     have b:atKey (q::qs) k=atKey qs k:=by simp [atKey,aiT,e']
     rw [eY e,b];exact ih
theorem KT.N0 {az:List (List Key×V)} {xs:List (List Key×Addr×Value)} (r:KT H az xs) (k:List Key) {y:V} (ry:RelV y u) :
   KT H (az.map λ kv=>if kv.1=k then (kv.1,y) else kv) (xs.map (putAt k u)):=by
 induction r with
 | nil=>exact .nil
 | @cons p q ps qs h t ih =>
   rw [agt,agt]
   refine .cons ?_ ih
   obtain ⟨h1,h2,h3⟩:=h
   unfold putAt
   by_cases e:p.1=k
   . rw [acS e,acS (h1.symm.trans e)];exact ⟨h1,h2,ry⟩
   . rw [acO e,acO (λ z=>e (h1.trans z))];exact ⟨h1,h2,h3⟩
theorem KT.put {az:List (List Key×V)} {xs:List (List Key×Addr×Value)} (r:KT H az xs) (k:List Key) {b:Addr} {y:V} (hb:H b=some (.tup (k.map kV))) (ry:RelV y u) :
   KT H (putK az k y) (storedH xs k b u):=by
 have e:(az.any λ kv=>decide (kv.1=k))=(atKey xs k).isSome:=by
   rw [jF,(r.val k).oW,aoM]
 unfold putK storedH
 rw [e]
 by_cases q:(atKey xs k).isSome=true
 . rw [acS q,acS q];exact r.N0 k ry
 . rw [acO q,acO q];exact aoS r ⟨rfl,hb,ry⟩
theorem KT.keeps {az:List (List Key×V)} {xs:List (List Key×Addr×Value)} (r:KT H az xs) (ht:∀ b ys,H b=some (.tup ys)->H' b=some (.tup ys)):KT H' az xs :=
 Paired.EM r λ _ _ z=>⟨z.1,ht _ _ z.2.1,z.2.2⟩
section
variable {P:Program} {w:World} {H:Hp} {h:Heap} {a:Addr}
theorem LH {u:HO} (ok:kW P w H h) (e:Rd H a u):cS P w H h a u:=e.ok ok
theorem zd {az:List (Key×V)} (ok:kW P w H h) (e:Rd H a (.dK az)):az.length<=sizeLine/\(a == sysModules)=false/\∃ vs,KV az vs/\h.DictOf (cn P w) a vs :=
 show cS P w H h a (.dK az) from LH ok e
theorem Lq {az:List (Key×V)} (ok:kW P w H h) (e:H a=some (.dK az)):az.length<=sizeLine/\(a == sysModules)=false/\∃ vs,KV az vs/\h.DictOf (cn P w) a vs:=zd ok (.inl e)
theorem wC {ks:List Key} (ok:kW P w H h) (e:H a=some (.tup (ks.map kV))):(tupleKind (cn P w)).is h ks a:=by
 obtain ⟨_,br,r,o,h1,h2,n,h3⟩:=(show cS P w H h a (.tup (ks.map kV)) from ok a _ e)
 exact ⟨o,br.toArray,n,h1,h2,h3,by simpa using uS r⟩
theorem vg {az:List (List Key×V)} (ok:kW P w H h) (e:Rd H a (.dT az)):az.length<=sizeLine/\(a == sysModules)=false /\
   ∃ xs,KT H az xs/\h.DictOfH (tupleKind (cn P w)) a xs:=by
 obtain ⟨z,y,xs,r,o,es,ep,h1,h2,h3,h4,h5⟩:=(show cS P w H h a (.dT az) from LH ok e)
 refine ⟨z,y,xs,r,o,es,ep,h1,h2,h3,h4,λ x hx=>?_,h5⟩
 have all:∀ {l:List (List Key×V)} {m:List (List Key×Addr×Value)},KT H l m->∀ x∈m,(tupleKind (cn P w)).is h x.1 x.2.1:=by
   intro l m q
   induction q with
   | nil=>intro x hx;exact nomatch hx
   | @cons p q ps qs hq t ih =>
     intro x hx
     rcases List.mem_cons.mp hx with e|hx
     . subst e
       exact wC ok (by rw [← hq.1];exact hq.2.1)
     . exact ih x hx
 exact all r x hx
theorem X1 {az:List (List Key×V)} (ok:kW P w H h) (e:H a=some (.dT az)):az.length<=sizeLine/\(a == sysModules)=false /\
   ∃ xs,KT H az xs/\h.DictOfH (tupleKind (cn P w)) a xs:=vg ok (.inl e)
end
def gF (H:Hp) (a:Addr) (y:V) (r:Option V):Prop :=
 (∃ az k,Rd H a (.dK az)/\y=kV k/\r=ge az k)∨∃ az k b,Rd H a (.dT az)/\y = .ref b/\H b=some (.tup (k.map kV))/\r=ge az k
def vF (H:Hp) (a:Addr) (y v:V) (H':Hp):Prop :=
 (∃ az k,H a=some (.dK az)/\y=kV k/\az.length<sizeLine/\H'=upd H a (.dK (putK az k v))) ∨
 ∃ az k b,H a=some (.dT az)/\y = .ref b/\H b=some (.tup (k.map kV))/\az.length<sizeLine/\H'=upd H a (.dT (putK az k v))
theorem gF.k {a:Addr} {az:List (Key×V)} {k:Key} (e:H a=some (.dK az)):gF H a (kV k) (ge az k):=.inl ⟨az,k,.inl e,rfl,rfl⟩
theorem gF.t {a b:Addr} {az:List (List Key×V)} {k:List Key} (e:H a=some (.dT az)) (eb:H b=some (.tup (k.map kV))):gF H a (.ref b) (ge az k):=.inr ⟨az,k,b,.inl e,rfl,eb,rfl⟩
theorem vF.k {a:Addr} {az:List (Key×V)} {k:Key} (e:H a=some (.dK az)) (hl:az.length<sizeLine):vF H a (kV k) v (upd H a (.dK (putK az k v))):=.inl ⟨az,k,e,rfl,hl,rfl⟩
theorem vF.t {a b:Addr} {az:List (List Key×V)} {k:List Key} (e:H a=some (.dT az)) (eb:H b=some (.tup (k.map kV))) (hl:az.length<sizeLine) :
   vF H a (.ref b) v (upd H a (.dT (putK az k v))):=.inr ⟨az,k,b,e,rfl,eb,hl,rfl⟩
section
variable {X:Cx} {pins:List (Addr×Obj)} {U:St} {H:Hp} {s:Shared} {a:Addr} {y v:V} {u r:Value} {o:Option V} {A:Around} {E:Value->Shared->Prop}
theorem Inv.big (I:Inv X pins U H s):sysModules<s.heap.objs.size:=by
 have h:mainGlobals<s.heap.objs.size:=(I.mod.glob.keeps I.bk).lt
 exact an6 (by decide) h
theorem Es {Q:Value->Shared->Prop} (hu:A.units+1<cLine) (I:Inv X pins U H s) (g:gF H a y (some v)) (ry:RelV y u) (h:∀ w' s',Inv X pins U H s'->RelV v w'->Q w' s') :
   wpAny (model X.prog X.w) A (getItem (.ref a) u) Q E s:=by
 rcases g with ⟨az,k,e,ey,l⟩|⟨az,k,b,e,ey,eb,l⟩
 .
  subst ey
  obtain ⟨z,hd,vs,rel,dd⟩:=zd I.cg e
  obtain ⟨w',hw,zZ⟩:=jy.some_of (v:=v) (o:=valueAt vs k) (by rw [l];exact rel.val k)
  exact wpAny_getItem_of (xF ry) dd.mapOf hw (h w' _ (I.tok _) zZ)
 .
  subst ey
  cases (show u=Value.ref b from ry)
  obtain ⟨z,hd,xs,rel,dd⟩:=vg I.cg e
  obtain ⟨w',hw,zZ⟩:=jy.some_of (v:=v) (o:=(atKey xs k).map (·.2)) (by rw [l];exact rel.val k)
  obtain ⟨p,hp,Gr⟩:=Option.map_eq_some_iff.mp hw
  refine wpAny_getItem_heap (aoW hu) (wC I.cg eb) dd hp ?_
  rw [Gr]
  exact h w' _ (I.tok _) zZ
theorem qJ {t':Nat} {ob:HO} (I:Inv X pins U H s) (mu:TU (H a)) (hs:Heap.SameBut a s.heap h') (he:∃ q,h'.get? a=some q) (new:cS X.prog X.w (upd H a ob) h' a ob) :
   Inv X pins U (upd H a ob) { s with heap:=h',toks:=t' } :=
 I.write (x:=a) (e:=a) mu (.inl rfl) (λ b q hb z=>(hs.2 b hb).trans z) he new
theorem GO {P:Program} {w:World} {az:List (Key×V)} {vs:List (Key×Value)} (z:az.length<=sizeLine) (hd:(a == sysModules)=false) (rel:KV az vs) (dd:h'.DictOf (cn P w) a vs) :
   cS P w H' h' a (.dK az):=⟨z,hd,vs,rel,dd⟩
theorem Eh {Q:Unit->Shared->Prop} (hu:A.units+1<cLine) (I:Inv X pins U H s) (g:vF H a y v H') (ry:RelV y u) (rv:RelV v r) (h:∀ s',Inv X pins U H' s'->Q () s') :
   wpAny (model X.prog X.w) A (setItem (.ref a) u r) Q E s:=by
 rcases g with ⟨az,k,e,ey,l,eH⟩|⟨az,k,b,e,ey,eb,l,eH⟩
 .
  subst ey eH
  obtain ⟨z,hd,vs,rel,dd⟩:=Lq I.cg e
  have hz:vs.length<=sizeLine:=by rw [← rel.length];exact z
  have hl:(putK az k v).length<=sizeLine:=by have:=lL az k v;lia
  refine wpAny_setItem_pairs (hsz:=hz) (xF ry) dd λ h' Gk hs=>h _ ?_
  have he:∃ q,h'.get? a=some q:=let ⟨q,_,_,hq,_⟩:=Gk;⟨q,hq⟩
  exact qJ I (by rw [e];exact True.intro) hs he (GO hl hd (rel.put k rv) Gk)
 .
  subst ey eH
  cases (show u=Value.ref b from ry)
  obtain ⟨z,hd,xs,rel,dd⟩:=X1 I.cg e
  have hz:xs.length<=sizeLine:=by rw [← anX rel];exact z
  have hl:(putK az k v).length<=sizeLine:=by have:=lL az k v;lia
  refine wpAny_setItem_heap (hsz:=hz) (aoW hu) (wC I.cg eb) dd λ h' Gk hs=>h _ ?_
  obtain ⟨q,es,ep,hq,h2,h3,h4,_,h5⟩:=Gk
  refine qJ I (by rw [e];exact True.intro) hs ⟨q,hq⟩ ⟨hl,hd,_,(rel.put k eb rv).keeps λ c ys ec=>?_,q,es,ep,hq,h2,h3,h4,h5⟩
  rw [ax (Ux ec e (λ z=>nomatch z))]
  exact ec
end
def Mo (i:Expr):Prop:=∀ ov iv,subscripted i false ov iv=operate [ov,iv] (getItem ov iv)
theorem CO {prog:Program} {w:World} {A:Around} {E:Value->Shared->Prop} {s:Shared} {env:Env} {value slice:Expr} {pos:Pos} {T id:String} {Q:Value->Shared->Prop} (hl:typeLookup (.type T) "__getitem__" = pure (some (.builtin id))) (hs:Mo slice) (h:wpAny (model prog w) A (eval value env) (λ o s₁=>wpAny (model prog w) A (eval slice env) (λ i s₂=>s₂.TypeIs o T/\wpAny (model prog w) A (getItem o i) Q E s₂) E s₁) E s) :
   wpAny (model prog w) A (eval (.Subscript value slice pos) env) Q E s:=by
 refine Subscript_ (ahF h (λ o s₁ h₁=>ahF h₁ (λ i s₂ h₂=>?_) λ _ _ x=>x) λ _ _ x=>x)
 obtain ⟨hT,h₂⟩:=h₂
 unfold subscriptTail
 refine Wi ?_
 rw [getitemInPython_of_ne hT.not_modules]
 refine Wi (aoE hT hl ?_)
 have fin:wpAny (model prog w) A (subscripted slice false o i) (λ r s₃=>wpAny (model prog w) A (letTemporaryGo value o r >>= λ _=>pure r) Q E s₃) E s₂:=by
   rw [hs o i]
   exact wpAny_operating (ahF h₂ (λ r s₃ h₃=>Wi (wpAny_letTemporaryGo (adt h₃))) λ _ _ x=>x)
 first
   | exact adt (Wi fin)
   | exact Wi (adt (Wi fin))
   | exact Wi fin
theorem yQ {X:Cx} {s:Shared} {a:Addr} {y:V} {o:Option V} (I:Inv X pins U H s) (g:gF H a y o):s.TypeIs (.ref a) "dict":=by
 rcases g with ⟨az,k,e,_,_⟩|⟨az,k,b,e,_,_,_⟩
 . obtain ⟨_,_,vs,_,dd⟩:=zd I.cg e
   exact dd.typeIs
 . obtain ⟨_,_,xs,_,dd⟩:=vg I.cg e
   exact dd.typeIs
inductive aaw (Q:VK) (x y:V) (H2:Hp):Prop
 | mk (a:Addr) (v:V) (h1:x = .ref a) (h2:gF H2 a y (some v)) (q:Q v H2)
def Xf (td ty:TE):TE:=λ U H Q=>td U H λ x H1=>ty U H1 (aaw Q x)
def Vc (td ty tv:TE):TS:=λ D U H=>tv U H λ v H1=>td U H1 λ x H2=>ty U H2 λ y H3=>∃ a H4,x = .ref a/\vF H3 a y v H4/\D.nx U H4
section
variable {X:Cx} {o i e value:Expr} {pos pos' pF:Pos} {td ty tv:TE}
theorem bB (hu:X.A.units+1<cLine) (ho:PE X o td) (hi:PE X i ty) (hs:Mo i):PE X (.Subscript o i pos) (Xf td ty):=by
 intro pins s U H Q I h
 refine CO PySem.F.slot_dict_getitem.lookup hs (cG (ho pins s U H _ I h) λ u s1 ⟨x,H1,I1,rx,q1⟩=>cG (hi pins s1 U H1 _ I1 q1) λ iv s2 ⟨y,H2,I2,ry,a,v,ex,g,q2⟩=>?_)
 subst ex
 obtain rfl:u=Value.ref a:=rx
 exact ⟨yQ I2 g,Es hu I2 g ry λ w' s3 I3 zZ=>⟨v,H2,I3,zZ,q2⟩⟩
theorem vW (hu:X.A.units+1<cLine) (ho:PE X o td) (hi:PE X i ty) (hv:PE X value tv) (hs:swapsWith value (some (.Subscript o i pos')) pos.line X.env=pure false) :
   PS X (.Assign [.Subscript o i pos'] value pos) (Vc td ty tv):=by
 intro pins s U H D I h
 refine wpAny_Assign_Subscript (cG (hv pins s U H _ I h) λ r s1 ⟨v,H1,I1,rv,q1⟩=>cG (ho pins s1 U H1 _ I1 q1) λ u s2 ⟨x,H2,I2,rx,q2⟩=>cG (hi pins s2 U H2 _ I2 q2) λ iv s3 ⟨y,H3,I3,ry,a,H4,ex,g,q3⟩=>?_) hs
 subst ex
 obtain rfl:u=Value.ref a:=rx
 exact Eh hu I3 g ry rv λ s4 I4=>⟨U,H4,I4,q3⟩
end
theorem Hl {P:Program} {w:World} (h:Heap) (hb:sysModules<h.objs.size):cS P w H (h.push { cls:=.type "dict",data:=.dict #[]}) h.objs.size (.dK []) :=
 ⟨aiv _,beq_eq_false_iff_ne.mpr (anq (ae6 hb)),[],.nil,Heap.DictOf.new h⟩
theorem Gm {P:Program} {w:World} (h:Heap) (hb:sysModules<h.objs.size):cS P w H (h.push { cls:=.type "dict",data:=.dict #[]}) h.objs.size (.dT []) :=
 ⟨aiv _,beq_eq_false_iff_ne.mpr (anq (ae6 hb)),[],.nil,_,#[],0,afq _ rfl,⟨rfl,rfl,rfl⟩,rfl,rfl,aob⟩
def Nw:TE:=λ _ H Q=>∀ p,H p=none->Q (.ref p) (upd H p (.dT []))
section
variable {X:Cx} {pos:Pos}
theorem xy:PE X (.Dict [] [] pos) Nw:=λ pins s U H Q I h =>
 wpAny_Dict_empty ⟨.ref s.heap.objs.size,_,I.laid (a:=s.heap.objs.size) (o:=.dT []) (t':=s.toks) (λ _ _ q=>aas _ q) (aat _) (Gm s.heap I.big),rfl,h _ (I.cg.fresh (aat _))⟩
end
def AO:List (TE×TE)->St->Hp->(List (V×V)->Hp->Prop)->Prop
 | [],_,H,Q=>Q [] H
 | (tk,tv)::r,U,H,Q=>tk U H λ x H1=>tv U H1 λ y H2=>AO r U H2 λ ps H3=>Q ((x,y)::ps) H3
abbrev VV:List (V×V)->List (Value×Value)->Prop:=Paired λ p q=>RelV p.1 q.1/\RelV p.2 q.2
def Pm (X:Cx) (pos:Pos) (keys:List (Option Expr)) (values:List Expr) (Kj:List (TE×TE)):Prop :=
 ∀ (pins:List (Addr×Obj)) (s:Shared) (U:St) (H:Hp) (Q:List (V×V)->Hp->Prop),Inv X pins U H s->AO Kj U H Q ->
   wpAny (model X.prog X.w) X.A (evalPairs (pairTrees keys values X.env pos)) (λ vs s'=>∃ ps H',Inv X pins U H' s'/\VV ps vs/\Q ps H') X.xe s
theorem J4 {X:Cx} {pos:Pos}:Pm X pos [] [] []:=λ pins s U H Q I h=>pairTrees_nil_walk ⟨[],H,I,.nil,h⟩
theorem kY {X:Cx} {pos:Pos} {k v:Expr} {ks:List (Option Expr)} {vs:List Expr} {tk tv:TE} {Kj:List (TE×TE)} (hk:PE X k tk) (hv:PE X v tv) (hr:Pm X pos ks vs Kj) :
   Pm X pos (some k::ks) (v::vs) ((tk,tv)::Kj):=λ pins s U H Q I h =>
 pairTrees_cons_walk (cG (hk pins s U H _ I h) λ u s1 ⟨x,H1,I1,rx,q1⟩=>cG (hv pins s1 U H1 _ I1 q1) λ w2 s2 ⟨y,H2,I2,ry,q2⟩ =>
   cG (hr pins s2 U H2 _ I2 q2) λ ws s3 ⟨ps,H3,I3,rel,q3⟩=>⟨(x,y)::ps,H3,I3,.cons ⟨rx,ry⟩ rel,q3⟩)
def kx (az more:List (Key×V)):List (Key×V):=more.foldl (λ acc kv=>putK acc kv.1 kv.2) az
theorem KV.merge:∀ {more:List (Key×V)} {rs:List (Key×Value)} {az:List (Key×V)} {vs:List (Key×Value)},KV more rs->KV az vs->KV (kx az more) (merged vs rs):=by
 intro more rs az vs r
 unfold KV at r
 induction r generalizing az vs with
 | nil=>intro q;exact q
 | @cons p q ps qs h t ih =>
   intro r0
   have e:KV (putK az p.1 p.2) (stored vs q.1 q.2):=by
     have:=r0.put p.1 h.2
     rw [← h.1];exact this
   exact ih e
theorem ju:∀ (more az:List (Key×V)),(kx az more).length<=az.length+more.length
 | [],az=>by show az.length<=az.length+0;lia
 | p::r,az=>by
   have h1:=ju r (putK az p.1 p.2)
   have h2:=lL az p.1 p.2
   show (kx (putK az p.1 p.2) r).length<=_
   rw [afc];lia
theorem sW {P:Program} {w:World}:∀ {az:List (Key×V)} {ws:List (Value×Value)},VV (az.map λ kv=>(kV kv.1,kv.2)) ws->∃ rs,Carries (cn P w) ws rs/\KV az rs
 | [],_,r=>by rw [apx] at r;cases r;exact ⟨[],True.intro,.nil⟩
 | p::az,_,r=>by
   rw [agt] at r
   cases r with
   | @cons a b as bs h t =>
     obtain ⟨rs,c,q⟩:=sW (P:=P) (w:=w) t
     obtain ⟨b1,b2⟩:=b
     exact ⟨(p.1,b2)::rs,⟨xF h.1,rfl,c⟩,.cons ⟨rfl,h.2⟩ q⟩
def Sy (Kj:List (TE×TE)):TE:=λ U H Q=>∀ p,H p=none->AO Kj U (upd H p (.dK [])) λ ps H2=>H2 p=some (.dK [])/\∃ az:List (Key×V),ps=az.map (λ kv=>(kV kv.1,kv.2))/\az.length<=15/\Q (.ref p) (upd H2 p (.dK (kx [] az)))
theorem JJ {X:Cx} {pos:Pos} {keys:List (Option Expr)} {values:List Expr} {Kj:List (TE×TE)} (h:Pm X pos keys values Kj) (FD:keys.all (·.isSome)=true) (hl:keys.length=values.length) (h0:keys≠[]) (h15:keys.length<=15):PE X (.Dict keys values pos) (Sy Kj):=by
 intro pins s U H Q I q
 have hn:=I.cg.fresh (aat s.heap.objs.size)
 have I1:=I.laid (a:=s.heap.objs.size) (o:=.dK []) (h':=s.heap.push { cls:=.type "dict",data:=.dict #[]}) (t':=s.toks) (λ _ _ q=>aas _ q) (aat _) (Hl s.heap I.big)
 refine wpAny_Dict_walk (knd:=cn X.prog X.w) FD hl h0 h15 (cG (h pins _ U _ _ I1 (q _ hn)) λ ws s2 ⟨ps,H2,I2,rel,e,az,ep,lk,q2⟩=>?_)
 subst ep
 obtain ⟨rs,c,rk⟩:=sW (P:=X.prog) (w:=X.w) rel
 obtain ⟨z,hd,vs0,r0,dd⟩:=Lq I2.cg e
 cases r0
 refine ⟨rs,c,dd,λ h' Gk hs=>⟨.ref s.heap.objs.size,_,?_,rfl,q2⟩⟩
 have hz:(kx [] az).length<=sizeLine:=by
   have h1:=ju az []
   rw [anT] at h1
   rw [aoQ];lia
 have he:∃ q,h'.get? s.heap.objs.size=some q:=let ⟨q,_,_,hq,_⟩:=Gk;⟨q,hq⟩
 exact qJ I2 (by rw [e];exact True.intro) hs he (GO hz hd (rk.merge .nil) Gk)
structure M1 (X:Cx) (o:Expr) (m:Str) (apos:Pos) (e:Expr) (eC:Pos):Prop where
 base:attributeBase o m X.env (eval o X.env)=eval o X.env
 few:((backTo eC (starEach [e] X.env)).all (λ x => !x.1) && (backToKw eC (keywordEach [] X.env)).all (λ x=>x.1.isSome)
   && decide (([e]:List Expr).length+([]:List Keyword).length+(if ([]:List Keyword).isEmpty then 0 else 1)<30))=true
 line:(apos.endLine == eC.line)=true
 trees:backTo eC (starEach [e] X.env)=[(false,eval e X.env)]
structure M2 (X:Cx) (o:Expr) (m:Str) (apos:Pos) (e f:Expr) (eC:Pos):Prop where
 base:attributeBase o m X.env (eval o X.env)=eval o X.env
 few:((backTo eC (starEach [e,f] X.env)).all (λ x => !x.1) && (backToKw eC (keywordEach [] X.env)).all (λ x=>x.1.isSome)
   && decide (([e,f]:List Expr).length+([]:List Keyword).length+(if ([]:List Keyword).isEmpty then 0 else 1)<30))=true
 line:(apos.endLine == eC.line)=true
 trees:backTo eC (starEach [e,f] X.env)=[(false,eval e X.env),(false,eval f X.env)]
def IsD (H:Hp) (a:Addr):Prop:=(∃ az,Rd H a (.dK az))∨∃ az,Rd H a (.dT az)
theorem Oj {X:Cx} {s:Shared} {a:Addr} (I:Inv X pins U H s) (d:IsD H a) :
   s.TypeIs (.ref a) "dict"/\(∀ b,Value.ref a = .ref b->∃ ob,s.heap.get? b=some ob/\ob.dict=none)/\(a == sysModules)=false:=by
 rcases d with ⟨az,e⟩|⟨az,e⟩
 .
  obtain ⟨_,hd,vs,_,dd⟩:=zd I.cg e
  refine ⟨dd.typeIs,λ b q=>?_,hd⟩
  cases q
  obtain ⟨ob,_,_,h1,h2,_⟩:=dd
  exact ⟨ob,h1,h2.2.1⟩
 .
  obtain ⟨_,hd,xs,_,dd⟩:=vg I.cg e
  refine ⟨dd.typeIs,λ b q=>?_,hd⟩
  cases q
  obtain ⟨ob,_,_,h1,h2,_⟩:=dd
  exact ⟨ob,h1,h2.2.1⟩
section
variable {X:Cx} {pins:List (Addr×Obj)} {U:St} {H:Hp} {s:Shared} {a:Addr} {y d:V} {u r:Value} {o:Option V} {A:Around} {E:Value->Shared->Prop}
theorem Oq {Q:Value->Shared->Prop} (hu:A.units+1<cLine) (I:Inv X pins U H s) (g:gF H a y o) (ry:RelV y u) (rd:RelV d r) (h:∀ w' s',Inv X pins U H s'->RelV (o.getD d) w'->Q w' s') :
   wpAny (model X.prog X.w) A (call (.builtin "dict.get") [.ref a,u,r]) Q E s:=by
 rcases g with ⟨az,k,e,ey,l⟩|⟨az,k,b,e,ey,eb,l⟩
 .
  subst ey
  obtain ⟨z,hd,vs,rel,dd⟩:=zd I.cg e
  refine call_meetsIn aor dd.typeIs app (apj _ _ _) (meets_dict_get_default (cn X.prog X.w) a (xF ry) hd r) ⟨_,dd.mapOf,h _ _ (I.tok _) ?_⟩
  rw [l]
  exact (rel.val k).getD rd
 .
  subst ey
  cases (show u=Value.ref b from ry)
  obtain ⟨z,hd,xs,rel,dd⟩:=vg I.cg e
  refine call_meetsIn aor dd.typeIs app (apj _ _ _) (meetsH_dict_get_default (tupleKind (cn X.prog X.w)) a b hd r) ⟨aoW hu,k,xs,wC I.cg eb,dd,h _ _ (I.tok _) ?_⟩
  rw [l]
  exact (rel.val k).getD rd
end
def MD (td ty tx:TE):TE:=λ U H Q=>td U H λ x H1=>∃ a,x = .ref a/\IsD H1 a/\ty U H1 λ y H2=>tx U H2 λ z H3=>∃ o,gF H3 a y o/\Q (o.getD z) H3
section
variable {X:Cx} {o e f:Expr} {apos eC:Pos} {td ty tx:TE}
theorem yW (hu:X.A.units+1<cLine) (ho:PE X o td) (he:PE X e ty) (hf:PE X f tx) (m:M2 X o "get" apos e f eC):PE X (.Call (.Attribute o "get" apos) [e,f] [] eC) (MD td ty tx):=by
 intro pins s U H Q I h
 refine wpAny_Call_method m.base m.few m.line PySem.F.plainAttrs_dict aor PySem.F.type_dict_get (cG (ho pins s U H _ I h) λ u s1 ⟨x,H1,I1,rx,a,ex,d,q1⟩=>?_)
 subst ex
 obtain rfl:u=Value.ref a:=rx
 obtain ⟨t1,t2,_⟩:=Oj I1 d
 refine ⟨t1,t2,?_⟩
 rw [m.trees]
 refine aoC rfl (an9 (ao4 (cG (he pins s1 U H1 _ I1 q1) λ iv s2 ⟨y,H2,I2,ry,q2⟩ =>
   ao4 (cG (hf pins s2 U H2 _ I2 q2) λ fv s3 ⟨z,H3,I3,rz,ov,g,q3⟩=>Calls.spliced_nil ?_))))
 exact Oq hu I3 g ry rz λ w' s4 I4 zZ=>⟨_,H3,I4,zZ,q3⟩
end
end L2
namespace Att
open PySem PySem.W PySem.Calls PyProof.Rows
theorem qC {P:Params} {h:Heap}:∀ (ns:List Int) (vs:List Value),WellAll P h vs (ns.map WData.int)->IntsAre vs ns:=by
 intro ns
 induction ns with
 | nil =>
   intro vs w
   rw [apx] at w
   cases w
   exact .nil
 | cons n ns ih =>
   intro vs w
   rw [agt] at w
   cases w with
   | cons a b =>
     cases a
     exact .cons _ _ (ih _ b)
theorem D0 {l:OpenLaw} {n:Nat} (hn:l.most=some n) {P:Params} {h:Heap} {args:List WData} {vals:List Value}
   (Im:l.row.toRowW.claim.pre args=true) (O3:WellAll P h vals args) :
   ∃ a vs ns,vals=[Value.ref a]/\args=[WData.list (ns.map WData.int)]/\h.get? a=some { cls:=.type "list",data:=.seq vs.toArray }/\IntsAre vs ns/\ns.length<=n:=by
 have hsh:WShape.hasAll [] args [.list .int]=true:=(pre_splitW Im).1
 have hc:l.pre.holds [] { args:=args }=true:=(pre_splitW Im).2
 obtain ⟨d,r,rfl,h1,h2⟩:=hasAllW_cons hsh
 obtain rfl:=hasAllW_nil h2
 obtain ⟨xs,rfl,h3⟩:=hasW_list h1
 obtain ⟨ns,rfl⟩:=items_int h3
 have hlen:ns.length<=n:=by
   unfold OpenLaw.pre at hc
   have h4:(WTm.not (.lt (.lit (.int (n:Int))) (.len (.arg 0)))).holds [] { args:=[.list (ns.map .int)]}=true:=by
     have h4:=(holds_andW hc).1
     rw [hn] at h4
     exact h4
   have h5:=condW_of h4 (w_not (w_lt w_lit (w_len_list (w_arg rfl))))
   rw [AM] at h5
   refine Nat.le_of_not_lt λ q=>?_
   have q':(n:Int)<((ns.length:Nat):Int):=by lia
   first
     | (rw [aga q'] at h5;exact absurd h5 (by decide))
     | (simp at h5;lia)
 cases O3 with
 | cons w1 w2 =>
   cases w2
   cases w1 with
   | list ho FD=>exact ⟨_,_,ns,rfl,rfl,ho,qC ns _ FD,hlen⟩
theorem DF (l:OpenLaw) (args:List WData):l.row.toRowW.claim.post args (.bool true) args=true :=
 postW_of (r:=l.row.toRowW) (X:=(true == true))
   (show WShape.has [] (.bool true) .bool=true by first|rfl|decide|simp [WShape.has,WShape.arms,WShape.armsAll])
   (show (WTm.eq .res (.lit (.bool true))).value [] { args:=args,res:=some (.bool true),after:=args }=some (.bool (true == true)) from w_eq_bool (w_res rfl) w_lit) rfl
section
variable {prog:Program} {w:World} {A:Around} {E:Value->Shared->Prop} {s:Shared} {K:Frag}
def ac8 (h:Heap):Heap:={ h with objs:=#[]}
def ledger (h:Heap) (L d:Addr):List (Addr×Obj):=(List.range h.objs.size).filterMap λ a=>if a=L∨a=d then none else (h.get? a).map λ o=>(a,o)
end
end Att
namespace L2
open PySem PySem.Spec PyProof.Rows
variable {H H':Hp} {qual:Str}
theorem uy:∀ {vs:List Value} {ns:List Int},IntsAre vs ns->Vals (ns.map V.int) vs
 | _,_,.nil => .nil
 | _,_,.cons n t h => .cons ⟨t,rfl⟩ (uy h)
def PV (H:Hp):Prop:=∀ b,H b=none∨∃ o xs,H b=some (.zA o (.lst xs))
theorem EJ {P:Program} {w:World} {K:W.Frag} {mg mb:Str->Option Value} {CX:EC} {k:Nat} {fa a:Addr} {fd:FuncData} {x:Str} {sp:Sp} {s₁:Shared} {vs:List Value} {ns:List Int} (KX:K.In s₁.heap) (GG:s₁.heap.Ns mainGlobals mg) (hb:s₁.heap.Ns builtinsNs mb) (Yl:∀ x:Str,x ≠ "__name__"->mb x=bootBuiltins x) (ab4:s₁.heap.NoLimit) (hg:s₁.gens=#[]) (ha:s₁.heap.get? a=some { cls:=.type "list",data:=.seq vs.toArray }) (hi:IntsAre vs ns) (hl:ns.length<=sizeLine) (hr:cA k callerA) (F:∀ base:Heap,K.In base->base.Ns mainGlobals mg->hZ P w K mg base CX k fa fd [x] sp) (T7:∀ (s:Shared) (u:Value),BindsTo s fd ⟨[u],[]⟩ [(x,u)]) (HN:∀ H:Hp,PV H->aT K H a (ns.map V.int)->sp [.ref a] H (λ v _=>v = .bl true) λ _ _ _=>False) (hCX:∀ H e s',CX [] H s₁ (λ _ _ _=>False) e s'->False) :
   codeAny (model P w) callerA (.call (.ref fa) ⟨[.ref a],[]⟩) (λ r s'=>r = .ok (.ret (.bool true))/\OldK s₁.heap s'.heap/\s'.os=s₁.os/\AllBare s'.gens) s₁:=by
 have rv:=uy hi
 have ams:=hi.length
 have core:∀ H:Hp,PV H->aT K H a (ns.map V.int)->kW P w H s₁.heap->(∀ b,H b≠none->b=a)->(H a≠none->K.lookup a=none) ->
     codeAny (model P w) callerA (.call (.ref fa) ⟨[.ref a],[]⟩) (λ r s'=>r = .ok (.ret (.bool true))/\OldK s₁.heap s'.heap/\s'.os=s₁.os/\AllBare s'.gens) s₁:=by
   intro H hO hS cg hA hK
   have CN:∀ {b:Addr} {o:Obj},s₁.heap.get? b=some o->H b=none->(wE s₁.heap H).get? b=some o:=λ e n=>FN e n
   have RL:∀ {b:Addr} {o:Obj} {es:Array DictEntry} {ep:Nat},s₁.heap.get? b=some o->o.data = .dict es ep->H b=none:=λ {b o es ep} e d=>by
     cases q:H b with
     | none=>rfl
     | some u =>
       have e':b=a:=hA b (by rw [q];simp)
       subst e'
       rw [ha] at e;cases e
       have d':Data.seq vs.toArray _=Data.dict es ep:=d
       cases d'
   have YK:∀ {b:Addr} {m:Str->Option Value},s₁.heap.Ns b m->(wE s₁.heap H).Ns b m:=λ {b m} ⟨o,es,ep,e,d,r⟩=>⟨o,es,ep,CN e (RL e d),d,r⟩
   have hKb:K.In (wE s₁.heap H):=λ b o e=>CN (KX b o e) (by
     cases q:H b with
     | none=>rfl
     | some u =>
       have e':b=a:=hA b (by rw [q];simp)
       subst e'
       rw [hK (by rw [q];simp)] at e;cases e)
   have hM:Mod K mg (wE s₁.heap H):=⟨hKb,YK GG,⟨mb,YK hb,Yl⟩,let ⟨mc,h1,h2⟩:=ab4;⟨mc,YK h1,h2⟩⟩
   have e0:AB P w K mg (wE s₁.heap H) callerA [] s₁ H:=⟨rfl,hM,λ b o e=>IA e,Nat.le_of_eq (Eo _ _),trivial,λ b hb=>absurd (show b∈([]:List Addr) from hb) (by simp),cg,.of_eq hg⟩
   refine aom ((F _ hKb (YK GG)).run callerA [] s₁ H ⟨[.ref a],[]⟩ [.ref a] [.ref a] _ _ hr e0 (T7 s₁ (.ref a)) (.cons rfl .nil) (HN H hO hS)) λ r s' h=>?_
   cases r with
   | error e=>exact (hCX H e s' h).elim
   | ok fl =>
     cases fl with
     | next=>exact False.elim h
     | brk=>exact False.elim h
     | cont=>exact False.elim h
     | ret u =>
       obtain ⟨v,H',os,bare,un,aa4,r',q⟩:=h
       have q':v = .bl true:=q
       subst q'
       obtain rfl:u=Value.bool true:=r'
       refine ⟨rfl,OldK.of_keep λ b o e=>?_,os,bare⟩
       cases q:H b with
       | none=>exact un.keep b o e q (by intro z;exact absurd (show b∈([]:List Addr) from z) (by simp)) (by simp)
       | some u =>
         rcases hO b with z|⟨ob,xs,z⟩
         . rw [q] at z;cases z
         . have z2:=un.o6 b ob _ z
           obtain ⟨e1,_⟩:=cg b _ z
           obtain ⟨e2,_⟩:=aa4 b _ z2
           rw [e] at e1;cases e1
           exact e2
 cases hk:K.lookup a with
 | some o =>
   have e:=KX a o hk
   rw [ha] at e
   cases e
   refine core (λ _=>none) (λ _ => .inl rfl) (.inr ⟨_,vs.toArray,_,hk,rfl,rfl,rfl,by rw [adJ,ams];exact hl,by simpa using rv⟩) (λ b u z=>by have z':(none:Option HO)=some u:=z;cases z') (λ b z=>absurd rfl z) λ z=>absurd rfl z
 | none =>
   refine core (λ b=>if b=a then some (.zA { cls:=.type "list",data:=.seq vs.toArray } (.lst (ns.map V.int))) else none) (λ b=>?_) (.inl (.inr ⟨{ cls:=.type "list",data:=.seq vs.toArray },acS rfl⟩)) (λ b u z=>?_) (λ b z=>?_) λ _=>hk
   . by_cases hb:b=a
     . exact .inr ⟨_,_,acS hb⟩
     . exact .inl (acO hb)
   .
    by_cases hb:b=a
    . have z':=(acS hb).symm.trans z
      cases z'
      subst hb
      exact ⟨ha,by rw [AM];exact hl,vs,_,rv,ha⟩
    . have z':=(acO hb).symm.trans z
      cases z'
   . by_cases hb:b=a
     . exact hb
     . exact absurd (acO hb) z
def inClass (s:Stmt) (j:Nat):Stmt:=match s with
 | .ClassDef _ _ _ body _ _ _ _ _ _ _=>body.getD j (.Pass ⟨0,0,0,0⟩)
 | _ => .Pass ⟨0,0,0,0⟩
def bV (s:Stmt):Arguments:=match s with
 | .FunctionDef _ a _ _ _ _ _ _ _ _=>a
 | _=>{ posonlyargs:=[],args:=[],vararg:=none,kwonlyargs:=[],kw_defaults:=[],kwarg:=none,defaults:=[]}
def bj (s:Stmt):List Stmt:=match s with
 | .FunctionDef _ _ b _ _ _ _ _ _ _=>b
 | _=>[]
def ai (s:Stmt):Scope:=match s with
 | .FunctionDef _ _ _ _ _ _ sc _ _ _=>sc
 | _=>{ kind:=.function,names:=[],isGenerator:=false,isCoroutine:=false }
abbrev tO:EC:=λ _ _ _ _ _ _=>False
abbrev E0:XK:=λ _ _ _=>False
theorem yS {X:Cx}:Passes tO X E0:=λ _ _ _ _ _ _ _ h=>h.elim
structure Li (K:W.Frag) (x qual:Str) (st:Stmt) (f:Addr) (fd:FuncData):Prop where
 ex:∃ (oc:Value) (od:Option Addr) (kV doc pm:Value) (an:Option Addr) (bq ct:Value) (xv:Array (Option Value)),
   fd=W.fnOf x qual (bV st) (bj st) (ai st) .none kV doc pm an bq ct/\K.lookup f=some ⟨oc,od,.func fd,xv⟩/\W.codeIn K bq qual=true
 kp:W.keepIn K (.ref f)=true
section
variable {P:Program} {w:World} {K:W.Frag} {mg:Str->Option Value} {base:Heap}
theorem Li.ok {x:Str} {st:Stmt} {f:Addr} {fd:FuncData} {N ps:List Str} {k:Nat} {sp:Sp} (F:Li K x qual st f fd) (S:aw N ps (ai st)) (len:∀ vs H Q E,sp vs H Q E->vs.length=ps.length) (d9:∀ (bq:Value) (A:Around) (outer:List Env) (s:Shared) (H:Hp) (vs:List V) (Q:VK) (E:XK),cA k (A.deeper (envOfC qual (ai st) s.heap.objs.size f bq))->sp vs H Q E ->
     ∃ t,qg (eW tO P w K mg base N qual (ai st) f bq A outer s H E).D8 (bj st) t/\t { nx:=λ _ H'=>Q .b9 H',rt:=Q } (start N vs) H):hZ P w K mg base tO (k+1) f fd ps sp:=by
 obtain ⟨oc,od,kV,doc,pm,an,bq,ct,xv,rfl,lk,qI⟩:=F.ex
 refine G6 lk qI S len λ A outer s H vs Q E hr HN=>?_
 obtain ⟨t,h,q⟩:=d9 bq A outer s H vs Q E hr HN
 exact ⟨t,h.D8,q⟩
theorem Li.binds {x:Str} {st:Stmt} {f:Addr} {fd:FuncData} {ps:List Str} (F:Li K x qual st f fd) (h:∀ (kV doc pm:Value) (an:Option Addr) (bq ct:Value) (us:List Value),us.length=ps.length->bindArgs (W.fnOf x qual (bV st) (bj st) (ai st) .none kV doc pm an bq ct) ⟨us,[]⟩=pure (ps.zip us)):Binds K fd ps []:=by
 obtain ⟨oc,od,kV,doc,pm,an,bq,ct,xv,rfl,lk,qI⟩:=F.ex
 exact .all (h kV doc pm an bq ct)
theorem aS {x:Str} {st:Stmt} {f:Addr} {oc:Value} {od an:Option Addr} {xv:Array (Option Value)} {kV doc pm bq ct:Value} (l:K.lookup f=some ⟨oc,od,.func (W.fnOf x qual (bV st) (bj st) (ai st) .none kV doc pm an bq ct),xv⟩) (c:W.codeIn K bq qual=true) (k:W.keepIn K (.ref f)=true):Li K x qual st f (W.fnOf x qual (bV st) (bj st) (ai st) .none kV doc pm an bq ct):=⟨⟨oc,od,kV,doc,pm,an,bq,ct,xv,rfl,l,c⟩,k⟩
end
theorem ck {A:Around} {k:Nat} (hr:cA k A):A.units+1<cLine:=agc (Nat.add_le_add_left (by decide:1<=64) _) hr.units
theorem aN {n:Nat} (h:n<=1000):n<sizeLine:=agc h (by decide)
section
variable {X:Cx}
theorem pv (i:Nat) {x:Str} {pos:Pos} (hN:X.N[i]?=some x:=by rfl) (hv:YD X.env.scope x:=by first|exact Or.inl rfl|exact Or.inr (Or.inl rfl)|exact Or.inr (Or.inr rfl)) (hd:(x == ("__debug__" : Str))=false:=by decide) (qI:(x == ("__classdict__" : Str))=false:=by decide):PE X (.Name x pos) (KP i):=Ng hN hv hd qI
end
theorem gz {A B:Prop} (h:B):if false=true then A else B:=by
 rw [acO abZ]
 exact h
theorem iW {A B:Prop} (h:A):if true=true then A else B:=by
 rw [acS rfl]
 exact h
theorem fz {c A B:Prop} [Decidable c] (hc:c) (h:B):if (!decide c)=true then A else B:=by
 rw [aga hc]
 exact gz h
def aA (H H':Hp):Prop:=∀ b o,H b=some o->H' b=some o
theorem aA.refl (H:Hp):aA H H:=λ _ _ h=>h
theorem aA.trans {H1 H2:Hp} (a:aA H H1) (b:aA H1 H2):aA H H2:=λ c o h=>b c o (a c o h)
theorem aA.free (e:aA H H') {l:Addr} (h:H' l=Option.none):H l=Option.none:=by
 cases q:H l with
 | none=>rfl
 | some o =>
   rw [e l o q] at h
   cases h
theorem aA.seq {K:W.Frag} {a:Addr} {xs:List V} (e:aA H H') (h:aT K H a xs):aT K H' a xs:=by
 rcases h with (h|⟨o,h⟩)|h
 . exact .inl (.inl (e _ _ h))
 . exact .inl (.inr ⟨o,e _ _ h⟩)
 . exact .inr h
section
variable {κ:Type} [DecidableEq κ]
theorem FZ {az:List (κ×V)} {k:κ} (h:ge az k=none):¬ k∈az.map (·.1):=by
 intro m
 obtain ⟨p,hp,e⟩:=List.mem_map.mp m
 have q:(az.any λ kv=>decide (kv.1=k))=true:=List.any_eq_true.mpr ⟨p,hp,aga e⟩
 rw [jF,h] at q
 exact absurd q (by simp)
theorem Ce:∀ {l:List κ} {k:κ},l.Nodup->¬ k∈l->(l++[k]).Nodup
 | [],k,_,_=>by simp
 | a::r,k,h,hk=>by
   obtain ⟨h1,h2⟩:=List.nodup_cons.mp h
   show (a::(r++[k])).Nodup
   refine List.nodup_cons.mpr ⟨λ m=>?_,Ce h2 λ m=>hk (List.mem_cons.mpr (Or.inr m))⟩
   rcases List.mem_append.mp m with q|q
   . exact h1 q
   . exact hk (List.mem_cons.mpr (Or.inl (List.mem_singleton.mp q).symm))
theorem KQ {az:List (κ×V)} {k:κ} (v:V) (hn:(az.map (·.1)).Nodup) (h:ge az k=none):((putK az k v).map (·.1)).Nodup:=by
 rw [Fz v h,YT]
 exact Ce hn (FZ h)
end
end L2
namespace Mth
theorem LA {g l:Int} (hg:0<=g) (hl:0<l):Int.gcd l (g % l)=Int.gcd g l:=by
 obtain ⟨a,rfl⟩:=apm hg
 obtain ⟨b,rfl⟩:=apm (alO hl)
 show Nat.gcd b (((a:Int) % (b:Int))).natAbs=Nat.gcd a b
 have:(((a:Int) % (b:Int))).natAbs=a % b:=by rw [← Int.natCast_emod];rfl
 rw [this,Nat.gcd_comm a b,Nat.gcd_comm b,← Nat.gcd_rec]
theorem QS {g:Int} (hg:0<=g):((Int.gcd g 0:Nat):Int)=g:=by
 rw [Int.gcd_zero_right];lia
theorem uI {a b:Int} (ha:0<a) (h:0<a * b):0<b:=by
 rcases (by lia:0<b∨b<=0) with q|q
 . exact q
 . have:=aoc (alO ha) (by lia:0 <= -b)
   rw [apN] at this
   lia
structure Fr (t b q r:Int):Prop where
 pos:0<r
 jB:q * b=t * r
 X6:Int.gcd q r=1
 Py:q.natAbs<=t.natAbs
 SW:r.natAbs<=b.natAbs
theorem sH {c q:Int} (hc:0<c):q.natAbs<=(c * q).natAbs:=by
 rw [aoz]
 exact Nat.le_mul_of_pos_left _ (by lia)
theorem Gc {t b c:Int} (hb:b≠0) (hc:c=((Int.gcd t b:Nat):Int)):0<c/\c<=b.natAbs/\(0<b->Fr t b (t.fdiv c) (b.fdiv c))/\(b<0->Fr t b (t.fdiv (-c)) (b.fdiv (-c))):=by
 have hp:0<Int.gcd t b:=Int.gcd_pos_iff.mpr (.inr hb)
 have c0:0<c:=by lia
 have d1:c ∣ t:=hc ▸ Int.gcd_dvd_left t b
 have d2:c ∣ b:=hc ▸ Int.gcd_dvd_right t b
 obtain ⟨q,hq⟩:=d1
 obtain ⟨r,hr⟩:=d2
 have hr0:r≠0:=by rintro rfl;rw [Int.mul_zero] at hr;exact hb hr
 have hle:c<=b.natAbs:=by
   rw [hr,aoz]
   have:c.natAbs * 1<=c.natAbs * r.natAbs:=Nat.mul_le_mul_left _ (by lia)
   lia
 have e1:t.fdiv c=q:=by rw [hq,anO _ (by lia)]
 have e2:b.fdiv c=r:=by rw [hr,anO _ (by lia)]
 have e3:t.fdiv (-c) = -q:=by rw [show t = -c * -q by rw [hq,Int.neg_mul_neg],anO _ (by lia)]
 have e4:b.fdiv (-c) = -r:=by rw [show b = -c * -r by rw [hr,Int.neg_mul_neg],anO _ (by lia)]
 have hg:Int.gcd q r=1:=by
   have h1:Int.gcd (c * q) (c * r)=c.natAbs * Int.gcd q r:=Int.gcd_mul_left c q r
   rw [← hq,← hr] at h1
   have h3:c.natAbs=Int.gcd t b:=by lia
   rw [h3] at h1
   have h2:Int.gcd t b * Int.gcd q r=Int.gcd t b * 1:=by rw [← h1,apK]
   exact Nat.eq_of_mul_eq_mul_left hp h2
 have l1:q.natAbs<=t.natAbs:=hq ▸ sH c0
 have l2:r.natAbs<=b.natAbs:=hr ▸ sH c0
 refine ⟨c0,hle,λ b0=>?_,λ b0=>?_⟩
 . rw [e1,e2]
   exact ⟨uI c0 (hr ▸ b0),by rw [hq,hr,akl,Int.mul_left_comm],hg,l1,l2⟩
 . rw [e3,e4]
   refine ⟨uI c0 (by rw [apN,← hr];lia),?_,by rw [Int.gcd_neg,Int.neg_gcd];exact hg,by lia,by lia⟩
   rw [hq,hr,Int.neg_mul,apN,akl,Int.mul_left_comm]
def Bd (n:Nat) (x:Int):Prop:=x.natAbs<2 ^ n
theorem Bd.mono {m n:Nat} {x:Int} (h:Bd m x) (l:m<=n):Bd n x:=aec h (ajz (by decide) l)
theorem Bd.mul {m n:Nat} {x y:Int} (h:Bd m x) (k:Bd n y):Bd (m+n) (x * y):=by
 unfold Bd at *
 rw [aoz,Nat.pow_add]
 exact Nat.mul_lt_mul'' h k
theorem Bd.add {m:Nat} {x y:Int} (h:Bd m x) (k:Bd m y):Bd (m+1) (x+y):=by
 unfold Bd at *
 rw [aos]
 have:=Int.natAbs_add_le x y
 lia
theorem Bd.neg {m:Nat} {x:Int} (h:Bd m x):Bd m (-x):=by unfold Bd at *;rw [Int.natAbs_neg];exact h
theorem Bd.sub {m:Nat} {x y:Int} (h:Bd m x) (k:Bd m y):Bd (m+1) (x - y):=by rw [Int.sub_eq_add_neg];exact h.add k.neg
theorem Bd.le {m:Nat} {x y:Int} (h:Bd m y) (k:x.natAbs<=y.natAbs):Bd m x:=agc k h
theorem Bd.log {n:Nat} {x:Int} (h:Bd n x) (hn:0<n):x.natAbs.log2<n:=by
 by_cases h0:x.natAbs=0
 . rw [h0];simpa using hn
 . exact (Nat.log2_lt h0).mpr h
theorem Fr.Ym {t b q r:Int} {n:Nat} (h:Fr t b q r) (k:Bd n t):Bd n q:=k.le h.Py
theorem Fr.Yk {t b q r:Int} {n:Nat} (h:Fr t b q r) (k:Bd n b):Bd n r:=k.le h.SW
end Mth
namespace Bit
def rooms (n:Nat):List Nat:=(List.range 61).filter n.testBit
theorem fg {n k:Nat}:k∈rooms n↔k<61/\n.testBit k=true:=by
 unfold rooms;rw [ao1,List.mem_range]
theorem kc (n:Nat):(rooms n).Pairwise (· < ·):=(apr).filter _
theorem iD {n m k:Nat} (h:n<2 ^ m) (hk:m<=k):n.testBit k=false:=Nat.testBit_lt_two_pow (aec h (ajz (by decide) hk))
theorem Av {n m:Nat} (h:n<2 ^ m) (hm:m<=61):(List.range m).filter n.testBit=rooms n:=by
 unfold rooms
 obtain ⟨d,hd⟩:∃ d,61=m+d:=⟨61 - m,by lia⟩
 have e61:List.range 61=List.range (m+d):=by rw [hd]
 rw [e61,List.range_add,amL]
 have:(List.map (m + ·) (List.range d)).filter n.testBit=[]:=by
   rw [apt]
   intro a ha
   obtain ⟨b,_,rfl⟩:=List.mem_map.mp ha
   rw [iD h (by lia)]
   exact abZ
 rw [this,alw]
def sumOf (l:List Nat):Nat:=l.foldl (λ n r=>n ||| 2 ^ r) 0
theorem yV:∀ (l:List Nat) (a k:Nat),(l.foldl (λ n r=>n ||| 2 ^ r) a).testBit k=(a.testBit k || decide (k∈l))
 | [],a,k=>by simp
 | r::l,a,k=>by
   rw [List.foldl_cons,yV l,ao8,aoA,Bool.or_assoc]
   congr 1
   by_cases h:r=k
   . subst h;simp
   . have:decide (k∈r::l)=decide (k∈l):=by simp [anq h]
     rw [this];simp [h]
theorem l8 (l:List Nat) (k:Nat):(sumOf l).testBit k=decide (k∈l):=by
 unfold sumOf;rw [yV];simp
theorem Fg {l:List Nat} {m:Nat} (h:∀ r∈l,r<m):sumOf l<2 ^ m:=by
 refine ao9 _ λ i hi=>?_
 rw [l8]
 exact ad7 λ q=>absurd (h i q) (by lia)
theorem yn {l:List Nat} (h:∀ r∈l,r<61) (hs:l.Pairwise (· < ·)):rooms (sumOf l)=l:=by
 have DH:∀ k,k∈rooms (sumOf l)↔k∈l:=λ k=>by
   rw [fg,l8]
   constructor
   . rintro ⟨_,q⟩;exact aoL q
   . intro q;exact ⟨h k q,aga q⟩
 have uniq:∀ (a b:List Nat),a.Pairwise (· < ·)->b.Pairwise (· < ·)->(∀ k,k∈a↔k∈b)->a=b:=by
   intro a
   induction a with
   | nil =>
     intro b _ _ hm
     cases b with
     | nil=>rfl
     | cons y b=>exact absurd ((hm y).mpr afg) (by simp)
   | cons x a ih =>
     intro b ha hb hm
     cases b with
     | nil=>exact absurd ((hm x).mp afg) (by simp)
     | cons y b =>
       obtain ⟨ha1,ha2⟩:=List.pairwise_cons.mp ha
       obtain ⟨HJ,N1⟩:=List.pairwise_cons.mp hb
       have ZM:x=y:=by
         rcases List.mem_cons.mp ((hm x).mp afg) with q|q
         . exact q
         . rcases List.mem_cons.mp ((hm y).mpr afg) with q2|q2
           . exact q2.symm
           . have:=HJ x q;have:=ha1 y q2;lia
       subst ZM
       rw [ih b ha2 N1 λ k=>?_]
       constructor
       . intro q
         rcases List.mem_cons.mp ((hm k).mp (aeC _ q)) with z|z
         . subst z;exact absurd (ha1 k q) (ajM _)
         . exact z
       . intro q
         rcases List.mem_cons.mp ((hm k).mpr (aeC _ q)) with z|z
         . subst z;exact absurd (HJ k q) (ajM _)
         . exact z
 exact uniq _ _ (kc _) hs DH
def parts (l:List Nat):List Nat:=l.foldl (λ ps r=>ps++ps.map (· ||| 2 ^ r)) [0]
theorem As {p r:Nat} (h:p<2 ^ r):p ||| 2 ^ r=p+2 ^ r:=by
 have:=aoZ h 1
 rw [apK] at this
 rw [Nat.or_comm,← this,an7]
structure Ok (ps l:List Nat):Prop where
 len:ps.length=2 ^ l.length
 first:ps[0]?=some 0
 last:ps[ps.length - 1]?=some (sumOf l)
 rise:ps.Pairwise (· < ·)
 sub:∀ p∈ps,∀ k,p.testBit k=true->k∈l
theorem GD:Ok [0] []:=⟨rfl,rfl,rfl,by simp,λ p hp k hk=>by
 have:p=0:=by simpa using hp
 subst this;simp at hk⟩
theorem J3 {ps l:List Nat} {r:Nat} (h:Ok ps l) (hr:∀ x∈l,x<r):Ok (ps++ps.map (· ||| 2 ^ r)) (l++[r]):=by
 have small:∀ p∈ps,p<2 ^ r:=λ p hp=>ao9 _ λ i hi=>by
   cases e:p.testBit i with
   | false=>rfl
   | true=>have:=hr i (h.sub p hp i e);lia
 have pos:0<ps.length:=by rw [h.len];exact Nat.two_pow_pos _
 refine ⟨?_,?_,?_,?_,?_⟩
 . rw [abi,AM,h.len,abi,ajo,aos];lia
 . rw [aft pos];exact h.first
 .
  rw [abi,AM,agM (by lia),T1]
  have e:ps.length+ps.length - 1 - ps.length=ps.length - 1:=by lia
  rw [e,h.last]
  show some (sumOf l ||| 2 ^ r)=some (sumOf (l++[r]))
  unfold sumOf
  rw [akL];rfl
 .
  rw [List.pairwise_append]
  refine ⟨h.rise,?_,λ a ha b hb=>?_⟩
  . rw [List.pairwise_map]
    refine List.Pairwise.imp_of_mem ?_ h.rise
    intro a b ha hb Aa
    rw [As (small a ha),As (small b hb)];lia
  . obtain ⟨c,hc,rfl⟩:=List.mem_map.mp hb
    have:=small a ha
    rw [As (small c hc)];lia
 .
  intro p hp k hk
  rcases List.mem_append.mp hp with q|q
  . exact anZ _ (h.sub p q k hk)
  .
   obtain ⟨c,hc,rfl⟩:=List.mem_map.mp q
   rw [ao8,ao5] at hk
   rcases hk with z|z
   . exact anZ _ (h.sub c hc k z)
   . rw [aoA] at z
     have:=aoL z
     subst this
     exact ah0 _ (by simp)
theorem vK:∀ (b a ps:List Nat),Ok ps a->(a++b).Pairwise (· < ·)->Ok (b.foldl (λ ps r=>ps++ps.map (· ||| 2 ^ r)) ps) (a++b)
 | [],a,ps,h,_=>by simpa using h
 | r::b,a,ps,h,hs=>by
   rw [List.foldl_cons]
   have e:a++r::b=(a++[r])++b:=by simp
   have hr:∀ x∈a,x<r:=λ x hx=>(List.pairwise_append.mp hs).2.2 x hx r afg
   rw [e] at hs ⊢
   exact vK b (a++[r]) _ (J3 h hr) hs
theorem E9 {n:Nat}:Ok (parts (rooms n)) (rooms n):=by
 have:=vK (rooms n) [] [0] GD (by simpa using kc n)
 rw [aov] at this
 exact this
theorem Ja {p n:Nat} (h:∀ k,p.testBit k=true->n.testBit k=true):p &&& n=p:=by
 refine akU λ k=>?_
 rw [aiD]
 cases e:p.testBit k with
 | false=>rfl
 | true=>rw [h k e];rfl
theorem He {n p:Nat} (hp:p∈parts (rooms n)):p &&& n=p:=Ja λ k hk=>(fg.mp (E9.sub p hp k hk)).2
theorem GJ {n r:Nat} (hr:r<61) (h:n.testBit r=false):(rooms (n ||| 2 ^ r)).length=(rooms n).length+1:=by
 have c:∀ (l:List Nat),l.Nodup->(l.filter (n ||| 2 ^ r).testBit).length=(l.filter n.testBit).length+(if r∈l then 1 else 0):=by
   intro l
   induction l with
   | nil=>intro _;rfl
   | cons x l ih =>
     intro hl
     obtain ⟨h1,h2⟩:=List.nodup_cons.mp hl
     have e:=ih h2
     have hx:(n ||| 2 ^ r).testBit x=(n.testBit x || decide (r=x)):=by rw [ao8,aoA]
     rw [aoU,aoU,hx]
     by_cases q:r=x
     . subst q
       rw [h]
       simp only [decide_true,apC,anS,afc,e,acO h1,acs,true_or]
       simp
     . have q':(r∈x::l)↔r∈l:=by simp [q]
       have d:decide (r=x)=false:=ad7 q
       rw [d,Bool.or_false]
       cases n.testBit x with
       | true=>simp only [anS,afc,e];by_cases z:r∈l<;>simp [z,q]<;>lia
       | false=>simp only [anU,an2,e];by_cases z:r∈l<;>simp [z,q]
 have:=c (List.range 61) List.nodup_range
 rw [acS (List.mem_range.mpr hr)] at this
 exact this
end Bit
namespace L2
open PySem PySem.Spec PyProof.Rows Mth
theorem Ah:bootBuiltins "abs" = some (.builtin "abs"):=by decide +kernel
theorem dJ:bootBuiltins "len" = some (.builtin "len"):=by decide +kernel
theorem ml:bootBuiltins "isinstance" = some (.builtin "isinstance"):=by decide +kernel
theorem Ff:bootBuiltins "all" = some (.builtin "all"):=by decide +kernel
theorem iM:bootBuiltins "tuple" = some (.type "tuple"):=by decide +kernel
theorem qP:bootBuiltins "list" = some (.type "list"):=by decide +kernel
theorem Oc:bootBuiltins "int" = some (.type "int"):=by decide +kernel
theorem Jk:bootBuiltins "bool" = some (.type "bool"):=by decide +kernel
theorem Cm {n:Nat} {x:Int} (h:Bd n x):Builtin.Int.intBits x<=n:=PySem.intBits_le_iff.mpr h
theorem Ih {n:Nat} {x:Int} (h:Builtin.Int.intBits x<=n):Bd n x:=PySem.intBits_le_iff.mp h
section
variable {X:Cx}
def Lw (i j:Int):Prop:=∃ m n,Bd m i/\Bd n j/\m+n<=100000000
def LO (_ j:Int):Prop:=j≠0/\Bd 8999 j
theorem Jb:iY X (binaryOp .Mult) (rI Lw λ i j => .int (i * j)):=OD λ _ _ _ _ _ _ _ hc q=>by
 obtain ⟨m,n,h1,h2,h3⟩:=hc
 exact mul_int q (IntMulOk.of_le (Cm h1) (Cm h2) (by lia))
theorem F9:iY X (binaryOp .FloorDiv) (rI LO λ i j => .int (i.fdiv j)):=OD λ _ _ _ _ _ _ _ hc q=>by
 have h2:Bd 8999 _:=hc.2
 exact floordiv_int hc.1 q (.inl (PyProof.noPylong_of_log2 (aec (h2.log (by decide)) (by decide))))
inductive PZ (K:W.Frag) (x:V) (y:V) (H:Hp) (Q:VK):Prop
 | mk (p xs i v:_) (_:x = .ref p) (_:y = .int i) (_:(aT K H p xs∨bP K H p xs)) (_:tN xs i=some v) (_:Q v H)
theorem au:R3 X (PZ X.K):=by
 intro value slice pins s U H x y v u Q I rx ry h hs
 obtain ⟨p,xs,i,w,e1,e2,hq,e3,q⟩:=h
 rcases hq with hq|hq
 . exact JP value slice pins s U H x y v u Q I rx ry ⟨p,xs,i,w,e1,e2,hq,e3,q⟩ hs
 . exact NU value slice pins s U H x y v u Q I rx ry ⟨p,xs,i,w,e1,e2,hq,e3,q⟩ hs
theorem pL:iN X (.builtin "isinstance") (λ xs H Q=>∃ x c t cv b,xs=[x,c]/\pB X.K H x t/\RelV c cv/\W.kitOne X.K t cv=some b/\Q (.bl b) H):=by
 intro pins s U H xs us Q I r h
 obtain ⟨x,c,t,cv,b,rfl,ty,rc,e,q⟩:=h
 obtain ⟨u,w',rfl,r1,r2⟩:=vals2 r
 have:w'=cv:=by
   cases c with
   | b9=>cases r2;cases rc;rfl
   | bl b=>cases r2;cases rc;rfl
   | ref a=>cases r2;cases rc;rfl
   | ty n=>cases r2;cases rc;rfl
   | int i=>exact absurd e (by obtain ⟨k,rfl⟩:=rc;intro z;unfold W.kitOne W.kitCls at z;cases ty<;>simp at z)
   | str i=>exact absurd e (by obtain ⟨k,rfl⟩:=rc;intro z;unfold W.kitOne W.kitCls at z;cases ty<;>simp at z)
   | DE i=>exact absurd e (by obtain ⟨k,rfl⟩:=rc;intro z;unfold W.kitOne W.kitCls at z;cases ty<;>simp at z)
   | LQ i=>exact absurd e (by obtain ⟨k,rfl⟩:=rc;intro z;unfold W.kitOne W.kitCls at z;cases ty<;>simp at z)
 subst this
 exact Du I r1 ty e λ tk=>⟨.bl b,H,I.tok _,rfl,q⟩
end
def gC (K:W.Frag) (mg:Str->Option Value) (x:Str) (st:Stmt):Prop:=∃ f fd,mg x=some (.ref f)/\Li K x x st f fd
def Def (P:Program) (w:World) (K:W.Frag) (mg:Str->Option Value) (base:Heap) (x:Str) (k:Nat) (ps:List Str) (sp:Sp):Prop :=
 ∃ f fd,mg x=some (.ref f)/\W.keepIn K (.ref f)=true/\Binds K fd ps []/\hZ P w K mg base tO k f fd ps sp
section
variable {P:Program} {w:World} {K:W.Frag} {mg:Str->Option Value} {base:Heap}
theorem gC.def {x:Str} {st:Stmt} {N ps:List Str} {k:Nat} {sp:Sp} (h:gC K mg x st) (S:aw N ps (ai st)) (len:∀ vs H Q E,sp vs H Q E->vs.length=ps.length)
   (hb:∀ (kV doc pm:Value) (an:Option Addr) (bq ct:Value) (us:List Value),us.length=ps.length->bindArgs (W.fnOf x x (bV st) (bj st) (ai st) .none kV doc pm an bq ct) ⟨us,[]⟩=pure (ps.zip us))
   (d9:∀ (f:Addr) (bq:Value) (A:Around) (outer:List Env) (s:Shared) (H:Hp) (vs:List V) (Q:VK) (E:XK),cA k (A.deeper (envOfC x (ai st) s.heap.objs.size f bq))->sp vs H Q E ->
     ∃ t,qg (eW tO P w K mg base N x (ai st) f bq A outer s H E).D8 (bj st) t/\t { nx:=λ _ H'=>Q .b9 H',rt:=Q } (start N vs) H):Def P w K mg base x (k+1) ps sp:=by
 obtain ⟨f,fd,hm,F⟩:=h
 exact ⟨f,fd,hm,F.kp,F.binds hb,F.ok S len λ bq A outer s H vs Q E hr hs=>d9 f bq A outer s H vs Q E hr hs⟩
theorem Li.Nr {x qual:Str} {st:Stmt} {f:Addr} {fd:FuncData} {p:Str} (F:Li K x qual st f fd)
   (h:∀ (kV doc pm:Value) (an:Option Addr) (bq ct:Value) (u:Value),bindArgs (W.fnOf x qual (bV st) (bj st) (ai st) .none kV doc pm an bq ct) ⟨[u],[]⟩=pure [(p,u)]) (s:Shared) (u:Value):BindsTo s fd ⟨[u],[]⟩ [(p,u)]:=by
 obtain ⟨oc,od,kV,doc,pm,an,bq,ct,xv,rfl,lk,qI⟩:=F.ex
 exact .of_eq (h kV doc pm an bq ct u)
end
section
variable {X:Cx} {x:Str} {p pos:Pos} {e:Expr} {es:List Expr} {t:TA} {k:Nat} {ps:List Str} {sp:Sp}
theorem am (D:Def X.prog X.w X.K X.mg X.base x k ps sp) (hr:cA k X.A) (ha:PA X (e::es) t) (hg:Gl X x:=by rfl) (zx:(x == ("__debug__" : Str))=false:=by decide)
   (he:starEach (e::es) X.env=(false,eval e X.env)::starEach es X.env:=by rfl) (jG:(backTo pos (starEach es X.env)).any (·.1)=false:=by rfl):PE X (.Call (.Name x p) (e::es) [] pos) (Ct sp [] E0 t):=by
 obtain ⟨f,fd,hm,hk,hb,F⟩:=D
 exact BY F hr hg hm hk hb .nil yS ha zx he jG
end
theorem AL {n:Int} {m:Nat} (h:(W.WData.int n).weight<=m):Bd m n:=by
 refine Ih ?_
 simpa only [W.WData.weight,Builtin.Int.intBits] using h
end L2
namespace Att
open PySem PySem.W PySem.Calls PyProof.Rows Mth
theorem xj {l:OpenLaw} {n:Nat} {q:Program} {loose:List Str} {XP:(Str->Option Value)->Heap->Prop} {YP:World->Heap->Prop} {d:DefRec}
   (hn:l.most=some n) (Vd:d.params.defaults=[])
   (call:∀ (w:World) (s₀ s₁:Shared) (mg mb:Str->Option Value) (fa:Addr) (o:Obj) (pm cd doc:Value) (a:Addr) (vs:List Value) (ns:List Int),
     Ground q loose [] XP w s₀ mg mb s₁.heap->YP w s₁.heap ->
     s₁.heap.get? fa=some o->o.data = .func (docDef d.name d.params d.body d.scope pm cd doc)->s₁.heap.CodeRec cd d.name->mg d.name=some (.ref fa) ->
     s₁.heap.get? a=some { cls:=.type "list",data:=.seq vs.toArray }->IntsAre vs ns->ns.length<=n->(∀ z∈ns,Bd 1048576 z)->s₁.gens=#[] ->
     codeAny (model l.prog w) callerA (.call (.ref fa) ⟨[.ref a],[]⟩) (λ r s'=>r = .ok (.ret (.bool true))/\OldK s₁.heap s'.heap/\s'.os=s₁.os/\AllBare s'.gens) s₁) :
   WalkO q loose XP YP l.row.toRowW d [] (λ f vs=>PySem.call f vs):=by
 intro w s₀ s₁ mg mb G Y fa o pm cd doc dV kV ho hd qI hD OO hg args vals as Im ZK hrd O3 hlo
 obtain rfl:dV = .none:=Dflts.none hD Vd
 obtain rfl:kV = .none:=Dflts.noKw hD
 obtain ⟨a,vs,ns,rfl,rfl,Np,hints,hlen⟩:=D0 hn Im O3
 have BU:∀ z∈ns,Bd 1048576 z:=λ z hz=>by
   have h1:=layableW_arg ZK _ (List.mem_singleton.mpr rfl)
   have h2:=layableW_item h1 (.int z) (List.mem_map.mpr ⟨z,hz,rfl⟩)
   exact L2.AL (agB (layableW_iff.mp h2).2.2 (by decide))
 refine enter_call (aom (call w s₀ s₁ mg mb fa o pm cd doc a vs ns G Y ho (fd_plain hd) qI OO Np hints hlen BU hg) λ r s' hq=>?_)
 obtain ⟨rfl,h2,h3,h4⟩:=hq
 exact ⟨.inl ⟨.bool true,.bool true,[],rfl,λ _=>rfl,.bool true,DF l _,λ _=>⟨List.Pairwise.nil,λ _ hm=>(nomatch hm)⟩⟩,h2,h3,h4⟩
end Att
namespace L2
open PySem PySem.Spec PyProof.Rows Mth
variable {C T fI i1 i2:Addr} {E:XK} {H H':Hp} {ut:List Value} {eC np pF:Pos} {AZ xs:List V} {elt e₀ iter tg:Expr} {elts ifs:List Expr} {g:TG} {h':Heap} {nt t' x1:Nat} {o:HO} {oI:Obj} {pins:List (Addr×Obj)} {te:TE} {U:St}
inductive FT (K:W.Frag) (vs:List V) (H:Hp) (Q:VK) (_E:XK):Prop
 | mk (a:Addr) (ns:List Int) (_:vs=[.ref a]) (_:aT K H a (ns.map V.int)) (_:ns.length<=63) (_:(∀ z∈ns,Bd 1048576 z)) (_:∀ H',Q (.bl true) H')
theorem G3 {l:W.OpenLaw} {k:Nat} {q:Program} {loose:List Str} {XP:(Str->Option Value)->Heap->Prop} {YP:World->Heap->Prop} {d:DefRec} {K:Params->W.Frag} {x:Str} (hn:l.most=some 63) (Vd:d.params.defaults=[]) (hr:cA k callerA) (hY:∀ (w:World) (h:Heap),YP w h->(K w.params).In h) (F:∀ (w:World) (mg:Str->Option Value) (fa:Addr) (h:Heap),(K w.params).In h->h.Ns mainGlobals mg->mg d.name=some (.ref fa) ->
     ∃ fd:FuncData,(∀ (s:Shared) (u:Value),BindsTo s fd ⟨[u],[]⟩ [(x,u)]) /\
       ∀ base:Heap,(K w.params).In base->base.Ns mainGlobals mg->hZ l.prog w (K w.params) mg base tO k fa fd [x] (FT (K w.params))) :
   W.WalkO q loose XP YP l.row.toRowW d [] (λ f vs=>PySem.call f vs):=by
 refine Att.xj hn Vd λ w s₀ s₁ mg mb fa o pm cd doc a vs ns G Y ho hd qI OO Np hints hlen BU hg=>?_
 have KX:=hY w _ Y
 obtain ⟨fd,hb,hF⟩:=F w mg fa _ KX G.T.g OO
 exact EJ KX G.T.g G.T.b G.T.builtins G.T.nolimit hg Np hints (agB hlen (by decide)) hr hF hb (λ H hO hS=>⟨a,ns,rfl,hS,hlen,BU,λ _=>rfl⟩) λ H e s' z=>z
section
variable {X:Cx}
inductive SM  (x:V) (y:V) (H:Hp) (Q:VK):Prop
 | mk (i j:_) (_:x = .int i) (_:y = .int j) (_:∀ r:Int,r=i+j->Q (.int r) H)
inductive WF  (x:V) (y:V) (H:Hp) (Q:VK):Prop
 | mk (i j:_) (_:x = .int i) (_:y = .int j) (_:∀ r:Int,r=i - j->Q (.int r) H)
inductive Sh  (x:V) (y:V) (H:Hp) (Q:VK):Prop
 | mk (i j:_) (_:x = .int i) (_:y = .int j) (_:Lw i j) (_:∀ r:Int,r=i * j->Q (.int r) H)
inductive VI  (x:V) (y:V) (H:Hp) (Q:VK):Prop
 | mk (i j:_) (_:x = .int i) (_:y = .int j) (_:LO i j) (_:∀ r:Int,r=i.fdiv j->Q (.int r) H)
inductive QB  (x:V) (y:V) (H:Hp) (Q:VK):Prop
 | mk (i j:_) (_:x = .int i) (_:y = .int j) (_:Jn i j) (_:∀ r:Int,r=i ^ j.toNat->Q (.int r) H)
inductive X3  (x:V) (y:V) (H:Hp) (Q:VK):Prop
 | mk (i j:_) (_:x = .int i) (_:y = .int j) (_:Jn i j) (_:∀ r:Int,r=i * 2 ^ j.toNat->Q (.int r) H)
inductive R9  (x:V) (y:V) (H:Hp) (Q:VK):Prop
 | mk (i j:_) (_:x = .int i) (_:y = .int j) (_:0<=j) (_:∀ r:Int,r=i / 2 ^ j.toNat->Q (.int r) H)
inductive aaN  (x:V) (y:V) (H:Hp) (Q:VK):Prop
 | mk (i j:_) (_:x = .int i) (_:y = .int j) (_:∀ r:Int,r=Builtin.bitOr i j->Q (.int r) H)
inductive TX  (x:V) (y:V) (H:Hp) (Q:VK):Prop
 | mk (i j:_) (_:x = .int i) (_:y = .int j) (_:∀ r:Int,r=Builtin.bitAnd i j->Q (.int r) H)
inductive rLM  (x:V) (y:V) (H:Hp) (Q:VK):Prop
 | mk (i j:_) (_:x = .int i) (_:y = .int j) (_:0<j) (_:∀ r:Int,0<=r->r<j->r=i % j->Q (.int r) H)
theorem aJ:iY X (binaryOp .Add) SM:=λ pins s U H x y v u Q I rx ry ⟨i,j,e1,e2,q⟩=>Oo pins s U H x y v u Q I rx ry ⟨i,j,e1,e2,q _ rfl⟩
theorem dC:iY X (binaryOp .Sub) WF:=λ pins s U H x y v u Q I rx ry ⟨i,j,e1,e2,q⟩=>NM pins s U H x y v u Q I rx ry ⟨i,j,e1,e2,q _ rfl⟩
theorem aZ:iY X (binaryOp .Mult) Sh:=λ pins s U H x y v u Q I rx ry ⟨i,j,e1,e2,c,q⟩=>Jb pins s U H x y v u Q I rx ry ⟨i,j,e1,e2,c,q _ rfl⟩
theorem iG:iY X (binaryOp .FloorDiv) VI:=λ pins s U H x y v u Q I rx ry ⟨i,j,e1,e2,c,q⟩=>F9 pins s U H x y v u Q I rx ry ⟨i,j,e1,e2,c,q _ rfl⟩
theorem qO:iY X (binaryOp .Pow) QB:=λ pins s U H x y v u Q I rx ry ⟨i,j,e1,e2,c,q⟩=>Nq pins s U H x y v u Q I rx ry ⟨i,j,e1,e2,c,q _ rfl⟩
theorem Il:iY X (binaryOp .LShift) X3:=λ pins s U H x y v u Q I rx ry ⟨i,j,e1,e2,c,q⟩=>NA pins s U H x y v u Q I rx ry ⟨i,j,e1,e2,c,q _ rfl⟩
theorem vy:iY X (binaryOp .RShift) R9:=λ pins s U H x y v u Q I rx ry ⟨i,j,e1,e2,c,q⟩=>Nj pins s U H x y v u Q I rx ry ⟨i,j,e1,e2,c,q _ rfl⟩
theorem N6:iY X (binaryOp .BitOr) aaN:=λ pins s U H x y v u Q I rx ry ⟨i,j,e1,e2,q⟩=>VJ pins s U H x y v u Q I rx ry ⟨i,j,e1,e2,q _ rfl⟩
theorem gM:iY X (binaryOp .BitAnd) TX:=λ pins s U H x y v u Q I rx ry ⟨i,j,e1,e2,q⟩=>M7 pins s U H x y v u Q I rx ry ⟨i,j,e1,e2,q _ rfl⟩
theorem iu:iY X (binaryOp .Mod) rLM:=λ pins s U H x y v u Q I rx ry ⟨i,j,e1,e2,c,q⟩ =>
 ND pins s U H x y v u Q I rx ry ⟨i,j,e1,e2,c,q _ (ao3 _ (by lia)) (aoK _ c) rfl⟩
theorem oG:iN X (.builtin "abs") (λ xs H Q=>∃ i,xs=[.int i]/\∀ r:Int,r=i.natAbs->Q (.int r) H) :=
 λ pins s U H xs us Q I r ⟨i,e,q⟩=>F2 pins s U H xs us Q I r ⟨i,e,q _ (by split<;>lia)⟩
theorem bI:iN X (.builtin "len") (λ xs H Q=>∃ p ys,xs=[.ref p]/\(aT X.K H p ys∨bP X.K H p ys)/\∀ r:Int,r=ys.length->Q (.int r) H) :=
 λ pins s U H xs us Q I r ⟨p,ys,e,hq,q⟩=>xb pins s U H xs us Q I r ⟨p,ys,e,hq,q _ rfl⟩
def aiu (t:TS):TS:=λ D U H=>∃ P:St->Hp->Prop,t { D with nx:=P } U H/\∀ σ' H',P σ' H'->D.nx σ' H'
theorem lD {st:Stmt} {t:TS} (h:PS X st t):PS X st (aiu t):=by
 intro pins s U H D I hw
 obtain ⟨P,h1,h2⟩:=hw
 refine cG (h pins s U H { D with nx:=P } I h1) λ f s1 q=>?_
 cases f with
 | next =>
   obtain ⟨σ',H',I',q⟩:=q
   exact ⟨σ',H',I',h2 σ' H' q⟩
 | ret v=>exact q
 | brk=>exact q
 | cont=>exact q
end
theorem oK {c A B:Prop} [Decidable c] (hc:c) (h:A):if decide c=true then A else B:=by
 rw [aga hc];exact iW h
theorem mZ {c A B:Prop} [Decidable c] (hc:¬ c) (h:B):if decide c=true then A else B:=by
 rw [ad7 hc];exact gz h
theorem k9 {c A B:Prop} [Decidable c] (h1:c->A) (h2:¬ c->B):if decide c=true then A else B:=by
 by_cases h:c
 . exact oK h (h1 h)
 . exact mZ h (h2 h)
theorem wj {c A B:Prop} [Decidable c] (h1:¬ c->A) (h2:c->B):if (!decide c)=true then A else B:=by
 by_cases h:c
 . exact fz h (h2 h)
 . rw [ad7 h];exact iW (h1 h)
theorem Gv {c A B:Prop} [Decidable c] (hc:¬ c) (h:A):if (!decide c)=true then A else B:=by
 rw [ad7 hc];exact iW h
theorem blT {c:Prop} [Decidable c] (h:c) {Q:VK} (q:Q (.bl true) H):Q (.bl (decide c)) H:=by rw [aga h];exact q
theorem fu {a b:Int}:V.int a=V.int b↔a=b:=⟨λ e=>by cases e;rfl,λ e=>by rw [e]⟩
theorem ak {p:Addr} (h:H p=none):aA H (upd H p o):=λ b u e=>by rw [ax (av e h)];exact e
theorem aA.tup {K:W.Frag} {a:Addr} (e:aA H H') (h:bP K H a xs):bP K H' a xs:=by
 rcases h with (h|⟨o,h⟩)|h
 . exact .inl (.inl (e _ _ h))
 . exact .inl (.inr ⟨o,e _ _ h⟩)
 . exact .inr h
theorem oR {n:Nat} {x:Int} (h:x.natAbs<2 ^ n:=by decide):Bd n x:=h
theorem bdS {x:Int} (n:Nat) (lo : -(2 ^ 100)<x) (hi:x<2 ^ 100) (h:100<=n:=by decide):Bd n x:=by
 have:Bd 100 x:=by unfold Bd;lia
 exact this.mono h
theorem xc (K:W.Frag):W.kitOne K (.type "int") (.type "bool")=some false:=by
 show (if W.kitMeta "bool" = true then ((PySem.fastBuiltinMro "int").map (·.contains (Value.type "bool"))) else none)=some false
 decide +kernel
theorem zY {x y:V}:[x,y].length<=sizeLine:=by show 2<=sizeLine;decide
theorem OP {x y z:V}:[x,y,z].length<=sizeLine:=by show 3<=sizeLine;decide
inductive ME  (vs:List V) (H:Hp) (Q:VK) (_E:XK):Prop
 | mk (a b:Int) (_:vs=[.int a,.int b]) (_:∀ r:Int,r=((Int.gcd a b:Nat):Int)->Q (.int r) H)
inductive zK  (vs:List V) (H:Hp) (Q:VK) (_E:XK):Prop
 | mk (t b:Int) (_:vs=[.int t,.int b]) (_:b≠0) (_:Bd 4000 b) (_:∀ q r p H',Fr t b q r->aA H H'->H' p=some (.tup [.int q,.int r])->Q (.ref p) H')
inductive zh (f:Int->Int->Int->Int->Int) (K:W.Frag) (vs:List V) (H:Hp) (Q:VK) (_E:XK):Prop
 | mk (p1 p2 a b c d:_) (_:vs=[.ref p1,.ref p2]) (_:bP K H p1 [.int a,.int b]) (_:bP K H p2 [.int c,.int d]) (_:0<b) (_:0<d) (_:Bd 1000 a) (_:Bd 1000 b) (_:Bd 1000 c) (_:Bd 1000 d) (_:∀ q r p H',Fr (f a b c d) (b * d) q r->aA H H'->H' p=some (.tup [.int q,.int r])->Q (.ref p) H')
inductive Fs (K:W.Frag) (vs:List V) (H:Hp) (Q:VK) (_E:XK):Prop
 | mk (p1 p2 a b c d:_) (_:vs=[.ref p1,.ref p2]) (_:bP K H p1 [.int a,.int b]) (_:bP K H p2 [.int c,.int d]) (_:Bd 1000 a) (_:Bd 1000 b) (_:Bd 1000 c) (_:Bd 1000 d) (_:Q (.bl (decide (a * d<c * b))) H)
inductive Ap (K:W.Frag) (vs:List V) (H:Hp) (Q:VK) (_E:XK):Prop
 | mk (a:Addr) (ns:List Int) (k:Int) (_:vs=[.ref a,.int k]) (_:aT K H a (ns.map V.int)) (_:0<=k) (_:∀ z,(z∈ns∨z=0)->Q (.int z) H)
inductive G2  (vs:List V) (H:Hp) (Q:VK) (_E:XK):Prop
 | mk (t b:Int) (_:vs=[.int t,.int b]) (_:0<b) (_:Bd 4000 b) (_:∀ q r p H',Fr t b q r->aA H H'->H' p=some (.tup [.int q,.int r])->Q (.ref p) H')
def cw (X:Cx) (N':List Str) (scope:Scope) (cl:List (Str×Addr)) (C:Addr) (s:Shared) (H:Hp) (ex:List Addr):Cx :=
 { X with N:=N',env:=compEnvC scope cl C X.env,s₀:=s,H₀:=H,outer:=X.stack,ex:=ex,fn:=λ _=>false,pn:=[],xe:=λ _ _=>False }
def LD (X:Cx) (ifs:List Expr) (tt:TT):Prop :=
 ∀ (pins:List (Addr×Obj)) (s:Shared) (U:St) (H:Hp) (Q:Bool->Hp->Prop),Inv X pins U H s->tt U H Q ->
   wpAny (model X.prog X.w) X.A (forIn ifs true λ c r=>if r=true then do let ok ← isTrue c X.env (eval c X.env);pure (ForInStep.yield ok) else pure (ForInStep.yield r)) (TP X pins U Q) X.xe s
def al7:TT:=λ _ H Q=>Q true H
theorem eE {X:Cx}:LD X [] al7:=λ _ _ _ H _ I h=>wpAny_tests_nil ⟨H,I,h⟩
theorem lV {X:Cx} {c:Expr} {tt:TT} (hc:PT X c tt):LD X [c] tt:=λ pins s U H Q I h=>wpAny_tests_one (hc pins s U H Q I h)
def fZ (env:Env):List (Str×NameKind)->List (Str×Addr)->List (Str×Addr)
 | [],acc=>acc
 | y::r,acc=>fZ env r (if (y.2 == NameKind.free)=true then (y.1,(env.cells.lookup y.1).getD 0)::acc else acc)
theorem wP (env:Env):∀ (names:List (Str×NameKind)) (acc:List (Str×Addr)),(∀ y∈names,y.2 = .free->∃ c,env.cells.lookup y.1=some c) ->
   (forIn names acc λ x __s=>if (x.snd == NameKind.free)=true then do
       let __do_lift ← cellOf env x.fst
       pure (ForInStep.yield ((x.fst,__do_lift)::__s))
     else pure (ForInStep.yield __s))=(pure (fZ env names acc):Sem _)
 | [],acc,_=>rfl
 | y::r,acc,h=>by
   rw [List.forIn_cons]
   by_cases hk:(y.2 == NameKind.free)=true
   .
    obtain ⟨c,e⟩:=h y afg (beq_iff_eq.mp hk)
    rw [acS hk]
    have ec:cellOf env y.1=pure c:=by unfold cellOf;rw [e]
    rw [ec]
    simp only [pure_bind]
    rw [wP env r _ λ z hz=>h z (aeC _ hz)]
    simp only [fZ,hk,anS,e,Option.getD_some]
   . rw [acO hk]
     simp only [pure_bind]
     rw [wP env r _ λ z hz=>h z (aeC _ hz)]
     simp only [fZ,hk,an2]
     rfl
theorem KM {scope:Scope} {env:Env} (h:∀ y∈scope.names,y.2 = .free->∃ c,env.cells.lookup y.1=some c):closureFor scope env=pure (fZ env scope.names []):=by
 simp only [closureFor]
 rw [wP env scope.names [] h]
 simp only [pure_bind]
theorem uY {env:Env}:∀ {names:List (Str×NameKind)} {acc:List (Str×Addr)},(∀ y∈names,y.2 = .free->∃ c,env.cells.lookup y.1=some c)->(∀ x c,acc.lookup x=some c->env.cells.lookup x=some c) ->
   ∀ x c,(fZ env names acc).lookup x=some c->env.cells.lookup x=some c
 | [],_,_,ha,x,c,e=>ha x c e
 | y::r,acc,h,ha,x,c,e=>by
   refine uY (names:=r) (λ z hz=>h z (aeC _ hz)) ?_ x c e
   intro x c e
   by_cases hk:(y.2 == NameKind.free)=true
   .
    rw [acS hk] at e
    obtain ⟨c',e'⟩:=h y afg (beq_iff_eq.mp hk)
    rw [e',Option.getD_some,amN] at e
    cases q:x == y.1 with
    | true=>rw [q] at e;cases e;rw [beq_iff_eq.mp q];exact e'
    | false=>rw [q] at e;exact ha x c e
   . rw [acO hk] at e;exact ha x c e
theorem uF {env:Env}:∀ {names:List (Str×NameKind)} {acc:List (Str×Addr)} {x:Str},(∃ c,acc.lookup x=some c)->∃ c,(fZ env names acc).lookup x=some c
 | [],_,_,h=>h
 | y::r,acc,x,⟨c,h⟩=>by
   refine uF (names:=r) ?_
   by_cases hk:(y.2 == NameKind.free)=true
   . rw [acS hk,amN]
     cases q:x == y.1 with
     | true=>exact ⟨_,rfl⟩
     | false=>exact ⟨c,h⟩
   . rw [acO hk];exact ⟨c,h⟩
theorem oO {env:Env}:∀ {names:List (Str×NameKind)} {acc:List (Str×Addr)} {y:Str×NameKind},y∈names->y.2 = .free->∃ c,(fZ env names acc).lookup y.1=some c
 | z::r,acc,y,hm,hk=>by
   rcases List.mem_cons.mp hm with rfl|hm
   . refine uF (names:=r) ?_
     rw [acS (beq_iff_eq.mpr hk),amN]
     simp
   . exact oO (names:=r) hm hk
theorem rF {scope:Scope} {env:Env} {x:Str} {k:NameKind} (h:(relabel scope env).names.lookup x=some k) (hk:k = .cell∨k = .free) (ic:∀ y∈scope.names,y.2 ≠ .cell):(x,NameKind.free)∈scope.names:=by
 have hm:=amO h
 obtain ⟨⟨n,k0⟩,h1,h2⟩:=List.mem_map.mp hm
 dsimp only at h2
 split at h2
 .
  rename_i hc
  cases h2
  have:(k0 == NameKind.free)=true:=by
    simp only [aeX] at hc
    exact hc.1.1
  rw [beq_iff_eq.mp this] at h1
  exact h1
 .
  cases h2
  rcases hk with rfl|rfl
  . exact absurd rfl (ic _ h1)
  . exact h1
theorem h9 {env:Env}:∀ {names:List (Str×NameKind)} {x:Str},names.lookup x=some .free ->
   (names.map λ (n,k)=>if (k == NameKind.free && env.scope.kind == .function && env.kindOf n == some .cell) then (n,NameKind.cell) else (n,k)).lookup x=some .cell ∨
   (names.map λ (n,k)=>if (k == NameKind.free && env.scope.kind == .function && env.kindOf n == some .cell) then (n,NameKind.cell) else (n,k)).lookup x=some .free
 | [],_,h=>by simp at h
 | (n,k)::r,x,h=>by
   have ih:=@h9 env r x
   show List.lookup x ((if (k == NameKind.free && env.scope.kind == .function && env.kindOf n == some .cell)=true then (n,NameKind.cell) else (n,k))::_)=_∨List.lookup x ((if (k == NameKind.free && env.scope.kind == .function && env.kindOf n == some .cell)=true then (n,NameKind.cell) else (n,k))::_)=_
   cases hx:x == n with
   | true =>
     simp only [amN,hx] at h
     cases h
     by_cases hc:(NameKind.free == NameKind.free && env.scope.kind == .function && env.kindOf n == some .cell)=true
     . rw [acS hc];simp [amN,hx]
     . rw [acO hc];simp [amN,hx]
   | false =>
     simp only [amN,hx] at h
     by_cases hc:(k == NameKind.free && env.scope.kind == .function && env.kindOf n == some .cell)=true
     . rw [acS hc];simp only [amN,hx];exact ih h
     . rw [acO hc];simp only [amN,hx];exact ih h
section
variable {prog:Program} {w:World} {A:Around} {E:Value->Shared->Prop} {R:Result->Shared->Prop} {s:Shared}
theorem xG {target:Expr} {scope:Scope} {pos:Pos} {it acc:Value} {env:Env} (I:Nat->Shared->Prop) (turn:∀ n s,I n s->wpAny (model prog w) A (pyNext it) (λ r s₁=>match r with
     | none=>R (.ok .next) s₁
     | some v=>wpAny (model prog w) A (letOwnedTupleGo target it v) (λ _ s₁=>wpAny (model prog w) A (assign target env v) (λ _ s₂ =>
         wpAny (model prog w) A (forIn ifs true λ c r=>if r=true then do let ok ← isTrue c env (eval c env);pure (ForInStep.yield ok) else pure (ForInStep.yield r)) (λ ok s₃ =>
           if ok=true then wpAny (model prog w) A (eval elt env) (λ x s₄ =>
             wpAny (model prog w) A (call (.builtin "list.append") [acc,x]) (λ _ s₅=>∃ m,m<n/\I m s₅) (notedBy (model prog w) A env λ e s'=>R (.error e) s') s₄) (notedBy (model prog w) A env λ e s'=>R (.error e) s') s₃
           else ∃ m,m<n/\I m s₃) (notedBy (model prog w) A env λ e s'=>R (.error e) s') s₂) (notedBy (model prog w) A env λ e s'=>R (.error e) s') s₁) (notedBy (model prog w) A env λ e s'=>R (.error e) s') s₁) (notedBy (model prog w) A env λ e s'=>R (.error e) s') s) (n:Nat) (h:I n s) :
   codeAny (model prog w) A (.compLoop (.ListComp elt [⟨target,iter,ifs,0⟩] scope pos) 0 it acc env) R s:=by
 refine codeAny_loop rfl I (λ n s hI=>?_) n h
 show wpAny _ A ((compTurn (.ListComp elt [⟨target,iter,ifs,0⟩] scope pos) 0 it acc env).onRaise (λ x=>do noteFrame x env;theTreesLotGoes x)) _ _ s
 refine wpAny_noted ?_
 rw [compTurn_list]
 refine Wi (aoa (Wi (ahF (turn n s hI) (λ r s₁ h₁=>?_) λ _ _ h'=>h')))
 cases r with
 | none=>exact adt h₁
 | some v =>
   refine Wi (ahF h₁ (λ _ s₁' h₁'=>?_) λ _ _ h'=>h')
   refine Wi (ahF h₁' (λ _ s₂ h₂=>Wi (ahF h₂ (λ ok s₃ h₃=>?_) λ _ _ h'=>h')) λ _ _ h'=>h')
   cases ok with
   | false=>exact adt ⟨rfl,h₃⟩
   | true =>
     exact Wi (Wi (ahF h₃ (λ x s₄ h₄=>Wi (ahF h₄ (λ _ s₅ h₅=>adt (adt ⟨rfl,h₅⟩)) λ _ _ h'=>h')) λ _ _ h'=>h'))
end
section
variable {X:Cx}
def zQ (wi:TI) (g:TG) (tt:TT) (te:TE) (nt:Nat) (sl:List Nat):TE:=λ U H Q=>wi U H λ J H1=>∀ D,H1 D=none ->
 ∃ W:Nat->Nat->List V->St->Hp->Prop,(∃ m,W 0 m [] (List.replicate nt none++sl.map λ j=>(U[j]?).join) (upd H1 D (.lst []))) /\
   ∀ i m acc σ' H',W i m acc σ' H' ->
     (J.stop i H'/\Q (.ref D) H') ∨
     (J.go i H'/\∃ N:List V->St->Hp->Prop,(∀ iZ σ2 H4,N iZ σ2 H4->∃ m',m'<m/\W (i+1) m' iZ σ2 H4)/\∀ x H2,J.Gn i H' x H2->g x σ' H2 λ σ2 H3=>tt σ2 H3 λ b H4 =>
       if b=true then te σ2 H4 λ y H5=>H5 D=some (.lst acc)/\acc.length<sizeLine/\N (acc++[y]) σ2 (upd H5 D (.lst (acc++[y])))
       else N acc σ2 H4)
theorem uN {scope:Scope} {pos:Pos} {wi:TI} {tt:TT} {N':List Str} {sl:List Nat} (hc:X.calm=true) (hi:PI X tg iter wi) (hg:∀ cl C s H ex,PG (cw X N' scope cl C s H ex) tg g) (ht:∀ cl C s H ex,LD (cw X N' scope cl C s H ex) ifs tt) (he:∀ cl C s H ex,PE (cw X N' scope cl C s H ex) elt te) (VF:N'.length=nt+sl.length) (Nu:∀ k j:Nat,sl[k]?=some j->∃ x,N'[nt+k]?=some x/\X.N[j]?=some x/\scope.names.lookup x=some .free) (hk:scope.kind = .function) (ic:∀ y∈scope.names,y.2 ≠ .cell) (jQ:∀ y∈scope.names,y.2 = .local->scope.names.lookup y.1=some .local) (jK:∀ y∈scope.names,y.2 = .free->X.env.kindOf y.1=some .cell∨X.env.kindOf y.1=some .free) (hs:∀ x,foldedSetIterable iter X.env x=pure x) {use:Option (Value->Sem Unit)} {Qp:Value->Shared->Prop} {s:Shared} {Q:V->Hp->Prop} {pos':Pos} (I:Inv X pins U H s) (h:zQ wi g tt te nt sl U H Q) (fin:∀ (s6:Shared) (H5:Hp) (d c:Addr) m,Inv X pins U H5 s6->tT X pins H5 c->s6.heap.Ns c m->Q (.ref d) H5->compPost (model X.prog X.w) X.A X.xe use Qp (.ref d) c (.ok .next) s6) :
   wpAny (model X.prog X.w) X.A (comprehension (.ListComp elt [⟨tg,iter,ifs,0⟩] scope pos) scope X.env pos' (newList []) false (eval iter X.env) use) Qp X.xe s:=by
 have Qc:∀ y∈scope.names,y.2 = .free->∃ c,X.env.cells.lookup y.1=some c:=λ y hy hf=>I.ok.has y.1 (jK y hy hf)
 have yL:=uY (env:=X.env) (names:=scope.names) (acc:=[]) Qc (λ x c e=>by simp at e)
 refine wpAny_comprehension_free (use:=use) (cl:=fZ X.env scope.names []) rfl hs (KM Qc) hk jQ (cG (hi pins s U H _ I h) λ v s1 h1=>cG h1 λ itv s2 h2=>?_)
 obtain ⟨it,fp,tn,J,H2,rfl,I2,T,YR,f2,q⟩:=h2
 have nD:H2 s2.heap.objs.size=none:=I2.cg.fresh (aat _)
 obtain ⟨W,⟨m0,w0⟩,turn⟩:=q s2.heap.objs.size nD
 refine ao7 ?_ (by show 0<=sizeLine;exact aiv _)
 have I3:Inv X pins U (upd H2 s2.heap.objs.size (.lst [])) { s2 with heap:=s2.heap.push { cls:=.type "list",data:=.seq ([]:List Value).toArray }} :=
   I2.laid (t':=s2.toks) (λ b u e=>aas _ e) (aat _) ⟨aiv _,[],0,.nil,afq _ rfl⟩
 generalize Yp:({ s2 with heap:=s2.heap.push { cls:=.type "list",data:=.seq ([]:List Value).toArray }}:Shared)=s3 at I3 ⊢
 have hle:s2.heap.objs.size<=s3.heap.objs.size:=by rw [← Yp];show _<=(Heap.push _ _).objs.size;rw [aoP];exact anC _
 have JB:∀ b o,s2.heap.get? b=some o->s3.heap.get? b=some o:=λ b o e=>by rw [← Yp];exact aas _ e
 refine wpAny_newFunctionEnv ic (by intro y hy;simp at hy) (λ h₁ GG hsb=>?_) hk
 have zm:∀ b o,s3.heap.get? b=some o->h₁.get? b=some o:=λ b o e=>hsb.extBut b o (ae6 (ado e)) (aas _ e)
 have nC:(upd H2 s2.heap.objs.size (.lst [])) s3.heap.objs.size=none:=I3.cg.fresh (aat _)
 have frC:s3.heap.get? s3.heap.objs.size=none:=an8 (aat _)
 have Uz:∀ b∈fp,b<s2.heap.objs.size:=λ b hb=>by
   obtain ⟨o,e,_⟩:=T.obj _ _ YR b hb
   exact ado e
 have fpC:∀ b∈fp,b≠s3.heap.objs.size:=λ b hb=>ae6 (aec (Uz b hb) hle)
 have fpD:∀ b∈fp,b≠s2.heap.objs.size:=λ b hb=>ae6 (Uz b hb)
 have fpS:∀ b∈fp,b∉iS X.stack:=λ b hb hm=>by
   rcases List.mem_cons.mp (I2.Bg b hm) with z|z
   . exact (f2 b hb).2.1 z
   . exact (f2 b hb).2.2.1 z
 have aof:∀ x c,(fZ X.env scope.names []).lookup x=some c->X.env.cells.lookup x=some c:=yL
 have wY:∀ b∈fp,(b∈X.ex∨X.s₀.heap.objs.size<=b)/\b≠X.env.locals/\(∀ x c,X.env.cells.lookup x=some c->c≠b)/\∀ p∈X.pn++pins,p.1≠b:=λ b hb =>
   ⟨(f2 b hb).2.2.2.1,(f2 b hb).2.1,(f2 b hb).2.2.2.2.1,(f2 b hb).2.2.2.2.2⟩
 have mn:(cw X N' scope (fZ X.env scope.names []) s3.heap.objs.size s3 (upd H2 s2.heap.objs.size (.lst [])) fp).Ok:=by
   refine ⟨I3.ok.mod,hk,I3.ok.glob,I3.ok.blt,aat _,λ x y c h1 h2=>I3.ok.inj x y c (yL x c h1) (yL y c h2),λ x hx=>?_,(λ x c hf=>nomatch hf),I3.ok.hd,I3.ok.frames,.inl rfl,λ b hb=>⟨fpC b hb,λ x c e=>(wY b hb).2.2.1 x c (yL x c e)⟩,
     I3.bs,agB I3.ok.LW I3.sz,λ b o e hb=>?_,fpS,I3.stack,I3.mT⟩
   . have hm:(x,NameKind.free)∈scope.names:=by
       rcases hx with hx|hx
       . exact rF hx (.inl rfl) ic
       . exact rF hx (.inr rfl) ic
     exact oO hm rfl
   . rcases (wY b hb).1 with z|z
     . exact I3.ok.GZ b o e z
     . exact absurd (aec (ado (I3.ok.bs b o e).1) z) (ajM _)
 have I4:Inv (cw X N' scope (fZ X.env scope.names []) s3.heap.objs.size s3 (upd H2 s2.heap.objs.size (.lst [])) fp) [] (List.replicate nt none++sl.map λ j=>(U[j]?).join) (upd H2 s2.heap.objs.size (.lst []))
     { s3 with heap:=h₁,toks:=s3.toks+([]:List (Str×Value)).length }:=by
   refine ⟨mn,rfl,I3.bare,Un.kept zm,⟨_,GG,λ i x v e1 e2 e3=>?_⟩,λ x c e=>?_,nC,λ x c e=>I3.mj x c (yL x c e),λ p hp=>absurd hp (by simp [cw]),I3.cg.kept zm,?_⟩
   .
    by_cases hi:i<nt
    . rw [aft (by simpa using hi),aoi] at e2
      split at e2<;>cases e2
    .
     rw [agM (by simpa using hi),ans,T1] at e2
     cases ej:sl[i - nt]? with
     | none=>rw [ej] at e2;cases e2
     | some j =>
       rw [ej] at e2
       have Mb:(U[j]?).join=some v:=ac2 e2
       have eσ:U[j]?=some (some v):=by
         cases q:U[j]? with
         | none=>rw [q] at Mb;cases Mb
         | some o=>rw [q] at Mb;cases Mb;rfl
       obtain ⟨y,n1,n2,n3⟩:=Nu _ j ej
       have:nt+(i - nt)=i:=by lia
       rw [this] at n1
       have ZM:y=x:=ac2 (n1.symm.trans e1)
       subst ZM
       have hm:(y,NameKind.free)∈scope.names:=amO n3
       have hkx:=jK _ hm rfl
       obtain ⟨m,hn,hl⟩:=I3.loc
       have vis:YD X.env.scope y:=by
         rcases hkx with z|z
         . exact .inr (.inl z)
         . exact .inr (.inr z)
       obtain ⟨u,r,l⟩:=hl j y v n2 eσ vis
       refine ⟨u,r,.inr ⟨h9 n3,?_⟩⟩
       obtain ⟨c,ec⟩:=oO (env:=X.env) (acc:=[]) hm rfl
       refine ⟨c,ec,?_⟩
       rcases l with ⟨k1,_⟩|⟨_,c',e',MB⟩
       . rcases hkx with z|z
         . rw [show X.env.kindOf y=some .local from k1] at z;cases z
         . rw [show X.env.kindOf y=some .local from k1] at z;cases z
       . have ecc:c=c':=ac2 ((yL y c ec).symm.trans e')
         subst ecc
         obtain ⟨o,ho,hd⟩:=MB
         exact ⟨o,zm c o ho,hd⟩
   . obtain ⟨v,o,ho,hd⟩:=I3.cell x c (yL x c e)
     exact ⟨v,o,zm c o ho,hd⟩
   . show _=N'.length
     rw [VF,abi,ans,AM]
 have st4:tn 0 h₁:=T.keep _ _ _ YR λ b hb o e=>zm b o (JB b o e)
 have Mp:∀ {pl:List (Addr×Obj)} {H':Hp},pl=[]->(∀ b∈fp,H' b=none)->∀ b∈fp,tT (cw X N' scope (fZ X.env scope.names []) s3.heap.objs.size s3 (upd H2 s2.heap.objs.size (.lst [])) fp) pl H' b:=λ {pl H'} jG hn b hb=>by
   subst jG
   exact ⟨hn b hb,fpC b hb,fpS b hb,.inl hb,λ x c e=>(wY b hb).2.2.1 x c (yL x c e),λ p hp=>absurd hp (by simp [cw])⟩
 have fr4:∀ b∈fp,(upd H2 s2.heap.objs.size (.lst [])) b=none:=λ b hb=>by rw [ax (fpD b hb)];exact (f2 b hb).1
 have loop:codeAny (model X.prog X.w) X.A (.compLoop (.ListComp elt [⟨tg,iter,ifs,0⟩] scope pos) 0 (.ref it) (.ref s2.heap.objs.size) (compEnvC scope (fZ X.env scope.names []) s3.heap.objs.size X.env))
     (compPost (model X.prog X.w) X.A X.xe use Qp (.ref s2.heap.objs.size) s3.heap.objs.size) { s3 with heap:=h₁,toks:=s3.toks+([]:List (Str×Value)).length }:=by
   refine xG (λ n s'=>∃ i acc σ' H',Inv (cw X N' scope (fZ X.env scope.names []) s3.heap.objs.size s3 (upd H2 s2.heap.objs.size (.lst [])) fp) [] σ' H' s'/\tn i s'.heap/\(∀ b∈fp,H' b=none)/\W i n acc σ' H') ?_ m0 ⟨0,[],_,_,I4,st4,fr4,w0⟩
   rintro n s5 ⟨i,acc,σ5,H5,I5,ON,YM,w5⟩
   rcases turn i n acc σ5 H5 w5 with ⟨stop,qn⟩|⟨go,N,hN,step⟩
   . refine cG (T.done (cw X N' scope (fZ X.env scope.names []) s3.heap.objs.size s3 (upd H2 s2.heap.objs.size (.lst [])) fp) rfl rfl rfl hc i [] s5 σ5 H5 _ I5 (Mp rfl YM) ON stop) λ r s6 ⟨hr,I6⟩=>?_
     subst hr
     obtain ⟨m,hn,_⟩:=id I6.loc
     exact fin s6 H5 _ _ m (I3.O7 (s':=s6) I6.os I6.base I6.cg I6.bare wY) (I3.yo (aat _) I6.free) hn qn
   .
    refine cG (T.item (cw X N' scope (fZ X.env scope.names []) s3.heap.objs.size s3 (upd H2 s2.heap.objs.size (.lst [])) fp) rfl rfl rfl hc i [] s5 σ5 H5 _ I5 (Mp rfl YM) ON go) λ r s6 ⟨u,hr,h6⟩=>?_
    subst hr
    refine cG h6 λ _ s7 ⟨x,H7,I7,r7,y7,st7,fr7⟩=>?_
    have I7':=I7.pinned (Mp rfl fr7) (T.obj _ _ st7)
    have again:∀ {s8:Shared} {σ8:St} {H8:Hp} {iZ:List V},Inv (cw X N' scope (fZ X.env scope.names []) s3.heap.objs.size s3 (upd H2 s2.heap.objs.size (.lst [])) fp) ([]++sd fp s7.heap) σ8 H8 s8->(∃ m',m'<n/\W (i+1) m' iZ σ8 H8) ->
        ∃ m,m<n/\∃ i acc σ' H',Inv (cw X N' scope (fZ X.env scope.names []) s3.heap.objs.size s3 (upd H2 s2.heap.objs.size (.lst [])) fp) [] σ' H' s8/\tn i s8.heap/\(∀ b∈fp,H' b=none)/\W i m acc σ' H':=λ {s8 σ8 H8 iZ} I8 ⟨m',hm,w8⟩=>by
      refine ⟨m',hm,i+1,iZ,σ8,H8,I8.ng,T.keep _ _ _ st7 λ b hb o e=>(I8.pin (b,o) (ah0 _ (ah0 _ (kM hb e)))).1,λ b hb=>?_,w8⟩
      obtain ⟨o,e,d⟩:=T.obj _ _ st7 b hb
      exact (I8.pin (b,o) (ah0 _ (ah0 _ (kM hb e)))).2.1
    refine ahF (hg _ _ _ _ _ _ s7 σ5 H7 x u _ I7' r7 (step x H7 y7)) (λ _ s8 ⟨σ8,H8,I8,q8⟩=>?_) λ _ _ z=>False.elim z
    refine ahF (ht _ _ _ _ _ _ s8 σ8 H8 _ I8 q8) (λ ok s9 ⟨H9,I9,q9⟩=>?_) λ _ _ z=>False.elim z
    cases ok with
    | false =>
      rw [acO abZ] at q9 ⊢
      exact again I9 (hN _ _ _ q9)
    | true =>
      rw [acS rfl] at q9 ⊢
      refine ahF (he _ _ _ _ _ _ s9 σ8 H9 _ I9 q9) (λ y Oz ⟨yv,SB,I10,r10,hD,hz,q10⟩=>?_) λ _ _ z=>False.elim z
      refine ahF (cN (X:=(cw X N' scope (fZ X.env scope.names []) s3.heap.objs.size s3 (upd H2 s2.heap.objs.size (.lst [])) fp)) _ Oz σ8 SB (.ref s2.heap.objs.size) [yv] (.ref s2.heap.objs.size) [y] (λ _ H11=>N (acc++[yv]) σ8 H11) I10 rfl (.cons r10 .nil) ⟨_,acc,yv,rfl,rfl,hD,hz,q10⟩) (λ _ s11 ⟨v11,H11,I11,r11,q11⟩=>?_) λ _ _ z=>False.elim z
      exact again I11 (hN _ _ _ q11)
 exact codeAny_compStart_list loop (T.self _ 0 _ _ _ st4 loop)
theorem Kk {scope:Scope} {pos:Pos} {wi:TI} {tt:TT} {N':List Str} {sl:List Nat} (hc:X.calm=true) (hi:PI X tg iter wi) (hg:∀ cl C s H ex,PG (cw X N' scope cl C s H ex) tg g) (ht:∀ cl C s H ex,LD (cw X N' scope cl C s H ex) ifs tt) (he:∀ cl C s H ex,PE (cw X N' scope cl C s H ex) elt te) (VF:N'.length=nt+sl.length) (Nu:∀ k j:Nat,sl[k]?=some j->∃ x,N'[nt+k]?=some x/\X.N[j]?=some x/\scope.names.lookup x=some .free) (hk:scope.kind = .function) (ic:∀ y∈scope.names,y.2 ≠ .cell) (jQ:∀ y∈scope.names,y.2 = .local->scope.names.lookup y.1=some .local) (jK:∀ y∈scope.names,y.2 = .free->X.env.kindOf y.1=some .cell∨X.env.kindOf y.1=some .free) (hs:∀ x,foldedSetIterable iter X.env x=pure x:=by intro _;rfl) :
   PE X (.ListComp elt [⟨tg,iter,ifs,0⟩] scope pos) (zQ wi g tt te nt sl):=by
 intro pins s U H Q I h
 rw [eval_ListComp]
 exact uN hc hi hg ht he VF Nu hk ic jQ jK hs I h λ s6 H5 d c m J F hn q=>⟨m,hn,λ h' sb=>⟨.ref d,H5,J.turned (t':=s6.toks) (λ b _ hb q=>(sb.2 b hb).trans q) F.1 F.2.1 F.2.2.2.1 F.2.2.2.2.1 F.2.2.2.2.2,rfl,q⟩⟩
theorem jE {scope:Scope} {pos:Pos} {wi:TI} {tt:TT} (tn fr:List Str) (sl:List Nat) (hp:Paired (λ (j:Nat) (x:Str)=>X.N[j]?=some x/\scope.names.lookup x=some .free/\(X.env.kindOf x=some .cell∨X.env.kindOf x=some .free)) sl fr) (hc:X.calm=true) (hi:PI X tg iter wi) (hg:∀ cl C s H ex,PG (cw X (tn++fr) scope cl C s H ex) tg g) (ht:∀ cl C s H ex,LD (cw X (tn++fr) scope cl C s H ex) ifs tt) (he:∀ cl C s H ex,PE (cw X (tn++fr) scope cl C s H ex) elt te) (hk:scope.kind = .function) (ic:∀ y∈scope.names,y.2 ≠ .cell) (jQ:∀ y∈scope.names,y.2 = .local->scope.names.lookup y.1=some .local) (jK:∀ y∈scope.names,y.2 = .free->y.1∈fr) (hs:∀ x,foldedSetIterable iter X.env x=pure x:=by intro _;rfl) :
   PE X (.ListComp elt [⟨tg,iter,ifs,0⟩] scope pos) (zQ wi g tt te tn.length sl):=by
 have key:∀ {sl:List Nat} {fr:List Str},Paired (λ (j:Nat) (x:Str)=>X.N[j]?=some x/\scope.names.lookup x=some .free/\(X.env.kindOf x=some .cell∨X.env.kindOf x=some .free)) sl fr ->
     (∀ k j:Nat,sl[k]?=some j->∃ x,fr[k]?=some x/\X.N[j]?=some x/\scope.names.lookup x=some .free)/\∀ x∈fr,X.env.kindOf x=some .cell∨X.env.kindOf x=some .free:=by
   intro sl fr hp
   induction hp with
   | nil=>exact ⟨λ k j h=>by simp at h,λ x hx=>by simp at hx⟩
   | cons r t ih =>
     refine ⟨λ k j h=>?_,λ x hx=>?_⟩
     . cases k with
       | zero =>
         have e:_=j:=ac2 h
         subst e
         exact ⟨_,rfl,r.1,r.2.1⟩
       | succ k=>exact ih.1 k j (by simpa using h)
     . rcases List.mem_cons.mp hx with z|z
       . rw [z];exact r.2.2
       . exact ih.2 x z
 refine Kk (N':=tn++fr) hc hi hg ht he (by rw [abi,hp.length]) (λ k j h=>?_) hk ic jQ (λ y hy hf=>(key hp).2 _ (jK y hy hf)) hs
 obtain ⟨x,e1,e2⟩:=(key hp).1 k j h
 exact ⟨x,by rw [agM (anJ _ _),apk];exact e1,e2⟩
end
theorem fe {lo:Int} {n:Nat} {tt:TT} {D:Addr} {Q:Hp->Prop} (Pv:Nat->List V->St->Hp->Prop) (h0:Pv 0 [] U H) (hs:∀ i acc U H,i<n->Pv i acc U H->g (.int (lo+i)) U H λ σ2 H3=>tt σ2 H3 λ b H4 =>
     if b=true then te σ2 H4 λ y H5=>H5 D=some (.lst acc)/\acc.length<sizeLine/\Pv (i+1) (acc++[y]) σ2 (upd H5 D (.lst (acc++[y]))) else Pv (i+1) acc σ2 H4) (hd:∀ acc U H,Pv n acc U H->Q H) :
   ∃ W:Nat->Nat->List V->St->Hp->Prop,(∃ m,W 0 m [] U H)/\∀ i m acc σ' H',W i m acc σ' H'->((EA lo n).stop i H'/\Q H') ∨
     ((EA lo n).go i H'/\∃ N:List V->St->Hp->Prop,(∀ iZ σ2 H4,N iZ σ2 H4->∃ m',m'<m/\W (i+1) m' iZ σ2 H4)/\∀ x H2,(EA lo n).Gn i H' x H2->g x σ' H2 λ σ2 H3=>tt σ2 H3 λ b H4 =>
       if b=true then te σ2 H4 λ y H5=>H5 D=some (.lst acc)/\acc.length<sizeLine/\N (acc++[y]) σ2 (upd H5 D (.lst (acc++[y]))) else N acc σ2 H4):=by
 refine ⟨λ i m acc U H=>m=n - i/\i<=n/\Pv i acc U H,⟨n,by simp,aiv _,h0⟩,?_⟩
 rintro i m acc U H ⟨rfl,hi,p⟩
 by_cases mH:i<n
 .
  refine .inr ⟨mH,Pv (i+1),λ iZ σ' H' p'=>⟨n - (i+1),by lia,rfl,mH,p'⟩,λ x H' y=>?_⟩
  obtain ⟨e,y⟩:=y
  subst e y
  exact hs i acc U _ mH p
 . have e:i=n:=by lia
   subst e
   exact .inl ⟨aat _,hd acc U H p⟩
theorem gL {K:W.Frag} {a:Addr} {tt:TT} {D:Addr} {Q:Hp->Prop} (Pv:Nat->List V->St->Hp->Prop) (h0:Pv 0 [] U H) (hl:∀ i acc U H,i<=xs.length->Pv i acc U H->aT K H a xs) (hs:∀ i x acc U H,xs[i]?=some x->Pv i acc U H->g x U H λ σ2 H3=>tt σ2 H3 λ b H4 =>
     if b=true then te σ2 H4 λ y H5=>H5 D=some (.lst acc)/\acc.length<sizeLine/\Pv (i+1) (acc++[y]) σ2 (upd H5 D (.lst (acc++[y]))) else Pv (i+1) acc σ2 H4) (hd:∀ acc U H,Pv xs.length acc U H->Q H) :
   ∃ W:Nat->Nat->List V->St->Hp->Prop,(∃ m,W 0 m [] U H)/\∀ i m acc σ' H',W i m acc σ' H'->((FM K a).stop i H'/\Q H') ∨
     ((FM K a).go i H'/\∃ N:List V->St->Hp->Prop,(∀ iZ σ2 H4,N iZ σ2 H4->∃ m',m'<m/\W (i+1) m' iZ σ2 H4)/\∀ x H2,(FM K a).Gn i H' x H2->g x σ' H2 λ σ2 H3=>tt σ2 H3 λ b H4 =>
       if b=true then te σ2 H4 λ y H5=>H5 D=some (.lst acc)/\acc.length<sizeLine/\N (acc++[y]) σ2 (upd H5 D (.lst (acc++[y]))) else N acc σ2 H4):=by
 refine ⟨λ i m acc U H=>m=xs.length - i/\i<=xs.length/\Pv i acc U H,⟨xs.length,by simp,aiv _,h0⟩,?_⟩
 rintro i m acc U H ⟨rfl,hi,p⟩
 have q:=hl i acc U H hi p
 by_cases mH:i<xs.length
 .
  refine .inr ⟨⟨xs,xs[i],q,by simp [mH]⟩,Pv (i+1),λ iZ σ' H' p'=>⟨xs.length - (i+1),by lia,rfl,mH,p'⟩,λ x H' y=>?_⟩
  obtain ⟨e,y⟩:=y
  subst e
  exact hs i x acc U _ (y xs q) p
 . have e:i=xs.length:=by lia
   subst e
   exact .inl ⟨⟨xs,q,aat _⟩,hd acc U H p⟩
section
variable {X:Cx}
inductive Iu  (x:V) (vs:List V) (H:Hp) (Q:VK):Prop
 | mk (i:Int) (_:x = .int i) (_:vs=[]) (_:∀ b:Int,b=((Builtin.Int.intBits i:Nat):Int)->Q (.int b) H)
theorem DN:MtR X "int.bit_length" Iu:=by
 intro pins s U H x vs v us Q I rx rv h
 obtain ⟨i,rfl,rfl,q⟩:=h
 obtain ⟨t,rfl⟩:=rx
 obtain rfl:=Vals.zero rv
 exact call_int_bit_length ⟨.int _,H,I.tok _,⟨_,rfl⟩,q _ rfl⟩
theorem DU (a b:Nat):Builtin.bitOr (a:Int) (b:Int)=((a ||| b:Nat):Int):=by
 have d1:decide (0<=Builtin.bitNot (a:Int))=false:=ad7 (by unfold Builtin.bitNot;lia)
 have d2:decide (0<=Builtin.bitNot (b:Int))=false:=ad7 (by unfold Builtin.bitNot;lia)
 have n1:(Builtin.bitNot (Builtin.bitNot (a:Int))).toNat=a:=by unfold Builtin.bitNot;lia
 have n2:(Builtin.bitNot (Builtin.bitNot (b:Int))).toNat=b:=by unfold Builtin.bitNot;lia
 unfold Builtin.bitOr Builtin.bitAnd
 rw [d1,d2]
 dsimp only
 rw [n1,n2]
 unfold Builtin.bitNot
 lia
theorem iV (a b:Nat):Builtin.bitAnd (a:Int) (b:Int)=((a &&& b:Nat):Int):=by simp [Builtin.bitAnd]
end
def ap (k:Nat):V:=.int (k:Int)
inductive zT  (vs:List V) (H:Hp) (Q:VK) (_E:XK):Prop
 | mk (n r:Nat) (_:vs=[ap n,ap r]) (_:Q (.bl (n.testBit r)) H)
inductive xh  (vs:List V) (H:Hp) (Q:VK) (_E:XK):Prop
 | mk (n r:Nat) (_:vs=[ap n,ap r]) (_:r<=1000) (_:Q (ap (n ||| 2 ^ r)) H)
inductive BB  (vs:List V) (H:Hp) (Q:VK) (_E:XK):Prop
 | mk (n:Nat) (_:vs=[ap n]) (_:n<2 ^ 61) (_:∀ p H',H p=none->aA H H'->H' p=some (.lst ((Bit.rooms n).map ap))->Q (.ref p) H')
inductive AW  (vs:List V) (H:Hp) (Q:VK) (_E:XK):Prop
 | mk (n:Nat) (_:vs=[ap n]) (_:n<2 ^ 61) (_:(Bit.rooms n).length<=8) (_:∀ p H',H p=none->aA H H'->H' p=some (.lst ((Bit.parts (Bit.rooms n)).map ap))->Q (.ref p) H')
theorem vf (n:Nat):(Bit.rooms n).length<=61:=by
 have:=ajp n.testBit (List.range 61)
 rw [adw] at this
 exact this
theorem Cp (n r:Nat) {s m:Int} (es:s=(n:Int) / 2 ^ ((r:Int)).toNat) (em:m=s % 2):decide (V.int m=V.int 1)=n.testBit r:=by
 rw [Nat.testBit_eq_decide_div_mod_eq]
 have e1:s=((n / 2 ^ r:Nat):Int):=by
   rw [es,akM]
   have:((2:Int) ^ r)=((2 ^ r:Nat):Int):=by rw [Int.natCast_pow];rfl
   rw [this,← Int.natCast_ediv]
 have e2:m=((n / 2 ^ r % 2:Nat):Int):=by rw [em,e1];exact (Int.natCast_emod _ _).symm
 have e3:(V.int m=V.int 1)↔(n / 2 ^ r % 2=1):=by rw [fu,e2];lia
 exact decide_eq_decide.mpr e3
theorem AY (l:List Nat) (r:Nat):Bit.parts (l++[r])=Bit.parts l++(Bit.parts l).map (· ||| 2 ^ r):=by
 unfold Bit.parts;rw [akL];rfl
theorem Kl (n i:Nat):Bit.Ok (Bit.parts ((Bit.rooms n).take i)) ((Bit.rooms n).take i):=by
 have:=Bit.vK ((Bit.rooms n).take i) [] [0] Bit.GD (by rw [aov];exact (Bit.kc n).sublist (List.take_sublist _ _))
 rw [aov] at this
 exact this
theorem cY {α:Type} {l:List α} {i:Nat} {x:α} (h:l[i]?=some x):l.take (i+1)=l.take i++[x]:=by
 rw [List.take_add_one,h];rfl
theorem dF {l:List Nat} {i:Nat} {x:V} (h:(l.map ap)[i]?=some x):∃ k,l[i]?=some k/\x=ap k:=by
 rw [T1] at h
 cases e:l[i]? with
 | none=>rw [e] at h;cases h
 | some k=>rw [e] at h;exact ⟨k,rfl,(ac2 h).symm⟩
def BR (f:Obj->Obj):Prop:=∀ o,(f o).dict=o.dict/\(o.isFreed=false->(f o).isFreed=false)
def dG {α:Type}:Sem α->Prop
 | .pure _=>True
 | .raise _=>True
 | .unsupported _=>True
 | .finish _=>True
 | .rule _ k=>dG (k ())
 | .at _ k=>dG (k ())
 | .load _ _ k=>∀ o,dG (k o)
 | .update _ _ f k=>BR f/\dG (k ())
 | .alloc _ k=>∀ a,dG (k a)
 | .loadIfAlive _ k=>∀ o,dG (k o)
 | .point _ k=>dG (k ())
 | .register _ _=>True
 | .fresh k=>∀ t,dG (k t)
 | .ask k=>∀ t,dG (k t)
 | .choose _ _ k=>∀ n,dG (k n)
 | .os _ _ k=>∀ r,dG (k r)
 | .call ..=>False
 | .handled _ k=>∀ o,dG (k o)
 | .newGen _ k=>∀ n,dG (k n)
 | .genState _ k=>∀ x,dG (k x)
 | .resume ..=>False
 | .yield ..=>True
 | .stack k=>∀ x,dG (k x)
 | .fork ..=>True
 | .thread k=>∀ n,dG (k n)
 | .await ..=>True
def cB (h h':Heap):Prop:=∀ b o,h.get? b=some o->∃ o',h'.get? b=some o'/\o'.dict=o.dict
theorem cB.refl (h:Heap):cB h h:=λ _ o e=>⟨o,e,rfl⟩
theorem cB.trans {h1 h2 h3:Heap} (x:cB h1 h2) (y:cB h2 h3):cB h1 h3:=λ b o e =>
 let ⟨o1,e1,d1⟩:=x b o e;let ⟨o2,e2,d2⟩:=y b o1 e1;⟨o2,e2,d2.trans d1⟩
theorem cB.update {h:Heap} {a:Addr} {f:Obj->Obj} (m:BR f):cB h (h.update a f):=λ b o e=>by
 by_cases z:a=b
 . subst z
   have nf:o.isFreed=false:=(Heap.get?_some_iff.mp e).2
   exact ⟨f o,anI f e ((m o).2 nf),(m o).1⟩
 . exact ⟨o,(anE h f z).trans e,rfl⟩
theorem cB.push {h:Heap} {o:Obj}:cB h (h.push o):=λ b ob e=>⟨ob,aas _ e,rfl⟩
theorem Ji {α:Type} (M:Model) (Γ:PySem.Ctx):∀ (t:Sem α) (Q:α->Pos->Shared->Prop) (E:Value->Pos->Shared->Prop) (p:Pos) (s:Shared),dG t->Sem.wp M Γ t Q E p s ->
   Sem.wp M Γ t (λ a p s'=>Q a p s'/\cB s.heap s'.heap) (λ e p s'=>E e p s'/\cB s.heap s'.heap) p s:=by
 intro t
 have up:∀ (t:Sem α) (Q:α->Pos->Shared->Prop) (E:Value->Pos->Shared->Prop) (p:Pos) (s s1:Shared),cB s.heap s1.heap ->
     Sem.wp M Γ t (λ a p s'=>Q a p s'/\cB s1.heap s'.heap) (λ e p s'=>E e p s'/\cB s1.heap s'.heap) p s1 ->
     Sem.wp M Γ t (λ a p s'=>Q a p s'/\cB s.heap s'.heap) (λ e p s'=>E e p s'/\cB s.heap s'.heap) p s1:=λ t Q E p s s1 k h =>
   Sem.wp_mono M Γ t (λ _ _ _ z=>⟨z.1,k.trans z.2⟩) (λ _ _ _ z=>⟨z.1,k.trans z.2⟩) p s1 h
 induction t with
 | pure a=>intro Q E p s _ h;rw [Sem.wp_pure] at h ⊢;exact ⟨h,.refl _⟩
 | raise e=>intro Q E p s _ h;rw [Sem.wp_raise] at h ⊢;exact ⟨h,.refl _⟩
 | unsupported w=>intro Q E p s _ h;rw [Sem.wp_unsupported] at h;exact h.elim
 | finish e=>intro Q E p s _ h;rw [Sem.wp_finish] at h;exact h.elim
 | rule t k ih=>intro Q E p s m h;rw [Sem.wp_rule] at h ⊢;exact ih () Q E p s m h
 | «at» q k ih=>intro Q E p s m h;rw [Sem.wp_at] at h ⊢;exact ih () Q E q s m h
 | load a part k ih=>intro Q E p s m h;rw [Sem.wp_load] at h ⊢;obtain ⟨o,e,h⟩:=h;exact ⟨o,e,ih o Q E p s (m o) h⟩
 | update a part f k ih=>intro Q E p s m h;rw [Sem.wp_update] at h ⊢;exact ⟨h.1,up _ Q E p s _ (.update m.1) (ih () Q E p _ m.2 h.2)⟩
 | alloc o k ih=>intro Q E p s m h;rw [Sem.wp_alloc] at h ⊢;exact up _ Q E p s _ .push (ih _ Q E p _ (m _) h)
 | loadIfAlive a k ih=>intro Q E p s m h;rw [Sem.wp_loadIfAlive] at h ⊢;exact ih _ Q E p s (m _) h
 | point l k ih=>intro Q E p s m h;rw [Sem.wp_point] at h ⊢;exact ih () Q E p s m h
 | register a k ih=>intro Q E p s m h;rw [Sem.wp_register] at h;exact h.elim
 | fresh k ih=>intro Q E p s m h;rw [Sem.wp_fresh] at h ⊢;exact ih _ Q E p _ (m _) h
 | ask k ih=>intro Q E p s m h;rw [Sem.wp_ask] at h ⊢;exact ih _ Q E p s (m _) h
 | choose src n k ih=>intro Q E p s m h;rw [Sem.wp_choose] at h ⊢;exact ⟨h.1,ih _ Q E p _ (m _) h.2⟩
 | os q l k ih=>intro Q E p s m h;rw [Sem.wp_os] at h ⊢;exact ih _ Q E p _ (m _) h
 | call c h g l k ih=>intro Q E p s m h;exact m.elim
 | handled own k ih=>intro Q E p s m h;rw [Sem.wp_handled] at h ⊢;exact ih _ Q E p s (m _) h
 | newGen c k ih=>intro Q E p s m h;rw [Sem.wp_newGen] at h ⊢;exact ih _ Q E p _ (m _) h
 | genState g k ih=>intro Q E p s m h;rw [Sem.wp_genState] at h ⊢;obtain ⟨st,e,h⟩:=h;exact ⟨st,e,ih _ Q E p s (m _) h⟩
 | resume g r l k ih=>intro Q E p s m h;exact m.elim
 | yield v g l k ih=>intro Q E p s m h;rw [Sem.wp_yield] at h;exact h.elim
 | stack k ih=>intro Q E p s m h;rw [Sem.wp_stack] at h ⊢;exact ih _ Q E p s (m _) h
 | fork c k ih=>intro Q E p s m h;rw [Sem.wp_fork] at h;exact h.elim
 | thread k ih=>intro Q E p s m h;rw [Sem.wp_thread] at h ⊢;exact ih _ Q E p s (m _) h
 | await a tk ti l k ih=>intro Q E p s m h;unfold Sem.wp at h;exact h.elim
theorem mD {α:Type} {M:Model} {A:Around} {t:Sem α} {Q:α->Shared->Prop} {E:Value->Shared->Prop} {s:Shared} (m:dG t) (h:wpAny M A t Q E s) :
   wpAny M A t (λ a s'=>Q a s'/\cB s.heap s'.heap) (λ e s'=>E e s'/\cB s.heap s'.heap) s:=λ Γ p hΓ=>Ji M Γ t _ _ p s m (h Γ p hΓ)
theorem dG.bind {α β:Type} {f:α->Sem β} (hf:∀ a,dG (f a)):∀ {t:Sem α},dG t->dG (t.bind f):=by
 intro t
 induction t with
 | pure a=>intro _;exact hf a
 | raise e=>intro _;trivial
 | unsupported w=>intro _;trivial
 | finish e=>intro _;trivial
 | rule t k ih=>intro m;exact ih () m
 | «at» q k ih=>intro m;exact ih () m
 | load a part k ih=>intro m;exact λ o=>ih o (m o)
 | update a part g k ih=>intro m;exact ⟨m.1,ih () m.2⟩
 | alloc o k ih=>intro m;exact λ a=>ih a (m a)
 | loadIfAlive a k ih=>intro m;exact λ a=>ih a (m a)
 | point l k ih=>intro m;exact ih () m
 | register a k ih=>intro m;trivial
 | fresh k ih=>intro m;exact λ a=>ih a (m a)
 | ask k ih=>intro m;exact λ a=>ih a (m a)
 | choose src n k ih=>intro m;exact λ a=>ih a (m a)
 | os q l k ih=>intro m;exact λ a=>ih a (m a)
 | call c h g l k ih=>intro m;exact m.elim
 | handled own k ih=>intro m;exact λ a=>ih a (m a)
 | newGen c k ih=>intro m;exact λ a=>ih a (m a)
 | genState g k ih=>intro m;exact λ a=>ih a (m a)
 | resume g r l k ih=>intro m;exact m.elim
 | yield v g l k ih=>intro m;trivial
 | stack k ih=>intro m;exact λ a=>ih a (m a)
 | fork c k ih=>intro m;trivial
 | thread k ih=>intro m;exact λ a=>ih a (m a)
 | await a tk ti l k ih=>intro m;trivial
theorem dG.bd {α β:Type} {t:Sem α} {f:α->Sem β} (h:dG t) (hf:∀ a,dG (f a)):dG (t >>= f):=dG.bind hf h
theorem vQ (g:Array Value->Array Value):BR (Obj.mapFields g):=λ o=>by
 obtain ⟨c,d,dt,sl⟩:=o
 cases dt<;>exact ⟨rfl,λ h=>h⟩
theorem yN (g:Obj->Array (Option Value)):BR (λ o=>{ o with slots:=g o }):=λ o=>by
 obtain ⟨c,d,dt,sl⟩:=o
 refine ⟨rfl,λ h=>?_⟩
 cases dt<;>first|rfl|exact h
theorem o0 (a:Addr):dG (load a):=λ _=>trivial
theorem ub (v:Value):dG (fieldsOf v):=by
 unfold fieldsOf
 split
 . refine .bd (o0 _) λ o=>?_
   split<;>trivial
 . trivial
theorem jX (v:Value) (i:Nat):dG (field v i):=by
 unfold field
 refine .bd (ub v) λ vs=>?_
 split<;>trivial
theorem jx (v:Value) (i:Nat) (x:Value):dG (setField v i x):=by
 unfold setField
 split
 .
  unfold updateField
  refine .bd (o0 _) λ o=>?_
  split
  . split
    . exact ⟨vQ _,trivial⟩
    . trivial
  . trivial
 . trivial
theorem sy (e:Value) (f:Option Addr):dG (setFlight e f):=by
 unfold setFlight
 refine .bd (jX _ _) λ tb=>?_
 split
 . exact jx _ _ _
 . trivial
theorem mE:dG stack:=λ _=>trivial
theorem sL:∀ l:List Env,dG (readyFrames l)
 | []=>trivial
 | env::outer=>by
   unfold readyFrames
   split
   .
    refine .bd (o0 _) λ o=>?_
    split
    . trivial
    .
     refine .bd ?_ λ im => .bd ?_ λ bk=>⟨yN _,sL outer⟩
     . unfold behindIsImport
       split
       . trivial
       . split
         . trivial
         . exact .bd (jX _ _) λ _=>trivial
     . unfold keptBack
       split
       . split
         . trivial
         . unfold underTheClaimsCaller
           exact .bd (.bd mE λ _=>trivial) λ _=>trivial
       . trivial
   . trivial
theorem wb (env:Env):dG (PySem.frameOf env):=by
 unfold PySem.frameOf frameEnvs
 refine .bd (.bd mE λ _=>trivial) λ l => .bd ?_ λ r=>?_
 .
  unfold frameObject
  split
  . trivial
  . exact .bd (sL _) λ _=>trivial
 . split<;>trivial
theorem A8 (f:Addr) (b:Bool):dG (entryPlaceOf f b):=by
 unfold entryPlaceOf
 refine .bd mE λ l=>?_
 split<;>trivial
theorem uc (a b c d e:Value) (pl:List Value):dG (EntryCells.newEntry a b c d e pl):=by
 unfold EntryCells.newEntry newFields newObj
 dsimp only
 have ob:∀ d,dG (newObjAsIs (.type "traceback") d):=λ d=>by
   unfold newObjAsIs
   exact .bd (λ _=>trivial) λ _=>trivial
 split
 . split
   . exact .bd trivial λ _=>ob _
   . exact ob _
 . split
   . exact .bd trivial λ _=>ob _
   . exact ob _
theorem DW (e:Value) (env:Env):dG (noteFrame e env):=by
 unfold noteFrame
 split
 .
  refine .bd (jX _ _) λ head=>?_
  have rest:dG (do setField e 1 (← EntryCells.newEntry head (← PySem.frameOf env) .none (rawInt ‹Addr›) .none (← entryPlaceOf ‹Addr› (head != .none)))) :=
    .bd (wb env) λ fr => .bd (A8 _ _) λ pl => .bd (uc _ _ _ _ _ _) λ v=>jx _ _ _
  split
  . refine .bd (jX _ _) λ x=>?_
    split
    . trivial
    . exact .bd (jx _ _ _) λ _=>rest
  . exact rest
 . trivial
theorem jZ (env:Env) (e:Value):dG (leaving env e):=by
 unfold leaving
 exact .bd (DW _ _) λ _=>sy _ _
theorem ou {h:Heap} {as:List Addr} {b:Addr} {o:Obj} (e:h.get? b=some o) (n:b∉as):(W.hideAll h as).get? b=some o:=W.hideAll_get _ e n
structure Fly (P:Program) (w:World) (outer:List Env) (H:Hp) (s:Shared) (cls:Value) (x:Addr) (H':Hp) (s':Shared):Prop where
 os:s'.os=s.os
 bare:AllBare s'.gens
 un:Un (iS outer) [] H H' s.heap s'.heap
 cg:kW P w H' s'.heap
 fly:∃ a0 B,Heap.FlyingW B outer x cls a0 s'.heap/\(∀ b o,s.heap.get? b=some o->b∉iS outer->∀ o',s'.heap.get? b=some o'->B.get? b=some o')/\∀ b u,H' b=some u->∃ o,B.get? b=some o
def XD (h:Heap) (x:Addr) (d:Option Addr):Prop:=∃ o,h.get? x=some o/\o.dict=d
theorem XD.kept {h:Heap} {x:Addr} {d:Option Addr} (k:cB h h') (q:XD h x d):XD h' x d:=let ⟨o,e,z⟩:=q;let ⟨o',e',z'⟩:=k x o e;⟨o',e',z'.trans z⟩
def Bu (P:Program) (w:World):EC:=λ outer H s E e s'=>∃ x cls H',e = .ref x/\Fly P w outer H s cls x H' s'/\∃ d,XD s'.heap x d/\E cls d H'
theorem A0 {P:Program} {w:World} {h B:Heap} (x:kW P w H h) (hB:∀ b o,B.get? b=some o->h'.get? b=some o) (hb:∀ b o,B.get? b=some o->h.get? b=some o) (tk:∀ b u,H b=some u->∃ o,B.get? b=some o):kW P w H h':=λ a o e =>
 (x a o e).gf (λ b u X5 q=>by
   have:∃ u',H b=some u':=by
     rcases X5 with z|z
     . exact ⟨o,by rw [z];exact e⟩
     . exact ⟨_,z⟩
   obtain ⟨u',Oe⟩:=this
   obtain ⟨ob,N9⟩:=tk b u' Oe
   have:=hb b ob N9
   rw [q] at this
   cases this
   exact hB b u N9) (λ _ q=>q) λ _ _ q=>q
def Thr (X:Cx) (E:XK):Prop:=∀ (pins:List (Addr×Obj)) (U:St) (H:Hp) (s:Shared) (h':Heap) (x:Addr) (cls:Value) (args:List Value),Inv X pins U H s->Heap.MadeExcOf s.heap h' x cls args->E cls none H->X.xe (.ref x) { s with heap:=h' }
section
variable {P:Program} {w:World} {K:W.Frag} {mg:Str->Option Value} {base:Heap} {N:List Str} {qual:Str} {scope:Scope} {f:Addr} {cd:Value} {A:Around} {outer:List Env} {s₀:Shared} {H₀:Hp} {E E':XK}
theorem Ac (hE:∀ cls d H,E' cls d H->E cls d H):Thr (eW (Bu P w) P w K mg base N qual scope f cd A outer s₀ H₀ E) E':=by
 intro pins U H s h' x cls args I hx he
 have L1:(envOfC qual scope s₀.heap.objs.size f cd).frame=some s₀.heap.objs.size:=rfl
 have fr:=I.ok.frames
 have st:=I.stack
 have hin:∀ env∈(envOfC qual scope s₀.heap.objs.size f cd::outer),∀ b,env.frame=some b->b∈iS (envOfC qual scope s₀.heap.objs.size f cd::outer):=λ env he b hb=>List.mem_filterMap.mpr ⟨env,he,hb⟩
 show wpAny _ _ (leaving _ _) _ _ _
 refine ahF (mD (jZ _ _) (wpAny_leaves_madeW (E:=λ _ _=>False) (Q:=λ _ s2=>∃ h2 t,s2={ s with heap:=h2 }/\Heap.FlyingW (W.hideAll s.heap (iS (envOfC qual scope s₀.heap.objs.size f cd::outer))) outer x cls (.ref t) h2/\h'.UpToSlots h2) (base:=W.hideAll s.heap (iS (envOfC qual scope s₀.heap.objs.size f cd::outer))) fr L1 (λ b o q=>aoH _ q) (W.funFrames_hide st hin) hx λ h2 t fl tup tn up=>⟨h2,t,rfl,fl,up⟩)) (λ _ s2 z=>?_) λ _ _ z=>z.1.elim
 obtain ⟨⟨h2,t,rfl,fl,up⟩,dk⟩:=z
 have mq:∀ b o,s₀.heap.get? b=some o->b∉iS outer->b∉iS (envOfC qual scope s₀.heap.objs.size f cd::outer):=λ b o e n hm=>by
   rcases List.mem_cons.mp (show b∈s₀.heap.objs.size::iS outer from hm) with z|z
   . exact absurd (ado e) (by rw [z];exact ajM _)
   . exact n z
 have gf:∀ b o,s.heap.get? b=some o->b∉iS (envOfC qual scope s₀.heap.objs.size f cd::outer)->h2.get? b=some o:=λ b o e n=>fl.1 b o (ou e n)
 have fin:∀ b∈iS outer,∃ o,s.heap.get? b=some o/\∀ vs,o.data ≠ .fields vs:=λ b hb=>(I.ok.ni.mem hb).2 |> λ ⟨o,e,hd⟩=>by
   obtain ⟨sl,e2⟩:=I.base.slot b o e (I.ok.HX b hb) hb (by intro z;exact absurd (show b∈([]:List Addr) from z) (by simp))
   exact ⟨_,e2,hd⟩
 have tk:∀ b u,H b=some u->∃ o,(W.hideAll s.heap (iS (envOfC qual scope s₀.heap.objs.size f cd::outer))).get? b=some o:=λ b u e=>by
   have nf:b∉iS (envOfC qual scope s₀.heap.objs.size f cd::outer):=λ z=>by rw [I.mT b z] at e;cases e
   have lt:=I.cg.lt e
   cases q:s.heap.get? b with
   | none =>
     obtain ⟨o,ho⟩:∃ o,s.heap.get? b=some o:=by
       have ok:=I.cg b u e
       cases u with
       | lst xs=>obtain ⟨_,_,_,_,e⟩:=ok;exact ⟨_,e⟩
       | tup xs=>obtain ⟨_,_,_,o,e,_⟩:=ok;exact ⟨_,e⟩
       | dK az=>obtain ⟨_,_,_,_,o,_,_,e,_⟩:=ok;exact ⟨_,e⟩
       | dT az=>obtain ⟨_,_,_,_,o,_,_,e,_⟩:=ok;exact ⟨_,e⟩
       | set S n=>obtain ⟨o,_,_,_,e,_⟩:=ok;exact ⟨_,e⟩
       | ins C dx fs=>obtain ⟨_,_,_,e,_⟩:=ok;exact ⟨_,e⟩
       | own y=>obtain ⟨_,e⟩:=ok;exact ⟨_,e⟩
       | xd fs=>obtain ⟨_,⟨_,_,_,e,_⟩,_⟩:=ok;exact ⟨_,e⟩
       | Xl lo hi=>obtain ⟨_,_,_,e⟩:=ok;exact ⟨_,e⟩
       | zA ob u=>obtain ⟨e,_⟩:=ok;exact ⟨_,e⟩
       | Kb ps=>exact ⟨_,ok⟩
       | met f y=>exact ⟨_,ok⟩
       | ext φ=>obtain ⟨_,⟨_,e⟩,_⟩:=ok;exact ⟨_,e⟩
     rw [q] at ho;cases ho
   | some o=>exact ⟨o,ou q nf⟩
 refine ⟨x,cls,H,rfl,⟨I.os,I.bare,?_,A0 I.cg fl.1 (λ b o q=>aoH _ q) tk,_,_,fl,?_,tk⟩,none,XD.kept dk (let ⟨_,e,_⟩:=hx.there;⟨_,e,rfl⟩),hE _ _ _ he⟩
 .
  refine ⟨λ b o e n hb _=>gf b o (I.base.keep b o e n hb (by simp [eW])) (mq b o e hb),λ b o e n hb _=>?_,λ b o e n _=>I.base.free b o e n (by simp [eW]),λ b o e _=>?_,I.base.p9,I.base.o6,I.base.p8⟩
  .
   obtain ⟨sl,e1⟩:=I.base.slot b o e n hb (by simp [eW])
   obtain ⟨o1,e2,hd⟩:=fin b hb
   rw [e1] at e2
   cases e2
   obtain ⟨Eu,e3⟩:=up b _ (hx.keeps b _ e1) hd
   exact ⟨Eu,e3⟩
  .
   obtain ⟨o',e1⟩:=I.base.there b o e (by simp [eW])
   by_cases hb:b∈iS outer
   . obtain ⟨o1,e2,hd⟩:=fin b hb
     obtain ⟨Eu,e3⟩:=up b _ (hx.keeps b _ e2) hd
     exact ⟨_,e3⟩
   . exact ⟨o',gf b o' e1 (mq b o e hb)⟩
 .
  intro b o e hb o' e'
  obtain ⟨o1,e1⟩:=I.base.there b o e (by simp [eW])
  have e2:=gf b o1 e1 (mq b o e hb)
  rw [e2] at e'
  cases e'
  exact ou e1 (mq b o e hb)
theorem Ci (hE:∀ cls d H,E' cls d H->E cls d H):Passes (Bu P w) (eW (Bu P w) P w K mg base N qual scope f cd A outer s₀ H₀ E) E':=by
 intro pins U H s e s' I hc
 obtain ⟨x,cls,H',rfl,F,dd,JK,he⟩:=hc
 obtain ⟨a0,B,fl,hB,tk⟩:=F.fly
 have L1:(envOfC qual scope s₀.heap.objs.size f cd).frame=some s₀.heap.objs.size:=rfl
 have fr:=I.ok.frames
 show wpAny _ _ (leaving _ _) _ _ _
 refine ahF (mD (jZ _ _) (wpAny_leaves_onW (E:=λ _ _=>False) (Q:=λ _ s2=>∃ h2,s2={ s' with heap:=h2 }/\Heap.FlyingW B outer x cls a0 h2/\s'.heap.UpToSlots h2) (outer:=outer) fr L1 fl λ h2 Ox up=>⟨h2,rfl,Ox,up⟩)) (λ _ s2 z=>?_) λ _ _ z=>z.1.elim
 obtain ⟨⟨h2,rfl,Ox,up⟩,dk⟩:=z
 have mq:∀ b o,s₀.heap.get? b=some o->b∉iS outer->b∉iS (envOfC qual scope s₀.heap.objs.size f cd::outer):=λ b o e n hm=>by
   rcases List.mem_cons.mp (show b∈s₀.heap.objs.size::iS outer from hm) with z|z
   . exact absurd (ado e) (by rw [z];exact ajM _)
   . exact n z
 have Dq:∀ b:Addr,b∉(eW (Bu P w) P w K mg base N qual scope f cd A outer s₀ H₀ E).ex:=λ b=>by simp [eW]
 have at2:∀ b o,s₀.heap.get? b=some o->b∉iS outer->∃ o',s'.heap.get? b=some o'/\B.get? b=some o'/\h2.get? b=some o':=λ b o e n=>by
   obtain ⟨o1,e1⟩:=I.base.there b o e (Dq b)
   obtain ⟨o2,e2⟩:=F.un.there b o1 e1 (by simp)
   have e3:=hB b o1 e1 (mq b o e n) o2 e2
   exact ⟨o2,e2,e3,Ox.1 b o2 e3⟩
 have fin:∀ b∈iS outer,∃ o,s'.heap.get? b=some o/\∀ vs,o.data ≠ .fields vs:=λ b hb=>(fl.2.2.1.mem (aeC (s₀.heap.objs.size) hb:b∈iS (envOfC qual scope s₀.heap.objs.size f cd::outer))).2
 refine ⟨x,cls,H',rfl,⟨F.os.trans I.os,F.bare,?_,A0 F.cg Ox.1 fl.1 tk,a0,B,Ox,?_,tk⟩,dd,JK.kept dk,hE _ _ _ he⟩
 .
  refine ⟨λ b o e n hb _=>?_,λ b o e n hb _=>?_,λ b o e n _=>?_,λ b o e _=>?_,λ b xs q=>F.un.p9 b xs (I.base.p9 b xs q),λ b ob u q=>F.un.o6 b ob u (I.base.o6 b ob u q),λ b ps q=>?_⟩
  . have e1:=I.base.keep b o e n hb (Dq b)
    have e2:=F.un.keep b o e1 (I.base.free b o e n (Dq b)) (mq b o e hb) (by simp)
    exact Ox.1 b o (hB b o e1 (mq b o e hb) o e2)
  .
   obtain ⟨sl,e1⟩:=I.base.slot b o e n hb (Dq b)
   obtain ⟨sl',e2⟩:=F.un.slot b _ e1 (I.base.free b o e n (Dq b)) (aeC (s₀.heap.objs.size) hb:b∈iS (envOfC qual scope s₀.heap.objs.size f cd::outer)) (by simp)
   obtain ⟨o1,e3,hd⟩:=fin b hb
   rw [e2] at e3
   cases e3
   obtain ⟨Eu,e4⟩:=up b _ e2 hd
   exact ⟨Eu,e4⟩
  . obtain ⟨o1,e1⟩:=I.base.there b o e (Dq b)
    exact F.un.free b o1 e1 (I.base.free b o e n (Dq b)) (by simp)
  .
   by_cases hb:b∈iS outer
   . obtain ⟨o1,e3,hd⟩:=fin b hb
     obtain ⟨Eu,e4⟩:=up b _ e3 hd
     exact ⟨_,e4⟩
   . obtain ⟨o',_,_,e'⟩:=at2 b o e hb
     exact ⟨o',e'⟩
  . obtain ⟨m1,e1⟩:=I.base.p8 b ps q
    obtain ⟨m2,e2⟩:=F.un.p8 b _ e1
    exact ⟨m1++m2,by rw [e2,apX]⟩
 .
  intro b o e hb o' e'
  obtain ⟨o1,_,e1,e2⟩:=at2 b o e hb
  rw [e2] at e'
  cases e'
  exact e1
end
theorem HR {K:W.Frag} {h:Heap} {newId:String} (X:K.In h) (q:W.excIn K C ut newId=true) :
   ∃ bm N nm q bs hdct sn sub ab col dd k0 k1 k2 k3 k5 mN,h.get? C=some (excClassObj nm q C N bs bm hdct sn sub ab col dd k0 k1 k2 k3 k5 newId)/\h.Ns N mN/\mN "__init__" = none/\OwnTail h ut bm:=by
 unfold W.excIn at q
 split at q
 .
  rename_i dd cd sl ho
  split at q
  .
   rename_i C' bm k0 k1 k2 k3 n k5 hm hs
   simp only [aeX,beq_iff_eq,anF] at q
   obtain ⟨⟨⟨⟨⟨rfl,rfl⟩,Qz⟩,ht⟩,cg⟩,OX⟩:=q
   obtain ⟨nm,bs,mro,ns,qn,hd,sn,sub,ab,col,del⟩:=cd
   dsimp only at hm Qz cg OX
   subst hm Qz
   have Nu:sl=#[k0,k1,k2,k3,some (.builtin n),k5]:=by
     obtain ⟨l⟩:=sl
     simp only at hs
     rw [hs]
   subst Nu
   exact ⟨bm,ns,nm,qn,bs,hd,sn,sub,ab,col,dd,k0,k1,k2,k3,k5,_,X _ _ ho,.of_isNs (W.isNs_of_in X cg),W.nsMap_none_of_in X cg OX,W.tail_of_in X ht⟩
  . cases q
 . cases q
section
variable {X:Cx}
def MP (C:Addr) (E:XK) (t:TA):TS:=λ _ U H=>t U H λ vs H1=>vs.length<=sizeLine/\E (.ref C) none H1
theorem rL {c:Str} {B kI:String} {newId:String} {rest:List Expr} {pos:Pos} {t:TA} (hc:X.calm=true) (FB:ExcBaseFacts B newId kI ut) (hm:X.mg c=some (.ref C)) (q:W.excIn X.K C ut newId=true) (th:Thr X E) (ha:PA X (e₀::rest) t) (hg:Gl X c:=by rfl) (hd:(c == ("__debug__" : Str))=false:=by decide) (he:starEach (e₀::rest) X.env=(false,eval e₀ X.env)::starEach rest X.env:=by rfl) (kD:(backTo eC (starEach rest X.env)).any (·.1)=false:=by rfl) :
   PS X (.Raise (some (.Call (.Name c np) (e₀::rest) [] eC)) none pos) (MP C E t):=by
 intro pins s U H D I h
 obtain ⟨tl,N,nm,qn,bs,hdct,sn,sub,ab,col,dd,k0,k1,k2,k3,k5,mN,hC,hN,OX,T⟩:=HR I.ok.mod.LK q
 refine wpAny_Raise_call_subT (C:=C) (nm:=nm) (q:=qn) (N:=N) (bs:=bs) (bm:=tl) (hdct:=hdct) (sn:=sn) (sub:=sub) (ab:=ab) (col:=col) (dd:=dd) (k0:=k0) (k1:=k1) (k2:=k2) (k3:=k3) (k5:=k5)
   FB (mN:=mN) (T.hasType FB.hasBase) (I.ok.hd hc) (by rw [he];show (false || (backTo eC (starEach rest X.env)).any (·.1))=false;rw [kD];rfl) OX (oB I hg hm ⟨rfl,?_⟩ hd)
 have hA:=ha eC pins s U H _ I h
 rw [he] at hA ⊢
 refine an9 (ahF hA (λ us s2 ⟨vs,H2,I2,r2,hz,q2⟩=>⟨rfl,by rw [← r2.length];exact hz,I2.bk _ _ hC,hN.keeps I2.bk,T.keeps I2.bk,λ h' x hx=>?_⟩) λ _ _ y=>y)
 exact th pins U H2 s2 h' x _ _ I2 hx q2
end
section
variable {P:Program} {w:World} {K:W.Frag} {mg:Str->Option Value} {base:Heap}
theorem hZ.to0 {k:Nat} {f:Addr} {fd:FuncData} {ps:List Str} {sp:Sp} (F:hZ P w K mg base (Bu P w) k f fd ps sp):hZ P w K mg base tO k f fd ps (λ vs H Q _=>sp vs H Q E0) :=
 ⟨λ vs H Q _ h=>F.len vs H Q E0 h,λ A outer s H args us vs Q E hr e0 hb r hs=>aom (F.run A outer s H args us vs Q E0 hr e0 hb r hs) λ r s' h=>by
   cases r with
   | error e=>obtain ⟨_,_,_,_,_,_,_,z⟩:=h;exact False.elim z
   | ok fl=>cases fl<;>exact h⟩
end
def Cx.held (X:Cx) (e:Addr) (oe:Obj):Cx:={ X with A:=X.A.mark (some (.ref e)),calm:=false,pn:=X.pn++[(e,oe)],xe:=λ _ _=>False }
structure FF (K:W.Frag) (C:Addr):Prop where
 ga:W.findIn K (.ref C) "__getattribute__" = some (some (.builtin "BaseException.__getattribute__"))
 gt:W.findIn K (.ref C) "__getattr__" = some none
 cl:W.findIn K (.ref C) "__class__" = some (some (.builtin "object.__class__"))
 gs:W.specialIn K (.builtin "object.__class__") "__get__" = some (some (.builtin "getset_descriptor.__get__"))
 tk:W.takesIn K (.builtin "object.__class__")=some true
 mo:W.mroIn K C (.type "object")=some true
 mb:W.mroIn K C (.type "BaseException")=some true
 is:(W.clsIn K C).isSome=true
section
open PySem.Builtin PySem.Builtin.ObjectAttr PySem.Builtin.Getset_descriptor
variable {K:W.Frag} {C e:Addr}
variable {prog:Program} {w:World} {A:Around} {s:Shared} {oe:Obj}
end
open PySem.Builtin PySem.Builtin.ObjectAttr
section
variable {K:W.Frag} {prog:Program} {w:World} {A:Around} {E:Value->Shared->Prop} {s:Shared} {x C:Addr} {name:Str} {v:Value}
def lR:List Value->Bool
 | []=>false
 | .ref _::r=>lR r
 | c::r=>decide (c::r=[.type "ValueError",.type "Exception",.type "BaseException",.type "object"])
def jb (K:W.Frag) (C:Addr):Bool:=(W.clsIn K C).any λ cd=>lR cd.mro
theorem mm {l:List Value} (e:lR l=true):(∃ c r,l = .ref c::r/\lR r=true)∨l=[.type "ValueError",.type "Exception",.type "BaseException",.type "object"]:=by
 cases l with
 | nil=>cases e
 | cons c r =>
   cases c with
   | ref a=>exact .inl ⟨a,r,rfl,e⟩
   | _=>exact .inr (aoL e)
theorem rZ (self:Value):∀ (n:Nat) {l:List Value},l.length<=n->lR l=true->refuseLoop self "__setattr__" l=pure ()
 | 0,l,hl,e=>by
   have:l=[]:=List.length_eq_zero_iff.mp (Nat.le_zero.mp hl)
   subst this
   cases e
 | n+1,l,hl,e=>by
   rcases mm e with ⟨c,r,rfl,e'⟩|rfl
   . rw [refuseLoop_ref]
     exact rZ self n (apq hl) e'
   . exact PySem.F.store_ValueError.passes self
theorem pQ:∀ (n:Nat) {l:List Value},l.length<=n->lR l=true->l.contains (.type "object")=true/\l.isEmpty=false
 | 0,l,hl,e=>by
   have:l=[]:=List.length_eq_zero_iff.mp (Nat.le_zero.mp hl)
   subst this
   cases e
 | n+1,l,hl,e=>by
   rcases mm e with ⟨c,r,rfl,e'⟩|rfl
   . refine ⟨?_,rfl⟩
     rw [apU,(pQ n (apq hl) e').1,apC]
   . exact ⟨by simp,rfl⟩
theorem Cw {ox:Obj} {od:Option Obj} {tk:Tok} {R:Result->Shared->Prop} (X:K.In s.heap) (J:W.InstAt s.heap x ox C od) (hp:jb K C=true) (hf:W.findIn K (.ref C) name=some none) (h:wpAny (model prog w) A.in1 (storeInOwnDict (.ref x) (.ref C) (.str name tk) name v false)
     (λ fin s'=>match fin with | .done f=>R (.ok f) s' | .again c'=>c'.quiet=true/\codeAny (model prog w) A c' R s') (λ e s'=>R (.error e) s') s) :
   codeAny (model prog w) A (.call (.builtin "object.__setattr__") ⟨[.ref x,.str name tk,v],[]⟩) R s:=by
 obtain ⟨cd,qI,ho⟩:=apS hp
 obtain ⟨N9,EF⟩:=pQ _ (aat _) ho
 have alh:W.mroIn K C (.type "object")=some true:=by
   unfold W.mroIn
   rw [qI]
   show (if cd.mro.isEmpty=true then none else some (cd.mro.contains (.type "object")))=some true
   rw [acO (by rw [EF];exact abZ),N9]
 have top:W.Looks (model prog w) s.heap (isInstance (.ref x) (.type "object")) true:=J.type.andThen (W.looks_mroIn X alh)
 have SO:=PySem.F.store_object
 refine codeAny_call_builtin SO.slot.plain SO.entry (W.check_slot (M:=model prog w) (s:=s) (i:="object.__setattr__") (owner:="object") (n:="__setattr__") (self:=.ref x) (rest:=[.str name tk,v]) (kw:=[]) SO.kind SO.split top (SO.args (.ref x) (.str name tk) v) ?_)
 have hl:W.Looks (model prog w) s.heap (mroOf (.ref C)) cd.mro:=W.Looks.andThen (aoY X qI) .now
 have L3:W.Looks (model prog w) s.heap (storeTaker? none) none:=.now
 rw [W.osa_eq,refuse_eq]
 refine Wi (Wi (J.type.here (Wi (hl.here ?_))))
 rw [rZ _ _ (aat _) ho]
 refine adt (Wi (J.type.here (Wi ((W.looks_findIn X hf).here (Wi (L3.here ?_))))))
 exact h
def ED (C t:Addr) (d:Option Addr):Obj:={ cls:=.ref C,dict:=d,data:=.fields #[.ref t,.none,.none,.none,.bool false,.none]}
theorem IE {t:Addr} {Q:Unit->Shared->Prop} (X:K.In s.heap) (he:s.heap.get? x=some (ED C t none)) (hs:W.findIn K (.ref C) "__setattr__" = some (some (.builtin "object.__setattr__"))) (hp:jb K C=true) (ht:W.findIn K (.ref C) name=some none) (hh:W.hasDictIn K C=true) (h:∀ h',h'.get? x=some (ED C t (some s.heap.objs.size))->h'.Ns1 s.heap.objs.size (λ y=>if y=name then some v else none)->(∀ b o,b≠x->s.heap.get? b=some o->h'.get? b=some o)->Q () { s with heap:=h',toks:=s.toks+2 }) :
   wpAny (model prog w) A (setAttr (.ref x) name v) Q E s:=by
 have J:W.InstAt s.heap x (ED C t none) C none:=⟨he,rfl,rfl,trivial⟩
 refine W.set_plain X J hs (Cw (s:={ s with toks:=s.toks+1 }) X J hp ht ?_)
 obtain ⟨cd,hc,Ey⟩:=apS hh
 refine Wi (adt (Wi (Wi (apG he (Wi (W.Looks.here (s:={ s with toks:=s.toks+1 }) (aoY X hc) ?_))))))
 rw [Ey]
 rw [acO (by decide)]
 show wpAny _ _ (alloc { cls:=.type "dict",data:=.dict #[]} >>= λ d=>update x (λ o=>{ o with dict:=some d }) >>= λ _=>dictMade (.ref C) x d) _ _ _
 have mH:=ado he
 have he1:(s.heap.push { cls:=.type "dict",data:=.dict #[]}).get? x=some (ED C t none):=aas _ he
 have he2:((s.heap.push { cls:=.type "dict",data:=.dict #[]}).update x (λ o=>{ o with dict:=some s.heap.objs.size })).get? x=some (ED C t (some s.heap.objs.size)):=anI _ he1 rfl
 have i0:((s.heap.push { cls:=.type "dict",data:=.dict #[]}).update x (λ o=>{ o with dict:=some s.heap.objs.size })).get? s.heap.objs.size=some { cls:=.type "dict",data:=.dict #[]}:=by
   rw [anE _ _ (ae6 mH)]
   exact afq _ rfl
 have GG:((s.heap.push { cls:=.type "dict",data:=.dict #[]}).update x (λ o=>{ o with dict:=some s.heap.objs.size })).Ns1 s.heap.objs.size (λ _=>none) :=
   ⟨_,#[],_,i0,rfl,(λ e he=>absurd he (by simp)),(by simp [UniqKeys]),λ _=>rfl⟩
 refine Wi (wpAny_alloc ?_)
 refine Wi (wpAny_update he1 ?_)
 refine adt (a:=some s.heap.objs.size) ?_
 refine Wi (adt (Wi ?_))
 refine wpAny_nsSet1 (s:={ s with heap:=(s.heap.push { cls:=.type "dict",data:=.dict #[]}).update x (λ o=>{ o with dict:=some s.heap.objs.size }),toks:=s.toks+1 }) GG λ h' L8 DB=>?_
 obtain ⟨oD,esD,epD,W8,SG,WP⟩:=L8.count (aod name v (ns:=[]) (λ y hy=>absurd rfl hy))
 refine Wi (apf W8 (by rw [SG];exact apg (agB WP (by rw [afc,anT,aoQ];lia))) ?_)
 refine adt (h h' ((DB.2 _ (ae6 mH)).trans he2) L8 λ b o hb q=>?_)
 rw [DB.2 b (ae6 (ado q))]
 show ((s.heap.push _).update x _).get? b=some o
 rw [anE _ _ (anq hb)]
 exact aas _ q
end
open PySem.Builtin PySem.Builtin.ObjectAttr
structure ExcAt (K:W.Frag) (C:Addr) (f:Str):Prop where
 ex:FF K C
 hd:W.hasDictIn K C=true
 no:W.findIn K (.ref C) f=some none
 sa:W.findIn K (.ref C) "__setattr__" = some (some (.builtin "object.__setattr__"))
 po:jb K C=true
def XO (x C t:Addr) (d:Option Addr):HO:=.ext λ h=>h.get? x=some (ED C t d)
section
variable {prog:Program} {w:World} {A:Around} {E:Value->Shared->Prop} {h:Heap} {g:Array GenState} {d:Drawn} {t:Nat} {os:OsState}
variable {nm q:Str} {C N:Addr} {bs bm ut:List Value} {hdct:Bool} {sn:List Str} {sub:List Value} {ab:Bool} {col:Option Bool} {dd:Option Addr} {k0 k1 k2 k3 k5:Option Value} {B newId kI:String}
theorem qx (F:ExcBaseFacts B newId kI ut) (T:OwnTail h ut bm) {mN:Str->Option Value} {rest:List Value} {Q:Fin->Shared->Prop} (hC:h.get? C=some (excClassObj nm q C N bs bm hdct sn sub ab col dd k0 k1 k2 k3 k5 newId)) (hn:h.Ns N mN) (hi:mN "__init__" = some (.ref fI)) (NY:h.get? fI=some oI) (Mw:oI.cls = .type "function") (hq:∀ h' e,h.objs.size<=e->Heap.MadeExcOf h h' e (.ref C) rest->wpAny (model prog w) A (call (.ref fI) (.ref e::rest)) (λ r s'=>r = .none/\Q (.done (.ret (.ref e))) s') E ⟨h',g,d,t,os⟩) (hrest:rest.length<=sizeLine) :
   wpAny (model prog w) A (Builtin.«type.__call__» ⟨.ref C::rest,[]⟩) Q E ⟨h,g,d,t,os⟩:=by
 repeat (first|with_reducible refine an0 hC ?_|with_reducible refine wpAny_madeBy_exc hC ?_|wp_step)
 refine codeAny_call_builtin_code (Code.quiet_builtin _ F.quiet) (wpAny_check_new_subT F T hC ?_)
 refine codeAny_exc_new_subT F T hC ?_ hrest
 show wpAny _ _ _ _ _ _
 have kp:∀ b o,h.get? b=some o->((h.push { cls:=.type "tuple",data:=.seq rest.toArray }).push { cls:=.ref C,data:=.fields #[.ref h.objs.size,.none,.none,.none,.bool false,.none]}).get? b=some o :=
   λ b o e=>aas _ (aas _ e)
 have hC₁:=kp _ _ hC
 have acG:=kp _ _ NY
 have hn₁:=hn.keeps kp
 have T₁:=T.keeps kp
 have Em:((h.push { cls:=.type "tuple",data:=.seq rest.toArray }).push
     { cls:=.ref C,data:=.fields #[.ref h.objs.size,.none,.none,.none,.bool false,.none]}).get? (h.objs.size+1)=some
     { cls:=.ref C,data:=.fields #[.ref h.objs.size,.none,.none,.none,.bool false,.none]}:=by heap_get
 have hcC:(Value.ref C::bm).contains (.ref C)=true:=by simp
 unfold isInstance
 repeat (first|with_reducible refine an0 Em ?_|(with_reducible refine wpAny_isSubtype_exc hC₁ ?_;rw [hcC])|wp_step)
 show wpAny _ _ (typeLookup (.ref C) _) _ _ _
 refine wpAny_typeLookup_tail hC₁ hn₁ T₁ F.mroIs F.init.lookup ?_
 rw [hi]
 refine anV (Wi ?_)
 unfold bindSpecial
 refine Wi (wpAny_typeOf (T:="function") ⟨_,acG,Mw⟩ ?_)
 rw [acS (by decide)]
 refine adt (Wi (ahF (hq _ (h.objs.size+1) (anC _) ⟨kp,an8 (anC _),h.objs.size,Em,an8 (aat _),aas _ (Heap.get?_push_at rfl rfl)⟩) (λ r s' hr=>?_) λ _ _ x=>x))
 obtain ⟨rfl,hQ⟩:=hr
 wp_walk
 exact hQ
theorem Ai (F:ExcBaseFacts B newId kI ut) (T:OwnTail h ut bm) {mN:Str->Option Value} {rest:List Value} {Q:Value->Shared->Prop} (hC:h.get? C=some (excClassObj nm q C N bs bm hdct sn sub ab col dd k0 k1 k2 k3 k5 newId)) (hn:h.Ns N mN) (hi:mN "__init__" = some (.ref fI)) (NY:h.get? fI=some oI) (Mw:oI.cls = .type "function") (hq:∀ h' e,h.objs.size<=e->Heap.MadeExcOf h h' e (.ref C) rest->wpAny (model prog w) (A.under (.builtin "type.__call__" ⟨.ref C::rest,[]⟩)) (call (.ref fI) (.ref e::rest)) (λ r s'=>r = .none/\Q (.ref e) s') E ⟨h',g,d,t,os⟩) (hrest:rest.length<=sizeLine) :
   wpAny (model prog w) A (call (.ref C) rest) Q E ⟨h,g,d,t,os⟩:=by
 have f1:=tc_lookup
 have f2:=tc_bind (.ref C)
 have hT:(⟨h,g,d,t,os⟩:Shared).TypeIs (.ref C) "type":=⟨_,hC,rfl⟩
 refine apO (codeAny_of_tree ?_)
 show wpAny _ _ (callAny (.ref C) _) _ _ _
 repeat (any_goals (first|assumption|with_reducible refine an0 hC ?_|wp_step))
 refine ⟨rfl,?_⟩
 refine codeAny_call_builtin_at (Code.quiet_builtin _ (by decide +kernel)) entry_typeCall (wpAny_check_type_call_sub hC (qx (hrest:=hrest) F T hC hn hi NY Mw λ h' e hle hm=>?_))
 exact hq h' e hle hm
end
section
variable {M:Model} {A:Around} {E:Value->Shared->Prop} {env:Env}
variable {nm q:Str} {C N:Addr} {bs bm ut:List Value} {hdct:Bool} {sn:List Str} {sub:List Value} {ab:Bool} {col:Option Bool} {dd:Option Addr} {k0 k1 k2 k3 k5:Option Value} {B newId kI:String}
theorem xT {s:Shared} {x:Sem Value} {Q:Flow->Shared->Prop} (rT:bm.contains (.type "BaseException")=true) (hh:A.handled=none) (h:wpAny M A x (λ v s₁=>∃ e t OI,v = .ref e/\s₁.heap.get? C=some (excClassObj nm q C N bs bm hdct sn sub ab col dd k0 k1 k2 k3 k5 newId)/\s₁.heap.get? e=some { cls:=.ref C,dict:=OI,data:=.fields #[.ref t,.none,.none,.none,.bool false,.none]}/\E (.ref e) s₁) E s) :
   wpAny M A (raiseStmt env (some x) none) Q E s:=by
 have hcB:(Value.ref C::bm).contains (.type "BaseException")=true:=by rw [apU,rT,apC]
 unfold raiseStmt
 refine Wi (ahF h (λ v s₁ h₁=>?_) λ _ _ x=>x)
 obtain ⟨e,t,OI,rfl,hC,he,hE⟩:=h₁
 obtain ⟨hp,g,d,tk,os⟩:=s₁
 repeat (first|with_reducible refine an0 he ?_|with_reducible refine an0 hC ?_|(with_reducible refine wpAny_isSubtype_exc hC ?_;rw [hcB])|wp_step)
 exact wpAny_raiseNew_none hh hE
end
section
variable {prog:Program} {w:World} {A:Around} {E:Value->Shared->Prop} {s:Shared} {env:Env}
variable {nm q:Str} {C N:Addr} {bs bm ut:List Value} {hdct:Bool} {sn:List Str} {sub:List Value} {ab:Bool} {col:Option Bool} {dd:Option Addr} {k0 k1 k2 k3 k5:Option Value} {B newId kI:String}
theorem xV (F:ExcBaseFacts B newId kI ut) {mN:Str->Option Value} {x:Str} {pos:Pos} {args:List Expr} {Q:Flow->Shared->Prop} (rT:bm.contains (.type "BaseException")=true) (hh:A.handled=none) (kD:(backTo eC (starEach args env)).any (·.1)=false) (hi:mN "__init__" = some (.ref fI)) (h:wpAny (model prog w) A (eval (.Name x np) env) (λ f s₁=>f = .ref C/\wpAny (model prog w) A (evalArgs (.ref C) true (backTo eC (starEach args env)) [])
     (λ a s₂=>a.kw=[]/\a.pos.length<=sizeLine/\s₂.heap.get? C=some (excClassObj nm q C N bs bm hdct sn sub ab col dd k0 k1 k2 k3 k5 newId)/\s₂.heap.Ns N mN/\OwnTail s₂.heap ut bm/\(∃ oI,s₂.heap.get? fI=some oI/\oI.cls = .type "function") /\
       ∀ h' e,s₂.heap.objs.size<=e->Heap.MadeExcOf s₂.heap h' e (.ref C) a.pos->wpAny (model prog w) (A.under (.builtin "type.__call__" ⟨.ref C::a.pos,[]⟩)) (call (.ref fI) (.ref e::a.pos))
         (λ r s'=>r = .none/\s'.heap.get? C=some (excClassObj nm q C N bs bm hdct sn sub ab col dd k0 k1 k2 k3 k5 newId)/\(∃ t OI,s'.heap.get? e=some { cls:=.ref C,dict:=OI,data:=.fields #[.ref t,.none,.none,.none,.bool false,.none]})/\E (.ref e) s') E { s₂ with heap:=h' }) E s₁) E s) :
   wpAny (model prog w) A (exec (.Raise (some (.Call (.Name x np) args [] eC)) none pos) env) Q E s:=by
 rw [arm_exec_Raise]
 refine Wi (aoa (xT (C:=C) (nm:=nm) (q:=q) (N:=N) (bs:=bs) (bm:=bm) (hdct:=hdct) (sn:=sn) (sub:=sub) (ab:=ab) (col:=col) (dd:=dd) (k0:=k0) (k1:=k1) (k2:=k2) (k3:=k3) (k5:=k5) (newId:=newId) rT hh ?_))
 refine Wi (ahF (wpAny_Call_ofName (ahF h (λ f s₁ h₁=>?_) λ _ _ x=>x)) (λ v s₃ h₃=>Wi (aoa (adt h₃))) λ _ _ x=>x)
 obtain ⟨rfl,h₁⟩:=h₁
 unfold callWith
 refine Wi (anV (ahF h₁ (λ a s₂ h₂=>Wi (aoa ?_)) λ _ _ x=>x))
 obtain ⟨apos,akw⟩:=a
 obtain ⟨Ul,hlen,hC,hn,T,⟨oI,NY,Mw⟩,h₂⟩:=h₂
 obtain rfl:akw=[]:=Ul
 obtain ⟨hp,g,d,tk,os⟩:=s₂
 simp only [kD]
 refine Wi (wpAny_keeperOf_exc hC ?_)
 refine Wi (Ai (hrest:=hlen) F T hC hn hi NY Mw λ h' e hle hm=>?_)
 refine ahF (h₂ h' e hle hm) (λ r s' z=>?_) λ _ _ z=>z
 obtain ⟨z0,zC,⟨t,OI,ze⟩,zE⟩:=z
 exact ⟨z0,Wi (anV (wpAny_point (adt ⟨e,t,OI,rfl,zC,ze,zE⟩)))⟩
end
theorem D9 {P:Program} {w:World} {h:Heap} (x:kW P w H h) {b:Addr} {u:HO} (e:H b=some u):∃ o,h.get? b=some o:=by
 have ok:=x b u e
 cases u with
 | lst xs=>obtain ⟨_,_,_,_,e⟩:=ok;exact ⟨_,e⟩
 | tup xs=>obtain ⟨_,_,_,o,e,_⟩:=ok;exact ⟨_,e⟩
 | dK az=>obtain ⟨_,_,_,_,o,_,_,e,_⟩:=ok;exact ⟨_,e⟩
 | dT az=>obtain ⟨_,_,_,_,o,_,_,e,_⟩:=ok;exact ⟨_,e⟩
 | set S n=>obtain ⟨o,_,_,_,e,_⟩:=ok;exact ⟨_,e⟩
 | ins C dx fs=>obtain ⟨_,_,_,e,_⟩:=ok;exact ⟨_,e⟩
 | own y=>obtain ⟨_,e⟩:=ok;exact ⟨_,e⟩
 | xd fs=>obtain ⟨_,⟨_,_,_,e,_⟩,_⟩:=ok;exact ⟨_,e⟩
 | Xl lo hi=>obtain ⟨_,_,_,e⟩:=ok;exact ⟨_,e⟩
 | zA ob u=>obtain ⟨e,_⟩:=ok;exact ⟨_,e⟩
 | Kb ps=>exact ⟨_,ok⟩
 | met f y=>exact ⟨_,ok⟩
 | ext φ=>obtain ⟨_,⟨_,e⟩,_⟩:=ok;exact ⟨_,e⟩
def iI (H:Hp) (e:Addr):Hp:=λ b=>if b=e then none else H b
theorem vc {e b:Addr} {u:HO} (h:iI H e b=some u):b≠e/\H b=some u:=by
 unfold iI at h
 split at h
 . cases h
 . rename_i n;exact ⟨n,h⟩
theorem gc {e b:Addr} (n:b≠e):iI H e b=H b:=by unfold iI;rw [acO n]
theorem Ed {P:Program} {w:World} {h:Heap} {e:Addr} {φ:Heap->Prop} (x:kW P w H h) (he:H e=some (.ext φ)):kW P w (iI H e) h:=λ b u q=>by
 obtain ⟨n,q⟩:=vc q
 refine (x b u q).gf (λ _ _ _ z=>z) (λ c z=>?_) λ c xs z=>?_
 . rw [gc (λ y=>by rw [y,he] at z;cases z)];exact z
 . rw [gc (λ y=>by rw [y,he] at z;cases z)];exact z
section
variable {P:Program} {w:World} {K:W.Frag} {mg:Str->Option Value} {base:Heap} {N:List Str} {qual:Str} {scope:Scope} {f:Addr} {cd:Value} {A:Around} {outer:List Env} {s₀:Shared} {H₀:Hp} {E E':XK}
theorem SV {s:Shared} {x t:Addr} {dx:Option Addr} (hE:∀ cls d H,E' cls d H->E cls d H) (I:Inv (eW (Bu P w) P w K mg base N qual scope f cd A outer s₀ H₀ E) pins U H s) (hx:H x=some (XO x C t dx)) (BE:∀ o,s₀.heap.get? x≠some o) (he:E' (.ref C) dx (iI H x)):(eW (Bu P w) P w K mg base N qual scope f cd A outer s₀ H₀ E).xe (.ref x) s:=by
 have N9:s.heap.get? x=some (ED C t dx):=(I.cg x _ hx).1
 have L1:(envOfC qual scope s₀.heap.objs.size f cd).frame=some s₀.heap.objs.size:=rfl
 have fr:=I.ok.frames
 have st:=I.stack
 have hxf:x∉iS (envOfC qual scope s₀.heap.objs.size f cd::outer):=λ z=>by have:=I.mT x z;rw [hx] at this;cases this
 have hin:∀ env∈(envOfC qual scope s₀.heap.objs.size f cd::outer),∀ b,env.frame=some b->b∈x::iS (envOfC qual scope s₀.heap.objs.size f cd::outer):=λ env he b hb=>aeC _ (List.mem_filterMap.mpr ⟨env,he,hb⟩)
 have hid:∀ b o,s.heap.get? b=some o->b≠x->b∉iS (envOfC qual scope s₀.heap.objs.size f cd::outer)->(W.hideAll s.heap (x::iS (envOfC qual scope s₀.heap.objs.size f cd::outer))).get? b=some o:=λ b o e n1 n2 =>
   ou e λ z=>(List.mem_cons.mp z).elim n1 n2
 show wpAny _ _ (leaving _ _) _ _ _
 refine ahF (mD (jZ _ _) (wpAny_leaving_firstW (E:=λ _ _=>False) (Q:=λ _ s2=>∃ h2,s2={ s with heap:=h2 }/\Heap.FlyingW (W.hideAll s.heap (x::iS (envOfC qual scope s₀.heap.objs.size f cd::outer))) outer x (.ref C) (.ref t) h2/\s.heap.UpToSlots h2)
   (base:=W.hideAll s.heap (x::iS (envOfC qual scope s₀.heap.objs.size f cd::outer))) (a0:=.ref t) fr (W.funFrames_hide st hin) L1 N9 (λ b o q=>aoH _ q) (apH _ (.head _)) rfl rfl rfl λ h' hL=>?_)) (λ _ s2 z=>?_) λ _ _ z=>z.1.elim
 . obtain ⟨k1,⟨_,_,k2⟩,k3,k4⟩:=hL
   exact ⟨h',rfl,⟨k1,apH _ (.head _),k2,k3⟩,k4⟩
 obtain ⟨⟨h2,rfl,fl,up⟩,dk⟩:=z
 have mq:∀ b o,s₀.heap.get? b=some o->b∉iS outer->b∉iS (envOfC qual scope s₀.heap.objs.size f cd::outer):=λ b o e n hm=>by
   rcases List.mem_cons.mp (show b∈s₀.heap.objs.size::iS outer from hm) with z|z
   . exact absurd (ado e) (by rw [z];exact ajM _)
   . exact n z
 have Dq:∀ b o,s₀.heap.get? b=some o->b≠x:=λ b o e z=>BE o (z ▸ e)
 have gf:∀ b o,s.heap.get? b=some o->b≠x->b∉iS (envOfC qual scope s₀.heap.objs.size f cd::outer)->h2.get? b=some o:=λ b o e n1 n=>fl.1 b o (hid b o e n1 n)
 have fin:∀ b∈iS outer,∃ o,s.heap.get? b=some o/\∀ vs,o.data ≠ .fields vs:=λ b hb=>(I.ok.ni.mem hb).2 |> λ ⟨o,e,hd⟩=>by
   obtain ⟨sl,e2⟩:=I.base.slot b o e (I.ok.HX b hb) hb (by intro z;exact absurd (show b∈([]:List Addr) from z) (by simp))
   exact ⟨_,e2,hd⟩
 have tk:∀ b u,iI H x b=some u->∃ o,(W.hideAll s.heap (x::iS (envOfC qual scope s₀.heap.objs.size f cd::outer))).get? b=some o:=λ b u e=>by
   obtain ⟨n,e⟩:=vc e
   have nf:b∉iS (envOfC qual scope s₀.heap.objs.size f cd::outer):=λ z=>by rw [I.mT b z] at e;cases e
   obtain ⟨o,q⟩:=D9 I.cg e
   exact ⟨o,hid b o q n nf⟩
 refine ⟨x,.ref C,iI H x,rfl,⟨I.os,I.bare,?_,A0 (Ed I.cg hx) fl.1 (λ b o q=>aoH _ q) tk,_,_,fl,?_,tk⟩,dx,XD.kept dk ⟨_,N9,rfl⟩,hE _ _ _ he⟩
 .
  refine ⟨λ b o e n hb _=>gf b o (I.base.keep b o e n hb (by simp [eW])) (Dq b o e) (mq b o e hb),λ b o e n hb _=>?_,λ b o e n _=>by rw [gc (Dq b o e)];exact I.base.free b o e n (by simp [eW]),λ b o e _=>?_,λ b xs q=>?_,λ b ob u q=>?_,λ b ps q=>?_⟩
  .
   obtain ⟨sl,e1⟩:=I.base.slot b o e n hb (by simp [eW])
   obtain ⟨o1,e2,hd⟩:=fin b hb
   rw [e1] at e2
   cases e2
   obtain ⟨Eu,e3⟩:=up b _ e1 hd
   exact ⟨Eu,e3⟩
  .
   obtain ⟨o',e1⟩:=I.base.there b o e (by simp [eW])
   by_cases hb:b∈iS outer
   . obtain ⟨o1,e2,hd⟩:=fin b hb
     obtain ⟨Eu,e3⟩:=up b _ e2 hd
     exact ⟨_,e3⟩
   . exact ⟨o',gf b o' e1 (Dq b o e) (mq b o e hb)⟩
  . have z:=I.base.p9 b xs q
    rw [gc (λ y=>by rw [y,hx] at z;cases z)];exact z
  . have z:=I.base.o6 b ob u q
    rw [gc (λ y=>by rw [y,hx] at z;cases z)];exact z
  . obtain ⟨m,z⟩:=I.base.p8 b ps q
    exact ⟨m,by rw [gc (λ y=>by rw [y,hx] at z;cases z)];exact z⟩
 .
  intro b o e hb o' e'
  obtain ⟨o1,e1⟩:=I.base.there b o e (by simp [eW])
  have e2:=gf b o1 e1 (Dq b o e) (mq b o e hb)
  rw [e2] at e'
  cases e'
  exact hid b _ e1 (Dq b o e) (mq b o e hb)
end
structure KS (K:W.Frag) (C fI:Addr) (ut:List Value) (newId:String):Prop where
 ex:∀ h:Heap,K.In h->∃ bm N nm q bs hdct sn sub ab col dd k0 k1 k2 k3 k5 mN,h.get? C=some (excClassObj nm q C N bs bm hdct sn sub ab col dd k0 k1 k2 k3 k5 newId)/\h.Ns N mN/\mN "__init__" = some (.ref fI)/\OwnTail h ut bm
 fn:∀ h:Heap,K.In h->∃ oI,h.get? fI=some oI/\oI.cls = .type "function"
def Mq (X:Cx) (E:XK):Prop:=∀ (pins:List (Addr×Obj)) (U:St) (H:Hp) (s:Shared) (x C t:Addr) (dx:Option Addr),Inv X pins U H s->H x=some (XO x C t dx)->(∀ o,X.s₀.heap.get? x=some o->x∈X.ex)->E (.ref C) dx (iI H x)->X.xe (.ref x) s
section
variable {P:Program} {w:World} {K:W.Frag} {mg:Str->Option Value} {base:Heap} {N:List Str} {qual:Str} {scope:Scope} {f:Addr} {cd:Value} {A:Around} {outer:List Env} {s₀:Shared} {H₀:Hp} {E E':XK}
theorem CQ (hE:∀ cls d H,E' cls d H->E cls d H):Mq (eW (Bu P w) P w K mg base N qual scope f cd A outer s₀ H₀ E) E':=λ pins U H s x C t dx I hx hn he =>
 SV hE I hx (λ o q=>absurd (show x∈([]:List Addr) from hn o q) (by simp)) he
end
section
variable {X:Cx} {k:Nat} {fd:FuncData} {ps:List Str} {sp:Sp}
def Cy (C:Addr) (E:XK) (sp:Sp) (t:TA):TS:=λ _ U H=>t U H λ vs H1=>vs.length<=sizeLine/\∀ x t,H1 x=none->sp (.ref x::vs) (upd H1 x (XO x C t none)) (λ v H2=>v = .b9/\∃ d,H2 x=some (XO x C t d)/\E (.ref C) d (iI H2 x)) E0
theorem C7 {c:Str} {B kI:String} {newId:String} {rest:List Expr} {pos:Pos} {t:TA} (hc:X.calm=true) (FB:ExcBaseFacts B newId kI ut) (hm:X.mg c=some (.ref C)) (q:KS X.K C fI ut newId) (F:hZ X.prog X.w X.K X.mg X.base tO k fI fd ps sp) (hr:cA (k+1) X.A) (hb:Binds X.K fd ps []) (th:Mq X E) (ha:PA X (e₀::rest) t) (hg:Gl X c:=by rfl) (hd:(c == ("__debug__" : Str))=false:=by decide) (he:starEach (e₀::rest) X.env=(false,eval e₀ X.env)::starEach rest X.env:=by rfl) (kD:(backTo eC (starEach rest X.env)).any (·.1)=false:=by rfl) :
   PS X (.Raise (some (.Call (.Name c np) (e₀::rest) [] eC)) none pos) (Cy C E sp t):=by
 intro pins s U H D I h
 obtain ⟨tl,N,nm,qn,bs,hdct,sn,sub,ab,col,dd,k0,k1,k2,k3,k5,mN,hC,hN,hi,T⟩:=q.ex _ I.ok.mod.LK
 obtain ⟨oI,NY,Mw⟩:=q.fn _ I.ok.mod.LK
 refine xV (C:=C) (nm:=nm) (q:=qn) (N:=N) (bs:=bs) (bm:=tl) (hdct:=hdct) (sn:=sn) (sub:=sub) (ab:=ab) (col:=col) (dd:=dd) (k0:=k0) (k1:=k1) (k2:=k2) (k3:=k3) (k5:=k5)
   FB (mN:=mN) (fI:=fI) (T.hasType FB.hasBase) (I.ok.hd hc) (by rw [he];show (false || (backTo eC (starEach rest X.env)).any (·.1))=false;rw [kD];rfl) hi (oB I hg hm ⟨rfl,?_⟩ hd)
 have hA:=ha eC pins s U H _ I h
 rw [he] at hA ⊢
 refine an9 (ahF hA (λ us s2 ⟨vs,H2,I2,r2,hz,q2⟩=>⟨rfl,by rw [← r2.length];exact hz,I2.bk _ _ hC,hN.keeps I2.bk,T.keeps I2.bk,⟨oI,I2.bk _ _ NY,Mw⟩,λ h' x hle hx=>?_⟩) λ _ _ y=>y)
 obtain ⟨t0,Yu,_,_⟩:=hx.there
 have I3:=I2.laid (a:=x) (o:=XO x C t0 none) (h':=h') (t':=s2.toks) hx.keeps hle ⟨Yu,⟨_,Yu⟩,λ h1 h2 p z=>z _ p⟩
 have hq:=q2 x t0 (I2.cg.fresh hle)
 have r3:Vals (V.ref x::vs) (Value.ref x::us):=.cons rfl r2
 have hl:(Value.ref x::us++[]).length=ps.length:=by
   have e:=r3.length
   rw [F.len _ _ _ _ hq] at e
   rw [alw]
   exact e.symm
 have Yl:=hb _ (Value.ref x::us) I3.oE hl
 rw [alw] at Yl
 refine apO (aom (F.run _ X.stack _ _ ⟨Value.ref x::us,[]⟩ (Value.ref x::us) _ _ E0 (hr.make C us []) (I3.MA.make C us []) Yl r3 hq) λ r s' EY=>?_)
 cases r with
 | error e=>exact False.elim EY
 | ok fl =>
   cases fl with
   | ret u =>
     obtain ⟨v,H',I4,rv,ev,d,Ey,hE⟩:=I3.after EY
     subst ev
     refine ⟨rv,I4.bk _ _ hC,⟨t0,d,(I4.cg x _ Ey).1⟩,th pins U H' s' x C t0 d I4 Ey (λ o z=>?_) hE⟩
     by_cases hx':x∈X.ex
     . exact hx'
     . obtain ⟨o',e'⟩:=I2.base.there x o z hx'
       rw [hx.new] at e'
       cases e'
   | next=>exact False.elim EY
   | brk=>exact False.elim EY
   | cont=>exact False.elim EY
end
theorem KD {K:W.Frag} {h:Heap} {N:Addr} {m:Str->Option Value} {n:Str} {v:Value} (X:K.In h) (G:h.Ns N m) (e:W.nsIn K N n=some (some v)):m n=some v:=by
 obtain ⟨o,es,ep,ho,hd,_,hf⟩:=G
 unfold W.nsIn at e
 split at e
 .
  rename_i c d Yg n' sl q
  have e1:=X _ _ q
  rw [ho] at e1
  cases e1
  cases hd
  rw [← hf]
  have fd:nsFind es n=(es.toList.find? λ x=>x.key.isStr n).map (·.val):=by
    unfold nsFind findBy
    rw [← apW]
  rw [fd]
  split at e
  . rename_i en he
    rw [he]
    cases e
    rfl
  . split at e<;>cases e
 . cases e
def qS (K:W.Frag) (C f:Addr) (ut:List Value) (newId:String):Bool:=(K.lookup C).any λ o=>decide (o.cls = .type "type") &&
 match o.data with
 | .cls cd=>decide (cd.mro = .ref C::cd.mro.tail) && decide (o.slots.size=6) && decide (o.slots[4]?=some (some (.builtin newId))) && !cd.hasDel && W.tailIn K ut cd.mro.tail && W.nsOkIn K cd.ns && decide (W.nsIn K cd.ns "__init__" = some (some (.ref f)))
 | _=>false
@[elab_as_elim] theorem c9 {α:Type} {motive:List α->Prop} {n:Nat} {us:List α} (h:us.length=n+1) (k:∀ a t,t.length=n->motive (a::t)):motive us:=by
 cases us with
 | nil=>cases h
 | cons a t=>exact k a t (Nat.succ.inj h)
theorem uM {α:Type} {n:Nat} {l:List α} (h:l.length=n+1):∃ a t,l=a::t/\t.length=n:=c9 h λ a t h=>⟨a,t,rfl,h⟩
theorem BZ {K:W.Frag} {f:Addr} {newId:String} (q:qS K C f ut newId=true) (hf:W.typeIn K (.ref f)=some (.type "function")):KS K C f ut newId where
 ex:=λ h X=>by
   unfold qS at q
   cases ho:K.lookup C with
   | none=>rw [ho] at q;cases q
   | some o =>
     rw [ho] at q
     obtain ⟨cls,dd,data,sl⟩:=o
     simp only [Option.any_some,aeX,ahP] at q
     obtain ⟨rfl,q⟩:=q
     cases data with
     | cls cd =>
       obtain ⟨nm,bs,mro,ns,qn,hd,sn,sub,ab,col,del⟩:=cd
       simp only [aeX,ahP,anF] at q
       obtain ⟨⟨⟨⟨⟨⟨hm,hsz⟩,h4⟩,rfl⟩,ht⟩,cg⟩,OX⟩:=q
       obtain ⟨l⟩:=sl
       obtain ⟨k0,l,rfl,Na⟩:=uM (n:=5) (l:=l) hsz
       obtain ⟨k1,l,rfl,Md⟩:=uM (n:=4) (l:=l) Na
       obtain ⟨k2,l,rfl,OM⟩:=uM (n:=3) (l:=l) Md
       obtain ⟨k3,l,rfl,Yh⟩:=uM (n:=2) (l:=l) OM
       obtain ⟨k4,l,rfl,hz4⟩:=uM (n:=1) (l:=l) Yh
       obtain ⟨k5,l,rfl,hz5⟩:=uM (n:=0) (l:=l) hz4
       obtain rfl:=List.length_eq_zero_iff.mp hz5
       have h4':k4=some (.builtin newId):=by simpa using h4
       subst h4'
       have e1:=X _ _ ho
       rw [hm] at e1
       exact ⟨mro.tail,ns,nm,qn,bs,hd,sn,sub,ab,col,dd,k0,k1,k2,k3,k5,_,e1,.of_isNs (W.isNs_of_in X cg),KD X (.of_isNs (W.isNs_of_in X cg)) OX,W.tail_of_in X ht⟩
     | _=>cases q
 fn:=λ h X=>by
   obtain ⟨o,ho,hc⟩:=Option.map_eq_some_iff.mp (show (K.lookup f).map (·.cls)=some (.type "function") from hf)
   exact ⟨o,X _ _ ho,hc⟩
section
variable {X:Cx} {x:Str} {pos:Pos}
theorem fH {i:Int} (hg:Gl X x) (hm:∃ t,X.mg x=some (.int i t)) (hd:(x == ("__debug__" : Str))=false:=by decide):PE X (.Name x pos) (tC (.int i)):=by
 obtain ⟨t,hm⟩:=hm
 exact gU hg hm ⟨t,rfl⟩ hd
end
def Bn (K:W.Frag) (a:Addr) (xs:List V):Prop :=
 ∃ (o:Obj) (br:Array Value) (n:Nat),K.lookup a=some o/\o.cls = .type "tuple"/\o.data = .seq br n/\br.size<=sizeLine/\Vals xs br.toList
theorem Bn.at {K:W.Frag} {a:Addr} (h:Bn K a xs) (H:Hp):bP K H a xs:=.inr h
theorem L7 {K:W.Frag} {a:Addr} {dd:Option Addr} {n:Nat} {sl:Array (Option Value)} {i j:Int} {t u:Tok} (h:K.lookup a=some ⟨.type "tuple",dd,.seq #[.int i t,.int j u] n,sl⟩):Bn K a [.int i,.int j] :=
 ⟨_,_,_,h,rfl,rfl,by show 2<=sizeLine;decide,.cons ⟨t,rfl⟩ (.cons ⟨u,rfl⟩ .nil)⟩
def AN (K:W.Frag) (T:Addr) (f9:List V):Prop:=∃ o n items,K.lookup T=some o/\o.data = .seq items n/\Vals f9 items.toList
structure mP (K:W.Frag) (x qual:Str) (st:Stmt) (dV:Value) (f:Addr) (fd:FuncData):Prop where
 ex:∃ (oc:Value) (od:Option Addr) (kV doc pm:Value) (an:Option Addr) (bq ct:Value) (xv:Array (Option Value)),
   fd=W.fnOf x qual (bV st) (bj st) (ai st) dV kV doc pm an bq ct/\K.lookup f=some ⟨oc,od,.func fd,xv⟩/\W.codeIn K bq qual=true
 kp:W.keepIn K (.ref f)=true
theorem bN {K:W.Frag} {x qual:Str} {st:Stmt} {f:Addr} {oc:Value} {od an:Option Addr} {xv:Array (Option Value)} {dV kV doc pm bq ct:Value} (l:K.lookup f=some ⟨oc,od,.func (W.fnOf x qual (bV st) (bj st) (ai st) dV kV doc pm an bq ct),xv⟩) (c:W.codeIn K bq qual=true) (k:W.keepIn K (.ref f)=true):mP K x qual st dV f (W.fnOf x qual (bV st) (bj st) (ai st) dV kV doc pm an bq ct):=⟨⟨oc,od,kV,doc,pm,an,bq,ct,xv,rfl,l,c⟩,k⟩
section
variable {P:Program} {w:World} {K:W.Frag} {mg:Str->Option Value} {base:Heap} {x qual m:Str} {st:Stmt} {dV:Value} {f C:Addr} {fd:FuncData} {N ps:List Str} {k:Nat} {sp:Sp} {ds:List Value}
theorem mP.ok (F:mP K x qual st dV f fd) (S:aw N ps (ai st)) (len:∀ vs H Q E,sp vs H Q E->vs.length=ps.length) (d9:∀ (bq:Value) (A:Around) (outer:List Env) (s:Shared) (H:Hp) (vs:List V) (Q:VK) (E:XK),cA k (A.deeper (envOfC qual (ai st) s.heap.objs.size f bq))->sp vs H Q E ->
     ∃ t,qg (eW tO P w K mg base N qual (ai st) f bq A outer s H E).D8 (bj st) t/\t { nx:=λ _ H'=>Q .b9 H',rt:=Q } (start N vs) H):hZ P w K mg base tO (k+1) f fd ps sp:=by
 obtain ⟨oc,od,kV,doc,pm,an,bq,ct,xv,rfl,lk,qI⟩:=F.ex
 refine G6 lk qI S len λ A outer s H vs Q E hr HN=>?_
 obtain ⟨t,h,q⟩:=d9 bq A outer s H vs Q E hr HN
 exact ⟨t,h.D8,q⟩
theorem mP.binds {o:Obj} {n:Nat} {items:Array Value} (F:mP K x qual st (.ref T) f fd) (hT:K.lookup T=some o) (ho:o.data = .seq items n) (h:∀ (kV doc pm:Value) (an:Option Addr) (bq ct:Value) (us:List Value),(us++ds).length=ps.length->∃ k,bindArgs (W.fnOf x qual (bV st) (bj st) (ai st) (.ref T) kV doc pm an bq ct) ⟨us,[]⟩=seqItems? (.ref T) >>= k/\k (some items)=pure (ps.zip (us++ds))):Binds K fd ps ds:=by
 obtain ⟨oc,od,kV,doc,pm,an,bq,ct,xv,rfl,lk,qI⟩:=F.ex
 intro s us X hl
 obtain ⟨k,h1,h2⟩:=h kV doc pm an bq ct us hl
 exact W.binds_K X rfl hT ho h1 h2
theorem mP.Bc (F:mP K x qual st .none f fd) (h:∀ (kV doc pm:Value) (an:Option Addr) (bq ct:Value) (us:List Value),us.length=ps.length->bindArgs (W.fnOf x qual (bV st) (bj st) (ai st) .none kV doc pm an bq ct) ⟨us,[]⟩=pure (ps.zip us)):Binds K fd ps []:=by
 obtain ⟨oc,od,kV,doc,pm,an,bq,ct,xv,rfl,lk,qI⟩:=F.ex
 exact .all (h kV doc pm an bq ct)
def fC (K:W.Frag) (C:Addr) (m qual:Str) (st:Stmt) (dV:Value):Prop:=∃ f fd,Meth K C m f/\mP K m qual st dV f fd
def hV (P:Program) (w:World) (K:W.Frag) (mg:Str->Option Value) (base:Heap) (C:Addr) (m:Str) (k:Nat) (ps:List Str) (ds:List Value) (sp:Sp):Prop :=
 ∃ f fd,Meth K C m f/\Binds K fd ps ds/\hZ P w K mg base tO k f fd ps sp
theorem fC.JY (h:fC K C m qual st .none) (S:aw N ps (ai st)) (len:∀ vs H Q E,sp vs H Q E->vs.length=ps.length) (hb:∀ (kV doc pm:Value) (an:Option Addr) (bq ct:Value) (us:List Value),us.length=ps.length->bindArgs (W.fnOf m qual (bV st) (bj st) (ai st) .none kV doc pm an bq ct) ⟨us,[]⟩=pure (ps.zip us)) (d9:∀ (f:Addr) (bq:Value) (A:Around) (outer:List Env) (s:Shared) (H:Hp) (vs:List V) (Q:VK) (E:XK),cA k (A.deeper (envOfC qual (ai st) s.heap.objs.size f bq))->sp vs H Q E ->
     ∃ t,qg (eW tO P w K mg base N qual (ai st) f bq A outer s H E).D8 (bj st) t/\t { nx:=λ _ H'=>Q .b9 H',rt:=Q } (start N vs) H):hV P w K mg base C m (k+1) ps [] sp:=by
 obtain ⟨f,fd,M,F⟩:=h
 exact ⟨f,fd,M,F.Bc hb,F.ok S len λ bq A outer s H vs Q E hr hs=>d9 f bq A outer s H vs Q E hr hs⟩
structure Fj (K:W.Frag) (C:Addr):Prop where
 makes:W.makesIn K C=true
 kp:W.keepIn K (.ref C)=true
def Mz (K:W.Frag) (mg:Str->Option Value) (x:Str) (st:Stmt) (dV:Value):Prop:=∃ f fd,mg x=some (.ref f)/\mP K x x st dV f fd
def U3 (P:Program) (w:World) (K:W.Frag) (mg:Str->Option Value) (base:Heap) (x:Str) (k:Nat) (ps:List Str) (ds:List Value) (sp:Sp):Prop :=
 ∃ f fd,mg x=some (.ref f)/\W.keepIn K (.ref f)=true/\Binds K fd ps ds/\hZ P w K mg base tO k f fd ps sp
end
section
variable {X:Cx} {C:Addr} {m x:Str} {p pos apos:Pos} {e o:Expr} {es:List Expr} {ta:TE} {t:TA} {k:Nat} {ps:List Str} {sp:Sp} {ds:List Value} {f9:List V}
theorem aR {pl:Sem Bool} (he:PE X o ta) (c:xu X.K C) (D:hV X.prog X.w X.K X.mg X.base C m k ps ds sp) (hd:Vals f9 ds) (hr:cA k X.A) (ha:PA X (e::es) t) (mO:starEach (e::es) X.env=(false,eval e X.env)::starEach es X.env:=by rfl) (jG:(backTo pos (starEach es X.env)).any (·.1)=false:=by rfl) (ht:eval (.Call (.Attribute o m apos) (e::es) [] pos) X.env=(do
     let ov ← eval o X.env
     standAt apos.atName
     let (f,first) ← holding [ov] (getMethod ov m pl)
     callWith pos f first (backTo pos (starEach (e::es) X.env)) (backToKw pos (keywordEach [] X.env))):=by rfl) :
   PE X (.Call (.Attribute o m apos) (e::es) [] pos) (u8 C m sp f9 E0 ta t):=by
 obtain ⟨f,fd,hm,hb,F⟩:=D
 exact Cb (pl:=pl) he c hm F hr hb hd yS ha mO jG ht
theorem cZ {pl:Sem Bool} (he:PE X o ta) (c:xu X.K C) (D:hV X.prog X.w X.K X.mg X.base C m k ps ds sp) (hd:Vals f9 ds) (hr:cA k X.A) (ht:eval (.Call (.Attribute o m apos) [] [] pos) X.env=(do
     let ov ← eval o X.env
     standAt apos.atName
     let (f,first) ← holding [ov] (getMethod ov m pl)
     callWith pos f first (backTo pos (starEach [] X.env)) (backToKw pos (keywordEach [] X.env))):=by rfl) :
   PE X (.Call (.Attribute o m apos) [] [] pos) (u8 C m sp f9 E0 ta JI):=by
 obtain ⟨f,fd,hm,hb,F⟩:=D
 exact Ge (pl:=pl) he c hm F hr hb hd yS ht
theorem tG (M:Fj X.K C) (D:hV X.prog X.w X.K X.mg X.base C "__init__" k ps ds sp) (hd:Vals f9 ds) (hr:cA (k+1) X.A) (hm:X.mg x=some (.ref C)) (ha:PA X (e::es) t) (hg:Gl X x:=by rfl) (zx:(x == ("__debug__" : Str))=false:=by decide) (he:starEach (e::es) X.env=(false,eval e X.env)::starEach es X.env:=by rfl) (jG:(backTo pos (starEach es X.env)).any (·.1)=false:=by rfl):PE X (.Call (.Name x p) (e::es) [] pos) (FW C sp f9 E0 t):=by
 obtain ⟨f,fd,me,hb,F⟩:=D
 exact Ky ⟨M.makes,me.at_,me.fn,M.kp⟩ F hr hg hm hb hd yS ha zx he jG
theorem Dz (D:U3 X.prog X.w X.K X.mg X.base x k ps ds sp) (hd:Vals f9 ds) (hr:cA k X.A) (ha:PA X (e::es) t) (hg:Gl X x:=by rfl) (zx:(x == ("__debug__" : Str))=false:=by decide) (he:starEach (e::es) X.env=(false,eval e X.env)::starEach es X.env:=by rfl) (jG:(backTo pos (starEach es X.env)).any (·.1)=false:=by rfl):PE X (.Call (.Name x p) (e::es) [] pos) (Ct sp f9 E0 t):=by
 obtain ⟨f,fd,hm,hk,hb,F⟩:=D
 exact BY F hr hg hm hk hb hd yS ha zx he jG
end
section
variable {X:Cx} {pins:List (Addr×Obj)} {U:St} {H:Hp} {s:Shared} {h':Heap} {ch:List Addr}
theorem Inv.wT {a:Addr} {t':Nat} (I:Inv X pins U H s) (k:∀ b u,b∉ch->s.heap.get? b=some u->h'.get? b=some u) (hf:∀ b∈ch,tT X pins H b) (hp:s.heap.objs.size<=a) (new:cS X.prog X.w (upd H a o) h' a o):Inv X pins U (upd H a o) { s with heap:=h',toks:=t' }:=by
 have hn:H a=none:=I.cg.fresh hp
 refine I.step (g':=s.gens) (d':=s.drawn) (ch:=ch) (λ b hb=>⟨(hf b hb).2.2.2.1,(hf b hb).2.1,(hf b hb).2.2.2.2.1,(hf b hb).2.2.2.2.2⟩) (λ b u _ _ hc q _=>k b u hc q) (λ b u _ _ hc q _=>⟨u.slots,k b u hc q⟩)
   (λ b u _ q n=>by rw [ax (ae6 (aec (ado q) hp))];exact n) (λ b u hc q=>⟨u,k b u hc q⟩) (λ b xs q=>by rw [ax (av q hn)];exact q) (λ b u xs q=>by rw [ax (av q hn)];exact q)
   (λ b ps q=>⟨#[],by rw [ax (av q hn),q];simp⟩) (λ m hm=>?_) (λ b u q=>?_) I.bare
 . obtain ⟨ob,es,ep,ho,r⟩:=hm
   exact ⟨ob,es,ep,k _ ob (λ z=>(hf _ z).2.1 rfl) ho,r⟩
 .
  by_cases hb:b=a
  . subst hb
    rw [ag] at q
    cases q
    exact new
  .
   rw [ax hb] at q
   refine (I.cg b u q).gf (λ c v hc z=>k c v (λ y=>?_) z) (λ c z=>by rw [ax (av z hn)];exact z) λ c xs z=>by rw [ax (av z hn)];exact z
   have n:=(hf c y).1
   rcases hc with rfl|hc
   . rw [n] at q;cases q
   . rw [n] at hc;cases hc
theorem Inv.we {t':Nat} (I:Inv X pins U H s) (k:∀ b u,b∉ch->s.heap.get? b=some u->h'.get? b=some u) (hf:∀ b∈ch,tT X pins H b):Inv X pins U H { s with heap:=h',toks:=t' }:=by
 refine I.step (g':=s.gens) (d':=s.drawn) (ch:=ch) (λ b hb=>⟨(hf b hb).2.2.2.1,(hf b hb).2.1,(hf b hb).2.2.2.2.1,(hf b hb).2.2.2.2.2⟩) (λ b u _ _ hc q _=>k b u hc q) (λ b u _ _ hc q _=>⟨u.slots,k b u hc q⟩)
   (λ _ _ _ _ n=>n) (λ b u hc q=>⟨u,k b u hc q⟩) (λ _ _ q=>q) (λ _ _ _ q=>q) (λ b ps q=>⟨#[],by rw [q];simp⟩) (λ m hm=>?_) (λ b u q=>?_) I.bare
 . obtain ⟨ob,es,ep,ho,r⟩:=hm
   exact ⟨ob,es,ep,k _ ob (λ z=>(hf _ z).2.1 rfl) ho,r⟩
 .
  refine (I.cg b u q).gf (λ c v hc z=>k c v (λ y=>?_) z) (λ _ z=>z) λ _ _ z=>z
  have n:=(hf c y).1
  rcases hc with rfl|hc
  . rw [n] at q;cases q
  . rw [n] at hc;cases hc
end
def SH (K:W.Frag) (a b:Addr):It :=
 ⟨λ i H=>∃ xs ys x y,aT K H a xs/\aT K H b ys/\xs[i]?=some x/\ys[i]?=some y,
  λ i H v H'=>∃ p x y,H p=none/\v = .ref p/\H'=upd H p (.tup [x,y])/\(∀ xs,aT K H a xs->xs[i]?=some x)/\∀ ys,aT K H b ys->ys[i]?=some y,
  λ i H=>∃ xs ys,aT K H a xs/\aT K H b ys/\(xs.length<=i∨ys.length<=i)⟩
def G0 (z TI TO i1 i2 a b:Addr) (i:Nat) (h:Heap):Prop:=IsZip h z TI TO .none/\IsPair h TI (.ref i1) (.ref i2)/\(∃ u v,IsPair h TO u v)/\h.IsListIter i1 a i/\h.IsListIter i2 b i
theorem G0.obj {z TI TO a b:Addr} {i:Nat} {h:Heap} (st:G0 z TI TO i1 i2 a b i h):∀ c∈[z,TI,TO,i1,i2],∃ o,h.get? c=some o/\∀ v,o.data ≠ .cell v:=λ c hc=>by
 obtain ⟨hz,Lp,⟨u,v,M0⟩,⟨o1,e1,_,d1⟩,⟨o2,e2,_,d2⟩⟩:=st
 simp only [acs,aaI,agT] at hc
 rcases hc with rfl|rfl|rfl|rfl|rfl
 . exact ⟨_,hz,λ v q=>by cases q⟩
 . exact ⟨_,Lp,λ v q=>by cases q⟩
 . exact ⟨_,M0,λ v q=>by cases q⟩
 . exact ⟨o1,e1,λ v q=>by rw [d1] at q;cases q⟩
 . exact ⟨o2,e2,λ v q=>by rw [d2] at q;cases q⟩
theorem F3 {P:Program} {w:World} {K:W.Frag} {z TI TO a b:Addr} (D:ZipApart z TI TO i1 i2 a b) :
   Turn P w K (.Tuple elts x1 pF) (SH K a b) [z,TI,TO,i1,i2] z (G0 z TI TO i1 i2 a b) where
 mem:=by simp
 obj:=λ i h st=>st.obj
 keep:=λ i h h' st k=>by
   obtain ⟨hz,Lp,⟨u,v,M0⟩,h1,h2⟩:=st
   exact ⟨k z (by simp) _ hz,k TI (by simp) _ Lp,⟨u,v,k TO (by simp) _ M0⟩,h1.at λ o e=>k i1 (by simp) o e,h2.at λ o e=>k i2 (by simp) o e⟩
 item:=by
   intro X hP hw hK hc i pins s U H E I hf st hg
   subst hP hw hK
   obtain ⟨xs,ys,x,y,HM,HL,hx,hy⟩:=hg
   obtain ⟨NX,Yv,p1,Md⟩:=I.list HM
   obtain ⟨mY,X4,p2,OM⟩:=I.list HL
   obtain ⟨u1,hu1,ru1⟩:=Yv.get hx
   obtain ⟨u2,hu2,ru2⟩:=X4.get hy
   have lt:∀ c∈[z,TI,TO,i1,i2],c<s.heap.objs.size:=λ c xJ=>by
     obtain ⟨o,e,_⟩:=st.obj c xJ
     exact ado e
   obtain ⟨hz,Lp,⟨u,v,M0⟩,h1,h2⟩:=st
   refine wpAny_pyNext_zip_item D hz Lp M0 h1 h2 p1.isList p2.isList (x:=u1) (y:=u2) (by simpa using hu1) (by simpa using hu2) λ h' z1 z2 z3 z4 z5 z6 kk=>?_
   refine ⟨.ref s.heap.objs.size,rfl,wpAny_letOwnedTupleGo_zip (s:={ s with heap:=h' }) z1 λ h2' zz sb=>?_⟩
   have EG:∀ c o,c∉[z,TI,TO,i1,i2]->s.heap.get? c=some o->h2'.get? c=some o:=λ c o hn e=>by
     simp only [acs,aaI,agT,an3] at hn
     exact sb.extBut _ _ hn.1 (kk c o hn.1 hn.2.2.1 hn.2.2.2.1 hn.2.2.2.2 e)
   have nz:s.heap.objs.size≠z:=aot (lt z (by simp))
   have n5:IsPair h2' s.heap.objs.size u1 u2:=sb.extBut _ _ nz z5
   refine ⟨.ref s.heap.objs.size,upd H s.heap.objs.size (.tup [x,y]),I.wT (t':=s.toks) EG hf (aat _) ⟨by show 2<=sizeLine;decide,[u1,u2],.cons ru1 (.cons ru2 .nil),⟨_,n5,rfl,_,rfl⟩⟩,rfl,
     ⟨_,x,y,I.cg.fresh (aat _),rfl,rfl,λ xs' h=>by rw [I.oy h HM];exact hx,λ ys' h=>by rw [I.oy h HL];exact hy⟩,?_,λ c xJ=>?_⟩
   . exact ⟨zz,sb.extBut _ _ D.TIz (kk _ _ D.TIz D.TITO D.TIi1 D.TIi2 Lp),⟨_,_,sb.extBut _ _ D.TOz z2⟩,z3.extBut sb.extBut D.i1z,z4.extBut sb.extBut D.i2z⟩
   . rw [ax (ae6 (lt c xJ))]
     exact (hf c xJ).1
 done:=by
   intro X hP hw hK hc i pins s U H E I hf st hg
   subst hP hw hK
   obtain ⟨xs,ys,HM,HL,hl⟩:=hg
   obtain ⟨NX,Yv,p1,Md⟩:=I.list HM
   obtain ⟨mY,X4,p2,OM⟩:=I.list HL
   have l1:=Yv.length
   have l2:=X4.length
   obtain ⟨hz,Lp,⟨u,v,M0⟩,h1,h2⟩:=st
   have aiN:NX.toArray[i]?=none∨mY.toArray[i]?=none:=by
     rcases hl with h|h
     . exact .inl (by simp;lia)
     . exact .inr (by simp;lia)
   refine wpAny_pyNext_zip_end (I.ok.hd hc) D hz Lp M0 h1 h2 p1.isList p2.isList aiN λ h' kk=>⟨rfl,I.we (ch:=[z,TI,TO,i1,i2]) (t':=s.toks) (λ c o hn e=>?_) hf⟩
   simp only [acs,aaI,agT,an3] at hn
   exact kk c o hn.1 hn.2.2.1 hn.2.2.2.1 hn.2.2.2.2 e
 self:=λ _ _ _ _ _ st h=>wpAny_pyIter_zip st.1 h
theorem MJ:bootBuiltins "zip" = some (.type "zip"):=by decide +kernel
section
variable {X:Cx}
def afe (K:W.Frag) (ta:TA):TI:=λ U H R=>ta U H λ vs H1=>∃ a b,vs=[.ref a,.ref b]/\(∃ xs,aT K H1 a xs)/\(∃ ys,aT K H1 b ys)/\R (SH K a b) H1
theorem Oi {a b:Expr} {ta:TA} {p pos:Pos} (hg:Gl X "zip") (hm:X.mg "zip" = none) (ha:PA X [a,b] ta) (hs:starEach [a,b] X.env=[(false,eval a X.env),(false,eval b X.env)]:=by rfl) (DB:starEach [b] X.env=[(false,eval b X.env)]:=by rfl):PI X (.Tuple elts x1 pF) (.Call (.Name "zip" p) [a,b] [] pos) (afe X.K ta):=by
 intro pins s U H R I h
 refine Call_ (lK I hg hm MJ (akT (cG (ha pos pins s U H _ I h) λ us s1 ⟨vs,H1,I1,r1,q1⟩=>?_) (by rw [hs,DB]) (by rw [DB];rfl)))
 obtain ⟨a,b,e,⟨xs,HM⟩,⟨ys,HL⟩,q⟩:=q1
 subst e
 obtain ⟨u,v,rfl,r,r'⟩:=vals2 r1
 obtain rfl:u=Value.ref a:=r
 obtain rfl:v=Value.ref b:=r'
 obtain ⟨NX,Yv,p1,Md⟩:=I1.list HM
 obtain ⟨mY,X4,p2,OM⟩:=I1.list HL
 refine call_zip_2 p1.isList p2.isList λ h' z1 z2 z3 z4 z5 z6 kk=>?_
 have la:a<s1.heap.objs.size:=by obtain ⟨_,e,_⟩:=p1.isList;exact ado e
 have lb:b<s1.heap.objs.size:=by obtain ⟨_,e,_⟩:=p2.isList;exact ado e
 refine wpAny_pyIter_zip z1 ?_
 refine ⟨s1.heap.objs.size+4,[s1.heap.objs.size+4,s1.heap.objs.size+2,s1.heap.objs.size+3,s1.heap.objs.size,s1.heap.objs.size+1],_,_,H1,rfl,I1.kept (t':=s1.toks) kk,F3 (zipApart_new la lb),⟨z1,z2,⟨_,_,z3⟩,z4,z5⟩,λ c hc=>?_,q⟩
 have hle:s1.heap.objs.size<=c:=by
   simp only [acs,aaI,agT] at hc
   rcases hc with rfl|rfl|rfl|rfl|rfl
   . exact anJ _ _
   . exact anJ _ _
   . exact anJ _ _
   . exact aat _
   . exact anJ _ _
 exact I1.yo hle (I1.cg.fresh hle)
end
theorem Fc {K:W.Frag} {a b:Addr} {ys:List V} {tt:TT} {D:Addr} {Q:Hp->Prop} (Pv:Nat->List V->St->Hp->Prop) (h0:Pv 0 [] U H) (hl:∀ i acc U H,i<=min xs.length ys.length->Pv i acc U H->aT K H a xs/\aT K H b ys) (hs:∀ i x y p acc U H,xs[i]?=some x->ys[i]?=some y->H p=none->Pv i acc U H->g (.ref p) U (upd H p (.tup [x,y])) λ σ2 H3=>tt σ2 H3 λ k H4 =>
     if k=true then te σ2 H4 λ v H5=>H5 D=some (.lst acc)/\acc.length<sizeLine/\Pv (i+1) (acc++[v]) σ2 (upd H5 D (.lst (acc++[v]))) else Pv (i+1) acc σ2 H4) (hd:∀ acc U H,Pv (min xs.length ys.length) acc U H->Q H) :
   ∃ W:Nat->Nat->List V->St->Hp->Prop,(∃ m,W 0 m [] U H)/\∀ i m acc σ' H',W i m acc σ' H'->((SH K a b).stop i H'/\Q H') ∨
     ((SH K a b).go i H'/\∃ N:List V->St->Hp->Prop,(∀ iZ σ2 H4,N iZ σ2 H4->∃ m',m'<m/\W (i+1) m' iZ σ2 H4)/\∀ x H2,(SH K a b).Gn i H' x H2->g x σ' H2 λ σ2 H3=>tt σ2 H3 λ k H4 =>
       if k=true then te σ2 H4 λ y H5=>H5 D=some (.lst acc)/\acc.length<sizeLine/\N (acc++[y]) σ2 (upd H5 D (.lst (acc++[y]))) else N acc σ2 H4):=by
 refine ⟨λ i m acc U H=>m=min xs.length ys.length - i/\i<=min xs.length ys.length/\Pv i acc U H,⟨_,rfl,aiv _,h0⟩,?_⟩
 rintro i m acc U H ⟨rfl,hi,p⟩
 obtain ⟨q1,q2⟩:=hl i acc U H hi p
 by_cases mH:i<min xs.length ys.length
 .
  have h1:i<xs.length:=by lia
  have h2:i<ys.length:=by lia
  refine .inr ⟨⟨xs,ys,xs[i],ys[i],q1,q2,by simp [h1],by simp [h2]⟩,Pv (i+1),λ iZ σ' H' p'=>⟨min xs.length ys.length - (i+1),by lia,rfl,mH,p'⟩,λ v H' y=>?_⟩
  obtain ⟨pp,x,y,hn,rfl,rfl,e1,e2⟩:=y
  exact hs i x y pp acc U H (e1 xs q1) (e2 ys q2) hn p
 . have e:i=min xs.length ys.length:=by lia
   subst e
   exact .inl ⟨⟨xs,ys,q1,q2,by lia⟩,hd acc U H p⟩
mutual
def Dn (K:W.Frag) (H:Hp):PyData->V->Prop
 | .none,v=>v = .b9
 | .bool b,v=>v = .bl b
 | .int i,v=>v = .int i
 | .str x,v=>v = .str x
 | .list ds,v=>∃ a xs,v = .ref a/\aT K H a xs/\bT K H ds xs
 | .tuple ds,v=>∃ a xs,v = .ref a/\bP K H a xs/\bT K H ds xs
 | .dict _,_=>False
def bT (K:W.Frag) (H:Hp):List PyData->List V->Prop
 | [],xs=>xs=[]
 | d::ds,xs=>∃ x r,xs=x::r/\Dn K H d x/\bT K H ds r
end
def dS:PyData->Bool
 | .list _=>false
 | .dict _=>false
 | .tuple ds=>ds.attach.all λ ⟨d,_⟩=>dS d
 | _=>true
theorem ln {ds:List PyData}:dS (.tuple ds)=true↔∀ d∈ds,dS d=true:=by
 rw [dS,anK]
 constructor
 . intro h d hd
   exact h ⟨d,hd⟩ (List.mem_attach ..)
 . intro h x _
   exact h x.1 x.2
def bw (K:W.Frag) (H H':Hp):Prop:=∀ a xs,bP K H a xs->bP K H' a xs
theorem bw.refl {K:W.Frag} (H:Hp):bw K H H:=λ _ _ h=>h
theorem bw.trans {K:W.Frag} {H1 H2:Hp} (a:bw K H H1) (b:bw K H1 H2):bw K H H2:=λ c xs h=>b c xs (a c xs h)
theorem aA.ts {K:W.Frag} (s:aA H H'):bw K H H':=λ _ _ h=>s.tup h
def Mm:HO->Bool
 | .tup _=>false
 | .zA _ _=>false
 | _=>true
theorem cF {K:W.Frag} {a:Addr} {o':HO} (h:H a=some o) (n:Mm o=true):bw K H (upd H a o'):=λ b xs q=>by
 have ne:∀ u,H b=some u->Mm u=false->b≠a:=λ u e z y=>by
   subst y
   rw [h] at e
   cases e
   rw [n] at z
   cases z
 rcases q with (q|⟨ob,q⟩)|q
 . exact .inl (.inl (by rw [ax (ne _ q rfl)];exact q))
 . exact .inl (.inr ⟨ob,by rw [ax (ne _ q rfl)];exact q⟩)
 . exact .inr q
section
variable {K:W.Frag} {H H':Hp}
mutual
theorem Dn.same (s:aA H H'):∀ (d:PyData) {v:V},Dn K H d v->Dn K H' d v
 | .none,_,h=>by rw [Dn] at h ⊢;exact h
 | .bool _,_,h=>by rw [Dn] at h ⊢;exact h
 | .int _,_,h=>by rw [Dn] at h ⊢;exact h
 | .str _,_,h=>by rw [Dn] at h ⊢;exact h
 | .list ds,_,h=>by
   rw [Dn] at h ⊢
   obtain ⟨a,xs,e,q,r⟩:=h
   exact ⟨a,xs,e,s.seq q,bT.same s ds r⟩
 | .tuple ds,_,h=>by
   rw [Dn] at h ⊢
   obtain ⟨a,xs,e,q,r⟩:=h
   exact ⟨a,xs,e,s.tup q,bT.same s ds r⟩
 | .dict _,_,h=>by rw [Dn] at h;exact h.elim
theorem bT.same (s:aA H H'):∀ (ds:List PyData) {xs:List V},bT K H ds xs->bT K H' ds xs
 | [],_,h=>by rw [bT] at h ⊢;exact h
 | d::ds,_,h=>by
   rw [bT] at h ⊢
   obtain ⟨x,r,e,q,t⟩:=h
   exact ⟨x,r,e,Dn.same s d q,bT.same s ds t⟩
end
mutual
theorem Dn.ts (s:bw K H H'):∀ (d:PyData) {v:V},dS d=true->Dn K H d v->Dn K H' d v
 | .none,_,_,h=>by rw [Dn] at h ⊢;exact h
 | .bool _,_,_,h=>by rw [Dn] at h ⊢;exact h
 | .int _,_,_,h=>by rw [Dn] at h ⊢;exact h
 | .str _,_,_,h=>by rw [Dn] at h ⊢;exact h
 | .list ds,_,f,_=>by rw [dS] at f;cases f
 | .tuple ds,_,f,h=>by
   rw [Dn] at h ⊢
   obtain ⟨a,xs,e,q,r⟩:=h
   exact ⟨a,xs,e,s _ _ q,bT.ts s ds (ln.mp f) r⟩
 | .dict _,_,_,h=>by rw [Dn] at h;exact h.elim
theorem bT.ts (s:bw K H H'):∀ (ds:List PyData) {xs:List V},(∀ d∈ds,dS d=true)->bT K H ds xs->bT K H' ds xs
 | [],_,_,h=>by rw [bT] at h ⊢;exact h
 | d::ds,_,f,h=>by
   rw [bT] at h ⊢
   obtain ⟨x,r,e,q,t⟩:=h
   exact ⟨x,r,e,Dn.ts s d (f d afg) q,bT.ts s ds (λ d hd=>f d (aeC _ hd)) t⟩
end
theorem bT.length:∀ {ds:List PyData} {xs:List V},bT K H ds xs->xs.length=ds.length
 | [],_,h=>by rw [bT] at h;rw [h];rfl
 | d::ds,_,h=>by
   rw [bT] at h
   obtain ⟨x,r,rfl,_,t⟩:=h
   rw [afc,afc,bT.length t]
theorem bT.get:∀ {ds:List PyData} {xs:List V} {i:Nat} {d:PyData},bT K H ds xs->ds[i]?=some d->∃ x,xs[i]?=some x/\Dn K H d x
 | [],_,_,_,_,e=>by simp at e
 | _::_,_,0,_,h,e=>by
   rw [bT] at h
   obtain ⟨x,r,rfl,q,t⟩:=h
   simp at e
   subst e
   exact ⟨x,rfl,q⟩
 | _::ds,_,i+1,d,h,e=>by
   rw [bT] at h
   obtain ⟨x,r,rfl,q,t⟩:=h
   obtain ⟨y,e1,e2⟩:=bT.get (i:=i) t (by simpa using e)
   exact ⟨y,by simpa using e1,e2⟩
theorem bT.snoc:∀ {ds:List PyData} {xs:List V} {d:PyData} {x:V},bT K H ds xs->Dn K H d x->bT K H (ds++[d]) (xs++[x])
 | [],_,d,x,h,q=>by
   rw [bT] at h
   subst h
   exact ⟨x,[],rfl,q,rfl⟩
 | _::ds,_,d,x,h,q=>by
   rw [bT] at h
   obtain ⟨y,r,rfl,q',t⟩:=h
   exact ⟨y,r++[x],rfl,q',bT.snoc t q⟩
theorem bT.set:∀ {ds:List PyData} {xs:List V} {i:Nat} {d:PyData} {x:V},bT K H ds xs->Dn K H d x->bT K H (ds.set i d) (xs.set i x)
 | [],_,_,_,_,h,_=>by
   rw [bT] at h
   subst h
   exact rfl
 | _::_,_,0,d,x,h,q=>by
   rw [bT] at h
   obtain ⟨y,r,rfl,q',t⟩:=h
   exact ⟨x,r,rfl,q,t⟩
 | _::ds,_,i+1,d,x,h,q=>by
   rw [bT] at h
   obtain ⟨y,r,rfl,q',t⟩:=h
   exact ⟨y,r.set i x,rfl,q',bT.set t q⟩
theorem fU:bT K H [] []:=rfl
theorem bC {d:PyData} {ds:List PyData} {x:V} (a:Dn K H d x) (b:bT K H ds xs):bT K H (d::ds) (x::xs):=⟨x,xs,rfl,a,b⟩
theorem Gx {i:Int}:Dn K H (.int i) (.int i):=rfl
theorem fW {a:Addr} {ds:List PyData} (h:bP K H a xs) (r:bT K H ds xs):Dn K H (.tuple ds) (.ref a):=⟨a,xs,rfl,h,r⟩
theorem vN {a:Addr} {ds:List PyData} (h:aT K H a xs) (r:bT K H ds xs):Dn K H (.list ds) (.ref a):=⟨a,xs,rfl,h,r⟩
abbrev dR (f:Int×Int):PyData:=.tuple [.int f.1,.int f.2]
theorem iQ {p:Addr} {f:Int×Int} (h:bP K H p [.int f.1,.int f.2]):Dn K H (dR f) (.ref p):=fW h (bC Gx (bC Gx fU))
theorem Dn.fr {v:V} {f:Int×Int} (h:Dn K H (dR f) v):∃ p,v = .ref p/\bP K H p [.int f.1,.int f.2]:=by
 obtain ⟨p,xs,e,q,x,r,e1,e2,y,r2,e3,e4,e5⟩:=h
 have e2:x=V.int f.1:=e2
 have e4:y=V.int f.2:=e4
 have e5:r2=[]:=e5
 subst e1 e2 e3 e4 e5
 exact ⟨p,e,q⟩
theorem gq (f:Int×Int):dS (dR f)=true:=by simp [dR,dS]
end
section
variable {X:Cx} {pins:List (Addr×Obj)} {U:St} {H:Hp} {s:Shared}
mutual
theorem Inv.reads (I:Inv X pins U H s):∀ (d:PyData) {v:V} {u:Value},Dn X.K H d v->RelV v u->∃ as,Reads s.heap u d as
 | .none,_,_,h,r=>by
   have h:_=V.b9:=h
   subst h
   obtain rfl:=(show _=Value.none from r)
   exact ⟨_,.none⟩
 | .bool b,_,_,h,r=>by
   have h:_=V.bl b:=h
   subst h
   obtain rfl:=(show _=Value.bool b from r)
   exact ⟨_,.bool b⟩
 | .int i,_,_,h,r=>by
   have h:_=V.int i:=h
   subst h
   obtain ⟨t,rfl⟩:=r
   exact ⟨_,.int i t⟩
 | .str x,_,_,h,r=>by
   have h:_=V.str x:=h
   subst h
   obtain ⟨t,rfl⟩:=r
   exact ⟨_,.str x t⟩
 | .list ds,_,_,h,r=>by
   obtain ⟨a,xs,rfl,q,t⟩:=h
   obtain rfl:=(show _=Value.ref a from r)
   obtain ⟨br,rv,p,_⟩:=I.list q
   obtain ⟨o,ho,hc,n,hd⟩:=p.isList
   obtain ⟨as,ra⟩:=Inv.readsAll I ds t rv
   exact ⟨_,.list ho hc hd (by simpa using ra)⟩
 | .tuple ds,_,_,h,r=>by
   obtain ⟨a,xs,rfl,q,t⟩:=h
   obtain rfl:=(show _=Value.ref a from r)
   obtain ⟨br,rv,p,_⟩:=I.tuple q
   obtain ⟨o,ho,hc,n,hd⟩:=p
   obtain ⟨as,ra⟩:=Inv.readsAll I ds t rv
   exact ⟨_,.tuple ho hc hd (by simpa using ra)⟩
 | .dict _,_,_,h,_=>(show False from h).elim
theorem Inv.readsAll (I:Inv X pins U H s):∀ (ds:List PyData) {xs:List V} {us:List Value},bT X.K H ds xs->Vals xs us->∃ as,ReadsAll s.heap us ds as
 | [],_,_,h,r=>by
   have h:_=[]:=h
   subst h
   obtain rfl:=Vals.zero r
   exact ⟨_,.nil⟩
 | d::ds,_,_,h,r=>by
   obtain ⟨x,t,rfl,q,qt⟩:=h
   cases r with
   | cons r1 r2 =>
     obtain ⟨as,ra⟩:=Inv.reads I d q r1
     obtain ⟨bs,rb⟩:=Inv.readsAll I ds qt r2
     exact ⟨_,.cons ra rb⟩
end
inductive Jj (K:W.Frag) (x:V) (y:V) (H:Hp) (Q:VK):Prop
 | mk (d e:_) (_:Dn K H d x) (_:Dn K H e y) (_:SeqAt.shaped d=true) (_:SeqAt.shaped e=true) (_:Q (.bl (PyData.eqv d e)) H)
theorem Bk (hu:X.A.units+64<cLine):iY X (compareOp .Eq) (Jj X.K):=by
 intro pins s U H x y v u Q I rx ry h
 obtain ⟨d,e,h1,h2,s1,s2,q⟩:=h
 obtain ⟨as,r1⟩:=I.reads d h1 rx
 obtain ⟨bs,r2⟩:=I.reads e h2 ry
 exact eq_dataH r1 r2 s1 s2 hu ⟨.bl _,H,I,rfl,q⟩
theorem uL (hc:X.calm=true):iN X (.builtin "all") (λ xs H Q=>∃ (p:Addr) (bs:List Bool),xs=[.ref p]/\aT X.K H p (bs.map V.bl)/\Q (.bl (bs.all id)) H):=by
 intro pins s U H xs us Q I r h
 obtain ⟨p,bs,rfl,hq,q⟩:=h
 obtain ⟨u,rfl,r1⟩:∃ u,us=[u]/\RelV (.ref p) u:=by
   cases r with
   | cons a b=>cases b;exact ⟨_,rfl,a⟩
 obtain rfl:u=Value.ref p:=r1
 obtain ⟨br,rv,pl,_⟩:=I.list hq
 have hl:p<s.heap.objs.size:=by obtain ⟨_,e,_⟩:=pl.isList;exact ado e
 have hlen:br.length=bs.length:=by rw [← rv.length,AM]
 have ajW:∀ i v,br.toArray[i]?=some v->v=Value.bool (bs.getD i false):=λ i v e=>by
   have e':br[i]?=some v:=by simpa using e
   have hi:i<bs.length:=by rw [← hlen];exact (List.getElem?_eq_some_iff.mp e').1
   obtain ⟨u,e2,r2⟩:=rv.get (i:=i) (x:=V.bl (bs[i])) (by simp [hi])
   rw [e'] at e2
   cases e2
   have r3:v=Value.bool bs[i]:=r2
   rw [r3]
   simp [hi]
 refine call_all_walk (wpAny_pyIter_list pl.isList ⟨s.heap.objs.size,_,_,_,_,_,λ i=>bs.getD i false,rfl,Walks.list (by simpa using I.ok.hd hc) _ p (ae6 hl) br.toArray,⟨⟨_,afq _ rfl,rfl,rfl⟩,pl.isList.push _⟩,λ i v s' Q' E' hP hQ'=>?_,λ h' tk hk=>?_⟩)
 . rw [ajW i v hP]
   exact adt hQ'
 .
  have e:(List.range br.toArray.size).all (λ i=>bs.getD i false)=bs.all id:=by
    have:br.toArray.size=bs.length:=by simpa using hlen
    rw [this,amj,anK,anK]
    constructor
    . intro h b hb
      obtain ⟨i,hi,rfl⟩:=anm hb
      have:=h i (List.mem_range.mpr hi)
      simpa [hi] using this
    . intro h i hi
      have hi:=List.mem_range.mp hi
      have:=h _ (ab8 hi)
      simpa [hi] using this
  rw [e]
  exact ⟨.bl _,H,I.kept (t':=tk) λ b o z=>hk b o (λ y=>by
    have y:b=s.heap.objs.size:=by simpa using y
    exact absurd (ado z) (by rw [y];exact ajM _)) (aas _ z),rfl,q⟩
end
section
variable {P:Program} {w:World} {K:W.Frag} {mg:Str->Option Value} {base:Heap} {x qual m:Str} {st:Stmt} {dV:Value} {f C:Addr} {fd:FuncData} {N ps:List Str} {k:Nat} {sp:Sp} {ds:List Value} {f9:List V}
def W9 (P:Program) (w:World) (K:W.Frag) (mg:Str->Option Value) (base:Heap) (C:Addr) (m qual:Str) (st:Stmt) (dV:Value) (k:Nat) (ps:List Str) (sp:Sp):Prop :=
 ∃ f fd,Meth K C m f/\mP K m qual st dV f fd/\hZ P w K mg base tO k f fd ps sp
def tj (P:Program) (w:World) (K:W.Frag) (mg:Str->Option Value) (base:Heap) (C:Addr) (m:Str) (k:Nat) (ps:List Str) (f9:List V) (sp:Sp):Prop :=
 ∃ ds,Vals f9 ds/\hV P w K mg base C m k ps ds sp
theorem fC.mok (h:fC K C m qual st dV) (S:aw N ps (ai st)) (len:∀ vs H Q E,sp vs H Q E->vs.length=ps.length) (d9:∀ (f:Addr) (bq:Value) (A:Around) (outer:List Env) (s:Shared) (H:Hp) (vs:List V) (Q:VK) (E:XK),cA k (A.deeper (envOfC qual (ai st) s.heap.objs.size f bq))->sp vs H Q E ->
     ∃ t,qg (eW tO P w K mg base N qual (ai st) f bq A outer s H E).D8 (bj st) t/\t { nx:=λ _ H'=>Q .b9 H',rt:=Q } (start N vs) H):W9 P w K mg base C m qual st dV (k+1) ps sp:=by
 obtain ⟨f,fd,M,F⟩:=h
 exact ⟨f,fd,M,F,F.ok S len λ bq A outer s H vs Q E hr hs=>d9 f bq A outer s H vs Q E hr hs⟩
theorem W9.JY (h:W9 P w K mg base C m qual st (.ref T) k ps sp) (hT:AN K T AZ) (hb:∀ items:Array Value,Vals AZ items.toList->∃ ds,Vals f9 ds/\∀ (kV doc pm:Value) (an:Option Addr) (bq ct:Value) (us:List Value),(us++ds).length=ps.length->∃ k,bindArgs (W.fnOf m qual (bV st) (bj st) (ai st) (.ref T) kV doc pm an bq ct) ⟨us,[]⟩=seqItems? (.ref T) >>= k/\k (some items)=pure (ps.zip (us++ds))) :
   tj P w K mg base C m k ps f9 sp:=by
 obtain ⟨f,fd,M,F,O⟩:=h
 obtain ⟨o,n,items,hT,ho,hv⟩:=hT
 obtain ⟨ds,hd,hb⟩:=hb items hv
 exact ⟨ds,hd,f,fd,M,F.binds hT ho hb,O⟩
def Yd (P:Program) (w:World) (K:W.Frag) (mg:Str->Option Value) (base:Heap) (x:Str) (st:Stmt) (dV:Value) (k:Nat) (ps:List Str) (sp:Sp):Prop :=
 ∃ f fd,mg x=some (.ref f)/\mP K x x st dV f fd/\hZ P w K mg base tO k f fd ps sp
def ML (P:Program) (w:World) (K:W.Frag) (mg:Str->Option Value) (base:Heap) (x:Str) (k:Nat) (ps:List Str) (f9:List V) (sp:Sp):Prop :=
 ∃ ds,Vals f9 ds/\U3 P w K mg base x k ps ds sp
theorem Mz.dok (h:Mz K mg x st dV) (S:aw N ps (ai st)) (len:∀ vs H Q E,sp vs H Q E->vs.length=ps.length) (d9:∀ (f:Addr) (bq:Value) (A:Around) (outer:List Env) (s:Shared) (H:Hp) (vs:List V) (Q:VK) (E:XK),cA k (A.deeper (envOfC x (ai st) s.heap.objs.size f bq))->sp vs H Q E ->
     ∃ t,qg (eW tO P w K mg base N x (ai st) f bq A outer s H E).D8 (bj st) t/\t { nx:=λ _ H'=>Q .b9 H',rt:=Q } (start N vs) H):Yd P w K mg base x st dV (k+1) ps sp:=by
 obtain ⟨f,fd,M,F⟩:=h
 exact ⟨f,fd,M,F,F.ok S len λ bq A outer s H vs Q E hr hs=>d9 f bq A outer s H vs Q E hr hs⟩
theorem Yd.ZY (h:Yd P w K mg base x st (.ref T) k ps sp) (hT:AN K T AZ) (hb:∀ items:Array Value,Vals AZ items.toList->∃ ds,Vals f9 ds/\∀ (kV doc pm:Value) (an:Option Addr) (bq ct:Value) (us:List Value),(us++ds).length=ps.length->∃ k,bindArgs (W.fnOf x x (bV st) (bj st) (ai st) (.ref T) kV doc pm an bq ct) ⟨us,[]⟩=seqItems? (.ref T) >>= k/\k (some items)=pure (ps.zip (us++ds))) :
   ML P w K mg base x k ps f9 sp:=by
 obtain ⟨f,fd,M,F,O⟩:=h
 obtain ⟨o,n,items,hT,ho,hv⟩:=hT
 obtain ⟨ds,hd,hb⟩:=hb items hv
 exact ⟨ds,hd,f,fd,M,F.kp,F.binds hT ho hb,O⟩
theorem vals3 {a b c:V} {items:Array Value} (h:Vals [a,b,c] items.toList):∃ u v z,items=#[u,v,z]/\RelV a u/\RelV b v/\RelV c z:=by
 obtain ⟨l⟩:=items
 cases h with
 | cons h1 h=>cases h with
   | cons h2 h=>cases h with
     | cons h3 h=>cases h with
       | nil=>exact ⟨_,_,_,rfl,h1,h2,h3⟩
end
section
variable {X:Cx} {C:Addr} {m x:Str} {p pos apos:Pos} {e o:Expr} {es:List Expr} {ta:TE} {t:TA} {k:Nat} {ps:List Str} {sp:Sp} {f9:List V}
theorem zv {pl:Sem Bool} (he:PE X o ta) (c:xu X.K C) (D:tj X.prog X.w X.K X.mg X.base C m k ps f9 sp) (hr:cA k X.A) (ha:PA X (e::es) t) (mO:starEach (e::es) X.env=(false,eval e X.env)::starEach es X.env:=by rfl) (jG:(backTo pos (starEach es X.env)).any (·.1)=false:=by rfl) (ht:eval (.Call (.Attribute o m apos) (e::es) [] pos) X.env=(do
     let ov ← eval o X.env
     standAt apos.atName
     let (f,first) ← holding [ov] (getMethod ov m pl)
     callWith pos f first (backTo pos (starEach (e::es) X.env)) (backToKw pos (keywordEach [] X.env))):=by rfl) :
   PE X (.Call (.Attribute o m apos) (e::es) [] pos) (u8 C m sp f9 E0 ta t):=by
 obtain ⟨ds,hd,D⟩:=D
 exact aR (pl:=pl) he c D hd hr ha mO jG ht
theorem zb (M:Fj X.K C) (D:tj X.prog X.w X.K X.mg X.base C "__init__" k ps f9 sp) (hr:cA (k+1) X.A) (hm:X.mg x=some (.ref C)) (ha:PA X (e::es) t) (hg:Gl X x:=by rfl) (zx:(x == ("__debug__" : Str))=false:=by decide) (he:starEach (e::es) X.env=(false,eval e X.env)::starEach es X.env:=by rfl) (jG:(backTo pos (starEach es X.env)).any (·.1)=false:=by rfl):PE X (.Call (.Name x p) (e::es) [] pos) (FW C sp f9 E0 t):=by
 obtain ⟨ds,hd,D⟩:=D
 exact tG M D hd hr hm ha hg zx he jG
theorem FA (D:ML X.prog X.w X.K X.mg X.base x k ps f9 sp) (hr:cA k X.A) (ha:PA X (e::es) t) (hg:Gl X x:=by rfl) (zx:(x == ("__debug__" : Str))=false:=by decide) (he:starEach (e::es) X.env=(false,eval e X.env)::starEach es X.env:=by rfl) (jG:(backTo pos (starEach es X.env)).any (·.1)=false:=by rfl):PE X (.Call (.Name x p) (e::es) [] pos) (Ct sp f9 E0 t):=by
 obtain ⟨ds,hd,D⟩:=D
 exact Dz D hd hr ha hg zx he jG
end
theorem fN {X:Cx} {K:W.Frag} {es:List Expr} {k:Nat} {pos:Pos} {t:NW} {n:Nat} (hK:X.K=K) (hc:X.calm=true) (h:OA X es t) (hn:(assignEach es X.env).length=n:=by rfl) (mO:(assignEach es X.env).findIdx? (·.1)=none:=by rfl):PG X (.Tuple es k pos) (Uj K n t):=by
 subst hK
 exact Ms hc h hn mO
end L2
namespace PySem
open Sem (wp)
theorem lN:∀ (l:List DictEntry) (c:Int),(l.map (·.hash)).Nodup->(l.filter (·.hash == c)).length<=1
 | [],_,_=>aiv _
 | e::l,c,h=>by
   rw [agt,List.nodup_cons] at h
   rw [aoU]
   split
   .
    rename_i q
    have q:e.hash=c:=by simpa using q
    have:l.filter (·.hash == c)=[]:=by
      rw [apt]
      intro x hx z
      exact h.1 (List.mem_map.mpr ⟨x,hx,by rw [q];simpa using z⟩)
    rw [this]
    exact aat _
   . exact lN l c h.2
section
variable {prog:Program} {w:World} {K:Type} [DecidableEq K] {knd:KeyKind prog w K} {A:Around} {E:Value->Shared->Prop} {s:Shared}
theorem md {ks:List K} {a:Addr} {Q:Bool->Shared->Prop} (hk:IsTupleKey knd s.heap ks a) (h:Q false s):wpAny (model prog w) A (Builtin.Dict.quietEq (.ref a)) Q E s:=by
 have hT:=hk.typeIs
 unfold Builtin.Dict.quietEq
 exact Wi (aoE hT F.slot_tuple_eq.lookup (adt h))
theorem jP {id:String} {d:Addr} {o:Obj} {es ep} {xs:List (List K×Addr×Value)} {Q:Array DictEntry->Shared->Prop} (ho:s.heap.get? d=some o) (hd:o.data = .dict es ep) (he:es.toList=xs.map (entryOfKey (tupleKind knd)))
   (hi:∀ x∈xs,IsTupleKey knd s.heap x.1 x.2.1) (hh:(xs.map λ x=>tupleKeyHash knd x.1).Nodup) (h:Q es s) :
   wpAny (model prog w) A (Builtin.Dict.entriesForEmpty id d) Q E s:=by
 unfold Builtin.Dict.entriesForEmpty
 refine Wi (aoq ho hd ?_)
 have hn:(es.toList.map (·.hash)).Nodup:=by
   rw [he,anM]
   exact hh
 refine Wi ?_
 refine wpAny_forIn_array' _ (λ rest _ s'=>s'=s/\∀ e∈rest,e∈es.toList) _ ?_ ?_ _ _ ⟨rfl,λ _ h=>h⟩
 .
  rintro e rest b s' ⟨rfl,hm⟩
  have hme:=hm e afg
  rw [he] at hme
  obtain ⟨x,hx,rfl⟩:=List.mem_map.mp hme
  refine Wi (md (hi x hx) ?_)
  have hc:¬ ((es.filter λ y=>y.hash == (entryOfKey (tupleKind knd) x).hash).size > 1):=by
    have:=lN es.toList (entryOfKey (tupleKind knd) x).hash hn
    have e2:(es.filter λ y=>y.hash == (entryOfKey (tupleKind knd) x).hash).size=(es.toList.filter λ y=>y.hash == (entryOfKey (tupleKind knd) x).hash).length:=by
      obtain ⟨l⟩:=es
      simp
    lia
  simp only [apb,anS,acO hc]
  exact adt ⟨rfl,λ e he=>hm e (aeC _ he)⟩
 . rintro b s' ⟨rfl,_⟩
   exact adt h
theorem o9 {nm:String} {d o:Addr} {xs:List (List K×Addr×Value)} {Q:Unit->Shared->Prop} (hdo:d≠o) (hoS:(o == sysModules)=false)
   (hd:s.heap.DictOfH (tupleKind knd) d []) (ho:s.heap.DictOfH (tupleKind knd) o xs) (hh:(xs.map λ x=>tupleKeyHash knd x.1).Nodup)
   (hQ:∀ h',(∃ q es ep,h'.get? d=some q/\q.ExactDict/\q.data = .dict es ep/\es.toList=xs.map (entryOfKey (tupleKind knd))/\(xs.map (·.1)).Nodup)->Heap.SameBut d s.heap h'->Q () { s with heap:=h' }) (hsz:xs.length<=sizeLine) :
   wpAny (model prog w) A (Builtin.Dict.mergeDict nm d o) Q E s:=by
 obtain ⟨od,esd,epd,FL,qI,JK,hed,aqC,hnd⟩:=id hd
 obtain ⟨oo,HG,epo,OG,hco,Do,CH,Nx,Kv⟩:=id ho
 have hse:esd=#[]:=by
   obtain ⟨l⟩:=esd
   have:l=[]:=by simpa using hed
   rw [this]
 have hlen:HG.size=xs.length:=by
   obtain ⟨l⟩:=HG
   have:l.length=_:=anv List.length CH
   simpa using this
 unfold Builtin.Dict.mergeDict
 rw [acO (by simpa using hdo)]
 unfold Builtin.Dict.showsAll
 rw [acO (by rw [hoS];exact abZ)]
 refine Wi (adt ?_)
 refine Wi (aoq OG Do ?_)
 dsimp only
 cases xs with
 | nil =>
   have h0:HG=#[]:=by
     obtain ⟨l⟩:=HG
     have:l=[]:=by simpa using CH
     rw [this]
   subst h0
   have fin:Q () s:=by
     have:=hQ s.heap ⟨od,esd,epd,FL,qI,JK,hed,Kv⟩ (Heap.SameBut.refl _ _)
     exact this
   split
   . rename_i hf
     exact absurd hf (by simp)
   . refine Wi (wpAny_dictEpoch OG Do ?_)
     refine Wi (aoq OG Do ?_)
     refine Wi ?_
     rw [Std.Legacy.Range.forIn_eq_forIn_range']
     exact adt (adt fin)
 | cons x xs =>
   have hf:(decide (HG.size<=8) && HG.all λ e=>(keyPart e.key).isSome)=false:=by
     obtain ⟨l⟩:=HG
     have e1:l=_:=CH
     subst e1
     have:keyPart (entryOfKey (tupleKind knd) x).key=none:=rfl
     simp [this]
   rw [hf]
   simp only [apb,anS]
   refine Wi (aoq FL JK ?_)
   rw [hse]
   simp only [Array.isEmpty_empty,anS]
   refine Wi (jP OG Do CH Nx hh ?_)
   have EF:HG.isEmpty=false:=by
     rw [Array.isEmpty_eq_false_iff]
     intro z
     rw [z] at hlen
     simp at hlen
   rw [EF]
   simp only [apb,anS]
   refine Wi (wpAny_updateDictKeysTo FL JK (adt (hQ _ ⟨_,_,epd+1,anI _ FL (Obj.isFreed_of_dict (Obj.data_mapDictKeys JK _)),qI.mapDictKeys _,Obj.data_mapDictKeys JK _,CH,Kv⟩ (aoV ..))) (by rw [hlen];lia))
theorem tY {o:Addr} {xs:List (List K×Addr×Value)} {Q:Value->Shared->Prop} (hoS:(o == sysModules)=false) (ho:s.heap.DictOfH (tupleKind knd) o xs) (hsz:xs.length<=sizeLine) (hh:(xs.map λ x=>tupleKeyHash knd x.1).Nodup)
   (h:∀ h',(∃ q es ep,h'.get? s.heap.objs.size=some q/\q.ExactDict/\q.data = .dict es ep/\es.toList=xs.map (entryOfKey (tupleKind knd))/\(xs.map (·.1)).Nodup)->Heap.SameBut s.heap.objs.size (s.heap.push { cls:=.type "dict",data:=.dict #[]}) h'->Q (.ref s.heap.objs.size) { s with heap:=h' }) :
   wpAny (model prog w) A (call (.type "dict") [.ref o]) Q E s:=by
 refine callType_codes (Q₁:=λ obj s₁=>obj = .ref s.heap.objs.size/\s₁={ s with heap:=s.heap.push { cls:=.type "dict",data:=.dict #[]}}) F.kt_called_dict (F.kt_typeCall_dict_1 _) F.entry_dict_init (kt_code_dict_new _ ⟨rfl,rfl⟩) ?_
 rintro obj s₁ ⟨rfl,rfl⟩
 have BE:(s.heap.push { cls:=.type "dict",data:=.dict #[]}).DictOfH (tupleKind knd) s.heap.objs.size []:=Heap.DictOfH.new s.heap
 have uV:(s.heap.push { cls:=.type "dict",data:=.dict #[]}).DictOfH (tupleKind knd) o xs:=by
   obtain ⟨oo,HG,epo,OG,hco,Do,CH,Nx,Kv⟩:=id ho
   exact ⟨oo,HG,epo,aas _ OG,hco,Do,CH,λ x hx=>(let ⟨q,it,n,h1,h2⟩:=Nx x hx;⟨q,it,n,aas _ h1,h2⟩),Kv⟩
 have hdo:s.heap.objs.size≠o:=by
   obtain ⟨_,_,_,hg,_⟩:=ho
   exact λ e=>absurd (ado hg) (by rw [e];exact ajM _)
 refine ⟨BE.typeIs,F.args_dict_init_2 _ _,?_⟩
 unfold Builtin.«dict.__init__»
 refine Wi ?_
 unfold Builtin.Dict.selfAndRest
 refine Wi (wpAny_notOrdered_dict BE.typeIs ?_)
 show wpAny _ _ (pure (s.heap.objs.size,[Value.ref o])) _ _ _
 refine adt ?_
 show wpAny _ _ (Builtin.Dict.updateFrom "dict.__init__" s.heap.objs.size (.ref o) [] .none) _ _ _
 unfold Builtin.Dict.updateFrom
 refine Wi (wpAny_typeOf uV.typeIs ?_)
 rw [acO (by decide)]
 refine Wi ?_
 unfold Builtin.Dict.merge
 refine Wi ?_
 unfold Builtin.Dict.readDirectly
 refine Wi (wpAny_isInstance uV.typeIs isSubtype_dict_dict ?_)
 simp only [apn,anU,an2]
 refine Wi (aoE uV.typeIs F.slot_dict_iter.lookup (adt ?_))
 simp only [aoR,anS]
 refine Wi (adt ?_)
 refine o9 (hsz:=hsz) hdo hoS BE uV hh λ h' Ey hs'=>?_
 show wpAny _ _ (Builtin.Dict.addKeywords s.heap.objs.size [] >>= _) _ _ _
 exact Wi (adt (adt ⟨rfl,h h' Ey hs'⟩))
end
end PySem
namespace L2
open PySem PySem.Spec PyProof.Rows Mth
variable {elt iter tg:Expr} {g:TG} {ifs:List Expr} {py Jy:Pos} {te:TE} {yi:Nat}
section
variable {X:Cx} {pins:List (Addr×Obj)} {U:St} {H:Hp} {s:Shared} {a:Addr} {az:List (List Key×V)} {A:Around} {E:Value->Shared->Prop}
theorem Dh {Q:Value->Shared->Prop} (I:Inv X pins U H s) (e:Rd H a (.dT az)) (hh:(az.map λ kv=>tupleKeyHash (cn X.prog X.w) kv.1).Nodup) (h:∀ p s',H p=none->Inv X pins U (upd H p (.dT az)) s'->Q (.ref p) s'):wpAny (model X.prog X.w) A (call (.type "dict") [.ref a]) Q E s:=by
 obtain ⟨z,hd,xs,rel,dd⟩:=vg I.cg e
 have hx:xs.map (λ x=>tupleKeyHash (cn X.prog X.w) x.1)=az.map λ kv=>tupleKeyHash (cn X.prog X.w) kv.1:=by
   clear dd z hh h e
   induction rel with
   | nil=>rfl
   | cons r _ ih=>rw [agt,agt,ih,r.1]
 refine tY hd dd (by rw [← anX rel];exact z) (by rw [hx];exact hh) λ h' Gk hs=>?_
 have hn:H s.heap.objs.size=none:=I.cg.fresh (aat _)
 refine h _ _ hn (I.laid (a:=s.heap.objs.size) (o:=.dT az) (t':=s.toks) (λ b q hq=>?_) (aat _) ⟨z,beq_eq_false_iff_ne.mpr (anq (ae6 I.big)),xs,rel.keeps λ c ys ec=>?_,Gk⟩)
 . exact (hs.2 b (ae6 (ado hq))).trans (aas _ hq)
 . rw [ax (av ec hn)];exact ec
end
theorem tS {X:Cx}:iN X (.type "dict") (λ xs H Q=>∃ p az,xs=[.ref p]/\H p=some (.dT az)/\(az.map λ kv=>tupleKeyHash (cn X.prog X.w) kv.1).Nodup/\∀ l,H l=none->Q (.ref l) (upd H l (.dT az))):=by
 intro pins s U H xs us Q I r h
 obtain ⟨p,az,rfl,hp,hh,q⟩:=h
 obtain ⟨u,rfl,rx⟩:=vals1 r
 cases rx
 exact Dh I (.inl hp) hh λ l s' hl I'=>⟨.ref l,_,I',rfl,q l hl⟩
theorem II:bootBuiltins "dict" = some (.type "dict"):=by decide +kernel
section
variable {X:Cx}
theorem J7 {y:Str} {scope:Scope} {pos:Pos} {wi:TI} {tt:TT} {N':List Str} {nt:Nat} {sl:List Nat} (hc:X.calm=true) (hi:PI X tg iter wi) (hg:∀ cl C s H ex,PG (cw X N' scope cl C s H ex) tg g) (ht:∀ cl C s H ex,LD (cw X N' scope cl C s H ex) ifs tt) (he:∀ cl C s H ex,PE (cw X N' scope cl C s H ex) elt te) (VF:N'.length=nt+sl.length) (Nu:∀ k j:Nat,sl[k]?=some j->∃ x,N'[nt+k]?=some x/\X.N[j]?=some x/\scope.names.lookup x=some .free) (hk:scope.kind = .function) (ic:∀ y∈scope.names,y.2 ≠ .cell) (jQ:∀ y∈scope.names,y.2 = .local->scope.names.lookup y.1=some .local) (jK:∀ y∈scope.names,y.2 = .free->X.env.kindOf y.1=some .cell∨X.env.kindOf y.1=some .free) (hN:X.N.Nodup) (Z7:X.N[yi]?=some y) (hy:Loc X.env.scope y) (hf:X.fn y=true∨X.env.scope.names.lookup y=some .local) (X9:swapsWith (.ListComp elt [⟨tg,iter,ifs,0⟩] scope pos) (some (.Name y py)) Jy.line X.env=pure true) (hs:∀ x,foldedSetIterable iter X.env x=pure x:=by intro _;rfl) :
   PS X (.Assign [.Name y py] (.ListComp elt [⟨tg,iter,ifs,0⟩] scope pos) Jy) (IB (zQ wi g tt te nt sl) (CA yi)):=by
 intro pins s U H DD I h
 rw [exec_Assign_Name_used _ _ _ _ X9]
 refine Wi (aoa (Wi ?_))
 show wpAny _ X.A (do let _ ← comprehension (.ListComp elt [⟨tg,iter,ifs,0⟩] scope pos) scope X.env _ (newList []) false (eval iter X.env) (some (assign (.Name y py) X.env))) _ _ s
 refine Wi (ahF (uN (use:=some (assign (.Name y py) X.env)) (Qp:=λ _ s'=>SP X pins DD .next s') hc hi hg ht he VF Nu hk ic jQ jK hs I h λ s6 H5 d c m J F hn q=>?_)
   (λ _ s' hq=>adt (adt hq)) λ _ _ e=>e)
 refine wpAny_assign_Name (vv (v:=.ref d) J hN Z7 hy rfl (λ s7 I7 ⟨a,sb7,ha⟩=>?_) hf)
 have na:c≠a:=λ z=>by
   rcases ha with q|q
   . exact F.2.1 (z.trans q)
   . exact F.2.2.2.2.1 _ a q z.symm
 refine ⟨m,?_,λ h' sb=>?_⟩
 . obtain ⟨o,es,ep,ho,r⟩:=hn
   exact ⟨o,es,ep,(sb7.2 _ na).trans ho,r⟩
 . exact ⟨_,H5,I7.turned (t':=s7.toks) (λ b _ hb q=>(sb.2 b hb).trans q) F.1 F.2.1 F.2.2.2.1 F.2.2.2.2.1 F.2.2.2.2.2,q⟩
theorem rD {y:Str} {scope:Scope} {pos:Pos} {wi:TI} {tt:TT} (tn fr:List Str) (sl:List Nat) (hp:Paired (λ (j:Nat) (x:Str)=>X.N[j]?=some x/\scope.names.lookup x=some .free/\(X.env.kindOf x=some .cell∨X.env.kindOf x=some .free)) sl fr) (hc:X.calm=true) (hi:PI X tg iter wi) (hg:∀ cl C s H ex,PG (cw X (tn++fr) scope cl C s H ex) tg g) (ht:∀ cl C s H ex,LD (cw X (tn++fr) scope cl C s H ex) ifs tt) (he:∀ cl C s H ex,PE (cw X (tn++fr) scope cl C s H ex) elt te) (hk:scope.kind = .function) (ic:∀ y∈scope.names,y.2 ≠ .cell) (jQ:∀ y∈scope.names,y.2 = .local->scope.names.lookup y.1=some .local) (jK:∀ y∈scope.names,y.2 = .free->y.1∈fr) (hN:X.N.Nodup) (Z7:X.N[yi]?=some y) (hy:Loc X.env.scope y) (X9:swapsWith (.ListComp elt [⟨tg,iter,ifs,0⟩] scope pos) (some (.Name y py)) Jy.line X.env=pure true) (hf:X.fn y=true∨X.env.scope.names.lookup y=some .local:=by first|exact .inl rfl|exact .inr rfl|assumption) (hs:∀ x,foldedSetIterable iter X.env x=pure x:=by intro _;rfl) :
   PS X (.Assign [.Name y py] (.ListComp elt [⟨tg,iter,ifs,0⟩] scope pos) Jy) (IB (zQ wi g tt te tn.length sl) (CA yi)):=by
 have key:∀ {sl:List Nat} {fr:List Str},Paired (λ (j:Nat) (x:Str)=>X.N[j]?=some x/\scope.names.lookup x=some .free/\(X.env.kindOf x=some .cell∨X.env.kindOf x=some .free)) sl fr ->
     (∀ k j:Nat,sl[k]?=some j->∃ x,fr[k]?=some x/\X.N[j]?=some x/\scope.names.lookup x=some .free)/\∀ x∈fr,X.env.kindOf x=some .cell∨X.env.kindOf x=some .free:=by
   intro sl fr hp
   induction hp with
   | nil=>exact ⟨λ k j h=>by simp at h,λ x hx=>by simp at hx⟩
   | cons r t ih =>
     refine ⟨λ k j h=>?_,λ x hx=>?_⟩
     . cases k with
       | zero =>
         have e:_=j:=ac2 h
         subst e
         exact ⟨_,rfl,r.1,r.2.1⟩
       | succ k=>exact ih.1 k j (by simpa using h)
     . rcases List.mem_cons.mp hx with z|z
       . rw [z];exact r.2.2
       . exact ih.2 x z
 refine J7 (N':=tn++fr) hc hi hg ht he (by rw [abi,hp.length]) (λ k j h=>?_) hk ic jQ (λ y hy hf=>(key hp).2 _ (jK y hy hf)) hN Z7 hy hf X9 hs
 obtain ⟨x,e1,e2⟩:=(key hp).1 k j h
 exact ⟨x,by rw [agM (anJ _ _),apk];exact e1,e2⟩
end
abbrev bW:=Int×Int
structure ao where
 most:Int
 ir:Int
 load:Int
 rows:List (List bW)
 bi:Int->Int->Option bW
 bf:List (bW×bW×bW)
 aD:List (Option (bW×Int×Int×Int))
abbrev on (s:bW×bW×bW):PyData:=.tuple [dR s.1,dR s.2.1,dR s.2.2]
abbrev hX:Option (bW×Int×Int×Int)->PyData
 | none => .none
 | some s => .tuple [dR s.1,.int s.2.1,.int s.2.2.1,.int s.2.2.2]
abbrev uo (r:List bW):PyData:=.tuple (r.map dR)
def ly (m:ao) (pm pf ps pt:Addr):List (Str×V) :=
 [("most",.int m.most),("cap",.int m.ir),("load",.int m.load),("mark_rows",.ref pm),("flows",.ref pf),("skies",.ref ps),("stoves",.ref pt)]
section
variable (m:ao) (pm pf ps pt:Addr)
theorem rh:(ly m pm pf ps pt).lookup ("most" : Str)=some (.int m.most):=by rfl
theorem vL:(ly m pm pf ps pt).lookup ("cap" : Str)=some (.int m.ir):=by rfl
theorem yq:(ly m pm pf ps pt).lookup ("load" : Str)=some (.int m.load):=by rfl
theorem nk:(ly m pm pf ps pt).lookup ("mark_rows" : Str)=some (.ref pm):=by rfl
theorem lW:(ly m pm pf ps pt).lookup ("flows" : Str)=some (.ref pf):=by rfl
theorem iB:(ly m pm pf ps pt).lookup ("skies" : Str)=some (.ref ps):=by rfl
theorem kq:(ly m pm pf ps pt).lookup ("stoves" : Str)=some (.ref pt):=by rfl
end
def mM (K:W.Frag) (H:Hp):Option bW->Option V->Prop
 | none,none=>True
 | some f,some v=>Dn K H (dR f) v
 | _,_=>False
abbrev fY (i j:Int):List Key:=[.inl i,.inl j]
def oh (az:List (List Key×V)):Prop:=(az.map (·.1)).Nodup/\∀ p∈az,∃ i j:Nat,i<4/\j<4/\p.1=fY i j
end L2
namespace Mth
def nf (t b:Int):Int×Int:=(t.fdiv (Int.gcd t b:Nat),b.fdiv (Int.gcd t b:Nat))
theorem qK {r q s:Int} (h:r ∣ q * s) (c:Int.gcd q r=1):r ∣ s:=by
 have h1:r.natAbs ∣ q.natAbs * s.natAbs:=by rw [← aoz];exact Int.natAbs_dvd_natAbs.mpr h
 have h2:Nat.Coprime r.natAbs q.natAbs:=by rw [Nat.coprime_comm];exact c
 exact Int.natAbs_dvd_natAbs.mp (Nat.Coprime.dvd_of_dvd_mul_left h2 h1)
theorem Fr.uniq {t b q r q' r':Int} (hb:b≠0) (h:Fr t b q r) (k:Fr t b q' r'):q=q'/\r=r':=by
 have e:q * r'=q' * r:=by
   have e1:(q * r') * b=(q' * r) * b:=by
     have a1:=h.jB
     have a2:=k.jB
     calc (q * r') * b=(q * b) * r':=by rw [afW]
       _=(t * r) * r':=by rw [a1]
       _=(t * r') * r:=by rw [afW]
       _=(q' * b) * r:=by rw [a2]
       _=(q' * r) * b:=by rw [afW]
   exact akW hb e1
 have d1:r ∣ r':=by
   have:r ∣ q * r':=⟨q',by rw [e,anP]⟩
   exact qK this h.X6
 have d2:r' ∣ r:=by
   have:r' ∣ q' * r:=⟨q,by rw [← e,anP]⟩
   exact qK this k.X6
 have er:r=r':=Int.dvd_antisymm (alO h.pos) (alO k.pos) d1 d2
 subst er
 exact ⟨akW (anD h.pos) e,rfl⟩
theorem ie {t b:Int} (hb:0<b):Fr t b (nf t b).1 (nf t b).2:=(Gc (anD hb) rfl).2.2.1 hb
theorem Fr.nf {t b q r:Int} (hb:0<b) (h:Fr t b q r):(q,r)=nf t b:=by
 obtain ⟨e1,e2⟩:=h.uniq (anD hb) (ie hb)
 rw [e1,e2]
def li (x y:Int×Int):Int×Int:=nf (x.1 * y.2+y.1 * x.2) (x.2 * y.2)
def mG (x y:Int×Int):Int×Int:=nf (x.1 * y.2 - y.1 * x.2) (x.2 * y.2)
def aW (x y:Int×Int):Bool:=decide (x.1 * y.2<y.1 * x.2)
structure dU (n:Nat) (f:Int×Int):Prop where
 t:Bd n f.1
 b:Bd n f.2
 p:0<f.2
theorem dU.mono {m n:Nat} {f:Int×Int} (h:dU m f) (l:m<=n):dU n f:=⟨h.t.mono l,h.b.mono l,h.p⟩
theorem dU.minus {m n:Nat} {x y:Int×Int} (h:dU m x) (k:dU n y):dU (m+n+1) (mG x y):=by
 have F:=ie (t:=x.1 * y.2 - y.1 * x.2) (b:=x.2 * y.2) (ag9 h.p k.p)
 have b1:Bd (m+n) (x.1 * y.2):=h.t.mul k.b
 have b2:Bd (m+n) (y.1 * x.2):=by rw [an7];exact k.t.mul h.b
 exact ⟨F.Ym (b1.sub b2),F.Yk ((h.b.mul k.b).mono (anC _)),F.pos⟩
theorem dU.plus {m n:Nat} {x y:Int×Int} (h:dU m x) (k:dU n y):dU (m+n+1) (li x y):=by
 have F:=ie (t:=x.1 * y.2+y.1 * x.2) (b:=x.2 * y.2) (ag9 h.p k.p)
 have b1:Bd (m+n) (x.1 * y.2):=h.t.mul k.b
 have b2:Bd (m+n) (y.1 * x.2):=by rw [an7];exact k.t.mul h.b
 exact ⟨F.Ym (b1.add b2),F.Yk ((h.b.mul k.b).mono (anC _)),F.pos⟩
theorem FI:dU 100 (0,1):=⟨(by decide:(_:Int).natAbs<_),(by decide:(_:Int).natAbs<_),by decide⟩
theorem ais:dU 100 (1,1):=⟨(by decide:(_:Int).natAbs<_),(by decide:(_:Int).natAbs<_),by decide⟩
end Mth
namespace L2
open PySem PySem.Spec PyProof.Rows Mth
variable {C dx p3 pf pm ps:Addr} {H H':Hp} {Q:VK} {fp:List Addr} {o:HO} {v:V} {vm vt xs:List V}
structure ao.Wf (m:ao):Prop where
 rows:∀ r∈m.rows,∀ f∈r,dU 100 f
 len:∀ r∈m.rows,2<=r.length/\r.length<=7
 bi:∀ i j f,m.bi i j=some f->dU 100 f
 bf:∀ s∈m.bf,dU 100 s.1/\dU 100 s.2.1/\dU 100 s.2.2
 aD:∀ x,some x∈m.aD->dU 100 x.1
structure aL (K:W.Frag) (C:Addr) (H:Hp) (a:Addr) (fp:List Addr) (m:ao):Prop where
 ex:∃ dx pm pf ps pt vm vs vt az,fp=[a,dx,pm,pf,ps,pt]/\H a=some (.ins C dx (ly m pm pf ps pt))/\H dx=some (.own a)/\H pm=some (.lst vm)/\H pf=some (.dT az)/\H ps=some (.lst vs)/\H pt=some (.lst vt) /\
   pm≠ps/\pm≠pt/\ps≠pt/\bT K H (m.rows.map uo) vm/\bT K H (m.bf.map on) vs/\bT K H (m.aD.map hX) vt/\(∀ i j,mM K H (m.bi i j) (ge az (fY i j)))/\oh az
 sk:m.bf.length=m.rows.length
 st:m.aD.length=m.rows.length
 mx:m.rows.length<=4
 wf:m.Wf
def m7 (fp:List Addr) (H H':Hp):Prop:=∀ b o,H b=some o->b∉fp->H' b=some o
def ao.fD (m:ao) (i j:Nat):bW:=(m.bi i j).getD (0,1)
def ao.eT (m:ao) (i:Nat):bW:=((m.bf[i]?).map (·.1)).getD (0,1)
def ao.gi (m:ao) (i n:Nat):bW:=(List.range n).foldl (λ acc j=>mG acc (m.fD i j)) (mG (1,1) (m.eT i))
def ao.own (m:ao) (i:Nat):bW:=m.gi i m.rows.length
def ao.share (m:ao) (i j:Nat):bW:=if i=j then m.own i else m.fD i j
theorem ao.Wf.fD {m:ao} (w:m.Wf) (i j:Nat):dU 100 (m.fD i j):=by
 unfold ao.fD
 cases e:m.bi i j with
 | none=>exact FI
 | some f=>exact w.bi i j f e
theorem ao.Wf.eT {m:ao} (w:m.Wf) (i:Nat):dU 100 (m.eT i):=by
 unfold ao.eT
 cases e:m.bf[i]? with
 | none=>exact FI
 | some f=>exact (w.bf f (ad5 e)).1
theorem ao.kC (m:ao) (i n:Nat):m.gi i (n+1)=mG (m.gi i n) (m.fD i n):=by
 unfold ao.gi
 rw [agN,akL];rfl
theorem ao.Wf.gi {m:ao} (w:m.Wf) (i:Nat):∀ n,dU (201+101 * n) (m.gi i n)
 | 0=>(ais.minus (w.eT i)).mono (by decide)
 | n+1=>by
   rw [ao.kC]
   exact ((w.gi i n).minus (w.fD i n)).mono (by lia)
section
variable {K:W.Frag} {H:Hp} {v:V}
theorem Dn.dA {s:bW×bW×bW} (h:Dn K H (on s) v):∃ p v1 v2 v3,v = .ref p/\bP K H p [v1,v2,v3]/\Dn K H (dR s.1) v1/\Dn K H (dR s.2.1) v2/\Dn K H (dR s.2.2) v3:=by
 obtain ⟨p,xs,e,q,x1,r1,e1,d1,x2,r2,e2,d2,x3,r3,e3,d3,e4⟩:=h
 have e4:r3=[]:=e4
 subst e1 e2 e3 e4
 exact ⟨p,x1,x2,x3,e,q,d1,d2,d3⟩
theorem EI {s:bW×bW×bW} {p:Addr} {v1 v2 v3:V} (q:bP K H p [v1,v2,v3]) (d1:Dn K H (dR s.1) v1) (d2:Dn K H (dR s.2.1) v2) (d3:Dn K H (dR s.2.2) v3):Dn K H (on s) (.ref p) :=
 fW q (bC d1 (bC d2 (bC d3 fU)))
theorem rQ (s:bW×bW×bW):dS (on s)=true:=by simp [on,dR,dS]
theorem sU (s:Option (bW×Int×Int×Int)):dS (hX s)=true:=by cases s<;>simp [hX,dR,dS]
theorem zR (r:List bW):dS (uo r)=true:=ln.mpr λ d hd=>by
 obtain ⟨f,_,rfl⟩:=List.mem_map.mp hd
 exact gq f
theorem Bn.fr {a:Addr} {f:bW} (h:Bn K a [.int f.1,.int f.2]):Dn K H (dR f) (.ref a):=iQ (h.at H)
end
theorem aq {α:Type} {l:List α} {i:Nat} (h:i<l.length):l[i]?=some l[i]:=afY h
theorem fF {α:Type} {xs:List α} {i:Nat} {v:α} (h:xs[i]?=some v):tN xs (i:Int)=some v:=bA h
theorem Cu {K:W.Frag} {o:Option bW} {r:Option V} {z:V} (h:mM K H o r) (hz:Dn K H (dR (0,1)) z):Dn K H (dR (o.getD (0,1))) (r.getD z):=by
 cases o with
 | none=>cases r with
   | none=>exact hz
   | some v=>exact (show False from h).elim
 | some f=>cases r with
   | none=>exact (show False from h).elim
   | some v=>exact h
inductive IH  (vs:List V) (H:Hp) (Q:VK) (_E:XK):Prop
 | mk (n g:Int) (_:vs=[.int n,.int g]) (_:Q (.bl (decide (0<=n/\n<=g))) H)
section
variable (K:W.Frag) (C:Addr)
inductive Ki  (vs:List V) (H:Hp) (Q:VK) (_E:XK):Prop
 | mk (a fp m:_) (_:vs=[.ref a]) (_:aL K C H a fp m) (_:Q (ap m.rows.length) H)
inductive yj  (vs:List V) (H:Hp) (Q:VK) (_E:XK):Prop
 | mk (a fp m:_) (i:Nat) (_:vs=[.ref a,ap i]) (_:aL K C H a fp m) (_:i<m.rows.length) (_:Q .b9 H)
inductive Od  (vs:List V) (H:Hp) (Q:VK) (_E:XK):Prop
 | mk (a fp m:_) (i:Nat) (s:_) (_:vs=[.ref a,ap i]) (_:aL K C H a fp m) (_:m.bf[i]?=some s) (_:∀ v,Dn K H (on s) v->Q v H)
inductive GX  (vs:List V) (H:Hp) (Q:VK) (_E:XK):Prop
 | mk (a fp m:_) (i:Nat) (s:_) (_:vs=[.ref a,ap i]) (_:aL K C H a fp m) (_:m.aD[i]?=some s) (_:∀ v,Dn K H (hX s) v->Q v H)
inductive Gb  (vs:List V) (H:Hp) (Q:VK) (_E:XK):Prop
 | mk (a fp m:_) (i:Nat) (r:_) (_:vs=[.ref a,ap i]) (_:aL K C H a fp m) (_:m.rows[i]?=some r) (_:∀ p xs,H p=none->bT K H (r.map dR) xs->Q (.ref p) (upd H p (.lst xs)))
inductive N5  (vs:List V) (H:Hp) (Q:VK) (_E:XK):Prop
 | mk (a fp m:_) (i:Nat) (_:vs=[.ref a,ap i]) (_:aL K C H a fp m) (_:i<m.rows.length) (_:∀ v H',aA H H'->Dn K H' (dR (m.own i)) v->Q v H')
inductive Fy  (vs:List V) (H:Hp) (Q:VK) (_E:XK):Prop
 | mk (a fp m:_) (i j:Nat) (_:vs=[.ref a,ap i,ap j]) (_:aL K C H a fp m) (_:i<m.rows.length) (_:j<m.rows.length) (_:∀ v H',aA H H'->Dn K H' (dR (m.share i j)) v->Q v H')
end
theorem aL.same {K:W.Frag} {a:Addr} {m:ao} (s:aA H H') (h:aL K C H a fp m):aL K C H' a fp m:=by
 obtain ⟨⟨dx,pm,pf,ps,pt,vm,vs,vt,az,e,ha,i0,d5,hJ,eR,eQ,n1,n2,n3,dm,ds,dt,df,fk⟩,q1,q2,q3,q4⟩:=h
 refine ⟨⟨dx,pm,pf,ps,pt,vm,vs,vt,az,e,s _ _ ha,s _ _ i0,s _ _ d5,s _ _ hJ,s _ _ eR,s _ _ eQ,n1,n2,n3,bT.same s _ dm,bT.same s _ ds,bT.same s _ dt,λ i j=>?_,fk⟩,q1,q2,q3,q4⟩
 have:=df i j
 revert this
 cases m.bi i j<;>cases ge az (fY i j)<;>intro q
 . exact q
 . exact q
 . exact q
 . exact Dn.same s _ q
theorem Cz {n i:Nat} (h:i<n):Ck n (i:Int)=some i:=by
 unfold Ck
 rw [acS (by lia),acS (by lia),akM]
theorem OT {x y z t:V}:[x,y,z,t].length<=sizeLine:=by show 4<=sizeLine;decide
theorem Mn {x:V}:[x].length<=sizeLine:=by show 1<=sizeLine;decide
theorem va {α:Type} [DecidableEq α]:∀ (l L:List α),l.Nodup->(∀ x∈l,x∈L)->l.length<=L.length
 | [],_,_,_=>aiv _
 | x::l,L,hn,hs=>by
   obtain ⟨h1,h2⟩:=List.nodup_cons.mp hn
   have hx:=hs x afg
   have:=va l (L.erase x) h2 λ y hy=>(List.mem_erase_of_ne (λ e=>h1 (by rw [← e];exact hy))).mpr (hs y (aeC _ hy))
   rw [List.length_erase_of_mem hx] at this
   have hp:=List.length_pos_of_mem hx
   rw [afc]
   lia
def KL:List (List Key):=(List.range 4).flatMap λ (i:Nat)=>(List.range 4).map λ (j:Nat)=>fY (i:Int) (j:Int)
theorem oh.len {az:List (List Key×V)} (h:oh az):az.length<=16:=by
 have:=va (az.map (·.1)) KL h.1 λ x hx=>by
   obtain ⟨p,hp,rfl⟩:=List.mem_map.mp hx
   obtain ⟨i,j,hi,hj,e⟩:=h.2 p hp
   rw [e]
   exact List.mem_flatMap.mpr ⟨i,List.mem_range.mpr hi,List.mem_map.mpr ⟨j,List.mem_range.mpr hj,rfl⟩⟩
 rw [AM] at this
 exact agB this (by decide)
theorem oh.put {az:List (List Key×V)} (h:oh az) {i j:Nat} (hi:i<4) (hj:j<4) (v:V):oh (putK az (fY i j) v):=by
 refine ⟨?_,λ p hp=>?_⟩
 .
  cases e:ge az (fY i j) with
  | none=>exact KQ v h.1 e
  | some y =>
    have hc:(az.any λ kv=>decide (kv.1=fY i j))=true:=by
      unfold ge at e
      cases q:az.find? λ kv=>decide (kv.1=fY i j) with
      | none=>rw [q] at e;cases e
      | some z=>have q2:=List.find?_some q;exact List.any_eq_true.mpr ⟨z,List.mem_of_find?_eq_some q,q2⟩
    unfold putK
    rw [acS hc,anM]
    have:((λ x:List Key×V=>x.1) ∘ λ kv:List Key×V=>if kv.1=fY i j then (kv.1,v) else kv)=λ x=>x.1:=by
      funext x
      show (if x.1=fY i j then (x.1,v) else x).1=x.1
      split<;>rfl
    rw [this]
    exact h.1
 .
  unfold putK at hp
  split at hp
  . obtain ⟨z,hz,rfl⟩:=List.mem_map.mp hp
    obtain ⟨a,b,ha,hb,e⟩:=h.2 z hz
    refine ⟨a,b,ha,hb,?_⟩
    split<;>exact e
  .
   rcases List.mem_append.mp hp with hp|hp
   . exact h.2 p hp
   . have:p=(fY i j,v):=by simpa using hp
     subst this
     exact ⟨i,j,hi,hj,rfl⟩
theorem zg {i j i' j':Int} (h:fY i j=fY i' j'):i=i'/\j=j':=by
 simp only [fY,ao2,Sum.inl.injEq,and_true] at h
 exact h
def ao.eL (m:ao) (i j:Nat) (f:bW):ao:={ m with bi:=λ a b=>if a=(i:Int)/\b=(j:Int) then some f else m.bi a b }
def ao.fV (m:ao) (i:Nat) (s:bW×bW×bW):ao:={ m with bf:=m.bf.set i s }
def ao.hG (m:ao) (i:Nat) (s:bW×Int×Int×Int):ao:={ m with aD:=m.aD.set i (some s)}
def ao.bS (m:ao) (r:List bW):ao:={ m with rows:=m.rows++[r],bf:=m.bf++[((0,1),(0,1),(0,1))],aD:=m.aD++[none]}
def ao.new (most ir load:Int):ao:=⟨most,ir,load,[],λ _ _=>none,[],[]⟩
structure qB (K:W.Frag) (C:Addr) (H:Hp) (a:Addr) (fp:List Addr) (m':ao) (H':Hp) (pN:List Addr):Prop where
 at_:aL K C H' a pN m'
 but:m7 fp H H'
 ts:bw K H H'
 own:∀ b∈pN,b∈fp∨H b=none
theorem mM.ts {K:W.Frag} (s:bw K H H'):∀ {o:Option bW} {v:Option V},mM K H o v->mM K H' o v
 | none,none,_=>trivial
 | some f,some v,h=>Dn.ts s _ (gq f) h
 | none,some _,h=>h
 | some _,none,h=>h
theorem jV {K:W.Frag} {rs:List (List bW)} (s:bw K H H') (h:bT K H (rs.map uo) xs):bT K H' (rs.map uo) xs:=bT.ts s _ (λ d hd=>by obtain ⟨r,_,rfl⟩:=List.mem_map.mp hd;exact zR r) h
theorem iP {K:W.Frag} {rs:List (bW×bW×bW)} (s:bw K H H') (h:bT K H (rs.map on) xs):bT K H' (rs.map on) xs:=bT.ts s _ (λ d hd=>by obtain ⟨r,_,rfl⟩:=List.mem_map.mp hd;exact rQ r) h
theorem gJ {K:W.Frag} {rs:List (Option (bW×Int×Int×Int))} (s:bw K H H') (h:bT K H (rs.map hX) xs):bT K H' (rs.map hX) xs:=bT.ts s _ (λ d hd=>by obtain ⟨r,_,rfl⟩:=List.mem_map.mp hd;exact sU r) h
def qT (r:List bW):Bool:=(List.zipWith aW r r.tail).all id
def j5 (rs:List (List bW)):Int:=rs.foldl (λ p r=>p * ((r.length:Int) - 1)) 1
section
variable (K:W.Frag) (C:Addr)
inductive J1  (vs:List V) (H:Hp) (Q:VK) (_E:XK):Prop
 | mk (a fp m:_) (i:Nat) (v1 v2 f g:_) (_:vs=[.ref a,ap i,v1,v2]) (_:aL K C H a fp m) (_:i<m.rows.length) (_:Dn K H (dR f) v1) (_:Dn K H (dR g) v2) (_:dU 100 f) (_:dU 100 g) (_:0<=f.1) (_:aW (li (m.own i) g) f=false) (_:∀ H',aA H H'->Q .b9 H')
inductive xR  (vs:List V) (H:Hp) (Q:VK) (_E:XK):Prop
 | mk (a fp m:_) (i j:Nat) (v f:_) (_:vs=[.ref a,ap i,ap j,v]) (_:aL K C H a fp m) (_:i<m.rows.length) (_:j<m.rows.length) (_:i≠j) (_:Dn K H (dR f) v) (_:dU 100 f) (_:0<=f.1) (_:aW (li (m.own i) (m.fD i j)) f=false) (_:∀ H' pN,qB K C H a fp (m.eL i j f) H' pN->Q .b9 H')
inductive BF  (vs:List V) (H:Hp) (Q:VK) (_E:XK):Prop
 | mk (a fp m:_) (i:Nat) (v1 v2 v3 f lo hi:_) (_:vs=[.ref a,ap i,v1,v2,v3]) (_:aL K C H a fp m) (_:i<m.rows.length) (_:Dn K H (dR f) v1) (_:Dn K H (dR lo) v2) (_:Dn K H (dR hi) v3) (_:dU 100 f) (_:dU 100 lo) (_:dU 100 hi) (_:aW hi lo=false) (_:0<=f.1) (_:aW (li (m.own i) (m.eT i)) f=false) (_:∀ H' pN,qB K C H a fp (m.fV i (f,lo,hi)) H' pN->Q .b9 H')
inductive nv  (vs:List V) (H:Hp) (Q:VK) (_E:XK):Prop
 | mk (a fp m:_) (i:Nat) (v f:_) (w st fl:Int) (_:vs=[.ref a,ap i,v,.int w,.int st,.int fl]) (_:aL K C H a fp m) (_:i<m.rows.length) (_:Dn K H (dR f) v) (_:dU 100 f) (_:0<=f.1) (_:(0<=w/\w<=9)) (_:(0<=st/\st<=3)) (_:(0<=fl/\fl<=3)) (_:∀ H' pN,qB K C H a fp (m.hG i (f,w,st,fl)) H' pN->Q .b9 H')
inductive Eg  (vs:List V) (H:Hp) (Q:VK) (_E:XK):Prop
 | mk (p xs r:_) (_:vs=[.ref p]) (_:aT K H p xs) (_:bT K H (r.map dR) xs) (_:(∀ f∈r,dU 100 f)) (_:r.length<=7) (_:∀ H',aA H H'->Q (.bl (qT r)) H')
inductive GW  (vs:List V) (H:Hp) (Q:VK) (_E:XK):Prop
 | mk (p xs rs:_) (_:vs=[.ref p]) (_:aT K H p xs) (_:bT K H (rs.map uo) xs) (_:rs.length<=5) (_:(∀ r∈rs,1<=r.length/\r.length<=7)) (_:Q (.int (j5 rs)) H)
inductive zw  (vs:List V) (H:Hp) (Q:VK) (_E:XK):Prop
 | mk (a fp m p xs r:_) (_:vs=[.ref a,.ref p]) (_:aL K C H a fp m) (_:m.rows.length<4) (_:aT K H p xs) (_:bT K H (r.map dR) xs) (_:(∀ f∈r,dU 100 f)) (_:2<=r.length) (_:r.length<=7) (_:qT r=true) (_:j5 (m.rows++[r])<=400) (_:∀ H' pN,qB K C H a fp (m.bS r) H' pN->Q (ap m.rows.length) H')
inductive CM  (vs:List V) (H:Hp) (Q:VK) (_E:XK):Prop
 | mk (x dx:_) (most ir load:Int) (_:vs=[.ref x,.int most,.int ir,.int load]) (_:H x=some (.ins C dx [])) (_:H dx=some (.own x)) (_:(0<=most/\most<=4)) (_:(0<=ir/\ir<=30)) (_:(0<=load/\load<=30)) (_:∀ H' pN,qB K C H x [x,dx] (ao.new most ir load) H' pN->Q .b9 H')
end
theorem bG {a b:Addr} {u:HO} (h:H a=some o) (k:H b=some u) (n:o≠u):a≠b:=λ e=>by
 subst e
 rw [h] at k
 exact n (ac2 k)
theorem nG {m:ao} {uH pt Da vJ qm qM:Addr} (h:some (HO.ins C dx (ly m pm pf ps pt))=some (HO.ins C uH (ly m Da vJ qm qM))):dx=uH/\pm=Da/\pf=vJ/\ps=qm/\pt=qM:=by
 simp only [ly,Option.some.injEq,HO.ins.injEq,ao2,Prod.mk.injEq,apP,and_true,V.ref.injEq] at h
 exact h
theorem m7.same (s:aA H H'):m7 fp H H':=λ b o h _=>s b o h
theorem m7.upd {p:Addr} (b:m7 fp H H') (hp:p∈fp):m7 fp H (upd H' p o):=λ c u h n=>by
 rw [ax (λ e=>n (by rw [e];exact hp))]
 exact b c u h n
section
variable {K:W.Frag} {C:Addr} {H H1:Hp} {a:Addr} {fp:List Addr} {m:ao}
theorem Et {pt:Addr} {az:List (List Key×V)} {i j:Nat} {f:bW} (hh:aL K C H a fp m) (s:aA H H1) (ha:H a=some (.ins C dx (ly m pm pf ps pt))) (hJ:H pf=some (.dT az)) (hi:i<4) (hj:j<4) (d:Dn K H1 (dR f) v) (o:dU 100 f):qB K C H a fp (m.eL i j f) (upd H1 pf (.dT (putK az (fY i j) v))) fp:=by
 obtain ⟨⟨uH,Da,vJ,qm,qM,vm,vs,vt,or,oF,uU,i0,d5,ma,eR,eQ,n1,n2,n3,dm,ds,dt,df,fk⟩,q1,q2,q3,q4⟩:=hh
 obtain ⟨rfl,rfl,rfl,rfl,rfl⟩:=nG (uU.symm.trans ha)
 obtain rfl:or=az:=by
   have:=ma.symm.trans hJ
   injection this with e
   injection e
 have t1:bw K H1 (upd H1 vJ (.dT (putK or (fY i j) v))):=cF (s _ _ ma) rfl
 have t0:=(aA.ts (K:=K) s).trans t1
 have w:∀ {b o},H b=some o->o ≠ .dT or->(upd H1 vJ (.dT (putK or (fY i j) v))) b=some o:=λ h n=>by
   rw [ax (bG h ma n)]
   exact s _ _ h
 refine ⟨⟨⟨uH,Da,vJ,qm,qM,vm,vs,vt,putK or (fY i j) v,oF,w uU nofun,w i0 nofun,w d5 nofun,ag,w eR nofun,w eQ nofun,n1,n2,n3,jV t0 dm,iP t0 ds,gJ t0 dt,λ i' j'=>?_,fk.put hi hj v⟩,q1,q2,q3,⟨q4.rows,q4.len,λ i' j' g hg=>?_,q4.bf,q4.aD⟩⟩,(m7.same s).upd (by rw [oF];simp),t0,λ b hb => .inl hb⟩
 .
  rw [zL]
  by_cases e:i'=(i:Int)/\j'=(j:Int)
  . show mM K _ (if i'=(i:Int)/\j'=(j:Int) then some f else m.bi i' j') _
    rw [acS e,acS (by rw [e.1,e.2])]
    exact Dn.ts t1 _ (gq f) d
  . show mM K _ (if i'=(i:Int)/\j'=(j:Int) then some f else m.bi i' j') _
    rw [acO e,acO (λ z=>e (zg z))]
    exact (df i' j').ts t0
 .
  have hg:(if i'=(i:Int)/\j'=(j:Int) then some f else m.bi i' j')=some g:=hg
  split at hg
  . cases hg
    exact o
  . exact q4.bi i' j' g hg
theorem Fo {pt:Addr} {vs:List V} {i:Nat} {z:bW×bW×bW} (hh:aL K C H a fp m) (s:aA H H1) (ha:H a=some (.ins C dx (ly m pm pf ps pt))) (eR:H ps=some (.lst vs)) (d:Dn K H1 (on z) v) (o:dU 100 z.1/\dU 100 z.2.1/\dU 100 z.2.2):qB K C H a fp (m.fV i z) (upd H1 ps (.lst (vs.set i v))) fp:=by
 obtain ⟨⟨uH,Da,vJ,qm,qM,vm,Bx,vt,or,oF,uU,i0,d5,ma,yB,eQ,n1,n2,n3,dm,ds,dt,df,fk⟩,q1,q2,q3,q4⟩:=hh
 obtain ⟨rfl,rfl,rfl,rfl,rfl⟩:=nG (uU.symm.trans ha)
 obtain rfl:Bx=vs:=by
   have:=yB.symm.trans eR
   injection this with e
   injection e
 have t1:bw K H1 (upd H1 qm (.lst (Bx.set i v))):=cF (s _ _ yB) rfl
 have t0:=(aA.ts (K:=K) s).trans t1
 have w:∀ {b o},H b=some o->b≠qm->(upd H1 qm (.lst (Bx.set i v))) b=some o:=λ h n=>by
   rw [ax n]
   exact s _ _ h
 refine ⟨⟨⟨uH,Da,vJ,qm,qM,vm,Bx.set i v,vt,or,oF,w uU (bG uU eR nofun),w i0 (bG i0 eR nofun),w d5 n1,w ma (bG ma eR nofun),ag,w eQ n3.symm,n1,n2,n3,jV t0 dm,?_,gJ t0 dt,λ i' j'=>(df i' j').ts t0,fk⟩,?_,q2,q3,⟨q4.rows,q4.len,q4.bi,λ y hy=>?_,q4.aD⟩⟩,(m7.same s).upd (by rw [oF];simp),t0,λ b hb => .inl hb⟩
 . show bT K _ ((m.bf.set i z).map on) _
   rw [aoO]
   exact bT.set (i:=i) (iP t0 ds) (Dn.ts t1 _ (rQ z) d)
 . show (m.bf.set i z).length=_
   rw [aln];exact q1
 . rcases apa hy with h|h
   . exact q4.bf y h
   . rw [h];exact o
theorem Ao {pt:Addr} {i:Nat} {z:bW×Int×Int×Int} (hh:aL K C H a fp m) (s:aA H H1) (ha:H a=some (.ins C dx (ly m pm pf ps pt))) (eQ:H pt=some (.lst vt)) (d:Dn K H1 (hX (some z)) v) (o:dU 100 z.1):qB K C H a fp (m.hG i z) (upd H1 pt (.lst (vt.set i v))) fp:=by
 obtain ⟨⟨uH,Da,vJ,qm,qM,vm,Bx,D3,or,oF,uU,i0,d5,ma,yB,DT,n1,n2,n3,dm,ds,dt,df,fk⟩,q1,q2,q3,q4⟩:=hh
 obtain ⟨rfl,rfl,rfl,rfl,rfl⟩:=nG (uU.symm.trans ha)
 obtain rfl:D3=vt:=by
   have:=DT.symm.trans eQ
   injection this with e
   injection e
 have t1:bw K H1 (upd H1 qM (.lst (D3.set i v))):=cF (s _ _ DT) rfl
 have t0:=(aA.ts (K:=K) s).trans t1
 have w:∀ {b o},H b=some o->b≠qM->(upd H1 qM (.lst (D3.set i v))) b=some o:=λ h n=>by
   rw [ax n]
   exact s _ _ h
 refine ⟨⟨⟨uH,Da,vJ,qm,qM,vm,Bx,D3.set i v,or,oF,w uU (bG uU eQ nofun),w i0 (bG i0 eQ nofun),w d5 n2,w ma (bG ma eQ nofun),w yB n3,ag,n1,n2,n3,jV t0 dm,iP t0 ds,?_,λ i' j'=>(df i' j').ts t0,fk⟩,q1,?_,q3,⟨q4.rows,q4.len,q4.bi,q4.bf,λ y hy=>?_⟩⟩,(m7.same s).upd (by rw [oF];simp),t0,λ b hb => .inl hb⟩
 . show bT K _ ((m.aD.set i (some z)).map hX) _
   rw [aoO]
   exact bT.set (i:=i) (gJ t0 dt) (Dn.ts t1 _ (sU (some z)) d)
 . show (m.aD.set i (some z)).length=_
   rw [aln];exact q2
 . rcases apa hy with h|h
   . exact q4.aD y h
   . cases h;exact o
end
theorem GF (xs:List V):oH xs (some 1) none=xs.tail:=by
 have e:HT.tW xs.length 0 (some 1)=min 1 xs.length:=HT.Jg _ _ 1
 unfold oH
 rw [e,HT.EH]
 cases xs with
 | nil=>rfl
 | cons x l =>
   have:min 1 (x::l).length=1:=by simp
   rw [this]
   simp
theorem aA.put {D:Addr} (s:aA H H') (h:H D=none):aA H (upd H' D o):=λ b u e=>by
 rw [ax (av e h)]
 exact s b u e
theorem Bl {r:List bW} {i:Nat} {x y:bW} (hx:r[i]?=some x) (hy:r[i+1]?=some y):(List.zipWith aW r r.tail)[i]?=some (aW x y):=by
 rw [apy,hx]
 have:r.tail[i]?=some y:=by rw [aoI];exact hy
 rw [this]
section
variable {K:W.Frag} {C:Addr} {H H1:Hp} {a:Addr} {fp:List Addr} {m:ao}
theorem DI {pt kt q0 N:Addr} {vs:List V} {r:List bW} (hh:aL K C H a fp m) (s:aA H H1) (ha:H a=some (.ins C dx (ly m pm pf ps pt))) (d5:H pm=some (.lst vm)) (eR:H ps=some (.lst vs)) (eQ:H pt=some (.lst vt)) (hn:H p3=none) (IF:H1 p3=some (.lst (vm++[.ref kt]))) (dr:Dn K H1 (uo r) (.ref kt)) (mH:m.rows.length<4) (hr:∀ f∈r,dU 100 f) (hl:2<=r.length/\r.length<=7) (dN:∀ H',Dn K H' (dR (0,1)) (.ref N)) (DQ:upd H1 a (.ins C dx (bD "mark_rows" (.ref p3) (ly m pm pf ps pt))) q0=none) :
   ∃ pN,qB K C H a fp (m.bS r) (upd (upd (upd (upd H1 a (.ins C dx (bD "mark_rows" (.ref p3) (ly m pm pf ps pt)))) q0 (.tup [.ref N,.ref N,.ref N])) ps (.lst (vs++[.ref q0]))) pt (.lst (vt++[.b9]))) pN:=by
 obtain ⟨⟨uH,Da,vJ,qm,qM,Td,Bx,D3,or,oF,uU,i0,Ot,ma,yB,DT,n1,n2,n3,dm,ds,dt,df,fk⟩,q1,q2,q3,q4⟩:=hh
 obtain ⟨rfl,rfl,rfl,rfl,rfl⟩:=nG (uU.symm.trans ha)
 obtain rfl:Td=vm:=by
   have:=Ot.symm.trans d5
   injection this with e
   injection e
 obtain rfl:Bx=vs:=by
   have:=yB.symm.trans eR
   injection this with e
   injection e
 obtain rfl:D3=vt:=by
   have:=DT.symm.trans eQ
   injection this with e
   injection e
 let H2:=upd H1 a (.ins C uH (bD "mark_rows" (.ref p3) (ly m Da vJ qm qM)))
 let H3:=upd H2 q0 (.tup [.ref N,.ref N,.ref N])
 let H4:=upd H3 qm (.lst (Bx++[.ref q0]))
 let H5:=upd H4 qM (.lst (D3++[.b9]))
 have w2:∀ {b o},H1 b=some o->b≠a->H2 b=some o:=λ h n=>by show upd _ _ _ _=_;rw [ax n];exact h
 have s3:aA H2 H3:=ak DQ
 have na:H2 a=some (.ins C uH (bD "mark_rows" (.ref p3) (ly m Da vJ qm qM))):=ag
 have QR:=bG uU eR nofun
 have YH:=bG uU eQ nofun
 have PN:H2 qm=some (.lst Bx):=w2 (s _ _ eR) QR.symm
 have ajT:H2 qM=some (.lst D3):=w2 (s _ _ eQ) YH.symm
 have alp:=s3 _ _ PN
 have alb:=s3 _ _ ajT
 have amZ:H4 qM=some (.lst D3):=by show upd _ _ _ _=_;rw [ax n3.symm];exact alb
 have t12:bw K H1 H2:=cF (s _ _ uU) rfl
 have t34:bw K H3 H4:=cF alp rfl
 have Yb:bw K H4 H5:=cF amZ rfl
 have t35:=t34.trans Yb
 have t15:=t12.trans ((aA.ts s3).trans t35)
 have UV:=(aA.ts (K:=K) s).trans t15
 have w5:∀ {b o},H2 b=some o->b≠qm->b≠qM->H5 b=some o:=λ h x y=>by
   show upd _ _ _ _=_
   rw [ax y]
   show upd _ _ _ _=_
   rw [ax x]
   exact s3 _ _ h
 have wo:∀ {b o},H b=some o->b≠a->b≠qm->b≠qM->H5 b=some o:=λ h x y z=>w5 (w2 (s _ _ h) x) y z
 have p3a:p3≠a:=(av uU hn).symm
 have p3s:p3≠qm:=(av eR hn).symm
 have p3t:p3≠qM:=(av eQ hn).symm
 have q0s:q0≠qm:=(av PN DQ).symm
 have ace:H5 qm=some (.lst (Bx++[.ref q0])):=by
   show upd _ _ _ _=_
   rw [ax n3]
   exact ag
 refine ⟨[a,uH,p3,vJ,qm,qM],⟨⟨uH,p3,vJ,qm,qM,Td++[.ref kt],Bx++[.ref q0],D3++[.b9],or,rfl,?_,wo i0 (bG i0 uU nofun) (bG i0 eR nofun) (bG i0 eQ nofun),w5 (w2 IF p3a) p3s p3t,wo ma (bG ma uU nofun) (bG ma eR nofun) (bG ma eQ nofun),ace,ag,p3s,p3t,n3,?_,?_,?_,λ i j=>(df i j).ts UV,fk⟩,?_,?_,?_,?_⟩,?_,UV,?_⟩
 . exact w5 na QR YH
 . show bT K H5 ((m.rows++[r]).map uo) _
   rw [YT]
   exact (jV UV dm).snoc (Dn.ts t15 _ (zR r) dr)
 . show bT K H5 ((m.bf++[((0,1),(0,1),(0,1))]).map on) _
   rw [YT]
   exact (iP UV ds).snoc (Dn.ts t35 _ (rQ _) (EI (s:=((0,1),(0,1),(0,1))) (bP.of ag) (dN _) (dN _) (dN _)))
 . show bT K H5 ((m.aD++[none]).map hX) _
   rw [YT]
   exact (gJ UV dt).snoc rfl
 . show (m.bf++[_]).length=(m.rows++[r]).length
   rw [abi,abi,q1];rfl
 . show (m.aD++[_]).length=(m.rows++[r]).length
   rw [abi,abi,q2];rfl
 . show (m.rows++[r]).length<=4
   rw [abi];exact mH
 .
  refine ⟨λ x hx=>?_,λ x hx=>?_,q4.bi,λ x hx=>?_,λ x hx=>?_⟩
  . rcases List.mem_append.mp hx with h|h
    . exact q4.rows x h
    . rw [List.mem_singleton.mp h];exact hr
  . rcases List.mem_append.mp hx with h|h
    . exact q4.len x h
    . rw [List.mem_singleton.mp h];exact hl
  . rcases List.mem_append.mp hx with h|h
    . exact q4.bf x h
    . rw [List.mem_singleton.mp h];exact ⟨FI,FI,FI⟩
  . rcases List.mem_append.mp hx with h|h
    . exact q4.aD x h
    . cases List.mem_singleton.mp h
 .
  intro b o h n
  rw [oF] at n
  simp only [acs,aaI,agT,an3] at n
  exact wo h n.1 n.2.2.2.2.1 n.2.2.2.2.2
 .
  intro b hb
  rw [oF]
  simp only [acs,aaI,agT] at hb ⊢
  rcases hb with rfl|rfl|rfl|rfl|rfl|rfl
  . exact .inl (.inl rfl)
  . exact .inl (.inr (.inl rfl))
  . exact .inr hn
  . exact .inl (.inr (.inr (.inr (.inl rfl))))
  . exact .inl (.inr (.inr (.inr (.inr (.inl rfl)))))
  . exact .inl (.inr (.inr (.inr (.inr (.inr rfl)))))
end
structure jt (K:W.Frag) (C x dx:Addr) (H H':Hp) (fs:List (Str×V)):Prop where
 st:∀ b o,H b=some o->b≠x->H' b=some o
 ts:bw K H H'
 at_:H' x=some (.ins C dx fs)
section
variable {K:W.Frag} {C x dx:Addr} {H H':Hp} {fs fs':List (Str×V)}
theorem jt.start (h:H x=some (.ins C dx fs)):jt K C x dx H H fs:=⟨λ _ _ h _=>h,bw.refl _,h⟩
theorem jt.put (B:jt K C x dx H H' fs):jt K C x dx H (upd H' x (.ins C dx fs')) fs':=⟨λ b o h n=>by rw [ax n];exact B.st b o h n,B.ts.trans (cF B.at_ rfl),ag⟩
theorem jt.new {p:Addr} (B:jt K C x dx H H' fs) (hp:H' p=none):jt K C x dx H (upd H' p o) fs:=⟨λ b u h n=>by rw [ax (av (B.st b u h n) hp)];exact B.st b u h n,B.ts.trans (aA.ts (ak hp)),by rw [ax (av B.at_ hp)];exact B.at_⟩
theorem jt.keep {b:Addr} {u:HO} (B:jt K C x dx H H' fs) (h:H' b=some o) (n:b≠x):(upd H' x u) b=some o:=by rw [ax n];exact h
theorem jt.none {p:Addr} (B:jt K C x dx H H' fs) (hp:H' p=none):H p=Option.none:=by
 cases e:H p with
 | none=>rfl
 | some o =>
   by_cases q:p=x
   . rw [q,B.at_] at hp;cases hp
   . rw [B.st p o e q] at hp;cases hp
theorem jt.ne {p:Addr} (B:jt K C x dx H H' fs) (hp:H' p=Option.none):p≠x:=λ q=>by rw [q,B.at_] at hp;cases hp
theorem Cj {α:Type} {p:α->Prop} (x:α) (h:x∈([]:List α)):p x:=absurd h aaI
theorem Gy {p1 p2 p4:Addr} {most ir load:Int} (B:jt K C x dx H H' (ly (ao.new most ir load) p1 p2 p3 p4)) (hx:H x=some (.ins C dx fs')) (i0:H dx=some (.own x)) (h1:H' p1=some (.lst [])) (h2:H' p2=some (.dT [])) (h3:H' p3=some (.lst [])) (h4:H' p4=some (.lst [])) (n1:H p1=none) (n2:H p2=none) (n3:H p3=none) (n4:H p4=none) (e1:p1≠p3) (e2:p1≠p4) (e3:p3≠p4) :
   qB K C H x [x,dx] (ao.new most ir load) H' [x,dx,p1,p2,p3,p4]:=by
 refine ⟨⟨⟨dx,p1,p2,p3,p4,[],[],[],[],rfl,B.at_,B.st _ _ i0 (bG i0 hx nofun),h1,h2,h3,h4,e1,e2,e3,rfl,rfl,rfl,λ _ _=>trivial,aob,Cj⟩,rfl,rfl,aiv _,⟨Cj,Cj,λ _ _ _ h=>(by cases h),Cj,λ _ h=>absurd h aaI⟩⟩,?_,B.ts,?_⟩
 . intro b o h n
   simp only [acs,aaI,agT,an3] at n
   exact B.st b o h n.1
 .
  intro b hb
  simp only [acs,aaI,agT] at hb ⊢
  rcases hb with rfl|rfl|rfl|rfl|rfl|rfl
  . exact .inl (.inl rfl)
  . exact .inl (.inr rfl)
  . exact .inr n1
  . exact .inr n2
  . exact .inr n3
  . exact .inr n4
end
theorem lt1000 {n:Nat} (h:Nat.ble (n+1) 1000=true):n<1000:=aou h
def BV (i j:Int):Int:=reduceHash (Builtin.Tuple.tupleHashOf [hashInt i,hashInt j])
theorem DJ:∀ i j i' j':Fin 4,BV (i.val:Int) (j.val:Int)=BV (i'.val:Int) (j'.val:Int)->i=i'/\j=j':=by decide +kernel
theorem Dp (i:Nat) (hi:i<4) (j:Nat) (hj:j<4) (i':Nat) (Sv:i'<4) (j':Nat) (hj':j'<4) (h:BV (i:Int) (j:Int)=BV (i':Int) (j':Int)):i=i'/\j=j':=by
 obtain ⟨a,b⟩:=DJ ⟨i,hi⟩ ⟨j,hj⟩ ⟨i',Sv⟩ ⟨j',hj'⟩ h
 exact ⟨anv Fin.val a,anv Fin.val b⟩
theorem oh.hash {P:Program} {w:World} {az:List (List Key×V)} (h:oh az):(az.map λ kv=>tupleKeyHash (cn P w) kv.1).Nodup:=by
 have h1:=List.pairwise_map.mp h.1
 refine List.pairwise_map.mpr (h1.imp_of_mem λ {a b} ha hb n e=>?_)
 obtain ⟨i,j,hi,hj,e1⟩:=h.2 a ha
 obtain ⟨i',j',Sv,hj',e2⟩:=h.2 b hb
 rw [e1,e2] at e
 obtain ⟨z1,z2⟩:=Dp i hi j hj i' Sv j' hj' e
 exact n (by rw [e1,e2,z1,z2])
def Jv:Option Int->V
 | none => .b9
 | some n => .int n
theorem AU {U:St} {ta:TE} {k:Nat} {o:Option Int} {d:Int} (hk:U[k]?=some (some (Jv o))) (hA:∀ Q':VK,Q' (.int d) H->ta U H Q') (h:Q (.int (o.getD d)) H) :
   tIf (E6 (Tr (λ x y H Q=>y = .b9/\Q (.bl (decide (x = .b9))) H) (KP k) (tC .b9))) ta (KP k) U H Q:=by
 refine ⟨_,by rw [hk],rfl,_,rfl,?_⟩
 cases o with
 | none=>exact oK rfl (hA Q h)
 | some n=>exact mZ nofun ⟨_,hk,h⟩
def ao.with (m:ao) (x y z:Option Int):ao:={ m with most:=x.getD m.most,ir:=y.getD m.ir,load:=z.getD m.load }
def ao.Ye (m:ao):Prop:=(0<=m.most/\m.most<=4)/\(0<=m.ir/\m.ir<=30)/\(0<=m.load/\m.load<=30)
inductive CI (K:W.Frag) (C:Addr) (vs:List V) (H:Hp) (Q:VK) (_E:XK):Prop
 | mk (a fp m x y z:_) (_:vs=[.ref a,Jv x,Jv y,Jv z]) (_:aL K C H a fp m) (_:(m.with x y z).Ye) (_:∀ b H' pN,aA H H'->aL K C H' b pN (m.with x y z)->(∀ c∈pN,H c=none)->Q (.ref b) H')
theorem HV {K:W.Frag} {H1:Hp} {a x:Addr} {m m':ao} {l1 l2 l3 l4:Addr} {vs:List V} {az:List (List Key×V)} {CS pt:Addr} (hh:aL K C H a fp m) (ha:H a=some (.ins C CS (ly m pm pf ps pt))) (d5:H pm=some (.lst vm)) (hJ:H pf=some (.dT az)) (eR:H ps=some (.lst vs)) (eQ:H pt=some (.lst vt)) (s:aA H H1) (e:m'.rows=m.rows/\m'.bi=m.bi/\m'.bf=m.bf/\m'.aD=m.aD) (B:jt K C x dx H1 H' (ly m' l1 l2 l3 l4)) (i0:H' dx=some (.own x)) (h1:H' l1=some (.lst vm)) (h2:H' l2=some (.dT az)) (h3:H' l3=some (.lst vs)) (h4:H' l4=some (.lst vt)) (e1:l1≠l3) (e2:l1≠l4) (e3:l3≠l4):aL K C H' x [x,dx,l1,l2,l3,l4] m':=by
 obtain ⟨⟨uH,Da,vJ,qm,qM,Td,Bx,D3,or,oF,uU,aqS,Ot,ma,yB,DT,n1,n2,n3,dm,ds,dt,df,fk⟩,q1,q2,q3,q4⟩:=hh
 obtain ⟨rfl,rfl,rfl,rfl,rfl⟩:=nG (uU.symm.trans ha)
 obtain rfl:Td=vm:=by
   have:=Ot.symm.trans d5
   injection this with e
   injection e
 obtain rfl:Bx=vs:=by
   have:=yB.symm.trans eR
   injection this with e
   injection e
 obtain rfl:D3=vt:=by
   have:=DT.symm.trans eQ
   injection this with e
   injection e
 obtain rfl:or=az:=by
   have:=ma.symm.trans hJ
   injection this with e
   injection e
 have t:=(aA.ts (K:=K) s).trans B.ts
 obtain ⟨r1,r2,r3,r4⟩:=e
 refine ⟨⟨dx,l1,l2,l3,l4,Td,Bx,D3,or,rfl,B.at_,i0,h1,h2,h3,h4,e1,e2,e3,?_,?_,?_,λ i j=>?_,fk⟩,?_,?_,?_,⟨?_,?_,?_,?_,?_⟩⟩
 . rw [r1];exact jV t dm
 . rw [r3];exact iP t ds
 . rw [r4];exact gJ t dt
 . rw [r2];exact (df i j).ts t
 . rw [r1,r3];exact q1
 . rw [r1,r4];exact q2
 . rw [r1];exact q3
 . rw [r1];exact q4.rows
 . rw [r1];exact q4.len
 . rw [r2];exact q4.bi
 . rw [r3];exact q4.bf
 . rw [r4];exact q4.aD
theorem yz {ns:List Int} {r:Int} (h0:0<=r) (h1:r<ns.length):∃ z∈ns,tN (ns.map V.int) r=some (.int z):=by
 have hl:r.toNat<ns.length:=by lia
 have e:(ns.map V.int)[r.toNat]?=some (.int (ns[r.toNat]'hl)):=by simp [hl]
 have e2:=bA e
 rw [ann h0] at e2
 exact ⟨_,ab8 hl,e2⟩
inductive HS  (vs:List V) (H:Hp) (Q:VK) (_E:XK):Prop
 | mk (c k n:Int) (_:vs=[.int c,.int k,.int n]) (_:0<=k) (_:k<=1000) (_:0<n) (_:∀ r,0<=r->r<n->Q (.int r) H)
structure vU where
 a:Int
 b:Int
 t:Int
 d:Int
structure vU.Ok (s:vU):Prop where
 a0:1<=s.a
 a1:s.a<=10 ^ 9
 b0:1<=s.b
 b1:s.b<=10 ^ 9
 t0 : -(10 ^ 9)<=s.t
 t1:s.t<=10 ^ 9
 d0:1<=s.d
 d1:s.d<=10 ^ 9
abbrev vU.vs (s:vU):List V:=[.int s.a,.int s.b,.int s.t,.int s.d]
inductive Go  (vs:List V) (H:Hp) (Q:VK) (_E:XK):Prop
 | mk (c:Int) (_:vs=[.int c]) (_:∀ p H' (s:vU),s.Ok->aA H H'->H' p=some (.tup s.vs)->Q (.ref p) H')
def cp (num parts:Int) (s:vU):Int:=num * s.a * s.d+parts * s.t * s.b
def bU (parts:Int) (s:vU):Int:=parts * s.b * s.d
def aQ (num parts:Int) (s:vU):bW:=nf (cp num parts s) (bU parts s)
inductive Ie (K:W.Frag) (vs:List V) (H:Hp) (Q:VK) (_E:XK):Prop
 | mk (num parts p:_) (s:vU) (_:vs=[.int num,.int parts,.ref p]) (_:bP K H p s.vs) (_:s.Ok) (_:Bd 30 num) (_:0<parts) (_:Bd 30 parts) (_:∀ q H',aA H H'->H' q=some (.tup [.int (aQ num parts s).1,.int (aQ num parts s).2])->Q (.ref q) H')
theorem eB {parts:Int} {s:vU} (h:s.Ok) (hp:0<parts):0<bU parts s:=ag9 (ag9 hp (by have:=h.b0;lia)) (by have:=h.d0;lia)
theorem Dw {x:Int} (h0 : -(10 ^ 9)<=x) (h1:x<=10 ^ 9):Bd 30 x:=by show x.natAbs<2 ^ 30;lia
section
variable {s:vU}
theorem vU.Ok.ba (h:s.Ok):Bd 30 s.a:=Dw (by have:=h.a0;lia) h.a1
theorem vU.Ok.bb (h:s.Ok):Bd 30 s.b:=Dw (by have:=h.b0;lia) h.b1
theorem vU.Ok.bt (h:s.Ok):Bd 30 s.t:=Dw h.t0 h.t1
theorem vU.Ok.bd (h:s.Ok):Bd 30 s.d:=Dw (by have:=h.d0;lia) h.d1
end
theorem qW {num parts:Int} {s:vU} {n:Nat} (h:s.Ok) (hp:0<parts) (bn:Bd n num) (bp:Bd n parts):dU (n+61) (aQ num parts s):=by
 have F:=ie (t:=cp num parts s) (eB h hp)
 have b1:Bd (n+60) (num * s.a * s.d):=((bn.mul h.ba).mul h.bd).mono (by lia)
 have b2:Bd (n+60) (parts * s.t * s.b):=((bp.mul h.bt).mul h.bb).mono (by lia)
 have b3:Bd (n+60) (bU parts s):=((bp.mul h.bb).mul h.bd).mono (by lia)
 exact ⟨(F.Ym (b1.add b2)).mono (by lia),(F.Yk b3).mono (by lia),F.pos⟩
theorem ku {x y parts:Int} {s:vU} (h:s.Ok) (hp:0<parts):aW (aQ x parts s) (aQ y parts s)=decide (x<y):=by
 have F:=ie (t:=cp x parts s) (eB h hp)
 have G:=ie (t:=cp y parts s) (eB h hp)
 have hB:=eB h hp
 have e:(aQ x parts s).1 * (aQ y parts s).2<(aQ y parts s).1 * (aQ x parts s).2↔cp x parts s<cp y parts s:=by
   have c1:(aQ x parts s).1 * bU parts s=cp x parts s * (aQ x parts s).2:=F.jB
   have c2:(aQ y parts s).1 * bU parts s=cp y parts s * (aQ y parts s).2:=G.jB
   have p1:0<(aQ x parts s).2:=F.pos
   have p2:0<(aQ y parts s).2:=G.pos
   generalize (aQ x parts s).1=q1 at c1 ⊢
   generalize (aQ x parts s).2=r1 at c1 p1 ⊢
   generalize (aQ y parts s).1=q2 at c2 ⊢
   generalize (aQ y parts s).2=r2 at c2 p2 ⊢
   generalize cp x parts s=t1 at c1 ⊢
   generalize cp y parts s=t2 at c2 ⊢
   generalize bU parts s=B at c1 c2 hB
   have k1:(q1 * r2) * B=t1 * (r1 * r2):=by rw [afW,c1,akl]
   have k2:(q2 * r1) * B=t2 * (r1 * r2):=by rw [afW,c2,akl,anP r2 r1]
   have rp:0<r1 * r2:=ag9 p1 p2
   constructor
   . intro l
     have:=ano l hB
     rw [k1,k2] at this
     exact anr this (alO rp)
   . intro l
     have:=ano l rp
     rw [← k1,← k2] at this
     exact anr this (alO hB)
 unfold aW
 refine decide_eq_decide.mpr (e.trans ?_)
 have had:0<s.a * s.d:=ag9 (by have:=h.a0;lia) (by have:=h.d0;lia)
 unfold cp
 rw [akl x,akl y]
 constructor
 . intro l
   exact anr (by lia:x * (s.a * s.d)<y * (s.a * s.d)) (alO had)
 . intro l
   have:=ano l had
   lia
abbrev Ht (z:Int×Int×Int×Int):List V:=[.int z.1,.int z.2.1,.int z.2.2.1,.int z.2.2.2]
structure QW (z:Int×Int×Int×Int):Prop where
 h:0<=z.1/\z.1<=25
 w:0<=z.2.1/\z.2.1<=9
 s:0<=z.2.2.1/\z.2.2.1<=3
 f:0<=z.2.2.2/\z.2.2.2<=3
inductive pK  (vs:List V) (H:Hp) (Q:VK) (_E:XK):Prop
 | mk (a b c:Int) (i:Nat) (_:vs=[.int a,.int b,.int c,ap i]) (_:i<4) (_:Q .b9 H) (_:∀ p z,QW z->H p=none->Q (.ref p) (upd H p (.tup (Ht z))))
def fJ (H:Hp) (L:List Addr):Hp:=λ b=>if b∈L then none else H b
section
variable {K:W.Frag} {H H':Hp} {L:List Addr} {a:Addr} {o:HO}
theorem cQ:aA (fJ H L) H:=λ b u h=>by
 unfold fJ at h
 split at h
 . cases h
 . exact h
theorem mv (h:H a=some o) (n:a∉L):fJ H L a=some o:=by unfold fJ;rw [acO n];exact h
theorem qQ (h:a∈L):fJ (upd H a o) L=fJ H L:=by
 funext b
 unfold fJ
 split
 . rfl
 . rename_i n
   rw [ax (λ e=>n (by rw [e];exact h))]
theorem lI (s:aA H H'):aA (fJ H L) (fJ H' L):=λ b u h=>by
 unfold fJ at h ⊢
 split at h
 . cases h
 . rename_i n
   rw [acO n]
   exact s b u h
end
structure ar where
 marks:List (List Int)
 dA:List (Int×Int×Int)
 aD:List (Option (Int×Int×Int×Int))
 bi:Nat->Nat->Option Int
 scale:vU
 bounds:Int×Int×Int
abbrev C8 (z:Int×Int×Int):PyData:=.tuple [.int z.1,.int z.2.1,.int z.2.2]
abbrev stI:Option (Int×Int×Int×Int)->PyData
 | none => .none
 | some z => .tuple [.int z.1,.int z.2.1,.int z.2.2.1,.int z.2.2.2]
abbrev vI (l:List Int):PyData:=.list (l.map PyData.int)
def mL (pm ps pt pf fE pb:Addr):List (Key×V) :=
 [(.inr "marks",.ref pm),(.inr "sky",.ref ps),(.inr "stoves",.ref pt),(.inr "flows",.ref pf),(.inr "scale",.ref fE),(.inr "bounds",.ref pb)]
structure TC (K:W.Frag) (H:Hp) (p pm ps pt pf fE pb:Addr) (vm vs vt:List V) (az:List (List Key×V)) (m:ar):Prop where
 hp:H p=some (.dK (mL pm ps pt pf fE pb))
 d5:H pm=some (.lst vm)
 eR:H ps=some (.lst vs)
 eQ:H pt=some (.lst vt)
 hJ:H pf=some (.dT az)
 n1:pm≠ps
 n2:pm≠pt
 n3:ps≠pt
 dm:bT K (fJ H [p,pm,ps,pt,pf]) (m.marks.map vI) vm
 ds:bT K (fJ H [p,pm,ps,pt,pf]) (m.dA.map C8) vs
 dt:bT K (fJ H [p,pm,ps,pt,pf]) (m.aD.map stI) vt
 df:∀ i j:Nat,i<4->j<4->ge az (fY i j)=(m.bi i j).map V.int
 fk:oh az
 sc:bP K (fJ H [p,pm,ps,pt,pf]) fE m.scale.vs
 bo:bP K (fJ H [p,pm,ps,pt,pf]) pb [.int m.bounds.1,.int m.bounds.2.1,.int m.bounds.2.2]
section
variable {K:W.Frag} {H H':Hp} {p pm ps pt pf fE pb:Addr} {vm vs vt:List V} {az:List (List Key×V)} {m:ar}
theorem TC.same (c:TC K H p pm ps pt pf fE pb vm vs vt az m) (s:aA H H'):TC K H' p pm ps pt pf fE pb vm vs vt az m :=
 ⟨s _ _ c.hp,s _ _ c.d5,s _ _ c.eR,s _ _ c.eQ,s _ _ c.hJ,c.n1,c.n2,c.n3,bT.same (lI s) _ c.dm,bT.same (lI s) _ c.ds,bT.same (lI s) _ c.dt,c.df,c.fk,(lI s).tup c.sc,(lI s).tup c.bo⟩
theorem TC.G4 (c:TC K H p pm ps pt pf fE pb vm vs vt az m) {l:List Int} {x:V} (d:Dn K (fJ H [p,pm,ps,pt,pf]) (vI l) x) :
   TC K (upd H pm (.lst (vm++[x]))) p pm ps pt pf fE pb (vm++[x]) vs vt az { m with marks:=m.marks++[l]}:=by
 have e:fJ (upd H pm (.lst (vm++[x]))) [p,pm,ps,pt,pf]=fJ H [p,pm,ps,pt,pf]:=qQ (by simp)
 refine ⟨by rw [ax (bG c.hp c.d5 nofun)];exact c.hp,ag,by rw [ax c.n1.symm];exact c.eR,by rw [ax c.n2.symm];exact c.eQ,by rw [ax (bG c.hJ c.d5 nofun)];exact c.hJ,c.n1,c.n2,c.n3,?_,by rw [e];exact c.ds,by rw [e];exact c.dt,c.df,c.fk,by rw [e];exact c.sc,by rw [e];exact c.bo⟩
 rw [e]
 show bT K _ ((m.marks++[l]).map vI) _
 rw [YT]
 exact c.dm.snoc d
theorem TC.NE (c:TC K H p pm ps pt pf fE pb vm vs vt az m) {l:Int×Int×Int} {x:V} (d:Dn K (fJ H [p,pm,ps,pt,pf]) (C8 l) x) :
   TC K (upd H ps (.lst (vs++[x]))) p pm ps pt pf fE pb vm (vs++[x]) vt az { m with dA:=m.dA++[l]}:=by
 have e:fJ (upd H ps (.lst (vs++[x]))) [p,pm,ps,pt,pf]=fJ H [p,pm,ps,pt,pf]:=qQ (by simp)
 refine ⟨by rw [ax (bG c.hp c.eR nofun)];exact c.hp,by rw [ax c.n1];exact c.d5,ag,by rw [ax c.n3.symm];exact c.eQ,by rw [ax (bG c.hJ c.eR nofun)];exact c.hJ,c.n1,c.n2,c.n3,by rw [e];exact c.dm,?_,by rw [e];exact c.dt,c.df,c.fk,by rw [e];exact c.sc,by rw [e];exact c.bo⟩
 rw [e]
 show bT K _ ((m.dA++[l]).map C8) _
 rw [YT]
 exact c.ds.snoc d
theorem TC.FX (c:TC K H p pm ps pt pf fE pb vm vs vt az m) {l:Option (Int×Int×Int×Int)} {x:V} (d:Dn K (fJ H [p,pm,ps,pt,pf]) (stI l) x) :
   TC K (upd H pt (.lst (vt++[x]))) p pm ps pt pf fE pb vm vs (vt++[x]) az { m with aD:=m.aD++[l]}:=by
 have e:fJ (upd H pt (.lst (vt++[x]))) [p,pm,ps,pt,pf]=fJ H [p,pm,ps,pt,pf]:=qQ (by simp)
 refine ⟨by rw [ax (bG c.hp c.eQ nofun)];exact c.hp,by rw [ax c.n2];exact c.d5,by rw [ax c.n3];exact c.eR,ag,by rw [ax (bG c.hJ c.eQ nofun)];exact c.hJ,c.n1,c.n2,c.n3,by rw [e];exact c.dm,by rw [e];exact c.ds,?_,c.df,c.fk,by rw [e];exact c.sc,by rw [e];exact c.bo⟩
 rw [e]
 show bT K _ ((m.aD++[l]).map stI) _
 rw [YT]
 exact c.dt.snoc d
def ar.eL (m:ar) (i j:Nat) (k:Int):ar:={ m with bi:=λ a b=>if a=i/\b=j then some k else m.bi a b }
theorem TC.eL (c:TC K H p pm ps pt pf fE pb vm vs vt az m) {i j:Nat} {k:Int} (hi:i<4) (hj:j<4) :
   TC K (upd H pf (.dT (putK az (fY i j) (.int k)))) p pm ps pt pf fE pb vm vs vt (putK az (fY i j) (.int k)) (m.eL i j k):=by
 have e:fJ (upd H pf (.dT (putK az (fY i j) (.int k)))) [p,pm,ps,pt,pf]=fJ H [p,pm,ps,pt,pf]:=qQ (by simp)
 refine ⟨by rw [ax (bG c.hp c.hJ nofun)];exact c.hp,by rw [ax (bG c.d5 c.hJ nofun)];exact c.d5,by rw [ax (bG c.eR c.hJ nofun)];exact c.eR,by rw [ax (bG c.eQ c.hJ nofun)];exact c.eQ,ag,c.n1,c.n2,c.n3,by rw [e];exact c.dm,by rw [e];exact c.ds,by rw [e];exact c.dt,λ a b ha hb=>?_,c.fk.put hi hj _,by rw [e];exact c.sc,by rw [e];exact c.bo⟩
 rw [zL]
 show _=(if a=i/\b=j then some k else m.bi a b).map V.int
 by_cases z:a=i/\b=j
 . rw [acS z,acS (by rw [z.1,z.2])];rfl
 . rw [acO z,acO (λ y=>z (by have:=zg y;lia))]
   exact c.df a b ha hb
end
def oi (l:List Int):Prop:=∀ i x y,l[i]?=some x->l[i+1]?=some y->x<y
structure uu (n:Nat) (l:List Int):Prop where
 two:2<=l.length
 most:l.length<=if n<=2 then 7 else 5
 JV:oi l
 bd:∀ x∈l,-200<=x/\x<=200
structure ar.Ok (n i:Nat) (m:ar):Prop where
 lm:m.marks.length=i
 ls:m.dA.length=i
 lt:m.aD.length=i
 rows:∀ l∈m.marks,uu n l
 dA:∀ z∈m.dA,(0<=z.1/\z.1<=3)/\(-30<=z.2.1/\z.2.2<=60)/\z.2.1<=z.2.2/\z.2.2<=z.2.1+30
 aD:∀ z,some z∈m.aD->QW z
 bi:∀ a b,a<i->b<n->a≠b->∃ k,m.bi a b=some k/\0<=k/\k<=3
 scale:m.scale.Ok
 bounds:(0<=m.bounds.1/\m.bounds.1<=4)/\(0<=m.bounds.2.1/\m.bounds.2.1<=30)/\(0<=m.bounds.2.2/\m.bounds.2.2<=30)
def iK (K:W.Frag) (H:Hp) (p:Addr) (m:ar):Prop:=∃ pm ps pt pf fE pb vm vs vt az,TC K H p pm ps pt pf fE pb vm vs vt az m
theorem iK.same {K:W.Frag} {p:Addr} {m:ar} (h:iK K H p m) (s:aA H H'):iK K H' p m:=by
 obtain ⟨pm,ps,pt,pf,fE,pb,vm,vs,vt,az,c⟩:=h
 exact ⟨pm,ps,pt,pf,fE,pb,vm,vs,vt,az,c.same s⟩
section
variable {H:Hp} {p pm ps pt pf fE pb:Addr}
theorem bZ (h:H p=some (.dK (mL pm ps pt pf fE pb))):gF H p (.str "marks") (some (.ref pm)):=gF.k (k:=.inr "marks") h
theorem sj (h:H p=some (.dK (mL pm ps pt pf fE pb))):gF H p (.str "sky") (some (.ref ps)):=gF.k (k:=.inr "sky") h
theorem gZ (h:H p=some (.dK (mL pm ps pt pf fE pb))):gF H p (.str "stoves") (some (.ref pt)):=gF.k (k:=.inr "stoves") h
theorem mw (h:H p=some (.dK (mL pm ps pt pf fE pb))):gF H p (.str "flows") (some (.ref pf)):=gF.k (k:=.inr "flows") h
theorem tI (h:H p=some (.dK (mL pm ps pt pf fE pb))):gF H p (.str "scale") (some (.ref fE)):=gF.k (k:=.inr "scale") h
theorem lB (h:H p=some (.dK (mL pm ps pt pf fE pb))):gF H p (.str "bounds") (some (.ref pb)):=gF.k (k:=.inr "bounds") h
end
theorem HY {l:List Int} {j:Nat} (h:j<l.length):tN (l.map V.int) ((0:Int)+(j:Int))=some (.int l[j]):=by
 rw [ad8]
 exact bA (by rw [T1,afY h];rfl)
theorem KN {n:Nat} (h1:1<=n) (h4:n<=4) {x:Int} (e:x=(n:Int) - 1):tN [V.int 6,.int 6,.int 4,.int 4] x=some (.int (if n<=2 then 6 else 4)):=by
 subst e
 match n,h1,h4 with
 | 1,_,_=>rfl
 | 2,_,_=>rfl
 | 3,_,_=>rfl
 | 4,_,_=>rfl
theorem xA {l:List Int} {j:Nat} {z:Int} (h:oi l) (hl:l.length=j+1) (hz:l[j]'(by lia)<z):oi (l++[z]):=by
 intro i x y hx hy
 by_cases hi:i+1<l.length
 . rw [aft (by lia)] at hx
   rw [aft hi] at hy
   exact h i x y hx hy
 .
  have HK:i+1<(l++[z]).length:=(List.getElem?_eq_some_iff.mp hy).1
  rw [abi,ajo] at HK
  have e:i=j:=by lia
  subst e
  rw [aft (by lia),afY (by lia)] at hx
  rw [agM (by lia),hl,Nat.sub_self] at hy
  have hx:=ac2 hx
  have hy:z=y:=ac2 hy
  rw [← hx,← hy]
  exact hz
theorem ar.Ok.marks {n i:Nat} {m:ar} {l:List Int} {z:Int×Int×Int} {t:Option (Int×Int×Int×Int)} {fl:Nat->Nat->Option Int} (h:m.Ok n i) (hl:uu n l) (hz:(0<=z.1/\z.1<=3)/\(-30<=z.2.1/\z.2.2<=60)/\z.2.1<=z.2.2/\z.2.2<=z.2.1+30) (ht:∀ y,t=some y->QW y) (hf:∀ a b,a<i+1->b<n->a≠b->∃ k,fl a b=some k/\0<=k/\k<=3) :
   ar.Ok n (i+1) { m with marks:=m.marks++[l],dA:=m.dA++[z],aD:=m.aD++[t],bi:=fl }:=by
 refine ⟨?_,?_,?_,λ x hx=>?_,λ x hx=>?_,λ x hx=>?_,hf,h.scale,h.bounds⟩
 . show (m.marks++[l]).length=_
   rw [abi,h.lm];rfl
 . show (m.dA++[z]).length=_
   rw [abi,h.ls];rfl
 . show (m.aD++[t]).length=_
   rw [abi,h.lt];rfl
 . rcases List.mem_append.mp hx with q|q
   . exact h.rows x q
   . rw [List.mem_singleton.mp q];exact hl
 . rcases List.mem_append.mp hx with q|q
   . exact h.dA x q
   . rw [List.mem_singleton.mp q];exact hz
 . rcases List.mem_append.mp hx with q|q
   . exact h.aD x q
   . exact ht x (List.mem_singleton.mp q).symm
theorem w9 {K:W.Frag}:∀ l:List Int,bT K H (l.map PyData.int) (l.map V.int)
 | []=>rfl
 | x::l=>⟨.int x,l.map V.int,rfl,rfl,w9 l⟩
theorem TC.Lx {K:W.Frag} {p pt fE pb b:Addr} {vs:List V} {az:List (List Key×V)} {m:ar} (c:TC K H p pm ps pt pf fE pb vm vs vt az m) (h:H b=none):b∉[p,pm,ps,pt,pf]:=by
 simp only [acs,aaI,agT,an3]
 exact ⟨(av c.hp h).symm,(av c.d5 h).symm,(av c.eR h).symm,(av c.eQ h).symm,(av c.hJ h).symm⟩
def M9 (H:Hp) (t:Option (Int×Int×Int×Int)) (x:V) (H':Hp):Prop:=(t=none/\x = .b9/\H'=H)∨∃ p z,t=some z/\x = .ref p/\H p=none/\QW z/\H'=upd H p (.tup (Ht z))
theorem xD {vs:List V} {E:XK} {a b c:Int} {i:Nat} (hv:vs=[.int a,.int b,.int c,ap i]) (hi:i<4) (h:∀ t x H',M9 H t x H'->Q x H'):pK vs H Q E :=
 ⟨a,b,c,i,hv,hi,h none _ _ (.inl ⟨rfl,rfl,rfl⟩),λ p z hz hp=>h (some z) _ _ (.inr ⟨p,z,rfl,rfl,hp,hz,rfl⟩)⟩
theorem M9.same {t:Option (Int×Int×Int×Int)} {x:V} (h:M9 H t x H'):aA H H':=by
 rcases h with ⟨_,_,rfl⟩|⟨p,z,_,_,hp,_,rfl⟩
 . exact aA.refl _
 . exact ak hp
theorem M9.ok {t:Option (Int×Int×Int×Int)} {x:V} (h:M9 H t x H'):∀ y,t=some y->QW y:=by
 rcases h with ⟨rfl,_,_⟩|⟨p,z,rfl,_,hp,hz,_⟩
 . exact nofun
 . intro y e;cases e;exact hz
theorem M9.dn {K:W.Frag} {t:Option (Int×Int×Int×Int)} {x:V} {L:List Addr} (h:M9 H t x H') (n:∀ b,H b=none->b∉L):Dn K (fJ H' L) (stI t) x:=by
 rcases h with ⟨rfl,rfl,_⟩|⟨p,z,rfl,rfl,hp,hz,rfl⟩
 . rfl
 . exact fW (bP.of (mv ag (n p hp))) (bC rfl (bC rfl (bC rfl (bC rfl fU))))
end L2
namespace Mth
def Ov (W k:Int) (f:Int×Int):Prop:=f.1 * W=k * f.2/\0<f.2
theorem Ov.nf {W k:Int} (h:0<W):Ov W k (nf k W):=by
 have F:=ie (t:=k) h
 exact ⟨F.jB,F.pos⟩
theorem GA {W:Int}:Ov W W (1,1):=⟨by show 1 * W=W * 1;lia,by decide⟩
theorem qF {W:Int}:Ov W 0 (0,1):=⟨by show 0 * W=0 * 1;lia,by decide⟩
theorem Ov.minus {W a b:Int} {x y:Int×Int} (h:Ov W a x) (k:Ov W b y):Ov W (a - b) (mG x y):=by
 have F:=ie (t:=x.1 * y.2 - y.1 * x.2) (b:=x.2 * y.2) (ag9 h.2 k.2)
 refine ⟨?_,F.pos⟩
 have c:=F.jB
 have hx:=h.1
 have hy:=k.1
 have pp:0<x.2 * y.2:=ag9 h.2 k.2
 show (Mth.nf (x.1 * y.2 - y.1 * x.2) (x.2 * y.2)).1 * W=(a - b) * (Mth.nf (x.1 * y.2 - y.1 * x.2) (x.2 * y.2)).2
 generalize (Mth.nf (x.1 * y.2 - y.1 * x.2) (x.2 * y.2)).1=q at c ⊢
 generalize (Mth.nf (x.1 * y.2 - y.1 * x.2) (x.2 * y.2)).2=r at c ⊢
 refine akW (anD pp) ?_
 have e1:x.1 * y.2 * W=a * (x.2 * y.2):=by rw [afW,hx,akl]
 have e2:y.1 * x.2 * W=b * (x.2 * y.2):=by rw [afW,hy,akl,anP y.2]
 calc q * W * (x.2 * y.2)=(q * (x.2 * y.2)) * W:=by rw [afW]
   _=(x.1 * y.2 - y.1 * x.2) * r * W:=by rw [c]
   _=((x.1 * y.2 - y.1 * x.2) * W) * r:=by rw [afW]
   _=(a * (x.2 * y.2) - b * (x.2 * y.2)) * r:=by rw [Int.sub_mul,e1,e2]
   _=(a - b) * r * (x.2 * y.2):=by rw [← Int.sub_mul,afW]
theorem Ov.plus {W a b:Int} {x y:Int×Int} (h:Ov W a x) (k:Ov W b y):Ov W (a+b) (li x y):=by
 have F:=ie (t:=x.1 * y.2+y.1 * x.2) (b:=x.2 * y.2) (ag9 h.2 k.2)
 refine ⟨?_,F.pos⟩
 have c:=F.jB
 have hx:=h.1
 have hy:=k.1
 have pp:0<x.2 * y.2:=ag9 h.2 k.2
 show (Mth.nf (x.1 * y.2+y.1 * x.2) (x.2 * y.2)).1 * W=(a+b) * (Mth.nf (x.1 * y.2+y.1 * x.2) (x.2 * y.2)).2
 generalize (Mth.nf (x.1 * y.2+y.1 * x.2) (x.2 * y.2)).1=q at c ⊢
 generalize (Mth.nf (x.1 * y.2+y.1 * x.2) (x.2 * y.2)).2=r at c ⊢
 refine akW (anD pp) ?_
 have e1:x.1 * y.2 * W=a * (x.2 * y.2):=by rw [afW,hx,akl]
 have e2:y.1 * x.2 * W=b * (x.2 * y.2):=by rw [afW,hy,akl,anP y.2]
 calc q * W * (x.2 * y.2)=(q * (x.2 * y.2)) * W:=by rw [afW]
   _=(x.1 * y.2+y.1 * x.2) * r * W:=by rw [c]
   _=((x.1 * y.2+y.1 * x.2) * W) * r:=by rw [afW]
   _=(a * (x.2 * y.2)+b * (x.2 * y.2)) * r:=by rw [Int.add_mul,e1,e2]
   _=(a+b) * r * (x.2 * y.2):=by rw [← Int.add_mul,afW]
theorem Ov.under {W a b:Int} {x y:Int×Int} (hW:0<W) (h:Ov W a x) (k:Ov W b y):aW x y=decide (a<b):=by
 unfold aW
 refine decide_eq_decide.mpr ?_
 have pp:0<x.2 * y.2:=ag9 h.2 k.2
 have e1:x.1 * y.2 * W=a * (x.2 * y.2):=by rw [afW,h.1,akl]
 have e2:y.1 * x.2 * W=b * (x.2 * y.2):=by rw [afW,k.1,akl,anP y.2]
 constructor
 .
  intro l
  have:=ano l hW
  rw [e1,e2] at this
  exact anr this (alO pp)
 .
  intro l
  have:=ano l pp
  rw [← e1,← e2] at this
  exact anr this (alO hW)
end Mth
namespace L2
open PySem PySem.Spec PyProof.Rows Mth
variable {H:Hp} {elts:List Expr} {l:List Nat} {ta:TA} {tm:ar} {pF:Pos} {x1:Nat}
def sumF (fl:Nat->Nat->Int) (i:Nat):Nat->Int
 | 0=>0
 | t+1=>sumF fl i t+fl i t
structure gI (W:Int) (sk:Nat->Int) (fl:Nat->Nat->Int) (m:ao):Prop where
 dA:∀ i,Ov W (sk i) (m.eT i)
 fD:∀ i j,Ov W (fl i j) (m.fD i j)
theorem gI.gi {W:Int} {sk:Nat->Int} {fl:Nat->Nat->Int} {m:ao} (h:gI W sk fl m) (i:Nat):∀ t,Ov W (W - sk i - sumF fl i t) (m.gi i t)
 | 0=>by
   have:=(GA (W:=W)).minus (h.dA i)
   have e:W - sk i - sumF fl i 0=W - sk i:=by show W - sk i - 0=_;lia
   rw [e]
   exact this
 | t+1=>by
   rw [ao.kC]
   have:=(h.gi i t).minus (h.fD i t)
   have e:W - sk i - sumF fl i (t+1)=W - sk i - sumF fl i t - fl i t:=by show W - sk i - (sumF fl i t+fl i t)=_;lia
   rw [e]
   exact this
theorem gI.own {W:Int} {sk:Nat->Int} {fl:Nat->Nat->Int} {m:ao} (h:gI W sk fl m) (i:Nat):Ov W (W - sk i - sumF fl i m.rows.length) (m.own i):=h.gi i _
theorem gI.vH {W k:Int} {sk:Nat->Int} {fl:Nat->Nat->Int} {m:ao} {f:bW} {i:Nat} (hW:0<W) (h:gI W sk fl m) (hf:Ov W k f) (le:k<=W - sumF fl i m.rows.length):aW (li (m.own i) (m.eT i)) f=false:=by
 rw [((h.own i).plus (h.dA i)).under hW hf]
 exact ad7 (by lia)
theorem gI.rY {W k:Int} {sk:Nat->Int} {fl:Nat->Nat->Int} {m:ao} {f:bW} {i j:Nat} (hW:0<W) (h:gI W sk fl m) (hf:Ov W k f) (le:k<=W - sk i - sumF fl i m.rows.length+fl i j):aW (li (m.own i) (m.fD i j)) f=false:=by
 rw [((h.own i).plus (h.fD i j)).under hW hf]
 exact ad7 (by lia)
theorem vA {m:ao} {i j a b:Nat} {f:bW}:(m.eL i j f).fD a b=if a=i/\b=j then f else m.fD a b:=by
 unfold ao.fD ao.eL
 by_cases e:a=i/\b=j
 . rw [acS e]
   show ((if (a:Int)=(i:Int)/\(b:Int)=(j:Int) then some f else m.bi a b)).getD (0,1)=f
   rw [acS (by lia)];rfl
 . rw [acO e]
   show ((if (a:Int)=(i:Int)/\(b:Int)=(j:Int) then some f else m.bi a b)).getD (0,1)=_
   rw [acO (by lia)]
theorem gI.eL {W k:Int} {sk:Nat->Int} {fl:Nat->Nat->Int} {m:ao} {f:bW} {i j:Nat} (h:gI W sk fl m) (hf:Ov W k f):gI W sk (λ a b=>if a=i/\b=j then k else fl a b) (m.eL i j f):=by
 refine ⟨λ a=>h.dA a,λ a b=>?_⟩
 rw [vA]
 by_cases e:a=i/\b=j
 . simp only [acS e];exact hf
 . simp only [acO e];exact h.fD a b
theorem yt {m:ao} {i a:Nat} {z:bW×bW×bW} (hi:i<m.bf.length):(m.fV i z).eT a=if a=i then z.1 else m.eT a:=by
 unfold ao.eT ao.fV
 by_cases e:a=i
 .
  subst e
  rw [acS rfl]
  show (((m.bf.set a z)[a]?).map (·.1)).getD (0,1)=_
  rw [ak5 hi];rfl
 . rw [acO e]
   show (((m.bf.set i z)[a]?).map (·.1)).getD (0,1)=_
   rw [akV (λ x=>e x.symm)]
theorem gI.fV {W k:Int} {sk:Nat->Int} {fl:Nat->Nat->Int} {m:ao} {z:bW×bW×bW} {i:Nat} (h:gI W sk fl m) (hi:i<m.bf.length) (hf:Ov W k z.1):gI W (λ a=>if a=i then k else sk a) fl (m.fV i z):=by
 refine ⟨λ a=>?_,λ a b=>h.fD a b⟩
 rw [yt hi]
 by_cases e:a=i
 . simp only [acS e];exact hf
 . simp only [acO e];exact h.dA a
theorem gI.new {W:Int} {most ir load:Int}:gI W (λ _=>0) (λ _ _=>0) (ao.new most ir load):=⟨λ _=>qF,λ _ _=>qF⟩
theorem gI.bS {W:Int} {sk:Nat->Int} {fl:Nat->Nat->Int} {m:ao} {r:List bW} (h:gI W sk fl m) (hs:∀ i,m.bf.length<=i->sk i=0):gI W sk fl (m.bS r):=by
 refine ⟨λ a=>?_,λ a b=>h.fD a b⟩
 by_cases e:a<m.bf.length
 .
  have:(m.bS r).eT a=m.eT a:=by
    show (((m.bf++[((0,1),(0,1),(0,1))])[a]?).map (·.1)).getD (0,1)=((m.bf[a]?).map (·.1)).getD (0,1)
    rw [aft e]
  rw [this]
  exact h.dA a
 .
  have:(m.bS r).eT a=(0,1):=by
    show (((m.bf++[((0,1),(0,1),(0,1))])[a]?).map (·.1)).getD (0,1)=(0,1)
    rw [agM (by lia)]
    cases q:a - m.bf.length with
    | zero=>rfl
    | succ n=>rfl
  rw [this,hs a (by lia)]
  exact qF
theorem gI.hG {W:Int} {sk:Nat->Int} {fl:Nat->Nat->Int} {m:ao} {i:Nat} {z:bW×Int×Int×Int} (h:gI W sk fl m):gI W sk fl (m.hG i z):=⟨λ a=>h.dA a,λ a b=>h.fD a b⟩
theorem JE {fl:Nat->Nat->Int} {t:Int} {i n:Nat} (hn:n<=4) (ht:0<=t) (h:∀ j,0<=fl i j/\fl i j<=t) (h0:fl i i=0) (hi:i<n):0<=sumF fl i n/\sumF fl i n<=3 * t:=by
 have a0:=h 0
 have a1:=h 1
 have a2:=h 2
 have a3:=h 3
 match n,hn with
 | 0,_=>lia
 | 1,_=>simp only [sumF];lia
 | 2,_=>simp only [sumF];lia
 | 3,_=>simp only [sumF];lia
 | 4,_ =>
   have:i=0∨i=1∨i=2∨i=3:=by lia
   rcases this with rfl|rfl|rfl|rfl<;>simp only [sumF]<;>lia
def ar.row (tm:ar) (l:List Int):List bW:=l.map λ x=>aQ x 1 tm.scale
def ar.m1 (tm:ar) (k:Nat):ao:=((tm.marks.take k).map tm.row).foldl ao.bS (ao.new tm.bounds.1 tm.bounds.2.1 tm.bounds.2.2)
def ar.nY (tm:ar) (z:Int×Int×Int):bW×bW×bW:=(nf z.1 12,aQ z.2.1 1 tm.scale,aQ z.2.2 1 tm.scale)
def ar.iz (tm:ar) (z:Int×Int×Int×Int):bW×Int×Int×Int:=(nf (z.1 * tm.scale.a) tm.scale.b,z.2.1,z.2.2.1,z.2.2.2)
def ar.gw (tm:ar) (m:ao) (i:Nat):ao:=match tm.dA[i]? with|some z=>m.fV i (tm.nY z)|none=>m
def ar.bO (tm:ar) (m:ao) (i:Nat):ao:=match tm.aD[i]? with|some (some z)=>m.hG i (tm.iz z)|_=>m
def ar.gk (tm:ar) (i:Nat) (m:ao) (j:Nat):ao:=if j=i then m else match tm.bi i j with|some k=>m.eL i j (nf k 12)|none=>m
def ar.eJ (tm:ar) (i:Nat) (m:ao) (j:Nat):ao:=(List.range j).foldl (tm.gk i) m
def ar.nu (tm:ar) (n:Nat) (m:ao) (i:Nat):ao:=tm.eJ i (tm.bO (tm.gw m i) i) n
def ar.m2 (tm:ar) (n k:Nat):ao:=(List.range k).foldl (tm.nu n) (tm.m1 n)
theorem ar.Ii {k:Nat} {l:List Int} (h:tm.marks[k]?=some l):tm.m1 (k+1)=(tm.m1 k).bS (tm.row l):=by
 unfold ar.m1
 rw [anA,h,YT,akL];rfl
theorem ar.Cc (tm:ar) (n k:Nat):tm.m2 n (k+1)=tm.nu n (tm.m2 n k) k:=by
 unfold ar.m2
 rw [agN,akL];rfl
theorem ar.nU (tm:ar) (i:Nat) (m:ao) (j:Nat):tm.eJ i m (j+1)=tm.gk i (tm.eJ i m j) j:=by
 unfold ar.eJ
 rw [agN,akL];rfl
theorem Fb {n:Nat} {b:Nat} (hb:b=if n<=2 then 6 else 4) (hn:n<=4):∀ {rs:List (List bW)},(∀ r∈rs,1<=r.length/\r.length<=b+1)->rs.length<=n->0<=j5 rs/\j5 rs<=400:=by
 intro rs h hl
 have key:∀ (rs:List (List bW)) (p:Int),(∀ r∈rs,1<=r.length/\r.length<=b+1)->0<=p->0<=rs.foldl (λ p r=>p * ((r.length:Int) - 1)) p/\rs.foldl (λ p r=>p * ((r.length:Int) - 1)) p<=p * (b:Int) ^ rs.length:=by
   intro rs
   induction rs with
   | nil=>intro p _ hp;exact ⟨hp,by simp⟩
   | cons r rs ih =>
     intro p h hp
     have hr:=h r afg
     have p0:0<=p * ((r.length:Int) - 1):=aoc hp (by lia)
     obtain ⟨a,c⟩:=ih (p * ((r.length:Int) - 1)) (λ x hx=>h x (aeC _ hx)) p0
     refine ⟨a,apA c ?_⟩
     have bp:0<=(b:Int) ^ rs.length:=Int.pow_nonneg (by lia)
     have e:p * ((r.length:Int) - 1)<=p * (b:Int):=anz (by lia) hp
     have:=Int.mul_le_mul_of_nonneg_right e bp
     have e3:p * (b:Int) ^ (r::rs).length=p * (b:Int) * (b:Int) ^ rs.length:=by rw [afc,Int.pow_succ,← akl,afW]
     rw [e3]
     exact this
 obtain ⟨a,c⟩:=key rs 1 h (by decide)
 refine ⟨a,apA c ?_⟩
 rw [Int.one_mul]
 have hbn:(b:Int) ^ n<=400:=by
   subst hb
   match n,hn with
   | 0,_=>decide
   | 1,_=>decide
   | 2,_=>decide
   | 3,_=>decide
   | 4,_=>decide
 have HJ:(1:Int)<=(b:Int):=by subst hb;split<;>lia
 have mono:∀ d k:Nat,(b:Int) ^ k<=(b:Int) ^ (k+d):=by
   intro d k
   induction d with
   | zero=>exact anp _
   | succ d ih =>
     refine apA ih ?_
     rw [← Nat.add_assoc,Int.pow_succ]
     have bp:0<=(b:Int) ^ (k+d):=Int.pow_nonneg (by lia)
     have:=anz HJ bp
     lia
 have:=mono (n - rs.length) rs.length
 rw [show rs.length+(n - rs.length)=n by lia] at this
 lia
theorem Bz {l:List Int} (ok:tm.scale.Ok) (h:oi l):qT (tm.row l)=true:=by
 unfold qT
 rw [anK]
 intro b hb
 obtain ⟨i,hi⟩:=List.mem_iff_getElem?.mp hb
 rw [apy] at hi
 unfold ar.row at hi
 rw [aoI,T1,T1] at hi
 cases e1:l[i]? with
 | none=>rw [e1] at hi;simp at hi
 | some x =>
   cases e2:l[i+1]? with
   | none=>rw [e1,e2] at hi;simp at hi
   | some y =>
     rw [e1,e2] at hi
     have hi:aW (aQ x 1 tm.scale) (aQ y 1 tm.scale)=b:=by simpa using hi
     rw [← hi,ku ok (by decide)]
     exact aga (h i x y e1 e2)
theorem Nt {n:Nat} {l:List Int} (ok:tm.scale.Ok) (h:uu n l):∀ f∈tm.row l,dU 100 f:=by
 intro f hf
 obtain ⟨x,hx,rfl⟩:=List.mem_map.mp hf
 have:=h.bd x hx
 exact (qW (n:=8) ok (by decide) (show x.natAbs<2 ^ 8 by lia) oR).mono (by decide)
theorem qB.keep {K:W.Frag} {C:Addr} {H0 H':Hp} {a:Addr} {fp pN:List Addr} {m':ao} (S:aA H0 H) (n:∀ b∈fp,H0 b=none) (D:qB K C H a fp m' H' pN):aA H0 H'/\∀ b∈pN,H0 b=none:=by
 refine ⟨λ b o h=>D.but b o (S b o h) λ q=>?_,λ b hb=>?_⟩
 . rw [n b q] at h;cases h
 . rcases D.own b hb with q|q
   . exact n b q
   . exact S.free q
structure Kp (m m':ao):Prop where
 rows:m'.rows=m.rows
 most:m'.most=m.most
 ir:m'.ir=m.ir
 load:m'.load=m.load
theorem Kp.refl (m:ao):Kp m m:=⟨rfl,rfl,rfl,rfl⟩
theorem Kp.trans {m m1 m2:ao} (a:Kp m m1) (b:Kp m1 m2):Kp m m2:=⟨b.rows.trans a.rows,b.most.trans a.most,b.ir.trans a.ir,b.load.trans a.load⟩
theorem xo {α:Type} {f:ao->α->ao} (h:∀ m x,Kp m (f m x)):∀ (l:List α) (m:ao),Kp m (l.foldl f m)
 | [],m => .refl m
 | x::l,m=>(h m x).trans (xo h l (f m x))
theorem Og (tm:ar) (m:ao) (i:Nat):Kp m (tm.gw m i):=by
 unfold ar.gw
 split
 . exact ⟨rfl,rfl,rfl,rfl⟩
 . exact .refl m
theorem Hk (tm:ar) (m:ao) (i:Nat):Kp m (tm.bO m i):=by
 unfold ar.bO
 split
 . exact ⟨rfl,rfl,rfl,rfl⟩
 . exact .refl m
theorem Kg (tm:ar) (i:Nat) (m:ao) (j:Nat):Kp m (tm.gk i m j):=by
 unfold ar.gk
 split
 . exact .refl m
 . split
   . exact ⟨rfl,rfl,rfl,rfl⟩
   . exact .refl m
theorem KI (tm:ar) (n:Nat) (m:ao) (i:Nat):Kp m (tm.nu n m i) :=
 ((Og tm m i).trans (Hk tm _ i)).trans (xo (Kg tm i) _ _)
theorem R5 (tm:ar) (n k:Nat):Kp (tm.m1 n) (tm.m2 n k):=xo (KI tm n) _ _
theorem yH:∀ (rs:List (List bW)) (m:ao),(rs.foldl ao.bS m).rows=m.rows++rs/\(rs.foldl ao.bS m).most=m.most/\(rs.foldl ao.bS m).ir=m.ir/\(rs.foldl ao.bS m).load=m.load
 | [],m=>⟨by simp,rfl,rfl,rfl⟩
 | r::rs,m=>by
   obtain ⟨a,b,c,d⟩:=yH rs (m.bS r)
   refine ⟨?_,b,c,d⟩
   show (rs.foldl ao.bS (m.bS r)).rows=_
   rw [a]
   show (m.rows++[r])++rs=_
   simp
theorem cH (tm:ar) (n k:Nat):(tm.m2 n k).rows=(tm.marks.take n).map tm.row/\(tm.m2 n k).most=tm.bounds.1/\(tm.m2 n k).ir=tm.bounds.2.1/\(tm.m2 n k).load=tm.bounds.2.2:=by
 have q:=R5 tm n k
 obtain ⟨a,b,c,d⟩:=yH ((tm.marks.take n).map tm.row) (ao.new tm.bounds.1 tm.bounds.2.1 tm.bounds.2.2)
 exact ⟨q.rows.trans a,q.most.trans b,q.ir.trans c,q.load.trans d⟩
theorem f7 {K:W.Frag}:∀ {l:List Int} {ws:List V},bT K H (l.map PyData.int) ws->ws=l.map V.int
 | [],_,h=>h
 | x::l,_,h=>by
   obtain ⟨y,r,rfl,e,t⟩:=h
   have e:y = .int x:=e
   rw [e,f7 t];rfl
theorem nR {α:Type} (l:List α) (g:α->bW):∀ d∈l.map (λ x=>dR (g x)),dS d=true:=λ d hd=>by
 obtain ⟨x,_,rfl⟩:=List.mem_map.mp hd
 exact gq _
theorem KZ {n:Nat} (ok:tm.Ok n n):∀ r∈tm.marks.map tm.row,1<=r.length/\r.length<=(if n<=2 then 6 else 4)+1:=by
 intro r hr
 obtain ⟨l,hl,rfl⟩:=List.mem_map.mp hr
 have:=ok.rows l hl
 have h1:=this.two
 have h2:=this.most
 unfold ar.row
 rw [AM]
 split at h2<;>rename_i hc<;>simp only [hc,anS,an2]<;>lia
theorem Ov.nonneg {W k:Int} {f:bW} (hW:0<W) (h:Ov W k f) (hk:0<=k):0<=f.1:=by
 have e:=h.1
 have:0<=f.1 * W:=by rw [e];exact aoc hk (alO h.2)
 exact Int.nonneg_of_mul_nonneg_left this hW
theorem GH {t b:Int} (hb:0<b) (h1:Bd 100 t) (h2:Bd 100 b):dU 100 (nf t b):=by
 have F:=ie (t:=t) hb
 exact ⟨F.Ym h1,F.Yk h2,F.pos⟩
theorem Fk {u:Addr} {t b q r:Int} {K:W.Frag} (hb:0<b) (F:Fr t b q r) (hu:H u=some (.tup [.int q,.int r])):Dn K H (dR (nf t b)) (.ref u):=by
 have e:=F.nf hb
 have e1:q=(nf t b).1:=anv Prod.fst e
 have e2:r=(nf t b).2:=anv Prod.snd e
 rw [e1,e2] at hu
 exact iQ (bP.of hu)
theorem Lo {W:Int} {tm:ar}:∀ (ls:List (List bW)) (m:ao),gI W (λ _=>0) (λ _ _=>0) m->gI W (λ _=>0) (λ _ _=>0) (ls.foldl ao.bS m)
 | [],_,h=>h
 | _::ls,_,h=>Lo (tm:=tm) ls _ (h.bS λ _ _=>rfl)
theorem ar.Uk {W:Int} (tm:ar) (k:Nat):gI W (λ _=>0) (λ _ _=>0) (tm.m1 k):=Lo (tm:=tm) _ _ gI.new
structure SF (sk:Nat->Int) (fl:Nat->Nat->Int):Prop where
 HP:∀ a,0<=sk a/\sk a<=3
 EB:∀ a b,0<=fl a b/\fl a b<=3
 Kv:∀ a,fl a a=0
def Tw (m:ao):Prop:=∃ sk fl,gI 12 sk fl m/\SF sk fl
theorem Tw.dA {m:ao} {i:Nat} {z:bW×bW×bW} {k:Int} (h:Tw m) (hi:i<m.bf.length) (hf:Ov 12 k z.1) (k0:0<=k) (k3:k<=3):Tw (m.fV i z):=by
 obtain ⟨sk,fl,S,F⟩:=h
 refine ⟨_,_,S.fV hi hf,⟨λ a=>?_,F.EB,F.Kv⟩⟩
 show 0<=(if a=i then k else sk a)/\(if a=i then k else sk a)<=3
 split
 . exact ⟨k0,k3⟩
 . exact F.HP a
theorem Tw.fD {m:ao} {i j:Nat} {f:bW} {k:Int} (h:Tw m) (uQ:i≠j) (hf:Ov 12 k f) (k0:0<=k) (k3:k<=3):Tw (m.eL i j f):=by
 obtain ⟨sk,fl,S,F⟩:=h
 refine ⟨_,_,S.eL hf,⟨F.HP,λ a b=>?_,λ a=>?_⟩⟩
 .
  show 0<=(if a=i/\b=j then k else fl a b)/\(if a=i/\b=j then k else fl a b)<=3
  split
  . exact ⟨k0,k3⟩
  . exact F.EB a b
 . show (if a=i/\a=j then k else fl a a)=0
   rw [acO (by lia)]
   exact F.Kv a
theorem Tw.jM {m:ao} {i:Nat} {z:bW×Int×Int×Int} (h:Tw m):Tw (m.hG i z):=by
 obtain ⟨sk,fl,S,F⟩:=h
 exact ⟨sk,fl,S.hG,F⟩
theorem Tw.vH {m:ao} {i:Nat} {f:bW} {k:Int} (h:Tw m) (hi:i<m.rows.length) (h4:m.rows.length<=4) (hf:Ov 12 k f) (k3:k<=3):aW (li (m.own i) (m.eT i)) f=false:=by
 obtain ⟨sk,fl,S,F⟩:=h
 have:=JE h4 (t:=3) (by decide) (F.EB i) (F.Kv i) hi
 exact S.vH (by decide) hf (by lia)
theorem FU {fl:Nat->Nat->Int} {i j n:Nat} (hn:n<=4) (h:∀ b,0<=fl i b/\fl i b<=3) (h0:fl i i=0) (hi:i<n) (hj:j<n) (uQ:i≠j):sumF fl i n - fl i j<=6:=by
 have a0:=h 0
 have a1:=h 1
 have a2:=h 2
 have a3:=h 3
 have ci:i=0∨i=1∨i=2∨i=3:=by lia
 have cj:j=0∨j=1∨j=2∨j=3:=by lia
 match n,hn with
 | 0,_=>lia
 | 1,_=>lia
 | 2,_=>rcases ci with rfl|rfl|rfl|rfl<;>rcases cj with rfl|rfl|rfl|rfl<;>simp only [sumF]<;>lia
 | 3,_=>rcases ci with rfl|rfl|rfl|rfl<;>rcases cj with rfl|rfl|rfl|rfl<;>simp only [sumF]<;>lia
 | 4,_=>rcases ci with rfl|rfl|rfl|rfl<;>rcases cj with rfl|rfl|rfl|rfl<;>simp only [sumF]<;>lia
theorem Tw.rY {m:ao} {i j:Nat} {f:bW} {k:Int} (h:Tw m) (hi:i<m.rows.length) (hj:j<m.rows.length) (uQ:i≠j) (h4:m.rows.length<=4) (hf:Ov 12 k f) (k3:k<=3):aW (li (m.own i) (m.fD i j)) f=false:=by
 obtain ⟨sk,fl,S,F⟩:=h
 have:=FU h4 (F.EB i) (F.Kv i) hi hj uQ
 have:=F.HP i
 exact S.rY (by decide) hf (by lia)
inductive FC (K:W.Frag) (C:Addr) (vs:List V) (H:Hp) (Q:VK) (_E:XK):Prop
 | mk (p:_) (tm:ar) (n:Nat) (_:vs=[.ref p]) (_:iK K H p tm) (_:tm.Ok n n) (_:1<=n) (_:n<=4) (_:∀ a H' fp,aA H H'->aL K C H' a fp (tm.m2 n n)->(∀ b∈fp,H b=none)->(tm.m2 n n).rows.length=n->Tw (tm.m2 n n)->Q (.ref a) H')
def CP:Nat->PyData->Prop
 | _,.none=>True
 | _,.bool _=>True
 | _,.int _=>True
 | n+1,.list ds=>∀ d∈ds,CP n d
 | n+1,.tuple ds=>∀ d∈ds,CP n d
 | _,_=>False
theorem wI {n:Nat} (h:∀ d,CP n d->PyData.eqv d d=true/\d.canLay0=true/\d.depth<=n):∀ ds:List PyData,(∀ d∈ds,CP n d)->PyData.eqvAll ds ds=true/\PyData.canLayAll0 ds=true/\PyData.depthAll ds<=n
 | [],_=>by simp [PyData.eqvAll,PyData.canLayAll0,PyData.depthAll]
 | d::ds,k=>by
   obtain ⟨a,b,c⟩:=h d (k d afg)
   obtain ⟨a',b',c'⟩:=wI h ds (λ e he=>k e (aeC _ he))
   simp only [PyData.eqvAll,PyData.canLayAll0,PyData.depthAll,a,b,a',b',Bool.and_self,apP]
   lia
theorem m9:∀ (n:Nat) (d:PyData),CP n d->PyData.eqv d d=true/\d.canLay0=true/\d.depth<=n
 | n,.none,_=>by simp [PyData.eqv,PyData.canLay0,PyData.depth]
 | n,.bool b,_=>by simp [PyData.eqv,PyData.canLay0,PyData.depth]
 | n,.int i,_=>by simp [PyData.eqv,PyData.canLay0,PyData.depth]
 | n+1,.list ds,h=>by
   obtain ⟨a,b,c⟩:=wI (m9 n) ds h
   simp only [PyData.eqv,PyData.canLay0,PyData.depth,a,b,apP]
   lia
 | n+1,.tuple ds,h=>by
   obtain ⟨a,b,c⟩:=wI (m9 n) ds h
   simp only [PyData.eqv,PyData.canLay0,PyData.depth,a,b,apP]
   lia
 | 0,.list _,h=>h.elim
 | 0,.tuple _,h=>h.elim
 | 0,.str _,h=>h.elim
 | _+1,.str _,h=>h.elim
 | 0,.dict _,h=>h.elim
 | _+1,.dict _,h=>h.elim
theorem fX {n:Nat} {d:PyData} (h:CP n d) (hn:n<=64):SeqAt.shaped d=true:=by
 obtain ⟨_,b,c⟩:=m9 n d h
 unfold SeqAt.shaped
 rw [b,aga (agB c hn)];rfl
theorem EO {n:Nat} {d:PyData} (h:CP n d):PyData.eqv d d=true:=(m9 n d h).1
theorem Fe {K:W.Frag} {x y:V} {d:PyData} {n:Nat} {Q:VK} (hx:Dn K H d x) (hy:Dn K H d y) (p:CP n d) (hn:n<=64) (q:Q (.bl true) H):Jj K x y H Q :=
 ⟨d,d,hx,hy,fX p hn,fX p hn,by rw [EO p];exact q⟩
theorem gO {X:Cx} {K:W.Frag} (h:X.K=K):R3 X (PZ K):=by
 subst h
 exact au
theorem sR:∀ {ns:List Int} {br:List Value},Vals (ns.map V.int) br->∃ ys:List (Int×Tok),br=ys.map (λ p=>Value.int p.1 p.2)/\ys.map (·.1)=ns
 | [],br,r=>by cases r;exact ⟨[],rfl,rfl⟩
 | n::ns,br,r=>by
   cases r with
   | cons a b =>
     obtain ⟨t,rfl⟩:=a
     obtain ⟨ys,rfl,e⟩:=sR b
     exact ⟨(n,t)::ys,rfl,by rw [agt,e]⟩
section
variable {X:Cx}
theorem Dg (hc:X.calm=true):iN X (.builtin "sum") (λ xs H Q=>∃ (p:Addr) (ns:List Int),xs=[.ref p]/\aT X.K H p (ns.map V.int)/\∀ r:Int,r=ns.sum->Q (.int r) H):=by
 intro pins s U H xs us Q I r h
 obtain ⟨p,ns,rfl,hq,q⟩:=h
 obtain ⟨u,rfl,r1⟩:=vals1 r
 obtain rfl:u=Value.ref p:=r1
 obtain ⟨br,rv,pl,_⟩:=I.list hq
 obtain ⟨ys,rfl,e⟩:=sR rv
 have hl:s.heap.IsList p (intItems ys.toArray):=by have:=pl.isList;simpa [intItems] using this
 refine sum_intListG (I.ok.hd hc) hl λ h' tk t' hk=>?_
 refine ⟨.int _,H,I.kept hk,⟨t',rfl⟩,q _ ?_⟩
 rw [preSum_eq,anB (by simp),← e]
end
theorem Hq:bootBuiltins "min" = some (.builtin "min"):=by decide +kernel
theorem Hb:bootBuiltins "max" = some (.builtin "max"):=by decide +kernel
theorem MT:bootBuiltins "sum" = some (.builtin "sum"):=by decide +kernel
theorem j9:bootBuiltins "enumerate" = some (.type "enumerate"):=by decide +kernel
def lJ (r:List bW) (f g:bW) (b:Nat):Bool:=(!aW g (r.getD b (0,1))) && !aW (r.getD (b+1) (0,1)) f
def j1 (r:List bW) (f g:bW) (n:Nat):List Nat:=(List.range n).filter (lJ r f g)
def dW (r:List bW) (f g:bW):List Nat:=j1 r f g (r.length - 1)
def jp (r:List bW) (f g:bW):Bool:=(!aW f (r.getD 0 (0,1))) && !aW (r.getD (r.length - 1) (0,1)) g
theorem kE (r:List bW) (f g:bW) (n:Nat):j1 r f g (n+1)=j1 r f g n++if lJ r f g n then [n] else []:=by
 unfold j1
 rw [agN,amL]
 cases h:lJ r f g n<;>simp [List.filter,h]
theorem pS (r:List bW) (f g:bW) (n:Nat):(j1 r f g n).length<=n:=by
 have:=ajp (lJ r f g) (List.range n)
 rw [adw] at this
 exact this
inductive Ei (K:W.Frag) (C:Addr) (vs:List V) (H:Hp) (Q:VK) (_E:XK):Prop
 | mk (a fp m:_) (i:Nat) (r v1 v2 f g:_) (_:vs=[.ref a,ap i,v1,v2]) (_:aL K C H a fp m) (_:m.rows[i]?=some r) (_:Dn K H (dR f) v1) (_:Dn K H (dR g) v2) (_:dU 1000 f) (_:dU 1000 g) (_:∀ H',aA H H'->Q (.bl (jp r f g)) H')
theorem Kf {α:Type} {xs:List α} {x:α} (h0:0<xs.length) (h:xs[xs.length - 1]?=some x):tN xs (-1)=some x:=by
 unfold tN Ck
 rw [acO (by lia),acS (by lia)]
 have e:((-1:Int)+(xs.length:Int)).toNat=xs.length - 1:=by lia
 simp only [Option.bind_some]
 first
   | (rw [e];exact h)
   | (have e2:((xs.length:Int) + -1).toNat=xs.length - 1:=by lia
      rw [e2];exact h)
theorem jm {x y p q:Int} {s:vU} (h:s.Ok) (hp:0<p) (hq:0<q):aW (aQ x p s) (aQ y q s)=decide (x * q<y * p):=by
 have F:=ie (t:=cp x p s) (eB h hp)
 have G:=ie (t:=cp y q s) (eB h hq)
 have hB:=eB h hp
 have hC:=eB h hq
 have c1:(aQ x p s).1 * bU p s=cp x p s * (aQ x p s).2:=F.jB
 have c2:(aQ y q s).1 * bU q s=cp y q s * (aQ y q s).2:=G.jB
 have p1:0<(aQ x p s).2:=F.pos
 have p2:0<(aQ y q s).2:=G.pos
 unfold aW
 rw [decide_eq_decide]
 generalize (aQ x p s).1=q1 at c1 ⊢
 generalize (aQ x p s).2=r1 at c1 p1 ⊢
 generalize (aQ y q s).1=q2 at c2 ⊢
 generalize (aQ y q s).2=r2 at c2 p2 ⊢
 have hu:0<bU p s * bU q s:=ag9 hB hC
 have hv:0<r1 * r2:=ag9 p1 p2
 have e1:(q1 * r2) * (bU p s * bU q s)=(cp x p s * bU q s) * (r1 * r2):=by
   have:(q1 * r2) * (bU p s * bU q s)=(q1 * bU p s) * (r2 * bU q s):=by grind
   rw [this,c1];grind
 have e2:(q2 * r1) * (bU p s * bU q s)=(cp y q s * bU p s) * (r1 * r2):=by
   have:(q2 * r1) * (bU p s * bU q s)=(q2 * bU q s) * (r1 * bU p s):=by grind
   rw [this,c2];grind
 have s1:q1 * r2<q2 * r1↔cp x p s * bU q s<cp y q s * bU p s:=by
   rw [← aoy hu,e1,e2,aoy hv]
 rw [s1]
 have a0:=h.a0
 have b0:=h.b0
 have d0:=h.d0
 have hw:0<s.a * s.d * s.b * s.d:=ag9 (ag9 (ag9 (by lia) (by lia)) (by lia)) (by lia)
 have e3:cp x p s * bU q s=(x * q) * (s.a * s.d * s.b * s.d)+p * q * s.t * s.b * s.b * s.d:=by unfold cp bU;grind
 have e4:cp y q s * bU p s=(y * p) * (s.a * s.d * s.b * s.d)+p * q * s.t * s.b * s.b * s.d:=by unfold cp bU;grind
 rw [e3,e4,Int.add_lt_add_iff_right,aoy hw]
def jw (n:Nat):PyData:=.int (n:Int)
theorem jC {K:W.Frag}:∀ l:List Nat,bT K H (l.map jw) (l.map ap)
 | []=>fU
 | n::l=>bC rfl (jC l)
theorem J9 {K:W.Frag} {p:Addr} (h:aT K H p (l.map ap)):Dn K H (.list (l.map jw)) (.ref p):=vN h (jC l)
theorem JG {n:Nat}:CP (n+1) (.list (l.map jw)):=by
 intro d hd
 obtain ⟨i,_,rfl⟩:=List.mem_map.mp hd
 cases n<;>exact trivial
theorem JZ:([]:List V).length<=sizeLine:=aiv _
def Io (ns:List Int) (lo hi:Option Int):List Int:=(ns.drop (HT.tW ns.length 0 lo)).take (HT.tW ns.length ns.length hi - HT.tW ns.length 0 lo)
theorem Ej (ns:List Int) (lo hi:Option Int):oH (ns.map V.int) lo hi=(Io ns lo hi).map V.int:=by
 unfold oH Io
 rw [AM,← List.map_drop,← List.map_take]
theorem vp:∀ (rs:List (List bW)) (m:ao),(rs.foldl ao.bS m).bf=m.bf++List.replicate rs.length ((0,1),(0,1),(0,1))/\(rs.foldl ao.bS m).aD=m.aD++List.replicate rs.length none/\(rs.foldl ao.bS m).bi=m.bi
 | [],m=>⟨by simp,by simp,rfl⟩
 | r::rs,m=>by
   obtain ⟨a,b,c⟩:=vp rs (m.bS r)
   refine ⟨?_,?_,c⟩
   . show (rs.foldl ao.bS (m.bS r)).bf=_
     rw [a]
     show (m.bf++[((0,1),(0,1),(0,1))])++_=_
     rw [aoN,afc,apL];rfl
   . show (rs.foldl ao.bS (m.bS r)).aD=_
     rw [b]
     show (m.aD++[none])++_=_
     rw [aoN,afc,apL];rfl
theorem nS (tm:ar) (i:Nat) (m:ao):∀ j,(tm.eJ i m j).bf=m.bf/\(tm.eJ i m j).aD=m.aD/\∀ a b:Int,(tm.eJ i m j).bi a b=if a=(i:Int)/\0<=b/\b<j/\b≠i then (match tm.bi i b.toNat with|some k=>some (nf k 12)|none=>m.bi a b) else m.bi a b
 | 0=>by
   refine ⟨rfl,rfl,λ a b=>?_⟩
   rw [acO (by lia)];rfl
 | j+1=>by
   obtain ⟨h1,h2,h3⟩:=nS tm i m j
   rw [ar.nU]
   unfold ar.gk
   by_cases e:j=i
   .
    rw [acS e]
    refine ⟨h1,h2,λ a b=>?_⟩
    rw [h3]
    by_cases c:a=(i:Int)/\0<=b/\b<(j:Int)/\b≠i
    . rw [acS c,acS (by lia)]
    . rw [acO c,acO (by lia)]
   .
    rw [acO e]
    cases hf:tm.bi i j with
    | none =>
      refine ⟨h1,h2,λ a b=>?_⟩
      show (tm.eJ i m j).bi a b=_
      rw [h3]
      by_cases c:a=(i:Int)/\0<=b/\b<(j:Int)/\b≠i
      . rw [acS c,acS (by lia)]
      . rw [acO c]
        by_cases d:a=(i:Int)/\0<=b/\b<((j+1:Nat):Int)/\b≠i
        . rw [acS d]
          have:b.toNat=j:=by lia
          rw [this,hf]
        . rw [acO d]
    | some k =>
      refine ⟨h1,h2,λ a b=>?_⟩
      show (if a=(i:Int)/\b=(j:Int) then some (nf k 12) else (tm.eJ i m j).bi a b)=_
      by_cases c:a=(i:Int)/\b=(j:Int)
      . rw [acS c,acS (by lia)]
        have:b.toNat=j:=by lia
        rw [this,hf]
      . rw [acO c,h3]
        by_cases d:a=(i:Int)/\0<=b/\b<(j:Int)/\b≠i
        . rw [acS d,acS (by lia)]
        . rw [acO d,acO (by lia)]
theorem gG {n:Nat} (ok:tm.Ok n n):∀ k,k<=n ->
   (∀ i,i<k->(tm.m2 n k).bf[i]?=(tm.dA[i]?).map tm.nY)/\(tm.m2 n k).bf.length=n /\
   (∀ i,i<k->(tm.m2 n k).aD[i]?=(tm.aD[i]?).map λ z=>z.map tm.iz)/\(∀ i,k<=i->i<n->(tm.m2 n k).aD[i]?=some none)/\(tm.m2 n k).aD.length=n /\
   (∀ a b:Nat,a<k->b<n->a≠b->(tm.m2 n k).bi a b=(tm.bi a b).map λ x=>nf x 12) /\
   (∀ a:Nat,(tm.m2 n k).bi a a=none):=by
 intro k
 induction k with
 | zero =>
   intro _
   obtain ⟨a,b,c⟩:=vp ((tm.marks.take n).map tm.row) (ao.new tm.bounds.1 tm.bounds.2.1 tm.bounds.2.2)
   have hl:((tm.marks.take n).map tm.row).length=n:=by rw [AM,ad4,ok.lm];lia
   rw [hl] at a b
   have a':(tm.m2 n 0).bf=List.replicate n ((0,1),(0,1),(0,1)):=a
   have b':(tm.m2 n 0).aD=List.replicate n none:=b
   have c':(tm.m2 n 0).bi=λ _ _=>none:=c
   refine ⟨nofun,by rw [a',ans],nofun,λ i _ hi=>?_,by rw [b',ans],nofun,λ _=>by rw [c']⟩
   rw [b',aoi,acS hi]
 | succ k ih =>
   intro hk
   obtain ⟨s1,s2,t1,t2,t3,f1,f2⟩:=ih (by lia)
   have hks:k<tm.dA.length:=by rw [ok.ls];lia
   have Ya:k<tm.aD.length:=by rw [ok.lt];lia
   rw [ar.Cc]
   generalize tm.m2 n k=m at s1 s2 t1 t2 t3 f1 f2
   have e1:tm.gw m k=m.fV k (tm.nY tm.dA[k]):=by unfold ar.gw;rw [aq hks]
   unfold ar.nu
   rw [e1]
   obtain ⟨g1,g2,g3⟩:=nS tm k (tm.bO (m.fV k (tm.nY tm.dA[k])) k) n
   have HP:(tm.bO (m.fV k (tm.nY tm.dA[k])) k).bf=m.bf.set k (tm.nY tm.dA[k]):=by
     unfold ar.bO
     split<;>rfl
   have EB:(tm.bO (m.fV k (tm.nY tm.dA[k])) k).bi=m.bi:=by
     unfold ar.bO
     split<;>rfl
   have mO:(tm.bO (m.fV k (tm.nY tm.dA[k])) k).aD=m.aD.set k (tm.aD[k].map tm.iz):=by
     unfold ar.bO
     rw [aq Ya]
     cases tm.aD[k] with
     | some z=>rfl
     | none =>
       show m.aD=m.aD.set k none
       have h0:=t2 k (aat _) (by lia)
       obtain ⟨hl,he⟩:=List.getElem?_eq_some_iff.mp h0
       rw [← he,List.set_getElem_self]
   rw [g1,g2,HP,mO]
   refine ⟨λ i hi=>?_,by rw [aln];exact s2,λ i hi=>?_,λ i hi hn=>?_,by rw [aln];exact t3,λ a b ha hb Aa=>?_,λ a=>?_⟩
   . by_cases e:i=k
     . subst e
       rw [ak5 (by lia),aq hks];rfl
     . rw [akV (by lia)];exact s1 i (by lia)
   . by_cases e:i=k
     . subst e
       rw [ak5 (by lia),aq Ya];rfl
     . rw [akV (by lia)];exact t1 i (by lia)
   . rw [akV (by lia)];exact t2 i (by lia) hn
   .
    rw [g3,EB]
    by_cases e:a=k
    . subst e
      rw [acS (by lia)]
      obtain ⟨x,hx,_⟩:=ok.bi a b (by lia) hb Aa
      have:((b:Int)).toNat=b:=by lia
      rw [this,hx];rfl
    . rw [acO (by lia)]
      exact f1 a b (by lia) hb Aa
   . rw [g3,EB]
     rw [acO (by lia)]
     exact f2 a
section
variable {P:Program} {w:World} {A:Around} {E:Value->Shared->Prop} {s:Shared}
theorem Af {j a:Addr} {i:Nat} {br:Array Value} {x:Value} {Q:Value->Shared->Prop} (hj:s.heap.IsTupleIter j a i) (ha:s.heap.IsTuple a br) (hx:br[i]?=some x) (k:∀ h',h'.IsTupleIter j a (i+1)->Heap.SameBut j s.heap h'->Q x { s with heap:=h' }):wpAny (model P w) A (Builtin.SmallTypes.nextOf (.ref j)) Q E s:=by
 obtain ⟨oj,ej,cj,dj⟩:=id hj
 obtain ⟨oa,ea,_,na,da⟩:=ha
 unfold Builtin.SmallTypes.nextOf
 refine Wi (wpAny_callSpecial?_slot (name:=Str.ofString "__next__") hj.typeIs anR (wpAny_call_entry anR hj.typeIs apB ?_ (apv _)))
 refine Wi (m:=field (.ref j) 0) (apw ej dj (x:=.ref a) rfl ?_)
 have nn:¬ ((Value.ref a == Value.none)=true):=abZ
 show wpAny _ _ (if (Value.ref a == Value.none)=true then _ else _) _ _ s
 rw [acO nn]
 refine Wi (m:=field (.ref j) 1) (apw ej dj (x:=.int i 0) rfl ?_)
 refine Wi (m:=seqItems? (.ref a)) (apF ea da ?_)
 simp only [akM,hx]
 refine Wi (wpAny_setField ej dj (by simp) (adt ⟨x,rfl,adt (k _ ⟨_,anI _ ej (Obj.isFreed_of_fields (Obj.data_mapFields dj _)),(Obj.cls_mapFields ..).trans cj,?_⟩ (aoV ..))⟩))
 rw [Obj.data_mapFields dj]
 simp [rawInt]
theorem DR {j a:Addr} {i:Nat} {br:Array Value} {Q:Value->Shared->Prop} (hh:A.handled=none) (hj:s.heap.IsTupleIter j a i) (ha:s.heap.IsTuple a br) (hx:br[i]?=none) (k:∀ h' e,Heap.ExtBut j s.heap h'->(∃ o,h'.get? e=some o/\o.cls = .type "StopIteration")->E (.ref e) { s with heap:=h' }):wpAny (model P w) A (Builtin.SmallTypes.nextOf (.ref j)) Q E s:=by
 obtain ⟨oj,ej,cj,dj⟩:=id hj
 obtain ⟨oa,ea,_,na,da⟩:=ha
 unfold Builtin.SmallTypes.nextOf
 refine Wi (wpAny_callSpecial?_slot (name:=Str.ofString "__next__") hj.typeIs anR (wpAny_call_entry anR hj.typeIs apB ?_ (apv _)))
 refine Wi (m:=field (.ref j) 0) (apw ej dj (x:=.ref a) rfl ?_)
 have nn:¬ ((Value.ref a == Value.none)=true):=abZ
 show wpAny _ _ (if (Value.ref a == Value.none)=true then _ else _) _ _ s
 rw [acO nn]
 refine Wi (m:=field (.ref j) 1) (apw ej dj (x:=.int i 0) rfl ?_)
 refine Wi (m:=seqItems? (.ref a)) (apF ea da ?_)
 simp only [akM,hx]
 refine Wi (wpAny_rule (Wi (wpAny_setField ej dj (by simp) (Wi (m:=newExc (.type "StopIteration") []) ?_))))
 simp only [newExc,newTuple]
 refine Wi (ao7 (Wi (m:=firstArgMember _ _) (wpAny_of_eq (a:=Value.none) (by first|rfl|(simp only [firstArgMember];rfl)) (ao7 ?_ (by size_fits)))) (by size_fits))
 simp only [raiseNew]
 refine Wi (wpAny_handled ?_)
 have h1:A.in1.handled=none:=hh
 first|rw [h1]|rw [hh]
 exact Wi (adt (wpAny_throw (k _ _ (((aoV ..).extBut.push _).push _) ⟨_,afq _ rfl,rfl⟩)))
end
theorem Hv {P:Program} {w:World} {A:Around} (hh:A.handled=none) (j a:Addr) (ne:a≠j) (br:Array Value):Draws P w A j [j,a] br.size (λ i v=>br[i]?=some v) (λ i h=>h.IsTupleIter j a i/\h.IsTuple a br) where
 live:=λ _ _ st=>by
   obtain ⟨⟨o,e,_⟩,_⟩:=st
   exact ⟨o,e⟩
 frame:=λ _ _ _ st k=>by
   obtain ⟨h1,oa,ea,r⟩:=st
   exact ⟨h1.at λ o e=>k j (by simp) o e,oa,k a (by simp) oa ea,r⟩
 item:=λ i s Q E hi st q=>Af st.1 st.2 (x:=br[i]) (by simp [hi]) λ h' h1 sb=>q _ h' s.toks (by simp [hi]) ⟨h1,st.2.extBut sb.extBut ne⟩ sb
 done:=λ s Q E st q=>DR hh st.1 st.2 (by simp) q
set_option maxHeartbeats 1000000 in
theorem De (a:Addr) (ob:Obj) (br:Array Value) (n:Nat) (hc:ob.cls = .type "tuple") (hd:ob.data = .seq br n) :
   Meets (Builtin.«enumerate.__new__» ⟨[.type "enumerate",.ref a],[]⟩) (λ _ R s=>s.heap.get? a=some ob/\R (.ok (.ret (.ref (s.heap.push { cls:=.type "tuple_iterator",data:=.fields #[.ref a,.int 0 0]}).objs.size)))
     { s with heap:=(s.heap.push { cls:=.type "tuple_iterator",data:=.fields #[.ref a,.int 0 0]}).push { cls:=.type "enumerate",data:=.fields #[.none,.bool false,.ref s.heap.objs.size,rawInt 0,.none,.none]}}):=by
 obtain ⟨cl,dc,dt,sl⟩:=ob
 obtain rfl:cl = .type "tuple":=hc
 obtain rfl:dt = .seq br n:=hd
 refine .of_wp λ P w A R s q=>?_
 obtain ⟨hh,gg,dd,tt,oo⟩:=s
 obtain ⟨hl,q⟩:=q
 have DH:=sub_enumerate
 have hT:Heap.IsTuple (Shared.heap ⟨hh,gg,dd,tt,oo⟩) a br:=⟨_,hl,rfl,n,rfl⟩
 wp_walk using aox hl
 refine wpAny_stack_any λ st=>adt ?_
 split
 . rename_i c _ _ _ _ _
   cases (c == Value.type "enumerate")<;>(wp_walk using aox hl,wpAny_pyIter_tuple hT;exact ⟨_,rfl,q⟩)
 . wp_walk using aox hl,wpAny_pyIter_tuple hT
   exact ⟨_,rfl,q⟩
section
variable {P:Program} {w:World} {A:Around} {E:Value->Shared->Prop} {s:Shared}
theorem sD {a:Addr} {br:Array Value} {Q:Value->Shared->Prop} (hT:s.heap.IsTuple a br) (k:∀ h',IsEnum h' (s.heap.objs.size+1) s.heap.objs.size 0 .none->h'.IsTupleIter s.heap.objs.size a 0->(∀ b o,s.heap.get? b=some o->h'.get? b=some o)->Q (.ref (s.heap.objs.size+1)) { s with heap:=h' }) :
   wpAny (model P w) A (call (.type "enumerate") [.ref a]) Q E s:=by
 obtain ⟨ob,e,hc,n,hd⟩:=hT
 refine callType_new F.called_enumerate (by decide) (F.typeCall_enumerate_1 _) (F.newCall_enumerate_1 _) (λ obj=>F.args_object_init_2 obj _) F.entry_enumerate_new (De a ob br n hc hd) ⟨e,?_⟩
 have hz:(s.heap.push { cls:=.type "tuple_iterator",data:=.fields #[.ref a,.int 0 0]}).objs.size=s.heap.objs.size+1:=aoP ..
 have hn:=afq (s.heap.push { cls:=.type "tuple_iterator",data:=.fields #[.ref a,.int 0 0]}) (o:={ cls:=.type "enumerate",data:=.fields #[.none,.bool false,.ref s.heap.objs.size,rawInt 0,.none,.none]}) rfl
 rw [hz] at hn
 show _/\_
 rw [hz]
 exact ⟨⟨_,hn,rfl⟩,k _ hn ⟨_,aas _ (afq _ rfl),rfl,rfl⟩ λ b o x=>aas _ (aas _ x)⟩
end
def Jp (sq:Hp->Addr->List V->Prop) (a:Addr):It :=
 ⟨λ i H=>∃ xs x,sq H a xs/\xs[i]?=some x,
  λ i H v H'=>∃ p x,H p=none/\v = .ref p/\H'=upd H p (.tup [ap i,x])/\∀ xs,sq H a xs->xs[i]?=some x,
  λ i H=>∃ xs,sq H a xs/\xs.length=i⟩
def EnL (e j a:Addr) (i:Nat) (h:Heap):Prop:=(∃ old,IsEnum h e j i old)/\h.IsListIter j a i
def EnT (e j a:Addr) (i:Nat) (h:Heap):Prop:=(∃ old,IsEnum h e j i old)/\h.IsTupleIter j a i
theorem xQ {P:Program} {w:World} {K:W.Frag} {e j a:Addr} (ej:e≠j) (ae:a≠e) (aj:a≠j):Turn P w K (.Tuple elts x1 pF) (Jp (aT K) a) [e,j] e (EnL e j a) where
 mem:=by simp
 obj:=λ i h st c hc=>by
   obtain ⟨⟨old,h1⟩,oj,e2,_,d2⟩:=st
   simp only [acs,aaI,agT] at hc
   rcases hc with rfl|rfl
   . exact ⟨_,h1,λ v q=>by cases q⟩
   . exact ⟨oj,e2,λ v q=>by rw [d2] at q;cases q⟩
 keep:=λ i h h' st k=>by
   obtain ⟨⟨old,h1⟩,h2⟩:=st
   exact ⟨⟨old,k e (by simp) _ h1⟩,h2.at λ o q=>k j (by simp) o q⟩
 item:=by
   intro X hP hw hK hc i pins s U H E I hf st hg
   subst hP hw hK
   obtain ⟨xs,x,hq,hx⟩:=hg
   obtain ⟨br,rv,p,hz⟩:=I.list hq
   obtain ⟨u,hu,ru⟩:=rv.get hx
   obtain ⟨⟨old,h1⟩,h2⟩:=st
   have le:e<s.heap.objs.size:=ado h1
   have lj:j<s.heap.objs.size:=by obtain ⟨o,q,_⟩:=h2;exact ado q
   have hi:i<br.toArray.size:=by
     have:=(List.getElem?_eq_some_iff.mp hu).1
     simpa using this
   refine wpAny_pyNext_enum_itemD (Draws.list (A:=X.A.in1) (I.ok.hd hc) j a aj br.toArray) h1 ⟨h2,p.isList⟩ hi ej (by simp [ej,ae.symm]) λ v h' tk hv eo K3 ht Jh kk=>?_
   obtain rfl:v=u:=by
     have hv:br.toArray[i]?=some v:=hv
     rw [apz,hu] at hv
     exact (ac2 hv).symm
   refine ⟨.ref s.heap.objs.size,rfl,apD (s:={ s with heap:=h',toks:=tk+1 }) eo λ g he sb=>?_⟩
   have EG:∀ c o,c∉[e,j]->s.heap.get? c=some o->g.get? c=some o:=λ c o hn q=>by
     simp only [acs,aaI,agT,an3] at hn
     exact sb.extBut _ _ hn.1 (kk c o hn.1 hn.2 q)
   have n5:=sb.extBut _ _ (aot le) ht
   refine ⟨.ref s.heap.objs.size,upd H s.heap.objs.size (.tup [ap i,x]),I.wT (t':=tk+1) EG hf (aat _) ⟨by show 2<=sizeLine;decide,[.int i tk,v],.cons ⟨tk,rfl⟩ (.cons ru .nil),⟨_,n5,rfl,_,rfl⟩⟩,rfl,
     ⟨_,x,I.cg.fresh (aat _),rfl,rfl,λ xs' h=>by rw [I.oy h hq];exact hx⟩,⟨⟨_,by simpa using he⟩,K3.1.extBut sb.extBut ej.symm⟩,λ c xJ=>?_⟩
   have lc:c<s.heap.objs.size:=by
     simp only [acs,aaI,agT] at xJ
     rcases xJ with rfl|rfl
     . exact le
     . exact lj
   rw [ax (ae6 lc)]
   exact (hf c xJ).1
 done:=by
   intro X hP hw hK hc i pins s U H E I hf st hg
   subst hP hw hK
   obtain ⟨xs,hq,hl⟩:=hg
   obtain ⟨br,rv,p,hz⟩:=I.list hq
   obtain ⟨⟨old,h1⟩,h2⟩:=st
   have hn:i=br.toArray.size:=by rw [adJ,← rv.length];exact hl.symm
   subst hn
   refine wpAny_pyNext_enum_endD (Draws.list (A:=X.A.in1) (I.ok.hd hc) j a aj br.toArray) h1 ⟨h2,p.isList⟩ λ h' eb=>⟨rfl,I.we (ch:=[e,j]) (t':=s.toks) (λ c o hn q=>?_) hf⟩
   simp only [acs,aaI,agT,an3] at hn
   exact eb c o hn.2 q
 self:=λ _ _ _ _ _ st h=>by
   obtain ⟨⟨old,h1⟩,_⟩:=st
   exact anL h1 h
theorem zI {P:Program} {w:World} {K:W.Frag} {e j a:Addr} (ej:e≠j) (ae:a≠e) (aj:a≠j):Turn P w K (.Tuple elts x1 pF) (Jp (bP K) a) [e,j] e (EnT e j a) where
 mem:=by simp
 obj:=λ i h st c hc=>by
   obtain ⟨⟨old,h1⟩,oj,e2,_,d2⟩:=st
   simp only [acs,aaI,agT] at hc
   rcases hc with rfl|rfl
   . exact ⟨_,h1,λ v q=>by cases q⟩
   . exact ⟨oj,e2,λ v q=>by rw [d2] at q;cases q⟩
 keep:=λ i h h' st k=>by
   obtain ⟨⟨old,h1⟩,h2⟩:=st
   exact ⟨⟨old,k e (by simp) _ h1⟩,h2.at λ o q=>k j (by simp) o q⟩
 item:=by
   intro X hP hw hK hc i pins s U H E I hf st hg
   subst hP hw hK
   obtain ⟨xs,x,hq,hx⟩:=hg
   obtain ⟨br,rv,p,hz⟩:=I.tuple hq
   obtain ⟨u,hu,ru⟩:=rv.get hx
   obtain ⟨⟨old,h1⟩,h2⟩:=st
   have le:e<s.heap.objs.size:=ado h1
   have lj:j<s.heap.objs.size:=by obtain ⟨o,q,_⟩:=h2;exact ado q
   have hi:i<br.toArray.size:=by
     have:=(List.getElem?_eq_some_iff.mp hu).1
     simpa using this
   refine wpAny_pyNext_enum_itemD (Hv (A:=X.A.in1) (I.ok.hd hc) j a aj br.toArray) h1 ⟨h2,p⟩ hi ej (by simp [ej,ae.symm]) λ v h' tk hv eo K3 ht Jh kk=>?_
   obtain rfl:v=u:=by
     have hv:br.toArray[i]?=some v:=hv
     rw [apz,hu] at hv
     exact (ac2 hv).symm
   refine ⟨.ref s.heap.objs.size,rfl,apD (s:={ s with heap:=h',toks:=tk+1 }) eo λ g he sb=>?_⟩
   have EG:∀ c o,c∉[e,j]->s.heap.get? c=some o->g.get? c=some o:=λ c o hn q=>by
     simp only [acs,aaI,agT,an3] at hn
     exact sb.extBut _ _ hn.1 (kk c o hn.1 hn.2 q)
   have n5:=sb.extBut _ _ (aot le) ht
   refine ⟨.ref s.heap.objs.size,upd H s.heap.objs.size (.tup [ap i,x]),I.wT (t':=tk+1) EG hf (aat _) ⟨by show 2<=sizeLine;decide,[.int i tk,v],.cons ⟨tk,rfl⟩ (.cons ru .nil),⟨_,n5,rfl,_,rfl⟩⟩,rfl,
     ⟨_,x,I.cg.fresh (aat _),rfl,rfl,λ xs' h=>by rw [I.Ea h hq];exact hx⟩,⟨⟨_,by simpa using he⟩,K3.1.extBut sb.extBut ej.symm⟩,λ c xJ=>?_⟩
   have lc:c<s.heap.objs.size:=by
     simp only [acs,aaI,agT] at xJ
     rcases xJ with rfl|rfl
     . exact le
     . exact lj
   rw [ax (ae6 lc)]
   exact (hf c xJ).1
 done:=by
   intro X hP hw hK hc i pins s U H E I hf st hg
   subst hP hw hK
   obtain ⟨xs,hq,hl⟩:=hg
   obtain ⟨br,rv,p,hz⟩:=I.tuple hq
   obtain ⟨⟨old,h1⟩,h2⟩:=st
   have hn:i=br.toArray.size:=by rw [adJ,← rv.length];exact hl.symm
   subst hn
   refine wpAny_pyNext_enum_endD (Hv (A:=X.A.in1) (I.ok.hd hc) j a aj br.toArray) h1 ⟨h2,p⟩ λ h' eb=>⟨rfl,I.we (ch:=[e,j]) (t':=s.toks) (λ c o hn q=>?_) hf⟩
   simp only [acs,aaI,agT,an3] at hn
   exact eb c o hn.2 q
 self:=λ _ _ _ _ _ st h=>by
   obtain ⟨⟨old,h1⟩,_⟩:=st
   exact anL h1 h
section
variable {X:Cx}
def ahT (K:W.Frag) (ta:TA):TI:=λ U H R=>ta U H λ vs H1=>∃ a,vs=[.ref a]/\(∃ xs,aT K H1 a xs)/\R (Jp (aT K) a) H1
def ama (K:W.Frag) (ta:TA):TI:=λ U H R=>ta U H λ vs H1=>∃ a,vs=[.ref a]/\(∃ xs,bP K H1 a xs)/\R (Jp (bP K) a) H1
theorem MZ:("enumerate" : Str) ≠ "__name__":=by decide +kernel
theorem Nv:(("enumerate" : Str) == ("__debug__" : Str))=false:=by decide +kernel
theorem M8 {a:Expr} {p pos:Pos} (hg:Gl X "enumerate") (hm:X.mg "enumerate" = none) (ha:PA X [a] ta) (hs:starEach [a] X.env=[(false,eval a X.env)]:=by rfl) :
   PI X (.Tuple elts x1 pF) (.Call (.Name "enumerate" p) [a] [] pos) (ahT X.K ta):=by
 intro pins s U H R I h
 refine Call_ ?_
 refine lK I hg hm j9 ?_ MZ Nv
 refine akT ?_ hs rfl
 refine cG (ha pos pins s U H _ I h) λ us s1 ⟨vs,H1,I1,r1,q1⟩=>?_
 obtain ⟨a,e,⟨xs,hq⟩,q⟩:=q1
 subst e
 cases r1 with
 | cons r rr =>
   cases rr
   obtain rfl:_=Value.ref a:=r
   obtain ⟨br,rv,p1,Md⟩:=I1.list hq
   have la:a<s1.heap.objs.size:=by obtain ⟨_,e,_⟩:=p1.isList;exact ado e
   refine call_enumerate_list p1.isList λ h' z1 z2 z3 kk=>anL z1 ?_
   refine ⟨s1.heap.objs.size+1,[s1.heap.objs.size+1,s1.heap.objs.size],_,_,H1,rfl,I1.kept (t':=s1.toks) kk,xQ (aon _) (ae6 (aog la)) (ae6 la),⟨⟨_,z1⟩,z2⟩,λ c hc=>?_,q⟩
   have hle:s1.heap.objs.size<=c:=by
     simp only [acs,aaI,agT] at hc
     rcases hc with rfl|rfl
     . exact anC _
     . exact aat _
   exact I1.yo hle (I1.cg.fresh hle)
theorem Of {a:Expr} {p pos:Pos} (hg:Gl X "enumerate") (hm:X.mg "enumerate" = none) (ha:PA X [a] ta) (hs:starEach [a] X.env=[(false,eval a X.env)]:=by rfl) :
   PI X (.Tuple elts x1 pF) (.Call (.Name "enumerate" p) [a] [] pos) (ama X.K ta):=by
 intro pins s U H R I h
 refine Call_ ?_
 refine lK I hg hm j9 ?_ MZ Nv
 refine akT ?_ hs rfl
 refine cG (ha pos pins s U H _ I h) λ us s1 ⟨vs,H1,I1,r1,q1⟩=>?_
 obtain ⟨a,e,⟨xs,hq⟩,q⟩:=q1
 subst e
 cases r1 with
 | cons r rr =>
   cases rr
   obtain rfl:_=Value.ref a:=r
   obtain ⟨br,rv,p1,Md⟩:=I1.tuple hq
   have la:a<s1.heap.objs.size:=p1.lt
   refine sD p1 λ h' z1 z2 kk=>anL z1 ?_
   refine ⟨s1.heap.objs.size+1,[s1.heap.objs.size+1,s1.heap.objs.size],_,_,H1,rfl,I1.kept (t':=s1.toks) kk,zI (aon _) (ae6 (aog la)) (ae6 la),⟨⟨_,z1⟩,z2⟩,λ c hc=>?_,q⟩
   have hle:s1.heap.objs.size<=c:=by
     simp only [acs,aaI,agT] at hc
     rcases hc with rfl|rfl
     . exact anC _
     . exact aat _
   exact I1.yo hle (I1.cg.fresh hle)
end
theorem lY {sq:Hp->Addr->List V->Prop} {a:Addr} {xs:List V} {g:TG} {tt:TT} {te:TE} {D:Addr} {Q:Hp->Prop} {U:St} (Pv:Nat->List V->St->Hp->Prop) (h0:Pv 0 [] U H) (hl:∀ i acc U H,i<=xs.length->Pv i acc U H->sq H a xs) (hs:∀ i x p acc U H,xs[i]?=some x->H p=none->Pv i acc U H->g (.ref p) U (upd H p (.tup [ap i,x])) λ σ2 H3=>tt σ2 H3 λ k H4 =>
     if k=true then te σ2 H4 λ v H5=>H5 D=some (.lst acc)/\acc.length<sizeLine/\Pv (i+1) (acc++[v]) σ2 (upd H5 D (.lst (acc++[v]))) else Pv (i+1) acc σ2 H4) (hd:∀ acc U H,Pv xs.length acc U H->Q H) :
   ∃ W:Nat->Nat->List V->St->Hp->Prop,(∃ m,W 0 m [] U H)/\∀ i m acc σ' H',W i m acc σ' H'->((Jp sq a).stop i H'/\Q H') ∨
     ((Jp sq a).go i H'/\∃ N:List V->St->Hp->Prop,(∀ iZ σ2 H4,N iZ σ2 H4->∃ m',m'<m/\W (i+1) m' iZ σ2 H4)/\∀ x H2,(Jp sq a).Gn i H' x H2->g x σ' H2 λ σ2 H3=>tt σ2 H3 λ k H4 =>
       if k=true then te σ2 H4 λ y H5=>H5 D=some (.lst acc)/\acc.length<sizeLine/\N (acc++[y]) σ2 (upd H5 D (.lst (acc++[y]))) else N acc σ2 H4):=by
 refine ⟨λ i m acc U H=>m=xs.length - i/\i<=xs.length/\Pv i acc U H,⟨_,rfl,aiv _,h0⟩,?_⟩
 rintro i m acc U H ⟨rfl,hi,p⟩
 have q:=hl i acc U H hi p
 by_cases mH:i<xs.length
 . refine .inr ⟨⟨xs,xs[i],q,by simp [mH]⟩,Pv (i+1),λ iZ σ' H' p'=>⟨xs.length - (i+1),by lia,rfl,mH,p'⟩,λ v H' y=>?_⟩
   obtain ⟨pp,x,hn,rfl,rfl,e1⟩:=y
   exact hs i x pp acc U H (e1 xs q) hn p
 . have e:i=xs.length:=by lia
   subst e
   exact .inl ⟨⟨xs,q,rfl⟩,hd acc U H p⟩
end L2
namespace Tx
open PySem PySem.Builtin PySem.Builtin.Str
theorem len (a:Str):a.cps.toList.length=a.length:=aoD
def sl:Str:=⟨#[47]⟩
theorem cases (x:Str):47∉x.cps.toList∨∃ a b:Str,47∉a.cps.toList/\x.cps.toList=a.cps.toList++47::b.cps.toList:=by
 by_cases h:47∈x.cps.toList
 . obtain ⟨as,bs,e,n⟩:=List.eq_append_cons_of_mem h
   exact .inr ⟨⟨as.toArray⟩,⟨bs.toArray⟩,by simpa using n,by simpa using e⟩
 . exact .inl h
def strN (n:Nat):Str:=Str.ofString (toString ((n:Nat):Int))
def Good (z:Str):Prop:=1<=z.length/\z.length<=30/\NumText.AllDigits z.cps.toList/\¬ (z.cps.toList.head?=some 48/\1<z.length)
def valOf (z:Str):Int:=((NumText.digitsVal z.cps.toList:Nat):Int)
def mi:Str:=⟨#[45]⟩
def Fu (z:Str):Bool:=decide (z.cps.toList.head?=some 45)
def bodyOf (z:Str):Str:=if Fu z=true then Txt.slice z (some 1) none else z
def ah7 (z:Str):Int:=if Fu z=true then -1 else 1
def Rd (z:Str) (f:Int×Int):Prop :=
 Good (Txt.partition (bodyOf z) sl).1/\(Fu z=true->valOf (Txt.partition (bodyOf z) sl).1≠0)/\f.1=ah7 z * valOf (Txt.partition (bodyOf z) sl).1 /\
 (((Txt.partition (bodyOf z) sl).2.1=sl/\Good (Txt.partition (bodyOf z) sl).2.2/\2<=valOf (Txt.partition (bodyOf z) sl).2.2 /\
     Int.gcd (valOf (Txt.partition (bodyOf z) sl).1) (valOf (Txt.partition (bodyOf z) sl).2.2)=1/\f.2=valOf (Txt.partition (bodyOf z) sl).2.2) ∨
   ((Txt.partition (bodyOf z) sl).2.1≠sl/\f.2=1))
def XU (t:Int):Str:=if t<0 then mi++strN t.natAbs else strN t.natAbs
def aqv (t b:Int):Str:=if b=1 then XU t else XU t++sl++strN b.natAbs
end Tx
namespace L2
open PySem PySem.Spec PyProof.Rows Mth
variable {C:Addr} {E:XK} {H H1:Hp} {pos':Pos} {tv:TE} {u:Value} {value:Expr}
section
variable {X:Cx}
def isStr (k:Str):Value->Bool
 | .str x _=>x == k
 | _=>false
end
section
variable {P:Program} {w:World} {K:W.Frag} {mg:Str->Option Value} {base:Heap} {x qual m:Str} {st:Stmt} {dV:Value} {f C:Addr} {fd:FuncData} {N ps:List Str} {k:Nat} {sp:Sp} {ds:List Value} {f9:List V}
theorem mP.okX (F:mP K x qual st dV f fd) (S:aw N ps (ai st)) (len:∀ vs H Q E,sp vs H Q E->vs.length=ps.length) (d9:∀ (bq:Value) (A:Around) (outer:List Env) (s:Shared) (H:Hp) (vs:List V) (Q:VK) (E:XK),cA k (A.deeper (envOfC qual (ai st) s.heap.objs.size f bq))->sp vs H Q E ->
     ∃ t,qg (eW (Bu P w) P w K mg base N qual (ai st) f bq A outer s H E) (bj st) t/\t { nx:=λ _ H'=>Q .b9 H',rt:=Q } (start N vs) H):hZ P w K mg base (Bu P w) (k+1) f fd ps sp:=by
 obtain ⟨oc,od,kV,doc,pm,an,bq,ct,xv,rfl,lk,qI⟩:=F.ex
 exact G6 lk qI S len λ A outer s H vs Q E hr HN=>d9 bq A outer s H vs Q E hr HN
def pV (P:Program) (w:World) (K:W.Frag) (mg:Str->Option Value) (base:Heap) (C:Addr) (m:Str) (k:Nat) (ps:List Str) (ds:List Value) (sp:Sp):Prop :=
 ∃ f fd,Meth K C m f/\Binds K fd ps ds/\hZ P w K mg base (Bu P w) k f fd ps sp
theorem fC.Ls (h:fC K C m qual st .none) (S:aw N ps (ai st)) (len:∀ vs H Q E,sp vs H Q E->vs.length=ps.length) (hb:∀ (kV doc pm:Value) (an:Option Addr) (bq ct:Value) (us:List Value),us.length=ps.length->bindArgs (W.fnOf m qual (bV st) (bj st) (ai st) .none kV doc pm an bq ct) ⟨us,[]⟩=pure (ps.zip us)) (d9:∀ (f:Addr) (bq:Value) (A:Around) (outer:List Env) (s:Shared) (H:Hp) (vs:List V) (Q:VK) (E:XK),cA k (A.deeper (envOfC qual (ai st) s.heap.objs.size f bq))->sp vs H Q E ->
     ∃ t,qg (eW (Bu P w) P w K mg base N qual (ai st) f bq A outer s H E) (bj st) t/\t { nx:=λ _ H'=>Q .b9 H',rt:=Q } (start N vs) H):pV P w K mg base C m (k+1) ps [] sp:=by
 obtain ⟨f,fd,M,F⟩:=h
 exact ⟨f,fd,M,F.Bc hb,F.okX S len λ bq A outer s H vs Q E hr hs=>d9 f bq A outer s H vs Q E hr hs⟩
end
section
variable {P:Program} {w:World} {K:W.Frag} {mg:Str->Option Value} {base:Heap} {x qual m:Str} {st:Stmt} {dV:Value} {f C:Addr} {fd:FuncData} {N ps:List Str} {k:Nat} {sp:Sp} {ds:List Value} {f9:List V}
def IQ (P:Program) (w:World) (K:W.Frag) (mg:Str->Option Value) (base:Heap) (C:Addr) (m qual:Str) (st:Stmt) (dV:Value) (k:Nat) (ps:List Str) (sp:Sp):Prop :=
 ∃ f fd,Meth K C m f/\mP K m qual st dV f fd/\hZ P w K mg base (Bu P w) k f fd ps sp
def uD (P:Program) (w:World) (K:W.Frag) (mg:Str->Option Value) (base:Heap) (C:Addr) (m:Str) (k:Nat) (ps:List Str) (f9:List V) (sp:Sp):Prop :=
 ∃ ds,Vals f9 ds/\pV P w K mg base C m k ps ds sp
theorem fC.afn (h:fC K C m qual st dV) (S:aw N ps (ai st)) (len:∀ vs H Q E,sp vs H Q E->vs.length=ps.length) (d9:∀ (f:Addr) (bq:Value) (A:Around) (outer:List Env) (s:Shared) (H:Hp) (vs:List V) (Q:VK) (E:XK),cA k (A.deeper (envOfC qual (ai st) s.heap.objs.size f bq))->sp vs H Q E ->
     ∃ t,qg (eW (Bu P w) P w K mg base N qual (ai st) f bq A outer s H E) (bj st) t/\t { nx:=λ _ H'=>Q .b9 H',rt:=Q } (start N vs) H):IQ P w K mg base C m qual st dV (k+1) ps sp:=by
 obtain ⟨f,fd,M,F⟩:=h
 exact ⟨f,fd,M,F,F.okX S len λ bq A outer s H vs Q E hr hs=>d9 f bq A outer s H vs Q E hr hs⟩
theorem IQ.PP {T:Addr} {AZ:List V} (h:IQ P w K mg base C m qual st (.ref T) k ps sp) (hT:AN K T AZ) (hb:∀ items:Array Value,Vals AZ items.toList->∃ ds,Vals f9 ds/\∀ (kV doc pm:Value) (an:Option Addr) (bq ct:Value) (us:List Value),(us++ds).length=ps.length->∃ k,bindArgs (W.fnOf m qual (bV st) (bj st) (ai st) (.ref T) kV doc pm an bq ct) ⟨us,[]⟩=seqItems? (.ref T) >>= k/\k (some items)=pure (ps.zip (us++ds))) :
   uD P w K mg base C m k ps f9 sp:=by
 obtain ⟨f,fd,M,F,O⟩:=h
 obtain ⟨o,n,items,hT,ho,hv⟩:=hT
 obtain ⟨ds,hd,hb⟩:=hb items hv
 exact ⟨ds,hd,f,fd,M,F.binds hT ho hb,O⟩
theorem pV.y (D:pV P w K mg base C m k ps [] sp):uD P w K mg base C m k ps [] sp:=⟨[],.nil,D⟩
abbrev Ir:List Value:=[.type "ValueError",.type "Exception",.type "BaseException",.type "object"]
def K8 (K:W.Frag) (C:Addr) (qual:Str) (st:Stmt):Prop:=∃ f fd,KS K C f Ir "ValueError.__new__"/\mP K "__init__" qual st .none f fd
def KO (P:Program) (w:World) (K:W.Frag) (mg:Str->Option Value) (base:Heap) (C:Addr) (k:Nat) (ps:List Str) (sp:Sp):Prop :=
 ∃ f fd,KS K C f Ir "ValueError.__new__"/\Binds K fd ps []/\hZ P w K mg base tO k f fd ps sp
theorem K8.Pu (h:K8 K C qual st) (S:aw N ps (ai st)) (len:∀ vs H Q E,sp vs H Q E->vs.length=ps.length) (hb:∀ (kV doc pm:Value) (an:Option Addr) (bq ct:Value) (us:List Value),us.length=ps.length->bindArgs (W.fnOf "__init__" qual (bV st) (bj st) (ai st) .none kV doc pm an bq ct) ⟨us,[]⟩=pure (ps.zip us)) (d9:∀ (f:Addr) (bq:Value) (A:Around) (outer:List Env) (s:Shared) (H:Hp) (vs:List V) (Q:VK) (E:XK),cA k (A.deeper (envOfC qual (ai st) s.heap.objs.size f bq))->sp vs H Q E ->
     ∃ t,qg (eW tO P w K mg base N qual (ai st) f bq A outer s H E).D8 (bj st) t/\t { nx:=λ _ H'=>Q .b9 H',rt:=Q } (start N vs) H):KO P w K mg base C (k+1) ps sp:=by
 obtain ⟨f,fd,M,F⟩:=h
 exact ⟨f,fd,M,F.Bc hb,F.ok S len λ bq A outer s H vs Q E hr hs=>d9 f bq A outer s H vs Q E hr hs⟩
end
section
variable {X:Cx} {C:Addr} {m x c:Str} {p pos apos np eC:Pos} {e o e₀:Expr} {es rest:List Expr} {ta:TE} {t:TA} {k:Nat} {ps:List Str} {sp:Sp} {ds:List Value} {f9:List V} {E:XK}
theorem vj (hc:X.calm=true) (hm:X.mg c=some (.ref C)) (D:KO X.prog X.w X.K X.mg X.base C k ps sp) (hr:cA (k+1) X.A) (th:Mq X E) (ha:PA X (e₀::rest) t) (hg:Gl X c:=by rfl) (hd:(c == ("__debug__" : Str))=false:=by decide) (he:starEach (e₀::rest) X.env=(false,eval e₀ X.env)::starEach rest X.env:=by rfl) (kD:(backTo eC (starEach rest X.env)).any (·.1)=false:=by rfl) :
   PS X (.Raise (some (.Call (.Name c np) (e₀::rest) [] eC)) none pos) (Cy C E sp t):=by
 obtain ⟨f,fd,q,hb,F⟩:=D
 exact C7 hc anG hm q F hr hb th ha hg hd he kD
theorem xB {pl:Sem Bool} (he:PE X o ta) (c:xu X.K C) (D:uD X.prog X.w X.K X.mg X.base C m k ps f9 sp) (hr:cA k X.A) (hx:Passes (Bu X.prog X.w) X E) (ha:PA X (e::es) t) (mO:starEach (e::es) X.env=(false,eval e X.env)::starEach es X.env:=by rfl) (jG:(backTo pos (starEach es X.env)).any (·.1)=false:=by rfl) (ht:eval (.Call (.Attribute o m apos) (e::es) [] pos) X.env=(do
     let ov ← eval o X.env
     standAt apos.atName
     let (f,first) ← holding [ov] (getMethod ov m pl)
     callWith pos f first (backTo pos (starEach (e::es) X.env)) (backToKw pos (keywordEach [] X.env))):=by rfl) :
   PE X (.Call (.Attribute o m apos) (e::es) [] pos) (u8 C m sp f9 E ta t):=by
 obtain ⟨ds,hd,f,fd,hm,hb,F⟩:=D
 exact Cb (pl:=pl) he c hm F hr hb hd hx ha mO jG ht
end
def pG (C:Addr) (r:Option V) (H:Hp) (E:XK):Prop:=match r with
 | none=>∀ H',aA H H'->E (.ref C) none H'
 | some v=>∀ d H',aA H H'->H' d=some (.xd [("room",v)])->E (.ref C) (some d) H'
theorem pG.plain (h:pG C none H E) (s:aA H H1):E (.ref C) none H1:=h H1 s
open PySem.Builtin PySem.Builtin.ObjectAttr
section
variable {K:W.Frag} {prog:Program} {w:World} {A:Around} {E:Value->Shared->Prop} {s:Shared} {x C dx:Addr} {name:Str} {v:Value} {mA:Str->Option Value}
theorem Hu {t:Addr} {ns:List Str} {Q:Unit->Shared->Prop} (X:K.In s.heap) (he:s.heap.get? x=some (ED C t (some dx))) (hN:s.heap.Ns1 dx mA) (nx:dx≠x) (hs:W.findIn K (.ref C) "__setattr__" = some (some (.builtin "object.__setattr__"))) (hp:jb K C=true) (ht:W.findIn K (.ref C) name=some none) (hh:W.hasDictIn K C=true) (hw:PySem.Within mA ns) (hsz:ns.length<=1000) (h:∀ h',h'.get? x=some (ED C t (some dx))->h'.Ns1 dx (λ y=>if y=name then some v else mA y)->(∀ b o,b≠dx->s.heap.get? b=some o->h'.get? b=some o)->Q () { s with heap:=h',toks:=s.toks+2 }) :
   wpAny (model prog w) A (setAttr (.ref x) name v) Q E s:=by
 obtain ⟨od,FL,hl⟩:=vb hN
 have J:W.InstAt s.heap x (ED C t (some dx)) C (some od):=⟨he,rfl,rfl,FL⟩
 refine W.set_plain X J hs (Cw (s:={ s with toks:=s.toks+1 }) X J hp ht ?_)
 obtain ⟨cd,hc,Ey⟩:=apS hh
 refine Wi (adt (Wi (Wi (apG he (Wi (W.Looks.here (s:={ s with toks:=s.toks+1 }) (aoY X hc) ?_))))))
 rw [Ey]
 refine adt (a:=some dx) (Wi (adt (Wi ?_)))
 refine wpAny_nsSet1 (s:={ s with toks:=s.toks+1 }) hN λ h' L8 DB=>?_
 obtain ⟨oD,esD,epD,W8,SG,WP⟩:=L8.count (aod name v hw)
 refine Wi (apf W8 (by rw [SG];exact apg (agB WP (by rw [afc,aoQ];lia))) ?_)
 exact adt (h h' ((DB.2 _ (anq nx)).trans he) L8 λ b o hb q=>(DB.2 b hb).trans q)
end
def DX (dx:Addr) (f:Str) (y:V):HO:=.ext λ h=>∃ u,RelV y u/\h.Ns1 dx (λ z=>if z=f then some u else none)
section
variable {X:Cx} {pins:List (Addr×Obj)} {U:St} {H:Hp} {s:Shared} {A:Around} {E:Value->Shared->Prop}
theorem Hh {a t:Addr} {f:Str} {y:V} {Q:Unit->Shared->Prop} (I:Inv X pins U H s) (e:H a=some (XO a C t none)) (c:ExcAt X.K C f) (ry:RelV y u) (h:∀ s' dx,H dx=none->dx≠a->Inv X pins U (upd (upd H dx (DX dx f y)) a (XO a C t (some dx))) s'->Q () s'):wpAny (model X.prog X.w) A (setAttr (.ref a) f u) Q E s:=by
 have he:s.heap.get? a=some (ED C t none):=(I.cg a _ e).1
 have mH:=ado he
 refine IE I.oE he c.sa c.po c.no c.hd λ h' hx GG keep=>?_
 obtain ⟨od,es,ep,FL,JK,sk,uk,hf⟩:=GG
 have nf:od.isFreed=false:=(Heap.get?_some_iff.mp FL).2
 have e1:(s.heap.push od).get? s.heap.objs.size=some od:=afq _ nf
 have ne:s.heap.objs.size≠a:=aot mH
 have I1:=I.laid (a:=s.heap.objs.size) (o:=DX s.heap.objs.size f y) (h':=s.heap.push od) (t':=s.toks+2) (λ b q z=>aas _ z) (aat _)
   ⟨⟨u,ry,od,es,ep,e1,JK,sk,uk,hf⟩,⟨_,e1⟩,λ h1 h2 p k=>by
     obtain ⟨u,r,o,q1,q2,q3,q4⟩:=p
     exact ⟨u,r,o,q1,q2,k _ q3,q4⟩⟩
 have ea:upd H s.heap.objs.size (DX s.heap.objs.size f y) a=some (XO a C t none):=by rw [ax (anq ne)];exact e
 have I2:=I1.write (x:=a) (e:=a) (o:=XO a C t (some s.heap.objs.size)) (h':=h') (t':=s.toks+2) (by rw [ea];exact True.intro) (.inl rfl) (λ b q hb z=>by
   by_cases w:b=s.heap.objs.size
   . subst w
     have z:(s.heap.push od).get? s.heap.objs.size=some q:=z
     rw [e1] at z
     cases z
     exact FL
   . refine keep b q hb ?_
     have z:(s.heap.push od).get? b=some q:=z
     rw [Heap.get?_push_ne _ _ _ w] at z
     exact z) ⟨_,hx⟩ ⟨hx,⟨_,hx⟩,λ h1 h2 p k=>k _ p⟩
 exact h _ _ (I.cg.fresh (aat _)) ne I2
theorem Gq {a t dx:Addr} {f g:Str} {y z:V} {Q:Unit->Shared->Prop} (I:Inv X pins U H s) (e:H a=some (XO a C t (some dx))) (ed:H dx=some (DX dx g z)) (n:dx≠a) (c:ExcAt X.K C f) (ry:RelV y u) (h:∀ s',Inv X pins U (upd H dx (.xd [(f,y),(g,z)])) s'->Q () s'):wpAny (model X.prog X.w) A (setAttr (.ref a) f u) Q E s:=by
 have he:s.heap.get? a=some (ED C t (some dx)):=(I.cg a _ e).1
 obtain ⟨uz,rz,hN⟩:=(I.cg dx _ ed).1
 refine Hu (ns:=[g]) I.oE he hN n c.sa c.po c.no c.hd (aod g uz (ns:=[]) (λ y hy=>absurd rfl hy)) (by show 1<=1000;decide) λ h' hx GG keep=>?_
 have there:∃ o,h'.get? dx=some o:=by obtain ⟨od,es,ep,FL,_⟩:=GG;exact ⟨od,FL⟩
 refine h _ (I.write (x:=dx) (e:=dx) (o:=.xd [(f,y),(g,z)]) (h':=h') (t':=s.toks+2) (by rw [ed];exact True.intro) (.inl rfl) keep there ⟨_,GG,λ q=>?_⟩)
 show jy (([(f,y),(g,z)]:List (Str×V)).lookup q) (if q=f then some u else if q=g then some uz else none)
 by_cases q1:q=f
 .
  subst q1
  rw [acS rfl]
  simp only [List.lookup,aoR]
  exact ry
 .
  rw [acO q1]
  have b1:(q == f)=false:=by simpa using q1
  by_cases q2:q=g
  . subst q2
    rw [acS rfl]
    simp only [List.lookup,b1,aoR]
    exact rz
  . rw [acO q2]
    have b2:(q == g)=false:=by simpa using q2
    simp only [List.lookup,b1,b2]
    exact trivial
def Nm (K:W.Frag) (ta tv:TE) (f:Str):TS:=λ D U H=>tv U H λ y H1=>ta U H1 λ x H2=>∃ a C t,x = .ref a/\H2 a=some (XO a C t none)/\ExcAt K C f/\∀ dx,H2 dx=none->dx≠a->D.nx U (upd (upd H2 dx (DX dx f y)) a (XO a C t (some dx)))
theorem zU {o:Expr} {f:Str} {pos:Pos} {ta:TE} (ha:PE X o ta) (hv:PE X value tv) (hs:swapsWith value (some (.Attribute o f pos')) pos.line X.env=pure false):PS X (.Assign [.Attribute o f pos'] value pos) (Nm X.K ta tv f):=by
 intro pins s U H D I h
 refine an1 (cG (hv pins s U H _ I h) λ u s1 ⟨y,H1,I1,ry,q⟩=>cG (ha pins s1 U H1 _ I1 q) λ ov s2 ⟨x,H2,I2,rx,a,C,t,ex,ea,c,q2⟩=>?_) hs
 subst ex
 obtain rfl:ov=Value.ref a:=rx
 exact Hh I2 ea c ry λ s3 dx n1 n2 I3=>⟨U,_,I3,q2 dx n1 n2⟩
def MY (K:W.Frag) (ta tv:TE) (f:Str):TS:=λ D U H=>tv U H λ y H1=>ta U H1 λ x H2=>∃ a C t dx g z,x = .ref a/\H2 a=some (XO a C t (some dx))/\H2 dx=some (DX dx g z)/\dx≠a/\ExcAt K C f/\D.nx U (upd H2 dx (.xd [(f,y),(g,z)]))
theorem xx {o:Expr} {f:Str} {pos:Pos} {ta:TE} (ha:PE X o ta) (hv:PE X value tv) (hs:swapsWith value (some (.Attribute o f pos')) pos.line X.env=pure false):PS X (.Assign [.Attribute o f pos'] value pos) (MY X.K ta tv f):=by
 intro pins s U H D I h
 refine an1 (cG (hv pins s U H _ I h) λ u s1 ⟨y,H1,I1,ry,q⟩=>cG (ha pins s1 U H1 _ I1 q) λ ov s2 ⟨x,H2,I2,rx,a,C,t,dx,g,z,ex,ea,ed,n,c,q2⟩=>?_) hs
 subst ex
 obtain rfl:ov=Value.ref a:=rx
 exact Gq I2 ea ed n c ry λ s3 I3=>⟨U,_,I3,q2⟩
end
inductive o8 (C:Addr) (f g:Str) (vs:List V) (H:Hp) (Q:VK) (_E:XK):Prop
 | mk (x t v u:_) (_:vs=[.ref x,v,u]) (_:H x=some (XO x C t none)) (_:∀ dx,H dx=none->dx≠x->Q .b9 (upd (upd (upd H dx (DX dx f v)) x (XO x C t (some dx))) dx (.xd [(g,u),(f,v)])))
def gW (C:Addr) (r u:V) (H:Hp) (E:XK):Prop:=∀ d H',aA H H'->H' d=some (.xd [("turn",u),("room",r)])->E (.ref C) (some d) H'
theorem gW.same {r u:V} (h:gW C r u H E) (s:aA H H1):gW C r u H1 E:=λ d H' s'=>h d H' (s.trans s')
theorem gW.raised {r u:V} (h:gW C r u H E) (s:aA H H1):[r,u].length<=sizeLine/\∀ x t,H1 x=none->o8 C "room" "turn" (.ref x::[r,u]) (upd H1 x (XO x C t none)) (λ v H2=>v = .b9/\∃ d,H2 x=some (XO x C t d)/\E (.ref C) d (iI H2 x)) E0:=by
 refine ⟨by show 2<=sizeLine;decide,λ x t hx=>⟨x,t,r,u,rfl,ag,λ dx hd hn=>⟨rfl,some dx,by rw [ax (anq hn)];exact ag,h dx _ ?_ ?_⟩⟩⟩
 .
  intro b o hb
  have nb:b≠x:=λ z=>by have:=s b o hb;rw [z,hx] at this;cases this
  have e1:(upd H1 x (XO x C t none)) b=some o:=by rw [ax nb];exact s b o hb
  have nd:b≠dx:=λ z=>by rw [z] at e1;rw [e1] at hd;cases hd
  rw [gc nb,ax nd,ax nb,ax nd]
  exact e1
 . rw [gc hn]
   exact ag
end L2
namespace Ord
open Bit
theorem wD:∀ W,W<16->parts (rooms W)=(List.range 16).filter (λ o=>decide (o &&& W=o)):=by decide +kernel
structure Ca (n:Nat) (has:Nat->Bool) (wd:Nat->Int) (wt:Nat->Bool) (b:Nat) (most heap:Int) (o:Nat):Prop where
 has:∀ r∈rooms o,r<n/\has r=true
 gf:∀ r,r<n->wt r=true->o.testBit r=b.testBit r
 most:((rooms o).length:Int)<=most
 nK:((rooms o).map wd).sum<=heap
def setOf (n:Nat) (p:Nat->Bool):Nat:=sumOf ((List.range n).filter p)
theorem iw (n:Nat) (p:Nat->Bool) (k:Nat):(setOf n p).testBit k=(decide (k<n) && p k):=by
 unfold setOf
 rw [l8]
 by_cases h:k<n<;>cases e:p k<;>simp [h,e]
theorem wc (n:Nat) (p:Nat->Bool):setOf n p<2 ^ n:=Fg λ r hr=>List.mem_range.mp (List.mem_filter.mp hr).1
theorem DM {n:Nat} (p:Nat->Bool) (hn:n<=61):rooms (setOf n p)=(List.range n).filter p :=
 yn (λ r hr=>by have:=List.mem_range.mp (List.mem_filter.mp hr).1;lia) ((apr).filter _)
theorem JU {o k:Nat} (h:o<16) (hk:4<=k):o.testBit k=false:=iD (m:=4) h hk
structure Hi (n:Nat) (has:Nat->Bool) (wd:Nat->Int) (wt:Nat->Bool) (b:Nat) (most heap:Int) (o:Nat):Prop where
 gf:o &&& setOf n wt=b &&& setOf n wt
 most:((rooms o).length:Int)<=most
 nK:((rooms (o &&& setOf n has)).map wd).sum<=heap
section
variable {n:Nat} {has:Nat->Bool} {wd:Nat->Int} {wt:Nat->Bool} {b:Nat} {most heap:Int} {o:Nat}
theorem CJ (ho:o<2 ^ 61):o &&& setOf n has=o↔∀ r∈rooms o,r<n/\has r=true:=by
 constructor
 .
  intro e r hr
  have h2:=(fg.mp hr).2
  rw [← e,aiD,iw] at h2
  simp only [aeX,ahP] at h2
  exact h2.2
 .
  intro h
  refine akU λ k=>?_
  rw [aiD,iw]
  by_cases hk:k<61
  .
   cases e:o.testBit k with
   | false=>rfl
   | true =>
     obtain ⟨h1,h2⟩:=h k (fg.mpr ⟨hk,e⟩)
     rw [aga h1,h2];rfl
  . rw [iD ho (by lia)];rfl
theorem zl:o &&& setOf n wt=b &&& setOf n wt↔∀ r,r<n->wt r=true->o.testBit r=b.testBit r:=by
 constructor
 .
  intro e r hr hw
  have h:=anv (λ x=>Nat.testBit x r) e
  simp only [aiD,iw,aga hr,hw,Bool.and_true] at h
  exact h
 .
  intro h
  refine akU λ k=>?_
  rw [aiD,aiD,iw]
  by_cases hk:k<n
  . cases e:wt k with
    | false=>simp
    | true=>rw [h k hk e]
  . rw [ad7 hk];simp
theorem Hg (ho:o<2 ^ 61):Ca n has wd wt b most heap o↔(o &&& setOf n has=o/\Hi n has wd wt b most heap o):=by
 constructor
 . rintro ⟨h1,h2,h3,h4⟩
   have e:=(CJ ho).mpr h1
   exact ⟨e,⟨zl.mpr h2,h3,by rw [e];exact h4⟩⟩
 . rintro ⟨e,h2,h3,h4⟩
   rw [e] at h4
   exact ⟨(CJ ho).mp e,zl.mp h2,h3,h4⟩
end
open Classical in
theorem Dj {n:Nat} (hn:n<=4) (has:Nat->Bool) (wd:Nat->Int) (wt:Nat->Bool) (b:Nat) (most heap:Int) (P L:Nat->Bool)
   (hP:∀ o,o<16->(P o=true↔Hi n has wd wt b most heap o)) (hL:∀ o,o<16->(L o=true↔Ca n has wd wt b most heap o)) :
   (parts (rooms (setOf n has))).filter P=(List.range 16).filter L:=by
 have hW:setOf n has<16:=aec (wc n has) (ajz (by decide) hn:2 ^ n<=2 ^ 4)
 rw [wD _ hW,List.filter_filter]
 refine List.filter_congr λ o ho=>?_
 have ho:o<16:=List.mem_range.mp ho
 have h61:o<2 ^ 61:=an6 ho (by decide)
 have:=(hL o ho).trans ((Hg h61).trans (aoX λ _=>(hP o ho).symm))
 rw [amj,aeX,ahP,this]
 exact And.comm
end Ord
namespace L2
open PySem PySem.Spec PyProof.Rows Mth
variable {H:Hp} {l:List Nat} {tm:ar}
section
variable {X:Cx}
inductive af3 (K:W.Frag) (x:V) (lo:Option Int) (hi:Option Int) (H:Hp) (Q:VK):Prop
 | mk (a xs:_) (i:Nat) (_:x = .ref a) (_:bP K H a xs) (_:lo=some (i:Int)) (_:hi=none) (_:1<=i) (_:i<=xs.length) (_:∀ p,H p=none->Q (.ref p) (upd H p (.tup (xs.drop i))))
theorem BW:SlR X (af3 X.K):=by
 intro pins s U H x v vl vu lo hi sl Q I rx hs pl pu h
 obtain ⟨a,xs,i,rfl,hx,rfl,rfl,i1,i2,q⟩:=h
 cases rx
 cases pu
 cases pl
 obtain ⟨br,r,ht,hz⟩:=I.tuple hx
 have hlen:=r.length
 refine ⟨"tuple",_,slot_tuple_getitem.lookup,ht.typeIs,getItem_tuple_from ht hs i1 (by rw [adJ];lia) ?_ (by rw [adJ];lia)⟩
 refine ⟨.ref s.heap.objs.size,_,I.laid (t':=s.toks) (o:=.tup (xs.drop i)) (λ b ob q=>aas _ q) (aat _) ?_,rfl,q _ (I.cg.fresh (aat _))⟩
 refine ⟨by rw [List.length_drop];lia,br.drop i,r.drop i,⟨_,afq _ rfl,rfl,_,rfl⟩⟩
end
structure d6 where
 aH:List Nat
 bX:Nat
 jJ:List Nat
 failed:List Nat
 heap:Nat
def gd (K:W.Frag) (H:Hp) (p:Addr) (s:d6):Prop :=
 ∃ pb pw pf,bP K H p [.ref pb,ap s.bX,.ref pw,.ref pf,ap s.heap]/\bP K H pb (s.aH.map ap)/\bP K H pw (s.jJ.map ap)/\bP K H pf (s.failed.map ap)
theorem gd.same {K:W.Frag} {H':Hp} {p:Addr} {s:d6} (h:gd K H p s) (q:aA H H'):gd K H' p s:=by
 obtain ⟨pb,pw,pf,a,b,c,d⟩:=h
 exact ⟨pb,pw,pf,q.tup a,q.tup b,q.tup c,q.tup d⟩
abbrev Stv:=bW×Int×Int×Int
def ao.xr (m:ao) (i:Nat):Option Stv:=(m.aD[i]?).getD none
def ao.has (m:ao) (i:Nat):Bool:=(m.xr i).isSome
def ao.wd (m:ao) (i:Nat):Int:=((m.xr i).map λ z=>z.2.1).getD 0
def ao.gf (m:ao) (i:Nat):Int:=((m.xr i).map λ z=>z.2.2.1).getD 0
def ao.fails (m:ao) (i:Nat):Int:=((m.xr i).map λ z=>z.2.2.2).getD 0
theorem jY {m:ao} {i:Nat} (h:i<m.aD.length):m.aD[i]?=some (m.xr i):=by
 unfold ao.xr
 rw [aq h];rfl
def xW:Option Stv->Bool->Nat->Nat->Prop
 | none,f,w,b=>f=false/\w=0/\b=0
 | some z,f,w,b=>(w:Int)<=z.2.2.1/\(b:Int)<=z.2.2.2/\(b=0∨(f=false/\w=0))
def gN (l:List Nat) (i:Nat):Nat:=(l[i]?).getD 0
theorem NG {i:Nat} (h:i<l.length):l[i]?=some (gN l i):=by
 unfold gN
 rw [aq h];rfl
theorem sS {i:Nat} (h:i<l.length):tN (l.map ap) (i:Int)=some (ap (gN l i)):=bA (by rw [T1,NG h];rfl)
structure fG (m:ao) (s:d6):Prop where
 lb:s.aH.length=m.rows.length
 lw:s.jJ.length=m.rows.length
 lf:s.failed.length=m.rows.length
 bX:s.bX<2 ^ m.rows.length
 most:((Bit.rooms s.bX).length:Int)<=m.most
 heap:(s.heap:Int)<=m.ir
 band:∀ i,i<m.rows.length->gN s.aH i+1<(m.rows.getD i []).length
 jM:∀ i,i<m.rows.length->xW (m.xr i) (s.bX.testBit i) (gN s.jJ i) (gN s.failed i)
def ao.ws (m:ao):Nat:=Ord.setOf m.rows.length m.has
def d6.wt (s:d6) (i:Nat):Bool:=decide (0<gN s.jJ i)
def d6.held (s:d6):Nat:=Ord.setOf s.jJ.length s.wt
def ao.nK (m:ao) (b:Nat):Int:=((Bit.rooms (b &&& m.ws)).map m.wd).sum
def ao.Fn (m:ao) (o:Nat) (heap:Int):Bool:=decide (((Bit.rooms o).length:Int)<=m.most) && decide (m.nK o<=heap)
def d6.EE (m:ao) (s:d6) (o:Nat):Bool:=decide (o &&& s.held=s.bX &&& s.held) && m.Fn o s.heap
def d6.orders (m:ao) (s:d6):List Nat:=(Bit.parts (Bit.rooms m.ws)).filter (s.EE m)
theorem yC {m:ao} (h:m.rows.length<=4):m.ws<16:=aec (Ord.wc _ _) (ajz (by decide) h:2 ^ m.rows.length<=2 ^ 4)
section
variable (K:W.Frag) (C:Addr)
inductive zf  (vs:List V) (H:Hp) (Q:VK) (_E:XK):Prop
 | mk (n:Nat) (_:vs=[ap n]) (_:n<2 ^ 61) (_:∀ H',aA H H'->Q (ap (Bit.rooms n).length) H')
inductive DY  (vs:List V) (H:Hp) (Q:VK) (_E:XK):Prop
 | mk (p l:_) (_:vs=[.ref p]) (_:aT K H p (l.map ap)) (_:(∀ r∈l,r<=1000)) (_:Q (ap (Bit.sumOf l)) H)
inductive uh  (vs:List V) (H:Hp) (Q:VK) (_E:XK):Prop
 | mk (v z f w b:_) (_:vs=[v,.bl f,ap w,ap b]) (_:Dn K H (hX z) v) (_:xW z f w b) (_:∀ H',aA H H'->Q (.bl true) H')
inductive vT  (vs:List V) (H:Hp) (Q:VK) (_E:XK):Prop
 | mk (a fp m p s:_) (i:Nat) (_:vs=[.ref a,.ref p,ap i]) (_:aL K C H a fp m) (_:gd K H p s) (_:fG m s) (_:i<m.rows.length) (_:∀ H',aA H H'->Q (.bl true) H')
inductive zJ  (vs:List V) (H:Hp) (Q:VK) (_E:XK):Prop
 | mk (a fp m p s:_) (_:vs=[.ref a,.ref p]) (_:aL K C H a fp m) (_:gd K H p s) (_:fG m s) (_:∀ H',aA H H'->Q (.bl true) H')
inductive tU  (vs:List V) (H:Hp) (Q:VK) (_E:XK):Prop
 | mk (a fp m p s:_) (_:vs=[.ref a,.ref p]) (_:aL K C H a fp m) (_:gd K H p s) (_:fG m s) (_:∀ H',aA H H'->Q .b9 H')
inductive uj  (vs:List V) (H:Hp) (Q:VK) (_E:XK):Prop
 | mk (a fp m:_) (_:vs=[.ref a]) (_:aL K C H a fp m) (_:∀ H',aA H H'->Q (ap m.ws) H')
inductive BJ  (vs:List V) (H:Hp) (Q:VK) (_E:XK):Prop
 | mk (a fp m:_) (b:Nat) (_:vs=[.ref a,ap b]) (_:aL K C H a fp m) (_:∀ H',aA H H'->Q (.int (m.nK b)) H')
inductive wW  (vs:List V) (H:Hp) (Q:VK) (_E:XK):Prop
 | mk (p s:_) (_:vs=[.ref p]) (_:gd K H p s) (_:s.jJ.length<=4) (_:∀ H',aA H H'->Q (ap s.held) H')
inductive zW  (vs:List V) (H:Hp) (Q:VK) (_E:XK):Prop
 | mk (a fp m:_) (o:Nat) (hp:Int) (_:vs=[.ref a,ap o,.int hp]) (_:aL K C H a fp m) (_:o<2 ^ 61) (_:∀ H',aA H H'->Q (.bl (m.Fn o hp)) H')
inductive vS  (vs:List V) (H:Hp) (Q:VK) (_E:XK):Prop
 | mk (a fp m p s:_) (_:vs=[.ref a,.ref p]) (_:aL K C H a fp m) (_:gd K H p s) (_:fG m s) (_:∀ q H',H q=none->aA H H'->H' q=some (.lst ((s.orders m).map ap))->Q (.ref q) H')
end
theorem Dn.jM {K:W.Frag} {v:V} {z:Stv} (h:Dn K H (hX (some z)) v):∃ p v1,v = .ref p/\bP K H p [v1,.int z.2.1,.int z.2.2.1,.int z.2.2.2]/\Dn K H (dR z.1) v1:=by
 obtain ⟨p,xs,rfl,hp,t1,r1,rfl,e1,t2,r2,rfl,e2,t3,r3,rfl,e3,t4,r4,rfl,e4,e5⟩:=h
 have e5:r4=[]:=e5
 have e2:t2 = .int z.2.1:=e2
 have e3:t3 = .int z.2.2.1:=e3
 have e4:t4 = .int z.2.2.2:=e4
 subst e2 e3 e4 e5
 exact ⟨p,t1,rfl,hp,e1⟩
theorem Aq {n i:Nat} (ok:tm.Ok n n) (hi:i<n):(tm.m2 n n).xr i=((tm.aD[i]?).getD none).map tm.iz:=by
 unfold ao.xr
 rw [(gG ok n (aat n)).2.2.1 i hi]
 cases tm.aD[i]? <;> rfl
structure Part (tm:ar) (n i:Nat) (bs ws fs:List Nat) (b:Nat):Prop where
 lb:bs.length=i
 lw:ws.length=i
 lf:fs.length=i
 bX:b<2 ^ i
 most:((Bit.rooms b).length:Int)<=tm.bounds.1
 band:∀ j,j<i->gN bs j+1<(tm.marks.getD j []).length
 jM:∀ j,j<i->xW ((tm.m2 n n).xr j) (b.testBit j) (gN ws j) (gN fs j)
theorem Part.zero {n:Nat} (ok:tm.Ok n n):Part tm n 0 [] [] [] 0:=by
 refine ⟨rfl,rfl,rfl,by decide,?_,nofun,nofun⟩
 have e:(Bit.rooms 0).length=0:=by decide
 rw [e]
 exact ok.bounds.1.1
theorem BA {x j:Nat} (h:j<l.length):gN (l++[x]) j=gN l j:=by
 unfold gN
 rw [aft h]
theorem Au {x:Nat}:gN (l++[x]) l.length=x:=by
 unfold gN
 rw [agM (aat _),Nat.sub_self];rfl
theorem Part.next {n i:Nat} {bs ws fs:List Nat} {b x w f:Nat} {lit:Bool} (h:Part tm n i bs ws fs b) (hi:i<61) (hx:x+1<(tm.marks.getD i []).length) (hf:xW ((tm.m2 n n).xr i) lit w f) (hm:lit=true->((Bit.rooms b).length:Int)<tm.bounds.1):Part tm n (i+1) (bs++[x]) (ws++[w]) (fs++[f]) (if lit then b+2 ^ i else b)/\(Bit.rooms (if lit then b+2 ^ i else b)).length=(Bit.rooms b).length+(if lit then 1 else 0):=by
 have hbi:b.testBit i=false:=Bit.iD h.bX (aat _)
 have hor:b+2 ^ i=b ||| 2 ^ i:=by
   have:=aoZ h.bX 1
   rw [apK] at this
   rw [an7,this,Nat.or_comm]
 have mH:(if lit then b+2 ^ i else b)<2 ^ (i+1):=by
   have:=h.bX
   rw [aos]
   split<;>lia
 have hlen:(Bit.rooms (if lit then b+2 ^ i else b)).length=(Bit.rooms b).length+(if lit then 1 else 0):=by
   cases lit with
   | false=>rfl
   | true =>
     show (Bit.rooms (b+2 ^ i)).length=_+1
     rw [hor,Bit.GJ hi hbi]
 have hold:∀ j,j<i->(if lit then b+2 ^ i else b).testBit j=b.testBit j:=λ j hj=>by
   cases lit with
   | false=>rfl
   | true =>
     show (b+2 ^ i).testBit j=_
     rw [an7]
     exact Nat.testBit_two_pow_add_gt hj b
 have BE:(if lit then b+2 ^ i else b).testBit i=lit:=by
   cases lit with
   | false=>exact hbi
   | true =>
     show (b+2 ^ i).testBit i=_
     rw [an7,Nat.testBit_two_pow_add_eq,hbi];rfl
 refine ⟨⟨by rw [abi,h.lb];rfl,by rw [abi,h.lw];rfl,by rw [abi,h.lf];rfl,mH,?_,λ j hj=>?_,λ j hj=>?_⟩,hlen⟩
 .
  rw [hlen]
  have:=h.most
  cases lit with
  | false=>exact this
  | true =>
    have:=hm rfl
    show (((Bit.rooms b).length+1:Nat):Int)<=_
    lia
 .
  by_cases e:j<i
  . rw [BA (by rw [h.lb];exact e)];exact h.band j e
  . obtain rfl:j=i:=by lia
    have:gN (bs++[x]) j=x:=by rw [← h.lb];exact Au
    rw [this];exact hx
 .
  by_cases e:j<i
  . rw [BA (by rw [h.lw];exact e),BA (by rw [h.lf];exact e),hold j e];exact h.jM j e
  . obtain rfl:j=i:=by lia
    have e1:gN (ws++[w]) j=w:=by rw [← h.lw];exact Au
    have e2:gN (fs++[f]) j=f:=by rw [← h.lf];exact Au
    rw [e1,e2,BE];exact hf
theorem Part.ok {n:Nat} {bs ws fs:List Nat} {b:Nat} {hp:Nat} (ok:tm.Ok n n) (h:Part tm n n bs ws fs b) (hh:(hp:Int)<=tm.bounds.2.1):fG (tm.m2 n n) ⟨bs,b,ws,fs,hp⟩:=by
 obtain ⟨f1,f2,f3,f4⟩:=cH tm n n
 have hl:(tm.m2 n n).rows.length=n:=by rw [f1,AM,ad4,ok.lm];lia
 refine ⟨by rw [hl];exact h.lb,by rw [hl];exact h.lw,by rw [hl];exact h.lf,by rw [hl];exact h.bX,by rw [f2];exact h.most,by rw [f3];exact hh,λ i hi=>?_,λ i hi=>?_⟩
 .
  rw [hl] at hi
  have hb:=h.band i hi
  have tP:i<tm.marks.length:=by rw [ok.lm];exact hi
  rw [f1,OQ,T1,anN hi,aq tP]
  rw [OQ,aq tP] at hb
  show _<(tm.row tm.marks[i]).length
  unfold ar.row
  rw [AM]
  exact hb
 . rw [hl] at hi
   exact h.jM i hi
def IN (tm:ar) (n:Nat) (s:d6) (o:Nat):Prop:=Ord.Ca n (tm.m2 n n).has (tm.m2 n n).wd s.wt s.bX tm.bounds.1 s.heap o
inductive zM (K:W.Frag) (vs:List V) (H:Hp) (Q:VK) (_E:XK):Prop
 | mk (p tm:_) (n:Nat) (c:Int) (k:Nat) (_:vs=[.ref p,.int c,ap k]) (_:iK K H p tm) (_:tm.Ok n n) (_:n<=4) (_:k<=900) (_:∀ q s H',aA H H'->gd K H' q s->fG (tm.m2 n n) s->Q (.ref q) H')
end L2
namespace Ord
open Bit
theorem Rj:∀ x,x<16->∀ y,y<16->x - (x &&& y)=x ^^^ (x &&& y):=by decide +kernel
def off (x y:Nat):Nat:=x - (x &&& y)
theorem og {x y:Nat} (hx:x<16) (hy:y<16) (k:Nat):(off x y).testBit k=(x.testBit k && !y.testBit k):=by
 unfold off
 rw [Rj x hx y hy,Nat.testBit_xor,aiD]
 cases x.testBit k<;>cases y.testBit k<;>rfl
theorem Mt {x y n:Nat} (hx:x<2 ^ n):off x y<2 ^ n:=agc (Nat.sub_le _ _) hx
theorem LY {n x:Nat} (hn:n<=4) (h:x<2 ^ n):x<16:=aec h (ajz (by decide) hn:2 ^ n<=2 ^ 4)
theorem less {wd:Nat->Int} (h0:∀ r,0<=wd r) {p q:Nat->Bool} (h:∀ x,p x=true->q x=true):∀ l:List Nat,(l.filter p).length<=(l.filter q).length/\((l.filter p).map wd).sum<=((l.filter q).map wd).sum
 | []=>⟨aat _,anp _⟩
 | x::l=>by
   obtain ⟨a,b⟩:=less h0 h l
   have:=h0 x
   by_cases hp:p x=true
   . rw [aoj hp,aoj (h x hp)]
     simp only [afc,agt,List.sum_cons]
     lia
   .
    by_cases hq:q x=true
    . rw [aok hp,aoj hq]
      simp only [afc,agt,List.sum_cons]
      lia
    . rw [aok hp,aok hq]
      exact ⟨a,b⟩
theorem Bj {wd:Nat->Int} (h0:∀ r,0<=wd r) {a b:Nat} (h:∀ x,a.testBit x=true->b.testBit x=true):(rooms a).length<=(rooms b).length/\((rooms a).map wd).sum<=((rooms b).map wd).sum:=less h0 h _
structure Hd where
 n:Nat
 has:Nat->Bool
 wd:Nat->Int
 wt:Nat->Bool
 b:Nat
 most:Int
 heap:Int
def Hd.ws (h:Hd):Nat:=setOf h.n h.has
def Hd.held (h:Hd):Nat:=setOf h.n h.wt
def Hd.nK (h:Hd) (o:Nat):Int:=((rooms (o &&& h.ws)).map h.wd).sum
def Hd.Fn (h:Hd) (o:Nat):Bool:=decide (((rooms o).length:Int)<=h.most) && decide (h.nK o<=h.heap)
def Hd.step (h:Hd) (o r:Nat):Nat:=if h.Fn (o ||| 2 ^ r) then o ||| 2 ^ r else o
def Hd.first (h:Hd):Nat:=h.b &&& h.held
def Hd.go (h:Hd) (l9:Nat):Nat:=(rooms (off (l9 &&& h.ws) h.held)).foldl h.step h.first
def Hd.may (h:Hd) (l9 r:Nat):Bool:=l9.testBit r && h.has r && !h.wt r
structure Hd.Ok (h:Hd):Prop where
 n4:h.n<=4
 bX:h.b<2 ^ h.n
 sub:∀ r,h.b.testBit r=true->h.has r=true
 most:((rooms h.b).length:Int)<=h.most
 wd0:∀ r,0<=h.wd r
section
variable {h:Hd} {l9 i r o:Nat}
structure Hd.In (h:Hd) (i o:Nat):Prop where
 sub:∀ r,o.testBit r=true->r<h.n/\h.has r=true
 held:∀ r,r<h.n->h.wt r=true->o.testBit r=h.b.testBit r
 arT:∀ r,i<=r->h.wt r=false->o.testBit r=false
def Hd.Law (h:Hd) (o:Nat):Prop:=Ca h.n h.has h.wd h.wt h.b h.most h.heap o
end
end Ord
namespace L2
open PySem PySem.Spec PyProof.Rows Mth
variable {B R xw:Int} {C:Addr} {D:L2.Ends} {H H' H0:Hp} {a2 a3 a4 a5 a6 a7 a8 a9:TS} {fp jT:List Addr} {tm:ar} {zs:List Int}
theorem iE (x y:Nat):Builtin.bitAnd (x:Int) (Builtin.bitNot (y:Int))=((Ord.off x y:Nat):Int):=by
 have e:Builtin.bitNot (Builtin.bitNot (y:Int))=(y:Int):=by unfold Builtin.bitNot;lia
 have n:¬ (0:Int)<=Builtin.bitNot (y:Int):=by unfold Builtin.bitNot;lia
 have p:(0:Int)<=(x:Int):=ant _
 unfold Builtin.bitAnd
 rw [aga p,ad7 n]
 show (x:Int) - _=_
 rw [e,akM,akM]
 have:=Nat.and_le_left (n:=x) (m:=y)
 unfold Ord.off
 lia
def NV (m:ao) (s:d6):Ord.Hd:=⟨m.rows.length,m.has,m.wd,s.wt,s.bX,m.most,s.heap⟩
theorem JM {n o:Nat} {s:d6} (ok:tm.Ok n n) (so:fG (tm.m2 n n) s):IN tm n s o↔(NV (tm.m2 n n) s).Law o:=by
 obtain ⟨f1,f2,f3,f4⟩:=cH tm n n
 have hl:(tm.m2 n n).rows.length=n:=by rw [f1,AM,ad4,ok.lm];lia
 unfold IN Ord.Hd.Law NV
 rw [hl,f2]
def d6.may (m:ao) (s:d6) (o:Nat):Nat:=Ord.setOf m.rows.length λ r=>o.testBit r && !s.bX.testBit r && decide ((gN s.failed r:Int)<m.fails r)
def d6.nj (m:ao) (s:d6) (b i:Nat):Nat:=if s.bX.testBit i=b.testBit i then gN s.jJ i - 1 else (m.gf i).toNat
def d6.ux (s:d6) (b out i:Nat):Nat:=if out.testBit i then gN s.failed i+1 else if b.testBit i then 0 else gN s.failed i
def d6.kO (m:ao) (s:d6) (b:Nat):Int:=min m.ir ((s.heap:Int) - m.nK b+m.load)
def d6.behind (m:ao) (s:d6) (aH:List Nat) (o out:Nat):d6 :=
 ⟨aH,Ord.off o out,(List.range m.rows.length).map (s.nj m (Ord.off o out)),(List.range m.rows.length).map (s.ux (Ord.off o out) out),(s.kO m (Ord.off o out)).toNat⟩
section
variable (K:W.Frag) (C:Addr)
inductive si  (vs:List V) (H:Hp) (Q:VK) (_E:XK):Prop
 | mk (a fp m p s:_) (o:Nat) (_:vs=[.ref a,.ref p,ap o]) (_:aL K C H a fp m) (_:gd K H p s) (_:fG m s) (_:o &&& m.ws=o) (_:∀ H',aA H H'->Q (ap (s.may m o)) H')
inductive sG  (vs:List V) (H:Hp) (Q:VK) (_E:XK):Prop
 | mk (a fp m p s:_) (b i:Nat) (_:vs=[.ref a,.ref p,ap b,ap i]) (_:aL K C H a fp m) (_:gd K H p s) (_:fG m s) (_:i<m.rows.length) (_:(s.bX.testBit i≠b.testBit i->m.has i=true)) (_:0<=m.gf i) (_:Q (ap (s.nj m b i)) H)
inductive pC  (vs:List V) (H:Hp) (Q:VK) (_E:XK):Prop
 | mk (p s:_) (b out i:Nat) (_:vs=[.ref p,ap b,ap out,ap i]) (_:gd K H p s) (_:i<s.failed.length) (_:Q (ap (s.ux b out i)) H)
inductive vn  (vs:List V) (H:Hp) (Q:VK) (_E:XK):Prop
 | mk (a fp m p s:_) (o out:Nat) (_:vs=[.ref a,.ref p,ap o,ap out]) (_:aL K C H a fp m) (_:gd K H p s) (_:fG m s) (_:(∀ i,s.bX.testBit i≠(Ord.off o out).testBit i->m.has i=true)) (_:(∀ i,0<=m.gf i)) (_:0<=s.kO m (Ord.off o out)) (_:∀ q pw pf H',aA H H'->H' q=some (.tup [ap (Ord.off o out),.ref pw,.ref pf,ap (s.kO m (Ord.off o out)).toNat])->H' pw=some (.tup (((List.range m.rows.length).map (s.nj m (Ord.off o out))).map ap))->H' pf=some (.tup (((List.range m.rows.length).map (s.ux (Ord.off o out) out)).map ap))->Q (.ref q) H')
end
theorem NQ {m:ao} {s:d6} {o:Nat} (h4:m.rows.length<=4) (ok:fG m s) (ho:o &&& m.ws=o) :
   Bit.sumOf ((Bit.rooms (Ord.off o s.bX)).filter λ r=>decide ((gN s.failed r:Int)<m.fails r))=s.may m o:=by
 have AK:o<16:=by rw [← ho];exact agc aoo (yC h4)
 have b16:s.bX<16:=Ord.LY h4 ok.bX
 have mH:o<2 ^ m.rows.length:=by rw [← ho];exact agc aoo (Ord.wc _ _)
 refine akU λ k=>?_
 rw [Bit.l8,d6.may,Ord.iw]
 rw [amj,ahP,ao1,Bit.fg,Ord.og AK b16]
 simp only [aeX,ahP]
 constructor
 .
  rintro ⟨⟨_,h1,h2⟩,h3⟩
  refine ⟨?_,⟨h1,h2⟩,h3⟩
  by_cases q:k<m.rows.length
  . exact q
  . rw [Bit.iD mH (by lia)] at h1;cases h1
 . rintro ⟨h0,⟨h1,h2⟩,h3⟩
   exact ⟨⟨by lia,h1,h2⟩,h3⟩
theorem DK {m:ao} {o r:Nat} (ho:o &&& m.ws=o) (hr:o.testBit r=true):r<m.rows.length/\m.has r=true:=by
 rw [← ho,aiD,ao.ws,Ord.iw] at hr
 simp only [aeX,ahP] at hr
 exact hr.2
theorem nN {m:ao} {r:Nat} (h:m.has r=true):∃ z,m.xr r=some z:=Option.isSome_iff_exists.mp h
structure cC (m:ao) (s:d6) (o out:Nat):Prop where
 h4:m.rows.length<=4
 ok:fG m s
 law:(NV m s).Law o
 AK:o<16
 Cd:out<16
 sub:∀ r,out.testBit r=true->o.testBit r=true/\s.bX.testBit r=false/\(gN s.failed r:Int)<m.fails r
 wd0:∀ r,0<=m.wd r
 LR:∀ r,0<=m.gf r
 Y8:0<=m.ir
 Te:0<=m.load
section
variable {m:ao} {s:d6} {o out r:Nat}
theorem cC.bit (t:cC m s o out) (r:Nat):(Ord.off o out).testBit r=(o.testBit r && !out.testBit r):=Ord.og t.AK t.Cd r
theorem cC.M4 (t:cC m s o out) (h:o.testBit r=true):r<m.rows.length/\m.has r=true:=by
 have hr:r<61:=by
   by_cases q:r<61
   . exact q
   . rw [Ord.JU t.AK (by lia)] at h;cases h
 exact t.law.has r (Bit.fg.mpr ⟨hr,h⟩)
theorem cC.LM (t:cC m s o out) (h:(Ord.off o out).testBit r=true):o.testBit r=true/\out.testBit r=false:=by
 rw [t.bit] at h
 simp only [aeX,anF] at h
 exact h
theorem cC.has (t:cC m s o out) (h:s.bX.testBit r≠(Ord.off o out).testBit r):m.has r=true:=by
 cases hb:(Ord.off o out).testBit r with
 | true=>exact (t.M4 (t.LM hb).1).2
 | false =>
   rw [hb] at h
   have hs:s.bX.testBit r=true:=by cases q:s.bX.testBit r with|true=>rfl|false=>exact absurd q h
   have hr:r<m.rows.length:=by
     by_cases q:r<m.rows.length
     . exact q
     . rw [Bit.iD t.ok.bX (by lia)] at hs;cases hs
   have:=t.ok.jM r hr
   unfold ao.has
   cases e:m.xr r with
   | some z=>rfl
   | none=>rw [e] at this;rw [this.1] at hs;cases hs
theorem cC.less (t:cC m s o out):(Bit.rooms (Ord.off o out)).length<=(Bit.rooms o).length/\((Bit.rooms (Ord.off o out)).map m.wd).sum<=((Bit.rooms o).map m.wd).sum :=
 Ord.Bj t.wd0 λ _ hx=>(t.LM hx).1
theorem cC.and (t:cC m s o out):Ord.off o out &&& m.ws=Ord.off o out:=by
 refine akU λ k=>?_
 rw [aiD,ao.ws,Ord.iw]
 cases e:(Ord.off o out).testBit k with
 | false=>rfl
 | true =>
   obtain ⟨a,b⟩:=t.M4 (t.LM e).1
   rw [aga a,b];rfl
theorem cC.nK (t:cC m s o out):m.nK (Ord.off o out)=((Bit.rooms (Ord.off o out)).map m.wd).sum:=by
 unfold ao.nK
 rw [t.and]
theorem cC.Iy (t:cC m s o out):((Bit.rooms (Ord.off o out)).map m.wd).sum<=(s.heap:Int):=by
 have:=t.less.2
 have q:((Bit.rooms o).map m.wd).sum<=(s.heap:Int):=t.law.nK
 lia
theorem cC.Mi (t:cC m s o out):0<=s.kO m (Ord.off o out):=by
 have:=t.Iy
 have:=t.Y8
 have:=t.Te
 unfold d6.kO
 rw [t.nK]
 lia
end
theorem Mf {n:Nat} (ok:tm.Ok n n) (r:Nat):0<=(tm.m2 n n).gf r/\0<=(tm.m2 n n).wd r/\(0<=(tm.m2 n n).fails r):=by
 unfold ao.gf ao.wd ao.fails
 by_cases h:r<n
 .
  rw [Aq ok h]
  have qX:r<tm.aD.length:=by rw [ok.lt];exact h
  rw [aq qX]
  cases e:tm.aD[r] with
  | none=>exact ⟨anp _,anp _,anp _⟩
  | some z =>
    have q:=ok.aD z (by rw [← e];exact ab8 qX)
    exact ⟨q.s.1,q.w.1,q.f.1⟩
 .
  have:(tm.m2 n n).xr r=none:=by
    unfold ao.xr
    rw [aow (by rw [(gG ok n (aat n)).2.2.2.2.1];lia)];rfl
  rw [this]
  exact ⟨anp _,anp _,anp _⟩
abbrev Pr:=bW×bW
def fw (ds:List Pr):Int×Int:=ds.foldl (λ s d=>(s.1 * (d.1.2 * d.2.2)+d.1.1 * d.2.1 * s.2,s.2 * (d.1.2 * d.2.2))) (0,1)
theorem mV (ds:List Pr) (d:Pr):fw (ds++[d])=((fw ds).1 * (d.1.2 * d.2.2)+d.1.1 * d.2.1 * (fw ds).2,(fw ds).2 * (d.1.2 * d.2.2)):=by
 unfold fw
 rw [akL];rfl
structure Ba (n k:Nat) (d:Pr):Prop where
 a:dU n d.1
 b:dU k d.2
theorem Bh (ds:List Pr) (h:∀ d∈ds,Ba 900 900 d):∀ j,j<=ds.length->Bd (1802 * j+2) (fw (ds.take j)).1/\Bd (1800 * j+1) (fw (ds.take j)).2/\0<(fw (ds.take j)).2
 | 0,_=>⟨by show Int.natAbs 0<_;decide,by show Int.natAbs 1<_;decide,by show (0:Int)<1;decide⟩
 | j+1,hj=>by
   obtain ⟨a,b,c⟩:=Bh ds h j (by lia)
   have hd:=h ds[j] (ab8 (by lia))
   have et:ds.take (j+1)=ds.take j++[ds[j]]:=by rw [anA,aq (by lia)];rfl
   rw [et,mV]
   generalize ds[j]=d at hd
   generalize fw (ds.take j)=s at a b c
   have bb:Bd 1800 (d.1.2 * d.2.2):=(hd.a.b.mul hd.b.b).mono (by decide)
   have bt:Bd 1800 (d.1.1 * d.2.1):=(hd.a.t.mul hd.b.t).mono (by decide)
   refine ⟨?_,(b.mul bb).mono (by lia),ag9 c (ag9 hd.a.p hd.b.p)⟩
   have x1:Bd (1802 * j+2+1800) (s.1 * (d.1.2 * d.2.2)):=a.mul bb
   have x2:Bd (1802 * j+2+1800) (d.1.1 * d.2.1 * s.2):=(bt.mul b).mono (by lia)
   exact (x1.add x2).mono (by lia)
theorem CL {ds:List Pr} (h:∀ d∈ds,Ba 900 900 d):0<(fw ds).2:=by
 have:=(Bh ds h ds.length (aat _)).2.2
 rw [ahU] at this
 exact this
theorem qD {n:Nat}:∀ (es ds:List Pr) {k:Nat},(∀ d∈es,Bd n (d.1.2 * d.2.2))->Bd k (fw ds).2->Bd (k+n * es.length) (fw (ds++es)).2
 | [],ds,k,_,h=>by rw [alw];exact h.mono (by lia)
 | e::es,ds,k,he,h=>by
   have e1:ds++e::es=(ds++[e])++es:=by rw [aoN];rfl
   rw [e1]
   have h2:Bd (k+n) (fw (ds++[e])).2:=by
     rw [mV]
     exact h.mul (he e afg)
   have:=qD es (ds++[e]) (λ d hd=>he d (aeC _ hd)) h2
   refine this.mono ?_
   rw [afc,Nat.mul_succ]
   lia
theorem W1 {t b t' b':Int} (hb:0<b) (X5:0<b') (h:t * b'=t' * b):nf t b=nf t' b':=by
 have F:=ie (t:=t) hb
 have G:=ie (t:=t') X5
 have c1:(nf t b).1 * b=t * (nf t b).2:=F.jB
 have c2:(nf t' b').1 * b'=t' * (nf t' b').2:=G.jB
 have p1:=F.pos
 have p2:=G.pos
 have k1:=F.X6
 have k2:=G.X6
 generalize nf t b=u at c1 p1 k1 ⊢
 generalize nf t' b'=v at c2 p2 k2 ⊢
 have e:u.1 * v.2=v.1 * u.2:=by
   have hz:b * b'≠0:=anD (ag9 hb X5)
   refine akW hz ?_
   grind
 have d1:u.2 ∣ v.2:=qK (q:=u.1) ⟨v.1,by rw [e,anP]⟩ k1
 have d2:v.2 ∣ u.2:=qK (q:=v.1) ⟨u.1,by rw [← e,anP]⟩ k2
 have er:u.2=v.2:=Int.dvd_antisymm (alO p1) (alO p2) d1 d2
 rw [← er] at e
 exact Prod.ext (akW (anD p1) e) er
abbrev FO (d:Pr):PyData:=.tuple [dR d.1,dR d.2]
theorem qR (d:Pr):dS (FO d)=true:=by simp [FO,dR,dS]
theorem rg (ds:List Pr):∀ e∈ds.map FO,dS e=true:=λ e he=>by
 obtain ⟨d,_,rfl⟩:=List.mem_map.mp he
 exact qR d
inductive MU (K:W.Frag) (vs:List V) (H:Hp) (Q:VK) (_E:XK):Prop
 | mk (p xs ds:_) (_:vs=[.ref p]) (_:aT K H p xs) (_:bT K H (ds.map FO) xs) (_:(∀ d∈ds,Ba 900 900 d)) (_:ds.length<=10) (_:Bd 4000 (fw ds).2) (_:∀ q H',aA H H'->H' q=some (.tup [.int (nf (fw ds).1 (fw ds).2).1,.int (nf (fw ds).1 (fw ds).2).2])->Q (.ref q) H')
def dB (m:ao) (i:Nat) (airs:List bW):List Pr:=(List.range airs.length).map λ j=>(m.share i j,airs.getD j (0,1))
def gv (m:ao) (i:Nat) (airs:List bW) (w:bW) (fired:Bool):List Pr:=dB m i airs++[(m.eT i,w)]++(if fired then [((1,1),((m.aD[i]?).getD none).map (·.1) |>.getD (0,1))] else [])
def j8 (m:ao) (i:Nat) (airs:List bW) (w:bW) (fired:Bool):bW:=nf (fw (gv m i airs w fired)).1 (fw (gv m i airs w fired)).2
inductive Ev (K:W.Frag) (C:Addr) (vs:List V) (H:Hp) (Q:VK) (_E:XK):Prop
 | mk (a fp m:_) (i:Nat) (pa Q4 airs wv w fired:_) (_:vs=[.ref a,ap i,.ref pa,wv,.bl fired]) (_:aL K C H a fp m) (_:i<m.rows.length) (_:aT K H pa Q4) (_:bT K H (airs.map dR) Q4) (_:airs.length=m.rows.length) (_:(∀ f∈airs,dU 120 f)) (_:Dn K H (dR w) wv) (_:dU 120 w) (_:(fired=true->∃ z,m.aD[i]?=some (some z))) (_:∀ q H',aA H H'->H' q=some (.tup [.int (j8 m i airs w fired).1,.int (j8 m i airs w fired).2])->Q (.ref q) H')
theorem GP {m:ao} (w:m.Wf) (h4:m.rows.length<=4) (i j:Nat):dU 605 (m.share i j):=by
 unfold ao.share
 split
 . exact (w.gi i _).mono (by lia)
 . exact (w.fD i j).mono (by decide)
theorem pX {m:ao} {i:Nat} {airs:List bW} {w:bW} {fired:Bool} (wf:m.Wf) (h4:m.rows.length<=4) (la:airs.length=m.rows.length) (ha:∀ f∈airs,dU 120 f) (hw:dU 120 w) (hz:fired=true->∃ z,m.aD[i]?=some (some z)) :
   (∀ d∈gv m i airs w fired,Ba 900 900 d)/\(gv m i airs w fired).length<=10/\Bd 4000 (fw (gv m i airs w fired)).2:=by
 have r1:∀ d∈dB m i airs,Ba 605 120 d:=λ d hd=>by
   obtain ⟨j,hj,rfl⟩:=List.mem_map.mp hd
   have hj:=List.mem_range.mp hj
   refine ⟨GP wf h4 i j,?_⟩
   show dU 120 (airs.getD j (0,1))
   rw [OQ,aq hj]
   exact ha _ (ab8 hj)
 have lr:(dB m i airs).length<=4:=by unfold dB;rw [AM,adw];lia
 have s1:Ba 100 120 (m.eT i,w):=⟨wf.eT i,hw⟩
 have h0:Bd 1 (fw []).2:=by show Int.natAbs 1<2 ^ 1;decide
 have b1:Bd (1+725 * (dB m i airs).length) (fw (dB m i airs)).2:=qD (n:=725) (dB m i airs) [] (λ d hd=>(r1 d hd).a.b.mul (r1 d hd).b.b) h0
 have b2:Bd (2901+220 * 1) (fw (dB m i airs++[(m.eT i,w)])).2:=qD (n:=220) [(m.eT i,w)] (dB m i airs) (λ d hd=>by rw [List.mem_singleton.mp hd];exact s1.a.b.mul s1.b.b) (b1.mono (by lia))
 unfold gv
 cases fired with
 | false =>
   rw [acO abZ,alw]
   refine ⟨λ d hd=>?_,by rw [abi];simp only [afc,anT];lia,b2.mono (by decide)⟩
   rcases List.mem_append.mp hd with h|h
   . exact ⟨(r1 d h).a.mono (by decide),(r1 d h).b.mono (by decide)⟩
   . rw [List.mem_singleton.mp h];exact ⟨s1.a.mono (by decide),s1.b.mono (by decide)⟩
 | true =>
   obtain ⟨z,ez⟩:=hz rfl
   rw [acS rfl,ez]
   have oz:dU 100 z.1:=wf.aD z (ad5 ez)
   have s2:Ba 2 100 (((1,1),z.1):Pr):=⟨⟨by show Int.natAbs 1<2 ^ 2;decide,by show Int.natAbs 1<2 ^ 2;decide,by show (0:Int)<1;decide⟩,oz⟩
   have b3:Bd (3121+102 * 1) (fw ((dB m i airs++[(m.eT i,w)])++[((1,1),z.1)])).2:=qD (n:=102) [((1,1),z.1)] _ (λ d hd=>by rw [List.mem_singleton.mp hd];exact s2.a.b.mul s2.b.b) b2
   refine ⟨λ d hd=>?_,by rw [abi,abi];simp only [afc,anT];lia,b3.mono (by decide)⟩
   rcases List.mem_append.mp hd with h|h
   . rcases List.mem_append.mp h with h|h
     . exact ⟨(r1 d h).a.mono (by decide),(r1 d h).b.mono (by decide)⟩
     . rw [List.mem_singleton.mp h];exact ⟨s1.a.mono (by decide),s1.b.mono (by decide)⟩
   . rw [List.mem_singleton.mp h];exact ⟨s2.a.mono (by decide),s2.b.mono (by decide)⟩
def MV (W C:Int) (s:Int×Int):Prop:=s.1 * W=C * s.2
theorem MV.next {W C c:Int} {ds:List Pr} {d:Pr} (h:MV W C (fw ds)) (hd:d.1.1 * d.2.1 * W=c * (d.1.2 * d.2.2)):MV W (C+c) (fw (ds++[d])):=by
 unfold MV at *
 rw [mV]
 generalize fw ds=s at h
 generalize d.1.2 * d.2.2=B at hd
 generalize d.1.1 * d.2.1=A at hd
 show (s.1 * B+A * s.2) * W=(C+c) * (s.2 * B)
 grind
def bF (f:Nat->Int):Nat->Int
 | 0=>0
 | t+1=>bF f t+f t
theorem rG {f g:Nat->Int}:∀ n,(∀ j,j<n->f j=g j)->bF f n=bF g n
 | 0,_=>rfl
 | n+1,h=>by
   show bF f n+f n=bF g n+g n
   rw [rG n λ j hj=>h j (by lia),h n (by lia)]
theorem zo {f:Nat->Int} {a b:Int} {k:Nat->Int}:∀ n,bF (λ j=>k j * (f j * a+b)) n=bF (λ j=>k j * f j) n * a+bF k n * b
 | 0=>by show (0:Int)=0 * a+0 * b;lia
 | n+1=>by
   show bF (λ j=>k j * (f j * a+b)) n+k n * (f n * a+b)=(bF (λ j=>k j * f j) n+k n * f n) * a+(bF k n+k n) * b
   rw [zo n]
   grind
theorem xK {fl x:Nat->Int} {i:Nat}:∀ n,bF (λ j=>(if j=i then R else fl j) * x j) n=bF (λ j=>if j=i then 0 else fl j * x j) n+(if i<n then R * x i else 0)
 | 0=>by rw [acO (by lia)];rfl
 | n+1=>by
   show bF (λ j=>(if j=i then R else fl j) * x j) n+(if n=i then R else fl n) * x n=bF (λ j=>if j=i then 0 else fl j * x j) n+(if n=i then 0 else fl n * x n)+(if i<n+1 then R * x i else 0)
   rw [xK n]
   by_cases e:n=i
   . subst e
     rw [acS rfl,acS rfl,acO (by lia),acS (by lia)]
     skip
   . rw [acO e,acO e]
     by_cases l:i<n
     . rw [acS l,acS (by lia)];lia
     . rw [acO l,acO (by lia)];lia
theorem At {fl:Nat->Int} {i:Nat} (h0:fl i=0):∀ n,bF (λ j=>if j=i then R else fl j) n=bF fl n+(if i<n then R else 0)
 | 0=>by rw [acO (by lia)];rfl
 | n+1=>by
   show bF (λ j=>if j=i then R else fl j) n+(if n=i then R else fl n)=bF fl n+fl n+_
   rw [At h0 n]
   by_cases e:n=i
   . subst e
     rw [acS rfl,acO (by lia),acS (by lia),h0]
   . rw [acO e]
     by_cases l:i<n
     . rw [acS l,acS (by lia)];lia
     . rw [acO l,acO (by lia)];lia
def ar.gY (tm:ar) (i:Nat):Int:=((tm.dA[i]?).map (·.1)).getD 0
def ar.ek (tm:ar) (i j:Nat):Int:=if i=j then 0 else (tm.bi i j).getD 0
theorem Kn {n:Nat} (ok:tm.Ok n n) (i:Nat) (hi:i<n):Ov 12 (tm.gY i) ((tm.m2 n n).eT i)/\(∀ j,j<n->j≠i->Ov 12 (tm.ek i j) ((tm.m2 n n).fD i j))/\Ov 12 (12 - tm.gY i - bF (tm.ek i) n) ((tm.m2 n n).own i):=by
 obtain ⟨g1,g2,g3,g4,g5,g6,g7⟩:=gG ok n (aat n)
 have xP:i<tm.dA.length:=by rw [ok.ls];exact hi
 have e1:(tm.m2 n n).eT i=nf tm.dA[i].1 12:=by unfold ao.eT;rw [g1 i hi,aq xP];rfl
 have e2:tm.gY i=tm.dA[i].1:=by unfold ar.gY;rw [aq xP];rfl
 have hs:Ov 12 (tm.gY i) ((tm.m2 n n).eT i):=by rw [e1,e2];exact Ov.nf (by decide)
 have hf:∀ j,j<n->j≠i->Ov 12 (tm.ek i j) ((tm.m2 n n).fD i j):=λ j hj ZF=>by
   obtain ⟨kk,hk,_⟩:=ok.bi i j hi hj (anq ZF)
   unfold ao.fD ar.ek
   rw [g6 i j hi hj (anq ZF),hk,acO (anq ZF)]
   exact Ov.nf (by decide)
 have hii:Ov 12 (tm.ek i i) ((tm.m2 n n).fD i i):=by
   unfold ao.fD ar.ek
   rw [g7 i,acS rfl]
   exact qF
 have hl:(tm.m2 n n).rows.length=n:=by rw [(cH tm n n).1,AM,ad4,ok.lm];lia
 have key:∀ t,t<=n->Ov 12 (12 - tm.gY i - bF (tm.ek i) t) ((tm.m2 n n).gi i t):=by
   intro t
   induction t with
   | zero =>
     intro _
     have:=(GA (W:=12)).minus hs
     have e:12 - tm.gY i - bF (tm.ek i) 0=12 - tm.gY i:=by show 12 - tm.gY i - 0=_;lia
     rw [e]
     exact this
   | succ t ih =>
     intro ht
     rw [ao.kC]
     have hft:Ov 12 (tm.ek i t) ((tm.m2 n n).fD i t):=by
       by_cases e:t=i
       . subst e;exact hii
       . exact hf t (by lia) e
     have:=(ih (by lia)).minus hft
     have e:12 - tm.gY i - bF (tm.ek i) (t+1)=12 - tm.gY i - bF (tm.ek i) t - tm.ek i t:=by show 12 - tm.gY i - (bF (tm.ek i) t+tm.ek i t)=_;lia
     rw [e]
     exact this
 refine ⟨hs,hf,?_⟩
 unfold ao.own
 rw [hl]
 exact key n (aat _)
theorem Lz {k W T:Int} {f g:bW} (hf:Ov 12 k f) (hg:g.1 * B=T * g.2) (e:W=12 * B):f.1 * g.1 * W=(k * T) * (f.2 * g.2):=by
 have:=hf.1
 subst e
 grind
theorem CZ {n i:Nat} {parts:Int} {x:Nat->Int} {h:Int} {airs:List bW} {fired:Bool} (wf:(tm.m2 n n).Wf) (ok:tm.Ok n n) (n4:n<=4) (hi:i<n) (hp:0<parts) (la:airs.length=n) (ha:∀ j,j<n->airs.getD j (0,1)=aQ (x j) parts tm.scale) (oa:∀ f∈airs,dU 120 f) (ow:dU 120 (aQ xw parts tm.scale)) (hz:fired=true->∃ z,tm.aD[i]?=some (some z)/\z.1=h) :
   j8 (tm.m2 n n) i airs (aQ xw parts tm.scale) fired=aQ (bF (λ j=>(if j=i then 12 - tm.gY i - bF (tm.ek i) n else tm.ek i j) * x j) n+tm.gY i * xw+(if fired then 12 * parts * h else 0)) (12 * parts) tm.scale:=by
 obtain ⟨hs,hf,NS⟩:=Kn ok i hi
 have hl:(tm.m2 n n).rows.length=n:=by rw [(cH tm n n).1,AM,ad4,ok.lm];lia
 obtain ⟨g1,g2,g3,g4,g5,g6,g7⟩:=gG ok n (aat n)
 have hB:=eB ok.scale hp
 have hW:bU (12 * parts) tm.scale=12 * bU parts tm.scale:=by unfold bU;grind
 have hsh:∀ j,j<n->Ov 12 (if j=i then 12 - tm.gY i - bF (tm.ek i) n else tm.ek i j) ((tm.m2 n n).share i j):=λ j hj=>by
   unfold ao.share
   by_cases e:i=j
   . subst e;rw [acS rfl,acS rfl];exact NS
   . rw [acO e,acO (anq e)];exact hf j hj (anq e)
 have cr:∀ z,(aQ z parts tm.scale).1 * bU parts tm.scale=cp z parts tm.scale * (aQ z parts tm.scale).2:=λ z=>(ie (t:=cp z parts tm.scale) hB).jB
 have rooms:∀ t,t<=n->MV (bU (12 * parts) tm.scale) (bF (λ j=>(if j=i then 12 - tm.gY i - bF (tm.ek i) n else tm.ek i j) * cp (x j) parts tm.scale) t) (fw ((List.range t).map λ j=>(((tm.m2 n n).share i j,airs.getD j (0,1)):Pr))):=by
   intro t
   induction t with
   | zero=>intro _;show (0:Int) * _=0 * 1;lia
   | succ t ih =>
     intro ht
     rw [agN,YT]
     refine (ih (by lia)).next ?_
     show ((tm.m2 n n).share i t).1 * (airs.getD t (0,1)).1 * _=_ * (((tm.m2 n n).share i t).2 * (airs.getD t (0,1)).2)
     rw [ha t (by lia)]
     exact Lz (hsh t (by lia)) (cr _) hW
 have r1:=rooms n (aat _)
 have er:dB (tm.m2 n n) i airs=(List.range n).map λ j=>(((tm.m2 n n).share i j,airs.getD j (0,1)):Pr):=by unfold dB;rw [la]
 rw [← er] at r1
 have r2:MV (bU (12 * parts) tm.scale) _ (fw (dB (tm.m2 n n) i airs++[((tm.m2 n n).eT i,aQ xw parts tm.scale)])):=r1.next (Lz hs (cr xw) hW)
 have Sa:bF (λ j=>(if j=i then 12 - tm.gY i - bF (tm.ek i) n else tm.ek i j) * cp (x j) parts tm.scale) n+tm.gY i * cp xw parts tm.scale
     = (bF (λ j=>(if j=i then 12 - tm.gY i - bF (tm.ek i) n else tm.ek i j) * x j) n+tm.gY i * xw) * (tm.scale.a * tm.scale.d)+12 * (parts * tm.scale.t * tm.scale.b):=by
   have e1:bF (λ j=>(if j=i then 12 - tm.gY i - bF (tm.ek i) n else tm.ek i j) * cp (x j) parts tm.scale) n=bF (λ j=>(if j=i then 12 - tm.gY i - bF (tm.ek i) n else tm.ek i j) * (x j * (tm.scale.a * tm.scale.d)+parts * tm.scale.t * tm.scale.b)) n:=rG n λ j _=>by unfold cp;rw [akl (x j)]
   have z0:tm.ek i i=0:=by unfold ar.ek;rw [acS rfl]
   rw [e1,zo,At z0,acS hi]
   unfold cp
   grind
 have hzi:fired=true->∃ z,(tm.m2 n n).aD[i]?=some (some z):=λ q=>by
   obtain ⟨z,ez,_⟩:=hz q
   exact ⟨tm.iz z,by rw [g3 i hi,ez];rfl⟩
 have Zr:=(pX (i:=i) (fired:=fired) (w:=aQ xw parts tm.scale) (airs:=airs) (m:=tm.m2 n n) wf (by lia) (by lia) oa ow hzi).1
 have Ou:=CL Zr
 have hWp:0<bU (12 * parts) tm.scale:=by rw [hW];lia
 have fin:MV (bU (12 * parts) tm.scale) (cp (bF (λ j=>(if j=i then 12 - tm.gY i - bF (tm.ek i) n else tm.ek i j) * x j) n+tm.gY i * xw+(if fired then 12 * parts * h else 0)) (12 * parts) tm.scale) (fw (gv (tm.m2 n n) i airs (aQ xw parts tm.scale) fired)):=by
   unfold gv
   cases fired with
   | false =>
     simp only [anU,an2,alw,anQ]
     rw [Sa] at r2
     have e2:cp (bF (λ j=>(if j=i then 12 - tm.gY i - bF (tm.ek i) n else tm.ek i j) * x j) n+tm.gY i * xw) (12 * parts) tm.scale=(bF (λ j=>(if j=i then 12 - tm.gY i - bF (tm.ek i) n else tm.ek i j) * x j) n+tm.gY i * xw) * (tm.scale.a * tm.scale.d)+12 * (parts * tm.scale.t * tm.scale.b):=by
       unfold cp;grind
     rw [e2]
     exact r2
   | true =>
     obtain ⟨z,ez,eh⟩:=hz rfl
     have GS:(tm.m2 n n).aD[i]?=some (some (tm.iz z)):=by rw [g3 i hi,ez];rfl
     simp only [anS]
     rw [GS]
     have hb:0<tm.scale.b:=by have:=ok.scale.b0;lia
     have cz:(nf (z.1 * tm.scale.a) tm.scale.b).1 * tm.scale.b=z.1 * tm.scale.a * (nf (z.1 * tm.scale.a) tm.scale.b).2:=(ie (t:=z.1 * tm.scale.a) hb).jB
     have r3:=r2.next (d:=((1,1),nf (z.1 * tm.scale.a) tm.scale.b)) (c:=12 * parts * h * (tm.scale.a * tm.scale.d)) (by
       show 1 * (nf (z.1 * tm.scale.a) tm.scale.b).1 * bU (12 * parts) tm.scale=_ * (1 * (nf (z.1 * tm.scale.a) tm.scale.b).2)
       generalize nf (z.1 * tm.scale.a) tm.scale.b=g at cz
       unfold bU
       rw [← eh]
       grind)
     rw [Sa] at r3
     have e2:cp (bF (λ j=>(if j=i then 12 - tm.gY i - bF (tm.ek i) n else tm.ek i j) * x j) n+tm.gY i * xw+12 * parts * h) (12 * parts) tm.scale=(bF (λ j=>(if j=i then 12 - tm.gY i - bF (tm.ek i) n else tm.ek i j) * x j) n+tm.gY i * xw) * (tm.scale.a * tm.scale.d)+12 * (parts * tm.scale.t * tm.scale.b)+12 * parts * h * (tm.scale.a * tm.scale.d):=by
       unfold cp;grind
     rw [e2]
     exact r3
 unfold j8
 rw [aQ]
 exact W1 Ou hWp fin
section
variable {X:Cx}
def aih (K:W.Frag) (ta:TA):TI:=λ U H R=>ta U H λ vs H1=>∃ a,vs=[.ref a]/\(((∃ xs,aT K H1 a xs)/\R (Jp (aT K) a) H1)∨((∃ xs,bP K H1 a xs)/\R (Jp (bP K) a) H1))
theorem GQ {a:Expr} {ta:TA} {p pos pF:Pos} {elts:List Expr} {x1:Nat} (hg:Gl X "enumerate") (hm:X.mg "enumerate" = none) (ha:PA X [a] ta) (hs:starEach [a] X.env=[(false,eval a X.env)]:=by rfl) :
   PI X (.Tuple elts x1 pF) (.Call (.Name "enumerate" p) [a] [] pos) (aih X.K ta):=by
 intro pins s U H R I h
 refine Call_ ?_
 refine lK I hg hm j9 ?_ MZ Nv
 refine akT ?_ hs rfl
 refine cG (ha pos pins s U H _ I h) λ us s1 ⟨vs,H1,I1,r1,q1⟩=>?_
 obtain ⟨a,e,q⟩:=q1
 subst e
 cases r1 with
 | cons r rr =>
   cases rr
   obtain rfl:_=Value.ref a:=r
   have fr:∀ c∈[s1.heap.objs.size+1,s1.heap.objs.size],s1.heap.objs.size<=c:=λ c hc=>by
     simp only [acs,aaI,agT] at hc
     rcases hc with rfl|rfl
     . exact anC _
     . exact aat _
   rcases q with ⟨⟨xs,hq⟩,q⟩|⟨⟨xs,hq⟩,q⟩
   . obtain ⟨br,rv,p1,Md⟩:=I1.list hq
     have la:a<s1.heap.objs.size:=by obtain ⟨_,e,_⟩:=p1.isList;exact ado e
     refine call_enumerate_list p1.isList λ h' z1 z2 z3 kk=>anL z1 ?_
     exact ⟨s1.heap.objs.size+1,[s1.heap.objs.size+1,s1.heap.objs.size],_,_,H1,rfl,I1.kept (t':=s1.toks) kk,xQ (aon _) (ae6 (aog la)) (ae6 la),⟨⟨_,z1⟩,z2⟩,λ c hc=>I1.yo (fr c hc) (I1.cg.fresh (fr c hc)),q⟩
   . obtain ⟨br,rv,p1,Md⟩:=I1.tuple hq
     have la:a<s1.heap.objs.size:=p1.lt
     refine sD p1 λ h' z1 z2 kk=>anL z1 ?_
     exact ⟨s1.heap.objs.size+1,[s1.heap.objs.size+1,s1.heap.objs.size],_,_,H1,rfl,I1.kept (t':=s1.toks) kk,zI (aon _) (ae6 (aog la)) (ae6 la),⟨⟨_,z1⟩,z2⟩,λ c hc=>I1.yo (fr c hc) (I1.cg.fresh (fr c hc)),q⟩
end
def gj (m:ao) (bs:List Nat) (d:Nat):List bW:=(List.range bs.length).map λ j=>(m.rows.getD j []).getD (bs.getD j 0+d) (0,1)
def lG (m:ao) (i:Nat):bW×bW×bW:=(m.bf[i]?).getD ((0,1),(0,1),(0,1))
def fA (m:ao) (i:Nat) (bs:List Nat) (fired:Bool):bW:=j8 m i (gj m bs 0) (lG m i).2.1 fired
def fB (m:ao) (i:Nat) (bs:List Nat) (fired:Bool):bW:=j8 m i (gj m bs 1) (lG m i).2.2 fired
inductive Jf (K:W.Frag) (C:Addr) (vs:List V) (H:Hp) (Q:VK) (_E:XK):Prop
 | mk (a fp m:_) (i:Nat) (pb bs fired:_) (_:vs=[.ref a,ap i,.ref pb,.bl fired]) (_:aL K C H a fp m) (_:i<m.rows.length) (_:(aT K H pb (bs.map ap)∨bP K H pb (bs.map ap))) (_:bs.length=m.rows.length) (_:(∀ j,j<m.rows.length->bs.getD j 0+1<(m.rows.getD j []).length)) (_:(fired=true->∃ z,m.aD[i]?=some (some z))) (_:∀ q q1 q2 H',aA H H'->H' q=some (.tup [.ref q1,.ref q2])->H' q1=some (.tup [.int (fA m i bs fired).1,.int (fA m i bs fired).2])->H' q2=some (.tup [.int (fB m i bs fired).1,.int (fB m i bs fired).2])->Q (.ref q) H')
theorem nJ {m:ao} {bs:List Nat} (wf:m.Wf) (lb:bs.length=m.rows.length) (hb:∀ j,j<m.rows.length->bs.getD j 0+1<(m.rows.getD j []).length) {d:Nat} (hd:d<=1):∀ f∈gj m bs d,dU 120 f:=λ f hf=>by
 obtain ⟨j,hj,rfl⟩:=List.mem_map.mp hf
 have hj:=List.mem_range.mp hj
 have q:=hb j (by lia)
 have hr:j<m.rows.length:=by lia
 rw [OQ (l:=m.rows),aq hr] at q ⊢
 have q:bs.getD j 0+1<m.rows[j].length:=q
 show dU 120 (m.rows[j].getD (bs.getD j 0+d) (0,1))
 rw [OQ,aq (by lia)]
 exact (wf.rows m.rows[j] (ab8 hr) _ (ab8 _)).mono (by decide)
def ar.kT (tm:ar) (n i j:Nat):Int:=if j=i then 12 - tm.gY i - bF (tm.ek i) n else tm.ek i j
theorem Ak {n i:Nat} (ok:tm.Ok n n) (hi:i<n):0<=tm.gY i/\tm.gY i<=3:=by
 have xP:i<tm.dA.length:=by rw [ok.ls];exact hi
 unfold ar.gY
 rw [aq xP]
 exact (ok.dA tm.dA[i] (ab8 xP)).1
theorem BD {n i j:Nat} (ok:tm.Ok n n) (hi:i<n) (hj:j<n):0<=tm.ek i j/\tm.ek i j<=3:=by
 unfold ar.ek
 by_cases e:i=j
 . rw [acS e];lia
 . obtain ⟨k,hk,h0,h3⟩:=ok.bi i j hi hj e
   rw [acO e,hk]
   exact ⟨h0,h3⟩
theorem Gs {n i:Nat} (ok:tm.Ok n n) (hi:i<n):∀ t,t<=n->0<=bF (tm.ek i) t/\bF (tm.ek i) t<=3 * t
 | 0,_=>by show (0:Int)<=0/\(0:Int)<=_;lia
 | t+1,ht=>by
   have a:=Gs ok hi t (by lia)
   have b:=BD (j:=t) ok hi (by lia)
   show 0<=bF (tm.ek i) t+tm.ek i t/\bF (tm.ek i) t+tm.ek i t<=_
   lia
theorem EK {n i:Nat} (ok:tm.Ok n n) (n4:n<=4) (hi:i<n):bF (tm.ek i) n<=9:=by
 have h:∀ j,j<n->0<=tm.ek i j/\tm.ek i j<=3:=λ j hj=>BD ok hi hj
 have h0:tm.ek i i=0:=by unfold ar.ek;rw [acS rfl]
 have s:∀ t,t<=n->bF (tm.ek i) t+(if i<t then 3 else 0)<=3 * t:=by
   intro t
   induction t with
   | zero=>intro _;show (0:Int)+(if i<0 then 3 else 0)<=_;rw [acO (by lia)];lia
   | succ t ih =>
     intro ht
     have a:=ih (by lia)
     have b:=h t (by lia)
     show bF (tm.ek i) t+tm.ek i t+(if i<t+1 then 3 else 0)<=_
     by_cases e:t=i
     . subst e
       rw [acO (by lia)] at a
       rw [acS (by lia),h0]
       lia
     . by_cases l:i<t
       . rw [acS l] at a;rw [acS (by lia)];lia
       . rw [acO l] at a;rw [acO (by lia)];lia
 have:=s n (aat _)
 rw [acS hi] at this
 lia
theorem DA {n i j:Nat} (ok:tm.Ok n n) (n4:n<=4) (hi:i<n) (hj:j<n):0<=tm.kT n i j:=by
 unfold ar.kT
 have a:=Ak ok hi
 have b:=EK ok n4 hi
 have c:=BD (j:=j) ok hi hj
 split<;>lia
def ar.X (tm:ar) (n i:Nat) (x:Nat->Int) (xw:Int):Int:=bF (λ j=>tm.kT n i j * x j) n+tm.gY i * xw
theorem uX {k x y:Nat->Int}:∀ n,(∀ j,j<n->0<=k j/\x j<=y j)->bF (λ j=>k j * x j) n<=bF (λ j=>k j * y j) n
 | 0,_=>anp _
 | n+1,h=>by
   have a:=uX n λ j hj=>h j (by lia)
   have b:=h n (by lia)
   have c:=anz b.2 b.1
   show bF (λ j=>k j * x j) n+k n * x n<=bF (λ j=>k j * y j) n+k n * y n
   lia
theorem rN {n i:Nat} {x y:Nat->Int} {yw:Int} (ok:tm.Ok n n) (n4:n<=4) (hi:i<n) (h:∀ j,j<n->x j<=y j) (hw:xw<=yw):tm.X n i x xw<=tm.X n i y yw:=by
 have a:=uX (k:=tm.kT n i) (x:=x) (y:=y) n λ j hj=>⟨DA ok n4 hi hj,h j hj⟩
 have b:=anz hw (Ak ok hi).1
 unfold ar.X
 lia
def ar.qY (tm:ar) (j b:Nat):Int:=(tm.marks.getD j []).getD b 0
def ar.xl (tm:ar) (bs:List Nat) (d j:Nat):Int:=tm.qY j (bs.getD j 0+d)
def ar.iO (tm:ar) (i:Nat):Int×Int×Int:=(tm.dA[i]?).getD (0,0,0)
def ar.rS (tm:ar) (i:Nat):Int:=(((tm.aD[i]?).getD none).map (·.1)).getD 0
def ar.sX (tm:ar) (n i:Nat) (bs:List Nat) (d:Nat) (xw:Int) (fired:Bool):Int:=tm.X n i (tm.xl bs d) xw+(if fired then 12 * tm.rS i else 0)
structure vE (tm:ar) (n:Nat) (bs:List Nat):Prop where
 len:bs.length=n
 lt:∀ j,j<n->bs.getD j 0+1<(tm.marks.getD j []).length
theorem gn {n j b:Nat} (ok:tm.Ok n n) (hj:j<n) (hb:b<(tm.marks.getD j []).length):∃ h:j<tm.marks.length,∃ h2:b<tm.marks[j].length,tm.qY j b=tm.marks[j][b]/\-200<=tm.qY j b/\tm.qY j b<=200:=by
 have h:j<tm.marks.length:=by rw [ok.lm];exact hj
 have e:tm.marks.getD j []=tm.marks[j]:=by rw [OQ,aq h];rfl
 rw [e] at hb
 have e2:tm.qY j b=tm.marks[j][b]:=by unfold ar.qY;rw [e,OQ,aq hb];rfl
 refine ⟨h,hb,e2,?_⟩
 rw [e2]
 exact (ok.rows tm.marks[j] (ab8 h)).bd _ (ab8 hb)
theorem uR {n i d:Nat} {bs:List Nat} {fired:Bool} (wf:(tm.m2 n n).Wf) (ok:tm.Ok n n) (n4:n<=4) (hi:i<n) (hb:vE tm n bs) (hd:d<=1) (hxw : -200<=xw/\xw<=200) (hz:fired=true->∃ z,tm.aD[i]?=some (some z)) :
   j8 (tm.m2 n n) i (gj (tm.m2 n n) bs d) (aQ xw 1 tm.scale) fired=aQ (tm.sX n i bs d xw fired) 12 tm.scale:=by
 have hl:(tm.m2 n n).rows.length=n:=by rw [(cH tm n n).1,AM,ad4,ok.lm];lia
 have row:∀ j,j<n->(tm.m2 n n).rows.getD j []=tm.row (tm.marks.getD j []):=λ j hj=>by
   have tP:j<tm.marks.length:=by rw [ok.lm];exact hj
   rw [(cH tm n n).1,OQ,T1,anN hj,OQ,aq tP];rfl
 have aaz:∀ j,j<n->bs.getD j 0+1<((tm.m2 n n).rows.getD j []).length:=λ j hj=>by
   rw [row j hj];unfold ar.row;rw [AM];exact hb.lt j hj
 have ea:∀ j,j<n->(gj (tm.m2 n n) bs d).getD j (0,1)=aQ (tm.xl bs d j) 1 tm.scale:=λ j hj=>by
   have mH:=hb.lt j hj
   unfold gj
   rw [OQ,T1,anw (by rw [hb.len];exact hj)]
   show ((tm.m2 n n).rows.getD j []).getD (bs.getD j 0+d) (0,1)=_
   rw [row j hj]
   unfold ar.row ar.xl ar.qY
   generalize tm.marks.getD j []=l at mH
   have h2:bs.getD j 0+d<l.length:=by lia
   generalize bs.getD j 0+d=b at h2
   rw [OQ,OQ,T1,aq h2];rfl
 have oa:=nJ (m:=tm.m2 n n) (bs:=bs) wf (by rw [hb.len,hl]) (λ j hj=>aaz j (by lia)) hd
 have ow:dU 120 (aQ xw 1 tm.scale):=(qW (n:=8) ok.scale (by decide) (show xw.natAbs<2 ^ 8 by lia) oR).mono (by decide)
 have qX:i<tm.aD.length:=by rw [ok.lt];exact hi
 have:=CZ (h:=tm.rS i) (x:=tm.xl bs d) wf ok n4 hi (by decide:(0:Int)<1) (by unfold gj;rw [AM,adw,hb.len]) ea oa ow (λ q=>by
   obtain ⟨z,ez⟩:=hz q
   refine ⟨z,ez,?_⟩
   unfold ar.rS
   rw [ez];rfl)
 rw [this]
 have e12:(12:Int) * 1=12:=rfl
 rw [e12]
 rfl
theorem GB {k:Nat->Int} {c:Int}:∀ n,bF (λ j=>k j * c) n=bF k n * c
 | 0=>by show (0:Int)=0 * c;lia
 | n+1=>by
   show bF (λ j=>k j * c) n+k n * c=(bF k n+k n) * c
   rw [GB n];grind
theorem JH {n i:Nat} {c:Int} (hi:i<n):tm.X n i (λ _=>c) c=12 * c:=by
 unfold ar.X
 have z0:tm.ek i i=0:=by unfold ar.ek;rw [acS rfl]
 have e:bF (λ j=>tm.kT n i j * c) n=bF (tm.kT n i) n * c:=GB n
 have e2:bF (tm.kT n i) n=bF (tm.ek i) n+(12 - tm.gY i - bF (tm.ek i) n):=by
   have:=At (fl:=tm.ek i) (R:=12 - tm.gY i - bF (tm.ek i) n) (i:=i) z0 n
   rw [acS hi] at this
   exact this
 rw [e,e2]
 grind
theorem Z0 {n i:Nat} {x:Nat->Int} {c:Int} (ok:tm.Ok n n) (n4:n<=4) (hi:i<n) (h:∀ j,j<n->-c<=x j/\x j<=c) (hw : -c<=xw/\xw<=c) : -(12 * c)<=tm.X n i x xw/\tm.X n i x xw<=12 * c:=by
 have a:=rN (x:=λ _ => -c) (y:=x) (xw:=-c) ok n4 hi (λ j hj=>(h j hj).1) hw.1
 have b:=rN (x:=x) (y:=λ _=>c) (yw:=c) ok n4 hi (λ j hj=>(h j hj).2) hw.2
 rw [JH hi] at a b
 lia
theorem Iq {n i:Nat} (ok:tm.Ok n n) (hi:i<n):0<=tm.rS i/\tm.rS i<=25:=by
 have qX:i<tm.aD.length:=by rw [ok.lt];exact hi
 unfold ar.rS
 rw [aq qX]
 cases e:tm.aD[i] with
 | none=>show (0:Int)<=0/\(0:Int)<=25;lia
 | some z=>exact (ok.aD z (by rw [← e];exact ab8 qX)).h
theorem Pe {n d j:Nat} {bs:List Nat} (ok:tm.Ok n n) (hb:vE tm n bs) (hd:d<=1) (hj:j<n) : -200<=tm.xl bs d j/\tm.xl bs d j<=200:=by
 obtain ⟨_,_,_,a,b⟩:=gn (b:=bs.getD j 0+d) ok hj (by have:=hb.lt j hj;lia)
 exact ⟨a,b⟩
theorem Ly {n i d:Nat} {bs:List Nat} {fired:Bool} (ok:tm.Ok n n) (n4:n<=4) (hi:i<n) (hb:vE tm n bs) (hd:d<=1) (hw : -200<=xw/\xw<=200) : -3000<=tm.sX n i bs d xw fired/\tm.sX n i bs d xw fired<=3000:=by
 have a:=Z0 (x:=tm.xl bs d) (c:=200) ok n4 hi (λ j hj=>Pe ok hb hd hj) hw
 have b:=Iq ok hi
 unfold ar.sX
 split<;>lia
theorem dE {a1:TS} {U:L2.St} (h:let d:L2.Ends:=D;let z:L2.St:=U;let r2:TS:=a3;let r1:TS:=bv a2 r2;bv a1 r1 d z H):(bv a1 (bv a2 (a3))) D U H:=h
theorem c7 {a1:TS} {U:L2.St} (h:let d:L2.Ends:=D;let z:L2.St:=U;let r3:TS:=a4;let r2:TS:=bv a3 r3;let r1:TS:=bv a2 r2;bv a1 r1 d z H):(bv a1 (bv a2 (bv a3 (a4)))) D U H:=h
theorem tH {a1:TS} {U:L2.St} (h:let d:L2.Ends:=D;let z:L2.St:=U;let r4:TS:=a5;let r3:TS:=bv a4 r4;let r2:TS:=bv a3 r3;let r1:TS:=bv a2 r2;bv a1 r1 d z H):(bv a1 (bv a2 (bv a3 (bv a4 (a5))))) D U H:=h
theorem n8 {a1:TS} {U:L2.St} (h:let d:L2.Ends:=D;let z:L2.St:=U;let r5:TS:=a6;let r4:TS:=bv a5 r5;let r3:TS:=bv a4 r4;let r2:TS:=bv a3 r3;let r1:TS:=bv a2 r2;bv a1 r1 d z H):(bv a1 (bv a2 (bv a3 (bv a4 (bv a5 (a6)))))) D U H:=h
theorem Hz {a1:TS} {U:L2.St} (h:let d:L2.Ends:=D;let z:L2.St:=U;let r6:TS:=a7;let r5:TS:=bv a6 r6;let r4:TS:=bv a5 r5;let r3:TS:=bv a4 r4;let r2:TS:=bv a3 r3;let r1:TS:=bv a2 r2;bv a1 r1 d z H):(bv a1 (bv a2 (bv a3 (bv a4 (bv a5 (bv a6 (a7))))))) D U H:=h
theorem yU {a1:TS} {U:L2.St} (h:let d:L2.Ends:=D;let z:L2.St:=U;let r7:TS:=a8;let r6:TS:=bv a7 r7;let r5:TS:=bv a6 r6;let r4:TS:=bv a5 r5;let r3:TS:=bv a4 r4;let r2:TS:=bv a3 r3;let r1:TS:=bv a2 r2;bv a1 r1 d z H):(bv a1 (bv a2 (bv a3 (bv a4 (bv a5 (bv a6 (bv a7 (a8)))))))) D U H:=h
theorem yx {a1:TS} {U:L2.St} (h:let d:L2.Ends:=D;let z:L2.St:=U;let r8:TS:=a9;let r7:TS:=bv a8 r8;let r6:TS:=bv a7 r7;let r5:TS:=bv a6 r6;let r4:TS:=bv a5 r5;let r3:TS:=bv a4 r4;let r2:TS:=bv a3 r3;let r1:TS:=bv a2 r2;bv a1 r1 d z H):(bv a1 (bv a2 (bv a3 (bv a4 (bv a5 (bv a6 (bv a7 (bv a8 (a9))))))))) D U H:=h
theorem Dv {a1 a10:TS} {U:L2.St} (h:let d:L2.Ends:=D;let z:L2.St:=U;let r9:TS:=a10;let r8:TS:=bv a9 r9;let r7:TS:=bv a8 r8;let r6:TS:=bv a7 r7;let r5:TS:=bv a6 r6;let r4:TS:=bv a5 r5;let r3:TS:=bv a4 r4;let r2:TS:=bv a3 r3;let r1:TS:=bv a2 r2;bv a1 r1 d z H):(bv a1 (bv a2 (bv a3 (bv a4 (bv a5 (bv a6 (bv a7 (bv a8 (bv a9 (a10)))))))))) D U H:=h
theorem Hj {a1:TS} {g:TG} {x:V} {U:L2.St} (h:let d:L2.Ends:=D;let z:L2.St:=U;let r:TS:=a1;g x z H λ σ2 H2=>r d σ2 H2):g x U H λ σ2 H2=>a1 D σ2 H2:=h
theorem d7 {CX:EC} {P:Program} {w:World} {K:W.Frag} {mg:Str->Option Value} {base:Heap} {N:List Str} {qual:Str} {scope:Scope} {f:Addr} {cd:Value} {A:Around} {outer:List Env} {s:Shared} {E:XK}:(eW CX P w K mg base N qual scope f cd A outer s H E).K=K:=rfl
theorem aK {X:Cx} {f:Value->Shared->Prop}:(X.l9 f).K=X.K:=rfl
@[elab_as_elim] theorem Mg {α:Type} {motive:List α->Prop} {us:List α} (h:us.length=1) (k:∀ a,motive [a]):motive us :=
 c9 h λ a _ h=>ajc h ▸ k a
@[elab_as_elim] theorem LP {α:Type} {motive:List α->Prop} {us:List α} (h:us.length=2) (k:∀ a b,motive [a,b]):motive us :=
 c9 h λ a _ h=>c9 h λ b _ h=>ajc h ▸ k a b
@[elab_as_elim] theorem yu {α:Type} {motive:List α->Prop} {us:List α} (h:us.length=3) (k:∀ a b c,motive [a,b,c]):motive us :=
 c9 h λ a _ h=>c9 h λ b _ h=>c9 h λ c _ h=>ajc h ▸ k a b c
@[elab_as_elim] theorem LX {α:Type} {motive:List α->Prop} {us:List α} (h:us.length=4) (k:∀ a b c d,motive [a,b,c,d]):motive us :=
 c9 h λ a _ h=>c9 h λ b _ h=>c9 h λ c _ h=>c9 h λ d _ h=>ajc h ▸ k a b c d
@[elab_as_elim] theorem Hf {α:Type} {motive:List α->Prop} {us:List α} (h:us.length=5) (k:∀ a b c d e,motive [a,b,c,d,e]):motive us :=
 c9 h λ a _ h=>c9 h λ b _ h=>c9 h λ c _ h=>c9 h λ d _ h=>c9 h λ e _ h=>ajc h ▸ k a b c d e
@[elab_as_elim] theorem L6 {α:Type} {motive:List α->Prop} {us:List α} (h:us.length=6) (k:∀ a b c d e f,motive [a,b,c,d,e,f]):motive us :=
 c9 h λ a _ h=>c9 h λ b _ h=>c9 h λ c _ h=>c9 h λ d _ h=>c9 h λ e _ h=>c9 h λ f _ h=>ajc h ▸ k a b c d e f
@[elab_as_elim] theorem L0 {α:Type} {motive:List α->Prop} {us:List α} (h:us.length=7) (k:∀ a b c d e f g,motive [a,b,c,d,e,f,g]):motive us :=
 c9 h λ a _ h=>c9 h λ b _ h=>c9 h λ c _ h=>c9 h λ d _ h=>c9 h λ e _ h=>c9 h λ f _ h=>c9 h λ g _ h=>ajc h ▸ k a b c d e f g
theorem lc {sc:Scope} {x:Str} (h:(match sc.names.lookup x with|some .local=>true|some .cell=>true|_=>false)=true):Loc sc x:=by
 unfold Loc
 split at h
 . rename_i e;exact .inl e
 . rename_i e;exact .inr e
 . cases h
theorem cA.m {j k:Nat} {A:Around} (r:cA k A) (h:j<=k:=by decide):cA j A:=r.mono h
section
variable {P:Program} {w:World} {K:W.Frag} {mg:Str->Option Value} {base:Heap} {x qual:Str} {st:Stmt} {N ps:List Str} {k:Nat} {sp:Sp} {C:Addr}
theorem gC.cD (h:gC K mg x st) (S:aw N ps (ai st)) (d9:∀ (f:Addr) (bq:Value) (A:Around) (outer:List Env) (s:Shared) (H:Hp) (vs:List V) (Q:VK) (E:XK),cA k (A.deeper (envOfC x (ai st) s.heap.objs.size f bq))->sp vs H Q E ->
     ∃ t,qg (eW tO P w K mg base N x (ai st) f bq A outer s H E).D8 (bj st) t/\t { nx:=λ _ H'=>Q .b9 H',rt:=Q } (start N vs) H) (len:∀ vs H Q E,sp vs H Q E->vs.length=ps.length:=by intro _ _ _ _ h;first|(cases h;subst_vars;rfl)|(obtain ⟨_,rfl,_⟩:=h;rfl)|(obtain ⟨_,_,rfl,_⟩:=h;rfl)|(obtain ⟨_,_,_,rfl,_⟩:=h;rfl)|(obtain ⟨_,_,_,_,rfl,_⟩:=h;rfl)|(obtain ⟨_,_,_,_,_,rfl,_⟩:=h;rfl)) (hb:∀ (kV doc pm:Value) (an:Option Addr) (bq ct:Value) (us:List Value),us.length=ps.length->bindArgs (W.fnOf x x (bV st) (bj st) (ai st) .none kV doc pm an bq ct) ⟨us,[]⟩=pure (ps.zip us):=by intro _ _ _ _ _ _ us hl;first|exact Mg hl λ _=>rfl|exact LP hl λ _ _=>rfl|exact yu hl λ _ _ _=>rfl|exact LX hl λ _ _ _ _=>rfl|exact Hf hl λ _ _ _ _ _=>rfl|exact L6 hl λ _ _ _ _ _ _=>rfl|exact L0 hl λ _ _ _ _ _ _ _=>rfl):Def P w K mg base x (k+1) ps sp:=h.def S len hb d9
theorem fC.gA {m:Str} (h:fC K C m qual st .none) (S:aw N ps (ai st)) (d9:∀ (f:Addr) (bq:Value) (A:Around) (outer:List Env) (s:Shared) (H:Hp) (vs:List V) (Q:VK) (E:XK),cA k (A.deeper (envOfC qual (ai st) s.heap.objs.size f bq))->sp vs H Q E ->
     ∃ t,qg (eW tO P w K mg base N qual (ai st) f bq A outer s H E).D8 (bj st) t/\t { nx:=λ _ H'=>Q .b9 H',rt:=Q } (start N vs) H) (len:∀ vs H Q E,sp vs H Q E->vs.length=ps.length:=by intro _ _ _ _ h;first|(cases h;subst_vars;rfl)|(obtain ⟨_,rfl,_⟩:=h;rfl)|(obtain ⟨_,_,rfl,_⟩:=h;rfl)|(obtain ⟨_,_,_,rfl,_⟩:=h;rfl)|(obtain ⟨_,_,_,_,rfl,_⟩:=h;rfl)|(obtain ⟨_,_,_,_,_,rfl,_⟩:=h;rfl)) (hb:∀ (kV doc pm:Value) (an:Option Addr) (bq ct:Value) (us:List Value),us.length=ps.length->bindArgs (W.fnOf m qual (bV st) (bj st) (ai st) .none kV doc pm an bq ct) ⟨us,[]⟩=pure (ps.zip us):=by intro _ _ _ _ _ _ us hl;first|exact Mg hl λ _=>rfl|exact LP hl λ _ _=>rfl|exact yu hl λ _ _ _=>rfl|exact LX hl λ _ _ _ _=>rfl|exact Hf hl λ _ _ _ _ _=>rfl|exact L6 hl λ _ _ _ _ _ _=>rfl|exact L0 hl λ _ _ _ _ _ _ _=>rfl):hV P w K mg base C m (k+1) ps [] sp:=h.JY S len hb d9
end
inductive A3 (a b c:Prop):Prop|mk (_:a) (_:b) (_:c)
inductive A4 (a b c d:Prop):Prop|mk (_:a) (_:b) (_:c) (_:d)
inductive A5 (a b c d e:Prop):Prop|mk (_:a) (_:b) (_:c) (_:d) (_:e)
inductive A6 (a b c d e f:Prop):Prop|mk (_:a) (_:b) (_:c) (_:d) (_:e) (_:f)
inductive E2 {a b:Type} (p:a->b->Prop):Prop|mk (x:a) (y:b) (_:p x y)
inductive E3 {a b c:Type} (p:a->b->c->Prop):Prop|mk (x:a) (y:b) (z:c) (_:p x y z)
inductive E4 {a b c d:Type} (p:a->b->c->d->Prop):Prop|mk (x:a) (y:b) (z:c) (u:d) (_:p x y z u)
inductive E5 {a b c d e:Type} (p:a->b->c->d->e->Prop):Prop|mk (x:a) (y:b) (z:c) (u:d) (v:e) (_:p x y z u v)
abbrev OS (h q:Addr) (g:Int):List (Str×V):=[("hold",.ref h),("place",.ref q),("gone",.int g),("ended",.bl false)]
def w6 (K:W.Frag) (C CW:Addr) (H:Hp) (x:Addr) (fp:List Addr) (m:ao) (s:d6) (g:Int):Prop :=
 ∃ dx h q,H x=some (.ins CW dx (OS h q g))/\aL K C H h fp m/\gd K H q s/\x∉fp
section
variable {K:W.Frag} {C CW:Addr} {H H':Hp} {x:Addr} {fp:List Addr} {m:ao} {s:d6} {g:Int}
theorem w6.same (h:w6 K C CW H x fp m s g) (S:aA H H'):w6 K C CW H' x fp m s g:=by
 obtain ⟨dx,hd,q,a,b,c,d⟩:=h
 exact ⟨dx,hd,q,S _ _ a,b.same S,c.same S,d⟩
theorem gd.ts {p:Addr} (h:gd K H p s) (t:bw K H H'):gd K H' p s:=by
 obtain ⟨pb,pw,pf,a,b,c,d⟩:=h
 exact ⟨pb,pw,pf,t _ _ a,t _ _ b,t _ _ c,t _ _ d⟩
end
def roomF (m:ao) (s:d6) (b:Nat) (zs:List Int):Option (List bW)->Nat->Option Bool
 | none,i=>if zs.getD i 0∈(dW (m.rows.getD i []) (fA m i s.aH (b.testBit i)) (fB m i s.aH (b.testBit i))).map (λ n:Nat=>(n:Int)) then none else some false
 | some l,i=>if (aW (l.getD i (0,1)) (fA m i s.aH (b.testBit i)) || aW (fB m i s.aH (b.testBit i)) (l.getD i (0,1)))=true then some true
   else if zs.getD i 0∈(dW (m.rows.getD i []) (l.getD i (0,1)) (l.getD i (0,1))).map (λ n:Nat=>(n:Int)) then none else some false
def W7 (K:W.Frag) (H:Hp) (n:Nat) (v:V):Option (List bW)->Prop
 | none=>v = .b9
 | some l=>∃ p ys,v = .ref p/\aT K H p ys/\bT K H (l.map dR) ys/\l.length=n/\∀ f∈l,dU 1000 f
section
variable (K:W.Frag) (C CW NO NF NT NB:Addr)
inductive HA  (vs:List V) (H:Hp) (Q:VK) (_E:XK):Prop
 | mk (x dx a fp m p s:_) (_:vs=[.ref x,.ref a,.ref p]) (_:H x=some (.ins CW dx [])) (_:aL K C H a fp m) (_:gd K H p s) (_:fG m s) (_:m.Ye) (_:∀ pN H',m7 [x] H H'->bw K H H'->w6 K C CW H' x pN m s 0->(∀ c∈pN,H c=none)->Q .b9 H')
inductive FQ  (vs:List V) (H:Hp) (Q:VK) (E:XK):Prop
 | mk (x fp m s g:_) (o out:Nat) (_:vs=[.ref x,ap o,ap out]) (_:w6 K C CW H x fp m s g) (_:fG m s) (_:out<16) (_:(o∉s.orders m->pG NO none H E)) (_:(o∈s.orders m->out &&& s.may m o≠out->pG NF none H E)) (_:(o∈s.orders m->out &&& s.may m o=out->∀ H',aA H H'->Q .b9 H'))
inductive Gf  (vs:List V) (H:Hp) (Q:VK) (_E:XK):Prop
 | mk (x fp m s g:_) (i b:Nat) (_:vs=[.ref x,ap i,ap b]) (_:w6 K C CW H x fp m s g) (_:fG m s) (_:i<m.rows.length) (_:(b.testBit i=true->m.has i=true)) (_:∀ q q1 q2 H',aA H H'->H' q=some (.tup [.ref q1,.ref q2])->H' q1=some (.tup [.int (fA m i s.aH (b.testBit i)).1,.int (fA m i s.aH (b.testBit i)).2])->H' q2=some (.tup [.int (fB m i s.aH (b.testBit i)).1,.int (fB m i s.aH (b.testBit i)).2])->Q (.ref q) H')
inductive My  (vs:List V) (H:Hp) (Q:VK) (E:XK):Prop
 | mk (x fp m s g:_) (i:Nat) (v1 v2 v3 f1 f2 f3:_) (_:vs=[.ref x,ap i,v1,v2,v3]) (_:w6 K C CW H x fp m s g) (_:Dn K H (dR f1) v1) (_:Dn K H (dR f2) v2) (_:Dn K H (dR f3) v3) (_:dU 1000 f1) (_:dU 1000 f2) (_:dU 1000 f3) (_:((aW f3 f1 || aW f2 f3)=true->gW NT (ap i) (.int g) H E)) (_:((aW f3 f1 || aW f2 f3)=false->∀ H',aA H H'->Q .b9 H'))
inductive AE  (vs:List V) (H:Hp) (Q:VK) (E:XK):Prop
 | mk (x fp m s g:_) (o out:Nat) (pb:_) (zs:List Int) (vw ws:_) (_:vs=[.ref x,ap o,ap out,.ref pb,vw]) (_:w6 K C CW H x fp m s g) (_:fG m s) (_:out<16) (_:(aT K H pb (zs.map V.int)∨bP K H pb (zs.map V.int))) (_:zs.length=m.rows.length) (_:W7 K H m.rows.length vw ws) (_:(∀ i b,i<m.rows.length->(b=true->m.has i=true)->dU 1000 (fA m i s.aH b)/\dU 1000 (fB m i s.aH b))) (_:(o∈s.orders m->out &&& s.may m o=out->cC m s o out)) (_:(o∉s.orders m->pG NO none H E)) (_:(o∈s.orders m->out &&& s.may m o≠out->pG NF none H E)) (_:(o∈s.orders m->out &&& s.may m o=out->(∀ i b,i<m.rows.length->roomF m s (Ord.off o out) zs ws i=some b->(∀ j,j<i->roomF m s (Ord.off o out) zs ws j=none)->gW (if b=true then NT else NB) (ap i) (.int g) H E)/\((∀ i,i<m.rows.length->roomF m s (Ord.off o out) zs ws i=none)->∀ H',m7 [x] H H'->bw K H H'->w6 K C CW H' x fp m (s.behind m (zs.map Int.toNat) o out) (g+1)->Q .b9 H')))
end
theorem FG {a b:Nat} (ha:a<16) (hb:b<16):Ord.off a b=0↔a &&& b=a:=by
 constructor
 .
  intro h
  refine akU λ k=>?_
  have e:=Ord.og ha hb k
  rw [h,Nat.zero_testBit] at e
  rw [aiD]
  cases x:a.testBit k<;>cases y:b.testBit k<;>rw [x,y] at e<;>first|rfl|cases e
 .
  intro h
  refine akU λ k=>?_
  rw [Ord.og ha hb,Nat.zero_testBit]
  have e:(a &&& b).testBit k=a.testBit k:=by rw [h]
  rw [aiD] at e
  cases x:a.testBit k<;>cases y:b.testBit k<;>rw [x,y] at e<;>first|rfl|cases e
theorem wu {m:ao} {s:d6} {o:Nat} (h4:m.rows.length<=4):s.may m o<16:=aec (Ord.wc _ _) (ajz (by decide) h4:2 ^ m.rows.length<=2 ^ 4)
theorem N8 {m:ao} {s:d6} {o:Nat} (h:o∈s.orders m):o &&& m.ws=o:=by
 have h:=(List.mem_filter.mp h).1
 exact Bit.He h
theorem uB (l:List Nat):(l.map ap).all oq=true:=by
 rw [anK]
 intro x hx
 obtain ⟨n,_,rfl⟩:=List.mem_map.mp hx
 rfl
theorem I0 (o:Nat) (l:List Nat):HB (ap o) (l.map ap)=decide (o∈l):=by
 unfold HB
 induction l with
 | nil=>simp
 | cons x l ih =>
   rw [agt,anx,ih]
   show (((x:Int) == (o:Int)) || decide (o∈l))=_
   rw [amj]
   simp only [ao5,beq_iff_eq,ahP,acs]
   have:((x:Int)=(o:Int))↔o=x:=by lia
   rw [this]
theorem FP (z:Int) (l:List Nat):HB (V.int z) (l.map ap)=decide (z∈l.map (λ n:Nat=>(n:Int))):=by
 unfold HB
 induction l with
 | nil=>simp
 | cons x l ih =>
   rw [agt,anx,ih]
   show (((x:Int) == z) || decide (z∈l.map _))=_
   rw [amj]
   simp only [ao5,beq_iff_eq,ahP,agt,acs]
   have:((x:Int)=z)↔z=(x:Int):=⟨Eq.symm,Eq.symm⟩
   rw [this]
theorem aL.IS {K:W.Frag} {a x:Addr} {m:ao} (h:aL K C H a fp m) (st:∀ b o,H b=some o->b≠x->H' b=some o) (ts:bw K H H') (nx:x∉fp):aL K C H' a fp m:=by
 obtain ⟨⟨OW,pm,pf,ps,pt,vm,vs,vt,az,rfl,ha,i0,d5,hJ,eR,eQ,n1,n2,n3,dm,ds,dt,df,fk⟩,q1,q2,q3,q4⟩:=h
 have g:∀ {c o},H c=some o->c∈[a,OW,pm,pf,ps,pt]->H' c=some o:=λ {c o} e hc=>st c o e (λ z=>nx (z ▸ hc))
 exact ⟨⟨OW,pm,pf,ps,pt,vm,vs,vt,az,rfl,g ha (by simp),g i0 (by simp),g d5 (by simp),g hJ (by simp),g eR (by simp),g eQ (by simp),n1,n2,n3,jV ts dm,iP ts ds,gJ ts dt,λ i j=>(df i j).ts ts,fk⟩,q1,q2,q3,q4⟩
theorem xH {X:Cx}:iN X (.type "tuple") (λ xs H Q=>∃ p ys,xs=[.ref p]/\(aT X.K H p ys∨bP X.K H p ys)/\∀ q H',aA H H'->bP X.K H' q ys->Q (.ref q) H'):=by
 intro pins s U H xs us Q I r h
 obtain ⟨p,ys,e,hz,h⟩:=h
 refine dg pins s U H xs us Q I r ⟨p,ys,e,?_⟩
 rcases hz with z|z
 . exact .inl ⟨z,λ q hq=>h q _ (ak hq) (bP.of ag)⟩
 . exact .inr ⟨z,h p H (aA.refl _) z⟩
theorem Dt (h:∀ z∈zs,0<=z):zs.map V.int=(zs.map Int.toNat).map ap:=by
 rw [anM]
 refine List.map_congr_left λ z hz=>?_
 show V.int z=V.int ((z.toNat:Nat):Int)
 rw [ann (h z hz)]
theorem O5 {i:Nat} (h:i<zs.length):zs[i]?=some (zs.getD i 0):=by rw [OQ,afY h];rfl
theorem wH {m:ao} {s:d6} {b:Nat} {i:Nat}:roomF m s b zs none i=if zs.getD i 0∈(dW (m.rows.getD i []) (fA m i s.aH (b.testBit i)) (fB m i s.aH (b.testBit i))).map (λ n:Nat=>(n:Int)) then none else some false:=rfl
theorem qN {m:ao} {s:d6} {b:Nat} {l:List bW} {i:Nat}:roomF m s b zs (some l) i=if (aW (l.getD i (0,1)) (fA m i s.aH (b.testBit i)) || aW (fB m i s.aH (b.testBit i)) (l.getD i (0,1)))=true then some true
   else if zs.getD i 0∈(dW (m.rows.getD i []) (l.getD i (0,1)) (l.getD i (0,1))).map (λ n:Nat=>(n:Int)) then none else some false:=rfl
theorem Bs {m:ao} {s:d6} {b:Nat} {ws:Option (List bW)} {i:Nat} (h:roomF m s b zs ws i=none):0<=zs.getD i 0/\(zs.getD i 0).toNat+1<(m.rows.getD i []).length:=by
 have key:∀ {r f g},zs.getD i 0∈(dW r f g).map (λ n:Nat=>(n:Int))->0<=zs.getD i 0/\(zs.getD i 0).toNat+1<r.length:=λ {r f g} hm=>by
   obtain ⟨n,hn,e⟩:=List.mem_map.mp hm
   have:=List.mem_range.mp (List.mem_filter.mp hn).1
   lia
 cases ws with
 | none =>
   rw [wH] at h
   by_cases hm:zs.getD i 0∈(dW (m.rows.getD i []) (fA m i s.aH (b.testBit i)) (fB m i s.aH (b.testBit i))).map (λ n:Nat=>(n:Int))
   . exact key hm
   . rw [acO hm] at h;cases h
 | some l =>
   rw [qN] at h
   by_cases hc:(aW (l.getD i (0,1)) (fA m i s.aH (b.testBit i)) || aW (fB m i s.aH (b.testBit i)) (l.getD i (0,1)))=true
   . rw [acS hc] at h;cases h
   . rw [acO hc] at h
     by_cases hm:zs.getD i 0∈(dW (m.rows.getD i []) (l.getD i (0,1)) (l.getD i (0,1))).map (λ n:Nat=>(n:Int))
     . exact key hm
     . rw [acO hm] at h;cases h
def qA (H0 H:Hp) (L:List Addr) (vm:List V) (ms:List (List Int)):Prop :=
 ∃ jT:List Addr,vm=jT.map V.ref/\jT.length=ms.length/\jT.Nodup/\∀ (j:Nat) pk l,jT[j]?=some pk->ms[j]?=some l->H pk=some (.lst (List.map V.int l))/\pk∉L/\H0 pk=none/\∀ x∈l,-30<=x/\x<=150
section
variable {K:W.Frag} {H0 H H1 H':Hp} {L:List Addr} {vm:List V} {ms:List (List Int)}
theorem qA.nil:qA H0 H L [] []:=⟨[],rfl,rfl,aob,λ j pk l h=>by simp at h⟩
theorem qA.step (h:qA H0 H L vm ms) (s:m7 L H H'):qA H0 H' L vm ms:=by
 obtain ⟨jT,e,l,nd,f⟩:=h
 exact ⟨jT,e,l,nd,λ j pk l h1 h2=>⟨s _ _ (f j pk l h1 h2).1 (f j pk l h1 h2).2.1,(f j pk l h1 h2).2⟩⟩
theorem m8 (s:aA H H'):m7 L H H':=λ b o h _=>s b o h
theorem qE {a:Addr} {o:HO} (h:a∈L):m7 L H (upd H a o):=λ b u e n=>by
 have nb:b≠a:=λ z=>n (by rw [z];exact h)
 rw [ax nb];exact e
theorem iC {H2:Hp} (a:m7 L H H1) (b:m7 L H1 H2):m7 L H H2:=λ c o h n=>b c o (a c o h n) n
theorem qA.snoc {pk:Addr} {l:List Int} (h:qA H0 H1 L vm ms) (hn:H1 pk=none) (s:m7 L H1 H) (hk:H pk=some (.lst (l.map V.int))) (kL:pk∉L) (k0:H0 pk=none) (kb:∀ x∈l,-30<=x/\x<=150):qA H0 H L (vm++[.ref pk]) (ms++[l]):=by
 obtain ⟨jT,e,le,nd,f⟩:=h
 have nw:pk∉jT:=λ z=>by
   obtain ⟨j,hj,e⟩:=anm z
   have Ka:j<ms.length:=by lia
   have:=(f j pk ms[j] (by rw [afY hj,e]) (afY Ka)).1
   rw [hn] at this
   cases this
 refine ⟨jT++[pk],by rw [e,YT];rfl,by rw [abi,abi,le];rfl,?_,λ j q r h1 h2=>?_⟩
 . rw [List.nodup_append]
   exact ⟨nd,by simp,λ a ha b hb z=>nw (by rw [List.mem_singleton.mp hb] at z;rw [← z];exact ha)⟩
 .
  by_cases c:j<jT.length
  . rw [aft c] at h1
    rw [aft (by lia)] at h2
    have:=f j q r h1 h2
    exact ⟨s _ _ this.1 this.2.1,this.2⟩
  .
   rw [agM (by lia)] at h1
   rw [agM (by lia)] at h2
   have c0:j - jT.length=0:=by
     have:=(List.getElem?_eq_some_iff.mp h1).1
     simp at this
     lia
   have c1:j - ms.length=0:=by lia
   rw [c0] at h1
   rw [c1] at h2
   obtain rfl:pk=q:=ac2 h1
   obtain rfl:l=r:=ac2 h2
   exact ⟨hk,kL,k0,kb⟩
end
def LU (K:W.Frag) (H0 H:Hp) (p:Addr) (m:ar):Prop:=∃ pm ps pt pf fE pb vm vs vt az,TC K H p pm ps pt pf fE pb vm vs vt az m/\qA H0 H [p,pm,ps,pt,pf] vm m.marks
inductive A2 (K:W.Frag) (vs:List V) (H:Hp) (Q:VK) (_E:XK):Prop
 | mk (a:_) (ns:List Int) (_:vs=[.ref a]) (_:aT K H a (ns.map V.int)) (_:∀ p H' m n,1<=n->n<=4->ar.Ok n n m->aA H H'->LU K H H' p m->Q (.ref p) H')
inductive KC (K:W.Frag) (vs:List V) (H:Hp) (Q:VK) (_E:XK):Prop
 | mk (p m H0:_) (n:Nat) (c:Int) (_:vs=[.ref p,.int c]) (_:ar.Ok n n m) (_:aA H0 H) (_:LU K H0 H p m) (_:∀ H' m',ar.Ok n n m'->aA H0 H'->iK K H' p m'->Q (.ref p) H')
def ia (l:List Int):List Int:=(l.set 0 (-40)).set (l.length - 1) 200
theorem Jr {n:Nat} {l:List Int} (h:uu n l) (hb:∀ x∈l,-30<=x/\x<=150):uu n (ia l):=by
 have el:(ia l).length=l.length:=by unfold ia;rw [aln,aln]
 have l2:=h.two
 have at_:∀ (i:Nat) (x:Int),(ia l)[i]?=some x->i<l.length/\((i=l.length - 1/\x=200)∨(i≠l.length - 1/\i=0/\x = -40)∨(i≠l.length - 1/\i≠0/\l[i]?=some x)):=λ i x e=>by
   have hi:i<l.length:=by rw [← el];exact (List.getElem?_eq_some_iff.mp e).1
   refine ⟨hi,?_⟩
   unfold ia at e
   by_cases c:i=l.length - 1
   . rw [← c,ak5 (by rw [aln];exact hi)] at e
     exact .inl ⟨c,(ac2 e).symm⟩
   .
    rw [akV (by lia)] at e
    by_cases d:i=0
    . subst d
      rw [ak5 hi] at e
      exact .inr (.inl ⟨c,rfl,(ac2 e).symm⟩)
    . rw [akV (by lia)] at e
      exact .inr (.inr ⟨c,d,e⟩)
 refine ⟨by rw [el];exact l2,by rw [el];exact h.most,λ i x y h1 h2=>?_,λ x hx=>?_⟩
 .
  obtain ⟨i1,c1⟩:=at_ i x h1
  obtain ⟨i2,c2⟩:=at_ (i+1) y h2
  rcases c1 with ⟨a,b⟩|⟨a,b,c⟩|⟨a,b,c⟩
  . lia
  . rcases c2 with ⟨a2,b2⟩|⟨a2,b2,c2⟩|⟨a2,b2,c2⟩
    . lia
    . lia
    . have:=hb y (ad5 c2);lia
  . rcases c2 with ⟨a2,b2⟩|⟨a2,b2,c2⟩|⟨a2,b2,c2⟩
    . have:=hb x (ad5 c);lia
    . lia
    . exact h.JV i x y c c2
 .
  obtain ⟨i,hi,e⟩:=anm hx
  obtain ⟨_,c⟩:=at_ i x (by rw [afY hi,e])
  rcases c with ⟨a,b⟩|⟨a,b,c⟩|⟨a,b,c⟩
  . lia
  . lia
  . have:=hb x (ad5 c);lia
structure CV (K:W.Frag) (H0 H:Hp) (L jT:List Addr) (ms:List (List Int)) (i:Nat) (H':Hp):Prop where
 same:aA H0 H'
 ts:bw K (fJ H L) (fJ H' L)
 but:m7 jT H H'
 rows:∀ (j:Nat) pk l,jT[j]?=some pk->ms[j]?=some l->H' pk=some (.lst ((if j<i then ia l else l).map V.int))
theorem CV.put {K:W.Frag} {L:List Addr} {ms:List (List Int)} {i:Nat} {pk:Addr} {l:List Int} (h:CV K H0 H L jT ms i H') (nd:jT.Nodup) (hp:jT[i]?=some pk) (hl:ms[i]?=some l) (h0:H0 pk=none) (nL:pk∉L) :
   CV K H0 H L jT ms (i+1) (upd (upd H' pk (.lst ((l.map V.int).set 0 (.int (-40))))) pk (.lst (((l.map V.int).set 0 (.int (-40))).set (((l.map V.int).set 0 (.int (-40))).length - 1) (.int 200)))):=by
 have e:∀ o o',upd (upd H' pk o) pk o'=upd H' pk o':=λ o o'=>by
   funext b
   by_cases z:b=pk
   . rw [z,ag,ag]
   . rw [ax z,ax z,ax z]
 rw [e]
 have ev:(((l.map V.int).set 0 (.int (-40))).set (((l.map V.int).set 0 (.int (-40))).length - 1) (.int 200))=(ia l).map V.int:=by
   unfold ia
   rw [aln,AM,aoO,aoO]
 rw [ev]
 have oC:=h.rows i pk l hp hl
 refine ⟨h.same.put h0,h.ts.trans ?_,λ b o hb n=>?_,λ j q r h1 h2=>?_⟩
 .
  have ec:fJ (upd H' pk (.lst ((ia l).map V.int))) L=upd (fJ H' L) pk (.lst ((ia l).map V.int)):=by
    funext b
    unfold fJ
    by_cases z:b=pk
    . rw [z,ag,acO nL];exact ag.symm
    . rw [ax z,ax z]
  rw [ec]
  exact cF (mv oC nL) rfl
 . rw [ax (λ z=>n (by rw [z];exact ad5 hp))]
   exact h.but b o hb n
 .
  by_cases z:j=i
  . subst z
    obtain rfl:pk=q:=ac2 (hp.symm.trans h1)
    obtain rfl:l=r:=ac2 (hl.symm.trans h2)
    rw [ag,acS (aoT _)]
  .
   have nq:q≠pk:=λ y=>by
     have hj:=(List.getElem?_eq_some_iff.mp h1)
     have hi:=(List.getElem?_eq_some_iff.mp hp)
     obtain ⟨hj,ej⟩:=hj
     obtain ⟨hi,ei⟩:=hi
     exact z (by
       exact (List.getElem?_inj hj nd).mp (h1.trans (by rw [y];exact hp.symm)))
   rw [ax nq,h.rows j q r h1 h2]
   by_cases c:j<i
   . rw [acS c,acS (by lia)]
   . rw [acO c,acO (by lia)]
theorem DO (z:Int×Int×Int):dS (C8 z)=true:=by simp [dS]
theorem G8 (z:Option (Int×Int×Int×Int)):dS (stI z)=true:=by cases z<;>simp [stI,dS]
theorem Cv {K:W.Frag}:∀ {jT:List Addr} {ms:List (List Int)},jT.length=ms.length->(∀ (j:Nat) pk l,jT[j]?=some pk->ms[j]?=some l->H pk=some (.lst (List.map V.int l)))->bT K H (ms.map vI) (jT.map V.ref)
 | [],[],_,_=>rfl
 | pk::jT,l::ms,h,f=>⟨.ref pk,jT.map V.ref,rfl,⟨pk,_,rfl,aT.of (f 0 pk l rfl rfl),w9 l⟩,Cv (by simpa using h) λ j q r h1 h2=>f (j+1) q r h1 h2⟩
theorem CV.told {K:W.Frag} {p pm ps pt pf fE pb:Addr} {vs vt:List V} {az:List (List Key×V)} {m:ar} {n:Nat} (h:CV K H0 H [p,pm,ps,pt,pf] jT m.marks n H') (C:TC K H p pm ps pt pf fE pb (jT.map V.ref) vs vt az m) (ok:m.Ok n n) (lp:jT.length=n) (f:∀ (j:Nat) pk l,jT[j]?=some pk->m.marks[j]?=some l->pk∉[p,pm,ps,pt,pf]/\∀ x∈l,-30<=x/\x<=150) :
   TC K H' p pm ps pt pf fE pb (jT.map V.ref) vs vt az { m with marks:=m.marks.map ia }/\ar.Ok n n { m with marks:=m.marks.map ia }:=by
 have nl:∀ b∈[p,pm,ps,pt,pf],b∉jT:=λ b hb z=>by
   obtain ⟨j,hj,e⟩:=anm z
   have Ka:j<m.marks.length:=by rw [ok.lm];lia
   exact (f j b m.marks[j] (by rw [afY hj,e]) (afY Ka)).1 hb
 have g:∀ {b o},H b=some o->b∈[p,pm,ps,pt,pf]->H' b=some o:=λ {b o} e hb=>h.but b o e (nl b hb)
 refine ⟨⟨g C.hp (by simp),g C.d5 (by simp),g C.eR (by simp),g C.eQ (by simp),g C.hJ (by simp),C.n1,C.n2,C.n3,?_,?_,?_,C.df,C.fk,h.ts _ _ C.sc,h.ts _ _ C.bo⟩,?_⟩
 .
  refine Cv (by rw [AM,ok.lm];exact lp) λ j pk l h1 h2=>?_
  have hj:j<n:=by rw [← lp];exact (List.getElem?_eq_some_iff.mp h1).1
  have Ka:j<m.marks.length:=by rw [ok.lm];exact hj
  have h2:(m.marks.map ia)[j]?=some l:=h2
  rw [T1,aq Ka] at h2
  obtain rfl:ia m.marks[j]=l:=ac2 h2
  have:=h.rows j pk _ h1 (aq Ka)
  rw [acS hj] at this
  exact mv this (f j pk _ h1 (aq Ka)).1
 . exact bT.ts h.ts _ (λ d hd=>by obtain ⟨z,_,rfl⟩:=List.mem_map.mp hd;exact DO z) C.ds
 . exact bT.ts h.ts _ (λ d hd=>by obtain ⟨z,_,rfl⟩:=List.mem_map.mp hd;exact G8 z) C.dt
 .
  refine ⟨by show (m.marks.map ia).length=n;rw [AM];exact ok.lm,ok.ls,ok.lt,λ l hl=>?_,ok.dA,ok.aD,ok.bi,ok.scale,ok.bounds⟩
  obtain ⟨r,hr,rfl⟩:=List.mem_map.mp (show l∈m.marks.map ia from hl)
  obtain ⟨j,hj,e⟩:=anm hr
  have hjn:j<jT.length:=by rw [lp,← ok.lm];exact hj
  exact Jr (ok.rows r hr) (f j jT[j] r (aq hjn) (by rw [aq hj,e])).2
theorem Ob {n:Nat} (h:0<n):Ck n (-1)=some (n - 1):=by
 unfold Ck
 rw [acO (by lia),acS (by lia)]
 congr 1
 lia
theorem Xd {n:Nat} (h:0<n):Ck n 0=some 0:=by
 unfold Ck
 rw [acS (by lia),acS (by lia)]
 rfl
def ar.Ab (tm:ar) (i:Nat) (z lo hi:Int):Prop:=0<=z/\z<((tm.marks.getD i []).length:Int) - 1/\12 * tm.qY i z.toNat<=hi/\lo<=12 * tm.qY i (z.toNat+1)
instance {tm:ar} {i:Nat} {z lo hi:Int}:Decidable (tm.Ab i z lo hi):=by unfold ar.Ab;infer_instance
def ar.s0 (tm:ar) (n i:Nat) (bs:List Nat) (f:Bool):Int:=tm.sX n i bs 0 (tm.iO i).2.1 f
def ar.s1 (tm:ar) (n i:Nat) (bs:List Nat) (f:Bool):Int:=tm.sX n i bs 1 (tm.iO i).2.2 f
def ar.tF (tm:ar) (n:Nat) (bs:List Nat) (b:Nat) (zs:List Int):Option (List Int)->Nat->Option Bool
 | none,i=>if tm.Ab i (zs.getD i 0) (tm.s0 n i bs (b.testBit i)) (tm.s1 n i bs (b.testBit i)) then none else some false
 | some l,i=>if l.getD i 0<tm.s0 n i bs (b.testBit i)∨tm.s1 n i bs (b.testBit i)<l.getD i 0 then some true else if tm.Ab i (zs.getD i 0) (l.getD i 0) (l.getD i 0) then none else some false
theorem Dx {r:List bW} {f g:bW} {z:Int}:z∈(dW r f g).map (λ n:Nat=>(n:Int))↔0<=z/\z.toNat<r.length - 1/\lJ r f g z.toNat=true:=by
 unfold dW j1
 rw [List.mem_map]
 constructor
 . rintro ⟨n,hn,rfl⟩
   obtain ⟨h1,h2⟩:=List.mem_filter.mp hn
   exact ⟨by lia,by simpa using List.mem_range.mp h1,by simpa using h2⟩
 . rintro ⟨h0,h1,h2⟩
   exact ⟨z.toNat,List.mem_filter.mpr ⟨List.mem_range.mpr h1,h2⟩,by lia⟩
section
variable {tm:ar} {n i:Nat}
theorem sg (ok:tm.Ok n n) (hi:i<n):(tm.m2 n n).rows.getD i []=tm.row (tm.marks.getD i []):=by
 have tP:i<tm.marks.length:=by rw [ok.lm];exact hi
 rw [(cH tm n n).1,OQ,T1,anN hi,OQ,aq tP];rfl
theorem nT {l:List Int} {b:Nat} (h:b<l.length):(tm.row l).getD b (0,1)=aQ (l.getD b 0) 1 tm.scale:=by
 unfold ar.row
 rw [OQ,T1,aq h,OQ,aq h];rfl
theorem eZ {A z:Int} (ok:tm.Ok n n) (hi:i<n):z∈(dW ((tm.m2 n n).rows.getD i []) (aQ A 12 tm.scale) (aQ B 12 tm.scale)).map (λ n:Nat=>(n:Int))↔tm.Ab i z A B:=by
 rw [Dx,sg ok hi]
 unfold ar.Ab ar.qY lJ
 generalize tm.marks.getD i []=l
 have el:(tm.row l).length=l.length:=by unfold ar.row;rw [AM]
 rw [el]
 refine aoX λ h0=>?_
 have e1:(z.toNat<l.length - 1)↔(z<(l.length:Int) - 1):=by lia
 rw [e1]
 refine aoX λ h1=>?_
 rw [nT (by lia),nT (by lia),jm ok.scale (by decide) (by decide),jm ok.scale (by decide) (by decide)]
 simp only [aeX,anF,api]
 lia
theorem yg (ok:tm.Ok n n) (hi:i<n):(lG (tm.m2 n n) i).2.1=aQ (tm.iO i).2.1 1 tm.scale/\(lG (tm.m2 n n) i).2.2=aQ (tm.iO i).2.2 1 tm.scale/\(-200<=(tm.iO i).2.1/\(tm.iO i).2.1<=200)/\(-200<=(tm.iO i).2.2/\(tm.iO i).2.2<=200)/\(tm.iO i).2.1<=(tm.iO i).2.2:=by
 have xP:i<tm.dA.length:=by rw [ok.ls];exact hi
 have Dy:=ok.dA tm.dA[i] (ab8 xP)
 unfold lG ar.iO
 rw [(gG ok n (aat n)).1 i hi,aq xP]
 refine ⟨rfl,rfl,?_⟩
 show (-200<=tm.dA[i].2.1/\tm.dA[i].2.1<=200)/\(-200<=tm.dA[i].2.2/\tm.dA[i].2.2<=200)/\tm.dA[i].2.1<=tm.dA[i].2.2
 lia
theorem tM (ok:tm.Ok n n) (hi:i<n) (h:(tm.m2 n n).has i=true):∃ z,tm.aD[i]?=some (some z):=by
 unfold ao.has at h
 rw [Aq ok hi] at h
 cases e:tm.aD[i]? with
 | none=>rw [e] at h;cases h
 | some o =>
   cases o with
   | none=>rw [e] at h;cases h
   | some z=>exact ⟨z,rfl⟩
section
variable {bs:List Nat} {f:Bool}
theorem iF (wf:(tm.m2 n n).Wf) (ok:tm.Ok n n) (n4:n<=4) (hi:i<n) (hb:vE tm n bs) (hz:f=true->(tm.m2 n n).has i=true):fA (tm.m2 n n) i bs f=aQ (tm.s0 n i bs f) 12 tm.scale/\fB (tm.m2 n n) i bs f=aQ (tm.s1 n i bs f) 12 tm.scale:=by
 obtain ⟨e1,e2,b1,b2,_⟩:=yg ok hi
 unfold fA fB ar.s0 ar.s1
 rw [e1,e2]
 exact ⟨uR wf ok n4 hi hb (by decide) b1 λ q=>tM ok hi (hz q),uR wf ok n4 hi hb (by decide) b2 λ q=>tM ok hi (hz q)⟩
theorem NJ (ok:tm.Ok n n) (n4:n<=4) (hi:i<n) (hb:vE tm n bs):(-3000<=tm.s0 n i bs f/\tm.s0 n i bs f<=3000)/\(-3000<=tm.s1 n i bs f/\tm.s1 n i bs f<=3000)/\tm.s0 n i bs f<=tm.s1 n i bs f:=by
 obtain ⟨_,_,b1,b2,le⟩:=yg ok hi
 refine ⟨Ly ok n4 hi hb (by decide) b1,Ly ok n4 hi hb (by decide) b2,?_⟩
 have:=rN (x:=tm.xl bs 0) (y:=tm.xl bs 1) ok n4 hi (λ j hj=>?_) le
 . unfold ar.s0 ar.s1 ar.sX
   lia
 .
  obtain ⟨h1,h2,e0,_⟩:=gn (b:=bs.getD j 0) ok hj (by have:=hb.lt j hj;lia)
  obtain ⟨_,h3,e1,_⟩:=gn (b:=bs.getD j 0+1) ok hj (hb.lt j hj)
  have JV:=(ok.rows tm.marks[j] (ab8 h1)).JV _ _ _ (aq h2) (aq h3)
  rw [← e0,← e1] at JV
  exact alO JV
theorem rP {x:Int} (ok:tm.Ok n n) (h1 : -5000<=x) (h2:x<=5000):dU 1000 (aQ x 12 tm.scale):=(qW (n:=16) ok.scale (by decide) (show x.natAbs<2 ^ 16 by lia) (show Int.natAbs 12<2 ^ 16 by decide)).mono (by decide)
theorem xN (wf:(tm.m2 n n).Wf) (ok:tm.Ok n n) (n4:n<=4) (hi:i<n) (hb:vE tm n bs) (hz:f=true->(tm.m2 n n).has i=true):dU 1000 (fA (tm.m2 n n) i bs f)/\dU 1000 (fB (tm.m2 n n) i bs f):=by
 obtain ⟨e1,e2⟩:=iF wf ok n4 hi hb hz
 obtain ⟨b1,b2,_⟩:=NJ (f:=f) ok n4 hi hb
 rw [e1,e2]
 exact ⟨rP ok (by lia) (by lia),rP ok (by lia) (by lia)⟩
end
theorem BN {s:d6} {b:Nat} {wl:Option (List Int)} (wf:(tm.m2 n n).Wf) (ok:tm.Ok n n) (n4:n<=4) (hi:i<n) (hb:vE tm n s.aH) (hz:b.testBit i=true->(tm.m2 n n).has i=true) (hl:∀ l,wl=some l->l.length=n) :
   roomF (tm.m2 n n) s b zs (wl.map λ l=>l.map λ x=>aQ x 12 tm.scale) i=tm.tF n s.aH b zs wl i:=by
 obtain ⟨e1,e2⟩:=iF wf ok n4 hi hb hz
 cases wl with
 | none =>
   show roomF (tm.m2 n n) s b zs none i=if tm.Ab i (zs.getD i 0) (tm.s0 n i s.aH (b.testBit i)) (tm.s1 n i s.aH (b.testBit i)) then none else some false
   rw [wH,e1,e2]
   by_cases c:tm.Ab i (zs.getD i 0) (tm.s0 n i s.aH (b.testBit i)) (tm.s1 n i s.aH (b.testBit i))
   . rw [acS c,acS ((eZ ok hi).mpr c)]
   . rw [acO c,acO (λ q=>c ((eZ ok hi).mp q))]
 | some l =>
   have hl:=hl l rfl
   have el:(l.map λ x=>aQ x 12 tm.scale).getD i (0,1)=aQ (l.getD i 0) 12 tm.scale:=by
     rw [OQ,T1,aq (by lia),OQ,aq (by lia)];rfl
   show roomF (tm.m2 n n) s b zs (some (l.map λ x=>aQ x 12 tm.scale)) i=if l.getD i 0<tm.s0 n i s.aH (b.testBit i)∨tm.s1 n i s.aH (b.testBit i)<l.getD i 0 then some true else if tm.Ab i (zs.getD i 0) (l.getD i 0) (l.getD i 0) then none else some false
   rw [qN,e1,e2,el,ku ok.scale (by decide),ku ok.scale (by decide)]
   by_cases c:l.getD i 0<tm.s0 n i s.aH (b.testBit i)∨tm.s1 n i s.aH (b.testBit i)<l.getD i 0
   . rw [acS c,acS (by simpa using c)]
   . rw [acO c,acO (by simpa using c)]
     by_cases d:tm.Ab i (zs.getD i 0) (l.getD i 0) (l.getD i 0)
     . rw [acS d,acS ((eZ ok hi).mpr d)]
     . rw [acO d,acO (λ q=>d ((eZ ok hi).mp q))]
end
section
variable (K:W.Frag) (C CW:Addr)
inductive Am  (vs:List V) (H:Hp) (Q:VK) (_E:XK):Prop
 | mk (p tm:_) (n i:Nat) (pb bs fired:_) (_:vs=[.ref p,ap i,.ref pb,.bl fired]) (_:iK K H p tm) (_:tm.Ok n n) (_:n<=4) (_:i<n) (_:(aT K H pb (bs.map ap)∨bP K H pb (bs.map ap))) (_:vE tm n bs) (_:(fired=true->∃ z,tm.aD[i]?=some (some z))) (_:∀ q H',aA H H'->H' q=some (.tup [.int (tm.s0 n i bs fired),.int (tm.s1 n i bs fired)])->Q (.ref q) H')
end
theorem aL.some {K:W.Frag} {a:Addr} {m:ao} (h:aL K C H a fp m):∀ c∈fp,∃ o,H c=some o:=by
 obtain ⟨⟨OW,pm,pf,ps,pt,vm,vs,vt,az,rfl,ha,i0,d5,hJ,eR,eQ,_⟩,_⟩:=h
 intro c hc
 simp only [acs,aaI,agT] at hc
 rcases hc with rfl|rfl|rfl|rfl|rfl|rfl
 . exact ⟨_,ha⟩
 . exact ⟨_,i0⟩
 . exact ⟨_,d5⟩
 . exact ⟨_,hJ⟩
 . exact ⟨_,eR⟩
 . exact ⟨_,eQ⟩
def Rm (s:d6):PyData:=.tuple [.tuple (s.aH.map jw),jw s.bX,.tuple (s.jJ.map jw),.tuple (s.failed.map jw),jw s.heap]
theorem gd.dn {K:W.Frag} {p:Addr} {s:d6} (h:gd K H p s):Dn K H (Rm s) (.ref p):=by
 obtain ⟨pb,pw,pf,a,b,c,d⟩:=h
 exact fW a (bC (fW b (jC _)) (bC rfl (bC (fW c (jC _)) (bC (fW d (jC _)) (bC rfl fU)))))
theorem L9 (s:d6):CP 2 (Rm s):=by
 have key:∀ l:List Nat,CP 1 (.tuple (l.map jw)):=λ l d hd=>by
   obtain ⟨x,_,rfl⟩:=List.mem_map.mp hd
   exact trivial
 intro d hd
 simp only [acs,aaI,agT] at hd
 rcases hd with rfl|rfl|rfl|rfl|rfl
 . exact key _
 . exact trivial
 . exact key _
 . exact key _
 . exact trivial
end L2
namespace PySem
open Sem (wp)
mutual
def kd:PyData->Bool
 | .bool _=>true
 | .int _=>true
 | .tuple ds=>yh ds
 | _=>false
def yh:List PyData->Bool
 | []=>true
 | d::ds=>kd d && yh ds
end
mutual
def rK:PyData->PyData
 | .bool b => .int (if b then 1 else 0)
 | .tuple ds => .tuple (mC ds)
 | d=>d
def mC:List PyData->List PyData
 | []=>[]
 | d::ds=>rK d::mC ds
end
mutual
def wK:PyData->Nat
 | .tuple ds=>xk ds+1
 | _=>0
def xk:List PyData->Nat
 | []=>0
 | d::ds=>max (wK d) (xk ds)
end
mutual
def pP:PyData->Int
 | .int i=>hashInt i
 | .bool b=>hashInt (if b then 1 else 0)
 | .tuple ds=>reduceHash (Builtin.Tuple.tupleHashOf (lM ds))
 | _=>0
def lM:List PyData->List Int
 | []=>[]
 | d::ds=>pP d::lM ds
end
mutual
def p5:PyData->Nat
 | .tuple ds=>mI ds+1
 | _=>1
def mI:List PyData->Nat
 | []=>0
 | d::ds=>p5 d+mI ds
end
mutual
theorem uG:∀ d,kd d=true->pP (rK d)=pP d
 | .bool b,_=>by simp only [rK,pP]
 | .int i,_=>by simp only [rK,pP]
 | .tuple ds,h=>by simp only [rK,pP];rw [tL ds h]
 | .none,_ | .str _,_ | .list _,_ | .dict _,_=>by simp only [rK]
theorem tL:∀ ds,yh ds=true->lM (mC ds)=lM ds
 | [],_=>rfl
 | d::ds,h=>by
   rw [yh,aeX] at h
   simp only [mC,lM]
   rw [uG d h.1,tL ds h.2]
end
mutual
theorem vd:∀ d,p5 (rK d)=p5 d
 | .bool b=>by simp only [rK,p5]
 | .tuple ds=>by simp only [rK,p5];rw [qZ ds]
 | .int _ | .none | .str _ | .list _ | .dict _=>by simp only [rK]
theorem qZ:∀ ds,mI (mC ds)=mI ds
 | []=>rfl
 | d::ds=>by
   simp only [mC,mI]
   rw [vd d,qZ ds]
end
mutual
theorem wg:∀ (d e:PyData),kd d=true->kd e=true->(PyData.eqv d e=true↔rK d=rK e)
 | .bool a,.bool b,_,_=>by cases a<;>cases b<;>simp [PyData.eqv,rK]
 | .bool a,.int j,_,_=>by simp [PyData.eqv,rK]
 | .int i,.bool b,_,_=>by simp [PyData.eqv,rK]
 | .int i,.int j,_,_=>by simp [PyData.eqv,rK]
 | .tuple xs,.tuple ys,h,k=>by
   simp only [PyData.eqv,rK,PyData.tuple.injEq]
   exact zn xs ys h k
 | .bool _,.tuple _,_,_ | .int _,.tuple _,_,_ | .tuple _,.bool _,_,_ | .tuple _,.int _,_,_=>by simp [PyData.eqv,rK]
theorem zn:∀ (ds es:List PyData),yh ds=true->yh es=true->(PyData.eqvAll ds es=true↔mC ds=mC es)
 | [],[],_,_=>by simp [PyData.eqvAll,mC]
 | [],_::_,_,_=>by simp [PyData.eqvAll,mC]
 | _::_,[],_,_=>by simp [PyData.eqvAll,mC]
 | d::ds,e::es,h,k=>by
   rw [yh,aeX] at h k
   simp only [PyData.eqvAll,mC,aeX,ao2]
   rw [wg d e h.1 k.1,zn ds es h.2 k.2]
end
section
variable {prog:Program} {w:World} {E:Value->Shared->Prop}
set_option maxHeartbeats 0 in
mutual
theorem sB:∀ (d:PyData) (v:Value) (as:List Addr) (A:Around) (s:Shared) (Q:Int->Shared->Prop),kd d=true->Reads s.heap v d as->A.units+wK d<cLine ->
   Q (pP d) { s with toks:=s.toks+p5 d }->wpAny (model prog w) A (pyHash v) Q E s
 | .int i,_,_,A,s,Q,_,x,_,h=>by cases x;exact wpAny_pyHash_int h
 | .bool b,_,_,A,s,Q,_,x,hu,h=>by
   cases x
   refine W.pyHash_slot (T:="bool") rfl F.slot_bool_hash entry_int_hash (args_int_hash _) (beq_builtin_none _) (.inl rfl) ?_
   cases b
   . exact (show wpAny _ _ (do ret (← mkInt 0)) _ _ s from Wi (wpAny_mkInt (adt ⟨_,_,rfl,h⟩)))
   . exact (show wpAny _ _ (do ret (← mkInt 1)) _ _ s from Wi (wpAny_mkInt (adt ⟨_,_,rfl,h⟩)))
 | .tuple ds,_,_,A,s,Q,hk,x,hu,h=>by
   cases x with
   | @tuple a o vs n _ _ hg hc hd hr =>
     rw [wK] at hu
     refine W.pyHash_slot (T:="tuple") ⟨_,hg,hc⟩ F.slot_tuple_hash F.entry_tuple_hash (F.args_tuple_hash_1 _) (beq_builtin_none _) (.inr (by lia)) ?_
     show wpAny _ _ (Builtin.Tuple.tupleItemsOf (.ref a) >>= _) _ _ s
     refine Wi (wpAny_tupleItemsOf hg hd ?_)
     refine Wi ?_
     rw [← apV]
     refine pY ds vs.toList _ A.in1 s #[] _ hk hr (by rw [apo];lia) λ b hb=>?_
     show wpAny _ _ (retInt (Builtin.Tuple.tupleHashOf b.toList)) _ _ _
     rw [hb]
     exact Wi (wpAny_mkInt (adt ⟨_,_,rfl,h⟩))
 | .none,_,_,_,_,_,hk,_,_,_ | .str _,_,_,_,_,_,hk,_,_,_ | .list _,_,_,_,_,_,hk,_,_,_ | .dict _,_,_,_,_,_,hk,_,_,_=>by rw [kd] at hk<;>first|cases hk|nofun
theorem pY:∀ (ds:List PyData) (vs:List Value) (as:List Addr) (A:Around) (s:Shared) (b:Array Int) (Q:Array Int->Shared->Prop),yh ds=true->ReadsAll s.heap vs ds as->A.units+xk ds<cLine ->
   (∀ b',b'.toList=b.toList++lM ds->Q b' { s with toks:=s.toks+mI ds }) ->
   wpAny (model prog w) A (forIn vs b λ x r=>do let h ← pyHash x;pure PUnit.unit;pure (ForInStep.yield (r.push h))) Q E s
 | [],_,_,A,s,b,Q,_,x,_,h=>by cases x;exact adt (h b (by simp [lM]))
 | d::ds,_,_,A,s,b,Q,hk,x,hu,h=>by
   cases x with
   | cons x1 x2 =>
     rw [yh,aeX] at hk
     rw [xk] at hu
     rw [List.forIn_cons]
     refine Wi (Wi (sB d _ _ A s _ hk.1 x1 (by lia) ?_))
     refine Wi (adt (adt ?_))
     exact pY ds _ _ A { s with toks:=s.toks+p5 d } _ Q hk.2 x2 (by lia) λ b' hb=>by
       have:=h b' (by simp [hb,lM])
       rw [mI,← Nat.add_assoc] at this
       exact this
end
set_option maxHeartbeats 0 in
theorem pO:∀ (n:Nat) (d:PyData) (v:Value) (as:List Addr) (A:Around) (s:Shared) (Q:Bool->Shared->Prop),kd d=true->wK d<=n->Reads s.heap v d as->Q true s->wpAny (model prog w) A (eqIsQuiet n v) Q E s
 | n,.int i,_,_,A,s,Q,_,_,x,h=>by cases x;rw [eqIsQuiet_byValue n rfl];exact adt h
 | n,.bool i,_,_,A,s,Q,_,_,x,h=>by cases x;rw [eqIsQuiet_byValue n rfl];exact adt h
 | 0,.tuple ds,_,_,A,s,Q,_,hn,_,_=>by rw [wK] at hn;lia
 | n+1,.tuple ds,_,_,A,s,Q,hk,hn,x,h=>by
   cases x with
   | @tuple a o vs m _ _ hg hc hd hr =>
     rw [wK] at hn
     unfold eqIsQuiet
     refine Wi (aoE ⟨_,hg,hc⟩ F.slot_tuple_eq.lookup ?_)
     show wpAny _ _ (isInstance (.ref a) (.type "tuple") >>= _) _ _ s
     refine Wi (wpAny_isInstance ⟨_,hg,hc⟩ isSubtype_tuple_tuple ?_)
     simp only [apn,anU,an2]
     refine Wi (apF hg hd ?_)
     refine Wi ?_
     show wpAny _ _ (forIn vs _ _) _ _ s
     rw [← apV]
     refine wpAny_forIn_list _ (λ rest r s'=>r.1=none/\s'=s/\∃ es as',yh es=true/\xk es<=n/\ReadsAll s.heap rest es as') _ ?_ ?_ _ _ ⟨rfl,rfl,ds,_,hk,by lia,hr⟩
     .
      rintro v rest r s' ⟨hr,rfl,es,as',h1,h2,h3⟩
      cases h3 with
      | @cons _ _ e es _ _ x1 x2 =>
        rw [yh,aeX] at h1
        rw [xk] at h2
        refine Wi (pO n e v _ _ _ _ h1.1 (by lia) x1 ?_)
        simp only [apn,anU,an2]
        exact adt ⟨rfl,rfl,es,_,h1.2,by lia,x2⟩
     . rintro ⟨r1,r2⟩ s' ⟨hq,rfl,_⟩
       have hq:r1=none:=hq
       subst hq
       exact adt h
 | _,.none,_,_,_,_,_,hk,_,_,_|_,.str _,_,_,_,_,_,hk,_,_,_|_,.list _,_,_,_,_,_,hk,_,_,_|_,.dict _,_,_,_,_,_,hk,_,_,_=>by rw [kd] at hk<;>first|cases hk|nofun
theorem Gi {a b:Addr} {d e:PyData} {as bs:List Addr} {A:Around} {s:Shared} {Q:Bool->Shared->Prop} (ra:Reads s.heap (.ref a) d as) (rb:Reads s.heap (.ref b) e bs) (ha:SeqAt.shaped d=true) (hb:SeqAt.shaped e=true) (ka:kd d=true) (kb:kd e=true) (hu:A.units+64<cLine)
   (h:Q (PyData.eqv d e) s):wpAny (model prog w) A (eqBool (.ref a) (.ref b)) Q E s:=by
 unfold eqBool
 try with_reducible refine anV ?_
 show wpAny _ _ (if (Value.ref a == Value.ref b)=true then _ else _) Q E s
 by_cases Aa:(Value.ref a == Value.ref b)=true
 .
  rw [acS Aa]
  have z:a=b:=by have:=eq_of_beq Aa;injection this
  subst z
  obtain rfl:=(Reads.unique ra _ _ rb).1
  rw [(wg d d ka ka).mpr rfl] at h
  exact Wi (wpAny_rule (adt h))
 . rw [acO Aa]
   exact Wi (show wpAny _ _ (compareOp .Eq (.ref a) (.ref b)) _ _ _ from SeqAt.compareEq_shaped ra rb ha hb hu (amJ h))
end
mutual
theorem sF {h h':Heap} (hk:∀ b o,h.get? b=some o->∀ n vs,o.data = .seq vs n->h'.get? b=some o):∀ (d:PyData) {v:Value} {as:List Addr},kd d=true->Reads h v d as->Reads h' v d as
 | _,_,_,_,.none => .none
 | _,_,_,_,.bool b => .bool b
 | _,_,_,_,.int i t => .int i t
 | _,_,_,_,.str x t => .str x t
 | _,_,_,k,.tuple h1 h2 h3 h4 => .tuple (hk _ _ h1 _ _ h3) h2 h3 (pR hk _ k h4)
 | _,_,_,k,.list h1 h2 h3 h4=>by rw [kd] at k<;>first|cases k|nofun
 | _,_,_,k,.dict h1 h2 h3 h4 h5=>by rw [kd] at k<;>first|cases k|nofun
theorem pR {h h':Heap} (hk:∀ b o,h.get? b=some o->∀ n vs,o.data = .seq vs n->h'.get? b=some o):∀ (ds:List PyData) {vs:List Value} {as:List Addr},yh ds=true->ReadsAll h vs ds as->ReadsAll h' vs ds as
 | _,_,_,_,.nil => .nil
 | _,_,_,k,.cons h1 h2 => .cons (sF hk _ (Bool.and_eq_true_iff.mp k).1 h1) (pR hk _ (Bool.and_eq_true_iff.mp k).2 h2)
end
noncomputable instance:DecidableEq PyData:=λ a b=>Classical.propDecidable (a=b)
def MS (h:Heap) (k:PyData) (a:Addr):Prop:=∃ d as,Reads h (.ref a) d as/\kd d=true/\SeqAt.shaped d=true/\wK d<=8/\rK d=k
noncomputable def sJ (prog:Program) (w:World):HeapKind prog w PyData where
 is:=MS
 hash:=pP
 draws:=p5
 room:=λ A=>A.units+64<cLine
 inj:=λ ⟨d,_,r,_,_,_,e⟩ ⟨d',_,r',_,_,_,e'⟩=>by
   obtain rfl:=(Reads.unique r _ _ r').1
   exact e.symm.trans e'
 keeps:=λ {h h' k a d o es ep} x ho hd hs=>by
   obtain ⟨x,as,r,k1,k2,k3,e⟩:=x
   refine ⟨x,as,sF (λ b ob q m vs hv=>?_) x k1 r,k1,k2,k3,e⟩
   rw [hs.2 b λ z=>?_]
   . exact q
   . subst z
     rw [ho] at q
     cases q
     rw [hd] at hv
     cases hv
 pyHash:=λ {A E s k a Q} hu ⟨d,as,r,k1,k2,k3,e⟩ h=>by
   subst e
   rw [uG d k1,vd d] at h
   exact sB d _ as A s Q k1 r (by lia) h
 eqBool:=λ {A E s x y a b Q} hu ⟨d,as,r,k1,k2,k3,e⟩ ⟨d',as',r',Oy,k2',k3',e'⟩ h=>by
   subst e e'
   refine Gi r r' k2 k2' k1 Oy hu ?_
   have q:PyData.eqv d d'=decide (rK d=rK d'):=by
     rw [amj,apR]
     exact wg d d' k1 Oy
   rw [q]
   exact h
 quiet:=λ {A E s k a Q} ⟨d,as,r,k1,k2,k3,e⟩ h=>pO 8 d _ as A s Q k1 k3 r h
end PySem
namespace L2
open PySem PySem.Spec PyProof.Rows Mth
variable {B:Int} {C:Addr} {H H':Hp} {L:List Addr} {l:List Nat} {out:Nat} {v:V} {xs ys:List V}
mutual
theorem Ch:∀ d:PyData,kd d=true->dS d=true
 | .bool _,_=>by simp [dS]
 | .int _,_=>by simp [dS]
 | .tuple ds,h=>ln.mpr (zq ds h)
 | .none,h | .str _,h | .list _,h | .dict _,h=>by rw [kd] at h<;>first|cases h|nofun
theorem zq:∀ ds:List PyData,yh ds=true->∀ d∈ds,dS d=true
 | [],_,d,h=>absurd h aaI
 | e::ds,h,d,m=>by
   rw [yh,aeX] at h
   rcases List.mem_cons.mp m with z|z
   . rw [z];exact Ch e h.1
   . exact zq ds h.2 d z
end
def iT (K:W.Frag) (H:Hp) (k:PyData) (b:Addr):Prop:=∃ d,Dn K H d (.ref b)/\kd d=true/\SeqAt.shaped d=true/\wK d<=8/\rK d=k
theorem iT.ts {K:W.Frag} {k:PyData} {b:Addr} (s:bw K H H') (h:iT K H k b):iT K H' k b:=by
 obtain ⟨d,h1,h2,h3,h4,h5⟩:=h
 exact ⟨d,Dn.ts s d (Ch d h2) h1,h2,h3,h4,h5⟩
section
variable {X:Cx} {pins:List (Addr×Obj)} {U:St} {H:Hp} {s:Shared}
theorem iT.is {k:PyData} {b:Addr} (I:Inv X pins U H s) (h:iT X.K H k b):MS s.heap k b:=by
 obtain ⟨d,h1,h2,h3,h4,h5⟩:=h
 obtain ⟨as,r⟩:=I.reads d h1 rfl
 exact ⟨d,as,r,h2,h3,h4,h5⟩
end
abbrev u6:=List (PyData×Addr×V)
abbrev XR:u6->List (PyData×Addr×Value)->Prop:=Paired λ p q=>p.1=q.1/\p.2.1=q.2.1/\RelV p.2.2 q.2.2
def DxP (P:Program) (w:World) (a:Addr) (az:u6) (h:Heap):Prop:=az.length<=sizeLine/\(a == sysModules)=false/\∃ xs,XR az xs /\
 ∃ o es ep,h.get? a=some o/\o.ExactDict/\o.data = .dict es ep/\es.toList=xs.map (entryOfKey (sJ P w))/\(xs.map (·.1)).Nodup
def xS (P:Program) (w:World) (a:Addr) (az:u6):HO:=.ext (DxP P w a az)
theorem Mj {P:Program} {w:World} {h:Heap} {a:Addr} {az:u6} (x:DxP P w a az h):cS P w H h a (xS P w a az):=by
 refine ⟨x,?_,λ h1 h2 ⟨z,y,xs,r,o,es,ep,e,q⟩ k=>⟨z,y,xs,r,o,es,ep,k o e,q⟩⟩
 obtain ⟨_,_,_,_,o,_,_,e,_⟩:=x
 exact ⟨o,e⟩
noncomputable def kS (az:u6) (k:PyData):Option V:=(az.find? λ x=>decide (x.1=k)).map (·.2.2)
noncomputable def j7 (az:u6) (k:PyData) (b:Addr) (v:V):u6:=if (kS az k).isSome then az.map λ x=>if x.1=k then (x.1,x.2.1,v) else x else az++[(k,b,v)]
theorem rR {az:u6} {xs:List (PyData×Addr×Value)} (r:XR az xs) (k:PyData):jy (kS az k) ((atKey xs k).map (·.2)):=by
 induction r with
 | nil=>exact True.intro
 | @cons p q ps qs h t ih =>
   obtain ⟨h1,h2,h3⟩:=h
   unfold kS atKey at ih ⊢
   rw [aiT,aiT,h1]
   by_cases e:q.1=k
   . rw [aga e];exact h3
   . rw [ad7 e];exact ih
theorem EQ {az:u6} {xs:List (PyData×Addr×Value)} (r:XR az xs) (k:PyData) {b:Addr} {u:Value} (rv:RelV v u):XR (j7 az k b v) (storedH xs k b u):=by
 unfold j7 storedH
 have e:(kS az k).isSome=(atKey xs k).isSome:=by rw [(rR r k).oW,aoM]
 rw [e]
 by_cases q:(atKey xs k).isSome=true
 .
  rw [acS q,acS q]
  clear e q
  induction r with
  | nil=>exact .nil
  | @cons p q ps qs h t ih =>
    refine .cons ?_ ih
    obtain ⟨h1,h2,h3⟩:=h
    unfold putAt
    dsimp only
    by_cases e:q.1=k
    . rw [acS e,acS (h1.trans e)];exact ⟨h1,h2,rv⟩
    . rw [acO e,acO (λ z=>e (h1.symm.trans z))];exact ⟨h1,h2,h3⟩
 . rw [acO q,acO q]
   exact aoS r ⟨rfl,rfl,rv⟩
theorem ya (az:u6) (k:PyData) (b:Addr) (v:V):(j7 az k b v).length<=az.length+1:=by
 unfold j7
 split<;>simp
theorem Gg {az:u6} {k:PyData} {b:Addr} {e:PyData×Addr×V} (h:e∈j7 az k b v):(∃ e'∈az,e'.1=e.1/\e'.2.1=e.2.1)∨e=(k,b,v):=by
 unfold j7 at h
 split at h
 . obtain ⟨x,hx,rfl⟩:=List.mem_map.mp h
   refine .inl ⟨x,hx,?_⟩
   split<;>exact ⟨rfl,rfl⟩
 . rcases List.mem_append.mp h with z|z
   . exact .inl ⟨e,z,rfl,rfl⟩
   . exact .inr (List.mem_singleton.mp z)
theorem tu (az:u6) (k k':PyData) (b:Addr) (v:V):kS (j7 az k b v) k'=if k'=k then some v else kS az k':=by
 unfold j7
 by_cases q:(kS az k).isSome=true
 .
  rw [acS q]
  by_cases e:k'=k
  .
   rw [acS e]
   subst e
   induction az with
   | nil=>simp [kS] at q
   | cons x az ih =>
     unfold kS at ih q ⊢
     rw [agt,aiT]
     by_cases z:x.1=k'
     . rw [acS z,aga z];rfl
     . rw [acO z,ad7 z]
       rw [aiT,ad7 z] at q
       exact ih q
  .
   rw [acO e]
   clear q
   induction az with
   | nil=>rfl
   | cons x az ih =>
     unfold kS at ih ⊢
     rw [agt,aiT,aiT]
     by_cases z:x.1=k
     . rw [acS z,ad7 (λ y:x.1=k'=>e (y.symm.trans z))]
       exact ih
     . rw [acO z]
       by_cases z':x.1=k'
       . rw [aga z']
       . rw [ad7 z']
         exact ih
 .
  rw [acO q]
  have q:kS az k=none:=by simpa using q
  unfold kS at q ⊢
  rw [List.find?_append]
  by_cases e:k'=k
  . rw [acS e,e]
    have z:(az.find? λ x=>decide (x.1=k))=none:=by simpa using q
    rw [z,aiT,aga rfl]
    rfl
  . rw [acO e,aiT,ad7 (λ y=>e y.symm),List.find?_nil,Option.or_none]
structure jI (P:Program) (w:World) (K:W.Frag) (H:Hp) (a:Addr) (az:u6):Prop where
 ob:H a=some (xS P w a az)
 keys:∀ e∈az,iT K H e.1 e.2.1
theorem jI.nil {P:Program} {w:World} {K:W.Frag} {a:Addr} (h:H a=some (xS P w a [])):jI P w K H a []:=⟨h,λ _ h=>absurd h aaI⟩
theorem jI.gf {P:Program} {w:World} {K:W.Frag} {a:Addr} {az:u6} (x:jI P w K H a az) (ts:bw K H H') (e:H' a=H a):jI P w K H' a az:=⟨e.trans x.ob,λ y hy=>(x.keys y hy).ts ts⟩
theorem jI.same {P:Program} {w:World} {K:W.Frag} {a:Addr} {az:u6} (x:jI P w K H a az) (s:aA H H'):jI P w K H' a az:=⟨s _ _ x.ob,λ y hy=>(x.keys y hy).ts s.ts⟩
theorem jI.put {P:Program} {w:World} {K:W.Frag} {a b:Addr} {az:u6} {k:PyData} (x:jI P w K H a az) (hk:iT K H k b):jI P w K (upd H a (xS P w a (j7 az k b v))) a (j7 az k b v):=by
 have ts:bw K H (upd H a (xS P w a (j7 az k b v))):=cF x.ob rfl
 refine ⟨ag,λ e he=>?_⟩
 rcases Gg he with ⟨e',m,e1,e2⟩|rfl
 . rw [← e1,← e2];exact (x.keys e' m).ts ts
 . exact hk.ts ts
section
variable {X:Cx} {pins:List (Addr×Obj)} {U:St} {H:Hp} {s:Shared} {a b:Addr} {az:u6} {k:PyData} {v:V}
theorem jI.dict (I:Inv X pins U H s) (x:jI X.prog X.w X.K H a az):az.length<=sizeLine/\(a == sysModules)=false/\∃ xs,XR az xs/\s.heap.DictOfH (sJ X.prog X.w) a xs:=by
 obtain ⟨z,y,xs,r,o,es,ep,h1,h2,h3,h4,h5⟩:=(show cS X.prog X.w H s.heap a (xS X.prog X.w a az) from I.cg a _ x.ob).1
 refine ⟨z,y,xs,r,o,es,ep,h1,h2,h3,h4,λ e he=>?_,h5⟩
 have all:∀ {l:u6} {m:List (PyData×Addr×Value)},XR l m->(∀ e∈l,iT X.K H e.1 e.2.1)->∀ x∈m,MS s.heap x.1 x.2.1:=by
   intro l m q
   induction q with
   | nil=>intro _ x hx;exact absurd hx aaI
   | @cons p q ps qs hq t ih =>
     intro hl x hx
     rcases List.mem_cons.mp hx with e|hx
     . subst e
       rw [← hq.1,← hq.2.1]
       exact (hl p afg).is I
     . exact ih (λ e he=>hl e (aeC _ he)) x hx
 exact all r x.keys e he
theorem wN {A:Around} {P:Program} {w:World} (hu:A.units+65<cLine):(sJ P w).room A.in1:=by
 show A.in1.units+64<cLine
 rw [apo]
 lia
end
def TL (P:Program) (w:World) (K:W.Frag) (td ty:TE):TE:=λ U H Q=>td U H λ x H1=>ty U H1 λ y H2=>∃ a b az k v,x = .ref a/\y = .ref b/\jI P w K H2 a az/\iT K H2 k b/\kS az k=some v/\Q v H2
inductive K2 (P:Program) (w:World) (K:W.Frag) (y:V) (x:V) (H:Hp) (Q:VK):Prop
 | mk (a b az k:_) (_:x = .ref a) (_:y = .ref b) (_:jI P w K H a az) (_:iT K H k b) (_:Q (.bl (!(kS az k).isSome)) H)
def XT (P:Program) (w:World) (K:W.Frag) (td ty tv:TE):TS:=λ D U H=>tv U H λ v H1=>td U H1 λ x H2=>ty U H2 λ y H3=>∃ a b az k,x = .ref a/\y = .ref b/\jI P w K H3 a az/\iT K H3 k b/\az.length<sizeLine /\
 D.nx U (upd H3 a (xS P w a (j7 az k b v)))
def Sz (P:Program) (w:World):TE:=λ _ H Q=>∀ p,H p=none->Q (.ref p) (upd H p (xS P w p []))
theorem cA.u65 {k:Nat} {A:Around} (r:cA k A):A.units+65<cLine:=by have:=r.un;lia
section
variable {X:Cx} {o i e value:Expr} {pos pos' pF:Pos} {td ty tv:TE} {P:Program} {w:World} {K:W.Frag}
theorem KE (hP:X.prog=P) (hw:X.w=w):PE X (.Dict [] [] pos) (Sz P w):=by
 subst hP hw
 exact λ pins s U H Q I h=>wpAny_Dict_empty ⟨.ref s.heap.objs.size,_,I.laid (a:=s.heap.objs.size) (o:=xS X.prog X.w s.heap.objs.size []) (t':=s.toks) (λ _ _ q=>aas _ q) (aat _)
   (Mj ⟨aiv _,beq_eq_false_iff_ne.mpr (anq (ae6 I.big)),[],.nil,_,#[],0,afq _ rfl,⟨rfl,rfl,rfl⟩,rfl,rfl,aob⟩),rfl,h _ (I.cg.fresh (aat _))⟩
theorem IU (hP:X.prog=P) (hw:X.w=w) (hK:X.K=K) (hu:X.A.units+65<cLine) (ho:PE X o td) (hi:PE X i ty) (hs:Mo i):PE X (.Subscript o i pos) (TL P w K td ty):=by
 subst hP hw hK
 intro pins s U H Q I h
 refine CO PySem.F.slot_dict_getitem.lookup hs (cG (ho pins s U H _ I h) λ u s1 ⟨x,H1,I1,rx,q1⟩=>cG (hi pins s1 U H1 _ I1 q1) λ iv s2 ⟨y,H2,I2,ry,a,b,az,k,v,ex,ey,g,hk,hv,q2⟩=>?_)
 subst ex ey
 obtain rfl:u=Value.ref a:=rx
 obtain rfl:iv=Value.ref b:=ry
 obtain ⟨z,hd,xs,rel,dd⟩:=g.dict I2
 refine ⟨dd.typeIs,?_⟩
 obtain ⟨w',hw,zZ⟩:=jy.some_of (v:=v) (o:=(atKey xs k).map (·.2)) (by rw [← hv];exact rR rel k)
 obtain ⟨p,hp,Gr⟩:=Option.map_eq_some_iff.mp hw
 refine wpAny_getItem_heap (wN hu) (hk.is I2) dd hp ?_
 rw [Gr]
 exact ⟨v,H2,I2.tok _,zZ,q2⟩
theorem DV (hP:X.prog=P) (hw:X.w=w) (hK:X.K=K) (hu:X.A.units+65<cLine):iY X (compareOp .NotIn) (K2 P w K):=by
 subst hP hw hK
 intro pins s U H x y v u Q I rx ry h
 obtain ⟨a,b,az,k,rfl,rfl,g,hk,q2⟩:=h
 obtain rfl:u=Value.ref a:=ry
 obtain rfl:v=Value.ref b:=rx
 obtain ⟨z,hd,xs,rel,dd⟩:=g.dict I
 refine wpAny_notIn_heap (wN hu) (hk.is I) hd dd ⟨.bl _,H,I.tok _,?_,q2⟩
 have q:=(rR rel k).oW
 rw [aoM] at q
 rw [q]
 rfl
theorem Kd (hP:X.prog=P) (hw:X.w=w) (hK:X.K=K) (hu:X.A.units+65<cLine) (ho:PE X o td) (hi:PE X i ty) (hv:PE X value tv) (hs:swapsWith value (some (.Subscript o i pos')) pos.line X.env=pure false) :
   PS X (.Assign [.Subscript o i pos'] value pos) (XT P w K td ty tv):=by
 subst hP hw hK
 intro pins s U H D I h
 refine wpAny_Assign_Subscript (cG (hv pins s U H _ I h) λ r s1 ⟨v,H1,I1,rv,q1⟩=>cG (ho pins s1 U H1 _ I1 q1) λ u s2 ⟨x,H2,I2,rx,q2⟩=>cG (hi pins s2 U H2 _ I2 q2) λ iv s3 ⟨y,H3,I3,ry,a,b,az,k,ex,ey,g,hk,hl,q3⟩=>?_) hs
 subst ex ey
 obtain rfl:u=Value.ref a:=rx
 obtain rfl:iv=Value.ref b:=ry
 obtain ⟨z,hd,xs,rel,dd⟩:=g.dict I3
 have hz:xs.length<=sizeLine:=by rw [← anX rel];exact z
 have RR:(j7 az k b v).length<=sizeLine:=agB (ya az k b v) hl
 refine wpAny_setItem_heap (hsz:=hz) (wN hu) (hk.is I3) dd λ h' Gk hs=>⟨U,_,?_,q3⟩
 obtain ⟨q,es,ep,hq,h2,h3,h4,_,h5⟩:=Gk
 exact qJ I3 (by rw [g.ob];exact True.intro) hs ⟨q,hq⟩ (Mj ⟨RR,hd,_,EQ rel k rv,q,es,ep,hq,h2,h3,h4,h5⟩)
end
section
variable {X:Cx}
inductive afo (K:W.Frag) (x:V) (y:V) (H:Hp) (Q:VK):Prop
 | mk (p xs:_) (_:x = .b9) (_:y = .ref p) (_:aT K H p xs) (_:(∀ v∈xs,v = .b9∨∃ a ys,v = .ref a/\aT K H a ys)) (_:Q (.bl (decide (V.b9∈xs))) H)
theorem G9 {s:Shared} {pins:List (Addr×Obj)} {U:St} (I:Inv X pins U H s) (hu:X.A.units+1<cLine):∀ {xs:List V} {br:List Value},Vals xs br->(∀ v∈xs,v = .b9∨∃ a ys,v = .ref a/\aT X.K H a ys) ->
   (∀ u∈br,SeqAt.EqAt X.A.in1 s u .none (u == Value.none))/\(br.any λ u=>u == Value.none)=decide (V.b9∈xs)
 | _,_,.nil,_=>⟨λ _ h=>absurd h aaI,rfl⟩
 | x::xs,u::br,.cons r t,h=>by
   obtain ⟨i1,i2⟩:=G9 I hu t λ v hv=>h v (aeC _ hv)
   rcases h x afg with rfl|⟨a,ys,rfl,hq⟩
   .
    obtain rfl:u=Value.none:=r
    refine ⟨λ w hw=>?_,?_⟩
    . rcases List.mem_cons.mp hw with e|hw
      . rw [e];exact SeqAt.EqAt.same _
      . exact i1 w hw
    . rw [anx,aga (show V.b9∈V.b9::xs from afg)]
      rfl
   .
    obtain rfl:u=Value.ref a:=r
    obtain ⟨jts,_,pl,_⟩:=I.list hq
    refine ⟨λ w hw=>?_,?_⟩
    . rcases List.mem_cons.mp hw with e|hw
      . rw [e];exact SeqAt.EqAt.list_none pl.isList (by rw [apo];exact hu)
      . exact i1 w hw
    . rw [anx,i2]
      have e:(V.b9∈V.ref a::xs)↔V.b9∈xs:=by simp
      rw [show (Value.ref a == Value.none)=false from rfl,Bool.false_or]
      exact (decide_eq_decide.mpr e).symm
theorem Oh (hu:X.A.units+1<cLine):iY X (compareOp .In) (afo X.K):=by
 intro pins s U H x y v u Q I rx ry h
 obtain ⟨p,xs,rfl,rfl,hq,hx,q⟩:=h
 obtain rfl:u=Value.ref p:=ry
 obtain rfl:v=Value.none:=rx
 obtain ⟨br,r,pl,hz⟩:=I.list hq
 obtain ⟨h1,h2⟩:=G9 I hu r hx
 refine SeqAt.in_listAt (λ u=>u == Value.none) pl.isList (λ w hw=>h1 w (by simpa using hw)) ⟨.bl _,H,I,rfl,?_⟩
 rw [show (br.toArray.any λ u=>u == Value.none)=(br.any λ u=>u == Value.none) by simp,h2]
 exact q
inductive Lr (K:W.Frag) (x:V) (y:V) (H:Hp) (Q:VK):Prop
 | mk (a b xs ys:_) (_:x = .ref a) (_:y = .ref b) (_:bP K H a xs) (_:bP K H b ys) (_:xs.length+ys.length<=sizeLine) (_:∀ q H',aA H H'->bP K H' q (xs++ys)->Q (.ref q) H')
theorem IX:iY X (binaryOp .Add) (Lr X.K):=by
 intro pins s U H x y v u Q I rx ry h
 obtain ⟨a,b,xs,ys,rfl,rfl,ha,hb,hz,qq⟩:=h
 by_cases hx:xs=[]
 .
  cases rx
  cases ry
  obtain ⟨br,r1,p1,_⟩:=I.tuple ha
  obtain ⟨mY,r2,p2,_⟩:=I.tuple hb
  obtain ⟨⟨cls,dd,data,sl⟩,ho,hc,n,hd⟩:=id p1
  obtain ⟨⟨ah4,MG,data2,Eu⟩,NH,VP,n2,hd2⟩:=id p2
  simp only at hc hd VP hd2
  subst hc hd VP hd2
  have e0:br=[]:=r1.qL.mpr hx
  refine concat_meets ⟨_,ho,rfl⟩ ⟨_,NH,rfl⟩ aph seq_tuple_add aop aoh (aoe _ _)
    (tuple_addW0 a b br.toArray mY.toArray n n2 dd MG sl Eu (by rw [e0];rfl)) ⟨ho,NH,⟨.ref b,H,I,rfl,qq b H (aA.refl _) (by rw [hx];exact hb)⟩⟩
 . exact CG pins s U H _ _ v u Q I rx ry ⟨a,b,xs,ys,rfl,rfl,ha,hb,hx,hz,λ e=>qq a H (aA.refl _) (by rw [e,alw];exact ha),λ _ p hp=>qq p _ (ak hp) (bP.of ag)⟩
theorem y0 {K:W.Frag} (hK:X.K=K):iY X (binaryOp .Add) (Lr K):=by subst hK;exact IX
end
abbrev rfs (h d:Addr):List (Str×V):=[("hold",.ref h),("spreads",.ref d)]
def eK (m:ao) (i:Nat) (bs:List Nat) (fired:Bool):Option (List Nat) :=
 if jp (m.rows.getD i []) (fA m i bs fired) (fB m i bs fired)=true then some (dW (m.rows.getD i []) (fA m i bs fired) (fB m i bs fired)) else none
def e9 (L:List Addr) (H:Hp) (v:V):Option (List Nat)->Prop
 | none=>v = .b9
 | some l=>∃ q,v = .ref q/\q∉L/\H q=some (.lst (l.map ap))
def kU (i:Nat) (bs:List Nat) (f:Bool):PyData:=.tuple [.int i,.tuple (bs.map jw),.int (if f then 1 else 0)]
theorem yI:∀ l:List Nat,yh (l.map jw)=true
 | []=>rfl
 | _::l=>by rw [agt,yh,yI l];rfl
theorem uO:∀ l:List Nat,mC (l.map jw)=l.map jw
 | []=>rfl
 | _::l=>by rw [agt,mC,uO l];rfl
theorem uw:∀ l:List Nat,xk (l.map jw)=0
 | []=>rfl
 | _::l=>by rw [agt,xk,uw l];rfl
theorem zO:∀ {l r:List Nat},l.map jw=r.map jw->l=r
 | [],[],_=>rfl
 | [],_::_,h=>by cases h
 | _::_,[],h=>by cases h
 | a::l,b::r,h=>by
   obtain ⟨h1,h2⟩:=aoJ h
   have h1:(a:Int)=(b:Int):=apI h1
   rw [zO h2,apl h1]
theorem Fa {i i':Nat} {bs Ru:List Nat} {f f':Bool} (h:kU i bs f=kU i' Ru f'):i=i'/\bs=Ru/\f=f':=by
 have h:=PyData.tuple.inj h
 obtain ⟨h1,h⟩:=aoJ h
 obtain ⟨h2,h⟩:=aoJ h
 obtain ⟨h3,_⟩:=aoJ h
 refine ⟨apl (apI h1),zO (PyData.tuple.inj h2),?_⟩
 cases f<;>cases f'<;>first|rfl|(exact absurd (apI h3) (by decide))
theorem FS {n:Nat}:CP (n+1) (.tuple (l.map jw)):=by
 intro d hd
 obtain ⟨i,_,rfl⟩:=List.mem_map.mp hd
 cases n<;>exact trivial
section
variable {K:W.Frag} {H H':Hp}
theorem Fp {p:Addr} (h:bP K H p (l.map ap)):Dn K H (.tuple (l.map jw)) (.ref p):=fW h (jC l)
theorem By {p pb:Addr} {i:Nat} {bs:List Nat} {f:Bool} (h:bP K H p [ap i,.ref pb,.bl f]) (hb:bP K H pb (bs.map ap)):iT K H (kU i bs f) p:=by
 refine ⟨.tuple [.int i,.tuple (bs.map jw),.bool f],fW h (bC rfl (bC (Fp hb) (bC rfl fU))),?_,fX (n:=2) ?_ (by decide),?_,?_⟩
 . simp only [kd,yh,yI];rfl
 .
  intro d hd
  simp only [acs,aaI,agT] at hd
  rcases hd with rfl|rfl|rfl
  . exact trivial
  . exact FS
  . exact trivial
 . simp only [wK,xk,uw];decide
 . simp only [rK,mC,uO];rfl
theorem e9.but {L':List Addr} {d:Addr} {o:HO} {r:Option (List Nat)} (hd:H d=some o) (no:∀ xs,o ≠ .lst xs) (b:∀ c u,H c=some u->c≠d->c∉L->H' c=some u) (hL:∀ c∈L',c∈L) (h:e9 L H v r):e9 L' H' v r:=by
 cases r with
 | none=>exact h
 | some l =>
   obtain ⟨q,e,n,hq⟩:=h
   exact ⟨q,e,λ z=>n (hL q z),b q _ hq (λ z=>by rw [z,hd] at hq;exact no _ (ac2 hq)) n⟩
theorem e9.same {r:Option (List Nat)} (s:aA H H') (h:e9 L H v r):e9 L H' v r:=by
 cases r with
 | none=>exact h
 | some l =>
   obtain ⟨q,e,n,hq⟩:=h
   exact ⟨q,e,n,s _ _ hq⟩
theorem e9.new {D:Addr} {r:Option (List Nat)} (hD:H D=none) (h:e9 L H v r):e9 (D::L) H v r:=by
 cases r with
 | none=>exact h
 | some l =>
   obtain ⟨q,e,n,hq⟩:=h
   exact ⟨q,e,λ z=>(List.mem_cons.mp z).elim (λ z=>by rw [z,hD] at hq;cases hq) n,hq⟩
end
theorem mB {P:Program} {w:World} {a:Addr} {az:u6} (xs:List V):xS P w a az ≠ .lst xs:=λ h=>by cases h
structure gy (P:Program) (w:World) (K:W.Frag) (C CR:Addr) (L:List Addr) (H:Hp) (x d a:Addr) (fp:List Addr) (m:ao) (c:Nat):Prop where
 ins:∃ dx,H x=some (.ins CR dx (rfs a d))
 hold:aL K C H a fp m
 nd:d∉fp
 Yr:∃ az,jI P w K H d az/\az.length<=c/\∀ i bs f v,kS az (kU i bs f)=some v->e9 L H v (eK m i bs f)
section
variable {P:Program} {w:World} {K:W.Frag} {C CR:Addr} {L L':List Addr} {H H':Hp} {x d a:Addr} {fp:List Addr} {m:ao} {c:Nat}
theorem gy.same (r:gy P w K C CR L H x d a fp m c) (s:aA H H'):gy P w K C CR L H' x d a fp m c:=by
 obtain ⟨⟨dx,hx⟩,hh,nd,az,hk,hl,hv⟩:=r
 exact ⟨⟨dx,s _ _ hx⟩,hh.same s,nd,az,hk.same s,hl,λ i bs f v e=>(hv i bs f v e).same s⟩
theorem gy.more (r:gy P w K C CR L H x d a fp m c) {c':Nat} (h:c<=c'):gy P w K C CR L H x d a fp m c':=by
 obtain ⟨i,hh,nd,az,hk,hl,hv⟩:=r
 exact ⟨i,hh,nd,az,hk,agB hl h,hv⟩
theorem gy.less (r:gy P w K C CR L H x d a fp m c) (h:∀ b∈L',b∈L):gy P w K C CR L' H x d a fp m c:=by
 obtain ⟨i,hh,nd,az,hk,hl,hv⟩:=r
 exact ⟨i,hh,nd,az,hk,hl,λ i bs f v e=>(hv i bs f v e).but hk.ob mB (λ _ _ e _ _=>e) h⟩
theorem gy.new (r:gy P w K C CR L H x d a fp m c) {D:Addr} (h:H D=none):gy P w K C CR (D::L) H x d a fp m c:=by
 obtain ⟨i,hh,nd,az,hk,hl,hv⟩:=r
 exact ⟨i,hh,nd,az,hk,hl,λ i bs f v e=>(hv i bs f v e).new h⟩
theorem gy.write (r:gy P w K C CR L H x d a fp m c) {D:Addr} (h:H D=some (.lst xs)) (hD:D∈L) (nf:D∉fp):gy P w K C CR L (upd H D (.lst ys)) x d a fp m c:=by
 obtain ⟨⟨dx,hx⟩,hh,nd,az,hk,hl,hv⟩:=r
 have ts:bw K H (upd H D (.lst ys)):=cF h rfl
 have bu:∀ b o,H b=some o->b≠D->(upd H D (.lst ys)) b=some o:=λ b o e n=>by rw [ax n];exact e
 have nx:x≠D:=λ z=>by rw [z,h] at hx;cases hx
 have nD:d≠D:=λ z=>by have:=hk.ob;rw [z,h] at this;cases this
 exact ⟨⟨dx,bu _ _ hx nx⟩,hh.IS bu ts nf,nd,az,hk.gf ts (ax nD),hl,λ i bs f v e=>(hv i bs f v e).but hk.ob mB (λ b o e _ n=>bu b o e λ z=>n (z ▸ hD)) λ _ h=>h⟩
theorem gy.put (r:gy P w K C CR L H x d a fp m c) {az:u6} {i:Nat} {bs:List Nat} {f:Bool} {b:Addr} (hk:jI P w K H d az) (hl:az.length<=c) (hv:∀ i bs f v,kS az (kU i bs f)=some v->e9 L H v (eK m i bs f)) (hb:iT K H (kU i bs f) b) (hs:e9 L H v (eK m i bs f)) :
   gy P w K C CR L (upd H d (xS P w d (j7 az (kU i bs f) b v))) x d a fp m (c+1)/\m7 [d] H (upd H d (xS P w d (j7 az (kU i bs f) b v)))/\bw K H (upd H d (xS P w d (j7 az (kU i bs f) b v)))/\e9 L (upd H d (xS P w d (j7 az (kU i bs f) b v))) v (eK m i bs f):=by
 obtain ⟨⟨dx,hx⟩,hh,nd,_⟩:=r
 have bu:∀ b' o,H b'=some o->b'≠d->(upd H d (xS P w d (j7 az (kU i bs f) b v))) b'=some o:=λ c o e n=>by rw [ax n];exact e
 have ts:bw K H (upd H d (xS P w d (j7 az (kU i bs f) b v))):=cF hk.ob rfl
 have nx:x≠d:=λ z=>by rw [z,hk.ob] at hx;cases hx
 refine ⟨⟨⟨dx,by rw [ax nx];exact hx⟩,hh.IS bu ts nd,nd,_,hk.put hb,agB (ya ..) (Nat.succ_le_succ hl),λ i' Ru f' v' e=>?_⟩,λ c o e n=>bu c o e λ z=>n (List.mem_singleton.mpr z),ts,hs.but hk.ob mB (λ c o e n _=>bu c o e n) λ _ h=>h⟩
 rw [tu] at e
 by_cases q:kU i' Ru f'=kU i bs f
 .
  rw [acS q] at e
  obtain ⟨rfl,rfl,rfl⟩:=Fa q
  cases e
  exact hs.but hk.ob mB (λ c o e n _=>bu c o e n) λ _ h=>h
 . rw [acO q] at e
   exact (hv i' Ru f' v' e).but hk.ob mB (λ c o e n _=>bu c o e n) λ _ h=>h
end
def bR (rows:List (List Nat)):List (List Nat):=rows.foldl (λ cs row=>cs.flatMap λ c=>row.map λ b=>c++[b]) [[]]
theorem j4 (rows:List (List Nat)) (r:List Nat):bR (rows++[r])=(bR rows).flatMap λ c=>r.map λ b=>c++[b]:=by
 unfold bR
 rw [akL]
 rfl
theorem mX {α β:Type} {k:Nat} {f:α->List β}:∀ {l:List α},(∀ a,(f a).length<=k)->(l.flatMap f).length<=l.length * k
 | [],_=>by simp
 | a::l,h=>by
   rw [List.flatMap_cons,abi,afc,Nat.succ_mul]
   have:=mX (l:=l) h
   have:=h a
   lia
theorem jd {rows:List (List Nat)} (h:∀ r∈rows,r.length<=6):∀ i,(bR (rows.take i)).length<=6 ^ i
 | 0=>by rw [List.take_zero];decide
 | i+1=>by
   by_cases hi:i<rows.length
   . rw [List.take_succ_eq_append_getElem hi,j4]
     refine agB (mX (k:=6) λ a=>by rw [AM];exact h _ (ab8 hi)) ?_
     rw [aos]
     exact Nat.mul_le_mul_right 6 (jd h i)
   . have e:rows.take (i+1)=rows.take i:=by rw [anB (by lia),anB (by lia)]
     rw [e,aos]
     have:=jd h i
     lia
theorem snoc_ind {α:Type} {p:List α->Prop} (h0:p []) (h1:∀ l a,p l->p (l++[a])) (l:List α):p l:=by
 rw [← List.reverse_reverse l]
 induction l.reverse with
 | nil=>exact h0
 | cons a r ih=>rw [List.reverse_cons];exact h1 _ _ ih
theorem gb {rows:List (List Nat)}:∀ {c:List Nat},c∈bR rows↔c.length=rows.length/\∀ i,i<rows.length->c.getD i 0∈rows.getD i []:=by
 refine snoc_ind (p:=λ rows=>∀ {c:List Nat},c∈bR rows↔c.length=rows.length/\∀ i,i<rows.length->c.getD i 0∈rows.getD i []) ?_ ?_ rows
 .
  intro c
  constructor
  . intro h
    have:c=[]:=by simpa [bR] using h
    rw [this]
    exact ⟨rfl,λ i h=>absurd h (an4 _)⟩
  . rintro ⟨h,_⟩
    rw [List.length_eq_zero_iff.mp h]
    simp [bR]
 .
  intro rows r ih c
  rw [j4,List.mem_flatMap]
  constructor
  .
   rintro ⟨a,ha,h⟩
   obtain ⟨b,hb,rfl⟩:=List.mem_map.mp h
   obtain ⟨l,hi⟩:=ih.mp ha
   refine ⟨by rw [abi,abi,l];rfl,λ i h=>?_⟩
   rw [abi,ajo] at h
   by_cases e:i<rows.length
   . rw [OQ,OQ,aft (l₁:=a) (by lia),aft e]
     have:=hi i e
     rw [OQ,OQ] at this
     exact this
   . have e:i=rows.length:=by lia
     subst e
     rw [OQ,OQ,← l,an5,l,an5]
     exact hb
  .
   rintro ⟨l,hi⟩
   rw [abi,ajo] at l hi
   have ne:c≠[]:=λ z=>by rw [z] at l;simp at l
   refine ⟨c.dropLast,ih.mpr ⟨by rw [List.length_dropLast,l];rfl,λ i h=>?_⟩,List.mem_map.mpr ⟨c.getLast ne,?_,List.dropLast_concat_getLast ne⟩⟩
   . have:=hi i (by lia)
     rw [OQ,OQ,aft h] at this
     rw [OQ,OQ,List.getElem?_dropLast,acS (by lia)]
     exact this
   .
    have:=hi rows.length (by lia)
    rw [OQ,OQ,an5] at this
    rw [List.getLast_eq_getElem]
    rw [afY (by lia)] at this
    have e:c.length - 1=rows.length:=by lia
    simp only [e]
    exact this
inductive A7 (a b c d e f g:Prop):Prop|mk (_:a) (_:b) (_:c) (_:d) (_:e) (_:f) (_:g)
def ph (m:ao) (s:d6) (b i:Nat):Option (List Nat):=eK m i s.aH (b.testBit i)
def kN (m:ao) (s:d6) (b:Nat):Bool:=(List.range m.rows.length).all λ i=>(ph m s b i).isSome
def cR (m:ao) (s:d6) (b:Nat):List (List Nat):=(List.range m.rows.length).map λ i=>(ph m s b i).getD []
def ji (m:ao) (s:d6) (o out:Nat):List d6:=(bR (cR m s (Ord.off o out))).map λ c=>s.behind m c o out
def eD (m:ao) (s:d6) (o:Nat):List Nat:=Bit.parts (Bit.rooms (s.may m o))
def t7 (m:ao) (s:d6) (o:Nat):List d6:=(eD m s o).flatMap (ji m s o)
def Refs {α:Type} (R:Addr->α->Prop) (xs:List V) (l:List α):Prop:=Paired (λ v a=>∃ p,v = .ref p/\R p a) xs l
theorem Refs.imp {α:Type} {R S:Addr->α->Prop} {l:List α} (h:Refs R xs l) (f:∀ p a,R p a->S p a):Refs S xs l:=Paired.EM h λ _ _ ⟨p,e,r⟩=>⟨p,e,f p _ r⟩
theorem Refs.nil {α:Type} {R:Addr->α->Prop}:Refs R [] ([]:List α):=Paired.nil
theorem Refs.snoc {α:Type} {R:Addr->α->Prop} {l:List α} {p:Addr} {a:α} (h:Refs R xs l) (r:R p a):Refs R (xs++[.ref p]) (l++[a]):=aoS h ⟨p,rfl,r⟩
theorem Refs.append {α:Type} {R:Addr->α->Prop}:∀ {xs ys:List V} {l r:List α},Refs R xs l->Refs R ys r->Refs R (xs++ys) (l++r)
 | _,_,_,_,Paired.nil,h=>h
 | _,_,_,_,Paired.cons a t,h=>Paired.cons a (Refs.append t h)
theorem Refs.length {α:Type} {R:Addr->α->Prop} {l:List α} (h:Refs R xs l):xs.length=l.length:=anX h
theorem Refs.get {α:Type} {R:Addr->α->Prop}:∀ {xs:List V} {l:List α} {i:Nat} {v:V},Refs R xs l->xs[i]?=some v->∃ p a,v = .ref p/\l[i]?=some a/\R p a
 | _,_,_,_,Paired.nil,h=>by simp at h
 | _,_,0,_,Paired.cons ⟨p,e,r⟩ _,h=>by simp at h;exact ⟨p,_,by rw [← h,e],rfl,r⟩
 | _,_,i+1,_,Paired.cons _ t,h=>by
   obtain ⟨p,a,h1,h2,h3⟩:=Refs.get (i:=i) t (by simpa using h)
   exact ⟨p,a,h1,by simpa using h2,h3⟩
abbrev Jt (K:W.Frag) (H:Hp):List V->List (List Nat)->Prop:=Refs λ t c=>bP K H t (c.map ap)
abbrev uE (K:W.Frag) (H:Hp):List V->List d6->Prop:=Refs (gd K H)
def Ol (m:ao) (s:d6):Prop:=∀ i b,i<m.rows.length->(b=true->m.has i=true)->dU 1000 (fA m i s.aH b)/\dU 1000 (fB m i s.aH b)
section
variable (P:Program) (w:World) (K:W.Frag) (C CR:Addr)
inductive CT  (vs:List V) (H:Hp) (Q:VK) (_E:XK):Prop
 | mk (a fp m:_) (i:Nat) (r v1 v2 f g:_) (_:vs=[.ref a,ap i,v1,v2]) (_:aL K C H a fp m) (_:m.rows[i]?=some r) (_:Dn K H (dR f) v1) (_:Dn K H (dR g) v2) (_:dU 1000 f) (_:dU 1000 g) (_:∀ p H',H p=none->aA H H'->H' p=some (.lst ((dW r f g).map ap))->Q (.ref p) H')
inductive AG  (vs:List V) (H:Hp) (Q:VK) (_E:XK):Prop
 | mk (p xs rows:_) (_:vs=[.ref p]) (_:aT K H p xs) (_:Refs (λ q (r:List Nat)=>aT K H q (r.map ap)) xs rows) (_:rows.length<=4) (_:(∀ r∈rows,r.length<=6)) (_:∀ q ys H',aA H H'->H' q=some (.lst ys)->Jt K H' ys (bR rows)->Q (.ref q) H')
inductive Ep  (vs:List V) (H:Hp) (Q:VK) (_E:XK):Prop
 | mk (x dx a fp m:_) (_:vs=[.ref x,.ref a]) (_:H x=some (.ins CR dx [])) (_:aL K C H a fp m) (_:x∉fp) (_:∀ d H',m7 [x] H H'->bw K H H'->H d=none->gy P w K C CR [] H' x d a fp m 0->Q .b9 H')
inductive El  (vs:List V) (H:Hp) (Q:VK) (_E:XK):Prop
 | mk (x d a fp m c:_) (i:Nat) (pb bs f L:_) (_:vs=[.ref x,ap i,.ref pb,.bl f]) (_:gy P w K C CR L H x d a fp m c) (_:(∀ b∈L,H b≠none)) (_:c<=1000000) (_:i<m.rows.length) (_:bP K H pb (bs.map ap)) (_:bs.length=m.rows.length) (_:(∀ j,j<m.rows.length->bs.getD j 0+1<(m.rows.getD j []).length)) (_:(f=true->∃ z,m.aD[i]?=some (some z))) (_:dU 1000 (fA m i bs f)) (_:dU 1000 (fB m i bs f)) (_:∀ v H',m7 [d] H H'->bw K H H'->gy P w K C CR L H' x d a fp m (c+1)->e9 L H' v (eK m i bs f)->Q v H')
inductive Ds  (vs:List V) (H:Hp) (Q:VK) (_E:XK):Prop
 | mk (x d a fp m c p s:_) (o:Nat) (_:vs=[.ref x,.ref p,ap o]) (_:gy P w K C CR [] H x d a fp m c) (_:c<=900000) (_:gd K H p s) (_:fG m s) (_:o &&& m.ws=o) (_:(∀ out∈eD m s o,cC m s o out)) (_:Ol m s) (_:((∃ out∈eD m s o,kN m s (Ord.off o out)=false)->∀ H',m7 [d] H H'->bw K H H'->gy P w K C CR [] H' x d a fp m (c+64)->Q .b9 H')) (_:((∀ out∈eD m s o,kN m s (Ord.off o out)=true)->∀ q xs H',m7 [d] H H'->bw K H H'->gy P w K C CR [] H' x d a fp m (c+64)->H' q=some (.lst xs)->uE K H' xs (t7 m s o)->Q (.ref q) H'))
inductive ym  (vs:List V) (H:Hp) (Q:VK) (_E:XK):Prop
 | mk (a fp m p s:_) (o:Nat) (_:vs=[.ref a,.ref p,ap o]) (_:aL K C H a fp m) (_:gd K H p s) (_:fG m s) (_:o &&& m.ws=o) (_:(∀ out∈eD m s o,cC m s o out)) (_:Ol m s) (_:((∃ out∈eD m s o,kN m s (Ord.off o out)=false)->∀ H',aA H H'->Q .b9 H')) (_:((∀ out∈eD m s o,kN m s (Ord.off o out)=true)->∀ q xs H',aA H H'->H' q=some (.lst xs)->uE K H' xs (t7 m s o)->Q (.ref q) H'))
end
theorem CC:∀ {acc:List V} {rs:List (Option (List Nat))},Paired (e9 L H) acc rs->∀ v∈acc,v = .b9∨∃ a ys,v = .ref a/\H a=some (.lst ys)
 | _,_,Paired.nil,v,h=>absurd h aaI
 | _,r::_,Paired.cons a t,v,h=>by
   rcases List.mem_cons.mp h with e|h
   . subst e
     cases r with
     | none=>exact .inl a
     | some l=>obtain ⟨q,e,_,hq⟩:=a;exact .inr ⟨q,_,e,hq⟩
   . exact CC t v h
theorem sC:∀ {acc:List V} {rs:List (Option (List Nat))},Paired (e9 L H) acc rs->(V.b9∈acc↔none∈rs)
 | _,_,Paired.nil=>by simp
 | _,r::_,Paired.cons a t=>by
   rw [acs,acs,sC t]
   cases r with
   | none=>have a:_=V.b9:=a;rw [a];simp
   | some l=>obtain ⟨q,e,_⟩:=a;rw [e];simp
theorem zp:∀ {acc:List V} {rs:List (Option (List Nat))},Paired (e9 L H) acc rs->none∉rs->Refs (λ q (r:List Nat)=>H q=some (.lst (r.map ap))) acc (rs.map λ r=>r.getD [])
 | _,_,Paired.nil,_=>Paired.nil
 | _,r::_,Paired.cons a t,h=>by
   rw [acs,an3] at h
   cases r with
   | none=>exact absurd rfl h.1
   | some l=>obtain ⟨q,e,_,hq⟩:=a;exact Paired.cons ⟨q,e,hq⟩ (zp t h.2)
theorem uv {m:ao} {s:d6} {b:Nat}:none∈(List.range m.rows.length).map (ph m s b)↔kN m s b=false:=by
 unfold kN
 rw [List.all_eq_false,List.mem_map]
 constructor
 . rintro ⟨i,hi,e⟩;exact ⟨i,hi,by rw [e];decide⟩
 . rintro ⟨i,hi,e⟩;exact ⟨i,hi,by simpa using e⟩
theorem Kc (m:ao) (s:d6) (b:Nat):((List.range m.rows.length).map (ph m s b)).map (λ r=>r.getD [])=cR m s b:=by
 unfold cR
 rw [anM]
 rfl
theorem xX {m:ao} (wf:m.Wf) {s:d6} {b:Nat}:∀ r∈cR m s b,r.length<=6:=λ r hr=>by
 obtain ⟨i,hi,rfl⟩:=List.mem_map.mp hr
 have hi:=List.mem_range.mp hi
 have hl:=wf.len _ (ab8 hi)
 unfold ph eK
 rw [OQ,aq hi]
 split
 .
  have:=pS m.rows[i] (fA m i s.aH (b.testBit i)) (fB m i s.aH (b.testBit i)) (m.rows[i].length - 1)
  show (dW m.rows[i] _ _).length<=6
  unfold dW
  lia
 . exact aiv _
theorem my {m:ao} (wf:m.Wf) (h4:m.rows.length<=4) {s:d6} {o:Nat} (out:Nat):(ji m s o out).length<=1296:=by
 unfold ji
 rw [AM]
 have lr:(cR m s (Ord.off o out)).length=m.rows.length:=by unfold cR;rw [AM,adw]
 have:=jd (xX wf (s:=s) (b:=Ord.off o out)) 4
 rw [anB (by lia)] at this
 exact this
theorem Gh {n:Nat} (h:n<16):(Bit.rooms n).length<=8/\(Bit.parts (Bit.rooms n)).length<=16:=by
 have:∀ b:Fin 16,(Bit.rooms b.val).length<=8/\(Bit.parts (Bit.rooms b.val)).length<=16:=by decide +kernel
 exact this ⟨n,h⟩
structure eS (n:Nat) (tm fb:ar):Prop where
 marks:fb.marks=tm.marks
 aD:fb.aD=tm.aD
 bi:fb.bi=tm.bi
 scale:fb.scale=tm.scale
 bounds:fb.bounds=tm.bounds
 gY:∀ i,i<n->fb.gY i=tm.gY i
 lo:∀ i,i<n->(tm.iO i).2.1<=(fb.iO i).2.1
 hi:∀ i,i<n->(fb.iO i).2.2<=(tm.iO i).2.2
section
variable {n:Nat} {tm fb:ar}
theorem eS.hold (M:eS n tm fb) (ok:tm.Ok n n) (mn:fb.Ok n n):fb.m2 n n={ tm.m2 n n with bi:=(fb.m2 n n).bi,bf:=(fb.m2 n n).bf }:=by
 obtain ⟨a1,a2,a3,a4⟩:=cH tm n n
 obtain ⟨b1,b2,b3,b4⟩:=cH fb n n
 obtain ⟨_,_,c1,_,c2,_⟩:=gG ok n (aat n)
 obtain ⟨_,_,d1,_,d2,_⟩:=gG mn n (aat n)
 have er:(fb.m2 n n).rows=(tm.m2 n n).rows:=by rw [a1,b1,M.marks];unfold ar.row;rw [M.scale]
 have es:(fb.m2 n n).aD=(tm.m2 n n).aD:=by
   refine List.ext_getElem? λ i=>?_
   by_cases h:i<n
   . rw [c1 i h,d1 i h,M.aD];unfold ar.iz;rw [M.scale]
   . rw [aow (by lia),aow (by lia)]
 have e1:(fb.m2 n n).most=(tm.m2 n n).most:=by rw [a2,b2,M.bounds]
 have e2:(fb.m2 n n).ir=(tm.m2 n n).ir:=by rw [a3,b3,M.bounds]
 have e3:(fb.m2 n n).load=(tm.m2 n n).load:=by rw [a4,b4,M.bounds]
 generalize fb.m2 n n=m' at er es e1 e2 e3
 generalize tm.m2 n n=m at er es e1 e2 e3
 cases m'
 cases m
 cases er
 cases es
 cases e1
 cases e2
 cases e3
 rfl
theorem eS.X (M:eS n tm fb) {i:Nat} (hi:i<n) (x:Nat->Int) (xw:Int):fb.X n i x xw=tm.X n i x xw:=by
 have ef:fb.ek i=tm.ek i:=by funext j;unfold ar.ek;rw [M.bi]
 unfold ar.X ar.kT
 rw [M.gY i hi,ef]
theorem eS.s (M:eS n tm fb) (ok:tm.Ok n n) (n4:n<=4) {i:Nat} (hi:i<n) (bs:List Nat) (f:Bool):tm.s0 n i bs f<=fb.s0 n i bs f/\fb.s1 n i bs f<=tm.s1 n i bs f:=by
 have ex:∀ d,fb.xl bs d=tm.xl bs d:=λ d=>by funext j;unfold ar.xl ar.qY;rw [M.marks]
 have eh:fb.rS i=tm.rS i:=by unfold ar.rS;rw [M.aD]
 unfold ar.s0 ar.s1 ar.sX
 rw [M.X hi,M.X hi,ex,ex,eh]
 have h1:=rN (x:=tm.xl bs 0) (y:=tm.xl bs 0) ok n4 hi (λ _ _=>anp _) (M.lo i hi)
 have h2:=rN (x:=tm.xl bs 1) (y:=tm.xl bs 1) ok n4 hi (λ _ _=>anp _) (M.hi i hi)
 constructor<;>lia
end
section
variable {n i:Nat} {tm:ar}
theorem pM {A:Int} (ok:tm.Ok n n) (hi:i<n):jp ((tm.m2 n n).rows.getD i []) (aQ A 12 tm.scale) (aQ B 12 tm.scale)=true↔12 * tm.qY i 0<=A/\B<=12 * tm.qY i ((tm.marks.getD i []).length - 1):=by
 have tP:i<tm.marks.length:=by rw [ok.lm];exact hi
 have l2:=(ok.rows _ (ab8 tP)).two
 rw [sg ok hi]
 unfold jp ar.qY
 have eg:tm.marks.getD i []=tm.marks[i]:=by rw [OQ,aq tP];rfl
 rw [eg]
 generalize tm.marks[i]=l at l2
 have el:(tm.row l).length=l.length:=by unfold ar.row;rw [AM]
 rw [el,nT (by lia),nT (by lia),jm ok.scale (by decide) (by decide),jm ok.scale (by decide) (by decide)]
 simp only [aeX,anF,api]
 lia
theorem uT {f:Nat->Int} {A:Int} (h0:f 0<=B) (hAB:A<=B):∀ k,A<=f (k+1)->∃ z,z<=k/\f z<=B/\A<=f (z+1)
 | 0,h=>⟨0,aat _,h0,h⟩
 | k+1,h=>by
   by_cases e:A<=f (k+1)
   . obtain ⟨z,h1,h2⟩:=uT h0 hAB k e
     exact ⟨z,by lia,h2⟩
   . exact ⟨k+1,aat _,by lia,h⟩
end
section
variable {n:Nat} {tm fb:ar} {s:d6}
theorem nZ (ok:tm.Ok n n) (n4:n<=4) (so:fG (tm.m2 n n) s):vE tm n s.aH:=by
 have hl:(tm.m2 n n).rows.length=n:=by rw [(cH tm n n).1,AM,ad4,ok.lm];lia
 refine ⟨by rw [so.lb,hl],λ j hj=>?_⟩
 have:=so.band j (by lia)
 rw [sg ok hj] at this
 unfold ar.row at this
 rw [AM] at this
 unfold gN at this
 rw [OQ]
 exact this
theorem eS.row (M:eS n tm fb) (wf:(tm.m2 n n).Wf) (wf':(fb.m2 n n).Wf) (ok:tm.Ok n n) (mn:fb.Ok n n) (n4:n<=4) (so:fG (tm.m2 n n) s) (Yf:fG (fb.m2 n n) s) {b i:Nat} (hi:i<n) (hz:b.testBit i=true->(tm.m2 n n).has i=true) (Jh:b.testBit i=true->(fb.m2 n n).has i=true) (h:ph (tm.m2 n n) s b i=some l):∃ l',ph (fb.m2 n n) s b i=some l'/\l'≠[]/\∀ z∈l',z∈l:=by
 obtain ⟨e1,e2⟩:=iF wf ok n4 hi (nZ ok n4 so) hz
 obtain ⟨e1',Mb⟩:=iF wf' mn n4 hi (nZ mn n4 Yf) Jh
 obtain ⟨m1,m2⟩:=M.s ok n4 hi s.aH (b.testBit i)
 obtain ⟨_,_,le'⟩:=NJ (f:=b.testBit i) mn n4 hi (nZ mn n4 Yf)
 unfold ph eK at h ⊢
 rw [e1,e2] at h
 rw [e1',Mb]
 split at h
 .
  rename_i w
  cases h
  rw [pM ok hi] at w
  have em:∀ k,fb.qY i k=tm.qY i k:=λ k=>by unfold ar.qY;rw [M.marks]
  have w':=(pM (A:=fb.s0 n i s.aH (b.testBit i)) (B:=fb.s1 n i s.aH (b.testBit i)) mn hi).mpr (by rw [em,em,M.marks];lia)
  rw [acS w']
  refine ⟨_,rfl,λ e=>?_,λ z hz=>?_⟩
  .
   have tP:i<tm.marks.length:=by rw [ok.lm];exact hi
   have l2:=(ok.rows _ (ab8 tP)).two
   have eg:tm.marks.getD i []=tm.marks[i]:=by rw [OQ,aq tP];rfl
   rw [eg] at w
   obtain ⟨z,z1,z2,z3⟩:=uT (f:=λ k=>12 * tm.qY i k) (A:=fb.s0 n i s.aH (b.testBit i)) (B:=fb.s1 n i s.aH (b.testBit i)) (by show 12 * tm.qY i 0<=_;lia) le' (tm.marks[i].length - 2) (by
     show _<=12 * tm.qY i (tm.marks[i].length - 2+1)
     rw [show tm.marks[i].length - 2+1=tm.marks[i].length - 1 by lia]
     lia)
   have:=(eZ (z:=(z:Int)) mn hi).mpr ⟨by lia,by rw [M.marks,eg];lia,by rw [em];exact z2,by rw [em];exact z3⟩
   rw [e] at this
   simp at this
  .
   have:=(eZ (z:=(z:Int)) mn hi).mp (List.mem_map.mpr ⟨z,hz,rfl⟩)
   obtain ⟨t1,t2,t3,t4⟩:=this
   rw [M.marks] at t2
   rw [em] at t3 t4
   have:=(eZ (z:=(z:Int)) (A:=tm.s0 n i s.aH (b.testBit i)) (B:=tm.s1 n i s.aH (b.testBit i)) ok hi).mpr ⟨t1,t2,by lia,by lia⟩
   obtain ⟨z',Jh,e⟩:=List.mem_map.mp this
   rw [show z=z' from apl e.symm]
   exact Jh
 . cases h
end
section
variable {n:Nat} {tm fb:ar} {s:d6} {o:Nat}
theorem eS.st (M:eS n tm fb) (ok:tm.Ok n n) (mn:fb.Ok n n) (so:fG (tm.m2 n n) s):fG (fb.m2 n n) s:=by
 obtain ⟨a,b,c,d,e,f,g,h⟩:=so
 rw [M.hold ok mn]
 exact ⟨a,b,c,d,e,f,g,h⟩
theorem eS.outs (M:eS n tm fb) (ok:tm.Ok n n) (mn:fb.Ok n n):eD (fb.m2 n n) s o=eD (tm.m2 n n) s o:=by rw [M.hold ok mn];rfl
theorem eS.has (M:eS n tm fb) (ok:tm.Ok n n) (mn:fb.Ok n n):(fb.m2 n n).has=(tm.m2 n n).has:=by rw [M.hold ok mn];rfl
theorem eS.rl (M:eS n tm fb) (ok:tm.Ok n n) (mn:fb.Ok n n):(fb.m2 n n).rows.length=(tm.m2 n n).rows.length:=by rw [M.hold ok mn]
theorem eS.behind (M:eS n tm fb) (ok:tm.Ok n n) (mn:fb.Ok n n) (c:List Nat) (out:Nat):s.behind (fb.m2 n n) c o out=s.behind (tm.m2 n n) c o out:=by rw [M.hold ok mn];rfl
theorem o7 {n:Nat} (h:n<16):Bit.parts (Bit.rooms n)≠[]/\∀ out∈Bit.parts (Bit.rooms n),out<16/\out &&& n=out:=by
 have:∀ b:Fin 16,Bit.parts (Bit.rooms b.val)≠[]/\∀ out∈Bit.parts (Bit.rooms b.val),out<16/\out &&& b.val=out:=by decide +kernel
 exact this ⟨n,h⟩
theorem eS.res (M:eS n tm fb) (wf:(tm.m2 n n).Wf) (wf':(fb.m2 n n).Wf) (ok:tm.Ok n n) (mn:fb.Ok n n) (n4:n<=4) (so:fG (tm.m2 n n) s) (tn:∀ out∈eD (tm.m2 n n) s o,cC (tm.m2 n n) s o out) (hs:∀ out∈eD (tm.m2 n n) s o,kN (tm.m2 n n) s (Ord.off o out)=true) :
   (∀ out∈eD (fb.m2 n n) s o,kN (fb.m2 n n) s (Ord.off o out)=true)/\t7 (fb.m2 n n) s o≠[]/\∀ x∈t7 (fb.m2 n n) s o,x∈t7 (tm.m2 n n) s o:=by
 have Yf:=M.st ok mn so
 have hl:(tm.m2 n n).rows.length=n:=by rw [(cH tm n n).1,AM,ad4,ok.lm];lia
 have hl':(fb.m2 n n).rows.length=n:=by rw [M.rl ok mn,hl]
 have key:∀ out∈eD (tm.m2 n n) s o,∀ i,i<n->∃ l l',ph (tm.m2 n n) s (Ord.off o out) i=some l/\ph (fb.m2 n n) s (Ord.off o out) i=some l'/\l'≠[]/\∀ z∈l',z∈l:=by
   intro out ho i hi
   have bits:(Ord.off o out).testBit i=true->(tm.m2 n n).has i=true:=λ h=>((tn out ho).M4 ((tn out ho).LM h).1).2
   have h1:=List.all_eq_true.mp (hs out ho) i (List.mem_range.mpr (by lia))
   obtain ⟨l,e⟩:=Option.isSome_iff_exists.mp h1
   obtain ⟨l',e',h2,h3⟩:=M.row wf wf' ok mn n4 so Yf hi bits (by rw [M.has ok mn];exact bits) e
   exact ⟨l,l',e,e',h2,h3⟩
 refine ⟨λ out ho=>?_,λ e=>?_,λ x hx=>?_⟩
 .
  rw [M.outs ok mn] at ho
  refine List.all_eq_true.mpr λ i hi=>?_
  obtain ⟨l,l',_,e',_⟩:=key out ho i (by have:=List.mem_range.mp hi;lia)
  rw [e'];rfl
 .
  unfold t7 at e
  rw [M.outs ok mn,List.flatMap_eq_nil_iff] at e
  obtain ⟨out,ho⟩:=List.exists_mem_of_ne_nil _ (o7 (wu (s:=s) (m:=tm.m2 n n) (o:=o) (by lia))).1
  have e:=e out ho
  unfold ji at e
  have e:=List.map_eq_nil_iff.mp e
  have:(cR (fb.m2 n n) s (Ord.off o out)).map (λ r=>r.headD 0)∈bR (cR (fb.m2 n n) s (Ord.off o out)):=by
    refine gb.mpr ⟨AM _,λ i hi=>?_⟩
    have Sv:i<n:=by unfold cR at hi;rw [AM,adw] at hi;lia
    obtain ⟨l,l',_,e',h2,_⟩:=key out ho i Sv
    have eg:(cR (fb.m2 n n) s (Ord.off o out))[i]?=some l':=by
      unfold cR
      rw [T1,anw (by lia),anu,e'];rfl
    rw [OQ,OQ,T1,eg]
    cases l' with
    | nil=>exact absurd rfl h2
    | cons a r=>exact afg
  rw [e] at this
  exact absurd this aaI
 .
  unfold t7 at hx ⊢
  rw [M.outs ok mn] at hx
  obtain ⟨out,ho,hx⟩:=List.mem_flatMap.mp hx
  refine List.mem_flatMap.mpr ⟨out,ho,?_⟩
  unfold ji at hx ⊢
  obtain ⟨c,hc,rfl⟩:=List.mem_map.mp hx
  refine List.mem_map.mpr ⟨c,gb.mpr ?_,(M.behind ok mn c out).symm⟩
  obtain ⟨lc,hc⟩:=gb.mp hc
  have l1:(cR (fb.m2 n n) s (Ord.off o out)).length=n:=by unfold cR;rw [AM,adw,hl']
  have l2:(cR (tm.m2 n n) s (Ord.off o out)).length=n:=by unfold cR;rw [AM,adw,hl]
  refine ⟨by lia,λ i hi=>?_⟩
  obtain ⟨l,l',e,e',h2,h3⟩:=key out ho i (by lia)
  have hc:=hc i (by lia)
  have eg:(cR (fb.m2 n n) s (Ord.off o out)).getD i []=l':=by
    unfold cR
    rw [OQ,T1,anw (by lia),anu,e'];rfl
  have eg2:(cR (tm.m2 n n) s (Ord.off o out)).getD i []=l:=by
    unfold cR
    rw [OQ,T1,anw (by lia),anu,e];rfl
  rw [eg] at hc
  rw [eg2]
  exact h3 _ hc
end
theorem GN {K:W.Frag}:∀ {ys:List V} {l:List d6},uE K H ys l->bT K H (l.map Rm) ys
 | _,_,Paired.nil=>fU
 | _,_,Paired.cons ⟨p,e,h⟩ t=>by subst e;exact bC h.dn (GN t)
theorem IY {K:W.Frag} {p q:Addr} {l:List d6} {Q:VK} (hx:aT K H p ys) (hl:uE K H ys l) (hy:aT K H q []) (k:Q (.bl (decide (l=[]))) H):Jj K (.ref p) (.ref q) H Q:=by
 refine ⟨.list (l.map Rm),.list [],vN hx (GN hl),vN hy fU,fX (n:=3) (λ d hd=>?_) (by decide),fX (n:=1) (show ∀ d∈([]:List PyData),CP 0 d from nofun) (by decide),?_⟩
 . obtain ⟨s,_,rfl⟩:=List.mem_map.mp hd
   exact L9 s
 . have:PyData.eqv (.list (l.map Rm)) (.list [])=decide (l=[]):=by cases l<;>simp [PyData.eqv,PyData.eqvAll]
   rw [this];exact k
theorem pV.aki {P:Program} {w:World} {K:W.Frag} {mg:Str->Option Value} {base:Heap} {m:Str} {k:Nat} {ps:List Str} {ds:List Value} {sp:Sp} (D:pV P w K mg base C m k ps ds sp):hV P w K mg base C m k ps ds (λ vs H Q _=>sp vs H Q E0) :=
 let ⟨f,fd,a,b,d⟩:=D;⟨f,fd,a,b,d.to0⟩
theorem uD.to0 {P:Program} {w:World} {K:W.Frag} {mg:Str->Option Value} {base:Heap} {m:Str} {k:Nat} {ps:List Str} {f9:List V} {sp:Sp} (D:uD P w K mg base C m k ps f9 sp):tj P w K mg base C m k ps f9 (λ vs H Q _=>sp vs H Q E0) :=
 let ⟨ds,a,b⟩:=D;⟨ds,a,b.aki⟩
def ar.num (tm:ar) (n:Nat) (bs:List Nat) (b:Nat) (c:List Nat) (high:Bool) (i:Nat):Int :=
 if high then min (tm.s1 n i bs (b.testBit i)) (12 * tm.qY i (c.getD i 0+1)) else max (tm.s0 n i bs (b.testBit i)) (12 * tm.qY i (c.getD i 0))
structure nM (tm:ar) (n:Nat) (bs:List Nat) (b:Nat) (c:List Nat):Prop where
 len:c.length=n
 Ab:∀ i,i<n->tm.Ab i (c.getD i 0) (tm.s0 n i bs (b.testBit i)) (tm.s1 n i bs (b.testBit i))
section
variable {tm:ar} {n:Nat} {s:d6} {b:Nat} {c:List Nat}
theorem Bo (ok:tm.Ok n n) (n4:n<=4) (so:fG (tm.m2 n n) s) (hc:nM tm n s.aH b c) (high:Bool) {i:Nat} (hi:i<n) :
   (-5000<=tm.num n s.aH b c high i/\tm.num n s.aH b c high i<=5000)/\¬ (tm.num n s.aH b c high i<tm.s0 n i s.aH (b.testBit i)∨tm.s1 n i s.aH (b.testBit i)<tm.num n s.aH b c high i)/\tm.Ab i (c.getD i 0) (tm.num n s.aH b c high i) (tm.num n s.aH b c high i):=by
 obtain ⟨a1,a2,a3⟩:=NJ (f:=b.testBit i) ok n4 hi (nZ ok n4 so)
 obtain ⟨t1,t2,t3,t4⟩:=hc.Ab i hi
 have e:((c.getD i 0:Nat):Int).toNat=c.getD i 0:=akM _
 rw [e] at t3 t4
 have lz:c.getD i 0+1<(tm.marks.getD i []).length:=by lia
 obtain ⟨h1,h2,e0,b0,b1⟩:=gn (b:=c.getD i 0) ok hi (by lia)
 obtain ⟨_,h3,e1,b2,b3⟩:=gn (b:=c.getD i 0+1) ok hi lz
 have JV:=(ok.rows tm.marks[i] (ab8 h1)).JV _ _ _ (aq h2) (aq h3)
 rw [← e0,← e1] at JV
 unfold ar.num ar.Ab
 rw [e]
 cases high
 . rw [acO abZ];lia
 . rw [acS rfl];lia
theorem MN (ok:tm.Ok n n) (n4:n<=4) (so:fG (tm.m2 n n) s) (hc:nM tm n s.aH b c) (high:Bool) {i:Nat} (hi:i<n) :
   tm.tF n s.aH b (c.map λ x:Nat=>(x:Int)) (some ((List.range n).map (tm.num n s.aH b c high))) i=none:=by
 obtain ⟨_,h2,h3⟩:=Bo ok n4 so hc high hi
 have ez:(c.map λ x:Nat=>(x:Int)).getD i 0=((c.getD i 0:Nat):Int):=by
   rw [OQ,T1,OQ]
   cases c[i]? <;> rfl
 have el:((List.range n).map (tm.num n s.aH b c high)).getD i 0=tm.num n s.aH b c high i:=by
   rw [OQ,T1,anw hi];rfl
 show (if _∨_ then _ else _)=none
 rw [ez,el,acO h2,acS h3]
theorem FE (wf:(tm.m2 n n).Wf) (ok:tm.Ok n n) (n4:n<=4) (so:fG (tm.m2 n n) s) (hz:∀ i,b.testBit i=true->(tm.m2 n n).has i=true) (sf:kN (tm.m2 n n) s b=true) (h:c∈bR (cR (tm.m2 n n) s b)):nM tm n s.aH b c:=by
 have hl:(tm.m2 n n).rows.length=n:=by rw [(cH tm n n).1,AM,ad4,ok.lm];lia
 obtain ⟨l1,l2⟩:=gb.mp h
 have lr:(cR (tm.m2 n n) s b).length=n:=by unfold cR;rw [AM,adw,hl]
 refine ⟨by lia,λ i hi=>?_⟩
 have h1:=List.all_eq_true.mp sf i (List.mem_range.mpr (by lia))
 obtain ⟨l,e⟩:=Option.isSome_iff_exists.mp h1
 have hc:=l2 i (by lia)
 have eg:(cR (tm.m2 n n) s b).getD i []=l:=by
   unfold cR
   rw [OQ,T1,anw (by lia),anu,e];rfl
 rw [eg] at hc
 unfold ph eK at e
 split at e
 .
  cases e
  obtain ⟨e1,e2⟩:=iF wf ok n4 hi (nZ ok n4 so) (hz i)
  rw [e1,e2] at hc
  exact (eZ ok hi).mp (List.mem_map.mpr ⟨_,hc,rfl⟩)
 . cases e
end
theorem Fx {o:Nat} (h1:o<16) (h2:out<16) (h:∀ r,out.testBit r=true->o.testBit r=true):(o:Int) - ((o &&& Ord.off o out:Nat):Int)=(out:Int):=by
 have key:∀ a:Nat,a<16->∀ b:Nat,b<16->b &&& a=b->(a:Int) - ((a &&& Ord.off a b:Nat):Int)=(b:Int):=by decide
 refine key o h1 out h2 (akU λ r=>?_)
 rw [aiD]
 cases c:out.testBit r with
 | false=>rfl
 | true=>rw [h r c];rfl
section
variable (K:W.Frag) (C:Addr)
inductive wM  (vs:List V) (H:Hp) (Q:VK) (_E:XK):Prop
 | mk (p q r tm:_) (n:Nat) (s t high:_) (_:vs=[.ref p,.ref q,.ref r,.bl high]) (_:iK K H p tm) (_:tm.Ok n n) (_:n<=4) (_:gd K H q s) (_:fG (tm.m2 n n) s) (_:gd K H r t) (_:nM tm n s.aH t.bX t.aH) (_:(∀ i,t.bX.testBit i=true->(tm.m2 n n).has i=true)) (_:∀ v H',aA H H'->W7 K H' n v (some (((List.range n).map (tm.num n s.aH t.bX t.aH high)).map λ x=>aQ x 12 tm.scale))->Q v H')
inductive Bf  (vs:List V) (H:Hp) (Q:VK) (_E:XK):Prop
 | mk (a p q r fp tm:_) (n:Nat) (s:_) (o out:Nat) (c high:_) (_:vs=[.ref a,.ref p,.ref q,ap o,.ref r,.bl high]) (_:aL K C H a fp (tm.m2 n n)) (_:iK K H p tm) (_:tm.Ok n n) (_:n<=4) (_:gd K H q s) (_:fG (tm.m2 n n) s) (_:gd K H r (s.behind (tm.m2 n n) c o out)) (_:nM tm n s.aH (Ord.off o out) c) (_:o∈s.orders (tm.m2 n n)) (_:out &&& s.may (tm.m2 n n) o=out) (_:cC (tm.m2 n n) s o out) (_:∀ H',aA H H'->Q (.bl true) H')
inductive Bt  (vs:List V) (H:Hp) (Q:VK) (_E:XK):Prop
 | mk (a p q fp tm:_) (n:Nat) (s:_) (c:Int) (k:Nat) (_:vs=[.ref a,.ref p,.ref q,.int c,ap k]) (_:aL K C H a fp (tm.m2 n n)) (_:iK K H p tm) (_:tm.Ok n n) (_:n<=4) (_:gd K H q s) (_:fG (tm.m2 n n) s) (_:k<=900) (_:∀ H',aA H H'->Q (.bl true) H')
end
theorem eS.refl (n:Nat) (tm:ar):eS n tm tm:=⟨rfl,rfl,rfl,rfl,rfl,λ _ _=>rfl,λ _ _=>anp _,λ _ _=>anp _⟩
theorem Ix {o:Nat} (h1:o<16) (h2:out<16):Ord.off o out &&& o=Ord.off o out:=by
 have key:∀ a:Nat,a<16->∀ b:Nat,b<16->Ord.off a b &&& a=Ord.off a b:=by decide
 exact key o h1 out h2
theorem Jw {m:ao} {s x:d6} {o:Nat} (h:x∈t7 m s o):∃ out c,out∈eD m s o/\c∈bR (cR m s (Ord.off o out))/\x=s.behind m c o out:=by
 obtain ⟨out,ho,h⟩:=List.mem_flatMap.mp h
 obtain ⟨c,hc,rfl⟩:=List.mem_map.mp h
 exact ⟨out,c,ho,hc,rfl⟩
end L2
namespace K22
open PySem PySem.Spec PyProof.Rows L2 Mth
seal PE PS qg Pm PA PG OA PT LD PI
def top (i:Nat):Stmt:=PySem.Challenge.pw_stoke_k22_whole_outcomes_walked.main.body.getD i (.Pass ⟨0,0,0,0⟩)
abbrev aiH:Stmt:=top 0
abbrev kG:Stmt:=top 2
theorem yE:aw ["bits","room"] ["bits","room"] (ai kG):=⟨rfl,rfl,rfl,by decide +kernel,rfl,by decide +kernel,by decide +kernel⟩
abbrev i6:Stmt:=top 3
theorem vY:aw ["bits","room"] ["bits","room"] (ai i6):=⟨rfl,rfl,rfl,by decide +kernel,rfl,by decide +kernel,by decide +kernel⟩
abbrev kB:Stmt:=top 4
theorem zG:aw ["bits"] ["bits"] (ai kB):=⟨rfl,rfl,rfl,by decide +kernel,rfl,by decide +kernel,by decide +kernel⟩
abbrev lX:Stmt:=top 5
theorem Bv:aw ["bits"] ["bits"] (ai lX):=⟨rfl,rfl,rfl,by decide +kernel,rfl,by decide +kernel,by decide +kernel⟩
abbrev lU:Stmt:=top 6
theorem kK:aw ["bits","parts","room"] ["bits"] (ai lU):=⟨rfl,rfl,rfl,by decide +kernel,rfl,by decide +kernel,by decide +kernel⟩
abbrev lO:Stmt:=top 7
theorem j6:aw ["rooms","bits","room"] ["rooms"] (ai lO):=⟨rfl,rfl,rfl,by decide +kernel,rfl,by decide +kernel,by decide +kernel⟩
abbrev Cf:Stmt:=inClass (top 21) 0
abbrev Ag:Stmt:=inClass (top 22) 0
abbrev eM:Stmt:=inClass (top 23) 0
theorem mr:aw ["self","room","turn"] ["self","room","turn"] (ai eM):=⟨rfl,rfl,rfl,by decide +kernel,rfl,by decide +kernel,by decide +kernel⟩
abbrev eI:Stmt:=inClass (top 24) 0
theorem mF:aw ["self","room","turn"] ["self","room","turn"] (ai eI):=⟨rfl,rfl,rfl,by decide +kernel,rfl,by decide +kernel,by decide +kernel⟩
abbrev l5:Stmt:=top 28
theorem gE:aw ["one","other","greater","lesser","rest"] ["one","other"] (ai l5):=⟨rfl,rfl,rfl,by decide +kernel,rfl,by decide +kernel,by decide +kernel⟩
abbrev j3:Stmt:=top 29
theorem kZ:aw ["top","bottom","common"] ["top","bottom"] (ai j3):=⟨rfl,rfl,rfl,by decide +kernel,rfl,by decide +kernel,by decide +kernel⟩
abbrev wy:Stmt:=top 30
theorem Jm:aw ["one","other"] ["one","other"] (ai wy):=⟨rfl,rfl,rfl,by decide +kernel,rfl,by decide +kernel,by decide +kernel⟩
abbrev qV:Stmt:=top 31
theorem Fh:aw ["one","other"] ["one","other"] (ai qV):=⟨rfl,rfl,rfl,by decide +kernel,rfl,by decide +kernel,by decide +kernel⟩
abbrev qH:Stmt:=top 32
theorem ES:aw ["one","other"] ["one","other"] (ai qH):=⟨rfl,rfl,rfl,by decide +kernel,rfl,by decide +kernel,by decide +kernel⟩
abbrev eG:Stmt:=top 34
theorem bK:aw ["pairs","top","bottom","one","other","below"] ["pairs"] (ai eG):=⟨rfl,rfl,rfl,by decide +kernel,rfl,by decide +kernel,by decide +kernel⟩
abbrev jo:Stmt:=top 35
theorem mQ:aw ["hold","room","airs","weather","fired","pairs"] ["hold","room","airs","weather","fired"] (ai jo):=⟨rfl,rfl,rfl,by decide +kernel,rfl,by decide +kernel,by decide +kernel⟩
abbrev lQ:Stmt:=top 36
theorem iX:aw ["hold","room","bands","fired","low","high","lows","highs"] ["hold","room","bands","fired"] (ai lQ):=⟨rfl,rfl,rfl,by decide +kernel,rfl,by decide +kernel,by decide +kernel⟩
abbrev lP:Stmt:=top 37
theorem sV:aw ["hold","room","least","greatest","marks"] ["hold","room","least","greatest"] (ai lP):=⟨rfl,rfl,rfl,by decide +kernel,rfl,by decide +kernel,by decide +kernel⟩
abbrev nX:Stmt:=top 38
theorem uW:aw ["hold","room","least","greatest","marks"] ["hold","room","least","greatest"] (ai nX):=⟨rfl,rfl,rfl,by decide +kernel,rfl,by decide +kernel,by decide +kernel⟩
abbrev jR:Stmt:=top 40
theorem ff:aw ["hold","state","bands","burning","waits","failed","heap","many"] ["hold","state"] (ai jR):=⟨rfl,rfl,rfl,by decide +kernel,rfl,by decide +kernel,by decide +kernel⟩
abbrev jh:Stmt:=top 41
theorem fh:aw ["hold","state","room","bands","burning","waits","failed","heap"] ["hold","state","room"] (ai jh):=⟨rfl,rfl,rfl,by decide +kernel,rfl,by decide +kernel,by decide +kernel⟩
abbrev il:Stmt:=top 42
theorem jv:aw ["stove","fired","wait","failed","stay","fails"] ["stove","fired","wait","failed"] (ai il):=⟨rfl,rfl,rfl,by decide +kernel,rfl,by decide +kernel,by decide +kernel⟩
abbrev fP:Stmt:=top 43
theorem oN:aw ["hold","state"] ["hold","state"] (ai fP):=⟨rfl,rfl,rfl,by decide +kernel,rfl,by decide +kernel,by decide +kernel⟩
abbrev ii:Stmt:=top 44
theorem tX:aw ["hold"] ["hold"] (ai ii):=⟨rfl,rfl,rfl,by decide +kernel,rfl,by decide +kernel,by decide +kernel⟩
abbrev lT:Stmt:=top 45
theorem AT:aw ["hold","bits"] ["hold","bits"] (ai lT):=⟨rfl,rfl,rfl,by decide +kernel,rfl,by decide +kernel,by decide +kernel⟩
abbrev i8:Stmt:=top 46
theorem xp:aw ["state"] ["state"] (ai i8):=⟨rfl,rfl,rfl,by decide +kernel,rfl,by decide +kernel,by decide +kernel⟩
abbrev kJ:Stmt:=top 47
theorem zk:aw ["hold","order","heap"] ["hold","order","heap"] (ai kJ):=⟨rfl,rfl,rfl,by decide +kernel,rfl,by decide +kernel,by decide +kernel⟩
abbrev jf:Stmt:=top 48
theorem ky:aw ["hold","state","held","going_on"] ["hold","state"] (ai jf):=⟨rfl,rfl,rfl,by decide +kernel,rfl,by decide +kernel,by decide +kernel⟩
abbrev jS:Stmt:=top 49
theorem xL:aw ["hold","state","order"] ["hold","state","order"] (ai jS):=⟨rfl,rfl,rfl,by decide +kernel,rfl,by decide +kernel,by decide +kernel⟩
abbrev lZ:Stmt:=top 50
theorem tD:aw ["hold","state","order","lit"] ["hold","state","order"] (ai lZ):=⟨rfl,rfl,rfl,by decide +kernel,rfl,by decide +kernel,by decide +kernel⟩
abbrev gP:Stmt:=top 51
theorem tK:aw ["hold","state","order","out"] ["hold","state","order","out"] (ai gP):=⟨rfl,rfl,rfl,by decide +kernel,rfl,by decide +kernel,by decide +kernel⟩
abbrev fL:Stmt:=top 52
theorem dD:aw ["hold","state","order","out","burning","waits","failed","heap"] ["hold","state","order","out"] (ai fL):=⟨rfl,rfl,rfl,by decide +kernel,rfl,by decide +kernel,by decide +kernel⟩
abbrev gQ:Stmt:=top 53
theorem sv:aw ["hold","state","burning","room"] ["hold","state","burning","room"] (ai gQ):=⟨rfl,rfl,rfl,by decide +kernel,rfl,by decide +kernel,by decide +kernel⟩
abbrev fS:Stmt:=top 54
theorem pD:aw ["state","burning","out","room"] ["state","burning","out","room"] (ai fS):=⟨rfl,rfl,rfl,by decide +kernel,rfl,by decide +kernel,by decide +kernel⟩
abbrev kA:Stmt:=top 56
theorem xY:aw ["hold","state","order"] ["hold","state","order"] (ai kA):=⟨rfl,rfl,rfl,by decide +kernel,rfl,by decide +kernel,by decide +kernel⟩
abbrev gT:Stmt:=top 57
theorem dL:aw ["rows","choices","row","longer","choice"] ["rows"] (ai gT):=⟨rfl,rfl,rfl,by decide +kernel,rfl,by decide +kernel,by decide +kernel⟩
abbrev fq:Stmt:=inClass (top 58) 0
theorem nr:aw ["self","hold"] ["self","hold"] (ai fq):=⟨rfl,rfl,rfl,by decide +kernel,rfl,by decide +kernel,by decide +kernel⟩
abbrev cU:Stmt:=inClass (top 58) 1
theorem bL:aw ["self","state","order","states","out","burning","rows","stoves"] ["self","state","order"] (ai cU):=⟨rfl,rfl,rfl,by decide +kernel,rfl,by decide +kernel,by decide +kernel⟩
abbrev gm:Stmt:=inClass (top 58) 2
theorem d8:aw ["self","room","bands","fired","key","least","greatest","safe"] ["self","room","bands","fired"] (ai gm):=⟨rfl,rfl,rfl,by decide +kernel,rfl,by decide +kernel,by decide +kernel⟩
abbrev fR:Stmt:=top 70
theorem pj:aw ["thing","greatest"] ["thing","greatest"] (ai fR):=⟨rfl,rfl,rfl,by decide +kernel,rfl,by decide +kernel,by decide +kernel⟩
abbrev jk:Stmt:=top 71
theorem vB:aw ["marks"] ["marks"] (ai jk):=⟨rfl,rfl,rfl,by decide +kernel,rfl,by decide +kernel,by decide +kernel⟩
abbrev fm:Stmt:=top 72
theorem eP:aw ["rows","product","marks"] ["rows"] (ai fm):=⟨rfl,rfl,rfl,by decide +kernel,rfl,by decide +kernel,by decide +kernel⟩
abbrev cE:Stmt:=inClass (top 73) 0
theorem oM:aw ["self","most","cap","load"] ["self","most","cap","load"] (ai cE):=⟨rfl,rfl,rfl,by decide +kernel,rfl,by decide +kernel,by decide +kernel⟩
abbrev fK:Stmt:=inClass (top 73) 1
theorem jD:aw ["self","marks","rows"] ["self","marks"] (ai fK):=⟨rfl,rfl,rfl,by decide +kernel,rfl,by decide +kernel,by decide +kernel⟩
abbrev fM:Stmt:=inClass (top 73) 2
theorem o5:aw ["self","into","of","share"] ["self","into","of","share"] (ai fM):=⟨rfl,rfl,rfl,by decide +kernel,rfl,by decide +kernel,by decide +kernel⟩
abbrev gx:Stmt:=inClass (top 73) 3
theorem qd:aw ["self","room","share","low","high"] ["self","room","share","low","high"] (ai gx):=⟨rfl,rfl,rfl,by decide +kernel,rfl,by decide +kernel,by decide +kernel⟩
abbrev cq:Stmt:=inClass (top 73) 4
theorem mS:aw ["self","room","heat","wood","stay","fails"] ["self","room","heat","wood","stay","fails"] (ai cq):=⟨rfl,rfl,rfl,by decide +kernel,rfl,by decide +kernel,by decide +kernel⟩
abbrev jq:Stmt:=inClass (top 73) 5
theorem vM:aw ["self"] ["self"] (ai jq):=⟨rfl,rfl,rfl,by decide +kernel,rfl,by decide +kernel,by decide +kernel⟩
abbrev ig:Stmt:=inClass (top 73) 6
theorem ug:aw ["self","room"] ["self","room"] (ai ig):=⟨rfl,rfl,rfl,by decide +kernel,rfl,by decide +kernel,by decide +kernel⟩
abbrev ij:Stmt:=inClass (top 73) 7
theorem ua:aw ["self","into","of"] ["self","into","of"] (ai ij):=⟨rfl,rfl,rfl,by decide +kernel,rfl,by decide +kernel,by decide +kernel⟩
abbrev kz:Stmt:=inClass (top 73) 8
theorem yJ:aw ["self","room"] ["self","room"] (ai kz):=⟨rfl,rfl,rfl,by decide +kernel,rfl,by decide +kernel,by decide +kernel⟩
abbrev ik:Stmt:=inClass (top 73) 9
theorem t9:aw ["self","room"] ["self","room"] (ai ik):=⟨rfl,rfl,rfl,by decide +kernel,rfl,by decide +kernel,by decide +kernel⟩
abbrev ft:Stmt:=inClass (top 73) 10
theorem eO:aw ["self","room","rest","other"] ["self","room"] (ai ft):=⟨rfl,rfl,rfl,by decide +kernel,rfl,by decide +kernel,by decide +kernel⟩
abbrev fO:Stmt:=inClass (top 73) 11
theorem oJ:aw ["self","room"] ["self","room"] (ai fO):=⟨rfl,rfl,rfl,by decide +kernel,rfl,by decide +kernel,by decide +kernel⟩
abbrev c3:Stmt:=inClass (top 73) 12
theorem gB:aw ["self","room","share","former","free"] ["self","room","share","former"] (ai c3):=⟨rfl,rfl,rfl,by decide +kernel,rfl,by decide +kernel,by decide +kernel⟩
abbrev fc:Stmt:=top 74
theorem oA:aw ["hold","most","cap","load","like"] ["hold","most","cap","load"] (ai fc):=⟨rfl,rfl,rfl,by decide +kernel,rfl,by decide +kernel,by decide +kernel⟩
abbrev fQ:Stmt:=inClass (top 76) 0
theorem pE:aw ["self","hold","state"] ["self","hold","state"] (ai fQ):=⟨rfl,rfl,rfl,by decide +kernel,rfl,by decide +kernel,by decide +kernel⟩
abbrev gH:Stmt:=inClass (top 76) 1
theorem gK:aw ["self","order","out","bands","warmths","room","least","greatest"] ["self","order","out","bands","warmths"] (ai gH):=⟨rfl,rfl,rfl,by decide +kernel,rfl,by decide +kernel,by decide +kernel⟩
abbrev Ic:Stmt:=inClass (top 76) 2
abbrev iy:Stmt:=inClass (top 76) 3
theorem uf:aw ["self"] ["self"] (ai iy):=⟨rfl,rfl,rfl,by decide +kernel,rfl,by decide +kernel,by decide +kernel⟩
abbrev io:Stmt:=inClass (top 76) 4
theorem ud:aw ["self"] ["self"] (ai io):=⟨rfl,rfl,rfl,by decide +kernel,rfl,by decide +kernel,by decide +kernel⟩
abbrev EN:Stmt:=inClass (top 76) 5
abbrev i4:Stmt:=inClass (top 76) 6
theorem ww:aw ["self","room","burning"] ["self","room","burning"] (ai i4):=⟨rfl,rfl,rfl,by decide +kernel,rfl,by decide +kernel,by decide +kernel⟩
abbrev c8:Stmt:=inClass (top 76) 7
theorem kR:aw ["self","order","out"] ["self","order","out"] (ai c8):=⟨rfl,rfl,rfl,by decide +kernel,rfl,by decide +kernel,by decide +kernel⟩
abbrev cT:Stmt:=inClass (top 76) 8
theorem kg:aw ["self","room","least","greatest","warmth"] ["self","room","least","greatest","warmth"] (ai cT):=⟨rfl,rfl,rfl,by decide +kernel,rfl,by decide +kernel,by decide +kernel⟩
abbrev gR:Stmt:=top 78
theorem rJ:aw ["_law_script","_law_k"] ["_law_script","_law_k"] (ai gR):=⟨rfl,rfl,rfl,by decide +kernel,rfl,by decide +kernel,by decide +kernel⟩
abbrev ke:Stmt:=top 79
theorem yF:aw ["_law_cell","_law_k","_law_many"] ["_law_cell","_law_k","_law_many"] (ai ke):=⟨rfl,rfl,rfl,by decide +kernel,rfl,by decide +kernel,by decide +kernel⟩
abbrev i3:Stmt:=top 80
theorem fi:aw ["_law_top","_law_bottom","_law_one","_law_other","_law_rest"] ["_law_top","_law_bottom"] (ai i3):=⟨rfl,rfl,rfl,by decide +kernel,rfl,by decide +kernel,by decide +kernel⟩
abbrev i7:Stmt:=top 81
theorem kh:aw ["_law_cell","_law_far","_law_some"] ["_law_cell"] (ai i7):=⟨rfl,rfl,rfl,by decide +kernel,rfl,by decide +kernel,by decide +kernel⟩
abbrev ko:Stmt:=top 82
theorem k7:aw ["_law_num","_law_parts","_law_scale_here","_law_whole"] ["_law_num","_law_parts","_law_scale_here"] (ai ko):=⟨rfl,rfl,rfl,by decide +kernel,rfl,by decide +kernel,by decide +kernel⟩
abbrev gr:Stmt:=top 83
theorem hR:aw ["_law_a","_law_b","_law_c","_law_room","_law_wood","_law_stay"] ["_law_a","_law_b","_law_c","_law_room"] (ai gr):=⟨rfl,rfl,rfl,by decide +kernel,rfl,by decide +kernel,by decide +kernel⟩
abbrev jc:Stmt:=top 84
theorem b8:aw ["_law_script","_law_a","_law_b","_law_c","_law_many","_law_told","_law_room","_law_marks","_law_j","_law_low","_law_of"] ["_law_script"] (ai jc):=⟨rfl,rfl,rfl,by decide +kernel,rfl,by decide +kernel,by decide +kernel⟩
abbrev jr:Stmt:=top 85
theorem cJ:aw ["_law_told","_law_bounds","_law_scale_here","_law_hold","_law_marks","_law_room","_law_sky","_law_stove","_law_of"] ["_law_told"] (ai jr):=⟨rfl,rfl,rfl,by decide +kernel,rfl,by decide +kernel,by decide +kernel⟩
abbrev gl:Stmt:=top 86
theorem aY:aw ["_law_told","_law_cell","_law_k","_law_bands","_law_waits","_law_failed","_law_burning","_law_lit","_law_room","_law_stove","_law_wait","_law_fails"] ["_law_told","_law_cell","_law_k"] (ai gl):=⟨rfl,rfl,rfl,by decide +kernel,rfl,by decide +kernel,by decide +kernel⟩
abbrev kF:Stmt:=top 87
theorem cf:aw ["_law_told","_law_room","_law_bands","_law_fired","_law_sky","_law_rest","_law_low","_law_high","_law_of","_law_part"] ["_law_told","_law_room","_law_bands","_law_fired"] (ai kF):=⟨rfl,rfl,rfl,by decide +kernel,rfl,by decide +kernel,by decide +kernel⟩
abbrev kH:Stmt:=top 88
theorem pJ:aw ["_law_told","_law_cell","_law_marks"] ["_law_told","_law_cell"] (ai kH):=⟨rfl,rfl,rfl,by decide +kernel,rfl,by decide +kernel,by decide +kernel⟩
abbrev nc:Stmt:=top 89
theorem Er:aw ["_law_bits","_law_room"] ["_law_bits","_law_room"] (ai nc):=⟨rfl,rfl,rfl,by decide +kernel,rfl,by decide +kernel,by decide +kernel⟩
abbrev gS:Stmt:=top 90
theorem cy:aw ["_law_told","_law_state","_law_behind","_law_high","_law_warmths_here","_law_room","_law_marks","_law_band","_law_ends","_law_num"] ["_law_told","_law_state","_law_behind","_law_high"] (ai gS):=⟨rfl,rfl,rfl,by decide +kernel,rfl,by decide +kernel,by decide +kernel⟩
abbrev jg:Stmt:=top 91
theorem j0:aw ["_law_hold","_law_told","_law_state","_law_order","_law_behind","_law_high","_law_walk","_law_out"] ["_law_hold","_law_told","_law_state","_law_order","_law_behind","_law_high"] (ai jg):=⟨rfl,rfl,rfl,by decide +kernel,rfl,by decide +kernel,by decide +kernel⟩
abbrev jj:Stmt:=top 92
theorem fo:aw ["_law_hold","_law_told","_law_state","_law_cell","_law_k","_law_some","_law_order","_law_found","_law_at","_law_high"] ["_law_hold","_law_told","_law_state","_law_cell","_law_k"] (ai jj):=⟨rfl,rfl,rfl,by decide +kernel,rfl,by decide +kernel,by decide +kernel⟩
abbrev yk:Stmt:=top 93
theorem oY:aw ["_law_script","_law_told","_law_hold","_law_k","_law_two","_law_state"] ["_law_script"] (ai yk):=⟨rfl,rfl,rfl,by decide +kernel,rfl,by decide +kernel,by decide +kernel⟩
structure Ads where
 aO:Addr
 Walk:Addr
 Reach:Addr
 Nb:Addr
 ahD:Addr
 Yz:Addr
 lS:Addr
 iA:Addr
 ala:Addr
 cx:Addr
 cK:Addr
 Ln:Addr
 j2:Addr
 uZ:Addr
 hU:Addr
 gD:Addr
 pA:Addr
 lE:Addr
structure Txt (K:W.Frag) (mg:Str->Option Value) (A:Ads):Prop where
 Ga:mg "Hold" = some (.ref A.aO)
 NC:mg "Walk" = some (.ref A.Walk)
 JT:mg "Reach" = some (.ref A.Reach)
 Ew:mg "NoOrder" = some (.ref A.lS)
 yr:mg "NoFailing" = some (.ref A.iA)
 Fq:mg "NoTurn" = some (.ref A.cx)
 EL:mg "NoBand" = some (.ref A.cK)
 IW:mg "Ended" = some (.ref A.Ln)
 iL:mg "NOUGHT" = some (.ref A.j2)
 CB:mg "WHOLE" = some (.ref A.uZ)
 DZ:W.excIn K A.lS [.type "ValueError",.type "Exception",.type "BaseException",.type "object"] "ValueError.__new__" = true
 zN:W.excIn K A.iA [.type "ValueError",.type "Exception",.type "BaseException",.type "object"] "ValueError.__new__" = true
 Kh:W.excIn K A.Ln [.type "ValueError",.type "Exception",.type "BaseException",.type "object"] "ValueError.__new__" = true
 zr:W.findIn K (.ref A.cx) "turn" = some none
 rM:W.hasDictIn K A.cx=true
 AS:W.findIn K (.ref A.cx) "room" = some none
 sM:W.findIn K (.ref A.cx) "__setattr__" = some (some (.builtin "object.__setattr__"))
 nh:jb K A.cx=true
 Az:W.findIn K (.ref A.cx) "__getattribute__" = some (some (.builtin "BaseException.__getattribute__"))
 Ae:W.findIn K (.ref A.cx) "__getattr__" = some none
 A9:W.findIn K (.ref A.cx) "__class__" = some (some (.builtin "object.__class__"))
 AC:W.mroIn K A.cx (.type "object")=some true
 BP:W.mroIn K A.cx (.type "BaseException")=some true
 AF:W.isClsIn K A.cx=true
 yY:W.findIn K (.ref A.cK) "turn" = some none
 rB:W.hasDictIn K A.cK=true
 Ar:W.findIn K (.ref A.cK) "room" = some none
 se:W.findIn K (.ref A.cK) "__setattr__" = some (some (.builtin "object.__setattr__"))
 nO:jb K A.cK=true
 AR:W.findIn K (.ref A.cK) "__getattribute__" = some (some (.builtin "BaseException.__getattribute__"))
 An:W.findIn K (.ref A.cK) "__getattr__" = some none
 BI:W.findIn K (.ref A.cK) "__class__" = some (some (.builtin "object.__class__"))
 Aw:W.mroIn K A.cK (.type "object")=some true
 BC:W.mroIn K A.cK (.type "BaseException")=some true
 BG:W.isClsIn K A.cK=true
 gs:W.specialIn K (.builtin "object.__class__") "__get__" = some (some (.builtin "getset_descriptor.__get__"))
 tk:W.takesIn K (.builtin "object.__class__")=some true
 tV:∃ t,mg "LEAST_MARKS" = some (.int 2 t)
 wx:∃ t,mg "MOST_BANDS" = some (.int 400 t)
 tz:∃ t,mg "MOST_BURNING" = some (.int 4 t)
 AX:∃ t,mg "MOST_CAP" = some (.int 30 t)
 wQ:∃ t,mg "MOST_FAILS" = some (.int 3 t)
 y9:∃ t,mg "MOST_LOAD" = some (.int 30 t)
 xg:∃ t,mg "MOST_MARKS" = some (.int 7 t)
 wa:∃ t,mg "MOST_ROOMS" = some (.int 4 t)
 zi:∃ t,mg "MOST_STAY" = some (.int 3 t)
 yD:∃ t,mg "MOST_WOOD" = some (.int 9 t)
 lH:Bn K A.j2 [.int 0,.int 1]
 Cg:Bn K A.uZ [.int 1,.int 1]
 aC:xu K A.aO
 Cs:Fj K A.aO
 ix:dH K A.aO "most"
 ja:dH K A.aO "cap"
 ki:dH K A.aO "load"
 b7:dH K A.aO "mark_rows"
 eA:dH K A.aO "flows"
 cM:dH K A.aO "skies"
 dM:dH K A.aO "stoves"
 qk:fC K A.aO "__init__" "Hold.__init__" cE (.ref A.hU)
 qh:AN K A.hU [.int 4,.int 0,.int 0]
 qa:fC K A.aO "put_room" "Hold.put_room" fK .none
 qp:fC K A.aO "put_flow" "Hold.put_flow" fM .none
 sY:fC K A.aO "put_sky" "Hold.put_sky" gx .none
 oU:fC K A.aO "put_stove" "Hold.put_stove" cq (.ref A.gD)
 oQ:AN K A.gD [.int 0,.int 0,.int 0]
 yb:fC K A.aO "many" "Hold.many" jq .none
 wS:fC K A.aO "marks" "Hold.marks" ig .none
 vC:fC K A.aO "share" "Hold.share" ij .none
 Ay:fC K A.aO "sky" "Hold.sky" kz .none
 wL:fC K A.aO "stove" "Hold.stove" ik .none
 pd:fC K A.aO "own_share" "Hold.own_share" ft .none
 qi:fC K A.aO "look_for" "Hold.look_for" fO .none
 lC:fC K A.aO "look_at_share" "Hold.look_at_share" c3 .none
 bJ:xu K A.Walk
 Ku:Fj K A.Walk
 dZ:dH K A.Walk "hold"
 di:dH K A.Walk "place"
 fj:dH K A.Walk "gone"
 mf:dH K A.Walk "ended"
 p7:fC K A.Walk "__init__" "Walk.__init__" fQ .none
 Ee:fC K A.Walk "go" "Walk.go" gH (.ref A.pA)
 C9:AN K A.pA [.b9]
 vP:fC K A.Walk "state" "Walk.state" iy .none
 wB:fC K A.Walk "turns" "Walk.turns" io .none
 yO:fC K A.Walk "span" "Walk.span" i4 .none
 lA:fC K A.Walk "look_at_order" "Walk.look_at_order" c8 .none
 kP:fC K A.Walk "look_at_warmth" "Walk.look_at_warmth" cT .none
 db:xu K A.Reach
 GM:Fj K A.Reach
 dh:dH K A.Reach "hold"
 dI:dH K A.Reach "spreads"
 oP:fC K A.Reach "__init__" "Reach.__init__" fq .none
 kQ:fC K A.Reach "states_behind" "Reach.states_behind" cU .none
 rA:fC K A.Reach "spread" "Reach.spread" gm .none
 G7:K8 K A.cx "NoTurn.__init__" eM
 Fw:K8 K A.cK "NoBand.__init__" eI
 AH:gC K mg "has_room" kG
 xZ:gC K mg "with_room" i6
 Br:gC K mg "how_many" kB
 Dc:gC K mg "members" lX
 Db:gC K mg "subsets" lU
 CY:gC K mg "bits_of" lO
 Eb:gC K mg "divisor" l5
 AA:gC K mg "fraction" j3
 NN:gC K mg "plus" wy
 J8:gC K mg "minus" qV
 IZ:gC K mg "under" qH
 mU:gC K mg "sum_of_products" eG
 ye:gC K mg "warmth_of" jo
 DG:gC K mg "span_of" lQ
 Dk:gC K mg "touched" lP
 E1:gC K mg "within" nX
 AQ:gC K mg "is_state" jR
 yp:gC K mg "fits_room" jh
 vx:gC K mg "fits_stove" il
 ql:gC K mg "look_at_state" fP
 wU:gC K mg "with_stove" ii
 D6:gC K mg "wood_of" lT
 xO:gC K mg "must_stay" i8
 Ax:gC K mg "can_burn" kJ
 za:gC K mg "orders_of" jf
 Bi:gC K mg "may_fail" jS
 Ec:gC K mg "failing" lZ
 ul:gC K mg "behind_turn" gP
 qu:gC K mg "stoves_behind" fL
 tQ:gC K mg "wait_behind" gQ
 qo:gC K mg "failed_behind" fS
 AJ:gC K mg "outcomes" kA
 um:gC K mg "each_choice" gT
 qz:gC K mg "is_whole_upto" fR
 yG:gC K mg "is_rising" jk
 oS:gC K mg "bands_together" fm
 xI:Mz K mg "hold_like" fc (.ref A.lE)
 zF:AN K A.lE [.b9,.b9,.b9]
 t8:gC K mg "_law_cell_at" gR
 Bp:gC K mg "_law_pick" ke
 yR:gC K mg "_law_ratio" i3
 yd:gC K mg "_law_scale" i7
 BM:gC K mg "_law_warm" ko
 rH:gC K mg "_law_stove_by" gr
 zH:gC K mg "_law_drawn" jc
 yM:gC K mg "_law_built" jr
 tE:gC K mg "_law_state_by" gl
 AV:gC K mg "_law_span" kF
 BL:gC K mg "_law_mild" kH
 GK:gC K mg "_law_in" nc
 tZ:gC K mg "_law_warmths" gS
 yT:gC K mg "_law_taken" jg
 zj:gC K mg "_law_right" jj
 So:gC K mg "law" yk
 GY:mg "abs" = none
 LC:mg "all" = none
 Nc:mg "bool" = none
 Op:mg "dict" = none
 jl:mg "enumerate" = none
 Pk:mg "int" = none
 nP:mg "isinstance" = none
 f8:mg "len" = none
 wO:mg "list" = none
 LZ:mg "max" = none
 LN:mg "min" = none
 cI:mg "range" = none
 Uh:mg "sum" = none
 kn:mg "tuple" = none
 Qn:mg "zip" = none
abbrev kq_ (K:W.Frag) (a:Addr):Prop:=W.keepIn K (.ref a)=true
abbrev kc_ (K:W.Frag) (a:Value) (x:Str):Prop:=W.codeIn K a x=true
abbrev kf_ (K:W.Frag) (a:Addr) (b:Value) (c:Option Addr) (x y:Str) (s:Stmt) (d e f:Value) (g:Option Addr) (h i:Value) (n:Array (Option Value)):Prop:=K.lookup a=some ⟨b,c,.func (W.fnOf x y (bV s) (bj s) (ai s) .none d e f g h i),n⟩
abbrev kn_ (K:W.Frag) (x:Str) (a:Addr):Prop:=W.nsIn K mainGlobals x=some (some (.ref a))
abbrev kg_ (K:W.Frag) (a:Addr) (x:Str) (b:Addr):Prop:=W.findIn K (.ref a) x=some (some (.ref b))
theorem txt_mk {K:W.Frag} {h:Heap} {mg:Str->Option Value} (X:K.In h) (G:h.Ns mainGlobals mg)
 {z0 z1 z2 z3 z4 z5 z6 z7 z8 z9 BH z11 z12 z13 V5 z44 Rh PL RK Qs z92 EV FY Hy Fm Gu FR GR Gw Fl FJ MI ET Gd Gp Fi GU Hc Ft Gj DP CU Jd K0 IV J0 Ib IM JF KJ Ke IK HU JC HW JQ Je JL Iv Jc La Kx Jo KB Ld Ju IL K9 JO KG Ks KR Kq Iz JN Ij K4 Lc KA Nd JA J2 Le IT Km Jl KF ID Ia Kr JX Lb Kz JR KW Ll:Addr}
 {z14 z15 YS z17 z18 z19 z20 z21 z22 z23 z27 z28 z32 z33 z45 z46 z47 z93 z94 z95:Tok}
 {z24 z29 z35 z36 z49 z53 z54 z63 z64 z73 z74 z83 z84 z97 acF aj7 ZN agw acC ajI Zj akF acd ahe afZ aaK abq akJ ae7 Y4 aaG ajy ajR Y9 aib af8 am7 amx amk aaO akZ ane ad1 adB alX ad3 ZQ ZI aiB ahM amV ZV aew ad0 ahG ack afz Zz aeY ZG aav acZ aaA Y2 Zk aaX aiX adb agP aim anb amK ako alY afp ahg akC adR ajC ahI akf acA acn adX alK aml acv aaF ajP ami agq akc ani am9 aiV ad9 aau aeJ ajh ag0 aan aeb afJ Z8 abc akR Zo aab al3 anh amw ang Zu aj9 al9 ahi aez ai5 ah1 acL aeq ady abw al0 acT ahj ZJ al1 adk aj0 adL alu ahc adv alz aeO acm ah8 aiW acM amc aaa aaJ aar Zx af7 ahs aj4 aa5 amz ahh aay aik aeo ajF ahA ahd aed ac5 acw agQ adP:Option Addr}
 {z25 z30 z50 z98 akm aaB:Nat}
 {z26 z31 z37 z51 z55 z65 z75 z85 z99 ak6 ade aej ab6 afB agI ag2 YW ab3 ajA aaC ac0 amE adC Zp afI ahN abl abe akK akz agu ac4 aff agZ akG alo alN ak4 agU amn ZZ afv aie ai6 aax Ze ab2 afV aeW ajs ahV ajH ahp amW afC aek agX aae adA aj1 ae5 ZE afi ac1 ak7 adK acQ aaM aeT aha akq ai1 acP afd ahq agx am3 YV aco ajv aen alW abH aj3:Array (Option Value)}
 {z38 z39 z40 z41 z42 z43 z48 z56 z57 z58 z59 z60 z61 z66 z67 z68 z69 z70 z71 z76 z77 z78 z79 z80 z81 z86 z87 z88 z89 z90 z91 z96 aet abG alf ael VA acp aaL ai0 alJ adh Tf agE aaE al5 aa3 ac6 Uf adg ajb aiy alF ajS V3 aev ags Z9 amb aii Pq amM amp aeu ab0 Zn R6 alA aa7 ak8 abK aia Ts adp ZX ag8 ajZ aeP WJ abE al8 abh ae9 ajN SE abt anc adf amv aa2 XJ age aee aey ahY adq agD QE aiS aj6 abf ail aeS UJ adl abQ adH afG als Wr afN am1 abJ abg acz Ti ab1 akv ac9 ajf ahR R8 aiY afD aao afR aex Ps al2 ae4 ame aeF ajX TN acE ag4 alM aaZ aa1 Pl ajt acR aju abU aaW Xp ZA am8 acq Z1 adF VL afx aiz amC aba Zl RO aic aeN abn ait ajk WB ahC ahW agG alZ ab5 WO ag3 agS agn ahu agm TJ ajV aly Zq agk acy Tp aka ZL abx amu alt QM afw aiq alL amg afk WG adx afM aaR acK ajL Wk aeh alB ajG ae8 akt Rn ag5 acX acW agv ah3 TB ahQ ajB ahE aiZ ali Wy aea akh akS acj Zy QH aiL amY aix ajj aeM OZ afy alq aai ajK adN Q5 abY aiU agO ai3 ajQ W6 ahz acI aeD afm YU QF akb afr aeQ ahm Zm WS Z2 acU amI akg ag6 Xu amd air acg adQ abp QZ ahb abo abu adn ank PX aiP akY ZU abS ai2 Wb abI Y1 ahx agf acl WE Za aig ahS ag1 afO Ws afh acf Z3 agY aiF UK aaY ZC abT aiJ ajx Wq ajJ ajl ahJ aeK adU XY ahB adG abb Z4 abF UA aeE afA aa8 afE ajw O4 akk Zf adm aer anl PF am6 acD abP ahZ alC Vj abO amh amo aio ZP XV ada alQ YY acr aeU QC aja aeI aah ah5 akj Ry ad6 aac aap ahr akx VN aa6 abN afU abr alV Tc aiC adr akn acx alc Ug acJ ahv aaj abC ana Xv abL ak3 Zs ak1 aeZ alv SA ah6 alx amF Zw abM Rt aaP aef aiO agy ahl Qh aiR acV acb amR agC Rk ai7 YX abv abA anj Wx aiQ adY ag7 aiE alG Ui ah9 abX adD ajm afb O0 aip ad2 aht aiG aeA US aks aaH aif akD amB WX agh ae2 abD ale alP Ph ZO ak0 aaQ afQ akE Sj aij akd amU Zc afl Xg agr al6 agV amQ alg U0 adz ai8 ajU ahX ain P4 aa0 aj2 abk adj agi SN ajE agg agR akO ach Uy alS:Value}
 (adI:kn_ K "Hold" z0)
 (ai9:kn_ K "Walk" z1)
 (ahn:kn_ K "Reach" z2)
 (arM:kn_ K "StokeError" z3)
 (atF:kn_ K "NoHold" z4)
 (arA:kn_ K "NoState" z5)
 (alR:kn_ K "NoOrder" z6)
 (ajg:kn_ K "NoFailing" z7)
 (asy:kn_ K "NoRoom" z8)
 (aji:kn_ K "NoTurn" z9)
 (agj:kn_ K "NoBand" BH)
 (ajd:kn_ K "Ended" z11)
 (ac3:kn_ K "NOUGHT" z12)
 (aj5:kn_ K "WHOLE" z13)
 (acN:W.excIn K z6 [.type "ValueError",.type "Exception",.type "BaseException",.type "object"] "ValueError.__new__" = true)
 (ajY:W.excIn K z7 [.type "ValueError",.type "Exception",.type "BaseException",.type "object"] "ValueError.__new__" = true)
 (aby:W.excIn K z11 [.type "ValueError",.type "Exception",.type "BaseException",.type "object"] "ValueError.__new__" = true)
 (agl:W.findIn K (.ref z9) "turn" = some none)
 (ZH:W.hasDictIn K z9=true)
 (ZR:W.findIn K (.ref z9) "room" = some none)
 (adZ:W.findIn K (.ref z9) "__setattr__" = some (some (.builtin "object.__setattr__")))
 (aeH:jb K z9=true)
 (akp:W.findIn K (.ref z9) "__getattribute__" = some (some (.builtin "BaseException.__getattribute__")))
 (alm:W.findIn K (.ref z9) "__getattr__" = some none)
 (ajO:W.findIn K (.ref z9) "__class__" = some (some (.builtin "object.__class__")))
 (ae0:W.mroIn K z9 (.type "object")=some true)
 (akA:W.mroIn K z9 (.type "BaseException")=some true)
 (af5:W.isClsIn K z9=true)
 (amT:W.findIn K (.ref BH) "turn" = some none)
 (Zd:W.hasDictIn K BH=true)
 (aam:W.findIn K (.ref BH) "room" = some none)
 (aci:W.findIn K (.ref BH) "__setattr__" = some (some (.builtin "object.__setattr__")))
 (alU:jb K BH=true)
 (Y7:W.findIn K (.ref BH) "__getattribute__" = some (some (.builtin "BaseException.__getattribute__")))
 (ald:W.findIn K (.ref BH) "__getattr__" = some none)
 (aa9:W.findIn K (.ref BH) "__class__" = some (some (.builtin "object.__class__")))
 (ab7:W.mroIn K BH (.type "object")=some true)
 (af4:W.mroIn K BH (.type "BaseException")=some true)
 (aaU:W.isClsIn K BH=true)
 (aeL:W.specialIn K (.builtin "object.__class__") "__get__" = some (some (.builtin "getset_descriptor.__get__")))
 (amH:W.takesIn K (.builtin "object.__class__")=some true)
 (agW:W.nsIn K mainGlobals "LEAST_MARKS" = some (some (.int 2 z14)))
 (afa:W.nsIn K mainGlobals "MOST_BANDS" = some (some (.int 400 z15)))
 (am4:W.nsIn K mainGlobals "MOST_BURNING" = some (some (.int 4 YS)))
 (ZW:W.nsIn K mainGlobals "MOST_CAP" = some (some (.int 30 z17)))
 (afs:W.nsIn K mainGlobals "MOST_FAILS" = some (some (.int 3 z18)))
 (afu:W.nsIn K mainGlobals "MOST_LOAD" = some (some (.int 30 z19)))
 (aiw:W.nsIn K mainGlobals "MOST_MARKS" = some (some (.int 7 z20)))
 (amD:W.nsIn K mainGlobals "MOST_ROOMS" = some (some (.int 4 z21)))
 (Z5:W.nsIn K mainGlobals "MOST_STAY" = some (some (.int 3 z22)))
 (ajq:W.nsIn K mainGlobals "MOST_WOOD" = some (some (.int 9 z23)))
 (ae3:K.lookup z12=some ⟨.type "tuple",z24,.seq #[.int 0 z27,.int 1 z28] z25,z26⟩)
 (amX:K.lookup z13=some ⟨.type "tuple",z29,.seq #[.int 1 z32,.int 1 z33] z30,z31⟩)
 (adu:W.plainGet K z0 Str.empty=true)
 (afS:W.hasDictIn K z0=true)
 (amr:W.plainOver K z0=true)
 (abV:W.findIn K (.ref z0) "__setattr__" = some (some (.builtin "object.__setattr__")))
 (aiI:W.makesIn K z0=true)
 (af1:kq_ K z0)
 (agK:W.findIn K (.ref z0) "most" = some none)
 (amy:W.findIn K (.ref z0) "cap" = some none)
 (abj:W.findIn K (.ref z0) "load" = some none)
 (alj:W.findIn K (.ref z0) "mark_rows" = some none)
 (adS:W.findIn K (.ref z0) "flows" = some none)
 (abd:W.findIn K (.ref z0) "skies" = some none)
 (aeV:W.findIn K (.ref z0) "stoves" = some none)
 (aak:kg_ K z0 "__init__" V5)
 (adi:W.isFn K (.ref V5)=true)
 (akB:K.lookup V5=some ⟨z38,z35,.func (W.fnOf "__init__" "Hold.__init__" (bV cE) (bj cE) (ai cE) (.ref z44) z39 z40 z41 z36 z42 z43),z37⟩)
 (alk:kc_ K z42 "Hold.__init__")
 (Rb:kq_ K V5)
 (adW:K.lookup z44=some ⟨z48,z49,.seq #[.int 4 z45,.int 0 z46,.int 0 z47] z50,z51⟩)
 (ads:kg_ K z0 "put_room" Rh)
 (aaS:W.isFn K (.ref Rh)=true)
 (alD:kf_ K Rh z56 z53 "put_room" "Hold.put_room" fK z57 z58 z59 z54 z60 z61 z55)
 (aaf:kc_ K z60 "Hold.put_room")
 (Tj:kq_ K Rh)
 (amf:kg_ K z0 "put_flow" PL)
 (acY:W.isFn K (.ref PL)=true)
 (afK:kf_ K PL z66 z63 "put_flow" "Hold.put_flow" fM z67 z68 z69 z64 z70 z71 z65)
 (ajD:kc_ K z70 "Hold.put_flow")
 (RD:kq_ K PL)
 (am5:kg_ K z0 "put_sky" RK)
 (am2:W.isFn K (.ref RK)=true)
 (amP:kf_ K RK z76 z73 "put_sky" "Hold.put_sky" gx z77 z78 z79 z74 z80 z81 z75)
 (aaq:kc_ K z80 "Hold.put_sky")
 (RZ:kq_ K RK)
 (adE:kg_ K z0 "put_stove" Qs)
 (aca:W.isFn K (.ref Qs)=true)
 (agL:K.lookup Qs=some ⟨z86,z83,.func (W.fnOf "put_stove" "Hold.put_stove" (bV cq) (bj cq) (ai cq) (.ref z92) z87 z88 z89 z84 z90 z91),z85⟩)
 (af0:kc_ K z90 "Hold.put_stove")
 (Xb:kq_ K Qs)
 (akr:K.lookup z92=some ⟨z96,z97,.seq #[.int 0 z93,.int 0 z94,.int 0 z95] z98,z99⟩)
 (aei:kg_ K z0 "many" EV)
 (aaT:W.isFn K (.ref EV)=true)
 (aeg:kf_ K EV aet acF "many" "Hold.many" jq abG alf ael aj7 VA acp ak6)
 (adM:kc_ K VA "Hold.many")
 (Vb:kq_ K EV)
 (agH:kg_ K z0 "marks" FY)
 (aem:W.isFn K (.ref FY)=true)
 (agz:kf_ K FY aaL ZN "marks" "Hold.marks" ig ai0 alJ adh agw Tf agE ade)
 (ZT:kc_ K Tf "Hold.marks")
 (Xs:kq_ K FY)
 (aeG:kg_ K z0 "share" Hy)
 (amA:W.isFn K (.ref Hy)=true)
 (aal:kf_ K Hy aaE acC "share" "Hold.share" ij al5 aa3 ac6 ajI Uf adg aej)
 (aid:kc_ K Uf "Hold.share")
 (R0:kq_ K Hy)
 (af2:kg_ K z0 "sky" Fm)
 (amq:W.isFn K (.ref Fm)=true)
 (alT:kf_ K Fm ajb Zj "sky" "Hold.sky" kz aiy alF ajS akF V3 aev ab6)
 (aiM:kc_ K V3 "Hold.sky")
 (W3:kq_ K Fm)
 (aku:kg_ K z0 "stove" Gu)
 (ahf:W.isFn K (.ref Gu)=true)
 (alr:kf_ K Gu ags acd "stove" "Hold.stove" ik Z9 amb aii ahe Pq amM afB)
 (aes:kc_ K Pq "Hold.stove")
 (RB:kq_ K Gu)
 (ah2:kg_ K z0 "own_share" FR)
 (aje:W.isFn K (.ref FR)=true)
 (amG:kf_ K FR amp afZ "own_share" "Hold.own_share" ft aeu ab0 Zn aaK R6 alA agI)
 (acH:kc_ K R6 "Hold.own_share")
 (Vy:kq_ K FR)
 (ai4:kg_ K z0 "look_for" GR)
 (agA:W.isFn K (.ref GR)=true)
 (aiK:kf_ K GR aa7 abq "look_for" "Hold.look_for" fO ak8 abK aia akJ Ts adp ag2)
 (abB:kc_ K Ts "Hold.look_for")
 (PQ:kq_ K GR)
 (Zv:kg_ K z0 "look_at_share" Gw)
 (ak2:W.isFn K (.ref Gw)=true)
 (ahk:kf_ K Gw ZX ae7 "look_at_share" "Hold.look_at_share" c3 ag8 ajZ aeP Y4 WJ abE YW)
 (abz:kc_ K WJ "Hold.look_at_share")
 (Vx:kq_ K Gw)
 (abW:W.plainGet K z1 Str.empty=true)
 (akI:W.hasDictIn K z1=true)
 (afH:W.plainOver K z1=true)
 (af6:W.findIn K (.ref z1) "__setattr__" = some (some (.builtin "object.__setattr__")))
 (aaV:W.makesIn K z1=true)
 (ahK:kq_ K z1)
 (ZS:W.findIn K (.ref z1) "hold" = some none)
 (ahL:W.findIn K (.ref z1) "place" = some none)
 (ahO:W.findIn K (.ref z1) "gone" = some none)
 (acu:W.findIn K (.ref z1) "ended" = some none)
 (akP:kg_ K z1 "__init__" Fl)
 (amS:W.isFn K (.ref Fl)=true)
 (ZB:kf_ K Fl al8 aaG "__init__" "Walk.__init__" fQ abh ae9 ajN ajy SE abt ab3)
 (Zb:kc_ K SE "Walk.__init__")
 (Vt:kq_ K Fl)
 (agJ:kg_ K z1 "go" FJ)
 (Z6:W.isFn K (.ref FJ)=true)
 (aag:K.lookup FJ=some ⟨anc,ajR,.func (W.fnOf "go" "Walk.go" (bV gH) (bj gH) (ai gH) (.ref MI) adf amv aa2 Y9 XJ age),ajA⟩)
 (ajr:kc_ K XJ "Walk.go")
 (UG:kq_ K FJ)
 (adc:K.lookup MI=some ⟨aee,aib,.seq #[.none] akm,aaC⟩)
 (agb:kg_ K z1 "state" ET)
 (akH:W.isFn K (.ref ET)=true)
 (alH:kf_ K ET aey af8 "state" "Walk.state" iy ahY adq agD am7 QE aiS ac0)
 (anf:kc_ K QE "Walk.state")
 (PK:kq_ K ET)
 (YZ:kg_ K z1 "turns" Gd)
 (Ql:W.isFn K (.ref Gd)=true)
 (VQ:kf_ K Gd aj6 amx "turns" "Walk.turns" io abf ail aeS amk UJ adl amE)
 (Pn:kc_ K UJ "Walk.turns")
 (Ml:kq_ K Gd)
 (VC:kg_ K z1 "span" Gp)
 (XI:W.isFn K (.ref Gp)=true)
 (Vm:kf_ K Gp abQ aaO "span" "Walk.span" i4 adH afG als akZ Wr afN adC)
 (UQ:kc_ K Wr "Walk.span")
 (LL:kq_ K Gp)
 (Va:kg_ K z1 "look_at_order" Fi)
 (Sg:W.isFn K (.ref Fi)=true)
 (TD:kf_ K Fi am1 ane "look_at_order" "Walk.look_at_order" c8 abJ abg acz ad1 Ti ab1 Zp)
 (WH:kc_ K Ti "Walk.look_at_order")
 (LV:kq_ K Fi)
 (Rx:kg_ K z1 "look_at_warmth" GU)
 (PC:W.isFn K (.ref GU)=true)
 (XS:kf_ K GU akv adB "look_at_warmth" "Walk.look_at_warmth" cT ac9 ajf ahR alX R8 aiY afI)
 (XA:kc_ K R8 "Walk.look_at_warmth")
 (LJ:kq_ K GU)
 (PD:W.plainGet K z2 Str.empty=true)
 (RX:W.hasDictIn K z2=true)
 (VX:W.plainOver K z2=true)
 (T8:W.findIn K (.ref z2) "__setattr__" = some (some (.builtin "object.__setattr__")))
 (Us:W.makesIn K z2=true)
 (P1:kq_ K z2)
 (Rl:W.findIn K (.ref z2) "hold" = some none)
 (Xt:W.findIn K (.ref z2) "spreads" = some none)
 (Tn:kg_ K z2 "__init__" Hc)
 (Xi:W.isFn K (.ref Hc)=true)
 (W5:kf_ K Hc afD ad3 "__init__" "Reach.__init__" fq aao afR aex ZQ Ps al2 ahN)
 (Rz:kc_ K Ps "Reach.__init__")
 (L5:kq_ K Hc)
 (Sn:kg_ K z2 "states_behind" Ft)
 (Ra:W.isFn K (.ref Ft)=true)
 (Pa:kf_ K Ft ae4 ZI "states_behind" "Reach.states_behind" cU ame aeF ajX aiB TN acE abl)
 (V8:kc_ K TN "Reach.states_behind")
 (LI:kq_ K Ft)
 (Tq:kg_ K z2 "spread" Gj)
 (Qx:W.isFn K (.ref Gj)=true)
 (QI:kf_ K Gj ag4 ahM "spread" "Reach.spread" gm alM aaZ aa1 amV Pl ajt abe)
 (T9:kc_ K Pl "Reach.spread")
 (LG:kq_ K Gj)
 (apu:kg_ K z9 "__init__" DP)
 (Vg:kf_ K DP acR ZV "__init__" "NoTurn.__init__" eM aju abU aaW aew Xp ZA akK)
 (Ww:kc_ K Xp "NoTurn.__init__")
 (Wn:kq_ K DP)
 (RC:W.typeIn K (.ref DP)=some (.type "function"))
 (Tg:qS K z9 DP Ir "ValueError.__new__" = true)
 (aoF:kg_ K BH "__init__" CU)
 (WR:kf_ K CU am8 ad0 "__init__" "NoBand.__init__" eI acq Z1 adF ahG VL afx akz)
 (V1:kc_ K VL "NoBand.__init__")
 (RM:kq_ K CU)
 (U6:W.typeIn K (.ref CU)=some (.type "function"))
 (Pg:qS K BH CU Ir "ValueError.__new__" = true)
 (Pw:kn_ K "has_room" Jd)
 (Ua:kf_ K Jd aiz ack "has_room" "has_room" kG amC aba Zl afz RO aic agu)
 (QA:kc_ K RO "has_room")
 (Xm:kq_ K Jd)
 (VE:kn_ K "with_room" K0)
 (Tu:kf_ K K0 aeN Zz "with_room" "with_room" i6 abn ait ajk aeY WB ahC ac4)
 (Tb:kc_ K WB "with_room")
 (WQ:kq_ K K0)
 (Vv:kn_ K "how_many" IV)
 (VT:kf_ K IV ahW ZG "how_many" "how_many" kB agG alZ ab5 aav WO ag3 aff)
 (UL:kc_ K WO "how_many")
 (Ut:kq_ K IV)
 (P2:kn_ K "members" J0)
 (Pz:kf_ K J0 agS acZ "members" "members" lX agn ahu agm aaA TJ ajV agZ)
 (Qi:kc_ K TJ "members")
 (RI:kq_ K J0)
 (X0:kn_ K "subsets" Ib)
 (TQ:kf_ K Ib aly Y2 "subsets" "subsets" lU Zq agk acy Zk Tp aka akG)
 (Qw:kc_ K Tp "subsets")
 (UF:kq_ K Ib)
 (Qv:kn_ K "bits_of" IM)
 (T3:kf_ K IM ZL aaX "bits_of" "bits_of" lO abx amu alt aiX QM afw alo)
 (Uo:kc_ K QM "bits_of")
 (RH:kq_ K IM)
 (Vz:kn_ K "divisor" JF)
 (UY:kf_ K JF aiq adb "divisor" "divisor" l5 alL amg afk agP WG adx alN)
 (UW:kc_ K WG "divisor")
 (Qy:kq_ K JF)
 (Ub:kn_ K "fraction" KJ)
 (Pp:kf_ K KJ afM aim "fraction" "fraction" j3 aaR acK ajL anb Wk aeh ak4)
 (Uw:kc_ K Wk "fraction")
 (Vs:kq_ K KJ)
 (U4:kn_ K "plus" Ke)
 (QQ:kf_ K Ke alB amK "plus" "plus" wy ajG ae8 akt ako Rn ag5 agU)
 (P8:kc_ K Rn "plus")
 (Qj:kq_ K Ke)
 (T2:kn_ K "minus" IK)
 (Wt:kf_ K IK acX alY "minus" "minus" qV acW agv ah3 afp TB ahQ amn)
 (Ur:kc_ K TB "minus")
 (TH:kq_ K IK)
 (PB:kn_ K "under" HU)
 (WT:kf_ K HU ajB ahg "under" "under" qH ahE aiZ ali akC Wy aea ZZ)
 (Qb:kc_ K Wy "under")
 (WK:kq_ K HU)
 (Vf:kn_ K "sum_of_products" JC)
 (Ri:kf_ K JC akh adR "sum_of_products" "sum_of_products" eG akS acj Zy ajC QH aiL afv)
 (Rg:kc_ K QH "sum_of_products")
 (WY:kq_ K JC)
 (SJ:kn_ K "warmth_of" HW)
 (XM:kf_ K HW amY ahI "warmth_of" "warmth_of" jo aix ajj aeM akf OZ afy aie)
 (Uu:kc_ K OZ "warmth_of")
 (U9:kq_ K HW)
 (SD:kn_ K "span_of" JQ)
 (RF:kf_ K JQ alq acA "span_of" "span_of" lQ aai ajK adN acn Q5 abY ai6)
 (TZ:kc_ K Q5 "span_of")
 (TK:kq_ K JQ)
 (RS:kn_ K "touched" Je)
 (RG:kf_ K Je aiU adX "touched" "touched" lP agO ai3 ajQ alK W6 ahz aax)
 (QN:kc_ K W6 "touched")
 (Uv:kq_ K Je)
 (WC:kn_ K "within" JL)
 (Pt:kf_ K JL acI aml "within" "within" nX aeD afm YU acv QF akb Ze)
 (Pf:kc_ K QF "within")
 (WN:kq_ K JL)
 (Px:kn_ K "is_state" Iv)
 (Th:kf_ K Iv afr aaF "is_state" "is_state" jR aeQ ahm Zm ajP WS Z2 ab2)
 (Xe:kc_ K WS "is_state")
 (Xw:kq_ K Iv)
 (T4:kn_ K "fits_room" Jc)
 (R7:kf_ K Jc acU ami "fits_room" "fits_room" jh amI akg ag6 agq Xu amd afV)
 (Vi:kc_ K Xu "fits_room")
 (TM:kq_ K Jc)
 (PM:kn_ K "fits_stove" La)
 (UB:kf_ K La air akc "fits_stove" "fits_stove" il acg adQ abp ani QZ ahb aeW)
 (Re:kc_ K QZ "fits_stove")
 (QV:kq_ K La)
 (Vk:kn_ K "look_at_state" Kx)
 (VS:kf_ K Kx abo am9 "look_at_state" "look_at_state" fP abu adn ank aiV PX aiP ajs)
 (U7:kc_ K PX "look_at_state")
 (TF:kq_ K Kx)
 (TV:kn_ K "with_stove" Jo)
 (U2:kf_ K Jo akY ad9 "with_stove" "with_stove" ii ZU abS ai2 aau Wb abI ahV)
 (Q6:kc_ K Wb "with_stove")
 (Sw:kq_ K Jo)
 (Sq:kn_ K "wood_of" KB)
 (RU:kf_ K KB Y1 aeJ "wood_of" "wood_of" lT ahx agf acl ajh WE Za ajH)
 (Si:kc_ K WE "wood_of")
 (Q2:kq_ K KB)
 (QU:kn_ K "must_stay" Ld)
 (Sd:kf_ K Ld aig ag0 "must_stay" "must_stay" i8 ahS ag1 afO aan Ws afh ahp)
 (RY:kc_ K Ws "must_stay")
 (Pb:kq_ K Ld)
 (SQ:kn_ K "can_burn" Ju)
 (Pj:kf_ K Ju acf aeb "can_burn" "can_burn" kJ Z3 agY aiF afJ UK aaY amW)
 (W0:kc_ K UK "can_burn")
 (QT:kq_ K Ju)
 (O2:kn_ K "orders_of" IL)
 (V2:kf_ K IL ZC Z8 "orders_of" "orders_of" jf abT aiJ ajx abc Wq ajJ afC)
 (WA:kc_ K Wq "orders_of")
 (Qk:kq_ K IL)
 (RP:kn_ K "may_fail" K9)
 (Qo:kf_ K K9 ajl akR "may_fail" "may_fail" jS ahJ aeK adU Zo XY ahB aek)
 (Vo:kc_ K XY "may_fail")
 (SI:kq_ K K9)
 (SZ:kn_ K "failing" JO)
 (PY:kf_ K JO adG aab "failing" "failing" lZ abb Z4 abF al3 UA aeE agX)
 (Wl:kc_ K UA "failing")
 (WI:kq_ K JO)
 (Wg:kn_ K "behind_turn" KG)
 (X2:kf_ K KG afA anh "behind_turn" "behind_turn" gP aa8 afE ajw amw O4 akk aae)
 (Wc:kc_ K O4 "behind_turn")
 (WL:kq_ K KG)
 (U5:kn_ K "stoves_behind" Ks)
 (RV:kf_ K Ks Zf ang "stoves_behind" "stoves_behind" fL adm aer anl Zu PF am6 adA)
 (PH:kc_ K PF "stoves_behind")
 (Vu:kq_ K Ks)
 (Uc:kn_ K "wait_behind" KR)
 (Vw:kf_ K KR acD aj9 "wait_behind" "wait_behind" gQ abP ahZ alC al9 Vj abO aj1)
 (Qt:kc_ K Vj "wait_behind")
 (V9:kq_ K KR)
 (Xa:kn_ K "failed_behind" Kq)
 (RE:kf_ K Kq amh ahi "failed_behind" "failed_behind" fS amo aio ZP aez XV ada ae5)
 (UM:kc_ K XV "failed_behind")
 (W2:kq_ K Kq)
 (Wo:kn_ K "outcomes" Iz)
 (Ta:kf_ K Iz alQ ai5 "outcomes" "outcomes" kA YY acr aeU ah1 QC aja ZE)
 (SU:kc_ K QC "outcomes")
 (Wv:kq_ K Iz)
 (SX:kn_ K "each_choice" JN)
 (Xk:kf_ K JN aeI acL "each_choice" "each_choice" gT aah ah5 akj aeq Ry ad6 afi)
 (SL:kc_ K Ry "each_choice")
 (V6:kq_ K JN)
 (O8:kn_ K "is_whole_upto" Ij)
 (P9:kf_ K Ij aac ady "is_whole_upto" "is_whole_upto" fR aap ahr akx abw VN aa6 ac1)
 (Rr:kc_ K VN "is_whole_upto")
 (VZ:kq_ K Ij)
 (Rw:kn_ K "is_rising" K4)
 (PJ:kf_ K K4 abN al0 "is_rising" "is_rising" jk afU abr alV acT Tc aiC ak7)
 (Qf:kc_ K Tc "is_rising")
 (VG:kq_ K K4)
 (Wz:kn_ K "bands_together" Lc)
 (Sx:kf_ K Lc adr ahj "bands_together" "bands_together" fm akn acx alc ZJ Ug acJ adK)
 (Q8:kc_ K Ug "bands_together")
 (Rc:kq_ K Lc)
 (R1:kn_ K "hold_like" KA)
 (Wp:K.lookup KA=some ⟨ahv,al1,.func (W.fnOf "hold_like" "hold_like" (bV fc) (bj fc) (ai fc) (.ref Nd) aaj abC ana adk Xv abL),acQ⟩)
 (Vp:kc_ K Xv "hold_like")
 (W4:kq_ K KA)
 (U8:K.lookup Nd=some ⟨ak3,aj0,.seq #[.none,.none,.none] aaB,aaM⟩)
 (Rs:kn_ K "_law_cell_at" JA)
 (TR:kf_ K JA Zs adL "_law_cell_at" "_law_cell_at" gR ak1 aeZ alv alu SA ah6 aeT)
 (Sb:kc_ K SA "_law_cell_at")
 (Sr:kq_ K JA)
 (WZ:kn_ K "_law_pick" J2)
 (Ro:kf_ K J2 alx ahc "_law_pick" "_law_pick" ke amF Zw abM adv Rt aaP aha)
 (Wa:kc_ K Rt "_law_pick")
 (Qa:kq_ K J2)
 (WV:kn_ K "_law_ratio" Le)
 (Tt:kf_ K Le aef alz "_law_ratio" "_law_ratio" i3 aiO agy ahl aeO Qh aiR akq)
 (Wm:kc_ K Qh "_law_ratio")
 (Pc:kq_ K Le)
 (V0:kn_ K "_law_scale" IT)
 (Tl:kf_ K IT acV acm "_law_scale" "_law_scale" i7 acb amR agC ah8 Rk ai7 ai1)
 (QX:kc_ K Rk "_law_scale")
 (VO:kq_ K IT)
 (Q0:kn_ K "_law_warm" Km)
 (SR:kf_ K Km YX aiW "_law_warm" "_law_warm" ko abv abA anj acM Wx aiQ acP)
 (Qe:kc_ K Wx "_law_warm")
 (VB:kq_ K Km)
 (Q1:kn_ K "_law_stove_by" Jl)
 (Xn:kf_ K Jl adY amc "_law_stove_by" "_law_stove_by" gr ag7 aiE alG aaa Ui ah9 afd)
 (VW:kc_ K Ui "_law_stove_by")
 (P6:kq_ K Jl)
 (WW:kn_ K "_law_drawn" KF)
 (XF:kf_ K KF abX aaJ "_law_drawn" "_law_drawn" jc adD ajm afb aar O0 aip ahq)
 (Qu:kc_ K O0 "_law_drawn")
 (O9:kq_ K KF)
 (UN:kn_ K "_law_built" ID)
 (P3:kf_ K ID ad2 Zx "_law_built" "_law_built" jr aht aiG aeA af7 US aks agx)
 (Qm:kc_ K US "_law_built")
 (RJ:kq_ K ID)
 (Wu:kn_ K "_law_state_by" Ia)
 (UT:kf_ K Ia aaH ahs "_law_state_by" "_law_state_by" gl aif akD amB aj4 WX agh am3)
 (P0:kc_ K WX "_law_state_by")
 (Sk:kq_ K Ia)
 (VD:kn_ K "_law_span" Kr)
 (Pd:kf_ K Kr ae2 aa5 "_law_span" "_law_span" kF abD ale alP amz Ph ZO YV)
 (Ud:kc_ K Ph "_law_span")
 (Xr:kq_ K Kr)
 (Sc:kn_ K "_law_mild" JX)
 (Q9:kf_ K JX ak0 ahh "_law_mild" "_law_mild" kH aaQ afQ akE aay Sj aij aco)
 (Tv:kc_ K Sj "_law_mild")
 (TW:kq_ K JX)
 (XB:kn_ K "_law_in" Lb)
 (RW:kf_ K Lb akd aik "_law_in" "_law_in" nc amU Zc afl aeo Xg agr ajv)
 (Ve:kc_ K Xg "_law_in")
 (QO:kq_ K Lb)
 (Qd:kn_ K "_law_warmths" Kz)
 (TY:kf_ K Kz al6 ajF "_law_warmths" "_law_warmths" gS agV amQ alg ahA U0 adz aen)
 (P5:kc_ K U0 "_law_warmths")
 (XG:kq_ K Kz)
 (XH:kn_ K "_law_taken" JR)
 (Xy:kf_ K JR ai8 ahd "_law_taken" "_law_taken" jg ajU ahX ain aed P4 aa0 alW)
 (VH:kc_ K P4 "_law_taken")
 (Tk:kq_ K JR)
 (RN:kn_ K "_law_right" KW)
 (VU:kf_ K KW aj2 ac5 "_law_right" "_law_right" jj abk adj agi acw SN ajE abH)
 (Qq:kc_ K SN "_law_right")
 (UP:kq_ K KW)
 (V4:kn_ K "law" Ll)
 (QL:kf_ K Ll agg agQ "law" "law" yk agR akO ach adP Uy alS aj3)
 (WU:kc_ K Uy "law")
 (UE:kq_ K Ll)
 (XC:W.nsIn K mainGlobals "abs" = some none)
 (RQ:W.nsIn K mainGlobals "all" = some none)
 (Xx:W.nsIn K mainGlobals "bool" = some none)
 (Q3:W.nsIn K mainGlobals "dict" = some none)
 (SK:W.nsIn K mainGlobals "enumerate" = some none)
 (Ue:W.nsIn K mainGlobals "int" = some none)
 (Rf:W.nsIn K mainGlobals "isinstance" = some none)
 (Rq:W.nsIn K mainGlobals "len" = some none)
 (Wj:W.nsIn K mainGlobals "list" = some none)
 (Vn:W.nsIn K mainGlobals "max" = some none)
 (UZ:W.nsIn K mainGlobals "min" = some none)
 (Po:W.nsIn K mainGlobals "range" = some none)
 (Sl:W.nsIn K mainGlobals "sum" = some none)
 (Q7:W.nsIn K mainGlobals "tuple" = some none)
 (UI:W.nsIn K mainGlobals "zip" = some none)
 : Txt K mg ⟨z0,z1,z2,z3,z4,z5,z6,z7,z8,z9,BH,z11,z12,z13,z44,z92,MI,Nd⟩ :=
⟨afj X G adI,
afj X G ai9,
afj X G ahn,
afj X G alR,
afj X G ajg,
afj X G aji,
afj X G agj,
afj X G ajd,
afj X G ac3,
afj X G aj5,
acN,
ajY,
aby,
agl,
ZH,
ZR,
adZ,
aeH,
akp,
alm,
ajO,
ae0,
akA,
af5,
amT,
Zd,
aam,
aci,
alU,
Y7,
ald,
aa9,
ab7,
af4,
aaU,
aeL,
amH,
⟨_,afj X G agW⟩,
⟨_,afj X G afa⟩,
⟨_,afj X G am4⟩,
⟨_,afj X G ZW⟩,
⟨_,afj X G afs⟩,
⟨_,afj X G afu⟩,
⟨_,afj X G aiw⟩,
⟨_,afj X G amD⟩,
⟨_,afj X G Z5⟩,
⟨_,afj X G ajq⟩,
L7 ae3,
L7 amX,
⟨adu,afS,amr,abV⟩,
⟨aiI,af1⟩,
agK,
amy,
abj,
alj,
adS,
abd,
aeV,
⟨V5,_,⟨aak,adi,Rb⟩,bN (st:=cE) akB alk Rb⟩,
⟨_,_,_,adW,rfl,(.cons ⟨_,rfl⟩ (.cons ⟨_,rfl⟩ (.cons ⟨_,rfl⟩ .nil)))⟩,
⟨Rh,_,⟨ads,aaS,Tj⟩,bN (st:=fK) alD aaf Tj⟩,
⟨PL,_,⟨amf,acY,RD⟩,bN (st:=fM) afK ajD RD⟩,
⟨RK,_,⟨am5,am2,RZ⟩,bN (st:=gx) amP aaq RZ⟩,
⟨Qs,_,⟨adE,aca,Xb⟩,bN (st:=cq) agL af0 Xb⟩,
⟨_,_,_,akr,rfl,(.cons ⟨_,rfl⟩ (.cons ⟨_,rfl⟩ (.cons ⟨_,rfl⟩ .nil)))⟩,
⟨EV,_,⟨aei,aaT,Vb⟩,bN (st:=jq) aeg adM Vb⟩,
⟨FY,_,⟨agH,aem,Xs⟩,bN (st:=ig) agz ZT Xs⟩,
⟨Hy,_,⟨aeG,amA,R0⟩,bN (st:=ij) aal aid R0⟩,
⟨Fm,_,⟨af2,amq,W3⟩,bN (st:=kz) alT aiM W3⟩,
⟨Gu,_,⟨aku,ahf,RB⟩,bN (st:=ik) alr aes RB⟩,
⟨FR,_,⟨ah2,aje,Vy⟩,bN (st:=ft) amG acH Vy⟩,
⟨GR,_,⟨ai4,agA,PQ⟩,bN (st:=fO) aiK abB PQ⟩,
⟨Gw,_,⟨Zv,ak2,Vx⟩,bN (st:=c3) ahk abz Vx⟩,
⟨abW,akI,afH,af6⟩,
⟨aaV,ahK⟩,
ZS,
ahL,
ahO,
acu,
⟨Fl,_,⟨akP,amS,Vt⟩,bN (st:=fQ) ZB Zb Vt⟩,
⟨FJ,_,⟨agJ,Z6,UG⟩,bN (st:=gH) aag ajr UG⟩,
⟨_,_,_,adc,rfl,(.cons rfl .nil)⟩,
⟨ET,_,⟨agb,akH,PK⟩,bN (st:=iy) alH anf PK⟩,
⟨Gd,_,⟨YZ,Ql,Ml⟩,bN (st:=io) VQ Pn Ml⟩,
⟨Gp,_,⟨VC,XI,LL⟩,bN (st:=i4) Vm UQ LL⟩,
⟨Fi,_,⟨Va,Sg,LV⟩,bN (st:=c8) TD WH LV⟩,
⟨GU,_,⟨Rx,PC,LJ⟩,bN (st:=cT) XS XA LJ⟩,
⟨PD,RX,VX,T8⟩,
⟨Us,P1⟩,
Rl,
Xt,
⟨Hc,_,⟨Tn,Xi,L5⟩,bN (st:=fq) W5 Rz L5⟩,
⟨Ft,_,⟨Sn,Ra,LI⟩,bN (st:=cU) Pa V8 LI⟩,
⟨Gj,_,⟨Tq,Qx,LG⟩,bN (st:=gm) QI T9 LG⟩,
⟨DP,_,BZ Tg RC,bN (st:=eM) Vg Ww Wn⟩,
⟨CU,_,BZ Pg U6,bN (st:=eI) WR V1 RM⟩,
⟨Jd,_,afj X G Pw,aS (st:=kG) Ua QA Xm⟩,
⟨K0,_,afj X G VE,aS (st:=i6) Tu Tb WQ⟩,
⟨IV,_,afj X G Vv,aS (st:=kB) VT UL Ut⟩,
⟨J0,_,afj X G P2,aS (st:=lX) Pz Qi RI⟩,
⟨Ib,_,afj X G X0,aS (st:=lU) TQ Qw UF⟩,
⟨IM,_,afj X G Qv,aS (st:=lO) T3 Uo RH⟩,
⟨JF,_,afj X G Vz,aS (st:=l5) UY UW Qy⟩,
⟨KJ,_,afj X G Ub,aS (st:=j3) Pp Uw Vs⟩,
⟨Ke,_,afj X G U4,aS (st:=wy) QQ P8 Qj⟩,
⟨IK,_,afj X G T2,aS (st:=qV) Wt Ur TH⟩,
⟨HU,_,afj X G PB,aS (st:=qH) WT Qb WK⟩,
⟨JC,_,afj X G Vf,aS (st:=eG) Ri Rg WY⟩,
⟨HW,_,afj X G SJ,aS (st:=jo) XM Uu U9⟩,
⟨JQ,_,afj X G SD,aS (st:=lQ) RF TZ TK⟩,
⟨Je,_,afj X G RS,aS (st:=lP) RG QN Uv⟩,
⟨JL,_,afj X G WC,aS (st:=nX) Pt Pf WN⟩,
⟨Iv,_,afj X G Px,aS (st:=jR) Th Xe Xw⟩,
⟨Jc,_,afj X G T4,aS (st:=jh) R7 Vi TM⟩,
⟨La,_,afj X G PM,aS (st:=il) UB Re QV⟩,
⟨Kx,_,afj X G Vk,aS (st:=fP) VS U7 TF⟩,
⟨Jo,_,afj X G TV,aS (st:=ii) U2 Q6 Sw⟩,
⟨KB,_,afj X G Sq,aS (st:=lT) RU Si Q2⟩,
⟨Ld,_,afj X G QU,aS (st:=i8) Sd RY Pb⟩,
⟨Ju,_,afj X G SQ,aS (st:=kJ) Pj W0 QT⟩,
⟨IL,_,afj X G O2,aS (st:=jf) V2 WA Qk⟩,
⟨K9,_,afj X G RP,aS (st:=jS) Qo Vo SI⟩,
⟨JO,_,afj X G SZ,aS (st:=lZ) PY Wl WI⟩,
⟨KG,_,afj X G Wg,aS (st:=gP) X2 Wc WL⟩,
⟨Ks,_,afj X G U5,aS (st:=fL) RV PH Vu⟩,
⟨KR,_,afj X G Uc,aS (st:=gQ) Vw Qt V9⟩,
⟨Kq,_,afj X G Xa,aS (st:=fS) RE UM W2⟩,
⟨Iz,_,afj X G Wo,aS (st:=kA) Ta SU Wv⟩,
⟨JN,_,afj X G SX,aS (st:=gT) Xk SL V6⟩,
⟨Ij,_,afj X G O8,aS (st:=fR) P9 Rr VZ⟩,
⟨K4,_,afj X G Rw,aS (st:=jk) PJ Qf VG⟩,
⟨Lc,_,afj X G Wz,aS (st:=fm) Sx Q8 Rc⟩,
⟨KA,_,afj X G R1,bN (st:=fc) Wp Vp W4⟩,
⟨_,_,_,U8,rfl,(.cons rfl (.cons rfl (.cons rfl .nil)))⟩,
⟨JA,_,afj X G Rs,aS (st:=gR) TR Sb Sr⟩,
⟨J2,_,afj X G WZ,aS (st:=ke) Ro Wa Qa⟩,
⟨Le,_,afj X G WV,aS (st:=i3) Tt Wm Pc⟩,
⟨IT,_,afj X G V0,aS (st:=i7) Tl QX VO⟩,
⟨Km,_,afj X G Q0,aS (st:=ko) SR Qe VB⟩,
⟨Jl,_,afj X G Q1,aS (st:=gr) Xn VW P6⟩,
⟨KF,_,afj X G WW,aS (st:=jc) XF Qu O9⟩,
⟨ID,_,afj X G UN,aS (st:=jr) P3 Qm RJ⟩,
⟨Ia,_,afj X G Wu,aS (st:=gl) UT P0 Sk⟩,
⟨Kr,_,afj X G VD,aS (st:=kF) Pd Ud Xr⟩,
⟨JX,_,afj X G Sc,aS (st:=kH) Q9 Tv TW⟩,
⟨Lb,_,afj X G XB,aS (st:=nc) RW Ve QO⟩,
⟨Kz,_,afj X G Qd,aS (st:=gS) TY P5 XG⟩,
⟨JR,_,afj X G XH,aS (st:=jg) Xy VH Tk⟩,
⟨KW,_,afj X G RN,aS (st:=jj) VU Qq UP⟩,
⟨Ll,_,afj X G V4,aS (st:=yk) QL WU UE⟩,
akQ X G XC,
akQ X G RQ,
akQ X G Xx,
akQ X G Q3,
akQ X G SK,
akQ X G Ue,
akQ X G Rf,
akQ X G Rq,
akQ X G Wj,
akQ X G Vn,
akQ X G UZ,
akQ X G Po,
akQ X G Sl,
akQ X G Q7,
akQ X G UI⟩
section
variable {P:Program} {w:World} {K:W.Frag} {mg:Str->Option Value} {base:Heap} {Ad:Ads}
theorem Al {lo:Int} {n:Nat} {g:TG} {tb:TS} {D:Ends} {U:L2.St} {H:Hp} (Pv:Nat->L2.St->Hp->Prop) (h0:Pv 0 U H)
   (hs:∀ (bk:L2.St->Hp->Prop) (rt:VK) (i:Nat) (U:L2.St) (H:Hp),i<n->Pv i U H->g (.int (lo+i)) U H λ σ2 H2=>tb ⟨Pv (i+1),rt,bk,Pv (i+1)⟩ σ2 H2) (hd:∀ U H,Pv n U H->D.nx U H) :
   ∃ W:Nat->Nat->L2.St->Hp->Prop,(∃ m,W 0 m U H)/\∀ i m U H,W i m U H ->
     ((EA lo n).stop i H/\D.nx U H)∨((EA lo n).go i H/\∃ N:L2.St->Hp->Prop,(∀ σ' H',N σ' H'->∃ m',m'<m/\W (i+1) m' σ' H')/\∀ x H',(EA lo n).Gn i H x H'->g x U H' λ σ2 H2=>tb { D with nx:=N,ct:=N,bk:=D.nx } σ2 H2) :=
 uA Pv h0 (λ i U H hi p=>hs D.nx D.rt i U H hi p) hd
theorem u7 {K:W.Frag} {a:Addr} {xs:List V} {g:TG} {tb:TS} {D:Ends} {U:L2.St} {H:Hp} (Pv:Nat->L2.St->Hp->Prop) (h0:Pv 0 U H) (hl:∀ i U H,i<=xs.length->Pv i U H->aT K H a xs)
   (hs:∀ (bk:L2.St->Hp->Prop) (rt:VK) (i:Nat) (x:V) (U:L2.St) (H:Hp),xs[i]?=some x->Pv i U H->g x U H λ σ2 H2=>tb ⟨Pv (i+1),rt,bk,Pv (i+1)⟩ σ2 H2) (hd:∀ U H,Pv xs.length U H->D.nx U H) :
   ∃ W:Nat->Nat->L2.St->Hp->Prop,(∃ m,W 0 m U H)/\∀ i m U H,W i m U H ->
     ((FM K a).stop i H/\D.nx U H)∨((FM K a).go i H/\∃ N:L2.St->Hp->Prop,(∀ σ' H',N σ' H'->∃ m',m'<m/\W (i+1) m' σ' H')/\∀ x H',(FM K a).Gn i H x H'->g x U H' λ σ2 H2=>tb { D with nx:=N,ct:=N,bk:=D.nx } σ2 H2) :=
 iU Pv h0 hl (λ i x U H hx p=>hs D.nx D.rt i x U H hx p) hd
def iR {lo:Int} {n:Nat} {g:TG} {tb:TS} {D:Ends} {U:L2.St} {H:Hp} (Pv:Nat->L2.St->Hp->Prop) (h0:Pv 0 U H) (hs:let G:Nat->L2.St->Hp->Prop:=λ i U H=>g (.int (lo+i)) U H λ σ2 H2=>tb { D with nx:=Pv (i+1),ct:=Pv (i+1),bk:=D.nx } σ2 H2
   ∀ (i:Nat) (U:L2.St) (H:Hp),i<n->Pv i U H->G i U H) (hd:∀ U H,Pv n U H->D.nx U H):=uA (lo:=lo) (n:=n) (g:=g) (tb:=tb) (D:=D) (U:=U) (H:=H) Pv h0 hs hd
def jA {K:W.Frag} {a:Addr} {xs:List V} {g:TG} {tb:TS} {D:Ends} {U:L2.St} {H:Hp} (Pv:Nat->L2.St->Hp->Prop) (h0:Pv 0 U H) (hl:∀ i U H,i<=xs.length->Pv i U H->aT K H a xs) (hs:let G:Nat->V->L2.St->Hp->Prop:=λ i x U H=>g x U H λ σ2 H2=>tb { D with nx:=Pv (i+1),ct:=Pv (i+1),bk:=D.nx } σ2 H2
   ∀ (i:Nat) (x:V) (U:L2.St) (H:Hp),xs[i]?=some x->Pv i U H->G i x U H) (hd:∀ U H,Pv xs.length U H->D.nx U H):=iU (K:=K) (a:=a) (xs:=xs) (g:=g) (tb:=tb) (D:=D) (U:=U) (H:=H) Pv h0 hl hs hd
def f6 {lo:Int} {n:Nat} {g:TG} {tb:TS} {D:Ends} {U:L2.St} {H:Hp} (Pv:Nat->L2.St->Hp->Prop) (h0:Pv 0 U H) (hs:let G:(L2.St->Hp->Prop)->VK->Nat->L2.St->Hp->Prop:=λ bk rt i U H=>g (.int (lo+i)) U H λ σ2 H2=>tb ⟨Pv (i+1),rt,bk,Pv (i+1)⟩ σ2 H2
   ∀ (bk:L2.St->Hp->Prop) (rt:VK) (i:Nat) (U:L2.St) (H:Hp),i<n->Pv i U H->G bk rt i U H) (hd:∀ U H,Pv n U H->D.nx U H):=Al (lo:=lo) (n:=n) (g:=g) (tb:=tb) (D:=D) (U:=U) (H:=H) Pv h0 hs hd
def NI {K:W.Frag} {a:Addr} {xs:List V} {g:TG} {tb:TS} {D:Ends} {U:L2.St} {H:Hp} (Pv:Nat->L2.St->Hp->Prop) (h0:Pv 0 U H) (hl:∀ i U H,i<=xs.length->Pv i U H->aT K H a xs) (hs:let G:(L2.St->Hp->Prop)->VK->Nat->V->L2.St->Hp->Prop:=λ bk rt i x U H=>g x U H λ σ2 H2=>tb ⟨Pv (i+1),rt,bk,Pv (i+1)⟩ σ2 H2
   ∀ (bk:L2.St->Hp->Prop) (rt:VK) (i:Nat) (x:V) (U:L2.St) (H:Hp),xs[i]?=some x->Pv i U H->G bk rt i x U H) (hd:∀ U H,Pv xs.length U H->D.nx U H):=u7 (K:=K) (a:=a) (xs:=xs) (g:=g) (tb:=tb) (D:=D) (U:=U) (H:=H) Pv h0 hl hs hd
theorem Aj (T:Txt K mg Ad):Def P w K mg base "divisor" 1 ["one","other"] ME:=by
 refine T.Eb.cD gE λ f bq A outer s H vs Q E hr h=>?_
 obtain ⟨a,b,rfl,k⟩:=h
 refine ⟨_,(ac (aE (i:=2) gE.nd rfl (lc rfl) (aX oG (by rfl) T.GY Ah (aa (pv 0) af)))
     (ac (aE (i:=3) gE.nd rfl (lc rfl) (aX oG (by rfl) T.GY Ah (aa (pv 1) af)))
     (ac (xz afP (aP lq (pv 3) ah (aV _)) (ac (aE (i:=4) gE.nd rfl (lc rfl) (ay iu (pv 2) (pv 3)))
     (ac (aE (i:=2) gE.nd rfl (lc rfl) (pv 3))
     (al (aE (i:=3) gE.nd rfl (lc rfl) (pv 4))))))
     (al (aF (pv 2)))))),?_⟩
 try dsimp only [d7,aK]
 first|(refine c7 ?_;intro _ _ _ _ _)|skip
 refine ⟨_,rfl,_,rfl,λ g0 eg=>⟨_,rfl,_,rfl,λ l0 el=>?_⟩⟩
 refine ⟨λ m U H'=>H'=H/\E3 λ (g l:Int) (r:Option V)=>A5 (U=[some (.int a),some (.int b),some (.int g),some (.int l),r]) (0<=g) (0<=l) (m=l.toNat) (Int.gcd g l=Int.gcd a b),
   ⟨_,rfl,g0,l0,none,rfl,by lia,by lia,rfl,by rw [eg,el];rfl⟩,?_⟩
 rintro m U H' ⟨rfl,g,l,r,rfl,hg,hl,rfl,e⟩
 refine ⟨_,rfl,rfl,_,rfl,?_⟩
 refine wj (λ h=>?_) (λ h=>?_)
 .
  have l1:0<l:=by rw [fu] at h;lia
  refine ⟨λ σ' VM=>VM=H'/\σ'=[some (.int a),some (.int b),some (.int l),some (.int (g % l)),some (.int (g % l))],λ σ' VM ⟨e1,e2⟩=>?_,?_⟩
  . have m0:=ao3 g (by lia:l≠0)
    have m1:=aoK g l1
    exact ⟨(g % l).toNat,by lia,e1,l,g % l,_,e2,hl,m0,rfl,(LA hg l1).trans e⟩
  . refine ⟨_,rfl,_,rfl,_,_,rfl,rfl,l1,λ r _ _ er=>?_⟩
    subst er
    exact ⟨_,rfl,_,rfl,rfl,rfl⟩
 .
  have l1:l=0:=fu.mp h
  subst l1
  refine ⟨_,rfl,k g ?_⟩
  rw [← e,QS hg]
theorem lv (T:Txt K mg Ad):Def P w K mg base "fraction" 2 ["top","bottom"] zK:=by
 refine T.AA.cD kZ λ f bq A outer s H vs Q E hr h=>?_
 obtain ⟨t,b,rfl,hb,bb,k⟩:=h
 refine ⟨_,(ac (bx (aP jn (pv 1) ah (aV _)) (al cu) aI)
     (ac (aE (i:=2) kZ.nd rfl (lc rfl) (am (Aj (K:=K) T) hr.m (aa (pv 0) (aa (pv 1) af))))
     (ac (lD (bx (aP rC (pv 1) ah (aV _)) (al (aE (i:=2) kZ.nd rfl (lc rfl) (nE vZ (pv 2)))) aI))
     (al (aF (cm (aa (ay iG (pv 0) (pv 2)) (aa (ay iG (pv 1) (pv 2)) af)))))))),?_⟩
 try dsimp only [d7,aK]
 first|(refine c7 ?_;intro _ _ _ _ _)|skip
 refine ⟨_,rfl,rfl,_,rfl,?_⟩
 refine mZ (λ e=>hb (fu.mp e)) ?_
 refine ⟨_,rfl,_,rfl,t,b,rfl,λ c ec=>?_⟩
 obtain ⟨c0,cl,fp,fn⟩:=Gc hb ec
 have bc:Bd 8999 c:=(bb.le (by lia)).mono (by decide)
 refine ⟨λ σ' H'=>H'=H/\∃ c',A4 (c'≠0) (Bd 8999 c') (Fr t b (t.fdiv c') (b.fdiv c')) (σ'=[some (.int t),some (.int b),some (.int c')]),?_,?_⟩
 .
  refine ⟨_,rfl,_,_,rfl,rfl,_,rfl,?_⟩
  refine k9 (λ h=>?_) (λ h=>?_)
  . exact ⟨_,rfl,_,rfl,rfl,-c,by lia,bc.neg,fn h,rfl⟩
  . exact ⟨rfl,c,by lia,bc,fp (by lia),rfl⟩
 .
  rintro σ' H' ⟨rfl,c',h1,h2,h3,rfl⟩
  refine ⟨_,rfl,_,rfl,_,_,rfl,rfl,⟨h1,h2⟩,λ q eq=>⟨_,rfl,_,rfl,_,_,rfl,rfl,⟨h1,h2⟩,λ r er=>⟨zY,λ p hp=>?_⟩⟩⟩
  subst eq er
  exact k _ _ p _ h3 (ak hp) ag
theorem IR (T:Txt K mg Ad):Def P w K mg base "plus" 3 ["one","other"] (zh (λ a b c d=>a * d+c * b) K):=by
 refine T.NN.cD Jm λ f bq A outer s H vs Q E hr h=>?_
 obtain ⟨p1,p2,a,b,c,d,rfl,h1,h2,b0,d0,ba,bb,bc,bd,k⟩:=h
 refine ⟨_,(al (aF (am (lv (K:=K) T) hr.m (aa (ay aJ (ay aZ (aB au (pv 0) ah (λ _ _=>rfl)) (aB au (pv 1) ah (λ _ _=>rfl))) (ay aZ (aB au (pv 1) ah (λ _ _=>rfl)) (aB au (pv 0) ah (λ _ _=>rfl)))) (aa (ay aZ (aB au (pv 0) ah (λ _ _=>rfl)) (aB au (pv 1) ah (λ _ _=>rfl))) af))))),?_⟩
 try dsimp only [d7,aK]
 refine ⟨_,rfl,_,_,_,_,rfl,rfl,.inr h1,rfl,_,rfl,_,_,_,_,rfl,rfl,.inr h2,rfl,_,_,rfl,rfl,⟨_,_,ba,bd,by decide⟩,λ x1 e1=>?_⟩
 refine ⟨_,rfl,_,_,_,_,rfl,rfl,.inr h2,rfl,_,rfl,_,_,_,_,rfl,rfl,.inr h1,rfl,_,_,rfl,rfl,⟨_,_,bc,bb,by decide⟩,λ x2 e2=>⟨_,_,rfl,rfl,λ t et=>?_⟩⟩
 refine ⟨_,rfl,_,_,_,_,rfl,rfl,.inr h1,rfl,_,rfl,_,_,_,_,rfl,rfl,.inr h2,rfl,_,_,rfl,rfl,⟨_,_,bb,bd,by decide⟩,λ u eu=>?_⟩
 subst e1 e2 et eu
 exact ⟨_,_,rfl,anD (ag9 b0 d0),(bb.mul bd).mono (by decide),k⟩
theorem xU (T:Txt K mg Ad):Def P w K mg base "minus" 3 ["one","other"] (zh (λ a b c d=>a * d - c * b) K):=by
 refine T.J8.cD Fh λ f bq A outer s H vs Q E hr h=>?_
 obtain ⟨p1,p2,a,b,c,d,rfl,h1,h2,b0,d0,ba,bb,bc,bd,k⟩:=h
 refine ⟨_,(al (aF (am (lv (K:=K) T) hr.m (aa (ay dC (ay aZ (aB au (pv 0) ah (λ _ _=>rfl)) (aB au (pv 1) ah (λ _ _=>rfl))) (ay aZ (aB au (pv 1) ah (λ _ _=>rfl)) (aB au (pv 0) ah (λ _ _=>rfl)))) (aa (ay aZ (aB au (pv 0) ah (λ _ _=>rfl)) (aB au (pv 1) ah (λ _ _=>rfl))) af))))),?_⟩
 try dsimp only [d7,aK]
 refine ⟨_,rfl,_,_,_,_,rfl,rfl,.inr h1,rfl,_,rfl,_,_,_,_,rfl,rfl,.inr h2,rfl,_,_,rfl,rfl,⟨_,_,ba,bd,by decide⟩,λ x1 e1=>?_⟩
 refine ⟨_,rfl,_,_,_,_,rfl,rfl,.inr h2,rfl,_,rfl,_,_,_,_,rfl,rfl,.inr h1,rfl,_,_,rfl,rfl,⟨_,_,bc,bb,by decide⟩,λ x2 e2=>⟨_,_,rfl,rfl,λ t et=>?_⟩⟩
 refine ⟨_,rfl,_,_,_,_,rfl,rfl,.inr h1,rfl,_,rfl,_,_,_,_,rfl,rfl,.inr h2,rfl,_,_,rfl,rfl,⟨_,_,bb,bd,by decide⟩,λ u eu=>?_⟩
 subst e1 e2 et eu
 exact ⟨_,_,rfl,anD (ag9 b0 d0),(bb.mul bd).mono (by decide),k⟩
theorem eU (T:Txt K mg Ad):Def P w K mg base "under" 1 ["one","other"] (Fs K):=by
 refine T.IZ.cD ES λ f bq A outer s H vs Q E hr h=>?_
 obtain ⟨p1,p2,a,b,c,d,rfl,h1,h2,ba,bb,bc,bd,k⟩:=h
 refine ⟨_,(al (aF (gh rC (ay aZ (aB au (pv 0) ah (λ _ _=>rfl)) (aB au (pv 1) ah (λ _ _=>rfl))) (ay aZ (aB au (pv 1) ah (λ _ _=>rfl)) (aB au (pv 0) ah (λ _ _=>rfl))) (aV _)))),?_⟩
 try dsimp only [d7,aK]
 refine ⟨_,rfl,_,_,_,_,rfl,rfl,.inr h1,rfl,_,rfl,_,_,_,_,rfl,rfl,.inr h2,rfl,_,_,rfl,rfl,⟨_,_,ba,bd,by decide⟩,λ x1 e1=>?_⟩
 refine ⟨_,rfl,_,_,_,_,rfl,rfl,.inr h2,rfl,_,rfl,_,_,_,_,rfl,rfl,.inr h1,rfl,_,_,rfl,rfl,⟨_,_,bc,bb,by decide⟩,λ x2 e2=>⟨_,_,rfl,rfl,?_⟩⟩
 subst e1 e2
 exact k
theorem cO (T:Txt K mg Ad):Def P w K mg base "is_whole_upto" 1 ["thing","greatest"] IH:=by
 refine T.qz.cD pj λ f bq A outer s H vs Q E hr h=>?_
 obtain ⟨n,g,rfl,k⟩:=h
 refine ⟨_,(ac (bx (PW.pt (tJ (ce (aX pL (by rfl) T.nP ml (aa (pv 0) (aa (CK (v:=V.ty "bool") rfl T.Nc Jk rfl) af)))) (px (dX (ce (aX pL (by rfl) T.nP ml (aa (pv 0) (aa (CK (v:=V.ty "int") rfl T.Pk Oc rfl) af)))))))) (al (aF gX)) aI)
     (al (aF (GV i5 i5 ah (pv 0) (pv 1))))),?_⟩
 try dsimp only [d7,aK]
 refine ⟨_,rfl,_,_,_,_,_,rfl,.int n,rfl,xc K,_,rfl,gz ⟨_,rfl,_,_,_,_,_,rfl,.int n,rfl,rfl,_,rfl,gz ?_⟩⟩
 refine ⟨_,rfl,_,_,rfl,rfl,_,rfl,?_⟩
 by_cases h0:(0:Int)<=n
 .
  refine oK h0 ⟨_,rfl,_,_,rfl,rfl,?_⟩
  have:decide (n<=g)=decide (0<=n/\n<=g):=decide_eq_decide.mpr ⟨λ h=>⟨h0,h⟩,λ h=>h.2⟩
  show Q (V.bl (decide (n<=g))) H
  rw [this]
  exact k
 .
  refine mZ h0 ?_
  have:decide (0<=n/\n<=g)=false:=ad7 λ h=>h0 h.1
  rw [this] at k
  exact k
theorem bY (T:Txt K mg Ad):hV P w K mg base Ad.aO "many" 1 ["self"] [] (Ki K Ad.aO):=by
 refine T.yb.gA vM λ f bq A outer s H vs Q E hr h=>?_
 obtain ⟨a,fp,m,rfl,hh,k⟩:=h
 refine ⟨_,(al (aF (aX bI (by rfl) T.f8 dJ (aa (aU (pv 0) rfl) af)))),?_⟩
 try dsimp only [d7,aK]
 obtain ⟨⟨dx,pm,pf,ps,pt,vm,vs,vt,az,rfl,ha,i0,d5,hJ,eR,eQ,n1,n2,n3,dm,ds,dt,df,fk⟩,q1,q2,q3,q4⟩:=hh
 refine ⟨_,rfl,a,_,dx,_,_,rfl,ha,T.aC,T.b7,nk ..,_,_,rfl,.inl (aT.of d5),λ n en=>?_⟩
 have e:n=(m.rows.length:Int):=by rw [en,dm.length,AM]
 rw [e]
 exact k
theorem bH (T:Txt K mg Ad):hV P w K mg base Ad.aO "look_for" 3 ["self","room"] [] (yj K Ad.aO):=by
 refine T.qi.gA oJ λ f bq A outer s H vs Q E hr h=>?_
 obtain ⟨a,fp,m,i,rfl,hh,hi,k⟩:=h
 refine ⟨_,(al (bx (dX (jH i5 rC ah (pv 1) (cZ (pv 0) T.aC (bY (K:=K) T) .nil hr.m))) (al cu) aI)),?_⟩
 try dsimp only [d7,aK]
 obtain ⟨⟨dx,pm,pf,ps,pt,vm,vs,vt,az,oF,ha,_⟩,_⟩:=id hh
 refine ⟨_,rfl,_,_,rfl,rfl,_,rfl,oK (by lia) ⟨_,rfl,a,dx,_,rfl,ha,rfl,a,fp,m,rfl,hh,_,_,rfl,rfl,_,rfl,?_⟩⟩
 exact fz (by lia) k
theorem nB (T:Txt K mg Ad):hV P w K mg base Ad.aO "sky" 4 ["self","room"] [] (Od K Ad.aO):=by
 refine T.Ay.gA yJ λ f bq A outer s H vs Q E hr h=>?_
 obtain ⟨a,fp,m,i,z,rfl,hh,hz,k⟩:=h
 refine ⟨_,(ac (bg (aR (pv 0) T.aC (bH (K:=K) T) .nil hr.m (aa (pv 1) af)))
     (al (aF (aB au (aU (pv 0) rfl) (pv 1) (λ _ _=>rfl))))),?_⟩
 try dsimp only [d7,aK]
 obtain ⟨⟨dx,pm,pf,ps,pt,vm,vs,vt,az,oF,ha,i0,d5,hJ,eR,eQ,n1,n2,n3,dm,ds,dt,df,fk⟩,q1,q2,q3,q4⟩:=id hh
 have hi:i<m.rows.length:=by rw [← q1];exact (List.getElem?_eq_some_iff.mp hz).1
 obtain ⟨v,ev,dv⟩:=ds.get (i:=i) (d:=on z) (by rw [T1,hz];rfl)
 refine ⟨_,rfl,a,dx,_,rfl,ha,rfl,_,rfl,a,fp,m,i,rfl,hh,hi,?_⟩
 exact ⟨_,rfl,a,_,dx,_,_,rfl,ha,T.aC,T.cM,iB ..,_,rfl,_,_,_,_,rfl,rfl,.inl (aT.of eR),fF ev,k v dv⟩
theorem dO (T:Txt K mg Ad):hV P w K mg base Ad.aO "stove" 4 ["self","room"] [] (GX K Ad.aO):=by
 refine T.wL.gA t9 λ f bq A outer s H vs Q E hr h=>?_
 obtain ⟨a,fp,m,i,z,rfl,hh,hz,k⟩:=h
 refine ⟨_,(ac (bg (aR (pv 0) T.aC (bH (K:=K) T) .nil hr.m (aa (pv 1) af)))
     (al (aF (aB au (aU (pv 0) rfl) (pv 1) (λ _ _=>rfl))))),?_⟩
 try dsimp only [d7,aK]
 obtain ⟨⟨dx,pm,pf,ps,pt,vm,vs,vt,az,oF,ha,i0,d5,hJ,eR,eQ,n1,n2,n3,dm,ds,dt,df,fk⟩,q1,q2,q3,q4⟩:=id hh
 have hi:i<m.rows.length:=by rw [← q2];exact (List.getElem?_eq_some_iff.mp hz).1
 obtain ⟨v,ev,dv⟩:=dt.get (i:=i) (d:=hX z) (by rw [T1,hz];rfl)
 refine ⟨_,rfl,a,dx,_,rfl,ha,rfl,_,rfl,a,fp,m,i,rfl,hh,hi,?_⟩
 exact ⟨_,rfl,a,_,dx,_,_,rfl,ha,T.aC,T.dM,kq ..,_,rfl,_,_,_,_,rfl,rfl,.inl (aT.of eQ),fF ev,k v dv⟩
theorem e8 (T:Txt K mg Ad):hV P w K mg base Ad.aO "marks" 4 ["self","room"] [] (Gb K Ad.aO):=by
 refine T.wS.gA ug λ f bq A outer s H vs Q E hr h=>?_
 obtain ⟨a,fp,m,i,r,rfl,hh,hz,k⟩:=h
 refine ⟨_,(ac (bg (aR (pv 0) T.aC (bH (K:=K) T) .nil hr.m (aa (pv 1) af)))
     (al (aF (cX ip (by rfl) T.wO qP (aa (aB au (aU (pv 0) rfl) (pv 1) (λ _ _=>rfl)) af))))),?_⟩
 try dsimp only [d7,aK]
 obtain ⟨⟨dx,pm,pf,ps,pt,vm,vs,vt,az,oF,ha,i0,d5,hJ,eR,eQ,n1,n2,n3,dm,ds,dt,df,fk⟩,q1,q2,q3,q4⟩:=id hh
 have hi:i<m.rows.length:=(List.getElem?_eq_some_iff.mp hz).1
 obtain ⟨v,ev,b,xs,rfl,hq,dv⟩:=dm.get (i:=i) (d:=uo r) (by rw [T1,hz];rfl)
 refine ⟨_,rfl,a,dx,_,rfl,ha,rfl,_,rfl,a,fp,m,i,rfl,hh,hi,?_⟩
 exact ⟨_,rfl,a,_,dx,_,_,rfl,ha,T.aC,T.b7,nk ..,_,rfl,_,_,_,_,rfl,rfl,.inl (aT.of d5),fF ev,b,xs,rfl,.inr hq,λ p hp=>k p xs hp dv⟩
theorem iH (T:Txt K mg Ad):hV P w K mg base Ad.aO "own_share" 4 ["self","room"] [] (N5 K Ad.aO):=by
 refine T.pd.gA eO λ f bq A outer s H vs Q E hr h=>?_
 obtain ⟨a,fp,m,i,rfl,hh,hi,k⟩:=h
 refine ⟨_,(ac (aE (i:=2) eO.nd rfl (lc rfl) (am (xU (K:=K) T) hr.m (aa (gU (v:=V.ref _) rfl T.CB rfl) (aa (aB au (aB au (aU (pv 0) rfl) (pv 1) (λ _ _=>rfl)) ah (λ _ _=>rfl)) af))))
     (ac (cW afP rfl (bM rfl T.cI (aa (cZ (pv 0) T.aC (bY (K:=K) T) .nil hr.m) af)) (aG (i:=3) eO.nd rfl (lc rfl)) (al (aE (i:=2) eO.nd rfl (lc rfl) (am (xU (K:=K) T) hr.m (aa (pv 2) (aa (yW (ck hr) (aU (pv 0) rfl) (cm (aa (pv 1) (aa (pv 3) af))) (gU (v:=V.ref _) rfl T.iL rfl) ⟨rfl,rfl,rfl,rfl⟩) af))))))
     (al (aF (pv 2))))),?_⟩
 try dsimp only [d7,aK]
 first|(refine dE ?_;intro _ _ _ _)|skip
 obtain ⟨⟨dx,pm,pf,ps,pt,vm,vs,vt,az,oF,ha,i0,d5,hJ,eR,eQ,n1,n2,n3,dm,ds,dt,df,fk⟩,q1,q2,q3,q4⟩:=id hh
 have hi1:i<m.bf.length:=by rw [q1];exact hi
 have hz:=aq hi1
 obtain ⟨v,ev,dv⟩:=ds.get (i:=i) (d:=on m.bf[i]) (by rw [T1,hz];rfl)
 obtain ⟨p0,v1,v2,v3,rfl,DQ,d1,d2,d3⟩:=dv.dA
 obtain ⟨p1,rfl,HM⟩:=d1.fr
 have es:m.bf[i].1=m.eT i:=by unfold ao.eT;rw [hz];rfl
 have o1:dU 100 m.bf[i].1:=es ▸ q4.eT i
 refine ⟨_,rfl,a,_,dx,_,_,rfl,ha,T.aC,T.cM,iB ..,_,rfl,_,_,_,_,rfl,rfl,.inl (aT.of eR),fF ev,_,_,_,_,rfl,rfl,.inr DQ,rfl,?_⟩
 refine ⟨Ad.uZ,p1,1,1,_,_,rfl,T.Cg.at H,HM,by decide,o1.p,oR,oR,o1.t.mono (by decide),o1.b.mono (by decide),λ q r u H1 F s1 hu=>?_⟩
 have e0:(q,r)=m.gi i 0:=by
   have:=F.nf (ag9 (by decide) o1.p)
   rw [this]
   unfold ao.gi mG
   rw [← es];rfl
 refine ⟨_,rfl,a,dx,_,rfl,s1 _ _ ha,rfl,a,fp,m,rfl,aL.same s1 hh,_,rfl,by lia,by lia,?_⟩
 refine iR (lo:=0) (n:=m.rows.length) (λ j U H'=>aA H H'/\E2 λ (u:Addr) (x:Option V)=>H' u=some (.tup [.int (m.gi i j).1,.int (m.gi i j).2])/\U=[some (.ref a),some (ap i),some (.ref u),x])
   ⟨s1,u,none,by rw [← e0];exact hu,rfl⟩ ?_ ?_
 .
  rintro _ j U H2 hj ⟨s2,u,x,hu,rfl⟩
  have oj:=(q4.gi i j).mono (show 201+101 * j<=1000 by lia)
  obtain ⟨of,ot⟩:True/\True:=⟨trivial,trivial⟩
  refine ⟨_,rfl,_,rfl,a,_,dx,_,_,rfl,s2 _ _ ha,T.aC,T.eA,lW ..,_,rfl,.inr ⟨_,.inl (s2 _ _ hJ)⟩,_,rfl,_,rfl,zY,λ kp xM=>?_⟩
  have s3:=ak (o:=.tup [ap i,.int (0+(j:Int))]) xM
  have oT:(upd H2 kp (.tup [ap i,.int (0+(j:Int))])) kp=some (.tup ((fY i j).map kV)):=by rw [ag,ad8];rfl
  refine ⟨_,gF.t (s3 _ _ (s2 _ _ hJ)) oT,?_⟩
  have dfl:Dn K (upd H2 kp (.tup [ap i,.int (0+(j:Int))])) (dR (m.fD i j)) ((ge az (fY i j)).getD (.ref Ad.j2)):=by
    have:=(aL.same (s2.trans s3) hh).ex
    have q:=df i j
    refine Dn.same (s2.trans s3) _ (Cu q (T.lH.fr (f:=(0,1))))
  obtain ⟨pf1,ef1,hf1⟩:=dfl.fr
  have Mh:=q4.fD i j
  rw [ef1]
  refine ⟨u,pf1,_,_,_,_,rfl,bP.of (s3 _ _ hu),hf1,oj.p,Mh.p,oj.t,oj.b,Mh.t.mono (by decide),Mh.b.mono (by decide),λ q r u' H4 F s4 Oe=>?_⟩
  refine ⟨s2.trans (s3.trans s4),u',_,?_,rfl⟩
  have:=F.nf (ag9 oj.p Mh.p)
  rw [Oe,ao.kC]
  unfold mG
  rw [← this]
 . rintro U H2 ⟨s2,u,x,hu,rfl⟩
   exact ⟨_,rfl,k _ H2 s2 (iQ (bP.of hu))⟩
theorem lu (T:Txt K mg Ad):hV P w K mg base Ad.aO "share" 5 ["self","into","of"] [] (Fy K Ad.aO):=by
 refine T.vC.gA ua λ f bq A outer s H vs Q E hr h=>?_
 obtain ⟨a,fp,m,i,j,rfl,hh,hi,hj,k⟩:=h
 refine ⟨_,(ac (bg (aR (pv 0) T.aC (bH (K:=K) T) .nil hr.m (aa (pv 1) af)))
     (ac (bg (aR (pv 0) T.aC (bH (K:=K) T) .nil hr.m (aa (pv 2) af)))
     (ac (bx (aP jn (pv 1) (pv 2) (aV _)) (al (aF (aR (pv 0) T.aC (iH (K:=K) T) .nil hr.m (aa (pv 1) af)))) aI)
     (al (aF (yW (ck hr) (aU (pv 0) rfl) (cm (aa (pv 1) (aa (pv 2) af))) (gU (v:=V.ref _) rfl T.iL rfl) ⟨rfl,rfl,rfl,rfl⟩)))))),?_⟩
 try dsimp only [d7,aK]
 first|(refine c7 ?_;intro _ _ _ _ _)|skip
 obtain ⟨⟨dx,pm,pf,ps,pt,vm,vs,vt,az,oF,ha,i0,d5,hJ,eR,eQ,n1,n2,n3,dm,ds,dt,df,fk⟩,q1,q2,q3,q4⟩:=id hh
 refine ⟨_,rfl,a,dx,_,rfl,ha,rfl,_,rfl,a,fp,m,i,rfl,hh,hi,⟨_,rfl,a,dx,_,rfl,ha,rfl,_,rfl,a,fp,m,j,rfl,hh,hj,?_⟩⟩
 refine ⟨_,rfl,_,rfl,rfl,_,rfl,?_⟩
 by_cases uQ:i=j
 . subst uQ
   refine oK rfl ⟨_,rfl,a,dx,_,rfl,ha,rfl,_,rfl,a,fp,m,i,rfl,hh,hi,λ v H' s' dv=>k v H' s' ?_⟩
   rw [ao.share,acS rfl];exact dv
 .
  refine mZ (λ e=>uQ (by have:=fu.mp e;lia)) ?_
  refine ⟨_,rfl,a,_,dx,_,_,rfl,ha,T.aC,T.eA,lW ..,_,rfl,.inr ⟨_,.inl hJ⟩,_,rfl,_,rfl,zY,λ kp xM=>?_⟩
  have s3:=ak (o:=.tup [ap i,ap j]) xM
  have oT:(upd H kp (.tup [ap i,ap j])) kp=some (.tup ((fY i j).map kV)):=by rw [ag];rfl
  refine ⟨_,gF.t (s3 _ _ hJ) oT,k _ _ s3 ?_⟩
  rw [ao.share,acO uQ]
  exact Dn.same s3 _ (Cu (df i j) (T.lH.fr (f:=(0,1))))
theorem gp (T:Txt K mg Ad):hV P w K mg base Ad.aO "look_at_share" 5 ["self","room","share","former"] [] (J1 K Ad.aO):=by
 refine T.lC.gA gB λ f bq A outer s H vs Q E hr h=>?_
 obtain ⟨a,fp,m,i,v1,v2,f,g,rfl,hh,hi,d1,d2,o1,o2,hf,hu,k⟩:=h
 refine ⟨_,(ac (aE (i:=4) gB.nd rfl (lc rfl) (am (IR (K:=K) T) hr.m (aa (aR (pv 0) T.aC (iH (K:=K) T) .nil hr.m (aa (pv 1) af)) (aa (pv 3) af))))
     (al (bx (PW.pt (tJ (ce (am (eU (K:=K) T) hr.m (aa (pv 2) (aa (gU (v:=V.ref _) rfl T.iL rfl) af)))) (px (ce (am (eU (K:=K) T) hr.m (aa (pv 4) (aa (pv 2) af))))))) (al cu) aI))),?_⟩
 try dsimp only [d7,aK]
 obtain ⟨⟨dx,pm,pf,ps,pt,vm,vs,vt,az,oF,ha,i0,d5,hJ,eR,eQ,n1,n2,n3,dm,ds,dt,df,fk⟩,q1,q2,q3,q4⟩:=id hh
 obtain ⟨p1,rfl,hp1⟩:=d1.fr
 obtain ⟨p2,rfl,Gr⟩:=d2.fr
 refine ⟨_,rfl,a,dx,_,rfl,ha,rfl,_,rfl,a,fp,m,i,rfl,hh,hi,λ v H1 s1 dv=>⟨_,rfl,?_⟩⟩
 obtain ⟨p3,rfl,IF⟩:=dv.fr
 have oo:dU 800 (m.own i):=(q4.gi i _).mono (by lia)
 refine ⟨p3,p2,_,_,_,_,rfl,IF,s1.tup Gr,oo.p,o2.p,oo.t.mono (by decide),oo.b.mono (by decide),o2.t.mono (by decide),o2.b.mono (by decide),λ q r u H2 F s2 hu2=>?_⟩
 have e0:(q,r)=li (m.own i) g:=F.nf (ag9 oo.p o2.p)
 have op:dU 950 (li (m.own i) g):=(oo.plus o2).mono (by decide)
 rw [← e0] at op hu
 refine ⟨_,rfl,p1,Ad.j2,_,_,_,_,rfl,s2.tup (s1.tup hp1),T.lH.at _,o1.t.mono (by decide),o1.b.mono (by decide),oR,oR,_,rfl,mZ (by lia) ?_⟩
 refine ⟨_,rfl,_,rfl,u,p1,_,_,_,_,rfl,bP.of hu2,s2.tup (s1.tup hp1),op.t.mono (by decide),op.b.mono (by decide),o1.t.mono (by decide),o1.b.mono (by decide),_,rfl,mZ (apQ hu) (k _ (s1.trans s2))⟩
theorem mW (T:Txt K mg Ad):hV P w K mg base Ad.aO "put_flow" 6 ["self","into","of","share"] [] (xR K Ad.aO):=by
 refine T.qp.gA o5 λ f bq A outer s H vs Q E hr h=>?_
 obtain ⟨a,fp,m,i,j,v,f,rfl,hh,hi,hj,uQ,dv,o1,hf,hu,k⟩:=h
 refine ⟨_,(ac (bg (aR (pv 0) T.aC (bH (K:=K) T) .nil hr.m (aa (pv 1) af)))
     (ac (bg (aR (pv 0) T.aC (bH (K:=K) T) .nil hr.m (aa (pv 2) af)))
     (ac (bx (aP jn (pv 1) (pv 2) (aV _)) (al cu) aI)
     (ac (bg (aR (pv 0) T.aC (gp (K:=K) T) .nil hr.m (aa (pv 1) (aa (pv 3) (aa (aR (pv 0) T.aC (lu (K:=K) T) .nil hr.m (aa (pv 1) (aa (pv 2) af))) af)))))
     (al (vW (ck hr) (aU (pv 0) rfl) (cm (aa (pv 1) (aa (pv 2) af))) (pv 3) rfl)))))),?_⟩
 try dsimp only [d7,aK]
 first|(refine tH ?_;intro _ _ _ _ _ _)|skip
 obtain ⟨⟨dx,pm,pf,ps,pt,vm,vs,vt,az,oF,ha,i0,d5,hJ,eR,eQ,n1,n2,n3,dm,ds,dt,df,fk⟩,q1,q2,q3,q4⟩:=id hh
 refine ⟨_,rfl,a,dx,_,rfl,ha,rfl,_,rfl,a,fp,m,i,rfl,hh,hi,⟨_,rfl,a,dx,_,rfl,ha,rfl,_,rfl,a,fp,m,j,rfl,hh,hj,?_⟩⟩
 refine ⟨_,rfl,_,rfl,rfl,_,rfl,mZ (λ e=>uQ (by have:=fu.mp e;lia)) ?_⟩
 refine ⟨_,rfl,a,dx,_,rfl,ha,rfl,_,rfl,_,rfl,_,rfl,a,dx,_,rfl,ha,rfl,_,rfl,_,rfl,a,fp,m,i,j,rfl,hh,hi,hj,λ z H1 s1 dz=>?_⟩
 rw [ao.share,acO uQ] at dz
 refine ⟨a,fp,m,i,v,z,f,_,rfl,hh.same s1,hi,Dn.same s1 _ dv,dz,o1,q4.fD i j,hf,hu,λ H2 s2=>?_⟩
 have s12:=s1.trans s2
 refine ⟨_,rfl,_,rfl,a,_,dx,_,_,rfl,s12 _ _ ha,T.aC,T.eA,lW ..,_,rfl,_,rfl,zY,λ kp xM=>?_⟩
 have s3:=ak (o:=.tup [ap i,ap j]) xM
 have oT:(upd H2 kp (.tup [ap i,ap j])) kp=some (.tup ((fY i j).map kV)):=by rw [ag];rfl
 have sA:=s12.trans s3
 refine ⟨_,_,rfl,vF.t (sA _ _ hJ) oT (agc fk.len (by decide)),k _ fp (Et hh sA ha hJ (by lia) (by lia) (Dn.same sA _ dv) o1)⟩
theorem oZ (T:Txt K mg Ad):hV P w K mg base Ad.aO "put_sky" 6 ["self","room","share","low","high"] [] (BF K Ad.aO):=by
 refine T.sY.gA qd λ f bq A outer s H vs Q E hr h=>?_
 obtain ⟨a,fp,m,i,v1,v2,v3,f,lo,hi,rfl,hh,Ny,d1,d2,d3,o1,o2,o3,hlh,hf,hu,k⟩:=h
 refine ⟨_,(ac (bg (aR (pv 0) T.aC (bH (K:=K) T) .nil hr.m (aa (pv 1) af)))
     (ac (bx (ce (am (eU (K:=K) T) hr.m (aa (pv 4) (aa (pv 3) af)))) (al cu) aI)
     (ac (bg (aR (pv 0) T.aC (gp (K:=K) T) .nil hr.m (aa (pv 1) (aa (pv 2) (aa (aB au (aB au (aU (pv 0) rfl) (pv 1) (λ _ _=>rfl)) ah (λ _ _=>rfl)) af)))))
     (al (js (cm (aa (pv 2) (aa (pv 3) (aa (pv 4) af)))) (wR (aU (pv 0) rfl) (pv 1) set_list)))))),?_⟩
 try dsimp only [d7,aK]
 first|(refine c7 ?_;intro _ _ _ _ _)|skip
 obtain ⟨⟨dx,pm,pf,ps,pt,vm,vs,vt,az,oF,ha,i0,d5,hJ,eR,eQ,n1,n2,n3,dm,ds,dt,df,fk⟩,q1,q2,q3,q4⟩:=id hh
 obtain ⟨p2,rfl,Gr⟩:=d2.fr
 obtain ⟨p3,rfl,IF⟩:=d3.fr
 have hi1:i<m.bf.length:=by rw [q1];exact Ny
 have hz:=aq hi1
 obtain ⟨v,ev,dv⟩:=ds.get (i:=i) (d:=on m.bf[i]) (by rw [T1,hz];rfl)
 obtain ⟨p0,w1,w2,w3,rfl,DQ,e1,e2,e3⟩:=dv.dA
 have es:m.bf[i].1=m.eT i:=by unfold ao.eT;rw [hz];rfl
 rw [es] at e1
 refine ⟨_,rfl,a,dx,_,rfl,ha,rfl,_,rfl,a,fp,m,i,rfl,hh,Ny,?_⟩
 refine ⟨_,rfl,_,rfl,p3,p2,_,_,_,_,rfl,IF,Gr,o3.t.mono (by decide),o3.b.mono (by decide),o2.t.mono (by decide),o2.b.mono (by decide),_,rfl,mZ (apQ hlh) ?_⟩
 refine ⟨_,rfl,a,dx,_,rfl,ha,rfl,_,rfl,_,rfl,_,rfl,a,_,dx,_,_,rfl,ha,T.aC,T.cM,iB ..,_,rfl,_,_,_,_,rfl,rfl,.inl (aT.of eR),fF ev,_,_,_,_,rfl,rfl,.inr DQ,rfl,?_⟩
 refine ⟨a,fp,m,i,v1,w1,f,_,rfl,hh,Ny,d1,e1,o1,q4.eT i,hf,hu,λ H2 s2=>?_⟩
 refine ⟨_,rfl,_,rfl,_,rfl,OP,λ kp xM=>?_⟩
 have s3:=ak (o:=.tup [v1,.ref p2,.ref p3]) xM
 have sA:=s2.trans s3
 have hl:vs.length=m.bf.length:=by rw [ds.length,AM]
 refine ⟨_,rfl,a,_,dx,_,_,rfl,sA _ _ ha,T.aC,T.cM,iB ..,_,rfl,ps,vs,_,i,rfl,rfl,sA _ _ eR,Cz (by lia),k _ fp (Fo hh sA ha eR (EI (bP.of ag) (Dn.same sA _ d1) (Dn.same sA _ d2) (Dn.same sA _ d3)) ⟨o1,o2,o3⟩)⟩
theorem nA (T:Txt K mg Ad):W9 P w K mg base Ad.aO "put_stove" "Hold.put_stove" cq (.ref Ad.gD) 4 ["self","room","heat","wood","stay","fails"] (nv K Ad.aO):=by
 refine T.oU.mok mS (λ vs H Q E h=>?_) (λ f _ _ _ s H vs Q E hr h=>?_)
 . obtain ⟨a,fp,m,i,v,f,w1,st,fl,rfl,_⟩:=h
   rfl
 .
  obtain ⟨a,fp,m,i,v,f,w1,st,fl,rfl,hh,hi,dv,o1,hf,hw,mO,EB,k⟩:=h
  refine ⟨_,(ac (bg (aR (pv 0) T.aC (bH (K:=K) T) .nil hr.m (aa (pv 1) af)))
    (ac (bx (ce (am (eU (K:=K) T) hr.m (aa (pv 2) (aa (gU (v:=V.ref _) rfl T.iL rfl) af)))) (al cu) aI)
    (ac (bx (dX (ce (am (cO (K:=K) T) hr.m (aa (pv 3) (aa (fH rfl T.yD) af))))) (al cu) aI)
    (ac (bx (dX (ce (am (cO (K:=K) T) hr.m (aa (pv 4) (aa (fH rfl T.zi) af))))) (al cu) aI)
    (ac (bx (dX (ce (am (cO (K:=K) T) hr.m (aa (pv 5) (aa (fH rfl T.wQ) af))))) (al cu) aI)
    (al (js (cm (aa (pv 2) (aa (pv 3) (aa (pv 4) (aa (pv 5) af))))) (wR (aU (pv 0) rfl) (pv 1) set_list)))))))),?_⟩
  try dsimp only [d7,aK]
  first|(refine n8 ?_;intro _ _ _ _ _ _ _)|skip
  obtain ⟨⟨dx,pm,pf,ps,pt,vm,vs,vt,az,oF,ha,i0,d5,hJ,eR,eQ,n1,n2,n3,dm,ds,dt,df,fk⟩,q1,q2,q3,q4⟩:=id hh
  obtain ⟨p,rfl,hp⟩:=dv.fr
  refine ⟨_,rfl,a,dx,_,rfl,ha,rfl,_,rfl,a,fp,m,i,rfl,hh,hi,?_⟩
  refine ⟨_,rfl,p,Ad.j2,_,_,_,_,rfl,hp,T.lH.at _,o1.t.mono (by decide),o1.b.mono (by decide),oR,oR,_,rfl,mZ (by lia) ?_⟩
  refine ⟨_,rfl,w1,9,rfl,_,rfl,fz hw ⟨_,rfl,st,3,rfl,_,rfl,fz mO ⟨_,rfl,fl,3,rfl,_,rfl,fz EB ?_⟩⟩⟩
  refine ⟨_,rfl,_,rfl,_,rfl,_,rfl,OT,λ kp xM=>?_⟩
  have sA:=ak (o:=.tup [.ref p,.int w1,.int st,.int fl]) xM
  have hl:vt.length=m.aD.length:=by rw [dt.length,AM]
  exact ⟨_,rfl,a,_,dx,_,_,rfl,sA _ _ ha,T.aC,T.dM,kq ..,_,rfl,pt,vt,_,i,rfl,rfl,sA _ _ eQ,Cz (by lia),k _ fp (Ao (z:=(f,w1,st,fl)) hh sA ha eQ (fW (bP.of ag) (bC (Dn.same sA _ dv) (bC rfl (bC rfl (bC rfl fU))))) o1)⟩
theorem lg (T:Txt K mg Ad):tj P w K mg base Ad.aO "put_stove" 4 ["self","room","heat","wood","stay","fails"] [] (nv K Ad.aO) :=
 (nA T).JY T.oQ λ items hv=>by
   obtain ⟨u1,u2,u3,rfl,r1,r2,r3⟩:=vals3 hv
   exact ⟨[],.nil,λ _ _ _ _ _ _ us hl=>match us,hl with | [_,_,_,_,_,_],_=>⟨_,rfl,rfl⟩⟩
theorem ny (T:Txt K mg Ad):Def P w K mg base "bands_together" 1 ["rows"] (GW K):=by
 refine T.oS.cD eP λ f bq A outer s H vs Q E hr h=>?_
 obtain ⟨p,xs,rs,rfl,hq,hd,hl,Lu,k⟩:=h
 refine ⟨_,(ac (aE (i:=1) eP.nd rfl (lc rfl) ah)
     (ac (cW afP rfl (cV (pv 0)) (aG (i:=2) eP.nd rfl (lc rfl)) (al (aE (i:=1) eP.nd rfl (lc rfl) (ay aZ (pv 1) (ay dC (aX bI (by rfl) T.f8 dJ (aa (pv 2) af)) ah)))))
     (al (aF (pv 1))))),?_⟩
 try dsimp only [d7,aK]
 first|(refine dE ?_;intro _ _ _ _)|skip
 have OE:xs.length=rs.length:=by rw [hd.length,AM]
 refine ⟨_,rfl,p,rfl,⟨xs,hq⟩,?_⟩
 refine jA (xs:=xs) (λ i U H'=>H'=H/\∃ (x:Option V),Bd (1+3 * i) (j5 (rs.take i))/\U=[some (.ref p),some (.int (j5 (rs.take i))),x]) ⟨rfl,none,(by show Bd 1 (j5 []);exact oR),rfl⟩ (λ i U H' _ e=>by rw [e.1];exact hq) ?_ ?_
 .
  rintro _ i x U H' hx ⟨rfl,y,hb,rfl⟩
  have hi:i<rs.length:=by rw [← OE];exact (List.getElem?_eq_some_iff.mp hx).1
  obtain ⟨v,ev,b,ys,rfl,HL,dv⟩:=hd.get (i:=i) (d:=uo rs[i]) (by rw [T1,aq hi];rfl)
  obtain rfl:x = .ref b:=ac2 (hx.symm.trans ev)
  have hlen:=Lu rs[i] (ab8 hi)
  have el:ys.length=rs[i].length:=by rw [dv.length,AM]
  refine ⟨_,rfl,_,rfl,_,_,rfl,.inr HL,λ n en=>⟨_,_,rfl,rfl,λ u eu=>⟨_,_,rfl,rfl,?_,λ z ez=>?_⟩⟩⟩
  . exact ⟨_,3,hb,(show u.natAbs<2 ^ 3 by lia),(show 1+3 * i+3<=_ by lia)⟩
  .
   have e1:z=j5 (rs.take (i+1)):=by
     rw [ez,eu,en,el]
     unfold j5
     rw [anA,aq hi,akL];rfl
   refine ⟨rfl,_,?_,by rw [← e1];rfl⟩
   rw [← e1,ez]
   exact (hb.mul (show u.natAbs<2 ^ 3 by lia)).mono (by lia)
 .
  rintro U H' ⟨rfl,y,hb,rfl⟩
  refine ⟨_,rfl,?_⟩
  rw [OE,ahU]
  exact k
theorem wZ (T:Txt K mg Ad):Def P w K mg base "is_rising" 2 ["marks"] (Eg K):=by
 refine T.yG.cD vB λ f bq A outer s H vs Q E hr h=>?_
 obtain ⟨p,xs,r,rfl,hq,hd,ho,hl,k⟩:=h
 refine ⟨_,(al (aF (aX (uL rfl) (by rfl) T.LC Ff (aa (jE ["low","high"] [] [] .nil rfl (Oi rfl T.Qn (aa (pv 0) (aa (lF wG (pv 0) (jU ah) vX) af))) (λ _ _ _ _ _=>(fN (K:=K) (n:=2) rfl rfl (bh (aG (i:=0) (show (["low","high"]:List Str).Nodup by decide +kernel) rfl (lc rfl)) (bh (aG (i:=1) (show (["low","high"]:List Str).Nodup by decide +kernel) rfl (lc rfl)) fT)))) (λ _ _ _ _ _=>eE) (λ _ _ _ _ _=>(am (eU (K:=K) T) hr.m (aa (pv 0) (aa (pv 1) af)))) rfl (by decide +kernel) (by decide +kernel) (by decide +kernel)) af)))),?_⟩
 try dsimp only [d7,aK]
 refine ⟨_,rfl,_,rfl,1,rfl,p,xs,rfl,hq,λ p2 Gr=>?_⟩
 have s2:=ak (o:=.lst (oH xs (some 1) none)) Gr
 rw [GF] at s2 ⊢
 have OE:xs.length=r.length:=by rw [hd.length,AM]
 refine ⟨p,p2,rfl,⟨xs,s2.seq hq⟩,⟨xs.tail,aT.of ag⟩,λ D hD=>?_⟩
 have hml:min xs.length xs.tail.length=(List.zipWith aW r r.tail).length:=by rw [List.length_zipWith,List.length_tail,List.length_tail,OE]
 refine Fc (K:=K) (a:=p) (b:=p2) (xs:=xs) (ys:=xs.tail) (λ i acc U H'=>A4 (aA (upd H p2 (.lst xs.tail)) H') (H' D=some (.lst acc)) (acc=((List.zipWith aW r r.tail).take i).map V.bl) (E2 λ v0 v1=>U=[v0,v1]))
   ⟨ak hD,ag,rfl,none,none,rfl⟩ (λ i acc U H' _ e=>⟨e.1.seq (s2.seq hq),e.1.seq (aT.of ag)⟩) ?_ ?_
 .
  rintro i x y pp acc U H' hx hy xi ⟨s3,jO,rfl,v0,v1,rfl⟩
  rw [aoI] at hy
  have h1:i+1<r.length:=by rw [← OE];exact (List.getElem?_eq_some_iff.mp hy).1
  obtain ⟨u,eu,du⟩:=hd.get (i:=i) (d:=dR r[i]) (by rw [T1,aq (by lia)];rfl)
  obtain rfl:x=u:=ac2 (hx.symm.trans eu)
  obtain ⟨v,ev,dv⟩:=hd.get (i:=i+1) (d:=dR r[i+1]) (by rw [T1,aq h1];rfl)
  obtain rfl:y=v:=ac2 (hy.symm.trans ev)
  obtain ⟨a1,rfl,g1⟩:=du.fr
  obtain ⟨a2,rfl,g2⟩:=dv.fr
  have o1:=ho r[i] (ab8 _)
  have o2:=ho r[i+1] (ab8 _)
  have s4:aA H' (upd H' pp (.tup [.ref a1,.ref a2])):=ak xi
  have s5:=s2.trans (s3.trans s4)
  have nD:D≠pp:=av jO xi
  refine ⟨pp,_,rfl,bP.of ag,rfl,_,_,rfl,_,_,rfl,rfl,?_⟩
  refine ⟨_,rfl,_,rfl,a1,a2,_,_,_,_,rfl,s5.tup g1,s5.tup g2,o1.t.mono (by decide),o1.b.mono (by decide),o2.t.mono (by decide),o2.b.mono (by decide),?_⟩
  have hb:=Bl (aq (show i<r.length by lia)) (aq h1)
  refine ⟨by rw [ax nD];exact jO,?_,aA.put (s3.trans s4) hD,ag,?_,_,_,rfl⟩
  . rw [AM,ad4]
    have:(7:Nat)<sizeLine:=by decide
    rw [← hml]
    lia
  . rw [anA,hb,YT]
    rfl
 . rintro acc U H' ⟨s3,jO,rfl,v0,v1,rfl⟩
   rw [hml,ahU] at jO
   exact ⟨D,_,rfl,aT.of jO,k _ (s2.trans s3)⟩
theorem n9 (T:Txt K mg Ad):hV P w K mg base Ad.aO "put_room" 3 ["self","marks"] [] (zw K Ad.aO):=by
 refine T.qa.gA jD λ f bq A outer s H vs Q E hr h=>?_
 obtain ⟨a,fp,m,p,xs,r,rfl,hh,h4,hq,hd,ho,RR,YB,Se,hb,k⟩:=h
 refine ⟨_,(ac (bx (aP QJ (cZ (pv 0) T.aC (bY (K:=K) T) .nil hr.m) (fH rfl T.wa) (aV _)) (al cu) aI)
     (ac (bx (dX (jH i5 i5 (fH rfl T.tV) (aX bI (by rfl) T.f8 dJ (aa (pv 1) af)) (fH rfl T.xg))) (al cu) aI)
     (ac (bx (dX (ce (am (wZ (K:=K) T) hr.m (aa (pv 1) af)))) (al cu) aI)
     (ac (aE (i:=2) jD.nd rfl (lc rfl) (ay FH (aU (pv 0) rfl) (cL (aa (cX dg (by rfl) T.kn iM (aa (pv 1) af)) af))))
     (ac (bx (aP xC (am (ny (K:=K) T) hr.m (aa (pv 2) af)) (fH rfl T.wx) (aV _)) (al cu) aI)
     (ac (dY (pv 0) (pv 2) rfl)
     (ac (bg (je afF ago agd cN (aU (pv 0) rfl) (aa (cm (aa (gU (v:=V.ref _) rfl T.iL rfl) (aa (gU (v:=V.ref _) rfl T.iL rfl) (aa (gU (v:=V.ref _) rfl T.iL rfl) af)))) af)))
     (ac (bg (je afF ago agd cN (aU (pv 0) rfl) (aa gu af)))
     (al (aF (ay dC (cZ (pv 0) T.aC (bY (K:=K) T) .nil hr.m) ah))))))))))),?_⟩
 try dsimp only [d7,aK]
 first|(refine yx ?_;intro _ _ _ _ _ _ _ _ _ _)|skip
 obtain ⟨⟨dx,pm,pf,ps,pt,vm,vs,vt,az,oF,ha,i0,d5,hJ,eR,eQ,n1,n2,n3,dm,ds,dt,df,fk⟩,q1,q2,q3,q4⟩:=id hh
 have OE:xs.length=r.length:=by rw [hd.length,AM]
 have lm:vm.length=m.rows.length:=by rw [dm.length,AM]
 have ls:vs.length=m.bf.length:=by rw [ds.length,AM]
 have lt:vt.length=m.aD.length:=by rw [dt.length,AM]
 have szl:(7:Nat)<sizeLine:=by decide
 refine ⟨_,rfl,a,dx,_,rfl,ha,rfl,a,fp,m,rfl,hh,_,_,rfl,rfl,_,rfl,mZ (by lia) ?_⟩
 refine ⟨_,rfl,_,_,rfl,.inl hq,λ n en=>⟨_,_,rfl,rfl,_,rfl,oK (by lia) ⟨_,_,rfl,rfl,_,rfl,fz (by lia) ?_⟩⟩⟩
 refine ⟨_,rfl,p,xs,r,rfl,hq,hd,ho,YB,λ H1 s1=>⟨_,rfl,?_⟩⟩
 rw [Se]
 refine gz ?_
 refine ⟨_,rfl,a,_,dx,_,_,rfl,s1 _ _ ha,T.aC,T.b7,nk ..,_,rfl,p,xs,rfl,.inl ⟨s1.seq hq,λ kt Ya=>⟨Mn,λ kl hkl=>?_⟩⟩⟩
 have s2:=s1.trans (ak (o:=.tup xs) Ya)
 have s3:=s2.trans (ak (o:=.lst [.ref kt]) hkl)
 refine ⟨pm,kl,vm,[.ref kt],rfl,rfl,s3 _ _ d5,ag,by rw [ajo];lia,λ p3 IF=>?_⟩
 have s3':aA (upd H1 kt (.tup xs)) _:=(ak (o:=.lst [.ref kt]) hkl).trans (ak (o:=.lst (vm++[.ref kt])) IF)
 have s4:=s3.trans (ak (o:=.lst (vm++[.ref kt])) IF)
 have dr:Dn K (upd (upd (upd H1 kt (.tup xs)) kl (.lst [.ref kt])) p3 (.lst (vm++[.ref kt]))) (uo r) (.ref kt):=fW (bP.of (s3' _ _ ag)) (bT.same s4 _ hd)
 refine ⟨_,rfl,p3,_,m.rows++[r],rfl,aT.of ag,?_,by rw [abi,ajo];lia,?_,_,_,rfl,rfl,_,rfl,mZ (by lia) ?_⟩
 . rw [YT]
   exact (bT.same s4 _ dm).snoc dr
 .
  intro x hx
  rcases List.mem_append.mp hx with h|h
  . have:=q4.len x h;lia
  . rw [List.mem_singleton.mp h];lia
 refine ⟨_,rfl,_,rfl,a,_,dx,_,rfl,s4 _ _ ha,T.aC,T.b7,lt1000 rfl,?_⟩
 have OL:H p3=none:=s3.free IF
 have x3a:p3≠a:=(av ha OL).symm
 refine ⟨_,rfl,a,_,dx,_,_,rfl,ag,T.aC,T.cM,iB ..,?_⟩
 have QR:=bG eR ha nofun
 have YH:=bG eQ ha nofun
 have g1:=(ax (H:=upd (upd (upd H1 kt (.tup xs)) kl (.lst [.ref kt])) p3 (.lst (vm++[.ref kt]))) (o:=.ins Ad.aO dx (bD "mark_rows" (.ref p3) (ly m pm pf ps pt))) QR).trans (s4 _ _ eR)
 have g2:=(ax (H:=upd (upd (upd H1 kt (.tup xs)) kl (.lst [.ref kt])) p3 (.lst (vm++[.ref kt]))) (o:=.ins Ad.aO dx (bD "mark_rows" (.ref p3) (ly m pm pf ps pt))) YH).trans (s4 _ _ eQ)
 refine ⟨.inl ⟨rfl,vs,aT.of g1⟩,OP,λ q0 DQ=>?_⟩
 have s5:=ak (o:=.tup [.ref Ad.j2,.ref Ad.j2,.ref Ad.j2]) DQ
 refine ⟨ps,vs,_,rfl,rfl,s5 _ _ g1,by lia,?_⟩
 have g3:=(ax (o:=.lst (vs++[.ref q0])) n3.symm).trans (s5 _ _ g2)
 have g4:=(ax (o:=.lst (vs++[.ref q0])) QR.symm).trans (s5 _ _ ag)
 refine ⟨_,rfl,a,_,dx,_,_,rfl,g4,T.aC,T.dM,kq ..,.inl ⟨rfl,vt,aT.of g3⟩,pt,vt,_,rfl,rfl,g3,by lia,?_⟩
 obtain ⟨pN,D⟩:=DI (N:=Ad.j2) (r:=r) hh s4 ha d5 eR eQ OL ag dr h4 ho ⟨RR,YB⟩ (λ H'=>T.lH.fr (f:=(0,1))) DQ
 obtain ⟨⟨uH,Da,vJ,qm,qM,_,_,_,_,_,ha5,_⟩,_⟩:=id D.at_
 refine ⟨_,rfl,a,uH,_,rfl,ha5,rfl,a,pN,_,rfl,D.at_,_,_,rfl,rfl,λ z ez=>?_⟩
 have e:z=(m.rows.length:Int):=by
   rw [ez]
   show (((m.rows++[r]).length:Nat):Int) - 1=_
   rw [abi,ajo];lia
 rw [e]
 exact k _ pN D
theorem oV (T:Txt K mg Ad):W9 P w K mg base Ad.aO "__init__" "Hold.__init__" cE (.ref Ad.hU) 2 ["self","most","cap","load"] (CM K Ad.aO):=by
 refine T.qk.mok oM (λ vs H Q E h=>?_) (λ f _ _ _ s H vs Q E hr h=>?_)
 . obtain ⟨x,dx,most,ir,load,rfl,_⟩:=h
   rfl
 .
  obtain ⟨x,dx,most,ir,load,rfl,hx,i0,hm,hc,hl,k⟩:=h
  refine ⟨_,(ac (bx (dX (ce (am (cO (K:=K) T) hr.m (aa (pv 1) (aa (fH rfl T.tz) af))))) (al cu) aI)
    (ac (bx (dX (ce (am (cO (K:=K) T) hr.m (aa (pv 2) (aa (fH rfl T.AX) af))))) (al cu) aI)
    (ac (bx (dX (ce (am (cO (K:=K) T) hr.m (aa (pv 3) (aa (fH rfl T.y9) af))))) (al cu) aI)
    (ac (dY (pv 0) (pv 1) rfl)
    (ac (dY (pv 0) (pv 2) rfl)
    (ac (dY (pv 0) (pv 3) rfl)
    (ac (dY (pv 0) (cL af) rfl)
    (ac (dY (pv 0) xy rfl)
    (ac (dY (pv 0) (cL af) rfl)
    (al (dY (pv 0) (cL af) rfl))))))))))),?_⟩
  try dsimp only [d7,aK]
  first|(refine Dv ?_;intro _ _ _ _ _ _ _ _ _ _ _)|skip
  refine ⟨_,rfl,most,4,rfl,_,rfl,fz hm ⟨_,rfl,ir,30,rfl,_,rfl,fz hc ⟨_,rfl,load,30,rfl,_,rfl,fz hl ?_⟩⟩⟩
  have B0:jt K Ad.aO x dx H H []:=.start hx
  refine ⟨_,rfl,_,rfl,x,_,dx,_,rfl,B0.at_,T.aC,T.ix,lt1000 rfl,?_⟩
  have B1:=B0.put (fs':=bD "most" (.int most) [])
  refine ⟨_,rfl,_,rfl,x,_,dx,_,rfl,B1.at_,T.aC,T.ja,lt1000 rfl,?_⟩
  have B2:=B1.put (fs':=bD "cap" (.int ir) (bD "most" (.int most) []))
  refine ⟨_,rfl,_,rfl,x,_,dx,_,rfl,B2.at_,T.aC,T.ki,lt1000 rfl,?_⟩
  have B3:=B2.put (fs':=bD "load" (.int load) (bD "cap" (.int ir) (bD "most" (.int most) [])))
  refine ⟨aiv _,λ p1 f1=>?_⟩
  have B4:=B3.new (o:=.lst []) f1
  refine ⟨_,rfl,x,_,dx,_,rfl,B4.at_,T.aC,T.b7,lt1000 rfl,λ p2 f2=>?_⟩
  have B5:=B4.put (fs':=bD "mark_rows" (.ref p1) (bD "load" (.int load) (bD "cap" (.int ir) (bD "most" (.int most) []))))
  have B6:=B5.new (o:=.dT []) f2
  refine ⟨_,rfl,x,_,dx,_,rfl,B6.at_,T.aC,T.eA,lt1000 rfl,aiv _,λ p3 f3=>?_⟩
  have B7:=B6.put (fs':=bD "flows" (.ref p2) (bD "mark_rows" (.ref p1) (bD "load" (.int load) (bD "cap" (.int ir) (bD "most" (.int most) [])))))
  have B8:=B7.new (o:=.lst []) f3
  refine ⟨_,rfl,x,_,dx,_,rfl,B8.at_,T.aC,T.cM,lt1000 rfl,aiv _,λ p4 f4=>?_⟩
  have B9:=B8.put (fs':=bD "skies" (.ref p3) (bD "flows" (.ref p2) (bD "mark_rows" (.ref p1) (bD "load" (.int load) (bD "cap" (.int ir) (bD "most" (.int most) []))))))
  have B10:=B9.new (o:=.lst []) f4
  refine ⟨_,rfl,x,_,dx,_,rfl,B10.at_,T.aC,T.dM,lt1000 rfl,?_⟩
  have B11:=B10.put (fs':=ly (ao.new most ir load) p1 p2 p3 p4)
  have h1:=B4.keep (u:=.ins Ad.aO dx (bD "mark_rows" (.ref p1) (bD "load" (.int load) (bD "cap" (.int ir) (bD "most" (.int most) []))))) ag (B3.ne f1)
  have h1a:=B6.keep (u:=.ins Ad.aO dx (bD "flows" (.ref p2) (bD "mark_rows" (.ref p1) (bD "load" (.int load) (bD "cap" (.int ir) (bD "most" (.int most) [])))))) (ak (o:=.dT []) f2 _ _ h1) (B3.ne f1)
  have h2a:=B6.keep (u:=.ins Ad.aO dx (bD "flows" (.ref p2) (bD "mark_rows" (.ref p1) (bD "load" (.int load) (bD "cap" (.int ir) (bD "most" (.int most) [])))))) ag (B5.ne f2)
  have kk:=λ b o (h:_=some o) (n:b≠x)=>B8.keep (b:=b) (u:=.ins Ad.aO dx (bD "skies" (.ref p3) (bD "flows" (.ref p2) (bD "mark_rows" (.ref p1) (bD "load" (.int load) (bD "cap" (.int ir) (bD "most" (.int most) []))))))) h n
  have h1b:=kk _ _ (ak (o:=.lst []) f3 _ _ h1a) (B3.ne f1)
  have h2b:=kk _ _ (ak (o:=.lst []) f3 _ _ h2a) (B5.ne f2)
  have h3b:=kk _ _ ag (B7.ne f3)
  have kl:=λ b o (h:_=some o) (n:b≠x)=>B10.keep (b:=b) (u:=.ins Ad.aO dx (ly (ao.new most ir load) p1 p2 p3 p4)) h n
  have h1c:=kl _ _ (ak (o:=.lst []) f4 _ _ h1b) (B3.ne f1)
  have h2c:=kl _ _ (ak (o:=.lst []) f4 _ _ h2b) (B5.ne f2)
  have h3c:=kl _ _ (ak (o:=.lst []) f4 _ _ h3b) (B7.ne f3)
  have h4c:=kl _ _ ag (B9.ne f4)
  exact k _ _ (Gy B11 hx i0 h1c h2c h3c h4c (B3.none f1) (B5.none f2) (B7.none f3) (B9.none f4) (av h1a f3) (av h1b f4) (av h3b f4))
theorem ib (T:Txt K mg Ad):tj P w K mg base Ad.aO "__init__" 2 ["self","most","cap","load"] [] (CM K Ad.aO) :=
 (oV T).JY T.qh λ items hv=>by
   obtain ⟨u1,u2,u3,rfl,r1,r2,r3⟩:=vals3 hv
   exact ⟨[],.nil,λ _ _ _ _ _ _ us hl=>match us,hl with | [_,_,_,_],_=>⟨_,rfl,rfl⟩⟩
theorem vD (T:Txt K mg Ad):Yd P w K mg base "hold_like" fc (.ref Ad.lE) 4 ["hold","most","cap","load"] (CI K Ad.aO):=by
 refine T.xI.dok oA (λ vs H Q E h=>?_) (λ f _ _ _ s H vs Q E hr h=>?_)
 . obtain ⟨a,fp,m,x,y,z,rfl,_⟩:=h
   rfl
 .
  obtain ⟨a,fp,m,o1,o2,o3,rfl,hh,hb,k⟩:=h
  refine ⟨_,(ac (aE (i:=4) oA.nd rfl (lc rfl) (zb T.Cs (ib (K:=K) T) hr.m T.Ga (aa (nV (aP tp (pv 1) gu (aV _)) (aU (pv 0) rfl) (pv 1)) (aa (nV (aP tp (pv 2) gu (aV _)) (aU (pv 0) rfl) (pv 2)) (aa (nV (aP tp (pv 3) gu (aV _)) (aU (pv 0) rfl) (pv 3)) af)))))
    (ac (dY (pv 4) (cX ip (by rfl) T.wO qP (aa (aU (pv 0) rfl) af)) rfl)
    (ac (dY (pv 4) (cX tS (by rfl) T.Op II (aa (aU (pv 0) rfl) af)) rfl)
    (ac (dY (pv 4) (cX ip (by rfl) T.wO qP (aa (aU (pv 0) rfl) af)) rfl)
    (ac (dY (pv 4) (cX ip (by rfl) T.wO qP (aa (aU (pv 0) rfl) af)) rfl)
    (al (aF (pv 4)))))))),?_⟩
  try dsimp only [d7,aK]
  first|(refine n8 ?_;intro _ _ _ _ _ _ _)|skip
  obtain ⟨⟨CS,pm,pf,ps,pt,vm,vs,vt,az,oF,ha,i0,d5,hJ,eR,eQ,n1,n2,n3,dm,ds,dt,df,fk⟩,q1,q2,q3,q4⟩:=id hh
  refine AU (o:=o1) (d:=m.most) rfl (λ Q' h=>⟨_,rfl,a,_,CS,_,_,rfl,ha,T.aC,T.ix,rh ..,h⟩) ?_
  refine AU (o:=o2) (d:=m.ir) rfl (λ Q' h=>⟨_,rfl,a,_,CS,_,_,rfl,ha,T.aC,T.ja,vL ..,h⟩) ?_
  refine AU (o:=o3) (d:=m.load) rfl (λ Q' h=>⟨_,rfl,a,_,CS,_,_,rfl,ha,T.aC,T.ki,yq ..,h⟩) ?_
  intro x dx fx OB Vl
  have fx':upd H dx (.own x) x=none:=by rw [ax Vl.symm];exact fx
  have s0:aA H (upd (upd H dx (.own x)) x (.ins Ad.aO dx [])):=(ak OB).trans (ak fx')
  refine ⟨x,dx,_,_,_,rfl,ag,by rw [ax Vl];exact ag,hb.1,hb.2.1,hb.2.2,λ H1 ZD D=>⟨rfl,?_⟩⟩
  have s1:aA H H1:=λ b o e=>D.but b o (s0 b o e) λ q=>by
    simp only [acs,aaI,agT] at q
    rcases q with rfl|rfl
    . rw [fx] at e;cases e
    . rw [OB] at e;cases e
  have NS:∀ b∈ZD,H b=none:=λ b hb=>by
    rcases D.own b hb with q|q
    . simp only [acs,aaI,agT] at q
      rcases q with rfl|rfl
      . exact fx
      . exact OB
    . exact s0.free q
  obtain ⟨⟨xq,g1,g2,g3,g4,_,_,_,_,aho,HD,XE,_⟩,_⟩:=D.at_
  have adO:H xq=none:=NS xq (by rw [aho];simp)
  have ndx:xq≠x:=bG XE HD nofun
  have B0:jt K Ad.aO x xq H1 H1 (ly (m.with o1 o2 o3) g1 g2 g3 g4):=.start HD
  refine ⟨_,rfl,a,_,CS,_,_,rfl,s1 _ _ ha,T.aC,T.b7,nk ..,pm,vm,rfl,.inl (aT.of (s1 _ _ d5)),λ l1 f1=>?_⟩
  have B1:=B0.new (o:=.lst vm) f1
  refine ⟨_,rfl,x,_,xq,_,rfl,B1.at_,T.aC,T.b7,lt1000 rfl,?_⟩
  have B2:=B1.put (fs':=ly (m.with o1 o2 o3) l1 g2 g3 g4)
  have k2:∀ b o,H b=some o->_=some o:=λ b o h=>B2.st b o (s1 b o h) (av h fx)
  have e1:=B1.keep (u:=.ins Ad.aO xq (ly (m.with o1 o2 o3) l1 g2 g3 g4)) ag (B0.ne f1)
  refine ⟨_,rfl,a,_,CS,_,_,rfl,k2 _ _ ha,T.aC,T.eA,lW ..,pf,az,rfl,k2 _ _ hJ,fk.hash,λ l2 f2=>?_⟩
  have B3:=B2.new (o:=.dT az) f2
  refine ⟨_,rfl,x,_,xq,_,rfl,B3.at_,T.aC,T.eA,lt1000 rfl,?_⟩
  have B4:=B3.put (fs':=ly (m.with o1 o2 o3) l1 l2 g3 g4)
  have k4:∀ b o,H b=some o->_=some o:=λ b o h=>B4.st b o (s1 b o h) (av h fx)
  have kk4:=λ b o (h:_=some o) (n:b≠x)=>B3.keep (b:=b) (u:=.ins Ad.aO xq (ly (m.with o1 o2 o3) l1 l2 g3 g4)) h n
  have e1b:=kk4 _ _ (ak (o:=.dT az) f2 _ _ e1) (B0.ne f1)
  have e2b:=kk4 _ _ ag (B2.ne f2)
  refine ⟨_,rfl,a,_,CS,_,_,rfl,k4 _ _ ha,T.aC,T.cM,iB ..,ps,vs,rfl,.inl (aT.of (k4 _ _ eR)),λ l3 f3=>?_⟩
  have B5:=B4.new (o:=.lst vs) f3
  refine ⟨_,rfl,x,_,xq,_,rfl,B5.at_,T.aC,T.cM,lt1000 rfl,?_⟩
  have B6:=B5.put (fs':=ly (m.with o1 o2 o3) l1 l2 l3 g4)
  have k6:∀ b o,H b=some o->_=some o:=λ b o h=>B6.st b o (s1 b o h) (av h fx)
  have kk6:=λ b o (h:_=some o) (n:b≠x)=>B5.keep (b:=b) (u:=.ins Ad.aO xq (ly (m.with o1 o2 o3) l1 l2 l3 g4)) h n
  have e1c:=kk6 _ _ (ak (o:=.lst vs) f3 _ _ e1b) (B0.ne f1)
  have e2c:=kk6 _ _ (ak (o:=.lst vs) f3 _ _ e2b) (B2.ne f2)
  have e3c:=kk6 _ _ ag (B4.ne f3)
  refine ⟨_,rfl,a,_,CS,_,_,rfl,k6 _ _ ha,T.aC,T.dM,kq ..,pt,vt,rfl,.inl (aT.of (k6 _ _ eQ)),λ l4 f4=>?_⟩
  have B7:=B6.new (o:=.lst vt) f4
  refine ⟨_,rfl,x,_,xq,_,rfl,B7.at_,T.aC,T.dM,lt1000 rfl,?_⟩
  have B8:=B7.put (fs':=ly (m.with o1 o2 o3) l1 l2 l3 l4)
  have k8:∀ b o,H b=some o->_=some o:=λ b o h=>B8.st b o (s1 b o h) (av h fx)
  have YE:=λ b o (h:_=some o) (n:b≠x)=>B7.keep (b:=b) (u:=.ins Ad.aO xq (ly (m.with o1 o2 o3) l1 l2 l3 l4)) h n
  have e1d:=YE _ _ (ak (o:=.lst vt) f4 _ _ e1c) (B0.ne f1)
  have e2d:=YE _ _ (ak (o:=.lst vt) f4 _ _ e2c) (B2.ne f2)
  have e3d:=YE _ _ (ak (o:=.lst vt) f4 _ _ e3c) (B4.ne f3)
  have e4d:=YE _ _ ag (B6.ne f4)
  have L:=HV (m':=m.with o1 o2 o3) hh ha d5 hJ eR eQ s1 ⟨rfl,rfl,rfl,rfl⟩ B8 (B8.st _ _ XE ndx) e1d e2d e3d e4d (av e1b f3) (av e1c f4) (av e3c f4)
  refine ⟨_,rfl,k x _ _ k8 L λ c hc=>?_⟩
  simp only [acs,aaI,agT] at hc
  rcases hc with rfl|rfl|rfl|rfl|rfl|rfl
  . exact fx
  . exact adO
  . exact s1.free f1
  . exact s1.free (B2.none f2)
  . exact s1.free (B4.none f3)
  . exact s1.free (B6.none f4)
theorem sZ (T:Txt K mg Ad):ML P w K mg base "hold_like" 4 ["hold","most","cap","load"] [.b9,.b9,.b9] (CI K Ad.aO) :=
 (vD T).ZY T.zF λ items hv=>by
   obtain ⟨u1,u2,u3,rfl,r1,r2,r3⟩:=vals3 hv
   exact ⟨[u1,u2,u3],.cons r1 (.cons r2 (.cons r3 .nil)),λ _ _ _ _ _ _ us hl=>match us,(by simpa using hl:us.length=1) with | [_],_=>⟨_,rfl,rfl⟩⟩
theorem cP (T:Txt K mg Ad):Def P w K mg base "_law_cell_at" 1 ["_law_script","_law_k"] (Ap K):=by
 refine T.t8.cD rJ λ f bq A outer s H vs Q E hr h=>?_
 obtain ⟨a,ns,z,rfl,hS,hz,k⟩:=h
 refine ⟨_,(ac (bx (aP rC (pv 1) (aX bI (by rfl) T.f8 dJ (aa (pv 0) af)) (aV _)) (al (aF (aB au (pv 0) (pv 1) (λ _ _=>rfl)))) aI)
     (al (aF ah))),?_⟩
 try dsimp only [d7,aK]
 refine ⟨_,rfl,_,rfl,_,_,rfl,.inl hS,λ n en=>⟨_,_,rfl,rfl,_,rfl,?_⟩⟩
 rw [AM] at en
 refine k9 (λ h=>?_) (λ h=>?_)
 .
  have hl:z.toNat<ns.length:=by lia
  have e:(ns.map V.int)[z.toNat]?=some (.int (ns[z.toNat]'hl)):=by simp [hl]
  have e2:=bA e
  rw [ann hz] at e2
  refine ⟨_,rfl,_,rfl,_,_,_,_,rfl,rfl,.inl hS,e2,k _ (.inl (ab8 hl))⟩
 . exact k 0 (.inr rfl)
theorem aM (T:Txt K mg Ad):Def P w K mg base "_law_pick" 1 ["_law_cell","_law_k","_law_many"] HS:=by
 refine T.Bp.cD yF λ f bq A outer s H vs Q E hr h=>?_
 obtain ⟨c,k,n,rfl,k0,k1,n0,kk⟩:=h
 refine ⟨_,(al (aF (ay iu (ay iu (ay aZ (ay aJ (ay iu (pv 0) ah) ah) (ay aJ (ay aZ (pv 1) (pv 1)) ah)) ah) (pv 2)))),?_⟩
 try dsimp only [d7,aK]
 refine ⟨_,rfl,_,_,rfl,rfl,by decide,λ x1 a1 b1 e1=>⟨_,_,rfl,rfl,λ x2 e2=>?_⟩⟩
 refine ⟨_,rfl,_,rfl,_,_,rfl,rfl,⟨10,10,(show k.natAbs<2 ^ 10 by lia),(show k.natAbs<2 ^ 10 by lia),by decide⟩,λ x3 e3=>⟨_,_,rfl,rfl,λ x4 e4=>?_⟩⟩
 have kk2:k * k<=1000 * 1000:=Int.mul_le_mul k1 k1 k0 (by decide)
 have kk0:0<=k * k:=aoc k0 k0
 refine ⟨_,_,rfl,rfl,⟨22,22,(show x2.natAbs<2 ^ 22 by lia),(show x4.natAbs<2 ^ 22 by lia),by decide⟩,λ x5 e5=>⟨_,_,rfl,rfl,by decide,λ x6 a6 b6 e6=>?_⟩⟩
 exact ⟨_,rfl,_,_,rfl,rfl,n0,λ r a b _=>kk r a b⟩
theorem iq (T:Txt K mg Ad):Def P w K mg base "_law_ratio" 1 ["_law_top","_law_bottom"] G2:=by
 refine T.yR.cD fi λ f bq A outer s H vs Q E hr h=>?_
 obtain ⟨t,b,rfl,hb,bb,k⟩:=h
 refine ⟨_,(ac (aE (i:=2) fi.nd rfl (lc rfl) (aX oG (by rfl) T.GY Ah (aa (pv 0) af)))
     (ac (aE (i:=3) fi.nd rfl (lc rfl) (pv 1))
     (ac (xz afP (aP xC (pv 3) ah (aV _)) (ac (aE (i:=4) fi.nd rfl (lc rfl) (ay iu (pv 2) (pv 3)))
     (ac (aE (i:=2) fi.nd rfl (lc rfl) (pv 3))
     (al (aE (i:=3) fi.nd rfl (lc rfl) (pv 4))))))
     (al (aF (cm (aa (ay iG (pv 0) (pv 2)) (aa (ay iG (pv 1) (pv 2)) af)))))))),?_⟩
 try dsimp only [d7,aK]
 first|(refine c7 ?_;intro _ _ _ _ _)|skip
 refine ⟨_,rfl,_,rfl,λ g0 eg=>⟨_,rfl,?_⟩⟩
 refine ⟨λ m U H'=>H'=H/\E3 λ (g l:Int) (r:Option V)=>A5 (U=[some (.int t),some (.int b),some (.int g),some (.int l),r]) (0<=g) (0<=l) (m=l.toNat) (Int.gcd g l=Int.gcd t b),
   ⟨_,rfl,g0,b,none,rfl,by lia,by lia,rfl,by rw [eg];rfl⟩,?_⟩
 rintro m U H' ⟨rfl,g,l,r,rfl,hg,hl,rfl,e⟩
 refine ⟨_,rfl,_,_,rfl,rfl,_,rfl,?_⟩
 refine k9 (λ h=>?_) (λ h=>?_)
 .
  have l1:0<l:=h
  refine ⟨λ σ' VM=>VM=H'/\σ'=[some (.int t),some (.int b),some (.int l),some (.int (g % l)),some (.int (g % l))],λ σ' VM ⟨e1,e2⟩=>?_,?_⟩
  . have m0:=ao3 g (by lia:l≠0)
    have m1:=aoK g l1
    exact ⟨(g % l).toNat,by lia,e1,l,g % l,_,e2,hl,m0,rfl,(LA hg l1).trans e⟩
  . refine ⟨_,rfl,_,rfl,_,_,rfl,rfl,l1,λ r _ _ er=>?_⟩
    subst er
    exact ⟨_,rfl,_,rfl,rfl,rfl⟩
 .
  have l1:l=0:=by lia
  subst l1
  have ec:g=((Int.gcd t b:Nat):Int):=by rw [← e,QS hg]
  obtain ⟨c0,cl,fp,fn⟩:=Gc (by lia:b≠0) ec
  have bc:Bd 8999 g:=(bb.le (by lia)).mono (by decide)
  refine ⟨_,rfl,_,rfl,_,_,rfl,rfl,⟨by lia,bc⟩,λ q eq=>⟨_,rfl,_,rfl,_,_,rfl,rfl,⟨by lia,bc⟩,λ r er=>⟨zY,λ p hp=>?_⟩⟩⟩
  subst eq er
  exact k _ _ p _ (fp hb) (ak hp) ag
theorem i9 (T:Txt K mg Ad):Def P w K mg base "_law_warm" 2 ["_law_num","_law_parts","_law_scale_here"] (Ie K):=by
 refine T.BM.cD k7 λ f bq A outer s H vs Q E hr h=>?_
 obtain ⟨num,parts,p,z,rfl,hq,ok,bn,p0,bp,k⟩:=h
 refine ⟨_,(ac (aE (i:=3) k7.nd rfl (lc rfl) (ay aZ (ay aZ (pv 0) (aB au (pv 2) ah (λ _ _=>rfl))) (aB au (pv 2) ah (λ _ _=>rfl))))
     (ac (aE (i:=3) k7.nd rfl (lc rfl) (ay aJ (pv 3) (ay aZ (ay aZ (pv 1) (aB au (pv 2) ah (λ _ _=>rfl))) (aB au (pv 2) ah (λ _ _=>rfl)))))
     (al (aF (am (iq (K:=K) T) hr.m (aa (pv 3) (aa (ay aZ (ay aZ (pv 1) (aB au (pv 2) ah (λ _ _=>rfl))) (aB au (pv 2) ah (λ _ _=>rfl))) af))))))),?_⟩
 try dsimp only [d7,aK]
 first|(refine dE ?_;intro _ _ _ _)|skip
 refine ⟨_,rfl,_,rfl,_,_,_,_,rfl,rfl,.inr hq,rfl,_,_,rfl,rfl,⟨_,_,bn,ok.ba,by decide⟩,λ x1 e1=>⟨_,rfl,_,_,_,_,rfl,rfl,.inr hq,rfl,_,_,rfl,rfl,⟨60,_,by rw [e1];exact bn.mul ok.ba,ok.bd,by decide⟩,λ x2 e2=>?_⟩⟩
 refine ⟨_,rfl,_,rfl,_,rfl,_,_,_,_,rfl,rfl,.inr hq,rfl,_,_,rfl,rfl,⟨_,_,bp,ok.bt,by decide⟩,λ x3 e3=>⟨_,rfl,_,_,_,_,rfl,rfl,.inr hq,rfl,_,_,rfl,rfl,⟨60,_,by rw [e3];exact bp.mul ok.bt,ok.bb,by decide⟩,λ x4 e4=>⟨_,_,rfl,rfl,λ x5 e5=>?_⟩⟩⟩
 refine ⟨_,rfl,_,rfl,_,rfl,_,_,_,_,rfl,rfl,.inr hq,rfl,_,_,rfl,rfl,⟨_,_,bp,ok.bb,by decide⟩,λ x6 e6=>⟨_,rfl,_,_,_,_,rfl,rfl,.inr hq,rfl,_,_,rfl,rfl,⟨60,_,by rw [e6];exact bp.mul ok.bb,ok.bd,by decide⟩,λ x7 e7=>?_⟩⟩
 have h5:x5=cp num parts z:=by rw [e5,e2,e1,e4,e3];rfl
 have h7:x7=bU parts z:=by rw [e7,e6];rfl
 subst h5 h7
 have hB:=eB ok p0
 refine ⟨_,_,rfl,hB,?_,λ q r u H' F s' hu=>k u H' s' ?_⟩
 . exact ((bp.mul ok.bb).mul ok.bd).mono (by decide)
 .
  have:=F.nf hB
  rw [hu]
  unfold aQ
  rw [← this]
theorem qv (T:Txt K mg Ad):Def P w K mg base "_law_stove_by" 2 ["_law_a","_law_b","_law_c","_law_room"] pK:=by
 refine T.rH.cD hR λ f bq A outer s H vs Q E hr h=>?_
 obtain ⟨a,b,c,i,rfl,hi,k0,k⟩:=h
 refine ⟨_,(ac (bx (aP jn (am (aM (K:=K) T) hr.m (aa (pv 1) (aa (ay aJ ah (pv 3)) (aa ah af)))) ah (aV _)) (al (aF gu)) aI)
     (ac (aE (i:=4) hR.nd rfl (lc rfl) (am (aM (K:=K) T) hr.m (aa (pv 0) (aa (ay aJ ah (pv 3)) (aa ah af)))))
     (ac (aE (i:=5) hR.nd rfl (lc rfl) (am (aM (K:=K) T) hr.m (aa (pv 0) (aa (ay aJ ah (pv 3)) (aa ah af)))))
     (al (aF (cm (aa (am (aM (K:=K) T) hr.m (aa (pv 2) (aa (ay aJ ah (pv 3)) (aa ah af)))) (aa (pv 4) (aa (pv 5) (aa (am (aM (K:=K) T) hr.m (aa (pv 1) (aa (ay aJ ah (pv 3)) (aa ah af)))) af)))))))))),?_⟩
 try dsimp only [d7,aK]
 first|(refine c7 ?_;intro _ _ _ _ _)|skip
 refine ⟨_,rfl,_,rfl,_,_,rfl,rfl,λ x1 e1=>⟨_,_,_,rfl,by lia,by lia,by decide,λ r a0 a1=>⟨rfl,_,rfl,?_⟩⟩⟩
 refine k9 (λ h=>k0) (λ h=>?_)
 refine ⟨_,rfl,_,rfl,_,_,rfl,rfl,λ x2 e2=>⟨_,_,_,rfl,by lia,by lia,by decide,λ w0 b0 b1=>?_⟩⟩
 refine ⟨_,rfl,_,rfl,_,_,rfl,rfl,λ x3 e3=>⟨_,_,_,rfl,by lia,by lia,by decide,λ w1 c0 c1=>?_⟩⟩
 refine ⟨_,rfl,_,rfl,_,_,rfl,rfl,λ x4 e4=>⟨_,_,_,rfl,by lia,by lia,by decide,λ w2 d0 d1=>?_⟩⟩
 refine ⟨_,rfl,_,rfl,_,rfl,_,rfl,_,_,rfl,rfl,λ x5 e5=>⟨_,_,_,rfl,by lia,by lia,by decide,λ w3 g0 g1=>⟨OT,λ p hp=>?_⟩⟩⟩
 exact k p (w2,w0,w1,w3) ⟨⟨d0,by show w2<=25;lia⟩,⟨b0,by show w0<=9;lia⟩,⟨c0,by show w1<=3;lia⟩,⟨g0,by show w3<=3;lia⟩⟩ hp
set_option maxHeartbeats 0 in
theorem wA (T:Txt K mg Ad):Def P w K mg base "_law_scale" 2 ["_law_cell"] Go:=by
 refine T.yd.cD kh λ f bq A outer s H vs Q E hr h=>?_
 obtain ⟨c,rfl,k⟩:=h
 refine ⟨_,(ac (aE (i:=1) kh.nd rfl (lc rfl) (aB au (cL (aa ah (aa ah (aa (ay qO ah ah) (aa (ay qO ah ah) (aa (ay qO ah ah) (aa (ay qO ah ah) af))))))) (am (aM (K:=K) T) hr.m (aa (pv 0) (aa ah (aa ah af)))) (λ _ _=>rfl)))
     (ac (rD (yi:=2) ["_law_k"] ["_law_far","_law_cell"] [1,0] (.cons ⟨rfl,rfl,.inl rfl⟩ (.cons ⟨rfl,rfl,.inl rfl⟩ .nil)) rfl (bM rfl T.cI (aa ah af)) (λ _ _ _ _ _=>(aG (i:=0) (show (["_law_k","_law_far","_law_cell"]:List Str).Nodup by decide +kernel) rfl (lc rfl))) (λ _ _ _ _ _=>eE) (λ _ _ _ _ _=>(ay aJ ah (ay iu (ay iG (ay aJ (pv 2) (pv 0)) (ay aJ (pv 0) ah)) (pv 1)))) rfl (by decide +kernel) (by decide +kernel) (by decide +kernel) kh.nd rfl (lc rfl) rfl)
     (al (aF (cm (aa (aB au (pv 2) ah (λ _ _=>rfl)) (aa (aB au (pv 2) ah (λ _ _=>rfl)) (aa (ay dC (ay iu (ay iG (pv 0) ah) (ay aJ (ay aZ ah (pv 1)) ah)) (pv 1)) (aa (aB au (pv 2) ah (λ _ _=>rfl)) af))))))))),?_⟩
 try dsimp only [d7,aK]
 first|(refine dE ?_;intro _ _ _ _)|skip
 refine ⟨_,_,rfl,rfl,⟨by decide,by decide,by decide⟩,λ r1 e1=>⟨_,_,rfl,rfl,⟨by decide,by decide,by decide⟩,λ r2 e2=>⟨_,_,rfl,rfl,⟨by decide,by decide,by decide⟩,λ r3 e3=>⟨_,_,rfl,rfl,⟨by decide,by decide,by decide⟩,λ r4 e4=>⟨(by show 6<=sizeLine;decide),λ p0 Ik=>?_⟩⟩⟩⟩⟩
 refine ⟨_,rfl,_,_,_,rfl,by decide,by decide,by decide,λ r a0 a1=>?_⟩
 obtain ⟨P7,hm,ea⟩:=yz (ns:=[1,12,r1,r2,r3,r4]) a0 a1
 have aqQ:1<=P7/\P7<=10 ^ 9:=by
   have z1:r1=10000:=e1
   have z2:r2=10000:=e2
   have z3:r3=10000:=e3
   have z4:r4=1000000000:=e4
   simp only [acs,aaI,agT] at hm
   lia
 refine ⟨p0,_,_,_,rfl,rfl,.inl (aT.of ag),ea,?_⟩
 refine ⟨_,rfl,by decide,by decide,λ D hD=>?_⟩
 have s0:aA H (upd H p0 (.lst [.int 1,.int 12,.int r1,.int r2,.int r3,.int r4])):=ak Ik
 refine fe (lo:=0) (n:=3) (λ i acc U H'=>A4 (aA (upd H p0 (.lst [.int 1,.int 12,.int r1,.int r2,.int r3,.int r4])) H') (H' D=some (.lst acc)) (∃ (zs:List Int),A3 (acc=zs.map V.int) (zs.length=i) (∀ z∈zs,1<=z/\z<=P7)) (∃ v,U=[v,some (.int P7),some (.int c)]))
   ⟨ak hD,ag,⟨[],rfl,rfl,nofun⟩,none,rfl⟩ ?_ ?_
 .
  rintro i acc U H' hi ⟨s1,kX,⟨zs,rfl,hzl,hz⟩,v,rfl⟩
  refine ⟨_,rfl,_,rfl,_,_,rfl,rfl,λ x1 e1=>⟨_,rfl,_,_,rfl,rfl,λ x2 e2=>⟨_,_,rfl,rfl,⟨by lia,(bdS 8999 (by lia) (by lia))⟩,λ x3 e3=>⟨_,rfl,_,_,rfl,rfl,by lia,λ x4 a4 b4 e4=>⟨_,_,rfl,rfl,λ x5 e5=>?_⟩⟩⟩⟩⟩
  refine ⟨kX,aN (by rw [AM];lia),s1.put hD,ag,⟨zs++[x5],by rw [YT];rfl,by rw [abi,hzl];rfl,λ z hm=>?_⟩,_,rfl⟩
  rcases List.mem_append.mp hm with q|q
  . exact hz z q
  . rw [List.mem_singleton.mp q];lia
 .
  rintro acc U H' ⟨s1,kX,⟨zs,rfl,hzl,hz⟩,v,rfl⟩
  match zs,hzl,hz,kX with
  | [z0,z1,z2],_,hz,kX =>
    have g0:=hz z0 (by simp)
    have g1:=hz z1 (by simp)
    have g2:=hz z2 (by simp)
    refine ⟨_,rfl,_,_,_,_,rfl,rfl,.inl (aT.of kX),rfl,_,rfl,_,_,_,_,rfl,rfl,.inl (aT.of kX),rfl,?_⟩
    refine ⟨_,rfl,_,_,rfl,rfl,⟨by decide,bdS 8999 (by decide) (by decide)⟩,λ y1 f1=>⟨_,rfl,_,_,rfl,rfl,⟨2,31,oR,(show P7.natAbs<2 ^ 31 by lia),by decide⟩,λ y2 f2=>⟨_,_,rfl,rfl,λ y3 f3=>⟨_,_,rfl,rfl,by lia,λ y4 a4 b4 f4=>⟨_,rfl,_,_,rfl,rfl,λ y5 f5=>?_⟩⟩⟩⟩⟩
    refine ⟨_,rfl,_,_,_,_,rfl,rfl,.inl (aT.of kX),rfl,OT,λ p hp=>?_⟩
    exact k p _ ⟨z0,z1,y5,z2⟩ ⟨g0.1,by show z0<=_;lia,g1.1,by show z1<=_;lia,by show _<=y5;lia,by show y5<=_;lia,g2.1,by show z2<=_;lia⟩ (s0.trans (s1.trans (ak hp))) ag
theorem vR (T:Txt K mg Ad):Def P w K mg base "_law_drawn" 3 ["_law_script"] (A2 K):=by
 refine T.zH.cD b8 λ f bq A outer s H vs Q E hr h=>?_
 obtain ⟨sa,ns,rfl,hS,k⟩:=h
 refine ⟨_,(ac (aE (i:=1) b8.nd rfl (lc rfl) (am (cP (K:=K) T) hr.m (aa (pv 0) (aa ah af))))
     (ac (aE (i:=2) b8.nd rfl (lc rfl) (am (cP (K:=K) T) hr.m (aa (pv 0) (aa ah af))))
     (ac (aE (i:=3) b8.nd rfl (lc rfl) (am (cP (K:=K) T) hr.m (aa (pv 0) (aa ah af))))
     (ac (aE (i:=4) b8.nd rfl (lc rfl) (aB au (cL (aa ah (aa ah (aa ah (aa ah (aa ah (aa ah af))))))) (am (aM (K:=K) T) hr.m (aa (pv 1) (aa ah (aa ah af)))) (λ _ _=>rfl)))
     (ac (aE (i:=5) b8.nd rfl (lc rfl) (@JJ _ _ _ _ _ (@kY _ _ _ _ _ _ _ _ _ bE (cL af) (@kY _ _ _ _ _ _ _ _ _ bE (cL af) (@kY _ _ _ _ _ _ _ _ _ bE (cL af) (@kY _ _ _ _ _ _ _ _ _ bE xy (@kY _ _ _ _ _ _ _ _ _ bE (am (wA (K:=K) T) hr.m (aa (am (cP (K:=K) T) hr.m (aa (pv 0) (aa ah af))) af)) J4))))) rfl rfl (List.cons_ne_nil _ _) (aou rfl)))
     (ac (vW (ck hr) (pv 5) bE (cm (aa (am (aM (K:=K) T) hr.m (aa (pv 1) (aa ah (aa ah af)))) (aa (am (aM (K:=K) T) hr.m (aa (pv 1) (aa ah (aa ah af)))) (aa (am (aM (K:=K) T) hr.m (aa (pv 1) (aa ah (aa ah af)))) af)))) rfl)
     (ac (cW afP rfl (bM rfl T.cI (aa (pv 4) af)) (aG (i:=6) b8.nd rfl (lc rfl)) (ac (aE (i:=7) b8.nd rfl (lc rfl) (cL (aa (ay dC (am (aM (K:=K) T) hr.m (aa (pv 2) (aa (pv 6) (aa ah af)))) ah) af)))
     (ac (cW afP rfl (bM rfl T.cI (aa (ay aJ ah (am (aM (K:=K) T) hr.m (aa (pv 1) (aa (ay aJ ah (pv 6)) (aa (aB au (cL (aa ah (aa ah (aa ah (aa ah af))))) (ay dC (pv 4) ah) (λ _ _=>rfl)) af))))) af)) (aG (i:=8) b8.nd rfl (lc rfl)) (al (bg (je afF ago agd cN (pv 7) (aa (ay aJ (ay aJ (aB au (pv 7) (pv 8) (λ _ _=>rfl)) ah) (am (aM (K:=K) T) hr.m (aa (pv 2) (aa (ay aJ (ay aJ ah (ay aZ ah (pv 6))) (pv 8)) (aa ah af))))) af)))))
     (ac (bg (je afF ago agd cN (bB (ck hr) (pv 5) bE (λ _ _=>rfl)) (aa (pv 7) af)))
     (ac (aE (i:=9) b8.nd rfl (lc rfl) (ay dC (am (aM (K:=K) T) hr.m (aa (pv 3) (aa (pv 6) (aa ah af)))) ah))
     (ac (bg (je afF ago agd cN (bB (ck hr) (pv 5) bE (λ _ _=>rfl)) (aa (cm (aa (am (aM (K:=K) T) hr.m (aa (pv 3) (aa (ay aJ ah (pv 6)) (aa ah af)))) (aa (pv 9) (aa (ay aJ (pv 9) (am (aM (K:=K) T) hr.m (aa (pv 3) (aa (ay aJ ah (pv 6)) (aa ah af))))) af)))) af)))
     (ac (bg (je afF ago agd cN (bB (ck hr) (pv 5) bE (λ _ _=>rfl)) (aa (am (qv (K:=K) T) hr.m (aa (pv 1) (aa (pv 2) (aa (pv 3) (aa (pv 6) af))))) af)))
     (al (cW afP rfl (bM rfl T.cI (aa (pv 4) af)) (aG (i:=10) b8.nd rfl (lc rfl)) (al (bx (aP lq (pv 10) (pv 6) (aV _)) (al (vW (ck hr) (bB (ck hr) (pv 5) bE (λ _ _=>rfl)) (cm (aa (pv 6) (aa (pv 10) af))) (am (aM (K:=K) T) hr.m (aa (pv 2) (aa (ay aJ (ay aJ ah (ay aZ ah (pv 6))) (pv 10)) (aa ah af)))) rfl)) aI)))))))))))
     (al (aF (pv 5)))))))))),?_⟩
 try dsimp only [d7,aK]
 first|(refine yU ?_;intro _ _ _ _ _ _ _ _ _)|skip
 refine ⟨_,rfl,sa,ns,0,rfl,hS,by decide,λ ca _=>⟨_,rfl,sa,ns,1,rfl,hS,by decide,λ cb _=>⟨_,rfl,sa,ns,2,rfl,hS,by decide,λ cc _=>?_⟩⟩⟩
 refine ⟨(by show 6<=sizeLine;decide),λ l0 hl0=>⟨_,rfl,ca,1,6,rfl,by decide,by decide,by decide,λ r a0 a1=>?_⟩⟩
 obtain ⟨nI,hmn,ea⟩:=yz (ns:=[1,1,2,2,3,4]) a0 a1
 refine ⟨l0,_,_,_,rfl,rfl,.inl (aT.of ag),ea,?_⟩
 have hn:1<=nI/\nI<=4:=by
   simp only [acs,aaI,agT] at hmn
   lia
 obtain ⟨n,rfl⟩:∃ n:Nat,nI=(n:Int):=⟨nI.toNat,by lia⟩
 have MR:aA H (upd H l0 (.lst [.int 1,.int 1,.int 2,.int 2,.int 3,.int 4])):=ak hl0
 intro p hp
 refine ⟨aiv _,λ pm d5=>⟨aiv _,λ ps eR=>⟨aiv _,λ pt eQ=>λ pf hJ=>?_⟩⟩⟩
 have Ss:=ak (o:=.dK []) hp
 have T0:=ak (o:=.lst []) d5
 have OK:=ak (o:=.lst []) eR
 have Xj:=ak (o:=.lst []) eQ
 have Xq:=ak (o:=.dT []) hJ
 have VY:=Ss.trans (T0.trans (OK.trans (Xj.trans Xq)))
 refine ⟨_,rfl,sa,ns,3,rfl,(MR.trans VY).seq hS,by decide,λ cd _=>⟨cd,rfl,λ fE H2 sc OH s2 Ex=>?_⟩⟩
 have OC:H2 p=some (.dK []):=s2 _ _ (Xq _ _ (Xj _ _ (OK _ _ (T0 _ _ ag))))
 have JS:H2 pm=some (.lst []):=s2 _ _ (Xq _ _ (Xj _ _ (OK _ _ ag)))
 have Lf:H2 ps=some (.lst []):=s2 _ _ (Xq _ _ (Xj _ _ ag))
 have Lk:H2 pt=some (.lst []):=s2 _ _ (Xq _ _ ag)
 have Ig:H2 pf=some (.dT []):=s2 _ _ ag
 have nms:pm≠ps:=av ag eR
 have nmt:pm≠pt:=av (OK _ _ ag) eQ
 have nst:ps≠pt:=av ag eQ
 refine ⟨OC,[(.inr "marks",.ref pm),(.inr "sky",.ref ps),(.inr "stoves",.ref pt),(.inr "flows",.ref pf),(.inr "scale",.ref fE)],rfl,aou rfl,?_⟩
 have nH2:aA H H2:=(MR.trans VY).trans s2
 have pn:H p=none:=MR.free hp
 refine ⟨_,rfl,ca,2,5,rfl,by decide,by decide,by decide,λ w0 w00 w01=>⟨_,rfl,ca,3,31,rfl,by decide,by decide,by decide,λ w1 w10 w11=>⟨_,rfl,ca,4,10,rfl,by decide,by decide,by decide,λ w2 w20 w21=>⟨OP,λ pb Ez=>?_⟩⟩⟩⟩
 refine ⟨_,rfl,_,_,rfl,vF.k (k:=.inr "bounds") (ak Ez _ _ ag) (agc (ju _ _) (by show 0+5<sizeLine;decide)),?_⟩
 have npm:pm≠p:=bG JS OC nofun
 have Xh:ps≠p:=bG Lf OC nofun
 have npt:pt≠p:=bG Lk OC nofun
 have npf:pf≠p:=bG Ig OC (λ z=>nomatch z)
 have UU:fE≠p:=bG Ex OC nofun
 have bup:∀ {b o o'},H2 b=some o->b≠p->(upd H2 p o') b=some o:=λ h n=>by rw [ax n];exact h
 have bn:∀ {b o},H2 b=some o->b≠p->b≠pb:=λ h n=>av (bup h n) Ez
 have npb:p≠pb:=av ag Ez
 have b3:∀ {b o o1 o2 o3},H2 b=some o->b≠p->(upd (upd (upd H2 p o1) pb o2) p o3) b=some o:=λ h n=>by rw [ax n,ax (bn h n)];exact bup h n
 have C0:TC K (upd (upd (upd H2 p (.dK (kx [] [(.inr "marks",.ref pm),(.inr "sky",.ref ps),(.inr "stoves",.ref pt),(.inr "flows",.ref pf),(.inr "scale",.ref fE)]))) pb (.tup [.int w0,.int w1,.int w2])) p
     (.dK (putK (kx [] [(.inr "marks",.ref pm),(.inr "sky",.ref ps),(.inr "stoves",.ref pt),(.inr "flows",.ref pf),(.inr "scale",.ref fE)]) (.inr "bounds") (.ref pb)))) p pm ps pt pf fE pb [] [] [] [] ⟨[],[],[],λ _ _=>none,sc,(w0,w1,w2)⟩:=by
   refine ⟨ag,b3 JS npm,b3 Lf Xh,b3 Lk npt,b3 Ig npf,nms,nmt,nst,rfl,rfl,rfl,λ _ _ _ _=>rfl,⟨aob,nofun⟩,bP.of (mv (b3 Ex UU) ?_),bP.of (mv (by rw [ax npb.symm];exact ag) ?_)⟩
   . simp only [acs,aaI,agT,an3]
     exact ⟨UU,bG Ex JS nofun,bG Ex Lf nofun,bG Ex Lk nofun,bG Ex Ig nofun⟩
   . simp only [acs,aaI,agT,an3]
     exact ⟨npb.symm,(bn JS npm).symm,(bn Lf Xh).symm,(bn Lk npt).symm,(bn Ig npf).symm⟩
 have S0:aA H (upd (upd (upd H2 p (.dK (kx [] [(.inr "marks",.ref pm),(.inr "sky",.ref ps),(.inr "stoves",.ref pt),(.inr "flows",.ref pf),(.inr "scale",.ref fE)]))) pb (.tup [.int w0,.int w1,.int w2])) p
     (.dK (putK (kx [] [(.inr "marks",.ref pm),(.inr "sky",.ref ps),(.inr "stoves",.ref pt),(.inr "flows",.ref pf),(.inr "scale",.ref fE)]) (.inr "bounds") (.ref pb)))):=((nH2.put pn).trans (ak Ez)).put pn
 refine ⟨_,rfl,_,rfl,by lia,by lia,?_⟩
 refine f6 (lo:=0) (n:=n) (λ i U H'=>A3 (aA H H') (E5 λ vm vs vt az m=>A3 (TC K H' p pm ps pt pf fE pb vm vs vt az m) (qA H H' [p,pm,ps,pt,pf] vm m.marks) (ar.Ok n i m)) (E5 λ x6 x7 x8 x9 JW=>U=[some (.ref sa),some (.int ca),some (.int cb),some (.int cc),some (ap n),some (.ref p),x6,x7,x8,x9,JW]))
   ⟨S0,⟨_,_,_,_,_,C0,qA.nil,⟨rfl,rfl,rfl,nofun,nofun,nofun,λ a b h=>absurd h (an4 a),OH,⟨w00,by show w0<=4;lia⟩,⟨w10,by show w1<=30;lia⟩,⟨w20,by show w2<=30;lia⟩⟩⟩,none,none,none,none,none,rfl⟩ ?_ ?_
 .
  rintro _ _ _ i U H' hi ⟨S1,⟨vm,vs,vt,az,m,C1,M1,O1⟩,x6,x7,x8,x9,JW,rfl⟩
  refine ⟨_,rfl,_,rfl,cb,_,61,rfl,by lia,by lia,by decide,λ r0 c0 c1=>⟨_,_,rfl,rfl,λ x0 e0=>⟨Mn,λ pk oC=>?_⟩⟩⟩
  refine ⟨_,rfl,_,rfl,_,_,rfl,rfl,λ y1 f1=>⟨OT,λ l1 hl1=>⟨_,rfl,_,_,rfl,rfl,λ y2 f2=>⟨l1,_,_,_,rfl,rfl,.inl (aT.of ag),KN (by lia) (by lia) f2,?_⟩⟩⟩⟩
  refine ⟨ca,y1,_,rfl,by lia,by lia,(by split<;>decide),λ r1 b0 b1=>⟨_,_,rfl,rfl,λ y3 f3=>?_⟩⟩
  obtain ⟨q,rfl⟩:∃ q:Nat,y3=(q:Int):=⟨y3.toNat,by lia⟩
  have hq:1<=q/\q<=if n<=2 then 6 else 4:=by
    split at b1<;>rename_i hc<;>simp only [hc,anS,an2]<;>lia
  have hq6:q<=6:=by have:=hq.2;split at this<;>lia
  refine ⟨_,rfl,by lia,by lia,?_⟩
  have sk:aA H' (upd H' pk (.lst [.int x0])):=ak oC
  have nl1:pk≠l1:=av ag hl1
  refine f6 (lo:=0) (n:=q) (λ j U Yt=>A3 (aA H' Yt) (∃ (l:List Int),A4 (Yt pk=some (.lst (l.map V.int))) (l.length=j+1) (oi l) (∀ x∈l,-30<=x/\x<=30+20 * (j:Int))) (∃ x8,U=[some (.ref sa),some (.int ca),some (.int cb),some (.int cc),some (ap n),some (.ref p),some (.int (0+(i:Int))),some (.ref pk),x8,x9,JW]))
    ⟨sk.trans (ak hl1),⟨[x0],by rw [ax nl1];exact ag,rfl,λ a x y h1 h2=>by simp at h2,λ x hx=>by rw [List.mem_singleton.mp hx];lia⟩,x8,rfl⟩ ?_ ?_
  .
   rintro _ _ _ j U Yt hj ⟨S2,⟨l,hk,hl,MO,xt⟩,x8,rfl⟩
   have OU:j<l.length:=by lia
   refine ⟨_,rfl,.inl ⟨rfl,_,aT.of hk⟩,_,rfl,_,rfl,pk,_,_,_,rfl,rfl,.inl (aT.of hk),HY OU,_,_,rfl,rfl,λ u1 g1=>⟨_,rfl,_,rfl,_,_,rfl,rfl,⟨10,10,oR,(show (0+(i:Int)).natAbs<2 ^ 10 by lia),by decide⟩,λ u2 g2=>⟨_,_,rfl,rfl,λ u3 g3=>⟨_,rfl,_,_,rfl,rfl,λ u4 g4=>?_⟩⟩⟩⟩
   refine ⟨cb,u4,20,rfl,by lia,by lia,by decide,λ r2 d0 d1=>⟨_,_,rfl,rfl,λ u5 g5=>⟨pk,_,_,rfl,rfl,hk,aN (by rw [AM];lia),?_⟩⟩⟩
   have hlj:=xt l[j] (ab8 OU)
   refine ⟨S2.put oC,⟨l++[u5],by rw [ag,YT];rfl,by rw [abi,hl];rfl,xA MO hl (by lia),λ x hx=>?_⟩,_,rfl⟩
   rcases List.mem_append.mp hx with z|z
   . have:=xt x z;lia
   . rw [List.mem_singleton.mp z];lia
  .
   rintro U Yt ⟨S2,⟨l,hk,hl,MO,xt⟩,x8,rfl⟩
   have C2:=C1.same S2
   have zD:uu n l:=⟨by lia,by have:=hq.2;split at this<;>rename_i hc<;>simp only [hc,anS,an2]<;>lia,MO,λ x hx=>by have:=xt x hx;lia⟩
   have kL:pk∉[p,pm,ps,pt,pf]:=by
     simp only [acs,aaI,agT,an3]
     exact ⟨(av C1.hp oC).symm,(av C1.d5 oC).symm,(av C1.eR oC).symm,(av C1.eQ oC).symm,(av C1.hJ oC).symm⟩
   have EX:vm.length=i:=by rw [C1.dm.length,AM,O1.lm]
   have lvs:vs.length=i:=by rw [C1.ds.length,AM,O1.ls]
   have lvt:vt.length=i:=by rw [C1.dt.length,AM,O1.lt]
   refine ⟨_,rfl,p,_,rfl,bZ C2.hp,.inl ⟨rfl,_,aT.of C2.d5⟩,_,rfl,pm,vm,_,rfl,rfl,C2.d5,aN (by lia),?_⟩
   have C3:=C2.G4 (l:=l) (x:=.ref pk) ⟨pk,_,rfl,aT.of (mv hk kL),w9 l⟩
   refine ⟨_,rfl,_,rfl,cc,_,61,rfl,by lia,by lia,by decide,λ r3 m0 m1=>⟨_,_,rfl,rfl,λ lo Ys=>?_⟩⟩
   refine ⟨_,rfl,p,_,rfl,sj C3.hp,.inl ⟨rfl,_,aT.of C3.eR⟩,_,rfl,_,rfl,_,_,rfl,rfl,λ v1 h1=>⟨cc,v1,4,rfl,by lia,by lia,by decide,λ sh sh0 sh1=>⟨_,rfl,_,rfl,_,rfl,_,rfl,_,_,rfl,rfl,λ v2 h2=>⟨cc,v2,31,rfl,by lia,by lia,by decide,λ r4 n0 n1=>⟨_,_,rfl,rfl,λ HK ehi=>⟨OP,λ pz zS=>?_⟩⟩⟩⟩⟩⟩
   have C3':=C3.same (ak (o:=.tup [.int sh,.int lo,.int HK]) zS)
   refine ⟨ps,vs,_,rfl,rfl,C3'.eR,aN (by lia),?_⟩
   have C4:=C3'.NE (l:=(sh,lo,HK)) (x:=.ref pz) (fW (bP.of (mv ag (C3.Lx zS))) (bC rfl (bC rfl (bC rfl fU))))
   refine ⟨_,rfl,p,_,rfl,gZ C4.hp,.inl ⟨rfl,_,aT.of C4.eQ⟩,_,rfl,_,rfl,_,rfl,_,rfl,?_⟩
   dsimp only [JI,List.cons_append,aov,alw]
   refine xD (a:=ca) (b:=cb) (c:=cc) (i:=i) (by simp only [ad8];rfl) (by lia) λ zt vq H5 mO=>?_
   have C5':=C4.same mO.same
   have hk5:(upd H5 pt (.lst (vt++[vq]))) pk=some (.lst (l.map V.int)):=by
     simp only [acs,aaI,agT,an3] at kL
     rw [ax kL.2.2.2.1]
     refine mO.same _ _ ?_
     rw [ax kL.2.2.1]
     refine ak zS _ _ ?_
     rw [ax kL.2.1]
     exact hk
   refine ⟨pt,vt,_,rfl,rfl,C5'.eQ,aN (by lia),?_⟩
   have C5:=C5'.FX (l:=zt) (x:=vq) (mO.dn λ b hb=>C4.Lx hb)
   have pmn:H pm=none:=(MR.trans Ss).free d5
   have psn:H ps=none:=((MR.trans Ss).trans T0).free eR
   have ptn:H pt=none:=(((MR.trans Ss).trans T0).trans OK).free eQ
   have pfn:H pf=none:=((((MR.trans Ss).trans T0).trans OK).trans Xj).free hJ
   have S5:aA H _:=(((((S1.trans S2).put pmn).trans (ak (o:=.tup [.int sh,.int lo,.int HK]) zS)).put (o:=.lst (vs++[.ref pz])) psn).trans mO.same).put (o:=.lst (vt++[vq])) ptn
   have M5:=M1.snoc oC (iC (iC (iC (iC (iC (m8 S2) (qE (by simp))) (m8 (ak (o:=.tup [.int sh,.int lo,.int HK]) zS))) (qE (a:=ps) (o:=.lst (vs++[.ref pz])) (by simp))) (m8 mO.same)) (qE (a:=pt) (o:=.lst (vt++[vq])) (by simp))) hk5 kL (S1.free oC) (λ x hx=>by have:=xt x hx;lia)
   refine ⟨_,rfl,_,rfl,by lia,by lia,?_⟩
   refine f6 (lo:=0) (n:=n) (λ j U H6=>A4 (aA H H6) (E2 λ az fl=>A3 (TC K H6 p pm ps pt pf fE pb (vm++[.ref pk]) (vs++[.ref pz]) (vt++[vq]) az { m with marks:=m.marks++[l],dA:=m.dA++[(sh,lo,HK)],aD:=m.aD++[zt],bi:=fl }) (∀ a b,a<i->b<n->a≠b->∃ k,fl a b=some k/\0<=k/\k<=3) (∀ b,b<j->i≠b->∃ k,fl i b=some k/\0<=k/\k<=3)) (qA H H6 [p,pm,ps,pt,pf] (vm++[.ref pk]) (m.marks++[l])) (∃ JW,U=[some (.ref sa),some (.int ca),some (.int cb),some (.int cc),some (ap n),some (.ref p),some (.int (0+(i:Int))),some (.ref pk),x8,some (.int lo),JW]))
     ⟨S5,⟨az,m.bi,C5,O1.bi,λ b h=>absurd h (an4 b)⟩,M5,JW,rfl⟩ ?_ ?_
   .
    rintro _ _ _ j U H6 hj ⟨S6,⟨Nn,fl,C6,K1,Lg⟩,M6,JW,rfl⟩
    refine ⟨_,rfl,_,rfl,rfl,_,rfl,?_⟩
    refine wj (λ h=>?_) (λ h=>?_)
    .
     have uQ:i≠j:=λ e=>h (by rw [e])
     refine ⟨_,rfl,_,rfl,_,_,rfl,rfl,⟨10,10,oR,(show (0+(i:Int)).natAbs<2 ^ 10 by lia),by decide⟩,λ u1 g1=>⟨_,_,rfl,rfl,λ u2 g2=>⟨_,rfl,_,_,rfl,rfl,λ u3 g3=>⟨cb,u3,4,rfl,by lia,by lia,by decide,λ kk k0 k1=>?_⟩⟩⟩⟩
     refine ⟨_,rfl,p,_,rfl,mw C6.hp,_,rfl,_,rfl,zY,λ kp xM=>?_⟩
     have C6':=C6.same (ak (o:=.tup [.int (0+(i:Int)),.int (0+(j:Int))]) xM)
     have oT:(upd H6 kp (.tup [.int (0+(i:Int)),.int (0+(j:Int))])) kp=some (.tup ((fY i j).map kV)):=by rw [ag,ad8,ad8];rfl
     refine ⟨pf,_,rfl,vF.t C6'.hJ oT (agc C6.fk.len (by decide)),(S6.trans (ak xM)).put pfn,⟨_,_,C6'.eL (k:=kk) (by lia) (by lia),λ a b ha hb Aa=>?_,λ b hb Aa=>?_⟩,M6.step (iC (m8 (ak xM)) (qE (by simp))),_,rfl⟩
     . by_cases e:a=i/\b=j
       . exact ⟨kk,acS e,k0,by lia⟩
       . obtain ⟨z,h1,h2⟩:=K1 a b ha hb Aa
         exact ⟨z,(acO e).trans h1,h2⟩
     . by_cases e:b=j
       . exact ⟨kk,acS ⟨rfl,e⟩,k0,by lia⟩
       . obtain ⟨z,h1,h2⟩:=Lg b (by lia) Aa
         exact ⟨z,(acO (λ y=>e y.2)).trans h1,h2⟩
    . have uQ:i=j:=by have:=fu.mp h;lia
      exact ⟨S6,⟨Nn,fl,C6,K1,λ b hb Aa=>Lg b (by lia) Aa⟩,M6,_,rfl⟩
   . rintro U H6 ⟨S6,⟨Nn,fl,C6,K1,Lg⟩,M6,JW,rfl⟩
     refine ⟨S6,⟨_,_,_,Nn,_,C6,M6,O1.marks zD ⟨⟨sh0,by show sh<=3;lia⟩,⟨by show -30<=lo;lia,by show HK<=60;lia⟩,by show lo<=HK;lia,by show HK<=lo+30;lia⟩ mO.ok λ a b ha hb Aa=>?_⟩,_,_,_,_,_,rfl⟩
     by_cases e:a=i
     . subst e;exact Lg b hb Aa
     . exact K1 a b (by lia) hb Aa
 . rintro U H' ⟨S1,⟨vm,vs,vt,az,m,C1,M1,O1⟩,x6,x7,x8,x9,JW,rfl⟩
   exact ⟨_,rfl,k p H' m n (by lia) (by lia) O1 S1 ⟨pm,ps,pt,pf,fE,pb,vm,vs,vt,az,C1,M1⟩⟩
theorem vG (T:Txt K mg Ad):Def P w K mg base "_law_built" 7 ["_law_told"] (FC K Ad.aO):=by
 refine T.yM.cD cJ λ f bq A outer s H vs Q E hr h=>?_
 obtain ⟨p,tm,n,rfl,hT,ok,n1,n4,k⟩:=h
 refine ⟨_,(ac (aE (i:=1) cJ.nd rfl (lc rfl) (bB (ck hr) (pv 0) bE (λ _ _=>rfl)))
     (ac (aE (i:=2) cJ.nd rfl (lc rfl) (bB (ck hr) (pv 0) bE (λ _ _=>rfl)))
     (ac (aE (i:=3) cJ.nd rfl (lc rfl) (zb T.Cs (ib (K:=K) T) hr.m T.Ga (aa (aB au (pv 1) ah (λ _ _=>rfl)) (aa (aB au (pv 1) ah (λ _ _=>rfl)) (aa (aB au (pv 1) ah (λ _ _=>rfl)) af)))))
     (ac (cW afP rfl (cV (bB (ck hr) (pv 0) bE (λ _ _=>rfl))) (aG (i:=4) cJ.nd rfl (lc rfl)) (al (bg (aR (pv 3) T.aC (n9 (K:=K) T) .nil hr.m (aa (jE ["_law_num"] ["_law_scale_here"] [2] (.cons ⟨rfl,rfl,.inl rfl⟩ .nil) rfl (cV (pv 4)) (λ _ _ _ _ _=>(aG (i:=0) (show (["_law_num","_law_scale_here"]:List Str).Nodup by decide +kernel) rfl (lc rfl))) (λ _ _ _ _ _=>eE) (λ _ _ _ _ _=>(am (i9 (K:=K) T) hr.m (aa (pv 0) (aa ah (aa (pv 1) af))))) rfl (by decide +kernel) (by decide +kernel) (by decide +kernel)) af)))))
     (ac (cW afP rfl (bM rfl T.cI (aa (aX bI (by rfl) T.f8 dJ (aa (bB (ck hr) (pv 0) bE (λ _ _=>rfl)) af)) af)) (aG (i:=5) cJ.nd rfl (lc rfl)) (ac (aE (i:=6) cJ.nd rfl (lc rfl) (aB au (bB (ck hr) (pv 0) bE (λ _ _=>rfl)) (pv 5) (λ _ _=>rfl)))
     (ac (bg (aR (pv 3) T.aC (oZ (K:=K) T) .nil hr.m (aa (pv 5) (aa (am (iq (K:=K) T) hr.m (aa (aB au (pv 6) ah (λ _ _=>rfl)) (aa ah af))) (aa (am (i9 (K:=K) T) hr.m (aa (aB au (pv 6) ah (λ _ _=>rfl)) (aa ah (aa (pv 2) af)))) (aa (am (i9 (K:=K) T) hr.m (aa (aB au (pv 6) ah (λ _ _=>rfl)) (aa ah (aa (pv 2) af)))) af))))))
     (ac (aE (i:=7) cJ.nd rfl (lc rfl) (aB au (bB (ck hr) (pv 0) bE (λ _ _=>rfl)) (pv 5) (λ _ _=>rfl)))
     (ac (lD (bx (aP qG (pv 7) gu (aV _)) (al (bg (zv (pv 3) T.aC (lg (K:=K) T) hr.m (aa (pv 5) (aa (am (iq (K:=K) T) hr.m (aa (ay aZ (aB au (pv 7) ah (λ _ _=>rfl)) (aB au (pv 2) ah (λ _ _=>rfl))) (aa (aB au (pv 2) ah (λ _ _=>rfl)) af))) (aa (aB au (pv 7) ah (λ _ _=>rfl)) (aa (aB au (pv 7) ah (λ _ _=>rfl)) (aa (aB au (pv 7) ah (λ _ _=>rfl)) af)))))))) aI))
     (al (cW afP rfl (bM rfl T.cI (aa (aX bI (by rfl) T.f8 dJ (aa (bB (ck hr) (pv 0) bE (λ _ _=>rfl)) af)) af)) (aG (i:=8) cJ.nd rfl (lc rfl)) (al (bx (aP lq (pv 8) (pv 5) (aV _)) (al (bg (aR (pv 3) T.aC (mW (K:=K) T) .nil hr.m (aa (pv 5) (aa (pv 8) (aa (am (iq (K:=K) T) hr.m (aa (bB (ck hr) (bB (ck hr) (pv 0) bE (λ _ _=>rfl)) (cm (aa (pv 5) (aa (pv 8) af))) (λ _ _=>rfl)) (aa ah af))) af)))))) aI)))))))))
     (al (aF (pv 3)))))))),?_⟩
 try dsimp only [d7,aK]
 first|(refine n8 ?_;intro _ _ _ _ _ _ _)|skip
 obtain ⟨pm,ps,pt,pf,fE,pb,vm,vs,vt,az,C0⟩:=id hT
 have hb:bP K H pb [.int tm.bounds.1,.int tm.bounds.2.1,.int tm.bounds.2.2]:=cQ.tup C0.bo
 have OH:bP K H fE tm.scale.vs:=cQ.tup C0.sc
 refine ⟨_,rfl,p,_,rfl,lB C0.hp,⟨_,rfl,p,_,rfl,tI C0.hp,?_⟩⟩
 refine ⟨_,rfl,_,_,_,_,rfl,rfl,.inr hb,rfl,_,rfl,_,_,_,_,rfl,rfl,.inr hb,rfl,_,rfl,_,_,_,_,rfl,rfl,.inr hb,rfl,?_⟩
 intro a CS fa OB Vl
 have fa':upd H CS (.own a) a=none:=by rw [ax Vl.symm];exact fa
 have s0:aA H (upd (upd H CS (.own a)) a (.ins Ad.aO CS [])):=(ak OB).trans (ak fa')
 refine ⟨a,CS,_,_,_,rfl,ag,by rw [ax Vl];exact ag,ok.bounds.1,ok.bounds.2.1,ok.bounds.2.2,λ H1 ZD D=>⟨rfl,?_⟩⟩
 obtain ⟨S1,F1⟩:=D.keep s0 (λ b hb=>by
   simp only [acs,aaI,agT] at hb
   rcases hb with rfl|rfl
   . exact fa
   . exact OB)
 have C1:=C0.same S1
 refine ⟨_,rfl,p,_,rfl,bZ C1.hp,pm,rfl,⟨vm,aT.of C1.d5⟩,?_⟩
 have EX:vm.length=n:=by rw [C0.dm.length,AM,ok.lm]
 refine u7 (xs:=vm) (λ i U H'=>A4 (aA H H') (∃ fp,aL K Ad.aO H' a fp (tm.m1 i)/\∀ b∈fp,H b=none) ((tm.m1 i).rows=(tm.marks.take i).map tm.row) (E5 λ x4 x5 x6 x7 x8=>U=[some (.ref p),some (.ref pb),some (.ref fE),some (.ref a),x4,x5,x6,x7,x8]))
   ⟨S1,⟨ZD,D.at_,F1⟩,rfl,none,none,none,none,none,rfl⟩ (λ i U H' _ e=>aT.of (e.1 _ _ C0.d5)) ?_ ?_
 .
  rintro _ _ i x U H' hx ⟨S2,⟨fp,hh,hF⟩,uP,x4,x5,x6,x7,x8,rfl⟩
  refine Hj ?_;intro _ _ _
  have hi:i<tm.marks.length:=by rw [ok.lm,← EX];exact (List.getElem?_eq_some_iff.mp hx).1
  have C2:=C0.same S2
  obtain ⟨v,ev,pk,ws,rfl,oC,Jz⟩:=C2.dm.get (i:=i) (d:=vI tm.marks[i]) (by rw [T1,aq hi];rfl)
  obtain rfl:x = .ref pk:=ac2 (hx.symm.trans ev)
  obtain rfl:=f7 Jz
  have zD:=ok.rows tm.marks[i] (ab8 hi)
  have HH:aT K H' pk (tm.marks[i].map V.int):=cQ.seq oC
  obtain ⟨⟨dx,_,_,_,_,_,_,_,_,_,ha,_⟩,_⟩:=id hh
  have hr0:(tm.m1 i).rows.length=i:=by rw [uP,AM,ad4];lia
  refine ⟨_,rfl,a,dx,_,rfl,ha,rfl,_,rfl,pk,rfl,⟨_,HH⟩,λ Dl hD=>?_⟩
  refine gL (K:=K) (a:=pk) (xs:=tm.marks[i].map V.int) (λ j acc U H3=>A4 (aA H' H3) (H3 Dl=some (.lst acc)) (bT K H3 ((tm.marks[i].take j).map λ x=>dR (aQ x 1 tm.scale)) acc) (∃ v,U=[v,some (.ref fE)]))
    ⟨ak hD,ag,rfl,none,rfl⟩ (λ j acc U H3 _ e=>e.1.seq HH) ?_ ?_
  .
   rintro j x acc U H3 hxj ⟨s3,jO,d3,v,rfl⟩
   have OU:j<tm.marks[i].length:=by have:=(List.getElem?_eq_some_iff.mp hxj).1;rw [AM] at this;exact this
   have ex:x = .int tm.marks[i][j]:=by
     rw [T1,aq OU] at hxj
     exact (ac2 hxj).symm
   subst ex
   have bdj:=zD.bd tm.marks[i][j] (ab8 OU)
   refine ⟨_,rfl,_,rfl,_,1,fE,tm.scale,rfl,(S2.trans s3).tup OH,ok.scale,(show (tm.marks[i][j]).natAbs<2 ^ 30 by lia),by decide,oR,λ q H4 s4 hq=>?_⟩
   have la:acc.length=j:=by rw [d3.length,AM,ad4];lia
   have Yb:bw K H4 (upd H4 Dl (.lst (acc++[.ref q]))):=cF (s4 _ _ jO) rfl
   refine ⟨s4 _ _ jO,aN (by have:=zD.most;split at this<;>lia),(s3.trans s4).put hD,ag,?_,_,rfl⟩
   rw [anA,aq OU,YT]
   exact (bT.ts ((aA.ts s4).trans Yb) _ (nR _ _) d3).snoc (Dn.ts Yb _ (gq _) (iQ (bP.of hq)))
  .
   rintro acc U H3 ⟨s3,jO,d3,v,rfl⟩
   rw [AM,ahU] at d3
   have YB:tm.marks[i].length<=7:=by have:=zD.most;split at this<;>lia
   refine ⟨a,fp,tm.m1 i,Dl,acc,tm.row tm.marks[i],rfl,hh.same s3,by have:=ok.lm;lia,aT.of jO,by unfold ar.row;rw [anM];exact d3,Nt ok.scale zD,by unfold ar.row;rw [AM];exact zD.two,by unfold ar.row;rw [AM];exact YB,Bz ok.scale zD.JV,?_,λ H4 Xz D4=>?_⟩
   .
    have e:(tm.m1 i).rows++[tm.row tm.marks[i]]=(tm.marks.take (i+1)).map tm.row:=by rw [uP,anA,aq hi,YT];rfl
    rw [e]
    refine (Fb (n:=n) rfl n4 (λ r hr=>?_) ?_).2
    . refine KZ ok r ?_
      obtain ⟨l,hl,rfl⟩:=List.mem_map.mp hr
      exact List.mem_map.mpr ⟨l,List.mem_of_mem_take hl,rfl⟩
    . rw [AM,ad4,ok.lm];lia
   .
    obtain ⟨S4,F4⟩:=D4.keep (S2.trans s3) hF
    have em:=ar.Ii (aq hi)
    refine ⟨S4,⟨Xz,by rw [em];exact D4.at_,F4⟩,?_,_,_,_,_,_,rfl⟩
    rw [em]
    show (tm.m1 i).rows++[tm.row tm.marks[i]]=_
    rw [uP,anA,aq hi,YT];rfl
 .
  rintro U H' ⟨S2,⟨fp,hh,hF⟩,uP,x4,x5,x6,x7,x8,rfl⟩
  rw [EX] at hh uP
  have C2:=C0.same S2
  have hr0:(tm.m1 n).rows.length=n:=by rw [uP,AM,ad4,ok.lm];lia
  refine ⟨_,rfl,p,_,rfl,bZ C2.hp,pm,vm,rfl,.inl (aT.of C2.d5),λ r er=>?_⟩
  obtain rfl:r=(n:Int):=by rw [er,EX]
  refine ⟨_,rfl,by lia,by lia,?_⟩
  refine f6 (lo:=0) (n:=n) (λ i U H'=>A5 (aA H H') (∃ fp,aL K Ad.aO H' a fp (tm.m2 n i)/\∀ b∈fp,H b=none) ((tm.m2 n i).rows.length=n) (Tw (tm.m2 n i)) (E5 λ x4 x5 x6 x7 x8=>U=[some (.ref p),some (.ref pb),some (.ref fE),some (.ref a),x4,x5,x6,x7,x8]))
    ⟨S2,⟨fp,hh,hF⟩,hr0,⟨_,_,tm.Uk n,⟨λ _=>by decide,λ _ _=>by decide,λ _=>rfl⟩⟩,x4,x5,x6,x7,x8,rfl⟩ ?_ ?_
  .
   rintro _ _ _ i U H3 hi ⟨S3,⟨fp3,X7,Y6⟩,OL,tw,y4,y5,y6,y7,y8,rfl⟩
   have C3:=C0.same S3
   have xP:i<tm.dA.length:=by rw [ok.ls];exact hi
   have qX:i<tm.aD.length:=by rw [ok.lt];exact hi
   obtain ⟨vz,evz,pz,wz,rfl,zS,dz⟩:=C3.ds.get (i:=i) (d:=C8 tm.dA[i]) (by rw [T1,aq xP];rfl)
   obtain ⟨z1,r1,rfl,e1,z2,r2,rfl,e2,z3,r3,rfl,e3,e4⟩:=dz
   have e4:r3=[]:=e4
   have e1:z1 = .int tm.dA[i].1:=e1
   have e2:z2 = .int tm.dA[i].2.1:=e2
   have e3:z3 = .int tm.dA[i].2.2:=e3
   subst e1 e2 e3 e4
   have hz:bP K H3 pz [.int tm.dA[i].1,.int tm.dA[i].2.1,.int tm.dA[i].2.2]:=cQ.tup zS
   have Dy:=ok.dA tm.dA[i] (ab8 xP)
   obtain ⟨⟨dx,_,_,_,_,_,_,_,_,_,ha,_⟩,lsk,lst,_⟩:=id X7
   refine ⟨_,rfl,p,_,rfl,sj C3.hp,_,rfl,ps,vs,_,_,rfl,rfl,.inl (aT.of C3.eR),by rw [ad8];exact bA evz,?_⟩
   refine ⟨_,rfl,a,dx,_,rfl,ha,rfl,_,rfl,_,rfl,pz,_,_,_,rfl,rfl,.inr hz,rfl,_,12,rfl,by decide,oR,λ q r u Hr F sr hu=>?_⟩
   refine ⟨_,rfl,pz,_,_,_,rfl,rfl,.inr (sr.tup hz),rfl,_,rfl,_,1,fE,tm.scale,rfl,(S3.trans sr).tup OH,ok.scale,(show (tm.dA[i].2.1).natAbs<2 ^ 30 by lia),by decide,oR,λ q1 Hw sw HM=>?_⟩
   refine ⟨_,rfl,pz,_,_,_,rfl,rfl,.inr (sw.tup (sr.tup hz)),rfl,_,rfl,_,1,fE,tm.scale,rfl,((S3.trans sr).trans sw).tup OH,ok.scale,(show (tm.dA[i].2.2).natAbs<2 ^ 30 by lia),by decide,oR,λ q2 Hx sx HL=>?_⟩
   have s3x:=(sr.trans sw).trans sx
   have f12:Ov 12 tm.dA[i].1 (nf tm.dA[i].1 12):=Ov.nf (by decide)
   have okw:∀ x:Int,-200<=x->x<=200->dU 100 (aQ x 1 tm.scale):=λ x h1 h2=>(qW (n:=8) ok.scale (by decide) (show x.natAbs<2 ^ 8 by lia) oR).mono (by decide)
   refine ⟨a,fp3,_,i,.ref u,.ref q1,.ref q2,nf tm.dA[i].1 12,aQ tm.dA[i].2.1 1 tm.scale,aQ tm.dA[i].2.2 1 tm.scale,by rw [ad8];rfl,X7.same s3x,by lia,Dn.same (sw.trans sx) _ (Fk (by decide) F hu),Dn.same sx _ (iQ (bP.of HM)),iQ (bP.of HL),
     GH (by decide) (show (tm.dA[i].1).natAbs<2 ^ 100 by lia) oR,okw _ (by lia) (by lia),okw _ (by lia) (by lia),?_,L2.Ov.nonneg (by decide) f12 Dy.1.1,tw.vH (by lia) (by lia) f12 Dy.1.2,λ H4 Xz D4=>?_⟩
   . rw [ku ok.scale (by decide)]
     exact ad7 (by lia)
   .
    obtain ⟨S4,F4⟩:=D4.keep (S3.trans s3x) Y6
    have C4:=C0.same S4
    have Oa:tm.gw (tm.m2 n i) i=(tm.m2 n i).fV i (tm.nY tm.dA[i]):=by unfold ar.gw;rw [aq xP]
    have tw4:Tw (tm.gw (tm.m2 n i) i):=by rw [Oa];exact tw.dA (by lia) f12 Dy.1.1 Dy.1.2
    have rw4:(tm.gw (tm.m2 n i) i).rows.length=n:=by rw [Oa];exact OL
    have T6:aL K Ad.aO H4 a Xz (tm.gw (tm.m2 n i) i):=by rw [Oa];exact D4.at_
    generalize hm4:tm.gw (tm.m2 n i) i=m4 at tw4 rw4 T6
    obtain ⟨vq,OF,dq⟩:=C4.dt.get (i:=i) (d:=stI tm.aD[i]) (by rw [T1,aq qX];rfl)
    refine ⟨_,rfl,p,_,rfl,gZ C4.hp,_,rfl,pt,vt,_,_,rfl,rfl,.inl (aT.of C4.eQ),by rw [ad8];exact bA OF,?_⟩
    refine ⟨λ σ' H5=>A5 (aA H H5) (∃ fp,aL K Ad.aO H5 a fp (tm.bO m4 i)/\∀ b∈fp,H b=none) ((tm.bO m4 i).rows.length=n) (Tw (tm.bO m4 i)) (E2 λ y6 y7=>σ'=[some (.ref p),some (.ref pb),some (.ref fE),some (.ref a),y4,some (.int (0+(i:Int))),y6,y7,y8]),?_,?_⟩
    .
     refine ⟨_,rfl,rfl,_,rfl,?_⟩
     cases GS:tm.aD[i] with
     | none =>
       rw [GS] at dq
       have dq:vq = .b9:=dq
       subst dq
       have es:tm.bO m4 i=m4:=by unfold ar.bO;rw [aq qX,GS]
       rw [es]
       refine fz rfl ⟨S4,⟨Xz,T6,F4⟩,rw4,tw4,_,_,rfl⟩
     | some z =>
       rw [GS] at dq
       obtain ⟨pq,wq,rfl,Mc,t1,r1,rfl,e1,t2,r2,rfl,e2,t3,r3,rfl,e3,t4,r4,rfl,e4,e5⟩:=dq
       have e5:r4=[]:=e5
       have e1:t1 = .int z.1:=e1
       have e2:t2 = .int z.2.1:=e2
       have e3:t3 = .int z.2.2.1:=e3
       have e4:t4 = .int z.2.2.2:=e4
       subst e1 e2 e3 e4 e5
       have Ma:bP K H4 pq [.int z.1,.int z.2.1,.int z.2.2.1,.int z.2.2.2]:=cQ.tup Mc
       have HC:=ok.aD z (by rw [← GS];exact ab8 qX)
       have QP:bP K H4 fE tm.scale.vs:=S4.tup OH
       obtain ⟨⟨OR,_,_,_,_,_,_,_,_,_,ha4,_⟩,_⟩:=id T6
       refine Gv nofun ⟨_,rfl,a,OR,_,rfl,ha4,rfl,_,rfl,_,rfl,pq,_,_,_,rfl,rfl,.inr Ma,rfl,_,rfl,fE,_,_,_,rfl,rfl,.inr QP,rfl,_,_,rfl,rfl,⟨10,30,(show (z.1).natAbs<2 ^ 10 by have:=HC.h;lia),ok.scale.ba,by decide⟩,λ yy ey=>?_⟩
       have hB:0<tm.scale.b:=by have:=ok.scale.b0;lia
       refine ⟨_,rfl,fE,_,_,_,rfl,rfl,.inr QP,rfl,yy,tm.scale.b,rfl,hB,ok.scale.bb.mono (by decide),λ q' r' u' Hr' F' N4 Oe=>?_⟩
       refine ⟨_,rfl,pq,_,_,_,rfl,rfl,.inr (N4.tup Ma),rfl,_,rfl,pq,_,_,_,rfl,rfl,.inr (N4.tup Ma),rfl,_,rfl,pq,_,_,_,rfl,rfl,.inr (N4.tup Ma),rfl,?_⟩
       subst ey
       have bz:Bd 40 (z.1 * tm.scale.a):=Bd.mul (m:=10) (n:=30) (show (z.1).natAbs<2 ^ 10 by have:=HC.h;lia) ok.scale.ba
       have ob:Ov tm.scale.b (z.1 * tm.scale.a) (nf (z.1 * tm.scale.a) tm.scale.b):=Ov.nf hB
       have es:tm.bO m4 i=m4.hG i (tm.iz z):=by unfold ar.bO;rw [aq qX,GS]
       refine ⟨a,Xz,m4,i,.ref u',nf (z.1 * tm.scale.a) tm.scale.b,z.2.1,z.2.2.1,z.2.2.2,by rw [ad8];rfl,T6.same N4,by lia,Fk hB F' Oe,GH hB (bz.mono (by decide)) (ok.scale.bb.mono (by decide)),L2.Ov.nonneg hB ob (aoc HC.h.1 (by have:=ok.scale.a0;lia)),HC.w,HC.s,HC.f,λ H5 fp5 D5=>?_⟩
       obtain ⟨S5,F5⟩:=D5.keep (S4.trans N4) F4
       rw [es]
       exact ⟨S5,⟨fp5,D5.at_,F5⟩,rw4,tw4.jM,_,_,rfl⟩
    .
     rintro σ' H5 ⟨S5,⟨fp5,hh5,F5⟩,rw5,tw5,y6,y7,rfl⟩
     have C5:=C0.same S5
     refine ⟨_,rfl,p,_,rfl,bZ C5.hp,pm,vm,rfl,.inl (aT.of C5.d5),λ r' er'=>?_⟩
     obtain rfl:r'=(n:Int):=by rw [er',EX]
     refine ⟨_,rfl,by lia,by lia,?_⟩
     generalize hm5:tm.bO m4 i=m5 at hh5 rw5 tw5
     refine f6 (lo:=0) (n:=n) (λ j U H6=>A5 (aA H H6) (∃ fp,aL K Ad.aO H6 a fp (tm.eJ i m5 j)/\∀ b∈fp,H b=none) ((tm.eJ i m5 j).rows.length=n) (Tw (tm.eJ i m5 j)) (∃ x8,U=[some (.ref p),some (.ref pb),some (.ref fE),some (.ref a),y4,some (.int (0+(i:Int))),y6,y7,x8]))
       ⟨S5,⟨fp5,hh5,F5⟩,rw5,tw5,_,rfl⟩ ?_ ?_
     .
      rintro _ _ _ j U H6 hj ⟨S6,⟨X8,OJ,F6⟩,Wd,tw6,x8,rfl⟩
      refine ⟨_,rfl,_,rfl,rfl,_,rfl,?_⟩
      rw [ar.nU]
      generalize tm.eJ i m5 j=m6 at OJ Wd tw6
      refine wj (λ h=>?_) (λ h=>?_)
      .
       have uQ:i≠j:=λ e=>h (by rw [e])
       obtain ⟨kk,hk,k0,k3⟩:=ok.bi i j hi hj uQ
       have C6:=C0.same S6
       obtain ⟨⟨dx6,_,_,_,_,_,_,_,_,_,ha6,_⟩,_⟩:=id OJ
       refine ⟨_,rfl,a,dx6,_,rfl,ha6,rfl,_,rfl,_,rfl,_,rfl,p,_,rfl,mw C6.hp,_,rfl,_,rfl,zY,λ kp xM=>?_⟩
       have sk:=ak (o:=.tup [.int (0+(i:Int)),.int (0+(j:Int))]) xM
       have oT:(upd H6 kp (.tup [.int (0+(i:Int)),.int (0+(j:Int))])) kp=some (.tup ((fY i j).map kV)):=by rw [ag,ad8,ad8];rfl
       have Em:gF (upd H6 kp (.tup [.int (0+(i:Int)),.int (0+(j:Int))])) pf (.ref kp) (some (.int kk)):=by
         have:=gF.t (k:=fY i j) (sk _ _ C6.hJ) oT
         rw [C6.df i j (by lia) (by lia),hk] at this
         exact this
       refine ⟨pf,.int kk,rfl,Em,kk,12,rfl,by decide,oR,λ q' r' u' Hr' F' N4 Oe=>?_⟩
       have MF:Ov 12 kk (nf kk 12):=Ov.nf (by decide)
       have sA:=sk.trans N4
       refine ⟨a,X8,m6,i,j,.ref u',nf kk 12,by rw [ad8,ad8];rfl,OJ.same sA,by lia,by lia,uQ,Fk (by decide) F' Oe,GH (by decide) (show kk.natAbs<2 ^ 100 by lia) oR,L2.Ov.nonneg (by decide) MF k0,tw6.rY (by lia) (by lia) uQ (by lia) MF k3,λ H7 fp7 D7=>?_⟩
       obtain ⟨S7,F7⟩:=D7.keep (S6.trans sA) F6
       have ef:tm.gk i m6 j=m6.eL i j (nf kk 12):=by unfold ar.gk;rw [acO uQ.symm,hk]
       rw [ef]
       exact ⟨S7,⟨fp7,D7.at_,F7⟩,Wd,tw6.fD uQ MF k0 k3,_,rfl⟩
      . have uQ:i=j:=by have:=fu.mp h;lia
        have ef:tm.gk i m6 j=m6:=by unfold ar.gk;rw [acS uQ.symm]
        rw [ef]
        exact ⟨S6,⟨X8,OJ,F6⟩,Wd,tw6,_,rfl⟩
     . rintro U H6 ⟨S6,⟨X8,OJ,F6⟩,Wd,tw6,x8,rfl⟩
       have e2:tm.m2 n (i+1)=tm.eJ i m5 n:=by rw [ar.Cc,← hm5,← hm4];rfl
       rw [e2]
       exact ⟨S6,⟨X8,OJ,F6⟩,Wd,tw6,_,_,_,_,_,rfl⟩
  . rintro U H3 ⟨S3,⟨fp3,X7,Y6⟩,OL,tw,y4,y5,y6,y7,y8,rfl⟩
    exact ⟨_,rfl,k a H3 fp3 S3 X7 Y6 OL tw⟩
theorem dQ (T:Txt K mg Ad):Def P w K mg base "has_room" 1 ["bits","room"] zT:=by
 refine T.AH.cD yE λ f bq A outer s H vs Q E hr h=>?_
 obtain ⟨n,r,rfl,k⟩:=h
 refine ⟨_,(al (aF (gh jn (ay iu (ay vy (pv 0) (pv 1)) ah) ah (aV _)))),?_⟩
 try dsimp only [d7,aK]
 refine ⟨_,rfl,_,rfl,_,_,rfl,rfl,ant _,λ s es=>⟨_,_,rfl,rfl,by decide,λ m _ _ em=>⟨rfl,?_⟩⟩⟩
 rw [Cp n r es em]
 exact k
theorem mR (T:Txt K mg Ad):Def P w K mg base "with_room" 1 ["bits","room"] xh:=by
 refine T.xZ.cD vY λ f bq A outer s H vs Q E hr h=>?_
 obtain ⟨n,r,rfl,Ny,k⟩:=h
 refine ⟨_,(al (aF (ay N6 (pv 0) (ay Il ah (pv 1))))),?_⟩
 try dsimp only [d7,aK]
 refine ⟨_,rfl,_,rfl,_,_,rfl,rfl,⟨ant _,by lia,by decide⟩,λ s es=>⟨_,_,rfl,rfl,λ m em=>?_⟩⟩
 have e1:s=((2 ^ r:Nat):Int):=by rw [es,akM,Int.one_mul,Int.natCast_pow];rfl
 rw [em,e1,DU]
 exact k
theorem kj (T:Txt K mg Ad):Def P w K mg base "members" 2 ["bits"] BB:=by
 refine T.Dc.cD Bv λ f bq A outer s H vs Q E hr h=>?_
 obtain ⟨n,rfl,hn,k⟩:=h
 refine ⟨_,(al (aF (jE ["room"] ["bits"] [0] (.cons ⟨rfl,rfl,.inl rfl⟩ .nil) rfl (bM rfl T.cI (aa (On PySem.F.plainAttrs_int PySem.F.slot_int_bit_length PySem.F.type_int_bit_length DN (pv 0)) af)) (λ _ _ _ _ _=>(aG (i:=0) (show (["room","bits"]:List Str).Nodup by decide +kernel) rfl (lc rfl))) (λ _ _ _ _ _=>(lV (ce (am (dQ (K:=K) T) hr.m (aa (pv 1) (aa (pv 0) af)))))) (λ _ _ _ _ _=>(pv 0)) rfl (by decide +kernel) (by decide +kernel) (by decide +kernel)))),?_⟩
 try dsimp only [d7,aK]
 refine ⟨_,rfl,rfl,_,rfl,rfl,λ b eb=>?_⟩
 have hb:Builtin.Int.intBits (n:Int)<=61:=PySem.intBits_le_iff.mpr (by simpa using hn)
 have N1:n<2 ^ Builtin.Int.intBits (n:Int):=by
   have:=PySem.intBits_le_iff.mp (aat (Builtin.Int.intBits (n:Int)))
   simpa using this
 have eN:b.toNat=Builtin.Int.intBits (n:Int):=by lia
 refine ⟨b,rfl,by lia,by lia,λ D hD=>?_⟩
 refine fe (λ i acc U H'=>A3 (H'=upd H D (.lst acc)) (acc=((List.range i).filter n.testBit).map ap) (∃ v,U=[v,some (ap n)])) ⟨rfl,rfl,none,rfl⟩ ?_ ?_
 .
  rintro i acc U H' hi ⟨rfl,rfl,v,rfl⟩
  refine ⟨_,rfl,_,rfl,n,i,(by show [_,_]=[_,_];rw [ad8];rfl),_,rfl,?_⟩
  have er:((List.range (i+1)).filter n.testBit).map ap=((List.range i).filter n.testBit).map ap++(if n.testBit i=true then [ap i] else []):=by
    rw [agN,amL,YT]
    by_cases q:n.testBit i=true<;>simp [q]
  by_cases q:n.testBit i=true
  .
   rw [q]
   refine iW ⟨_,rfl,ag,?_,?_,?_,_,rfl⟩
   . have:=ajp n.testBit (List.range i)
     rw [adw] at this
     rw [AM]
     exact aN (by lia)
   . rw [BX]
   . rw [er,acS q,ad8];rfl
  . rw [Bool.not_eq_true] at q
    rw [q]
    refine gz ⟨rfl,?_,_,rfl⟩
    rw [er,q];simp
 . rintro acc U H' ⟨rfl,rfl,v,rfl⟩
   refine k D _ hD (ak hD) ?_
   rw [ag,eN,Bit.Av N1 hb]
theorem ss (T:Txt K mg Ad):Def P w K mg base "subsets" 3 ["bits"] AW:=by
 refine T.Db.cD kK λ f bq A outer s H vs Q E hr h=>?_
 obtain ⟨n,rfl,hn,h8,k⟩:=h
 refine ⟨_,(ac (aE (i:=1) kK.nd rfl (lc rfl) (cL (aa ah af)))
     (ac (cW afP rfl (cV (am (kj (K:=K) T) hr.m (aa (pv 0) af))) (aG (i:=2) kK.nd rfl (lc rfl)) (al (aE (i:=1) kK.nd rfl (lc rfl) (ay FH (pv 1) (jE ["part"] ["room"] [2] (.cons ⟨rfl,rfl,.inl rfl⟩ .nil) rfl (cV (pv 1)) (λ _ _ _ _ _=>(aG (i:=0) (show (["part","room"]:List Str).Nodup by decide +kernel) rfl (lc rfl))) (λ _ _ _ _ _=>eE) (λ _ _ _ _ _=>(am (mR (K:=K) T) hr.m (aa (pv 0) (aa (pv 1) af)))) rfl (by decide +kernel) (by decide +kernel) (by decide +kernel))))))
     (al (aF (pv 1))))),?_⟩
 try dsimp only [d7,aK]
 first|(refine dE ?_;intro _ _ _ _)|skip
 refine ⟨(by show 1<=sizeLine;decide),λ p0 Ik=>⟨_,rfl,n,rfl,hn,λ pm Hm d5 sm km=>⟨pm,rfl,⟨_,aT.of km⟩,?_⟩⟩⟩
 have s0:=(ak (o:=.lst [.int 0]) Ik).trans sm
 refine iU (K:=K) (a:=pm) (xs:=(Bit.rooms n).map ap) (λ i U H'=>aA Hm H'/\E2 λ (pp:Addr) (v:Option V)=>A3 (H pp=none) (U=[some (ap n),some (.ref pp),v]) (H' pp=some (.lst ((Bit.parts ((Bit.rooms n).take i)).map ap))))
   ⟨aA.refl _,p0,none,Ik,rfl,sm _ _ ag⟩ (λ i U H' _ ⟨s1,_⟩=>aT.of (s1 _ _ km)) ?_ ?_
 .
  rintro i x U H' hx ⟨s1,pp,v,xi,rfl,kp⟩
  obtain ⟨r,er,rfl⟩:=dF hx
  have Tz:i<(Bit.rooms n).length:=(List.getElem?_eq_some_iff.mp er).1
  have apJ:r<61:=(Bit.fg.mp (ad5 er)).1
  have aqk:(Bit.parts ((Bit.rooms n).take i)).length<=256:=by
    rw [(Kl n i).len,ad4]
    exact agB (ajz (by decide) (by lia:min i (Bit.rooms n).length<=8)) (by decide)
  have next:Bit.parts ((Bit.rooms n).take (i+1))=Bit.parts ((Bit.rooms n).take i)++(Bit.parts ((Bit.rooms n).take i)).map (· ||| 2 ^ r):=by
    rw [cY er,AY]
  generalize Bit.parts ((Bit.rooms n).take i)=ps at *
  refine ⟨_,rfl,_,rfl,pp,rfl,⟨_,aT.of kp⟩,λ D hD=>?_⟩
  have nD:pp≠D:=av kp hD
  refine gL (K:=K) (a:=pp) (xs:=ps.map ap) (λ j acc σ' H2=>A3 (H2=upd H' D (.lst acc)) (acc=(ps.take j).map (λ p=>ap (p ||| 2 ^ r))) (∃ v,σ'=[v,some (ap r)])) ⟨rfl,rfl,none,rfl⟩
    (λ j acc σ' H2 _ ⟨e,_,_⟩=>by subst e;exact aT.of (by rw [ax nD];exact kp)) ?_ ?_
  .
   rintro j y acc σ' H2 hy ⟨rfl,rfl,v2,rfl⟩
   obtain ⟨p,ep,rfl⟩:=dF hy
   refine ⟨_,rfl,_,rfl,p,r,rfl,by lia,ag,?_,?_,?_,_,rfl⟩
   . rw [AM,ad4];exact aN (by lia)
   . rw [BX]
   . rw [cY ep,YT];rfl
  .
   rintro acc σ' H2 ⟨rfl,rfl,v2,rfl⟩
   rw [AM,ahU]
   refine ⟨pp,D,_,_,rfl,rfl,(by rw [ax nD];exact kp),ag,?_,λ q hq=>?_⟩
   . rw [AM,AM];exact anY (aN (by lia))
   . have s2:=ak (o:=.lst (ps.map λ p=>ap (p ||| 2 ^ r))) hD
     have s3:=ak (o:=.lst (ps.map ap++ps.map λ p=>ap (p ||| 2 ^ r))) hq
     refine ⟨s1.trans (s2.trans s3),q,_,s0.free (s1.free (s2.free hq)),rfl,?_⟩
     rw [ag,next,YT,anM];rfl
 . rintro U H' ⟨s1,pp,v,xi,rfl,kp⟩
   rw [AM,ahU] at kp
   exact ⟨_,rfl,k pp H' xi (s0.trans s1) kp⟩
theorem pU (T:Txt K mg Ad):Def P w K mg base "how_many" 3 ["bits"] zf:=by
 refine T.Br.cD zG λ f bq A outer s H vs Q E hr h=>?_
 obtain ⟨n,rfl,hn,k⟩:=h
 refine ⟨_,(al (aF (aX bI (by rfl) T.f8 dJ (aa (am (kj (K:=K) T) hr.m (aa (pv 0) af)) af)))),?_⟩
 try dsimp only [d7,aK]
 refine ⟨_,rfl,n,rfl,hn,λ pm Hm d5 sm km=>⟨pm,_,rfl,.inl (aT.of km),λ y ey=>?_⟩⟩
 rw [AM] at ey
 rw [ey]
 exact k Hm sm
theorem mz (T:Txt K mg Ad):Def P w K mg base "bits_of" 2 ["rooms"] (DY K):=by
 refine T.CY.cD j6 λ f bq A outer s H vs Q E hr h=>?_
 obtain ⟨p,l,rfl,hp,hl,k⟩:=h
 refine ⟨_,(ac (aE (i:=1) j6.nd rfl (lc rfl) ah)
     (ac (cW afP rfl (cV (pv 0)) (aG (i:=2) j6.nd rfl (lc rfl)) (al (aE (i:=1) j6.nd rfl (lc rfl) (am (mR (K:=K) T) hr.m (aa (pv 1) (aa (pv 2) af))))))
     (al (aF (pv 1))))),?_⟩
 try dsimp only [d7,aK]
 first|(refine dE ?_;intro _ _ _ _)|skip
 refine ⟨_,rfl,p,rfl,⟨_,hp⟩,?_⟩
 refine iU (K:=K) (a:=p) (xs:=l.map ap) (λ i U H'=>H'=H/\∃ v,U=[some (.ref p),some (ap (Bit.sumOf (l.take i))),v]) ⟨rfl,none,rfl⟩ (λ i U H' _ e=>by rw [e.1];exact hp) ?_ ?_
 .
  rintro i x U H' hx ⟨rfl,v,rfl⟩
  obtain ⟨r,er,rfl⟩:=dF hx
  have en:Bit.sumOf (l.take (i+1))=Bit.sumOf (l.take i) ||| 2 ^ r:=by
    rw [cY er]
    unfold Bit.sumOf
    rw [akL]
    rfl
  exact ⟨_,rfl,_,rfl,_,r,rfl,hl r (ad5 er),rfl,_,by rw [en];rfl⟩
 . rintro U H' ⟨rfl,v,rfl⟩
   rw [AM,ahU]
   exact ⟨_,rfl,k⟩
theorem ue (T:Txt K mg Ad):Def P w K mg base "fits_stove" 1 ["stove","fired","wait","failed"] (uh K):=by
 refine T.vx.cD jv λ f bq A outer s H vs Q E hr h=>?_
 obtain ⟨v,z,f,w',b,rfl,hd,hf,k⟩:=h
 refine ⟨_,(ac (bx (aP tp (pv 0) gu (aV _)) (al (aF (pi (vO (pv 1)) (pi (gh jn (pv 2) ah (aV _)) (pI (gh jn (pv 3) ah (aV _))))))) aI)
     (ac (js (lF BW (pv 0) (jU ah) vX) (fN (K:=K) (n:=2) rfl rfl (bh (aG (i:=4) jv.nd rfl (lc rfl)) (bh (aG (i:=5) jv.nd rfl (lc rfl)) fT))))
     (ac (bx (PW.pt (tJ (dX (jH i5 i5 ah (pv 2) (pv 4))) (px (dX (jH i5 i5 ah (pv 3) (pv 5)))))) (al (aF gX)) aI)
     (al (aF (Uq (gh jn (pv 3) ah (aV _)) (pI (pi (vO (pv 1)) (pI (gh jn (pv 2) ah (aV _))))))))))),?_⟩
 try dsimp only [d7,aK]
 first|(refine c7 ?_;intro _ _ _ _ _)|skip
 cases z with
 | none =>
   obtain ⟨rfl,rfl,rfl⟩:=hf
   have hd:v = .b9:=hd
   subst hd
   exact ⟨_,rfl,rfl,_,rfl,oK rfl ⟨_,rfl,_,rfl,_,rfl,iW ⟨_,rfl,rfl,_,rfl,oK rfl ⟨_,rfl,rfl,blT rfl (k H (aA.refl _))⟩⟩⟩⟩
 | some z =>
   obtain ⟨p,v1,rfl,hp,_⟩:=hd.jM
   refine ⟨_,rfl,rfl,_,rfl,mZ nofun ?_⟩
   refine ⟨_,rfl,2,rfl,p,_,2,rfl,hp,rfl,rfl,by decide,(by show 2<=4;decide),λ q hq=>?_⟩
   refine ⟨q,_,rfl,bP.of ag,rfl,_,_,rfl,_,_,rfl,rfl,?_⟩
   have s1:=ak (o:=.tup [V.int z.2.2.1,V.int z.2.2.2]) hq
   obtain ⟨f1,f2,f3⟩:=hf
   refine ⟨_,rfl,_,_,rfl,rfl,_,rfl,oK (by lia) ⟨_,rfl,_,_,rfl,rfl,_,rfl,fz f1 ?_⟩⟩
   refine ⟨_,rfl,_,_,rfl,rfl,_,rfl,oK (by lia) ⟨_,rfl,_,_,rfl,rfl,_,rfl,fz f2 ?_⟩⟩
   refine ⟨_,rfl,rfl,_,rfl,?_⟩
   rcases f3 with rfl|⟨rfl,rfl⟩
   . exact oK rfl (k _ s1)
   . refine k9 (λ _=>k _ s1) (λ _=>⟨_,rfl,_,rfl,_,rfl,iW ⟨_,rfl,rfl,blT rfl (k _ s1)⟩⟩)
theorem xf (T:Txt K mg Ad):Def P w K mg base "fits_room" 5 ["hold","state","room"] (vT K Ad.aO):=by
 refine T.yp.cD fh λ f bq A outer s H vs Q E hr h=>?_
 obtain ⟨a,fp,m,p,st,i,rfl,hh,hs,ok,hi,k⟩:=h
 refine ⟨_,(ac (js (pv 1) (fN (K:=K) (n:=5) rfl rfl (bh (aG (i:=3) fh.nd rfl (lc rfl)) (bh (aG (i:=4) fh.nd rfl (lc rfl)) (bh (aG (i:=5) fh.nd rfl (lc rfl)) (bh (aG (i:=6) fh.nd rfl (lc rfl)) (bh (aG (i:=7) fh.nd rfl (lc rfl)) fT)))))))
     (ac (bx (dX (jH i5 rC ah (aB au (pv 3) (pv 2) (λ _ _=>rfl)) (ay dC (aX bI (by rfl) T.f8 dJ (aa (aR (pv 0) T.aC (e8 (K:=K) T) .nil hr.m (aa (pv 2) af)) af)) ah))) (al (aF gX)) aI)
     (al (aF (am (ue (K:=K) T) hr.m (aa (aR (pv 0) T.aC (dO (K:=K) T) .nil hr.m (aa (pv 2) af)) (aa (am (dQ (K:=K) T) hr.m (aa (pv 4) (aa (pv 2) af))) (aa (aB au (pv 5) (pv 2) (λ _ _=>rfl)) (aa (aB au (pv 6) (pv 2) (λ _ _=>rfl)) af))))))))),?_⟩
 try dsimp only [d7,aK]
 first|(refine dE ?_;intro _ _ _ _)|skip
 obtain ⟨pb,pw,pf,e0,eb,ew,ef⟩:=id hs
 obtain ⟨⟨dx,_,_,_,_,_,_,_,_,_,ha,_⟩,q1,q2,q3,q4⟩:=id hh
 have qj:=aq hi
 have EZ:m.rows.getD i []=m.rows[i]:=by rw [OQ,qj];rfl
 have hb:=ok.band i hi
 rw [EZ] at hb
 have l7:=q4.len m.rows[i] (ab8 hi)
 have hz:=jY (m:=m) (i:=i) (by lia)
 refine ⟨_,rfl,p,_,rfl,e0,rfl,_,_,rfl,_,_,rfl,_,_,rfl,_,_,rfl,_,_,rfl,rfl,?_⟩
 refine ⟨_,rfl,_,rfl,_,_,_,_,rfl,rfl,.inr eb,sS (by rw [ok.lb];exact hi),_,_,rfl,rfl,_,rfl,oK (by lia) ?_⟩
 refine ⟨_,rfl,a,dx,_,rfl,ha,rfl,_,rfl,a,fp,m,i,_,rfl,hh,qj,λ pm xs d5 PR=>⟨pm,xs,rfl,.inl (aT.of ag),λ y ey=>⟨_,_,rfl,rfl,λ z ez=>⟨_,_,rfl,rfl,_,rfl,fz ?_ ?_⟩⟩⟩⟩
 . have:=PR.length
   rw [AM] at this
   lia
 have s1:=ak (o:=.lst xs) d5
 refine ⟨_,rfl,a,dx,_,rfl,s1 _ _ ha,rfl,_,rfl,a,fp,m,i,_,rfl,hh.same s1,hz,λ v dv=>?_⟩
 refine ⟨_,rfl,_,rfl,st.bX,i,rfl,?_⟩
 refine ⟨_,rfl,_,rfl,_,_,_,_,rfl,rfl,.inr (s1.tup ew),sS (by rw [ok.lw];exact hi),?_⟩
 refine ⟨_,rfl,_,rfl,_,_,_,_,rfl,rfl,.inr (s1.tup ef),sS (by rw [ok.lf];exact hi),?_⟩
 exact ⟨v,m.xr i,_,_,_,rfl,dv,ok.jM i hi,λ H' s'=>k H' (s1.trans s')⟩
theorem zX (T:Txt K mg Ad):Def P w K mg base "is_state" 6 ["hold","state"] (zJ K Ad.aO):=by
 refine T.AQ.cD ff λ f bq A outer s H vs Q E hr h=>?_
 obtain ⟨a,fp,m,p,st,rfl,hh,hs,ok,k⟩:=h
 refine ⟨_,(ac (js (pv 1) (fN (K:=K) (n:=5) rfl rfl (bh (aG (i:=2) ff.nd rfl (lc rfl)) (bh (aG (i:=3) ff.nd rfl (lc rfl)) (bh (aG (i:=4) ff.nd rfl (lc rfl)) (bh (aG (i:=5) ff.nd rfl (lc rfl)) (bh (aG (i:=6) ff.nd rfl (lc rfl)) fT)))))))
     (ac (aE (i:=7) ff.nd rfl (lc rfl) (cZ (pv 0) T.aC (bY (K:=K) T) .nil hr.m))
     (ac (bx (PW.pt (tJ (aP lq (aX bI (by rfl) T.f8 dJ (aa (pv 2) af)) (pv 7) (aV _)) (tJ (aP lq (aX bI (by rfl) T.f8 dJ (aa (pv 4) af)) (pv 7) (aV _)) (px (aP lq (aX bI (by rfl) T.f8 dJ (aa (pv 5) af)) (pv 7) (aV _)))))) (al (aF gX)) aI)
     (ac (bx (PW.pt (tJ (aP lq (ay vy (pv 3) (pv 7)) ah (aV _)) (px (aP xC (am (pU (K:=K) T) hr.m (aa (pv 3) af)) (aU (pv 0) rfl) (aV _))))) (al (aF gX)) aI)
     (ac (bx (dX (jH i5 i5 ah (pv 6) (aU (pv 0) rfl))) (al (aF gX)) aI)
     (al (aF (aX (uL rfl) (by rfl) T.LC Ff (aa (jE ["room"] ["hold","state"] [0,1] (.cons ⟨rfl,rfl,.inl rfl⟩ (.cons ⟨rfl,rfl,.inl rfl⟩ .nil)) rfl (bM rfl T.cI (aa (pv 7) af)) (λ _ _ _ _ _=>(aG (i:=0) (show (["room","hold","state"]:List Str).Nodup by decide +kernel) rfl (lc rfl))) (λ _ _ _ _ _=>eE) (λ _ _ _ _ _=>(am (xf (K:=K) T) hr.m (aa (pv 1) (aa (pv 2) (aa (pv 0) af))))) rfl (by decide +kernel) (by decide +kernel) (by decide +kernel)) af))))))))),?_⟩
 try dsimp only [d7,aK]
 first|(refine n8 ?_;intro _ _ _ _ _ _ _)|skip
 obtain ⟨pb,pw,pf,e0,eb,ew,ef⟩:=id hs
 obtain ⟨⟨dx,pm,IP,K7,Iw,vm,vs,vt,az,_,ha,_⟩,q1,q2,q3,q4⟩:=id hh
 have agp:st.bX<2 ^ 61:=aec ok.bX (ajz (by decide) (by lia))
 refine ⟨_,rfl,p,_,rfl,e0,rfl,_,_,rfl,_,_,rfl,_,_,rfl,_,_,rfl,_,_,rfl,rfl,?_⟩
 refine ⟨_,rfl,a,dx,_,rfl,ha,rfl,a,fp,m,rfl,hh,?_⟩
 refine ⟨_,rfl,pb,_,rfl,.inr eb,λ y ey=>⟨_,rfl,rfl,_,rfl,fz (by rw [ey,AM,ok.lb];rfl) ?_⟩⟩
 refine ⟨_,rfl,pw,_,rfl,.inr ew,λ y ey=>⟨_,rfl,rfl,_,rfl,fz (by rw [ey,AM,ok.lw];rfl) ?_⟩⟩
 refine ⟨_,rfl,pf,_,rfl,.inr ef,λ y ey=>⟨_,rfl,rfl,_,rfl,fz (by rw [ey,AM,ok.lf];rfl) ?_⟩⟩
 refine ⟨_,rfl,_,rfl,_,_,rfl,rfl,ant _,λ s es=>⟨rfl,_,rfl,fz ?_ ?_⟩⟩
 . rw [es,akM]
   have:((st.bX:Nat):Int) / 2 ^ m.rows.length=0:=Int.ediv_eq_zero_of_lt (ant _) (by exact_mod_cast ok.bX)
   rw [this]
 refine ⟨_,rfl,st.bX,rfl,agp,λ H1 s1=>⟨_,rfl,a,_,dx,_,_,rfl,s1 _ _ ha,T.aC,T.ix,rh ..,_,_,rfl,rfl,_,rfl,mZ (by have:=ok.most;lia) ?_⟩⟩
 refine ⟨_,rfl,_,_,rfl,rfl,_,rfl,oK (by lia) ⟨_,rfl,a,_,dx,_,_,rfl,s1 _ _ ha,T.aC,T.ja,vL ..,_,_,rfl,rfl,_,rfl,fz ok.heap ?_⟩⟩
 refine ⟨_,rfl,_,rfl,by lia,by lia,λ D hD=>?_⟩
 refine fe (lo:=0) (n:=m.rows.length) (λ i acc U H'=>A4 (aA H1 H') (H' D=some (.lst acc)) (acc=(List.replicate i true).map V.bl) (∃ v,U=[v,some (.ref a),some (.ref p)])) ⟨ak hD,ag,rfl,none,rfl⟩ ?_ ?_
 . rintro i acc U H' hi ⟨s2,jW,rfl,v,rfl⟩
   refine ⟨_,rfl,_,rfl,_,rfl,a,fp,m,p,st,i,(by rw [ad8];rfl),hh.same (s1.trans s2),hs.same (s1.trans s2),ok,hi,λ H3 s3=>⟨s3 _ _ jW,aN (by rw [AM,ans];lia),(s2.trans s3).put hD,ag,?_,_,rfl⟩⟩
   rw [List.replicate_succ',YT];rfl
 .
  rintro acc U H' ⟨s2,jW,rfl,v,rfl⟩
  refine ⟨D,_,rfl,aT.of jW,?_⟩
  have:(List.replicate m.rows.length true).all id=true:=by
    rw [anK]
    intro x hx
    exact (List.mem_replicate.mp hx).2
  rw [this]
  exact k H' (s1.trans s2)
theorem dP (T:Txt K mg Ad):Def P w K mg base "look_at_state" 7 ["hold","state"] (tU K Ad.aO):=by
 refine T.ql.cD oN λ f bq A outer s H vs Q E hr h=>?_
 obtain ⟨a,fp,m,p,st,rfl,hh,hs,ok,k⟩:=h
 refine ⟨_,(al (bx (dX (ce (am (zX (K:=K) T) hr.m (aa (pv 0) (aa (pv 1) af))))) (al cu) aI)),?_⟩
 try dsimp only [d7,aK]
 exact ⟨_,rfl,_,rfl,a,fp,m,p,st,rfl,hh,hs,ok,λ H' s'=>⟨_,rfl,gz (k H' s')⟩⟩
theorem mh (T:Txt K mg Ad):Def P w K mg base "with_stove" 5 ["hold"] (uj K Ad.aO):=by
 refine T.wU.cD tX λ f bq A outer s H vs Q E hr h=>?_
 obtain ⟨a,fp,m,rfl,hh,k⟩:=h
 refine ⟨_,(al (aF (am (mz (K:=K) T) hr.m (aa (jE ["room"] ["hold"] [0] (.cons ⟨rfl,rfl,.inl rfl⟩ .nil) rfl (bM rfl T.cI (aa (cZ (pv 0) T.aC (bY (K:=K) T) .nil hr.m) af)) (λ _ _ _ _ _=>(aG (i:=0) (show (["room","hold"]:List Str).Nodup by decide +kernel) rfl (lc rfl))) (λ _ _ _ _ _=>(lV (aP qG (aR (pv 1) T.aC (dO (K:=K) T) .nil hr.m (aa (pv 0) af)) gu (aV _)))) (λ _ _ _ _ _=>(pv 0)) rfl (by decide +kernel) (by decide +kernel) (by decide +kernel)) af)))),?_⟩
 try dsimp only [d7,aK]
 obtain ⟨⟨dx,pm,IP,K7,Iw,vm,vs,vt,az,_,ha,_⟩,q1,q2,q3,q4⟩:=id hh
 refine ⟨_,rfl,a,dx,_,rfl,ha,rfl,a,fp,m,rfl,hh,_,rfl,by lia,by lia,λ D hD=>?_⟩
 refine fe (lo:=0) (n:=m.rows.length) (λ i acc U H'=>A4 (aA H H') (H' D=some (.lst acc)) (acc=((List.range i).filter m.has).map ap) (∃ v,U=[v,some (.ref a)])) ⟨ak hD,ag,rfl,none,rfl⟩ ?_ ?_
 .
  rintro i acc U H' hi ⟨s1,kX,rfl,v,rfl⟩
  have hz:=jY (m:=m) (i:=i) (by lia)
  have er:((List.range (i+1)).filter m.has).map ap=((List.range i).filter m.has).map ap++(if m.has i=true then [ap i] else []):=by
    rw [agN,amL,YT]
    by_cases q:m.has i=true<;>simp [q]
  have la:=ajp m.has (List.range i)
  rw [adw] at la
  refine ⟨_,rfl,a,dx,_,rfl,s1 _ _ ha,rfl,_,rfl,a,fp,m,i,_,(by rw [ad8];rfl),hh.same s1,hz,λ v dv=>⟨rfl,_,rfl,?_⟩⟩
  cases e:m.xr i with
  | none =>
    rw [e] at dv
    have dv:v = .b9:=dv
    have hn:m.has i=false:=by unfold ao.has;rw [e];rfl
    refine fz dv ⟨s1,kX,?_,_,rfl⟩
    rw [er,hn];simp
  | some z =>
    rw [e] at dv
    obtain ⟨pz,_,rfl,_⟩:=dv.jM
    have hn:m.has i=true:=by unfold ao.has;rw [e];rfl
    refine Gv nofun ⟨_,rfl,kX,aN (by rw [AM];lia),s1.put hD,ag,?_,_,rfl⟩
    rw [er,hn,ad8];rfl
 . rintro acc U H' ⟨s1,kX,rfl,v,rfl⟩
   exact ⟨D,(List.range m.rows.length).filter m.has,rfl,aT.of kX,λ r hr=>by have:=List.mem_range.mp (List.mem_filter.mp hr).1;lia,k H' s1⟩
theorem sT (T:Txt K mg Ad):Def P w K mg base "wood_of" 6 ["hold","bits"] (BJ K Ad.aO):=by
 refine T.D6.cD AT λ f bq A outer s H vs Q E hr h=>?_
 obtain ⟨a,fp,m,b,rfl,hh,k⟩:=h
 refine ⟨_,(al (aF (aX (Dg rfl) (by rfl) T.Uh MT (aa (jE ["room"] ["hold"] [0] (.cons ⟨rfl,rfl,.inl rfl⟩ .nil) rfl (cV (am (kj (K:=K) T) hr.m (aa (ay gM (pv 1) (am (mh (K:=K) T) hr.m (aa (pv 0) af))) af))) (λ _ _ _ _ _=>(aG (i:=0) (show (["room","hold"]:List Str).Nodup by decide +kernel) rfl (lc rfl))) (λ _ _ _ _ _=>eE) (λ _ _ _ _ _=>(aB (gO (K:=K) rfl) (aR (pv 1) T.aC (dO (K:=K) T) .nil hr.m (aa (pv 0) af)) ah (λ _ _=>rfl))) rfl (by decide +kernel) (by decide +kernel) (by decide +kernel)) af)))),?_⟩
 try dsimp only [d7,aK]
 obtain ⟨⟨dx,pm,IP,K7,Iw,vm,vs,vt,az,_,ha,_⟩,q1,q2,q3,q4⟩:=id hh
 refine ⟨_,rfl,_,rfl,a,fp,m,rfl,hh,λ H1 s1=>⟨_,_,rfl,rfl,λ y ey=>⟨b &&& m.ws,(by rw [ey,iV];rfl),?_,λ pl Hm jG sm km=>⟨pl,rfl,⟨_,aT.of km⟩,λ D hD=>?_⟩⟩⟩⟩
 . exact agc aoo (an6 (yC q3) (by decide))
 have S1:=s1.trans sm
 have lr:=vf (b &&& m.ws)
 have nD:pl≠D:=av km hD
 refine gL (K:=K) (a:=pl) (xs:=(Bit.rooms (b &&& m.ws)).map ap) (λ j acc U H'=>A4 (aA Hm H') (H' D=some (.lst acc)) (acc=(((Bit.rooms (b &&& m.ws)).take j).map m.wd).map V.int) (∃ v,U=[v,some (.ref a)]))
   ⟨ak hD,ag,rfl,none,rfl⟩ (λ j acc U H' _ e=>aT.of (e.1 _ _ km)) ?_ ?_
 .
  rintro j x acc U H' hx ⟨s2,jW,rfl,v,rfl⟩
  obtain ⟨r,er,rfl⟩:=dF hx
  have hm:=(Bit.fg.mp (ad5 er)).2
  rw [aiD,ao.ws,Ord.iw,aeX,aeX,ahP] at hm
  obtain ⟨_,Ny,Lu⟩:=hm
  obtain ⟨z,ez⟩:=Option.isSome_iff_exists.mp Lu
  have hz:=jY (m:=m) (i:=r) (by lia)
  have hj:j<(Bit.rooms (b &&& m.ws)).length:=(List.getElem?_eq_some_iff.mp er).1
  refine ⟨_,rfl,a,dx,_,rfl,(S1.trans s2) _ _ ha,rfl,_,rfl,a,fp,m,r,_,rfl,hh.same (S1.trans s2),hz,λ u du=>?_⟩
  rw [ez] at du
  obtain ⟨pz,v1,rfl,zS,_⟩:=du.jM
  refine ⟨pz,_,_,_,rfl,rfl,.inr zS,rfl,jW,aN (by rw [AM,AM,ad4];lia),s2.put hD,ag,?_,_,rfl⟩
  rw [cY er,YT,YT]
  have:m.wd r=z.2.1:=by unfold ao.wd;rw [ez];rfl
  show _=_++[V.int (m.wd r)]
  rw [this]
 .
  rintro acc U H' ⟨s2,jW,rfl,v,rfl⟩
  rw [AM,ahU] at jW
  refine ⟨D,_,rfl,aT.of jW,λ r er=>?_⟩
  rw [er]
  exact k H' (S1.trans s2)
theorem wF (T:Txt K mg Ad):Def P w K mg base "must_stay" 3 ["state"] (wW K):=by
 refine T.xO.cD xp λ f bq A outer s H vs Q E hr h=>?_
 obtain ⟨p,st,rfl,hs,l4,k⟩:=h
 refine ⟨_,(al (aF (am (mz (K:=K) T) hr.m (aa (jE ["room","wait"] [] [] .nil rfl (Of rfl T.jl (aa (aB au (pv 0) ah (λ _ _=>rfl)) af)) (λ _ _ _ _ _=>(fN (K:=K) (n:=2) rfl rfl (bh (aG (i:=0) (show (["room","wait"]:List Str).Nodup by decide +kernel) rfl (lc rfl)) (bh (aG (i:=1) (show (["room","wait"]:List Str).Nodup by decide +kernel) rfl (lc rfl)) fT)))) (λ _ _ _ _ _=>(lV (aP xC (pv 1) ah (aV _)))) (λ _ _ _ _ _=>(pv 0)) rfl (by decide +kernel) (by decide +kernel) (by decide +kernel)) af)))),?_⟩
 try dsimp only [d7,aK]
 obtain ⟨pb,pw,pf,e0,eb,ew,ef⟩:=id hs
 refine ⟨_,rfl,p,_,_,_,rfl,rfl,.inr e0,rfl,pw,rfl,⟨_,ew⟩,λ D hD=>?_⟩
 refine lY (sq:=bP K) (a:=pw) (xs:=st.jJ.map ap) (λ i acc U H'=>A4 (aA H H') (H' D=some (.lst acc)) (acc=((List.range i).filter st.wt).map ap) (E2 λ v0 v1=>U=[v0,v1]))
   ⟨ak hD,ag,rfl,none,none,rfl⟩ (λ i acc U H' _ e=>e.1.tup ew) ?_ ?_
 .
  rintro i x pp acc U H' hx xi ⟨s1,kX,rfl,v0,v1,rfl⟩
  obtain ⟨wv,ewv,rfl⟩:=dF hx
  have hi:i<st.jJ.length:=(List.getElem?_eq_some_iff.mp ewv).1
  have eg:gN st.jJ i=wv:=by unfold gN;rw [ewv];rfl
  have s2:aA H' (upd H' pp (.tup [ap i,ap wv])):=ak xi
  have nD:D≠pp:=av kX xi
  have jW:=s2 _ _ kX
  have la:=ajp st.wt (List.range i)
  rw [adw] at la
  refine ⟨pp,_,rfl,bP.of ag,rfl,_,_,rfl,_,_,rfl,rfl,?_⟩
  refine ⟨_,rfl,_,_,rfl,rfl,_,rfl,k9 (λ h=>?_) (λ h=>?_)⟩
  . have hw:st.wt i=true:=by unfold d6.wt;rw [eg];exact aga (by lia)
    refine ⟨_,rfl,jW,aN (by rw [AM];lia),(s1.trans s2).put hD,ag,?_,_,_,rfl⟩
    rw [agN,amL,YT]
    simp [hw]
  . have hw:st.wt i=false:=by unfold d6.wt;rw [eg];exact ad7 (by lia)
    refine ⟨s1.trans s2,jW,?_,_,_,rfl⟩
    rw [agN,amL,YT]
    simp [hw]
 . rintro acc U H' ⟨s1,kX,rfl,v0,v1,rfl⟩
   rw [AM] at kX
   exact ⟨D,(List.range st.jJ.length).filter st.wt,rfl,aT.of kX,λ r hr=>by have:=List.mem_range.mp (List.mem_filter.mp hr).1;lia,k H' s1⟩
theorem yf (T:Txt K mg Ad):Def P w K mg base "can_burn" 7 ["hold","order","heap"] (zW K Ad.aO):=by
 refine T.Ax.cD zk λ f bq A outer s H vs Q E hr h=>?_
 obtain ⟨a,fp,m,o,hp,rfl,hh,ho,k⟩:=h
 refine ⟨_,(al (aF (pi (gh i5 (am (pU (K:=K) T) hr.m (aa (pv 1) af)) (aU (pv 0) rfl) (aV _)) (pI (gh i5 (am (sT (K:=K) T) hr.m (aa (pv 0) (aa (pv 1) af))) (pv 2) (aV _)))))),?_⟩
 try dsimp only [d7,aK]
 obtain ⟨⟨dx,pm,IP,K7,Iw,vm,vs,vt,az,_,ha,_⟩,q1,q2,q3,q4⟩:=id hh
 refine ⟨_,rfl,o,rfl,ho,λ H1 s1=>⟨_,rfl,a,_,dx,_,_,rfl,s1 _ _ ha,T.aC,T.ix,rh ..,_,_,rfl,rfl,_,rfl,k9 (λ h=>?_) (λ h=>?_)⟩⟩
 .
  refine ⟨_,rfl,_,rfl,a,fp,m,o,rfl,hh.same s1,λ H2 s2=>⟨_,rfl,_,_,rfl,rfl,?_⟩⟩
  have e:m.Fn o hp=decide (m.nK o<=hp):=by unfold ao.Fn;rw [aga h,Bool.true_and]
  have:=k H2 (s1.trans s2)
  rw [e] at this
  exact this
 .
  have e:m.Fn o hp=false:=by unfold ao.Fn;rw [ad7 h,apc]
  have:=k H1 s1
  rw [e] at this
  exact this
theorem nW (T:Txt K mg Ad):Def P w K mg base "orders_of" 8 ["hold","state"] (vS K Ad.aO):=by
 refine T.za.cD ky λ f bq A outer s H vs Q E hr h=>?_
 obtain ⟨a,fp,m,p,st,rfl,hh,hs,ok,k⟩:=h
 refine ⟨_,(ac (bg (am (dP (K:=K) T) hr.m (aa (pv 0) (aa (pv 1) af))))
     (ac (aE (i:=2) ky.nd rfl (lc rfl) (am (wF (K:=K) T) hr.m (aa (pv 1) af)))
     (ac (aE (i:=3) ky.nd rfl (lc rfl) (ay gM (aB au (pv 1) ah (λ _ _=>rfl)) (pv 2)))
     (al (aF (jE ["order"] ["going_on","hold","held","state"] [3,0,2,1] (.cons ⟨rfl,rfl,.inl rfl⟩ (.cons ⟨rfl,rfl,.inl rfl⟩ (.cons ⟨rfl,rfl,.inl rfl⟩ (.cons ⟨rfl,rfl,.inl rfl⟩ .nil)))) rfl (cV (am (ss (K:=K) T) hr.m (aa (am (mh (K:=K) T) hr.m (aa (pv 0) af)) af))) (λ _ _ _ _ _=>(aG (i:=0) (show (["order","going_on","hold","held","state"]:List Str).Nodup by decide +kernel) rfl (lc rfl))) (λ _ _ _ _ _=>(lV (PW.pt (Be (aP jn (ay gM (pv 0) (pv 3)) (pv 1) (aV _)) (xa (ce (am (yf (K:=K) T) hr.m (aa (pv 2) (aa (pv 0) (aa (aB (gO (K:=K) rfl) (pv 4) ah (λ _ _=>rfl)) af)))))))))) (λ _ _ _ _ _=>(pv 0)) rfl (by decide +kernel) (by decide +kernel) (by decide +kernel))))))),?_⟩
 try dsimp only [d7,aK]
 first|(refine c7 ?_;intro _ _ _ _ _)|skip
 obtain ⟨pb,pw,pf,e0,eb,ew,ef⟩:=id hs
 obtain ⟨⟨dx,pm,IP,K7,Iw,vm,vs,vt,az,_,ha,_⟩,q1,q2,q3,q4⟩:=id hh
 refine ⟨_,rfl,_,rfl,a,fp,m,p,st,rfl,hh,hs,ok,λ H1 s1=>?_⟩
 refine ⟨_,rfl,p,st,rfl,hs.same s1,by rw [ok.lw];exact q3,λ H2 s2=>?_⟩
 have S2:=s1.trans s2
 refine ⟨_,rfl,p,_,_,_,rfl,rfl,.inr (S2.tup e0),rfl,_,rfl,_,_,rfl,rfl,λ go ego=>?_⟩
 obtain rfl:go=((st.bX &&& st.held:Nat):Int):=by rw [ego,iV]
 have NP:=yC q3
 have O3:(Bit.rooms m.ws).length<=8:=by
   rw [ao.ws,Ord.DM _ (by lia)]
   have:=ajp m.has (List.range m.rows.length)
   rw [adw] at this
   lia
 refine ⟨_,rfl,a,fp,m,rfl,hh.same S2,λ H3 s3=>⟨m.ws,rfl,an6 NP (by decide),O3,λ pl Hm jG sm km=>⟨pl,rfl,⟨_,aT.of km⟩,λ D hD=>?_⟩⟩⟩
 have S3:=(S2.trans s3).trans sm
 have lp:(Bit.parts (Bit.rooms m.ws)).length<=16:=by
   rw [Ord.wD _ NP]
   exact agB (ajp _ _) (by rw [adw];decide)
 have Vr:∀ o∈Bit.parts (Bit.rooms m.ws),o<16:=λ o h=>by
   rw [Ord.wD _ NP] at h
   exact List.mem_range.mp (List.mem_filter.mp h).1
 generalize eR:Bit.parts (Bit.rooms m.ws)=ps at lp Vr km
 refine gL (K:=K) (a:=pl) (xs:=ps.map ap) (λ j acc U H'=>A4 (aA Hm H') (H' D=some (.lst acc)) (acc=((ps.take j).filter (st.EE m)).map ap) (∃ v,U=[v,some (ap (st.bX &&& st.held)),some (.ref a),some (ap st.held),some (.ref p)]))
   ⟨ak hD,ag,rfl,none,rfl⟩ (λ j acc U H' _ e=>aT.of (e.1 _ _ km)) ?_ ?_
 .
  rintro j x acc U H' hx ⟨s4,Cr,rfl,v,rfl⟩
  obtain ⟨o,eo,rfl⟩:=dF hx
  have ho:=Vr o (ad5 eo)
  have la:=ajp (st.EE m) (ps.take j)
  rw [ad4] at la
  refine ⟨_,rfl,_,rfl,_,_,rfl,rfl,λ y ey=>⟨_,rfl,rfl,_,rfl,?_⟩⟩
  obtain rfl:y=((o &&& st.held:Nat):Int):=by rw [ey,iV]
  have er:((ps.take (j+1)).filter (st.EE m)).map ap=((ps.take j).filter (st.EE m)).map ap++(if st.EE m o=true then [ap o] else []):=by
    rw [cY eo,amL,YT]
    cases q:st.EE m o<;>simp [q]
  refine k9 (λ h=>?_) (λ h=>?_)
  .
   have h:o &&& st.held=st.bX &&& st.held:=by have:=fu.mp h;lia
   have ep:st.EE m o=m.Fn o st.heap:=by unfold d6.EE;rw [aga h,Bool.true_and]
   refine ⟨_,rfl,_,rfl,_,rfl,p,_,_,_,rfl,rfl,.inr ((S3.trans s4).tup e0),rfl,a,fp,m,o,_,rfl,hh.same (S3.trans s4),an6 ho (by decide),λ H5 s5=>⟨_,rfl,?_⟩⟩
   cases q:m.Fn o st.heap with
   | true =>
     refine iW ⟨_,rfl,s5 _ _ Cr,aN (by rw [AM];lia),(s4.trans s5).put hD,ag,?_,_,rfl⟩
     rw [er,ep,q];rfl
   | false =>
     refine gz ⟨s4.trans s5,s5 _ _ Cr,?_,_,rfl⟩
     rw [er,ep,q];simp
  . have h:¬ (o &&& st.held=st.bX &&& st.held):=λ e=>h (by rw [e];rfl)
    have ep:st.EE m o=false:=by unfold d6.EE;rw [ad7 h,apc]
    refine gz ⟨s4,Cr,?_,_,rfl⟩
    rw [er,ep];simp
 .
  rintro acc U H' ⟨s4,Cr,rfl,v,rfl⟩
  rw [AM,ahU] at Cr
  refine k D H' (S3.free hD) (S3.trans s4) ?_
  rw [Cr,← eR]
  rfl
inductive O6  (vs:List V) (H:Hp) (Q:VK) (_E:XK):Prop
 | mk (n r:Nat) (_:vs=[ap n,ap r]) (_:Q (.bl (n.testBit r)) H)
theorem Di (T:Txt K mg Ad):Def P w K mg base "_law_in" 1 ["_law_bits","_law_room"] O6:=by
 refine T.GK.cD Er λ f bq A outer s H vs Q E hr h=>?_
 obtain ⟨n,r,rfl,k⟩:=h
 refine ⟨_,(al (aF (gh jn (ay iu (ay vy (pv 0) (pv 1)) ah) ah (aV _)))),?_⟩
 try dsimp only [d7,aK]
 refine ⟨_,rfl,_,rfl,_,_,rfl,rfl,ant _,λ s es=>⟨_,_,rfl,rfl,by decide,λ m _ _ em=>⟨rfl,?_⟩⟩⟩
 rw [Cp n r es em]
 exact k
theorem qy (T:Txt K mg Ad):Def P w K mg base "_law_state_by" 2 ["_law_told","_law_cell","_law_k"] (zM K):=by
 refine T.tE.cD aY λ f bq A outer s H vs Q E hr h=>?_
 obtain ⟨p,tm,n,c,kk,rfl,hT,ok,n4,hk,k⟩:=h
 refine ⟨_,(ac (aE (i:=3) aY.nd rfl (lc rfl) (cL af))
     (ac (aE (i:=4) aY.nd rfl (lc rfl) (cL af))
     (ac (aE (i:=5) aY.nd rfl (lc rfl) (cL af))
     (ac (aE (i:=6) aY.nd rfl (lc rfl) ah)
     (ac (aE (i:=7) aY.nd rfl (lc rfl) ah)
     (ac (cW afP rfl (bM rfl T.cI (aa (aX bI (by rfl) T.f8 dJ (aa (bB (ck hr) (pv 0) bE (λ _ _=>rfl)) af)) af)) (aG (i:=8) aY.nd rfl (lc rfl)) (ac (aE (i:=9) aY.nd rfl (lc rfl) (aB au (bB (ck hr) (pv 0) bE (λ _ _=>rfl)) (pv 8) (λ _ _=>rfl)))
     (ac (aE (i:=10) aY.nd rfl (lc rfl) ah)
     (ac (aE (i:=11) aY.nd rfl (lc rfl) ah)
     (ac (lD (bx (aP qG (pv 9) gu (aV _)) (ac (aE (i:=10) aY.nd rfl (lc rfl) (am (aM (K:=K) T) hr.m (aa (pv 1) (aa (ay aJ (ay aJ (pv 2) ah) (pv 8)) (aa (ay aJ (aB au (pv 9) ah (λ _ _=>rfl)) ah) af)))))
     (al (bx (PW.pt (Be (aP jn (am (aM (K:=K) T) hr.m (aa (pv 1) (aa (ay aJ (ay aJ (pv 2) ah) (pv 8)) (aa ah af)))) ah (aV _)) (xa (aP rC (pv 7) (aB au (bB (ck hr) (pv 0) bE (λ _ _=>rfl)) ah (λ _ _=>rfl)) (aV _))))) (ac (aE (i:=6) aY.nd rfl (lc rfl) (ay aJ (pv 6) (aB au (cL (aa ah (aa ah (aa ah (aa ah af))))) (pv 8) (λ _ _=>rfl))))
     (al (aE (i:=7) aY.nd rfl (lc rfl) (ay aJ (pv 7) ah)))) (al (bx (aP jn (pv 10) ah (aV _)) (al (aE (i:=11) aY.nd rfl (lc rfl) (am (aM (K:=K) T) hr.m (aa (pv 1) (aa (ay aJ (ay aJ (pv 2) ah) (pv 8)) (aa (ay aJ (aB au (pv 9) ah (λ _ _=>rfl)) ah) af)))))) aI))))) aI))
     (ac (bg (je afF ago agd cN (pv 3) (aa (am (aM (K:=K) T) hr.m (aa (pv 1) (aa (ay aJ (pv 2) (pv 8)) (aa (ay dC (aX bI (by rfl) T.f8 dJ (aa (aB au (bB (ck hr) (pv 0) bE (λ _ _=>rfl)) (pv 8) (λ _ _=>rfl)) af)) ah) af)))) af)))
     (ac (bg (je afF ago agd cN (pv 4) (aa (pv 10) af)))
     (al (bg (je afF ago agd cN (pv 5) (aa (pv 11) af)))))))))))
     (al (aF (cm (aa (cX dg (by rfl) T.kn iM (aa (pv 3) af)) (aa (pv 6) (aa (cX dg (by rfl) T.kn iM (aa (pv 4) af)) (aa (cX dg (by rfl) T.kn iM (aa (pv 5) af)) (aa (am (aM (K:=K) T) hr.m (aa (pv 1) (aa (ay aJ (pv 2) ah) (aa (ay aJ (aB au (bB (ck hr) (pv 0) bE (λ _ _=>rfl)) ah (λ _ _=>rfl)) ah) af)))) af)))))))))))))),?_⟩
 try dsimp only [d7,aK]
 first|(refine Hz ?_;intro _ _ _ _ _ _ _ _)|skip
 obtain ⟨pm,ps,pt,pf,fE,pb,vm,vs,vt,az,C0⟩:=id hT
 have EX:vm.length=n:=by rw [C0.dm.length,AM,ok.lm]
 have YF:bP K H pb [.int tm.bounds.1,.int tm.bounds.2.1,.int tm.bounds.2.2]:=cQ.tup C0.bo
 refine ⟨JZ,λ lb hlb=>⟨JZ,λ lw hlw=>⟨JZ,λ lf YJ=>?_⟩⟩⟩
 have sb:=ak (o:=.lst []) hlb
 have sw:=ak (o:=.lst []) hlw
 have sf:=ak (o:=.lst []) YJ
 have S0:=sb.trans (sw.trans sf)
 have C1:=C0.same S0
 have nbw:lb≠lw:=av ag hlw
 have nbf:lb≠lf:=av (sw _ _ ag) YJ
 have nwf:lw≠lf:=av ag YJ
 have ew0:H lw=none:=sb.free hlw
 have ef0:H lf=none:=sb.free (sw.free YJ)
 refine ⟨_,rfl,p,_,rfl,bZ C1.hp,pm,vm,rfl,.inl (aT.of C1.d5),λ r er=>?_⟩
 obtain rfl:r=(n:Int):=by rw [er,EX]
 refine ⟨_,rfl,by lia,by lia,?_⟩
 refine f6 (lo:=0) (n:=n) (λ i U H'=>aA H H'/\E3 λ (bs ws fs:List Nat)=>∃ (b:Nat),A5 (H' lb=some (.lst (bs.map ap))) (H' lw=some (.lst (ws.map ap))) (H' lf=some (.lst (fs.map ap))) (Part tm n i bs ws fs b) (E4 λ (v8 v9 v10 v11:Option V)=>U=[some (.ref p),some (.int c),some (ap kk),some (.ref lb),some (.ref lw),some (.ref lf),some (ap b),some (ap (Bit.rooms b).length),v8,v9,v10,v11]))
   ⟨S0,[],[],[],0,sf _ _ (sw _ _ ag),sf _ _ ag,ag,Part.zero ok,none,none,none,none,rfl⟩ ?_ ?_
 .
  rintro _ _ _ i U H1 hi ⟨S1,bs,ws,fs,b,eb,ew,ef,IJ,v8,v9,v10,v11,rfl⟩
  have C1:=C0.same S1
  have qX:i<tm.aD.length:=by rw [ok.lt];exact hi
  have tP:i<tm.marks.length:=by rw [ok.lm];exact hi
  have J5:=Aq ok hi
  rw [aq qX] at J5
  obtain ⟨vq,OF,dq⟩:=C1.dt.get (i:=i) (d:=stI tm.aD[i]) (by rw [T1,aq qX];rfl)
  refine ⟨_,rfl,p,_,rfl,gZ C1.hp,_,rfl,pt,vt,_,_,rfl,rfl,.inl (aT.of C1.eQ),by rw [ad8];exact bA OF,?_⟩
  refine ⟨λ σ' H'=>A5 (aA H H') (H' lb=some (.lst (bs.map ap))) (H' lw=some (.lst (ws.map ap))) (H' lf=some (.lst (fs.map ap))) (E3 λ (lit:Bool) (w' f':Nat)=>A3 (xW ((tm.m2 n n).xr i) lit w' f') (lit=true->((Bit.rooms b).length:Int)<tm.bounds.1) (σ'=[some (.ref p),some (.int c),some (ap kk),some (.ref lb),some (.ref lw),some (.ref lf),some (ap (if lit then b+2 ^ i else b)),some (ap ((Bit.rooms b).length+if lit then 1 else 0)),some (.int (0+(i:Int))),some vq,some (ap w'),some (ap f')])),?_,?_⟩
  .
   refine ⟨_,rfl,rfl,_,rfl,?_⟩
   cases GS:tm.aD[i] with
   | none =>
     rw [GS] at dq J5
     have dq:vq = .b9:=dq
     subst dq
     exact fz rfl ⟨S1,eb,ew,ef,false,0,0,by rw [J5];exact ⟨rfl,rfl,rfl⟩,nofun,rfl⟩
   | some z =>
     rw [GS] at dq J5
     obtain ⟨pq,wq,rfl,Mc,t1,r1,rfl,e1,t2,r2,rfl,e2,t3,r3,rfl,e3,t4,r4,rfl,e4,e5⟩:=dq
     have e5:r4=[]:=e5
     have e1:t1 = .int z.1:=e1
     have e2:t2 = .int z.2.1:=e2
     have e3:t3 = .int z.2.2.1:=e3
     have e4:t4 = .int z.2.2.2:=e4
     subst e1 e2 e3 e4 e5
     have Ma:bP K H1 pq [.int z.1,.int z.2.1,.int z.2.2.1,.int z.2.2.2]:=cQ.tup Mc
     have HC:=ok.aD z (by rw [← GS];exact ab8 qX)
     have Dy:=HC.s
     have Mh:=HC.f
     refine Gv nofun ⟨_,rfl,_,rfl,_,_,rfl,rfl,λ x1 g1=>⟨_,rfl,_,_,rfl,rfl,λ x2 g2=>⟨_,rfl,pq,_,_,_,rfl,rfl,.inr Ma,rfl,_,_,rfl,rfl,λ x3 g3=>⟨_,x2,x3,rfl,by lia,by lia,by lia,λ w0 w00 w01=>?_⟩⟩⟩⟩
     obtain ⟨wn,rfl⟩:∃ wn:Nat,w0=(wn:Int):=⟨w0.toNat,by lia⟩
     refine ⟨_,rfl,_,rfl,_,_,rfl,rfl,λ x4 g4=>⟨_,rfl,_,_,rfl,rfl,λ x5 g5=>⟨_,x5,2,rfl,by lia,by lia,by decide,λ r0 r00 r01=>⟨rfl,_,rfl,?_⟩⟩⟩⟩
     have G1:(wn:Int)<=(tm.iz z).2.2.1:=by show (wn:Int)<=z.2.2.1;lia
     refine k9 (λ h1=>?_) (λ h1=>gz ?_)
     .
      refine ⟨_,rfl,_,rfl,p,_,rfl,lB C1.hp,pb,_,_,_,rfl,rfl,.inr (S1.tup YF),rfl,_,_,rfl,rfl,_,rfl,k9 (λ h2=>?_) (λ h2=>?_)⟩
      .
       refine ⟨_,rfl,OT,λ q hq=>?_⟩
       have sq:=ak (o:=.lst [V.int 1,V.int 2,V.int 4,V.int 8]) hq
       have pw2:tN [V.int 1,V.int 2,V.int 4,V.int 8] (0+(i:Int))=some (.int ((2 ^ i:Nat):Int)):=by
         have:i=0∨i=1∨i=2∨i=3:=by lia
         rcases this with rfl|rfl|rfl|rfl<;>rfl
       refine ⟨_,rfl,q,_,_,_,rfl,rfl,.inl (aT.of ag),pw2,_,_,rfl,rfl,λ y1 f1=>⟨_,rfl,_,_,rfl,rfl,λ y2 f2=>?_⟩⟩
       obtain rfl:y1=((b+2 ^ i:Nat):Int):=by rw [f1];push_cast;rfl
       obtain rfl:y2=(((Bit.rooms b).length+1:Nat):Int):=by rw [f2];push_cast;rfl
       exact ⟨S1.trans sq,sq _ _ eb,sq _ _ ew,sq _ _ ef,true,wn,0,by rw [J5];exact ⟨G1,Mh.1,.inl rfl⟩,λ _=>h2,rfl⟩
      . refine ⟨_,rfl,rfl,_,rfl,k9 (λ hw=>⟨_,rfl,_,rfl,_,_,rfl,rfl,λ x6 g6=>⟨_,rfl,_,_,rfl,rfl,λ x7 g7=>⟨_,rfl,pq,_,_,_,rfl,rfl,.inr Ma,rfl,_,_,rfl,rfl,λ x8 g8=>⟨_,x7,x8,rfl,by lia,by lia,by lia,λ fv f0 f1=>?_⟩⟩⟩⟩) (λ hw=>⟨S1,eb,ew,ef,false,wn,0,by rw [J5];exact ⟨G1,Mh.1,.inl rfl⟩,nofun,rfl⟩)⟩
        obtain ⟨fn,rfl⟩:∃ fn:Nat,fv=(fn:Int):=⟨fv.toNat,by lia⟩
        have Yx:wn=0:=by have:=fu.mp hw;lia
        exact ⟨S1,eb,ew,ef,false,wn,fn,by rw [J5];exact ⟨G1,(by show (fn:Int)<=z.2.2.2;lia),.inr ⟨rfl,Yx⟩⟩,nofun,rfl⟩
     . refine ⟨_,rfl,rfl,_,rfl,k9 (λ hw=>⟨_,rfl,_,rfl,_,_,rfl,rfl,λ x6 g6=>⟨_,rfl,_,_,rfl,rfl,λ x7 g7=>⟨_,rfl,pq,_,_,_,rfl,rfl,.inr Ma,rfl,_,_,rfl,rfl,λ x8 g8=>⟨_,x7,x8,rfl,by lia,by lia,by lia,λ fv f0 f1=>?_⟩⟩⟩⟩) (λ hw=>⟨S1,eb,ew,ef,false,wn,0,by rw [J5];exact ⟨G1,Mh.1,.inl rfl⟩,nofun,rfl⟩)⟩
       obtain ⟨fn,rfl⟩:∃ fn:Nat,fv=(fn:Int):=⟨fv.toNat,by lia⟩
       have Yx:wn=0:=by have:=fu.mp hw;lia
       exact ⟨S1,eb,ew,ef,false,wn,fn,by rw [J5];exact ⟨G1,(by show (fn:Int)<=z.2.2.2;lia),.inr ⟨rfl,Yx⟩⟩,nofun,rfl⟩
  .
   rintro σ' H2 ⟨S2,eb2,ew2,ef2,lit,w',f',fit,lim,rfl⟩
   have C2:=C0.same S2
   have zD:=ok.rows tm.marks[i] (ab8 tP)
   have l2:=zD.two
   have l7:tm.marks[i].length<=7:=by have:=zD.most;split at this<;>lia
   have b63:i<61:=by lia
   have lb':=IJ.lb
   have lw':=IJ.lw
   have lf':=IJ.lf
   obtain ⟨v,ev,pk,ws',rfl,oC,Jz⟩:=C2.dm.get (i:=i) (d:=vI tm.marks[i]) (by rw [T1,aq tP];rfl)
   obtain rfl:=f7 Jz
   have HH:aT K H2 pk (tm.marks[i].map V.int):=cQ.seq oC
   refine ⟨_,rfl,.inl ⟨rfl,_,aT.of eb2⟩,_,rfl,_,rfl,_,rfl,_,_,rfl,rfl,λ x1 g1=>?_⟩
   refine ⟨_,rfl,p,_,rfl,bZ C2.hp,_,rfl,pm,vm,_,_,rfl,rfl,.inl (aT.of C2.d5),(by rw [ad8];exact bA ev),pk,_,rfl,.inl HH,λ y ey=>⟨_,_,rfl,rfl,λ z ez=>?_⟩⟩
   rw [AM] at ey
   refine ⟨_,x1,z,rfl,by lia,by lia,by lia,λ r r0 r1=>?_⟩
   obtain ⟨x,rfl⟩:∃ x:Nat,r=(x:Int):=⟨r.toNat,by lia⟩
   refine ⟨lb,_,_,rfl,rfl,eb2,aN (by rw [AM];lia),?_⟩
   have s3:upd H2 lb (.lst (bs.map ap++[V.int (x:Int)])) lb=some (.lst ((bs++[x]).map ap)):=by rw [ag,YT];rfl
   have S3:aA H (upd H2 lb (.lst (bs.map ap++[V.int (x:Int)]))):=S2.put hlb
   have ew3:upd H2 lb (.lst (bs.map ap++[V.int (x:Int)])) lw=some (.lst (ws.map ap)):=by rw [ax nbw.symm];exact ew2
   have ef3:upd H2 lb (.lst (bs.map ap++[V.int (x:Int)])) lf=some (.lst (fs.map ap)):=by rw [ax nbf.symm];exact ef2
   generalize upd H2 lb (.lst (bs.map ap++[V.int (x:Int)]))=H3 at s3 S3 ew3 ef3 ⊢
   refine ⟨_,rfl,.inl ⟨rfl,_,aT.of ew3⟩,_,rfl,lw,_,_,rfl,rfl,ew3,aN (by rw [AM];lia),?_⟩
   have s4:upd H3 lw (.lst (ws.map ap++[ap w'])) lw=some (.lst ((ws++[w']).map ap)):=by rw [ag,YT];rfl
   have S4:aA H (upd H3 lw (.lst (ws.map ap++[ap w']))):=S3.put ew0
   have eb4:upd H3 lw (.lst (ws.map ap++[ap w'])) lb=some (.lst ((bs++[x]).map ap)):=by rw [ax nbw];exact s3
   have ef4:upd H3 lw (.lst (ws.map ap++[ap w'])) lf=some (.lst (fs.map ap)):=by rw [ax nwf.symm];exact ef3
   generalize upd H3 lw (.lst (ws.map ap++[ap w']))=H4 at s4 S4 eb4 ef4 ⊢
   refine ⟨_,rfl,.inl ⟨rfl,_,aT.of ef4⟩,_,rfl,lf,_,_,rfl,rfl,ef4,aN (by rw [AM];lia),?_⟩
   obtain ⟨nx1,nx2⟩:=IJ.next (x:=x) b63 (by rw [OQ,aq tP];show x+1<tm.marks[i].length;lia) fit lim
   refine ⟨S4.put ef0,bs++[x],ws++[w'],fs++[f'],_,?_,?_,?_,nx1,_,_,_,_,by rw [nx2]⟩
   . rw [ax nbf];exact eb4
   . rw [ax nwf];exact s4
   . rw [ag,YT];rfl
 .
  rintro U H1 ⟨S1,bs,ws,fs,b,eb,ew,ef,IJ,v8,v9,v10,v11,rfl⟩
  have lb':=IJ.lb
  have lw':=IJ.lw
  have lf':=IJ.lf
  refine ⟨_,rfl,lb,_,rfl,.inl ⟨aT.of eb,λ kb hkb=>?_⟩⟩
  have s1:=ak (o:=.tup (bs.map ap)) hkb
  refine ⟨_,rfl,_,rfl,lw,_,rfl,.inl ⟨aT.of (s1 _ _ ew),λ kw Ul=>?_⟩⟩
  have s2:=ak (o:=.tup (ws.map ap)) Ul
  refine ⟨_,rfl,lf,_,rfl,.inl ⟨aT.of ((s1.trans s2) _ _ ef),λ kf hkf=>?_⟩⟩
  have s3:=ak (o:=.tup (fs.map ap)) hkf
  have S3:=S1.trans (s1.trans (s2.trans s3))
  have C3:=C0.same S3
  refine ⟨_,rfl,_,rfl,_,_,rfl,rfl,λ x1 g1=>?_⟩
  refine ⟨_,rfl,p,_,rfl,lB C3.hp,pb,_,_,_,rfl,rfl,.inr (S3.tup YF),rfl,_,_,rfl,rfl,λ y ey=>?_⟩
  have N1:=ok.bounds.2.1
  refine ⟨_,x1,y,rfl,by lia,by lia,by lia,λ r r0 r1=>⟨(by show 5<=sizeLine;decide),λ q hq=>?_⟩⟩
  obtain ⟨hp,rfl⟩:∃ hp:Nat,r=(hp:Int):=⟨r.toNat,by lia⟩
  have s4:aA _ _:=ak (o:=.tup [.ref kb,ap b,.ref kw,.ref kf,ap hp]) hq
  exact k q ⟨bs,b,ws,fs,hp⟩ _ (S3.trans s4) ⟨kb,kw,kf,bP.of ag,bP.of (s4 _ _ (s3 _ _ (s2 _ _ ag))),bP.of (s4 _ _ (s3 _ _ ag)),bP.of (s4 _ _ ag)⟩ (IJ.ok ok (by lia))
theorem sO (T:Txt K mg Ad):Def P w K mg base "failing" 5 ["hold","state","order"] (si K Ad.aO):=by
 refine T.Ec.cD tD λ f bq A outer s H vs Q E hr h=>?_
 obtain ⟨a,fp,m,p,st,o,rfl,hh,hs,ok,ho,k⟩:=h
 refine ⟨_,(ac (aE (i:=3) tD.nd rfl (lc rfl) (ay gM (pv 2) (nE rW (aB au (pv 1) ah (λ _ _=>rfl)))))
     (al (aF (am (mz (K:=K) T) hr.m (aa (jE ["room"] ["state","hold"] [1,0] (.cons ⟨rfl,rfl,.inl rfl⟩ (.cons ⟨rfl,rfl,.inl rfl⟩ .nil)) rfl (cV (am (kj (K:=K) T) hr.m (aa (pv 3) af))) (λ _ _ _ _ _=>(aG (i:=0) (show (["room","state","hold"]:List Str).Nodup by decide +kernel) rfl (lc rfl))) (λ _ _ _ _ _=>(lV (aP rC (aB (gO (K:=K) rfl) (aB (gO (K:=K) rfl) (pv 1) ah (λ _ _=>rfl)) (pv 0) (λ _ _=>rfl)) (aB (gO (K:=K) rfl) (aR (pv 2) T.aC (dO (K:=K) T) .nil hr.m (aa (pv 0) af)) ah (λ _ _=>rfl)) (aV _)))) (λ _ _ _ _ _=>(pv 0)) rfl (by decide +kernel) (by decide +kernel) (by decide +kernel)) af))))),?_⟩
 try dsimp only [d7,aK]
 obtain ⟨pb,pw,pf,e0,eb,ew,ef⟩:=id hs
 obtain ⟨⟨dx,pm,IP,K7,Iw,vm,vs,vt,az,_,ha,_⟩,q1,q2,q3,q4⟩:=id hh
 have AK:o<16:=by rw [← ho];exact agc aoo (yC q3)
 have b16:st.bX<16:=Ord.LY q3 ok.bX
 refine ⟨_,rfl,_,rfl,p,_,_,_,rfl,rfl,.inr e0,rfl,_,rfl,_,_,rfl,rfl,λ y ey=>?_⟩
 obtain rfl:y=((Ord.off o st.bX:Nat):Int):=by rw [ey];exact iE _ _
 have YS:Ord.off o st.bX<2 ^ 4:=Ord.Mt (n:=4) AK
 have em:=NQ q3 ok ho
 have DH:∀ r∈Bit.rooms (Ord.off o st.bX),r<m.rows.length/\m.has r=true:=λ r hr=>by
   have:=(Bit.fg.mp hr).2
   rw [Ord.og AK b16,aeX] at this
   exact DK ho this.1
 generalize Ord.off o st.bX=z at YS em DH ⊢
 refine ⟨_,rfl,z,rfl,an6 YS (by decide),λ pl Hm jG sm km=>⟨pl,rfl,⟨_,aT.of km⟩,λ D hD=>?_⟩⟩
 refine gL (K:=K) (a:=pl) (xs:=(Bit.rooms z).map ap) (λ j acc U H'=>A4 (aA Hm H') (H' D=some (.lst acc)) (acc=(((Bit.rooms z).take j).filter λ r=>decide ((gN st.failed r:Int)<m.fails r)).map ap) (∃ v,U=[v,some (.ref p),some (.ref a)]))
   ⟨ak hD,ag,rfl,none,rfl⟩ (λ j acc U H' _ e=>aT.of (e.1 _ _ km)) ?_ ?_
 .
  rintro j x acc U H' hx ⟨s2,jW,rfl,v,rfl⟩
  obtain ⟨r,er,rfl⟩:=dF hx
  obtain ⟨Ny,Lu⟩:=DH r (ad5 er)
  obtain ⟨zz,ez⟩:=nN Lu
  have hz:=jY (m:=m) (i:=r) (by lia)
  have S2:=sm.trans s2
  have la:=ajp (λ r=>decide ((gN st.failed r:Int)<m.fails r)) ((Bit.rooms z).take j)
  have lr:=vf z
  rw [ad4] at la
  have EB:m.fails r=zz.2.2.2:=by unfold ao.fails;rw [ez];rfl
  refine ⟨_,rfl,p,_,_,_,rfl,rfl,.inr (S2.tup e0),rfl,_,rfl,pf,_,_,_,rfl,rfl,.inr (S2.tup ef),sS (by rw [ok.lf];exact Ny),?_⟩
  refine ⟨_,rfl,a,dx,_,rfl,S2 _ _ ha,rfl,_,rfl,a,fp,m,r,_,rfl,hh.same S2,hz,λ u du=>?_⟩
  rw [ez] at du
  obtain ⟨pz,v1,rfl,zS,_⟩:=du.jM
  have er2:(((Bit.rooms z).take (j+1)).filter λ r=>decide ((gN st.failed r:Int)<m.fails r)).map ap=(((Bit.rooms z).take j).filter λ r=>decide ((gN st.failed r:Int)<m.fails r)).map ap++(if decide ((gN st.failed r:Int)<m.fails r)=true then [ap r] else []):=by
    rw [cY er,amL,YT]
    by_cases q:(gN st.failed r:Int)<m.fails r<;>simp [q]
  refine ⟨pz,_,_,_,rfl,rfl,.inr zS,rfl,_,_,rfl,rfl,_,rfl,k9 (λ h=>?_) (λ h=>?_)⟩
  . refine ⟨_,rfl,jW,aN (by rw [AM];lia),s2.put hD,ag,?_,_,rfl⟩
    rw [er2,aga (by rw [EB];exact h)];rfl
  . refine ⟨s2,jW,?_,_,rfl⟩
    rw [er2,ad7 (by rw [EB];exact h)];simp
 .
  rintro acc U H' ⟨s2,jW,rfl,v,rfl⟩
  rw [AM,ahU] at jW
  have:=k H' (sm.trans s2)
  rw [← em] at this
  exact ⟨D,_,rfl,aT.of jW,λ r hr=>by have:=(DH r (List.mem_filter.mp hr).1).1;lia,this⟩
theorem yK (T:Txt K mg Ad):Def P w K mg base "may_fail" 8 ["hold","state","order"] (si K Ad.aO):=by
 refine T.Bi.cD xL λ f bq A outer s H vs Q E hr h=>?_
 obtain ⟨a,fp,m,p,st,o,rfl,hh,hs,ok,ho,k⟩:=h
 refine ⟨_,(ac (bg (am (dP (K:=K) T) hr.m (aa (pv 0) (aa (pv 1) af))))
     (al (aF (am (sO (K:=K) T) hr.m (aa (pv 0) (aa (pv 1) (aa (pv 2) af))))))),?_⟩
 try dsimp only [d7,aK]
 refine ⟨_,rfl,_,rfl,a,fp,m,p,st,rfl,hh,hs,ok,λ H1 s1=>?_⟩
 exact ⟨_,rfl,_,rfl,_,rfl,a,fp,m,p,st,o,rfl,hh.same s1,hs.same s1,ok,ho,λ H2 s2=>k H2 (s1.trans s2)⟩
theorem rj (T:Txt K mg Ad):Def P w K mg base "wait_behind" 5 ["hold","state","burning","room"] (sG K Ad.aO):=by
 refine T.tQ.cD sv λ f bq A outer s H vs Q E hr h=>?_
 obtain ⟨a,fp,m,p,st,b,i,rfl,hh,hs,ok,hi,hz,h0,k⟩:=h
 refine ⟨_,(ac (bx (aP lq (am (dQ (K:=K) T) hr.m (aa (aB au (pv 1) ah (λ _ _=>rfl)) (aa (pv 3) af))) (am (dQ (K:=K) T) hr.m (aa (pv 2) (aa (pv 3) af))) (aV _)) (al (aF (aB au (aR (pv 0) T.aC (dO (K:=K) T) .nil hr.m (aa (pv 3) af)) ah (λ _ _=>rfl)))) aI)
     (al (aF (aX (vo rfl) (by rfl) T.LZ Hb (aa ah (aa (ay dC (aB au (aB au (pv 1) ah (λ _ _=>rfl)) (pv 3) (λ _ _=>rfl)) ah) af)))))),?_⟩
 try dsimp only [d7,aK]
 obtain ⟨pb,pw,pf,e0,eb,ew,ef⟩:=id hs
 obtain ⟨⟨dx,pm,IP,K7,Iw,vm,vs,vt,az,_,ha,_⟩,q1,q2,q3,q4⟩:=id hh
 refine ⟨_,rfl,p,_,_,_,rfl,rfl,.inr e0,rfl,_,rfl,st.bX,i,rfl,?_⟩
 refine ⟨_,rfl,_,rfl,b,i,rfl,rfl,_,rfl,wj (λ EF=>?_) (λ heq=>?_)⟩
 .
  have EF:¬ st.bX.testBit i=b.testBit i:=λ e=>EF (by rw [e])
  obtain ⟨z,ez⟩:=nN (hz EF)
  have mO:=jY (m:=m) (i:=i) (by lia)
  refine ⟨_,rfl,a,dx,_,rfl,ha,rfl,_,rfl,a,fp,m,i,_,rfl,hh,mO,λ u du=>?_⟩
  rw [ez] at du
  obtain ⟨pz,v1,rfl,zS,_⟩:=du.jM
  have e1:m.gf i=z.2.2.1:=by unfold ao.gf;rw [ez];rfl
  have e2:ap (st.nj m b i) = .int z.2.2.1:=by
    unfold d6.nj
    rw [acO EF,← e1]
    show V.int _=_
    rw [ann h0]
  rw [e2] at k
  exact ⟨pz,_,_,_,rfl,rfl,.inr zS,rfl,k⟩
 .
  have heq:st.bX.testBit i=b.testBit i:=by injection heq
  refine ⟨_,rfl,p,_,_,_,rfl,rfl,.inr e0,rfl,_,rfl,pw,_,_,_,rfl,rfl,.inr ew,sS (by rw [ok.lw];exact hi),_,_,rfl,rfl,λ y ey=>?_⟩
  refine ⟨0,y,rfl,?_⟩
  have e2:(if y > 0 then y else 0)=((st.nj m b i:Nat):Int):=by
    unfold d6.nj
    rw [acS heq]
    split<;>lia
  rw [e2]
  exact k
theorem oX (T:Txt K mg Ad):Def P w K mg base "failed_behind" 2 ["state","burning","out","room"] (pC K):=by
 refine T.qo.cD pD λ f bq A outer s H vs Q E hr h=>?_
 obtain ⟨p,st,b,out,i,rfl,hs,hi,k⟩:=h
 refine ⟨_,(ac (bx (ce (am (dQ (K:=K) T) hr.m (aa (pv 2) (aa (pv 3) af)))) (al (aF (ay aJ (aB au (aB au (pv 0) ah (λ _ _=>rfl)) (pv 3) (λ _ _=>rfl)) ah))) aI)
     (ac (bx (ce (am (dQ (K:=K) T) hr.m (aa (pv 1) (aa (pv 3) af)))) (al (aF ah)) aI)
     (al (aF (aB au (aB au (pv 0) ah (λ _ _=>rfl)) (pv 3) (λ _ _=>rfl)))))),?_⟩
 try dsimp only [d7,aK]
 first|(refine dE ?_;intro _ _ _ _)|skip
 obtain ⟨pb,pw,pf,e0,eb,ew,ef⟩:=id hs
 unfold d6.ux at k
 refine ⟨_,rfl,_,rfl,out,i,rfl,_,rfl,?_⟩
 cases h1:out.testBit i with
 | true =>
   rw [h1] at k
   refine iW ⟨_,rfl,p,_,_,_,rfl,rfl,.inr e0,rfl,_,rfl,pf,_,_,_,rfl,rfl,.inr ef,sS hi,_,_,rfl,rfl,λ y ey=>?_⟩
   rw [ey]
   exact k
 | false =>
   rw [h1] at k
   refine gz ⟨_,rfl,_,rfl,b,i,rfl,_,rfl,?_⟩
   cases h2:b.testBit i with
   | true =>
     rw [h2] at k
     exact iW k
   | false =>
     rw [h2] at k
     exact gz ⟨_,rfl,p,_,_,_,rfl,rfl,.inr e0,rfl,_,rfl,pf,_,_,_,rfl,rfl,.inr ef,sS hi,k⟩
theorem jL (T:Txt K mg Ad):Def P w K mg base "stoves_behind" 7 ["hold","state","order","out"] (vn K Ad.aO):=by
 refine T.qu.cD dD λ f bq A outer s H vs Q E hr h=>?_
 obtain ⟨a,fp,m,p,st,o,out,rfl,hh,hs,ok,hz,h0,Ik,k⟩:=h
 refine ⟨_,(ac (aE (i:=4) dD.nd rfl (lc rfl) (ay gM (pv 2) (nE rW (pv 3))))
     (ac (rD (yi:=5) ["room"] ["hold","state","burning"] [0,1,4] (.cons ⟨rfl,rfl,.inl rfl⟩ (.cons ⟨rfl,rfl,.inl rfl⟩ (.cons ⟨rfl,rfl,.inl rfl⟩ .nil))) rfl (bM rfl T.cI (aa (cZ (pv 0) T.aC (bY (K:=K) T) .nil hr.m) af)) (λ _ _ _ _ _=>(aG (i:=0) (show (["room","hold","state","burning"]:List Str).Nodup by decide +kernel) rfl (lc rfl))) (λ _ _ _ _ _=>eE) (λ _ _ _ _ _=>(am (rj (K:=K) T) hr.m (aa (pv 1) (aa (pv 2) (aa (pv 3) (aa (pv 0) af)))))) rfl (by decide +kernel) (by decide +kernel) (by decide +kernel) dD.nd rfl (lc rfl) rfl)
     (ac (rD (yi:=6) ["room"] ["state","burning","out"] [1,4,3] (.cons ⟨rfl,rfl,.inl rfl⟩ (.cons ⟨rfl,rfl,.inl rfl⟩ (.cons ⟨rfl,rfl,.inl rfl⟩ .nil))) rfl (bM rfl T.cI (aa (cZ (pv 0) T.aC (bY (K:=K) T) .nil hr.m) af)) (λ _ _ _ _ _=>(aG (i:=0) (show (["room","state","burning","out"]:List Str).Nodup by decide +kernel) rfl (lc rfl))) (λ _ _ _ _ _=>eE) (λ _ _ _ _ _=>(am (oX (K:=K) T) hr.m (aa (pv 1) (aa (pv 2) (aa (pv 3) (aa (pv 0) af)))))) rfl (by decide +kernel) (by decide +kernel) (by decide +kernel) dD.nd rfl (lc rfl) rfl)
     (ac (aE (i:=7) dD.nd rfl (lc rfl) (aX (uK rfl) (by rfl) T.LN Hq (aa (aU (pv 0) rfl) (aa (ay aJ (ay dC (aB au (pv 1) ah (λ _ _=>rfl)) (am (sT (K:=K) T) hr.m (aa (pv 0) (aa (pv 4) af)))) (aU (pv 0) rfl)) af))))
     (al (aF (cm (aa (pv 4) (aa (cX dg (by rfl) T.kn iM (aa (pv 5) af)) (aa (cX dg (by rfl) T.kn iM (aa (pv 6) af)) (aa (pv 7) af))))))))))),?_⟩
 try dsimp only [d7,aK]
 first|(refine tH ?_;intro _ _ _ _ _ _)|skip
 obtain ⟨pb,pw,pf,e0,eb,ew,ef⟩:=id hs
 obtain ⟨⟨dx,pm,IP,K7,Iw,vm,vs,vt,az,_,ha,_⟩,q1,q2,q3,q4⟩:=id hh
 refine ⟨_,rfl,_,rfl,_,rfl,_,_,rfl,rfl,λ y ey=>?_⟩
 obtain rfl:y=((Ord.off o out:Nat):Int):=by rw [ey];exact iE _ _
 generalize Ord.off o out=b at hz Ik k ⊢
 refine ⟨_,rfl,a,dx,_,rfl,ha,rfl,a,fp,m,rfl,hh,_,rfl,by lia,by lia,λ D hD=>?_⟩
 refine fe (lo:=0) (n:=m.rows.length) (λ j acc U H'=>A4 (aA H H') (H' D=some (.lst acc)) (acc=((List.range j).map (st.nj m b)).map ap) (∃ v,U=[v,some (.ref a),some (.ref p),some (ap b)])) ⟨ak hD,ag,rfl,none,rfl⟩ ?_ ?_
 . rintro j acc U H' hj ⟨s1,kX,rfl,v,rfl⟩
   refine ⟨_,rfl,_,rfl,_,rfl,_,rfl,a,fp,m,p,st,b,j,(by rw [ad8];rfl),hh.same s1,hs.same s1,ok,hj,hz j,h0 j,kX,aN (by rw [AM,AM,adw];lia),s1.put hD,ag,?_,_,rfl⟩
   rw [agN,YT,YT];rfl
 rintro acc U H1 ⟨s1,kX,rfl,v,rfl⟩
 refine ⟨_,rfl,a,dx,_,rfl,s1 _ _ ha,rfl,a,fp,m,rfl,hh.same s1,_,rfl,by lia,by lia,λ D2 jW=>?_⟩
 refine fe (lo:=0) (n:=m.rows.length) (λ j acc U H'=>A4 (aA H1 H') (H' D2=some (.lst acc)) (acc=((List.range j).map (st.ux b out)).map ap) (∃ v,U=[v,some (.ref p),some (ap b),some (ap out)])) ⟨ak jW,ag,rfl,none,rfl⟩ ?_ ?_
 . rintro j acc U H' hj ⟨s2,jO,rfl,v,rfl⟩
   refine ⟨_,rfl,_,rfl,_,rfl,_,rfl,p,st,b,out,j,(by rw [ad8];rfl),hs.same (s1.trans s2),by rw [ok.lf];exact hj,jO,aN (by rw [AM,AM,adw];lia),s2.put jW,ag,?_,_,rfl⟩
   rw [agN,YT,YT];rfl
 rintro acc U H2 ⟨s2,jO,rfl,v,rfl⟩
 have S2:=s1.trans s2
 refine ⟨_,rfl,a,_,dx,_,_,rfl,S2 _ _ ha,T.aC,T.ja,vL ..,?_⟩
 refine ⟨_,rfl,p,_,_,_,rfl,rfl,.inr (S2.tup e0),rfl,?_⟩
 refine ⟨_,rfl,_,rfl,a,fp,m,b,rfl,hh.same S2,λ H3 s3=>?_⟩
 have S3:=S2.trans s3
 refine ⟨_,_,rfl,rfl,λ x1 g1=>⟨_,rfl,a,_,dx,_,_,rfl,S3 _ _ ha,T.aC,T.ki,yq ..,_,_,rfl,rfl,λ x2 g2=>⟨_,x2,rfl,?_⟩⟩⟩
 have e2:(if x2<m.ir then x2 else m.ir)=(((st.kO m b).toNat:Nat):Int):=by
   rw [ann Ik]
   unfold d6.kO
   split<;>lia
 rw [e2]
 refine ⟨_,rfl,_,rfl,D,_,rfl,.inl ⟨aT.of ((s2.trans s3) _ _ kX),λ kw Ul=>?_⟩⟩
 have u1:aA _ _:=ak (o:=.tup (((List.range m.rows.length).map (st.nj m b)).map ap)) Ul
 refine ⟨_,rfl,D2,_,rfl,.inl ⟨aT.of (u1 _ _ (s3 _ _ jO)),λ kf hkf=>?_⟩⟩
 have u2:aA _ _:=ak (o:=.tup (((List.range m.rows.length).map (st.ux b out)).map ap)) hkf
 refine ⟨_,rfl,OT,λ q hq=>?_⟩
 have u3:aA _ _:=ak (o:=.tup [ap b,.ref kw,.ref kf,ap (st.kO m b).toNat]) hq
 exact k q kw kf _ (((S3.trans u1).trans u2).trans u3) ag (u3 _ _ (u2 _ _ ag)) (u3 _ _ ag)
theorem rn (T:Txt K mg Ad):Def P w K mg base "behind_turn" 8 ["hold","state","order","out"] (vn K Ad.aO):=by
 refine T.ul.cD tK λ f bq A outer s H vs Q E hr h=>?_
 obtain ⟨a,fp,m,p,st,o,out,rfl,hh,hs,ok,hz,h0,Ik,k⟩:=h
 refine ⟨_,(ac (bg (am (dP (K:=K) T) hr.m (aa (pv 0) (aa (pv 1) af))))
     (al (aF (am (jL (K:=K) T) hr.m (aa (pv 0) (aa (pv 1) (aa (pv 2) (aa (pv 3) af)))))))),?_⟩
 try dsimp only [d7,aK]
 refine ⟨_,rfl,_,rfl,a,fp,m,p,st,rfl,hh,hs,ok,λ H1 s1=>?_⟩
 exact ⟨_,rfl,_,rfl,_,rfl,_,rfl,a,fp,m,p,st,o,out,rfl,hh.same s1,hs.same s1,ok,hz,h0,Ik,λ q pw pf H2 s2 x y z=>k q pw pf H2 (s1.trans s2) x y z⟩
open Classical in
noncomputable def Mx (tm:ar) (n:Nat) (s:d6) (o:Nat):Bool:=decide (IN tm n s o)
open Classical in
open Classical in
open Classical in
theorem zc {tm:ar} {n o:Nat} {s:d6}:Mx tm n s o=true↔IN tm n s o:=by unfold Mx;exact apR
theorem BK {tm:ar} {n:Nat} {s:d6} (ok:tm.Ok n n) (n4:n<=4) (so:fG (tm.m2 n n) s):s.orders (tm.m2 n n)=(List.range 16).filter (Mx tm n s):=by
 obtain ⟨f1,f2,f3,f4⟩:=cH tm n n
 have hl:(tm.m2 n n).rows.length=n:=by rw [f1,AM,ad4,ok.lm];lia
 have hw:s.jJ.length=n:=by rw [so.lw,hl]
 unfold d6.orders ao.ws
 rw [hl]
 refine Ord.Dj n4 (tm.m2 n n).has (tm.m2 n n).wd s.wt s.bX tm.bounds.1 s.heap _ _ (λ o _=>?_) (λ o _=>zc)
 unfold d6.EE ao.Fn d6.held ao.nK ao.ws
 rw [hw,hl,f2,aeX,aeX,ahP,ahP,ahP]
 exact ⟨λ ⟨a,b,c⟩=>⟨a,b,c⟩,λ ⟨a,b,c⟩=>⟨a,b,c⟩⟩
theorem mJ (T:Txt K mg Ad):Def P w K mg base "sum_of_products" 3 ["pairs"] (MU K):=by
 refine T.mU.cD bK λ f bq A outer s H vs Q E hr h=>?_
 obtain ⟨p,xs,ds,rfl,hp,hd,ho,hl,hB,k⟩:=h
 refine ⟨_,(ac (aE (i:=1) bK.nd rfl (lc rfl) ah)
     (ac (aE (i:=2) bK.nd rfl (lc rfl) ah)
     (ac (cW afP rfl (cV (pv 0)) (fN (K:=K) (n:=2) rfl rfl (bh (aG (i:=3) bK.nd rfl (lc rfl)) (bh (aG (i:=4) bK.nd rfl (lc rfl)) fT))) (ac (aE (i:=5) bK.nd rfl (lc rfl) (ay aZ (aB au (pv 3) ah (λ _ _=>rfl)) (aB au (pv 4) ah (λ _ _=>rfl))))
     (ac (aE (i:=1) bK.nd rfl (lc rfl) (ay aJ (ay aZ (pv 1) (pv 5)) (ay aZ (ay aZ (aB au (pv 3) ah (λ _ _=>rfl)) (aB au (pv 4) ah (λ _ _=>rfl))) (pv 2))))
     (al (aE (i:=2) bK.nd rfl (lc rfl) (ay aZ (pv 2) (pv 5)))))))
     (al (aF (am (lv (K:=K) T) hr.m (aa (pv 1) (aa (pv 2) af)))))))),?_⟩
 try dsimp only [d7,aK]
 first|(refine c7 ?_;intro _ _ _ _ _)|skip
 have lx:xs.length=ds.length:=by rw [hd.length,AM]
 refine ⟨_,rfl,p,rfl,⟨_,hp⟩,?_⟩
 refine iU (K:=K) (a:=p) (xs:=xs) (λ i U H'=>H'=H/\E3 λ (v3 v4 v5:Option V)=>U=[some (.ref p),some (.int (fw (ds.take i)).1),some (.int (fw (ds.take i)).2),v3,v4,v5]) ⟨rfl,none,none,none,rfl⟩ (λ i U H' _ e=>by rw [e.1];exact hp) ?_ ?_
 .
  rintro i x U H' hx ⟨rfl,v3,v4,v5,rfl⟩
  have hi:i<ds.length:=by rw [← lx];exact (List.getElem?_eq_some_iff.mp hx).1
  obtain ⟨b1,b2,b3⟩:=Bh ds ho i (by lia)
  have et:ds.take (i+1)=ds.take i++[ds[i]]:=by rw [anA,aq hi];rfl
  obtain ⟨y,ey,pq,ws,rfl,Mc,Jz⟩:=hd.get (i:=i) (d:=FO ds[i]) (by rw [T1,aq hi];rfl)
  obtain rfl:x = .ref pq:=ac2 (hx.symm.trans ey)
  have hd:=ho ds[i] (ab8 hi)
  obtain ⟨w1,r1,rfl,d1,w2,r2,rfl,d2,e3⟩:=Jz
  have e3:r2=[]:=e3
  subst e3
  obtain ⟨p1,rfl,h1⟩:=Dn.fr d1
  obtain ⟨p2,rfl,h2⟩:=Dn.fr d2
  rw [et,mV]
  generalize ds[i]=d at hd h1 h2 ⊢
  generalize fw (ds.take i)=s at b1 b2 b3 ⊢
  refine ⟨pq,_,rfl,Mc,rfl,_,_,rfl,_,_,rfl,rfl,?_⟩
  refine ⟨_,rfl,p1,_,_,_,rfl,rfl,.inr h1,rfl,_,rfl,p2,_,_,_,rfl,rfl,.inr h2,rfl,_,_,rfl,rfl,⟨900,900,hd.a.b,hd.b.b,by decide⟩,λ be ebe=>?_⟩
  have ebe:be=d.1.2 * d.2.2:=ebe
  have bb:Bd 1800 (d.1.2 * d.2.2):=hd.a.b.mul hd.b.b
  subst ebe
  have sm:1802 * i+2+1800<=100000:=by lia
  refine ⟨_,rfl,_,rfl,_,_,rfl,rfl,⟨1802 * i+2,1800,b1,bb,by lia⟩,λ x1 e1=>?_⟩
  refine ⟨_,rfl,p1,_,_,_,rfl,rfl,.inr h1,rfl,_,rfl,p2,_,_,_,rfl,rfl,.inr h2,rfl,_,_,rfl,rfl,⟨900,900,hd.a.t,hd.b.t,by decide⟩,λ x2 e2=>?_⟩
  have bt:Bd 1800 x2:=by rw [e2];exact hd.a.t.mul hd.b.t
  refine ⟨_,rfl,_,_,rfl,rfl,⟨1800,1800 * i+1,bt,b2,by lia⟩,λ x3 e3=>⟨_,_,rfl,rfl,λ x4 e4=>?_⟩⟩
  refine ⟨_,rfl,_,rfl,_,_,rfl,rfl,⟨1800 * i+1,1800,b2,bb,by lia⟩,λ x5 e5=>⟨rfl,some (.ref p1),some (.ref p2),some (.int (d.1.2 * d.2.2)),?_⟩⟩
  have f4:x4=s.1 * (d.1.2 * d.2.2)+d.1.1 * d.2.1 * s.2:=by rw [e4,e1,e3,e2]
  have f5:x5=s.2 * (d.1.2 * d.2.2):=e5
  rw [f4,f5]
  rfl
 .
  rintro U H' ⟨rfl,v3,v4,v5,rfl⟩
  rw [lx,ahU]
  have Ou:=CL ho
  refine ⟨_,rfl,_,rfl,_,_,rfl,by lia,hB,λ q r u H2 F s2 hu=>k u H2 s2 ?_⟩
  have:=F.nf Ou
  rw [hu,← this]
theorem n6 (T:Txt K mg Ad):Def P w K mg base "warmth_of" 6 ["hold","room","airs","weather","fired"] (Ev K Ad.aO):=by
 refine T.ye.cD mQ λ f bq A outer s H vs Q E hr h=>?_
 obtain ⟨a,fp,m,i,pa,Q4,airs,wv,wf,fired,rfl,hh,hi,hpa,da,la,oa,dw,ow,hz,k⟩:=h
 refine ⟨_,(ac (rD (yi:=5) ["of","air"] ["room","hold"] [1,0] (.cons ⟨rfl,rfl,.inl rfl⟩ (.cons ⟨rfl,rfl,.inl rfl⟩ .nil)) rfl (M8 rfl T.jl (aa (pv 2) af)) (λ _ _ _ _ _=>(fN (K:=K) (n:=2) rfl rfl (bh (aG (i:=0) (show (["of","air","room","hold"]:List Str).Nodup by decide +kernel) rfl (lc rfl)) (bh (aG (i:=1) (show (["of","air","room","hold"]:List Str).Nodup by decide +kernel) rfl (lc rfl)) fT)))) (λ _ _ _ _ _=>eE) (λ _ _ _ _ _=>(cm (aa (aR (pv 3) T.aC (lu (K:=K) T) .nil hr.m (aa (pv 2) (aa (pv 0) af))) (aa (pv 1) af)))) rfl (by decide +kernel) (by decide +kernel) (by decide +kernel) mQ.nd rfl (lc rfl) rfl)
     (ac (bg (je afF ago agd cN (pv 5) (aa (cm (aa (aB au (aR (pv 0) T.aC (nB (K:=K) T) .nil hr.m (aa (pv 1) af)) ah (λ _ _=>rfl)) (aa (pv 3) af))) af)))
     (ac (lD (bx (ce (pv 4)) (al (bg (je afF ago agd cN (pv 5) (aa (cm (aa (gU (v:=V.ref _) rfl T.CB rfl) (aa (aB au (aR (pv 0) T.aC (dO (K:=K) T) .nil hr.m (aa (pv 1) af)) ah (λ _ _=>rfl)) af))) af)))) aI))
     (al (aF (am (mJ (K:=K) T) hr.m (aa (pv 5) af))))))),?_⟩
 try dsimp only [d7,aK]
 first|(refine c7 ?_;intro _ _ _ _ _)|skip
 obtain ⟨⟨dx,pm,IP,K7,Iw,vm,vs,vt,az,oF,ha,_⟩,q1,q2,q3,q4⟩:=id hh
 obtain ⟨Zr,Y3,pbd⟩:=pX (i:=i) (fired:=fired) q4 q3 la oa ow hz
 have lav:Q4.length=airs.length:=by rw [da.length,AM]
 refine ⟨_,rfl,pa,rfl,⟨_,hpa⟩,λ D hD=>?_⟩
 refine lY (sq:=aT K) (a:=pa) (xs:=Q4) (λ j acc U H'=>A4 (aA H H') (H' D=some (.lst acc)) (bT K H' (((List.range j).map λ j=>((m.share i j,airs.getD j (0,1)):Pr)).map FO) acc) (E2 λ v0 v1=>U=[v0,v1,some (ap i),some (.ref a)]))
   ⟨ak hD,ag,rfl,none,none,rfl⟩ (λ j acc U H' _ e=>e.1.seq hpa) ?_ ?_
 .
  rintro j x pp acc U H' hx xi ⟨s1,kX,d1,v0,v1,rfl⟩
  have hj:j<airs.length:=by rw [← lav];exact (List.getElem?_eq_some_iff.mp hx).1
  obtain ⟨y,ey,dy⟩:=da.get (i:=j) (d:=dR airs[j]) (by rw [T1,aq hj];rfl)
  obtain rfl:x=y:=ac2 (hx.symm.trans ey)
  have s2:aA H' (upd H' pp (.tup [ap j,x])):=ak xi
  have nD:D≠pp:=av kX xi
  have S2:=s1.trans s2
  refine ⟨pp,_,rfl,bP.of ag,rfl,_,_,rfl,_,_,rfl,rfl,?_⟩
  refine ⟨_,rfl,a,dx,_,rfl,S2 _ _ ha,rfl,_,rfl,_,rfl,a,fp,m,i,j,rfl,hh.same S2,hi,by lia,λ v H3 s3 dv=>?_⟩
  have S3:=S2.trans s3
  refine ⟨_,rfl,zY,λ pt eQ=>?_⟩
  have s4:aA H3 (upd H3 pt (.tup [v,x])):=ak eQ
  have S4:=S3.trans s4
  have Cr:=s4 _ _ (s3 _ _ (s2 _ _ kX))
  have ts:bw K (upd H3 pt (.tup [v,x])) (upd (upd H3 pt (.tup [v,x])) D (.lst (acc++[.ref pt]))):=cF Cr rfl
  have FK:acc.length=j:=by rw [d1.length,AM,AM,adw]
  refine ⟨Cr,aN (by lia),(S4).put hD,ag,?_,_,_,rfl⟩
  rw [agN,YT,YT]
  refine (bT.ts ((aA.ts ((s2.trans s3).trans s4)).trans ts) _ (rg _) d1).snoc (Dn.ts ts _ (qR _) ?_)
  have ea:airs.getD j (0,1)=airs[j]:=by rw [OQ,aq hj];rfl
  show Dn K _ (FO (m.share i j,airs.getD j (0,1))) _
  rw [ea]
  exact fW (bP.of ag) (bC (Dn.same s4 _ dv) (bC (Dn.same S4 _ dy) fU))
 .
  rintro acc U H1 ⟨s1,kX,d1,v0,v1,rfl⟩
  rw [lav] at d1
  have d1:bT K H1 ((dB m i airs).map FO) acc:=d1
  have FK:acc.length<=4:=by rw [d1.length,AM];unfold dB;rw [AM,adw];lia
  have HP:i<m.bf.length:=by lia
  have U1:=aq HP
  have Ko:m.eT i=m.bf[i].1:=by unfold ao.eT;rw [U1];rfl
  refine ⟨_,rfl,.inl ⟨rfl,_,aT.of kX⟩,_,rfl,a,dx,_,rfl,s1 _ _ ha,rfl,_,rfl,a,fp,m,i,_,rfl,hh.same s1,U1,λ v dv=>?_⟩
  obtain ⟨p0,HI,Yj,YA,rfl,DQ,dd1,MG,dd3⟩:=dv.dA
  refine ⟨p0,_,_,_,rfl,rfl,.inr DQ,rfl,_,rfl,zY,λ pt eQ=>?_⟩
  have s2:aA H1 (upd H1 pt (.tup [HI,wv])):=ak eQ
  have jW:=s2 _ _ kX
  refine ⟨D,_,_,rfl,rfl,jW,aN (by lia),?_⟩
  have ts:bw K (upd H1 pt (.tup [HI,wv])) (upd (upd H1 pt (.tup [HI,wv])) D (.lst (acc++[.ref pt]))):=cF jW rfl
  have jO:(upd (upd H1 pt (.tup [HI,wv])) D (.lst (acc++[.ref pt]))) D=some (.lst (acc++[.ref pt])):=ag
  have S3:aA H (upd (upd H1 pt (.tup [HI,wv])) D (.lst (acc++[.ref pt]))):=(s1.trans s2).put hD
  have d3:bT K (upd (upd H1 pt (.tup [HI,wv])) D (.lst (acc++[.ref pt]))) ((dB m i airs++[(m.eT i,wf)]).map FO) (acc++[.ref pt]):=by
    rw [YT]
    refine (bT.ts ((aA.ts s2).trans ts) _ (rg _) d1).snoc (Dn.ts ts _ (qR _) ?_)
    refine fW (bP.of ag) (bC (Dn.same s2 _ ?_) (bC (Dn.same (s1.trans s2) _ dw) fU))
    rw [Ko];exact dd1
  generalize (upd (upd H1 pt (.tup [HI,wv])) D (.lst (acc++[.ref pt])))=H3 at jO S3 d3 ⊢
  refine ⟨λ σ' H'=>aA H H'/\∃ xs,A3 (H' D=some (.lst xs)) (bT K H' ((gv m i airs wf fired).map FO) xs) (σ'=[some (.ref a),some (ap i),some (.ref pa),some wv,some (.bl fired),some (.ref D)]),?_,?_⟩
  .
   refine ⟨_,rfl,_,rfl,?_⟩
   cases fired with
   | false =>
     refine gz ⟨S3,_,jO,?_,rfl⟩
     unfold gv
     rw [acO abZ,alw]
     exact d3
   | true =>
     obtain ⟨z,ez⟩:=hz rfl
     refine iW ⟨_,rfl,.inl ⟨rfl,_,aT.of jO⟩,?_⟩
     refine ⟨_,rfl,a,dx,_,rfl,S3 _ _ ha,rfl,_,rfl,a,fp,m,i,_,rfl,hh.same S3,ez,λ u du=>?_⟩
     obtain ⟨pz,zs,rfl,zS,t1,r1,rfl,e1,_⟩:=du
     refine ⟨pz,_,_,_,rfl,rfl,.inr zS,bA (j:=0) rfl,zY,λ Yc ahH=>?_⟩
     have s4:aA H3 (upd H3 Yc (.tup [.ref Ad.uZ,t1])):=ak ahH
     have Cr:=s4 _ _ jO
     refine ⟨D,_,_,rfl,rfl,Cr,aN (by rw [abi];simp only [afc,anT];lia),(S3.trans s4).put hD,_,ag,?_,rfl⟩
     have ts2:bw K (upd H3 Yc (.tup [.ref Ad.uZ,t1])) (upd (upd H3 Yc (.tup [.ref Ad.uZ,t1])) D (.lst ((acc++[.ref pt])++[.ref Yc]))):=cF Cr rfl
     have ez2:(((m.aD[i]?).getD none).map (·.1)).getD (0,1)=z.1:=by rw [ez];rfl
     unfold gv
     rw [acS rfl,YT]
     refine (bT.ts ((aA.ts s4).trans ts2) _ (rg _) d3).snoc (Dn.ts ts2 _ (qR _) ?_)
     show Dn K _ (FO ((1,1),(((m.aD[i]?).getD none).map (·.1)).getD (0,1))) _
     rw [ez2]
     exact fW (bP.of ag) (bC (T.Cg.fr (f:=(1,1))) (bC (Dn.same s4 _ e1) fU))
  . rintro σ' H4 ⟨S4,xs,Cr,d4,rfl⟩
    exact ⟨_,rfl,D,xs,_,rfl,aT.of Cr,d4,Zr,Y3,pbd,λ q H5 s5 hq5=>k q H5 (S4.trans s5) hq5⟩
theorem rO (T:Txt K mg Ad):Def P w K mg base "span_of" 7 ["hold","room","bands","fired"] (Jf K Ad.aO):=by
 refine T.DG.cD iX λ f bq A outer s H vs Q E hr h=>?_
 obtain ⟨a,fp,m,i,pb,bs,fired,rfl,hh,hi,hb,lb,xt,hz,k⟩:=h
 refine ⟨_,(ac (js (lF BW (aR (pv 0) T.aC (nB (K:=K) T) .nil hr.m (aa (pv 1) af)) (jU ah) vX) (fN (K:=K) (n:=2) rfl rfl (bh (aG (i:=4) iX.nd rfl (lc rfl)) (bh (aG (i:=5) iX.nd rfl (lc rfl)) fT))))
     (ac (rD (yi:=6) ["of","band"] ["hold"] [0] (.cons ⟨rfl,rfl,.inl rfl⟩ .nil) rfl (GQ rfl T.jl (aa (pv 2) af)) (λ _ _ _ _ _=>(fN (K:=K) (n:=2) rfl rfl (bh (aG (i:=0) (show (["of","band","hold"]:List Str).Nodup by decide +kernel) rfl (lc rfl)) (bh (aG (i:=1) (show (["of","band","hold"]:List Str).Nodup by decide +kernel) rfl (lc rfl)) fT)))) (λ _ _ _ _ _=>eE) (λ _ _ _ _ _=>(aB (gO (K:=K) rfl) (aR (pv 2) T.aC (e8 (K:=K) T) .nil hr.m (aa (pv 0) af)) (pv 1) (λ _ _=>rfl))) rfl (by decide +kernel) (by decide +kernel) (by decide +kernel) iX.nd rfl (lc rfl) rfl)
     (ac (rD (yi:=7) ["of","band"] ["hold"] [0] (.cons ⟨rfl,rfl,.inl rfl⟩ .nil) rfl (GQ rfl T.jl (aa (pv 2) af)) (λ _ _ _ _ _=>(fN (K:=K) (n:=2) rfl rfl (bh (aG (i:=0) (show (["of","band","hold"]:List Str).Nodup by decide +kernel) rfl (lc rfl)) (bh (aG (i:=1) (show (["of","band","hold"]:List Str).Nodup by decide +kernel) rfl (lc rfl)) fT)))) (λ _ _ _ _ _=>eE) (λ _ _ _ _ _=>(aB (gO (K:=K) rfl) (aR (pv 2) T.aC (e8 (K:=K) T) .nil hr.m (aa (pv 0) af)) (ay aJ (pv 1) ah) (λ _ _=>rfl))) rfl (by decide +kernel) (by decide +kernel) (by decide +kernel) iX.nd rfl (lc rfl) rfl)
     (al (aF (cm (aa (am (n6 (K:=K) T) hr.m (aa (pv 0) (aa (pv 1) (aa (pv 6) (aa (pv 4) (aa (pv 3) af)))))) (aa (am (n6 (K:=K) T) hr.m (aa (pv 0) (aa (pv 1) (aa (pv 7) (aa (pv 5) (aa (pv 3) af)))))) af)))))))),?_⟩
 try dsimp only [d7,aK]
 first|(refine c7 ?_;intro _ _ _ _ _)|skip
 obtain ⟨⟨dx,pm,IP,K7,Iw,vm,vs,vt,az,oF,ha,_⟩,q1,q2,q3,q4⟩:=id hh
 have HP:i<m.bf.length:=by lia
 have U1:=aq HP
 have Ko:lG m i=m.bf[i]:=by unfold lG;rw [U1];rfl
 have okk:=q4.bf m.bf[i] (ab8 HP)
 have olo:dU 120 (lG m i).2.1:=by rw [Ko];exact okk.2.1.mono (by decide)
 have ohi:dU 120 (lG m i).2.2:=by rw [Ko];exact okk.2.2.mono (by decide)
 have le0:(gj m bs 0).length=m.rows.length:=by unfold gj;rw [AM,adw,lb]
 have le1:(gj m bs 1).length=m.rows.length:=by unfold gj;rw [AM,adw,lb]
 refine ⟨_,rfl,a,dx,_,rfl,ha,rfl,_,rfl,a,fp,m,i,_,rfl,hh,U1,λ v dv=>?_⟩
 obtain ⟨p0,HI,Yj,YA,rfl,DQ,dd1,MG,dd3⟩:=dv.dA
 refine ⟨1,rfl,p0,_,1,rfl,DQ,rfl,rfl,by decide,(by show 1<=3;decide),λ q0 hq=>?_⟩
 refine ⟨q0,_,rfl,bP.of ag,rfl,_,_,rfl,_,_,rfl,rfl,?_⟩
 have S0:aA H (upd H q0 (.tup ([HI,Yj,YA].drop 1))):=ak hq
 generalize upd H q0 (.tup ([HI,Yj,YA].drop 1))=H0 at S0 ⊢
 have dlo:Dn K H0 (dR (lG m i).2.1) Yj:=by rw [Ko];exact Dn.same S0 _ MG
 have dhi:Dn K H0 (dR (lG m i).2.2) YA:=by rw [Ko];exact Dn.same S0 _ dd3
 rcases hb with hb|hb
 .
  have hb:=S0.seq hb
  refine ⟨_,rfl,pb,rfl,.inl ⟨⟨_,hb⟩,λ D hD=>?_⟩⟩
  refine lY (sq:=aT K) (a:=pb) (xs:=bs.map ap) (λ j acc U H'=>A4 (aA H0 H') (H' D=some (.lst acc)) (bT K H' (((List.range j).map λ j=>(m.rows.getD j []).getD (bs.getD j 0+0) (0,1)).map dR) acc) (E2 λ v0 v1=>U=[v0,v1,some (.ref a)]))
    ⟨ak hD,ag,rfl,none,none,rfl⟩ (λ j acc U H' _ e=>e.1.seq hb) ?_ ?_
  .
   rintro j x pp acc U H' hx xi ⟨s1,kX,d1,v0,v1,rfl⟩
   obtain ⟨b,eb,rfl⟩:=dF hx
   have hj:j<bs.length:=(List.getElem?_eq_some_iff.mp eb).1
   have hr:j<m.rows.length:=by lia
   have eg:bs.getD j 0=b:=by rw [OQ,eb];rfl
   have s2:aA H' (upd H' pp (.tup [ap j,ap b])):=ak xi
   have S2:=S0.trans (s1.trans s2)
   have er:m.rows.getD j []=m.rows[j]:=by rw [OQ,aq hr];rfl
   have q:=xt j hr
   rw [er,eg] at q
   refine ⟨pp,_,rfl,bP.of ag,rfl,_,_,rfl,_,_,rfl,rfl,?_⟩
   refine ⟨_,rfl,a,dx,_,rfl,S2 _ _ ha,rfl,_,rfl,a,fp,m,j,_,rfl,hh.same S2,aq hr,λ pm xs d5 Dm=>?_⟩
   have s3:aA (upd H' pp (.tup [ap j,ap b])) (upd (upd H' pp (.tup [ap j,ap b])) pm (.lst xs)):=ak d5
   obtain ⟨y,ey,dy⟩:=Dm.get (i:=b) (d:=dR m.rows[j][b]) (by rw [T1,aq (by lia)];rfl)
   have jO:=s3 _ _ (s2 _ _ kX)
   have ts:bw K (upd (upd H' pp (.tup [ap j,ap b])) pm (.lst xs)) (upd (upd (upd H' pp (.tup [ap j,ap b])) pm (.lst xs)) D (.lst (acc++[y]))):=cF jO rfl
   have FK:acc.length=j:=by rw [d1.length,AM,AM,adw]
   refine ⟨_,rfl,pm,_,_,_,rfl,rfl,.inl (aT.of ag),bA ey,jO,aN (by lia),(s1.trans (s2.trans s3)).put hD,ag,?_,_,_,rfl⟩
   rw [agN,YT,YT]
   refine (bT.ts ((aA.ts (s2.trans s3)).trans ts) _ (nR _ id) (by simpa using d1)).snoc (Dn.ts ts _ (gq _) ?_)
   show Dn K _ (dR ((m.rows.getD j []).getD (bs.getD j 0+0) (0,1))) y
   rw [er,eg,Nat.add_zero,OQ,aq (by lia:b<m.rows[j].length)]
   exact Dn.same s3 _ dy
  rintro acc U H1 ⟨s1,kX,d1,v0,v1,rfl⟩
  rw [AM] at d1
  have d1:bT K H1 ((gj m bs 0).map dR) acc:=d1
  have HJ:=s1.seq hb
  have S1:=S0.trans s1
  refine ⟨_,rfl,pb,rfl,.inl ⟨⟨_,HJ⟩,λ D2 jW=>?_⟩⟩
  refine lY (sq:=aT K) (a:=pb) (xs:=bs.map ap) (λ j acc U H'=>A4 (aA H1 H') (H' D2=some (.lst acc)) (bT K H' (((List.range j).map λ j=>(m.rows.getD j []).getD (bs.getD j 0+1) (0,1)).map dR) acc) (E2 λ v0 v1=>U=[v0,v1,some (.ref a)]))
    ⟨ak jW,ag,rfl,none,none,rfl⟩ (λ j acc U H' _ e=>e.1.seq HJ) ?_ ?_
  .
   rintro j x pp iJ U H' hx xi ⟨WD,Ow,Xc,v0,v1,rfl⟩
   obtain ⟨b,eb,rfl⟩:=dF hx
   have hj:j<bs.length:=(List.getElem?_eq_some_iff.mp eb).1
   have hr:j<m.rows.length:=by lia
   have eg:bs.getD j 0=b:=by rw [OQ,eb];rfl
   have s2:aA H' (upd H' pp (.tup [ap j,ap b])):=ak xi
   have S2:=S1.trans (WD.trans s2)
   have er:m.rows.getD j []=m.rows[j]:=by rw [OQ,aq hr];rfl
   have q:=xt j hr
   rw [er,eg] at q
   refine ⟨pp,_,rfl,bP.of ag,rfl,_,_,rfl,_,_,rfl,rfl,?_⟩
   refine ⟨_,rfl,a,dx,_,rfl,S2 _ _ ha,rfl,_,rfl,a,fp,m,j,_,rfl,hh.same S2,aq hr,λ pm xs d5 Dm=>?_⟩
   have s3:aA (upd H' pp (.tup [ap j,ap b])) (upd (upd H' pp (.tup [ap j,ap b])) pm (.lst xs)):=ak d5
   obtain ⟨y,ey,dy⟩:=Dm.get (i:=b+1) (d:=dR m.rows[j][b+1]) (by rw [T1,aq (by lia)];rfl)
   have jO:=s3 _ _ (s2 _ _ Ow)
   have ts:bw K (upd (upd H' pp (.tup [ap j,ap b])) pm (.lst xs)) (upd (upd (upd H' pp (.tup [ap j,ap b])) pm (.lst xs)) D2 (.lst (iJ++[y]))):=cF jO rfl
   have FK:iJ.length=j:=by rw [Xc.length,AM,AM,adw]
   refine ⟨_,rfl,_,_,rfl,rfl,λ z ez=>?_⟩
   obtain rfl:z=((b+1:Nat):Int):=by rw [ez];push_cast;rfl
   refine ⟨pm,_,_,_,rfl,rfl,.inl (aT.of ag),bA ey,jO,aN (by lia),(WD.trans (s2.trans s3)).put jW,ag,?_,_,_,rfl⟩
   rw [agN,YT,YT]
   refine (bT.ts ((aA.ts (s2.trans s3)).trans ts) _ (nR _ id) (by simpa using Xc)).snoc (Dn.ts ts _ (gq _) ?_)
   show Dn K _ (dR ((m.rows.getD j []).getD (bs.getD j 0+1) (0,1))) y
   rw [er,eg,OQ,aq (by lia:b+1<m.rows[j].length)]
   exact Dn.same s3 _ dy
  rintro iJ U H2 ⟨s2,jO,d2,v0,v1,rfl⟩
  rw [AM] at d2
  have d2:bT K H2 ((gj m bs 1).map dR) iJ:=d2
  have S2:=S1.trans s2
  refine ⟨_,rfl,_,rfl,_,rfl,_,rfl,_,rfl,a,fp,m,i,D,acc,gj m bs 0,_,_,fired,rfl,hh.same S2,hi,aT.of (s2 _ _ kX),bT.same s2 _ d1,le0,nJ q4 lb xt (by decide),Dn.same ((s1.trans s2)) _ dlo,olo,hz,λ w1 H3 s3 hw1=>?_⟩
  have S3:=S2.trans s3
  refine ⟨_,rfl,_,rfl,_,rfl,_,rfl,_,rfl,a,fp,m,i,D2,iJ,gj m bs 1,_,_,fired,rfl,hh.same S3,hi,aT.of (s3 _ _ jO),bT.same s3 _ d2,le1,nJ q4 lb xt (by decide),Dn.same ((s1.trans s2).trans s3) _ dhi,ohi,hz,λ w2 H4 s4 Zi=>⟨zY,λ q hq=>?_⟩⟩
  have s5:aA H4 (upd H4 q (.tup [.ref w1,.ref w2])):=ak hq
  exact k q w1 w2 _ ((S3.trans s4).trans s5) ag (s5 _ _ (s4 _ _ hw1)) (s5 _ _ Zi)
 .
  have hb:=S0.tup hb
  refine ⟨_,rfl,pb,rfl,.inr ⟨⟨_,hb⟩,λ D hD=>?_⟩⟩
  refine lY (sq:=bP K) (a:=pb) (xs:=bs.map ap) (λ j acc U H'=>A4 (aA H0 H') (H' D=some (.lst acc)) (bT K H' (((List.range j).map λ j=>(m.rows.getD j []).getD (bs.getD j 0+0) (0,1)).map dR) acc) (E2 λ v0 v1=>U=[v0,v1,some (.ref a)]))
    ⟨ak hD,ag,rfl,none,none,rfl⟩ (λ j acc U H' _ e=>e.1.tup hb) ?_ ?_
  .
   rintro j x pp acc U H' hx xi ⟨s1,kX,d1,v0,v1,rfl⟩
   obtain ⟨b,eb,rfl⟩:=dF hx
   have hj:j<bs.length:=(List.getElem?_eq_some_iff.mp eb).1
   have hr:j<m.rows.length:=by lia
   have eg:bs.getD j 0=b:=by rw [OQ,eb];rfl
   have s2:aA H' (upd H' pp (.tup [ap j,ap b])):=ak xi
   have S2:=S0.trans (s1.trans s2)
   have er:m.rows.getD j []=m.rows[j]:=by rw [OQ,aq hr];rfl
   have q:=xt j hr
   rw [er,eg] at q
   refine ⟨pp,_,rfl,bP.of ag,rfl,_,_,rfl,_,_,rfl,rfl,?_⟩
   refine ⟨_,rfl,a,dx,_,rfl,S2 _ _ ha,rfl,_,rfl,a,fp,m,j,_,rfl,hh.same S2,aq hr,λ pm xs d5 Dm=>?_⟩
   have s3:aA (upd H' pp (.tup [ap j,ap b])) (upd (upd H' pp (.tup [ap j,ap b])) pm (.lst xs)):=ak d5
   obtain ⟨y,ey,dy⟩:=Dm.get (i:=b) (d:=dR m.rows[j][b]) (by rw [T1,aq (by lia)];rfl)
   have jO:=s3 _ _ (s2 _ _ kX)
   have ts:bw K (upd (upd H' pp (.tup [ap j,ap b])) pm (.lst xs)) (upd (upd (upd H' pp (.tup [ap j,ap b])) pm (.lst xs)) D (.lst (acc++[y]))):=cF jO rfl
   have FK:acc.length=j:=by rw [d1.length,AM,AM,adw]
   refine ⟨_,rfl,pm,_,_,_,rfl,rfl,.inl (aT.of ag),bA ey,jO,aN (by lia),(s1.trans (s2.trans s3)).put hD,ag,?_,_,_,rfl⟩
   rw [agN,YT,YT]
   refine (bT.ts ((aA.ts (s2.trans s3)).trans ts) _ (nR _ id) (by simpa using d1)).snoc (Dn.ts ts _ (gq _) ?_)
   show Dn K _ (dR ((m.rows.getD j []).getD (bs.getD j 0+0) (0,1))) y
   rw [er,eg,Nat.add_zero,OQ,aq (by lia:b<m.rows[j].length)]
   exact Dn.same s3 _ dy
  rintro acc U H1 ⟨s1,kX,d1,v0,v1,rfl⟩
  rw [AM] at d1
  have d1:bT K H1 ((gj m bs 0).map dR) acc:=d1
  have HJ:=s1.tup hb
  have S1:=S0.trans s1
  refine ⟨_,rfl,pb,rfl,.inr ⟨⟨_,HJ⟩,λ D2 jW=>?_⟩⟩
  refine lY (sq:=bP K) (a:=pb) (xs:=bs.map ap) (λ j acc U H'=>A4 (aA H1 H') (H' D2=some (.lst acc)) (bT K H' (((List.range j).map λ j=>(m.rows.getD j []).getD (bs.getD j 0+1) (0,1)).map dR) acc) (E2 λ v0 v1=>U=[v0,v1,some (.ref a)]))
    ⟨ak jW,ag,rfl,none,none,rfl⟩ (λ j acc U H' _ e=>e.1.tup HJ) ?_ ?_
  .
   rintro j x pp iJ U H' hx xi ⟨WD,Ow,Xc,v0,v1,rfl⟩
   obtain ⟨b,eb,rfl⟩:=dF hx
   have hj:j<bs.length:=(List.getElem?_eq_some_iff.mp eb).1
   have hr:j<m.rows.length:=by lia
   have eg:bs.getD j 0=b:=by rw [OQ,eb];rfl
   have s2:aA H' (upd H' pp (.tup [ap j,ap b])):=ak xi
   have S2:=S1.trans (WD.trans s2)
   have er:m.rows.getD j []=m.rows[j]:=by rw [OQ,aq hr];rfl
   have q:=xt j hr
   rw [er,eg] at q
   refine ⟨pp,_,rfl,bP.of ag,rfl,_,_,rfl,_,_,rfl,rfl,?_⟩
   refine ⟨_,rfl,a,dx,_,rfl,S2 _ _ ha,rfl,_,rfl,a,fp,m,j,_,rfl,hh.same S2,aq hr,λ pm xs d5 Dm=>?_⟩
   have s3:aA (upd H' pp (.tup [ap j,ap b])) (upd (upd H' pp (.tup [ap j,ap b])) pm (.lst xs)):=ak d5
   obtain ⟨y,ey,dy⟩:=Dm.get (i:=b+1) (d:=dR m.rows[j][b+1]) (by rw [T1,aq (by lia)];rfl)
   have jO:=s3 _ _ (s2 _ _ Ow)
   have ts:bw K (upd (upd H' pp (.tup [ap j,ap b])) pm (.lst xs)) (upd (upd (upd H' pp (.tup [ap j,ap b])) pm (.lst xs)) D2 (.lst (iJ++[y]))):=cF jO rfl
   have FK:iJ.length=j:=by rw [Xc.length,AM,AM,adw]
   refine ⟨_,rfl,_,_,rfl,rfl,λ z ez=>?_⟩
   obtain rfl:z=((b+1:Nat):Int):=by rw [ez];push_cast;rfl
   refine ⟨pm,_,_,_,rfl,rfl,.inl (aT.of ag),bA ey,jO,aN (by lia),(WD.trans (s2.trans s3)).put jW,ag,?_,_,_,rfl⟩
   rw [agN,YT,YT]
   refine (bT.ts ((aA.ts (s2.trans s3)).trans ts) _ (nR _ id) (by simpa using Xc)).snoc (Dn.ts ts _ (gq _) ?_)
   show Dn K _ (dR ((m.rows.getD j []).getD (bs.getD j 0+1) (0,1))) y
   rw [er,eg,OQ,aq (by lia:b+1<m.rows[j].length)]
   exact Dn.same s3 _ dy
  rintro iJ U H2 ⟨s2,jO,d2,v0,v1,rfl⟩
  rw [AM] at d2
  have d2:bT K H2 ((gj m bs 1).map dR) iJ:=d2
  have S2:=S1.trans s2
  refine ⟨_,rfl,_,rfl,_,rfl,_,rfl,_,rfl,a,fp,m,i,D,acc,gj m bs 0,_,_,fired,rfl,hh.same S2,hi,aT.of (s2 _ _ kX),bT.same s2 _ d1,le0,nJ q4 lb xt (by decide),Dn.same ((s1.trans s2)) _ dlo,olo,hz,λ w1 H3 s3 hw1=>?_⟩
  have S3:=S2.trans s3
  refine ⟨_,rfl,_,rfl,_,rfl,_,rfl,_,rfl,a,fp,m,i,D2,iJ,gj m bs 1,_,_,fired,rfl,hh.same S3,hi,aT.of (s3 _ _ jO),bT.same s3 _ d2,le1,nJ q4 lb xt (by decide),Dn.same ((s1.trans s2).trans s3) _ dhi,ohi,hz,λ w2 H4 s4 Zi=>⟨zY,λ q hq=>?_⟩⟩
  have s5:aA H4 (upd H4 q (.tup [.ref w1,.ref w2])):=ak hq
  exact k q w1 w2 _ ((S3.trans s4).trans s5) ag (s5 _ _ (s4 _ _ hw1)) (s5 _ _ Zi)
theorem rX (T:Txt K mg Ad):FF K Ad.cx:=⟨T.Az,T.Ae,T.A9,T.gs,T.tk,T.AC,T.BP,T.AF⟩
theorem sI (T:Txt K mg Ad):FF K Ad.cK:=⟨T.AR,T.An,T.BI,T.gs,T.tk,T.Aw,T.BC,T.BG⟩
theorem zy (T:Txt K mg Ad):ExcAt K Ad.cx "room":=⟨rX T,T.rM,T.AS,T.sM,T.nh⟩
theorem wX (T:Txt K mg Ad):ExcAt K Ad.cx "turn":=⟨rX T,T.rM,T.zr,T.sM,T.nh⟩
theorem yP (T:Txt K mg Ad):ExcAt K Ad.cK "room":=⟨sI T,T.rB,T.Ar,T.se,T.nO⟩
theorem wm (T:Txt K mg Ad):ExcAt K Ad.cK "turn":=⟨sI T,T.rB,T.yY,T.se,T.nO⟩
theorem A1 (T:Txt K mg Ad):KO P w K mg base Ad.cx 1 ["self","room","turn"] (o8 Ad.cx "room" "turn"):=by
 refine T.G7.Pu mr (λ vs H Q E h=>?_) (λ _ _ _ _ _ _ us hl=>yu hl λ _ _ _=>rfl) (λ f _ _ _ s H vs Q E hr h=>?_)
 . obtain ⟨x,t,v,u,rfl,_⟩:=h
   rfl
 .
  obtain ⟨x,t,v,u,rfl,hx,k⟩:=h
  refine ⟨_,(ac (zU (pv 0) (pv 1) rfl)
    (al (xx (pv 0) (pv 2) rfl))),?_⟩
  try dsimp only [d7,aK]
  exact ⟨_,rfl,_,rfl,x,Ad.cx,t,rfl,hx,zy T,λ dx hd hn=>⟨_,rfl,_,rfl,x,Ad.cx,t,dx,_,_,rfl,ag,by rw [ax hn];exact ag,hn,wX T,k dx hd hn⟩⟩
theorem BQ (T:Txt K mg Ad):KO P w K mg base Ad.cK 1 ["self","room","turn"] (o8 Ad.cK "room" "turn"):=by
 refine T.Fw.Pu mF (λ vs H Q E h=>?_) (λ _ _ _ _ _ _ us hl=>yu hl λ _ _ _=>rfl) (λ f _ _ _ s H vs Q E hr h=>?_)
 . obtain ⟨x,t,v,u,rfl,_⟩:=h
   rfl
 .
  obtain ⟨x,t,v,u,rfl,hx,k⟩:=h
  refine ⟨_,(ac (zU (pv 0) (pv 1) rfl)
    (al (xx (pv 0) (pv 2) rfl))),?_⟩
  try dsimp only [d7,aK]
  exact ⟨_,rfl,_,rfl,x,Ad.cK,t,rfl,hx,yP T,λ dx hd hn=>⟨_,rfl,_,rfl,x,Ad.cK,t,dx,_,_,rfl,ag,by rw [ax hn];exact ag,hn,wm T,k dx hd hn⟩⟩
theorem nQ (T:Txt K mg Ad):hV P w K mg base Ad.Walk "__init__" 8 ["self","hold","state"] [] (HA K Ad.aO Ad.Walk):=by
 refine T.p7.gA pE λ f bq A outer s H vs Q E hr h=>?_
 obtain ⟨x,dx,a,fp,m,p,st,rfl,hx,hh,hs,so,xt,k⟩:=h
 refine ⟨_,(ac (bg (am (dP (K:=K) T) hr.m (aa (pv 1) (aa (pv 2) af))))
     (ac (dY (pv 0) (FA (sZ (K:=K) T) hr.m (aa (pv 1) af)) rfl)
     (ac (dY (pv 0) (pv 2) rfl)
     (ac (dY (pv 0) ah rfl)
     (al (dY (pv 0) gX rfl)))))),?_⟩
 try dsimp only [d7,aK]
 first|(refine tH ?_;intro _ _ _ _ _ _)|skip
 refine ⟨_,rfl,_,rfl,a,fp,m,p,st,rfl,hh,hs,so,λ H1 s1=>?_⟩
 refine ⟨_,rfl,a,fp,m,none,none,none,rfl,hh.same s1,xt,λ b H2 fpb s2 N1 fr=>?_⟩
 have S2:=s1.trans s2
 have B0:jt K Ad.Walk x dx H2 H2 []:=.start (S2 _ _ hx)
 refine ⟨_,rfl,x,_,dx,_,rfl,B0.at_,T.bJ,T.dZ,lt1000 rfl,?_⟩
 have B1:=B0.put (fs':=bD "hold" (.ref b) [])
 refine ⟨_,rfl,_,rfl,x,_,dx,_,rfl,B1.at_,T.bJ,T.di,lt1000 rfl,?_⟩
 have B2:=B1.put (fs':=bD "place" (.ref p) (bD "hold" (.ref b) []))
 refine ⟨_,rfl,x,_,dx,_,rfl,B2.at_,T.bJ,T.fj,lt1000 rfl,?_⟩
 have B3:=B2.put (fs':=bD "gone" (.int 0) (bD "place" (.ref p) (bD "hold" (.ref b) [])))
 refine ⟨_,rfl,x,_,dx,_,rfl,B3.at_,T.bJ,T.mf,lt1000 rfl,?_⟩
 have B4:=B3.put (fs':=bD "ended" (.bl false) (bD "gone" (.int 0) (bD "place" (.ref p) (bD "hold" (.ref b) []))))
 have frx:∀ c∈fpb,c≠x:=λ c hc z=>by
   have:=fr c hc
   rw [z,s1 _ _ hx] at this
   cases this
 have e:(m.with none none none)=m:=rfl
 rw [e] at N1
 refine k fpb _ (λ c o hc n=>B4.st c o (S2 c o hc) (λ q=>n (by rw [q];exact List.mem_singleton.mpr rfl))) ((aA.ts S2).trans B4.ts) ⟨dx,b,p,B4.at_,?_,(hs.same S2).ts B4.ts,λ z=>frx x z rfl⟩ (λ c hc=>s1.free (fr c hc))
 obtain ⟨⟨OW,pm,pf,ps,pt,vm,vs,vt,az,rfl,ha,i0,d5,hJ,eR,eQ,n1,n2,n3,dm,ds,dt,df,fk⟩,q1,q2,q3,q4⟩:=id N1
 have g:∀ {c o},H2 c=some o->c∈[b,OW,pm,pf,ps,pt]->_=some o:=λ {c o} e hc=>B4.st c o e (frx c hc)
 exact ⟨⟨OW,pm,pf,ps,pt,vm,vs,vt,az,rfl,g ha (by simp),g i0 (by simp),g d5 (by simp),g hJ (by simp),g eR (by simp),g eQ (by simp),n1,n2,n3,jV B4.ts dm,iP B4.ts ds,gJ B4.ts dt,λ i j=>(df i j).ts B4.ts,fk⟩,q1,q2,q3,q4⟩
theorem sK (T:Txt K mg Ad):hV P w K mg base Ad.Walk "state" 1 ["self"] [] (λ vs H Q _=>∃ x dx h q g,vs=[.ref x]/\H x=some (.ins Ad.Walk dx (OS h q g))/\Q (.ref q) H):=by
 refine T.vP.gA uf λ f bq A outer s H vs Q E hr h=>?_
 obtain ⟨x,dx,hd,q,g,rfl,hx,k⟩:=h
 refine ⟨_,(al (aF (aU (pv 0) rfl))),?_⟩
 try dsimp only [d7,aK]
 exact ⟨_,rfl,x,_,dx,_,_,rfl,hx,T.bJ,T.di,rfl,k⟩
theorem sQ (T:Txt K mg Ad):hV P w K mg base Ad.Walk "turns" 1 ["self"] [] (λ vs H Q _=>∃ x dx h q g,vs=[.ref x]/\H x=some (.ins Ad.Walk dx (OS h q g))/\Q (.int g) H):=by
 refine T.wB.gA ud λ f bq A outer s H vs Q E hr h=>?_
 obtain ⟨x,dx,hd,q,g,rfl,hx,k⟩:=h
 refine ⟨_,(al (aF (aU (pv 0) rfl))),?_⟩
 try dsimp only [d7,aK]
 exact ⟨_,rfl,x,_,dx,_,_,rfl,hx,T.bJ,T.fj,rfl,k⟩
theorem tR (T:Txt K mg Ad):hV P w K mg base Ad.Walk "span" 8 ["self","room","burning"] [] (Gf K Ad.aO Ad.Walk):=by
 refine T.yO.gA ww λ f bq A outer s H vs Q E hr h=>?_
 obtain ⟨x,fp,m,st,g,i,b,rfl,⟨dx,hd,q,hx,hh,hs,nx⟩,so,hi,hb,k⟩:=h
 refine ⟨_,(al (aF (am (rO (K:=K) T) hr.m (aa (aU (pv 0) rfl) (aa (pv 1) (aa (aB au (aU (pv 0) rfl) ah (λ _ _=>rfl)) (aa (am (dQ (K:=K) T) hr.m (aa (pv 2) (aa (pv 1) af))) af))))))),?_⟩
 try dsimp only [d7,aK]
 obtain ⟨pb,pw,pf,e0,eb,ew,ef⟩:=id hs
 obtain ⟨_,q1,q2,q3,q4⟩:=id hh
 refine ⟨_,rfl,x,_,dx,_,_,rfl,hx,T.bJ,T.dZ,rfl,_,rfl,_,rfl,x,_,dx,_,_,rfl,hx,T.bJ,T.di,rfl,q,_,_,_,rfl,rfl,.inr e0,rfl,_,rfl,_,rfl,b,i,rfl,?_⟩
 exact ⟨hd,fp,m,i,pb,st.aH,b.testBit i,rfl,hh,hi,.inr eb,so.lb,λ j hj=>by have:=so.band j hj;unfold gN at this;rw [OQ];exact this,λ z=>by
   have:=nN (hb z)
   obtain ⟨z',ez⟩:=this
   exact ⟨z',by rw [jY (by lia),ez]⟩,k⟩
theorem kr (T:Txt K mg Ad):pV P w K mg base Ad.Walk "look_at_order" 9 ["self","order","out"] [] (FQ K Ad.aO Ad.Walk Ad.lS Ad.iA):=by
 refine T.lA.Ls kR (λ vs H Q E h=>?_) (λ _ _ _ _ _ _ us hl=>yu hl λ _ _ _=>rfl) (λ f _ _ _ s H vs Q E hr h=>?_)
 . obtain ⟨x,fp,m,st,g,o,out,rfl,_⟩:=h
   rfl
 .
  obtain ⟨x,fp,m,st,g,o,out,rfl,⟨dx,hd,q,hx,hh,hs,nx⟩,so,AK,k1,k2,k3⟩:=h
  refine ⟨_,(ac (bx (ce (aU (pv 0) rfl)) (al (rL rfl anG T.IW T.Kh (Ac λ _ _ _ z=>z) (aa bE af))) aI)
    (ac (bx (aP nH (pv 1) (am (nW (K:=K) T) hr.m (aa (aU (pv 0) rfl) (aa (aU (pv 0) rfl) af))) (by with_unfolding_all rfl)) (al (rL rfl anG T.Ew T.DZ (Ac λ _ _ _ z=>z) (aa bE af))) aI)
    (al (bx (aP lq (ay gM (pv 2) (nE rW (am (yK (K:=K) T) hr.m (aa (aU (pv 0) rfl) (aa (aU (pv 0) rfl) (aa (pv 1) af)))))) ah (aV _)) (al (rL rfl anG T.yr T.zN (Ac λ _ _ _ z=>z) (aa bE af))) aI)))),?_⟩
  try dsimp only [d7,aK]
  first|(refine dE ?_;intro _ _ _ _)|skip
  obtain ⟨_,q1,q2,q3,q4⟩:=id hh
  refine ⟨_,rfl,x,_,dx,_,_,rfl,hx,T.bJ,T.mf,rfl,_,rfl,gz ?_⟩
  refine ⟨_,rfl,_,rfl,x,_,dx,_,_,rfl,hx,T.bJ,T.dZ,rfl,_,rfl,x,_,dx,_,_,rfl,hx,T.bJ,T.di,rfl,hd,fp,m,q,st,rfl,hh,hs,so,λ p1 H1 f1 s1 h1=>?_⟩
  refine ⟨p1,_,rfl,.inl (aT.of h1),rfl,uB _,_,rfl,?_⟩
  have ei:(if true=true then !HB (ap o) ((st.orders m).map ap) else HB (ap o) ((st.orders m).map ap)) = !decide (o∈st.orders m):=by rw [acS rfl];exact anv _ (I0 o _)
  rw [ei]
  by_cases ho:o∈st.orders m
  case neg =>
    rw [ad7 ho]
    exact iW ⟨Mn,(k1 ho).plain s1⟩
  rw [aga ho]
  refine gz ?_
  have HD:=s1 _ _ hx
  refine ⟨_,rfl,_,rfl,x,_,dx,_,_,rfl,HD,T.bJ,T.dZ,rfl,_,rfl,x,_,dx,_,_,rfl,HD,T.bJ,T.di,rfl,_,rfl,hd,fp,m,q,st,o,rfl,hh.same s1,hs.same s1,so,N8 ho,λ H2 s2=>?_⟩
  refine ⟨_,rfl,_,_,rfl,rfl,λ y ey=>⟨rfl,_,rfl,?_⟩⟩
  obtain rfl:y=((Ord.off out (st.may m o):Nat):Int):=by rw [ey];exact iE _ _
  have z:=FG AK (wu (s:=st) (o:=o) q3)
  by_cases hf:out &&& st.may m o=out
  . refine fz (by rw [z.mpr hf];rfl) (k3 ho hf H2 (s1.trans s2))
  . refine wj (λ _=>⟨Mn,(k2 ho hf).plain (s1.trans s2)⟩) (λ q=>absurd (z.mp ?_) hf)
    have q:((Ord.off out (st.may m o):Nat):Int)=0:=fu.mp q
    exact_mod_cast q
theorem jz (T:Txt K mg Ad):pV P w K mg base Ad.Walk "look_at_warmth" 3 ["self","room","least","greatest","warmth"] [] (My K Ad.aO Ad.Walk Ad.cx):=by
 refine T.kP.Ls kg (λ vs H Q E h=>?_) (λ _ _ _ _ _ _ us hl=>Hf hl λ _ _ _ _ _=>rfl) (λ f _ _ _ s H vs Q E hr h=>?_)
 . obtain ⟨x,fp,m,st,g,i,v1,v2,v3,f1,f2,f3,rfl,_⟩:=h
   rfl
 .
  obtain ⟨x,fp,m,st,g,i,v1,v2,v3,f1,f2,f3,rfl,⟨dx,hd,q,hx,hh,hs,nx⟩,d1,d2,d3,o1,o2,o3,kt,kf⟩:=h
  refine ⟨_,(al (bx (PW.pt (tJ (ce (am (eU (K:=K) T) hr.m (aa (pv 4) (aa (pv 2) af)))) (px (ce (am (eU (K:=K) T) hr.m (aa (pv 3) (aa (pv 4) af))))))) (al (vj rfl T.Fq (A1 (K:=K) T) hr.m (CQ λ _ _ _ z=>z) (aa (pv 1) (aa (aU (pv 0) rfl) af)))) aI)),?_⟩
  try dsimp only [d7,aK]
  obtain ⟨p1,rfl,w1⟩:=d1.fr
  obtain ⟨p2,rfl,w2⟩:=d2.fr
  obtain ⟨p3,rfl,w3⟩:=d3.fr
  refine ⟨_,rfl,_,rfl,p3,p1,_,_,_,_,rfl,w3,w1,o3.t,o3.b,o1.t,o1.b,_,rfl,?_⟩
  show if aW f3 f1=true then _ else _
  cases c1:aW f3 f1 with
  | true =>
    have kt:gW Ad.cx (ap i) (.int g) H E:=kt (by rw [c1];rfl)
    exact iW (iW ⟨_,rfl,_,rfl,x,_,dx,_,_,rfl,hx,T.bJ,T.fj,rfl,kt.raised (aA.refl _)⟩)
  | false =>
    refine gz ⟨_,rfl,_,rfl,p2,p3,_,_,_,_,rfl,w2,w3,o2.t,o2.b,o3.t,o3.b,_,rfl,?_⟩
    show if aW f2 f3=true then _ else _
    cases c2:aW f2 f3 with
    | true =>
      have kt:gW Ad.cx (ap i) (.int g) H E:=kt (by rw [c1,c2];rfl)
      exact iW ⟨_,rfl,_,rfl,x,_,dx,_,_,rfl,hx,T.bJ,T.fj,rfl,kt.raised (aA.refl _)⟩
    | false=>exact gz (kf (by rw [c1,c2];rfl) H (aA.refl _))
theorem tf (T:Txt K mg Ad):Def P w K mg base "touched" 5 ["hold","room","least","greatest"] (CT K Ad.aO):=by
 refine T.Dk.cD sV λ f bq A outer s H vs Q E hr h=>?_
 obtain ⟨a,fp,m,i,r,v1,v2,f1,f2,rfl,hh,QD,d1,d2,o1,o2,k⟩:=h
 refine ⟨_,(ac (aE (i:=4) sV.nd rfl (lc rfl) (aR (pv 0) T.aC (e8 (K:=K) T) .nil hr.m (aa (pv 1) af)))
     (al (aF (jE ["band"] ["greatest","least","marks"] [3,2,4] (.cons ⟨rfl,rfl,.inl rfl⟩ (.cons ⟨rfl,rfl,.inl rfl⟩ (.cons ⟨rfl,rfl,.inl rfl⟩ .nil))) rfl (bM rfl T.cI (aa (ay dC (aX bI (by rfl) T.f8 dJ (aa (pv 4) af)) ah) af)) (λ _ _ _ _ _=>(aG (i:=0) (show (["band","greatest","least","marks"]:List Str).Nodup by decide +kernel) rfl (lc rfl))) (λ _ _ _ _ _=>(lV (PW.pt (Be (dX (ce (am (eU (K:=K) T) hr.m (aa (pv 1) (aa (aB (gO (K:=K) rfl) (pv 3) (pv 0) (λ _ _=>rfl)) af))))) (xa (dX (ce (am (eU (K:=K) T) hr.m (aa (aB (gO (K:=K) rfl) (pv 3) (ay aJ (pv 0) ah) (λ _ _=>rfl)) (aa (pv 2) af)))))))))) (λ _ _ _ _ _=>(pv 0)) rfl (by decide +kernel) (by decide +kernel) (by decide +kernel))))),?_⟩
 try dsimp only [d7,aK]
 obtain ⟨⟨dx,pm,pf,ps,pt,vm,vs,vt,az,oF,ha,_⟩,lsk,lst,l4,wf⟩:=id hh
 have SY:r∈m.rows:=ad5 QD
 have hl:=wf.len r SY
 have zD:=wf.rows r SY
 refine ⟨_,rfl,a,dx,_,rfl,ha,rfl,_,rfl,a,fp,m,i,r,rfl,hh,QD,λ p xs hp Dm=>?_⟩
 have S1:aA H (upd H p (.lst xs)):=ak hp
 have kp:(upd H p (.lst xs)) p=some (.lst xs):=ag
 have D1:=bT.same S1 _ Dm
 have e1:=Dn.same S1 _ d1
 have e2:=Dn.same S1 _ d2
 generalize upd H p (.lst xs)=H1 at S1 kp D1 e1 e2 ⊢
 have lx:xs.length=r.length:=by rw [Dm.length,AM]
 obtain ⟨p1,rfl,q1⟩:=e1.fr
 obtain ⟨p2,rfl,q2⟩:=e2.fr
 refine ⟨_,rfl,_,_,rfl,.inl (aT.of kp),λ y ey=>?_⟩
 have hn:2<=r.length/\r.length<=7:=hl
 refine ⟨_,_,rfl,rfl,λ z ez=>⟨_,rfl,by lia,by lia,λ D hD=>?_⟩⟩
 obtain ⟨n,en⟩:∃ n:Nat,z=(n:Int)/\n+1=r.length:=⟨r.length - 1,by lia,by lia⟩
 obtain ⟨rfl,en⟩:=en
 refine fe (lo:=0) (n:=n) (λ j acc U H'=>A4 (aA H1 H') (H' D=some (.lst acc)) (acc=(j1 r f1 f2 j).map ap) (∃ v,U=[v,some (.ref p2),some (.ref p1),some (.ref p)]))
   ⟨ak hD,ag,rfl,none,rfl⟩ ?_ ?_
 .
  rintro j acc U H' hj ⟨s2,jW,rfl,v,rfl⟩
  have hjr:j<r.length:=by lia
  have Mv:j+1<r.length:=by lia
  obtain ⟨x,ex,PR⟩:=(bT.same s2 _ D1).get (i:=j) (d:=dR r[j]) (by rw [T1,aq hjr];rfl)
  obtain ⟨x',YO,xq⟩:=(bT.same s2 _ D1).get (i:=j+1) (d:=dR r[j+1]) (by rw [T1,aq Mv];rfl)
  obtain ⟨u1,rfl,w1⟩:=PR.fr
  obtain ⟨u2,rfl,w2⟩:=xq.fr
  have Jq:=(zD r[j] (ab8 hjr)).mono (n:=1000) (by decide)
  have Nh:=(zD r[j+1] (ab8 Mv)).mono (n:=1000) (by decide)
  have q1':=s2.tup q1
  have q2':=s2.tup q2
  have kp':=s2 _ _ kp
  have et:lJ r f1 f2 j=((!aW f2 r[j]) && !aW r[j+1] f1):=by
    unfold lJ
    rw [OQ,OQ,aq hjr,aq Mv];rfl
  have la:=pS r f1 f2 j
  refine ⟨_,rfl,_,rfl,_,rfl,_,_,_,_,rfl,rfl,.inl (aT.of kp'),by rw [ad8];exact bA ex,p2,u1,_,_,_,_,rfl,q2',w1,o2.t,o2.b,Jq.t,Jq.b,_,rfl,?_⟩
  show if (!aW f2 r[j])=true then _ else _
  cases c1:aW f2 r[j] with
  | true =>
    refine gz (gz ⟨s2,jW,?_,_,rfl⟩)
    rw [kE,et,c1];simp
  | false =>
    refine iW ⟨_,rfl,_,rfl,_,_,rfl,rfl,λ y1 ey1=>⟨_,_,_,_,rfl,rfl,.inl (aT.of kp'),by rw [ey1,ad8];exact bA (j:=j+1) YO,_,rfl,u2,p1,_,_,_,_,rfl,w2,q1',Nh.t,Nh.b,o1.t,o1.b,_,rfl,?_⟩⟩
    show if (!aW r[j+1] f1)=true then _ else _
    cases c2:aW r[j+1] f1 with
    | true =>
      refine gz ⟨s2,jW,?_,_,rfl⟩
      rw [kE,et,c1,c2];simp
    | false =>
      refine iW ⟨_,rfl,jW,aN (by rw [AM];lia),s2.put hD,ag,?_,_,rfl⟩
      rw [kE,et,c1,c2,YT,ad8];rfl
 .
  rintro acc U H' ⟨s2,jW,rfl,v,rfl⟩
  have e:n=r.length - 1:=by lia
  rw [e] at jW
  exact k D H' (S1.free hD) (S1.trans s2) jW
theorem Dd (T:Txt K mg Ad):Def P w K mg base "within" 5 ["hold","room","least","greatest"] (Ei K Ad.aO):=by
 refine T.E1.cD uW λ f bq A outer s H vs Q E hr h=>?_
 obtain ⟨a,fp,m,i,r,v1,v2,f1,f2,rfl,hh,QD,d1,d2,o1,o2,k⟩:=h
 refine ⟨_,(ac (aE (i:=4) uW.nd rfl (lc rfl) (aR (pv 0) T.aC (e8 (K:=K) T) .nil hr.m (aa (pv 1) af)))
     (al (aF (pi (vO (am (eU (K:=K) T) hr.m (aa (pv 2) (aa (aB au (pv 4) ah (λ _ _=>rfl)) af)))) (pI (vO (am (eU (K:=K) T) hr.m (aa (aB au (pv 4) (nE vZ ah) (λ _ _=>rfl)) (aa (pv 3) af))))))))),?_⟩
 try dsimp only [d7,aK]
 obtain ⟨⟨dx,pm,pf,ps,pt,vm,vs,vt,az,oF,ha,_⟩,lsk,lst,l4,wf⟩:=id hh
 have SY:r∈m.rows:=ad5 QD
 have hl:=wf.len r SY
 have zD:=wf.rows r SY
 refine ⟨_,rfl,a,dx,_,rfl,ha,rfl,_,rfl,a,fp,m,i,r,rfl,hh,QD,λ p xs hp Dm=>?_⟩
 have S1:aA H (upd H p (.lst xs)):=ak hp
 have kp:(upd H p (.lst xs)) p=some (.lst xs):=ag
 have D1:=bT.same S1 _ Dm
 have e1:=Dn.same S1 _ d1
 have e2:=Dn.same S1 _ d2
 generalize upd H p (.lst xs)=H1 at S1 kp D1 e1 e2 ⊢
 have lx:xs.length=r.length:=by rw [Dm.length,AM]
 obtain ⟨p1,rfl,q1⟩:=e1.fr
 obtain ⟨p2,rfl,q2⟩:=e2.fr
 have h0:0<r.length:=by lia
 have h1:r.length - 1<r.length:=by lia
 obtain ⟨x,ex,PR⟩:=D1.get (i:=0) (d:=dR r[0]) (by rw [T1,aq h0];rfl)
 obtain ⟨x',YO,xq⟩:=D1.get (i:=r.length - 1) (d:=dR r[r.length - 1]) (by rw [T1,aq h1];rfl)
 obtain ⟨u1,rfl,w1⟩:=PR.fr
 obtain ⟨u2,rfl,w2⟩:=xq.fr
 have Jq:=(zD r[0] (ab8 h0)).mono (n:=1000) (by decide)
 have Nh:=(zD r[r.length - 1] (ab8 h1)).mono (n:=1000) (by decide)
 have et:jp r f1 f2=((!aW f1 r[0]) && !aW r[r.length - 1] f2):=by
   unfold jp
   rw [OQ,OQ,aq h0,aq h1];rfl
 have kk:=k H1 S1
 rw [et] at kk
 refine ⟨_,rfl,_,rfl,_,_,_,_,rfl,rfl,.inl (aT.of kp),bA (j:=0) ex,p1,u1,_,_,_,_,rfl,q1,w1,o1.t,o1.b,Jq.t,Jq.b,_,rfl,_,rfl,?_⟩
 show if (!aW f1 r[0])=true then _ else _
 cases c1:aW f1 r[0] with
 | true =>
   rw [c1] at kk
   exact gz kk
 | false =>
   rw [c1] at kk
   refine iW ⟨_,rfl,_,rfl,_,_,_,_,rfl,rfl,.inl (aT.of kp),Kf (by lia) (by rw [lx];exact YO),_,rfl,u2,p2,_,_,_,_,rfl,w2,q2,Nh.t,Nh.b,o2.t,o2.b,_,rfl,?_⟩
   show Q (.bl (!aW r[r.length - 1] f2)) H1
   exact kk
set_option maxHeartbeats 0 in
theorem yZ (T:Txt K mg Ad):IQ P w K mg base Ad.Walk "go" "Walk.go" gH (.ref Ad.pA) 10 ["self","order","out","bands","warmths"] (AE K Ad.aO Ad.Walk Ad.lS Ad.iA Ad.cx Ad.cK):=by
 refine T.Ee.afn gK (λ vs H Q E h=>?_) (λ f _ _ _ s H vs Q E hr h=>?_)
 . obtain ⟨x,fp,m,st,g,o,out,pb,zs,vw,ws,rfl,_⟩:=h
   rfl
 .
  obtain ⟨x,fp,m,st,g,o,out,pb,zs,vw,ws,rfl,hw,so,AK,hz,lz,Yi,Dy,tn,k1,k2,k3⟩:=h
  refine ⟨_,(ac (bg (xB (pv 0) T.bJ (kr (K:=K) T).y hr.m (Ci λ _ _ _ z=>z) (aa (pv 1) (aa (pv 2) af))))
    (ac (cW PassesOwn.leaving rfl (bM rfl T.cI (aa (cZ (aU (pv 0) rfl) T.aC (bY (K:=K) T) .nil hr.m) af)) (aG (i:=5) gK.nd rfl (lc rfl)) (ac (js (aR (pv 0) T.bJ (tR (K:=K) T) .nil hr.m (aa (pv 5) (aa (ay gM (pv 1) (nE rW (pv 2))) af))) (fN (K:=K) (n:=2) rfl rfl (bh (aG (i:=6) gK.nd rfl (lc rfl)) (bh (aG (i:=7) gK.nd rfl (lc rfl)) fT))))
    (ac (lD (bx (aP qG (pv 4) gu (aV _)) (ac (bg (xB (pv 0) T.bJ (jz (K:=K) T).y hr.m (Ci λ _ _ _ z=>z) (aa (pv 5) (aa (pv 6) (aa (pv 7) (aa (aB au (pv 4) (pv 5) (λ _ _=>rfl)) af))))))
    (ac (aE (i:=6) gK.nd rfl (lc rfl) (aB au (pv 4) (pv 5) (λ _ _=>rfl)))
    (al (aE (i:=7) gK.nd rfl (lc rfl) (aB au (pv 4) (pv 5) (λ _ _=>rfl)))))) aI))
    (al (bx (aP nH (aB au (pv 3) (pv 5) (λ _ _=>rfl)) (am (tf (K:=K) T) hr.m (aa (aU (pv 0) rfl) (aa (pv 5) (aa (pv 6) (aa (pv 7) af))))) (by with_unfolding_all rfl)) (al (vj rfl T.EL (BQ (K:=K) T) hr.m (CQ λ _ _ _ z=>z) (aa (pv 5) (aa (aU (pv 0) rfl) af)))) aI)))))
    (ac (dY (pv 0) (ay CG (cm (aa (cX xH (by rfl) T.kn iM (aa (pv 3) af)) af)) (am (rn (K:=K) T) hr.m (aa (aU (pv 0) rfl) (aa (aU (pv 0) rfl) (aa (pv 1) (aa (pv 2) af)))))) rfl)
    (al (DS (pv 0) ah MK))))),?_⟩
  try dsimp only [d7,aK]
  first|(refine c7 ?_;intro _ _ _ _ _)|skip
  obtain ⟨dx,hd,q,hx,hh,hs,nx⟩:=id hw
  obtain ⟨⟨dxh,_,_,_,_,_,_,_,_,_,hah,_⟩,q1,q2,q3,q4⟩:=id hh
  refine ⟨_,rfl,x,dx,_,rfl,hx,rfl,_,rfl,_,rfl,x,fp,m,st,g,o,out,rfl,hw,so,AK,k1,k2,λ ho hf H1 s1=>?_⟩
  obtain ⟨k4,k5⟩:=k3 ho hf
  have tn:=tn ho hf
  have HD:=s1 _ _ hx
  have bits:∀ i,(Ord.off o out).testBit i=true->m.has i=true:=λ i h=>(tn.M4 (tn.LM h).1).2
  refine ⟨_,rfl,x,_,dx,_,_,rfl,HD,T.bJ,T.dZ,rfl,hd,dxh,_,rfl,s1 _ _ hah,rfl,hd,fp,m,rfl,hh.same s1,_,rfl,by lia,by lia,?_⟩
  refine iR (lo:=0) (n:=m.rows.length) (λ i U H'=>A3 (aA H H') (∀ j,j<i->roomF m st (Ord.off o out) zs ws j=none) (E3 λ x5 x6 x7=>U=[some (.ref x),some (ap o),some (ap out),some (.ref pb),some vw,x5,x6,x7]))
    ⟨s1,λ j hj=>absurd hj (an4 _),none,none,none,rfl⟩ ?_ ?_
  .
   rintro _ i U H2 hi ⟨S2,hF,x5,x6,x7,rfl⟩
   have KU:=S2 _ _ hx
   refine ⟨_,rfl,x,dx,_,rfl,KU,rfl,_,rfl,_,rfl,_,rfl,_,rfl,_,_,rfl,rfl,λ y ey=>?_⟩
   obtain rfl:y=((Ord.off o out:Nat):Int):=by rw [ey];exact iE _ _
   refine ⟨x,fp,m,st,g,i,Ord.off o out,by rw [ad8];rfl,hw.same S2,so,hi,bits i,λ qq q1 q2 H3 s3 e0 e1 e2=>?_⟩
   refine ⟨qq,_,rfl,bP.of e0,rfl,_,_,rfl,_,_,rfl,rfl,?_⟩
   have S3:=S2.trans s3
   obtain ⟨NL,okU⟩:=Dy i ((Ord.off o out).testBit i) hi (bits i)
   have qj:=aq (show i<m.rows.length by lia)
   have EZ:m.rows.getD i []=m.rows[i]:=by rw [OQ,qj];rfl
   refine ⟨λ σ' H'=>aA H H'/\(E4 λ pl pg f1 f2=>A6 (bP K H' pl [.int (f1:bW).1,.int f1.2]) (bP K H' pg [.int (f2:bW).1,.int f2.2]) (dU 1000 f1) (dU 1000 f2) (roomF m st (Ord.off o out) zs ws i=if zs.getD i 0∈(dW (m.rows.getD i []) f1 f2).map (λ n:Nat=>(n:Int)) then none else some false) (σ'=[some (.ref x),some (ap o),some (ap out),some (.ref pb),some vw,some (.int (0+(i:Int))),some (.ref pl),some (.ref pg)])),?_,?_⟩
   .
    refine ⟨_,rfl,rfl,_,rfl,?_⟩
    cases ws with
    | none =>
      have e:vw = .b9:=Yi
      subst e
      exact fz rfl ⟨S3,q1,q2,_,_,bP.of e1,bP.of e2,NL,okU,wH,rfl⟩
    | some l =>
      obtain ⟨pw,ys,rfl,hp,dl,ll,okl⟩:=Yi
      refine wj (λ _=>?_) (λ q=>nomatch q)
      have Tz:i<l.length:=by lia
      obtain ⟨v,ev,dv⟩:=(bT.same S3 _ dl).get (i:=i) (d:=dR (l.getD i (0,1))) (by rw [T1,aq Tz,OQ,aq Tz];rfl)
      have okv:dU 1000 (l.getD i (0,1)):=by rw [OQ,aq Tz];exact okl _ (ab8 Tz)
      have OY:tN ys (0+(i:Int))=some v:=by rw [ad8];exact fF ev
      have OV:=S3 _ _ hx
      refine ⟨_,rfl,x,dx,_,rfl,OV,rfl,_,rfl,_,rfl,_,rfl,_,rfl,_,rfl,pw,_,_,_,rfl,rfl,.inl (S3.seq hp),OY,x,fp,m,st,g,i,.ref q1,.ref q2,v,_,_,_,by rw [ad8];rfl,hw.same S3,iQ (bP.of e1),iQ (bP.of e2),dv,NL,okU,okv,λ c=>?_,λ c H4 s4=>?_⟩
      . have:=k4 i true hi (by rw [qN,acS c]) hF
        exact this.same S3
      . have S4:=S3.trans s4
        obtain ⟨pv,rfl,hpv⟩:=dv.fr
        exact ⟨_,rfl,_,rfl,pw,_,_,_,rfl,rfl,.inl (S4.seq hp),OY,_,rfl,_,rfl,pw,_,_,_,rfl,rfl,.inl (S4.seq hp),OY,S4,pv,pv,_,_,s4.tup hpv,s4.tup hpv,okv,okv,by rw [qN,acO (by rw [c];exact abZ)],rfl⟩
   rintro σ' H4 ⟨S4,pl,pg,f1,f2,w1,w2,Jq,Nh,eF,rfl⟩
   have ER:=S4 _ _ hx
   have hz4:aT K H4 pb (zs.map V.int)∨bP K H4 pb (zs.map V.int):=hz.imp S4.seq S4.tup
   refine ⟨_,rfl,_,rfl,pb,_,_,_,rfl,rfl,hz4,by rw [ad8];exact fF (by rw [T1,O5 (show i<zs.length by lia)];rfl),?_⟩
   refine ⟨_,rfl,x,_,dx,_,_,rfl,ER,T.bJ,T.dZ,rfl,_,rfl,_,rfl,_,rfl,hd,fp,m,i,m.rows[i],.ref pl,.ref pg,f1,f2,by rw [ad8];rfl,hh.same S4,qj,iQ w1,iQ w2,Jq,Nh,λ pt H5 _ s5 ht=>?_⟩
   refine ⟨pt,_,rfl,.inl (aT.of ht),rfl,uB _,_,rfl,?_⟩
   have ei:(if true=true then !HB (V.int (zs.getD i 0)) ((dW m.rows[i] f1 f2).map ap) else HB (V.int (zs.getD i 0)) ((dW m.rows[i] f1 f2).map ap)) = !decide (zs.getD i 0∈(dW m.rows[i] f1 f2).map (λ n:Nat=>(n:Int))):=by rw [acS rfl];exact anv _ (FP _ _)
   rw [ei]
   rw [EZ] at eF
   have S5:=S4.trans s5
   refine wj (λ hn=>?_) (λ hm=>?_)
   . have t2:gW Ad.cK (.int (0+(i:Int))) (.int g) H E:=by
       rw [ad8]
       exact k4 i false hi (by rw [eF,acO hn]) hF
     have t3:=t2.raised S5
     exact ⟨_,rfl,_,rfl,x,_,dx,_,_,rfl,S5 _ _ hx,T.bJ,T.fj,rfl,t3⟩
   . refine ⟨S5,λ j hj=>?_,_,_,_,rfl⟩
     by_cases e:j<i
     . exact hF j e
     . obtain rfl:j=i:=by lia
       rw [eF,acS hm]
  rintro U H2 ⟨S2,hF,x5,x6,x7,rfl⟩
  have KU:=S2 _ _ hx
  have OM:aT K H2 pb (zs.map V.int)∨bP K H2 pb (zs.map V.int):=hz.imp S2.seq S2.tup
  refine ⟨_,rfl,pb,_,rfl,OM,λ qb H3 s3 hqb=>⟨Mn,λ pt eQ=>?_⟩⟩
  have s4:=ak (o:=.tup [.ref qb]) eQ
  have e4:(upd H3 pt (.tup [.ref qb])) pt=some (.tup [.ref qb]):=ag
  generalize upd H3 pt (.tup [.ref qb])=H4 at s4 e4 ⊢
  have S4:=(S2.trans s3).trans s4
  have ER:=S4 _ _ hx
  refine ⟨_,rfl,x,_,dx,_,_,rfl,ER,T.bJ,T.dZ,rfl,_,rfl,x,_,dx,_,_,rfl,ER,T.bJ,T.di,rfl,_,rfl,_,rfl,hd,fp,m,q,st,o,out,rfl,hh.same S4,hs.same S4,so,λ i h=>tn.has h,tn.LR,tn.Mi,λ qt pw pf H5 s5 e1 e2 e3=>?_⟩
  have S5:=S4.trans s5
  refine ⟨pt,qt,_,_,rfl,rfl,bP.of (s5 _ _ e4),bP.of e1,nofun,(by show 1+4<=sizeLine;decide),nofun,λ _ pn hpn=>?_⟩
  have s6:=ak (o:=.tup ([.ref qb]++[ap (Ord.off o out),.ref pw,.ref pf,ap (st.kO m (Ord.off o out)).toNat])) hpn
  have e6:(upd H5 pn (.tup ([.ref qb]++[ap (Ord.off o out),.ref pw,.ref pf,ap (st.kO m (Ord.off o out)).toNat]))) pn=some (.tup ([.ref qb]++[ap (Ord.off o out),.ref pw,.ref pf,ap (st.kO m (Ord.off o out)).toNat])):=ag
  generalize upd H5 pn (.tup ([.ref qb]++[ap (Ord.off o out),.ref pw,.ref pf,ap (st.kO m (Ord.off o out)).toNat]))=H6 at s6 e6 ⊢
  have S6:=S5.trans s6
  have B0:jt K Ad.Walk x dx H6 H6 (OS hd q g):=.start (S6 _ _ hx)
  refine ⟨_,rfl,x,_,dx,_,rfl,B0.at_,T.bJ,T.di,lt1000 rfl,?_⟩
  have B1:=B0.put (fs':=bD "place" (.ref pn) (OS hd q g))
  refine ⟨_,rfl,x,_,dx,_,_,rfl,B1.at_,T.bJ,T.fj,rfl,_,_,rfl,rfl,_,_,B1.at_,lt1000 rfl,?_⟩
  have B2:=B1.put (fs':=bD "gone" (.int (g+1)) (bD "place" (.ref pn) (OS hd q g)))
  have nn:∀ z∈zs,0<=z:=λ z Jh=>by
    obtain ⟨j,hj,rfl⟩:=anm Jh
    have:=(Bs (hF j (by lia))).1
    rw [OQ,aq hj] at this
    exact this
  have mO:gd K H6 pn (st.behind m (zs.map Int.toNat) o out):=by
    have s56:=s5.trans s6
    refine ⟨qb,pw,pf,bP.of e6,?_,bP.of (s6 _ _ e2),bP.of (s6 _ _ e3)⟩
    have:=(s4.trans s56).tup hqb
    rw [Dt nn] at this
    exact this
  refine k5 (λ i hi=>hF i hi) _ (λ c u hc n=>B2.st c u (S6 c u hc) (λ z=>n (by rw [z];exact List.mem_singleton.mpr rfl))) ((aA.ts S6).trans B2.ts) ⟨dx,hd,pn,B2.at_,(hh.same S6).IS B2.st B2.ts nx,mO.ts B2.ts,nx⟩
theorem ui (T:Txt K mg Ad):uD P w K mg base Ad.Walk "go" 10 ["self","order","out","bands","warmths"] [] (AE K Ad.aO Ad.Walk Ad.lS Ad.iA Ad.cx Ad.cK) :=
 (yZ T).PP T.C9 λ items hv=>by
   obtain ⟨u1,e,r1⟩:=vals1 hv
   obtain ⟨l⟩:=items
   have e:l=[u1]:=e
   subst e
   exact ⟨[],.nil,λ _ _ _ _ _ _ us hl=>match us,hl with | [_,_,_,_,_],_=>⟨_,rfl,rfl⟩⟩
theorem GI {K:W.Frag} {H:Hp} {p q:Addr} {l:List Nat} {Q:VK} (hx:aT K H p (l.map ap)) (hy:aT K H q []) (k:Q (.bl (decide (l=[]))) H):Jj K (.ref p) (.ref q) H Q:=by
 refine ⟨.list (l.map jw),.list [],J9 hx,vN hy fU,fX (n:=1) JG (by decide),fX (n:=1) (show ∀ d∈([]:List PyData),CP 0 d from nofun) (by decide),?_⟩
 have:PyData.eqv (.list (l.map jw)) (.list [])=decide (l=[]):=by cases l<;>simp [PyData.eqv,PyData.eqvAll]
 rw [this];exact k
theorem yA (T:Txt K mg Ad):Def P w K mg base "_law_mild" 2 ["_law_told","_law_cell"] (KC K):=by
 refine T.BL.cD pJ λ f bq A outer s H vs Q E hr h=>?_
 obtain ⟨p,m,H0,n,c,rfl,ok,S0,hT,k⟩:=h
 refine ⟨_,(ac (lD (bx (aP xC (am (aM (K:=K) T) hr.m (aa (pv 1) (aa ah (aa ah af)))) ah (aV _)) (al (cW afP rfl (cV (bB (ck hr) (pv 0) bE (λ _ _=>rfl))) (aG (i:=2) pJ.nd rfl (lc rfl)) (ac (js (nE vZ ah) (wR (pv 2) ah set_list))
     (al (js ah (wR (pv 2) (nE vZ ah) set_list)))))) aI))
     (al (aF (pv 0)))),?_⟩
 try dsimp only [d7,aK]
 obtain ⟨pm,ps,pt,pf,fE,pb,vm,vs,vt,az,C0,jT,rfl,lp,nd,hf⟩:=hT
 refine ⟨λ σ' H'=>(∃ m',A3 (ar.Ok n n m') (aA H0 H') (iK K H' p m'))/\∃ (v2:Option V),σ'=[some (.ref p),some (.int c),v2],?_,?_⟩
 case refine_2 =>
   rintro σ' H' ⟨⟨m',mn,S',hT'⟩,v2,rfl⟩
   exact ⟨_,rfl,k H' m' mn S' hT'⟩
 refine ⟨_,rfl,c,45,3,rfl,by decide,by decide,by decide,λ r a0 a1=>⟨_,_,rfl,rfl,_,rfl,k9 (λ h=>?_) (λ h=>?_)⟩⟩
 .
  have lpn:jT.length=n:=by rw [lp,ok.lm]
  refine ⟨_,rfl,p,_,rfl,bZ C0.hp,pm,rfl,⟨_,aT.of C0.d5⟩,?_⟩
  have nl:pm∉jT:=λ z=>by
    obtain ⟨j,hj,e⟩:=anm z
    have Ka:j<m.marks.length:=by lia
    exact (hf j pm m.marks[j] (by rw [afY hj,e]) (afY Ka)).2.1 (by simp)
  refine jA (K:=K) (a:=pm) (xs:=jT.map V.ref) (λ i U H'=>CV K H0 H [p,pm,ps,pt,pf] jT m.marks i H'/\∃ (v2:Option V),U=[some (.ref p),some (.int c),v2])
    ⟨⟨S0,bw.refl _,λ b o hb _=>hb,λ j pk l h1 h2=>by rw [acO (an4 _)];exact (hf j pk l h1 h2).1⟩,none,rfl⟩ (λ i U H' _ e=>aT.of (e.1.but _ _ C0.d5 nl)) ?_ ?_
  .
   rintro _ i x U H1 hx ⟨M1,v2,rfl⟩
   rw [T1] at hx
   obtain ⟨pk,oC,rfl⟩:=Option.map_eq_some_iff.mp hx
   have hi:i<jT.length:=(List.getElem?_eq_some_iff.mp oC).1
   have hl:m.marks[i]?=some (m.marks[i]'(by lia)):=afY _
   have r1:=M1.rows i pk _ oC hl
   rw [acO (ajM _)] at r1
   obtain ⟨_,nL,h0,_⟩:=hf i pk _ oC hl
   have l2:=(ok.rows _ (ad5 hl)).two
   have N2:0<(List.map V.int (m.marks[i]'(by lia))).length:=by rw [AM];lia
   refine ⟨_,rfl,_,rfl,pk,_,0,0,rfl,rfl,r1,Xd N2,?_⟩
   refine ⟨_,rfl,_,rfl,pk,_,-1,_,rfl,rfl,ag,Ob (by rw [aln];exact N2),?_⟩
   exact ⟨M1.put nd oC hl h0 nL,_,rfl⟩
  . rintro U H1 ⟨M1,v2,rfl⟩
    rw [AM,lpn] at M1
    obtain ⟨C1,Jq⟩:=M1.told C0 ok lpn (λ j pk l h1 h2=>⟨(hf j pk l h1 h2).2.1,(hf j pk l h1 h2).2.2.2⟩)
    exact ⟨⟨_,Jq,M1.same,⟨pm,ps,pt,pf,fE,pb,_,vs,vt,az,C1⟩⟩,_,rfl⟩
 . exact ⟨⟨m,ok,S0,⟨pm,ps,pt,pf,fE,pb,_,vs,vt,az,C0⟩⟩,_,rfl⟩
theorem sN (T:Txt K mg Ad):Def P w K mg base "each_choice" 1 ["rows"] (AG K):=by
 refine T.um.cD dL λ f bq A outer s H vs Q E hr h=>?_
 obtain ⟨p,xs,rows,rfl,hp,hrs,l4,l6,k⟩:=h
 refine ⟨_,(ac (aE (i:=1) dL.nd rfl (lc rfl) (cL (aa (cm af) af)))
     (ac (cW afP rfl (cV (pv 0)) (aG (i:=2) dL.nd rfl (lc rfl)) (ac (aE (i:=3) dL.nd rfl (lc rfl) (cL af))
     (ac (cW afP rfl (cV (pv 1)) (aG (i:=4) dL.nd rfl (lc rfl)) (al (bg (je afF ape apd vi (pv 3) (aa (jE ["band"] ["choice"] [4] (.cons ⟨rfl,rfl,.inl rfl⟩ .nil) rfl (cV (pv 2)) (λ _ _ _ _ _=>(aG (i:=0) (show (["band","choice"]:List Str).Nodup by decide +kernel) rfl (lc rfl))) (λ _ _ _ _ _=>eE) (λ _ _ _ _ _=>(ay (y0 (K:=K) rfl) (pv 1) (cm (aa (pv 0) af)))) rfl (by decide +kernel) (by decide +kernel) (by decide +kernel)) af)))))
     (al (aE (i:=1) dL.nd rfl (lc rfl) (pv 3))))))
     (al (aF (pv 1))))),?_⟩
 try dsimp only [d7,aK]
 first|(refine dE ?_;intro _ _ _ _)|skip
 refine ⟨JZ,λ t0 Yu=>⟨Mn,λ pc Zh=>?_⟩⟩
 have s0:=ak (o:=.tup []) Yu
 have s1:=ak (o:=.lst [.ref t0]) Zh
 refine ⟨_,rfl,p,rfl,⟨_,(s0.trans s1).seq hp⟩,?_⟩
 have lx:=hrs.length
 refine iU (K:=K) (a:=p) (xs:=xs) (λ i U H'=>aA H H'/\E2 λ q ys=>A3 (H' q=some (.lst ys)) (Jt K H' ys (bR (rows.take i))) (E3 λ (v2 v3 v4:Option V)=>U=[some (.ref p),some (.ref q),v2,v3,v4]))
   ⟨s0.trans s1,pc,[.ref t0],ag,Refs.snoc .nil (bP.of (s1 _ _ ag)),none,none,none,rfl⟩ (λ i U H' _ ⟨s2,_⟩=>s2.seq hp) ?_ ?_
 .
  rintro i x U H1 hx ⟨S1,q,ys,hq,hc,v2,v3,v4,rfl⟩
  obtain ⟨qr,r,rfl,er,hqr⟩:=hrs.get hx
  have hi:i<rows.length:=(List.getElem?_eq_some_iff.mp er).1
  have r6:=l6 r (ad5 er)
  have lc:=jd l6 i
  have p6:6 ^ i<=216:=by
    have:=ajz (n:=6) (by decide) (show i<=3 by lia)
    lia
  have enx:bR (rows.take (i+1))=(bR (rows.take i)).flatMap λ c=>r.map λ b=>c++[b]:=by
    rw [cY er,j4]
  have lcs:∀ c∈bR (rows.take i),c.length<=4:=λ c h=>by
    have:=(gb.mp h).1
    rw [ad4] at this
    lia
  generalize bR (rows.take i)=cs at hc lc enx lcs
  rw [enx]
  clear enx
  refine ⟨JZ,λ pl jG=>?_⟩
  have s2:=ak (o:=.lst []) jG
  refine ⟨_,rfl,q,rfl,⟨_,aT.of (s2 _ _ hq)⟩,?_⟩
  refine iU (K:=K) (a:=q) (xs:=ys) (λ j U H'=>aA H1 H'/\∃ zs,A3 (H' pl=some (.lst zs)) (Jt K H' zs ((cs.take j).flatMap λ c=>r.map λ b=>c++[b])) (∃ (v4:Option V),U=[some (.ref p),some (.ref q),some (.ref qr),some (.ref pl),v4]))
    ⟨s2,[],ag,.nil,v4,rfl⟩ (λ j U H' _ ⟨s3,_⟩=>aT.of (s3 _ _ hq)) ?_ ?_
  .
   rintro j y U H2 hy ⟨S2,zs,hz,WM,v4,rfl⟩
   obtain ⟨tc,c,rfl,ec,htc⟩:=hc.get hy
   have hj:j<cs.length:=(List.getElem?_eq_some_iff.mp ec).1
   have Lu:aT K H2 qr (r.map ap):=(S1.trans S2).seq hqr
   have ht2:bP K H2 tc (c.map ap):=S2.tup htc
   have lz:zs.length<=216 * 6:=by
     rw [WM.length]
     refine agB (mX (k:=6) λ a=>by rw [AM];exact r6) ?_
     rw [ad4]
     lia
   rw [cY ec,apM,aps]
   refine ⟨_,rfl,.inl ⟨rfl,_,aT.of hz⟩,_,rfl,qr,rfl,⟨_,Lu⟩,λ D hD=>?_⟩
   refine gL (K:=K) (a:=qr) (xs:=r.map ap) (λ b acc σ' H3=>A4 (aA H2 H3) (H3 D=some (.lst acc)) (Jt K H3 acc ((r.take b).map λ x=>c++[x])) (∃ v,σ'=[v,some (.ref tc)]))
     ⟨ak hD,ag,.nil,none,rfl⟩ (λ b acc σ' H3 _ ⟨s3,_,_,_⟩=>s3.seq Lu) ?_ ?_
   .
    rintro b z acc σ' H3 hb ⟨s3,jO,nF,v,rfl⟩
    obtain ⟨bn,eb,rfl⟩:=dF hb
    have Yo:b<r.length:=(List.getElem?_eq_some_iff.mp eb).1
    have la:acc.length<=6:=by rw [nF.length,AM,ad4];lia
    refine ⟨_,rfl,_,rfl,Mn,λ tb htb=>?_⟩
    have s4:=ak (o:=.tup [ap bn]) htb
    refine ⟨tc,tb,_,_,rfl,rfl,(s3.trans s4).tup ht2,bP.of ag,?_,λ t5 H5 s5 h5=>?_⟩
    . have:=lcs c (ad5 ec)
      exact anY (aN (by rw [AM,ajo];lia))
    . refine ⟨s5 _ _ (s4 _ _ jO),agc la (by decide),((s3.trans s4).trans s5).put hD,ag,?_,_,rfl⟩
      rw [cY eb,YT]
      have ts:bw K H5 (upd H5 D (.lst (acc++[.ref t5]))):=cF (s5 _ _ (s4 _ _ jO)) rfl
      refine Refs.snoc (nF.imp λ p a h=>ts _ _ ((s4.trans s5).tup h)) (ts _ _ ?_)
      rw [YT]
      exact h5
   .
    rintro acc σ' H3 ⟨s3,jO,nF,v,rfl⟩
    rw [AM,ahU] at nF
    have la:acc.length<=6:=by rw [nF.length,AM];exact r6
    have Yh:=s3 _ _ hz
    refine ⟨pl,D,zs,acc,rfl,rfl,Yh,jO,anY (agc (show zs.length+acc.length<=1302 by lia) (by decide)),?_⟩
    have ts:bw K H3 (upd H3 pl (.lst (zs++acc))):=cF Yh rfl
    exact ⟨(S2.trans s3).put jG,_,ag,Refs.append (WM.imp λ p a h=>ts _ _ (s3.tup h)) (nF.imp λ p a h=>ts _ _ h),_,rfl⟩
  . rintro U H2 ⟨S2,zs,hz,WM,v4,rfl⟩
    rw [hc.length,ahU] at WM
    exact ⟨_,rfl,S1.trans S2,pl,zs,hz,WM,_,_,_,rfl⟩
 . rintro U H1 ⟨S1,q,ys,hq,hc,v2,v3,v4,rfl⟩
   rw [anB (by lia)] at hc
   exact ⟨_,rfl,k q ys H1 S1 hq hc⟩
theorem mK (T:Txt K mg Ad):hV P w K mg base Ad.Reach "__init__" 1 ["self","hold"] [] (Ep P w K Ad.aO Ad.Reach):=by
 refine T.oP.gA nr λ f bq A outer s H vs Q E hr h=>?_
 obtain ⟨x,dx,a,fp,m,rfl,hx,hh,nx,k⟩:=h
 refine ⟨_,(ac (dY (pv 0) (pv 1) rfl)
     (al (dY (pv 0) (KE (P:=P) (w:=w) rfl rfl) rfl))),?_⟩
 try dsimp only [d7,aK]
 have B0:jt K Ad.Reach x dx H H []:=.start hx
 refine ⟨_,rfl,_,rfl,x,_,dx,_,rfl,B0.at_,T.db,T.dh,lt1000 rfl,?_⟩
 have B1:=B0.put (fs':=bD "hold" (.ref a) [])
 intro d hd
 have B2:=B1.new (o:=xS P w d []) hd
 refine ⟨_,rfl,x,_,dx,_,rfl,B2.at_,T.db,T.dI,lt1000 rfl,?_⟩
 have B3:=B2.put (fs':=bD "spreads" (.ref d) (bD "hold" (.ref a) []))
 have nd:d≠x:=B1.ne hd
 have hdn:H d=none:=B1.none hd
 refine k d _ (λ c u hc n=>B3.st c u hc λ z=>n (List.mem_singleton.mpr z)) B3.ts hdn ⟨⟨dx,B3.at_⟩,hh.IS B3.st B3.ts nx,λ z=>?_,[],jI.nil (by rw [ax nd];exact ag),aat _,λ i bs f v e=>by cases e⟩
 obtain ⟨o,ho⟩:=hh.some d z
 rw [hdn] at ho
 cases ho
set_option maxHeartbeats 0 in
theorem o4 (T:Txt K mg Ad):hV P w K mg base Ad.Reach "spread" 8 ["self","room","bands","fired"] [] (El P w K Ad.aO Ad.Reach):=by
 refine T.rA.gA d8 λ f bq A outer s H vs Q E hr h=>?_
 obtain ⟨x,d,a,fp,m,c,i,pb,bs,b,L,rfl,Mu,hL,hc,hi,Ez,lb,hb,hf,NL,YI,k⟩:=h
 refine ⟨_,(ac (aE (i:=4) d8.nd rfl (lc rfl) (cm (aa (pv 1) (aa (pv 2) (aa (pv 3) af)))))
     (ac (lD (bx (aP (DV (P:=P) (w:=w) (K:=K) rfl rfl rfl hr.u65) (pv 4) (aU (pv 0) rfl) (by with_unfolding_all rfl)) (ac (js (am (rO (K:=K) T) hr.m (aa (aU (pv 0) rfl) (aa (pv 1) (aa (pv 2) (aa (pv 3) af))))) (fN (K:=K) (n:=2) rfl rfl (bh (aG (i:=5) d8.nd rfl (lc rfl)) (bh (aG (i:=6) d8.nd rfl (lc rfl)) fT))))
     (ac (aE (i:=7) d8.nd rfl (lc rfl) (am (Dd (K:=K) T) hr.m (aa (aU (pv 0) rfl) (aa (pv 1) (aa (pv 5) (aa (pv 6) af))))))
     (al (Kd (P:=P) (w:=w) (K:=K) rfl rfl rfl hr.u65 (aU (pv 0) rfl) (pv 4) (nV (ce (pv 7)) (am (tf (K:=K) T) hr.m (aa (aU (pv 0) rfl) (aa (pv 1) (aa (pv 5) (aa (pv 6) af))))) gu) rfl)))) aI))
     (al (aF (IU (P:=P) (w:=w) (K:=K) rfl rfl rfl hr.u65 (aU (pv 0) rfl) (pv 4) (λ _ _=>rfl)))))),?_⟩
 try dsimp only [d7,aK]
 first|(refine dE ?_;intro _ _ _ _)|skip
 refine ⟨_,rfl,_,rfl,_,rfl,OP,λ tk YL=>?_⟩
 have s1:=ak (o:=.tup [ap i,.ref pb,.bl b]) YL
 have Hs:=Mu.same s1
 have F8:iT K (upd H tk (.tup [ap i,.ref pb,.bl b])) (kU i bs b) tk:=By (bP.of ag) (s1.tup Ez)
 generalize upd H tk (.tup [ap i,.ref pb,.bl b])=H1 at s1 Hs F8 ⊢
 obtain ⟨⟨dx,hx⟩,hh,nd,az,L4,hl,hv⟩:=id Hs
 refine ⟨λ σ' H'=>(E2 λ az v=>A7 (m7 [d] H1 H') (bw K H1 H') (gy P w K Ad.aO Ad.Reach L H' x d a fp m (c+1)) (jI P w K H' d az) (iT K H' (kU i bs b) tk) (kS az (kU i bs b)=some v) (e9 L H' v (eK m i bs b)))/\E3 λ (v5 v6 v7:Option V)=>σ'=[some (.ref x),some (ap i),some (.ref pb),some (.bl b),some (.ref tk),v5,v6,v7],?_,?_⟩
 .
  refine ⟨_,rfl,_,rfl,x,_,dx,_,_,rfl,hx,T.db,T.dI,rfl,d,tk,az,_,rfl,rfl,L4,F8,_,rfl,?_⟩
  cases e:kS az (kU i bs b) with
  | some v=>exact gz ⟨⟨az,v,λ _ _ h _=>h,bw.refl _,Hs.more (anC _),L4,F8,e,hv i bs b v e⟩,none,none,none,rfl⟩
  | none =>
    refine iW ?_
    refine ⟨_,rfl,x,_,dx,_,_,rfl,hx,T.db,T.dh,rfl,_,rfl,_,rfl,_,rfl,a,fp,m,i,pb,bs,b,rfl,hh,hi,.inr (s1.tup Ez),lb,hb,hf,λ q q1 q2 H2 s2 e0 e1 e2=>?_⟩
    refine ⟨q,_,rfl,bP.of e0,rfl,_,_,rfl,_,_,rfl,rfl,?_⟩
    have KU:=s2 _ _ hx
    have qj:=aq hi
    have EZ:m.rows.getD i []=m.rows[i]:=by rw [OQ,qj];rfl
    refine ⟨_,rfl,x,_,dx,_,_,rfl,KU,T.db,T.dh,rfl,_,rfl,_,rfl,_,rfl,a,fp,m,i,m.rows[i],.ref q1,.ref q2,_,_,rfl,hh.same s2,qj,iQ (bP.of e1),iQ (bP.of e2),NL,YI,λ H3 s3=>?_⟩
    have S3:=s2.trans s3
    have OV:=S3 _ _ hx
    have Kt:eK m i bs b=if jp m.rows[i] (fA m i bs b) (fB m i bs b)=true then some (dW m.rows[i] (fA m i bs b) (fB m i bs b)) else none:=by unfold eK;rw [EZ]
    cases ew:jp m.rows[i] (fA m i bs b) (fB m i bs b) with
    | true =>
      rw [ew,acS rfl] at Kt
      refine ⟨_,rfl,_,rfl,iW ⟨_,rfl,x,_,dx,_,_,rfl,OV,T.db,T.dh,rfl,_,rfl,_,rfl,_,rfl,a,fp,m,i,m.rows[i],.ref q1,.ref q2,_,_,rfl,hh.same S3,qj,iQ (bP.of (s3 _ _ e1)),iQ (bP.of (s3 _ _ e2)),NL,YI,λ pt H4 nt s4 ht=>?_⟩⟩
      have S4:=S3.trans s4
      have Xo:e9 L H4 (.ref pt) (eK m i bs b):=by rw [Kt];exact ⟨pt,rfl,λ z=>hL pt z ((s1.trans S3).free nt),ht⟩
      obtain ⟨p1,p2,p3,p4⟩:=(Hs.same S4).put (L4.same S4) hl (λ i bs f v e=>(hv i bs f v e).same S4) (F8.ts S4.ts) Xo
      exact ⟨_,rfl,x,_,dx,_,_,rfl,S4 _ _ hx,T.db,T.dI,rfl,_,rfl,d,tk,az,_,rfl,rfl,L4.same S4,F8.ts S4.ts,agc (agB hl hc) (by decide),⟨_,.ref pt,λ c o e n=>p2 c o (S4 c o e) n,S4.ts.trans p3,p1,(L4.same S4).put (F8.ts S4.ts),(F8.ts S4.ts).ts p3,by rw [tu,acS rfl],p4⟩,_,_,_,rfl⟩
    | false =>
      rw [ew,acO abZ] at Kt
      have Xo:e9 L H3 .b9 (eK m i bs b):=by rw [Kt];rfl
      obtain ⟨p1,p2,p3,p4⟩:=(Hs.same S3).put (L4.same S3) hl (λ i bs f v e=>(hv i bs f v e).same S3) (F8.ts S3.ts) Xo
      exact ⟨_,rfl,_,rfl,gz ⟨_,rfl,x,_,dx,_,_,rfl,OV,T.db,T.dI,rfl,_,rfl,d,tk,az,_,rfl,rfl,L4.same S3,F8.ts S3.ts,agc (agB hl hc) (by decide),⟨_,.b9,λ c o e n=>p2 c o (S3 c o e) n,S3.ts.trans p3,p1,(L4.same S3).put (F8.ts S3.ts),(F8.ts S3.ts).ts p3,by rw [tu,acS rfl],p4⟩,_,_,_,rfl⟩⟩
 .
  rintro σ' H2 ⟨⟨aeB,v,b2,t2,re2,hk2,Rp,ev,DB⟩,v5,v6,v7,rfl⟩
  obtain ⟨xq,KU⟩:=re2.ins
  refine ⟨_,rfl,x,_,xq,_,_,rfl,KU,T.db,T.dI,rfl,_,rfl,d,tk,aeB,_,v,rfl,rfl,hk2,Rp,ev,?_⟩
  exact k v H2 (λ c o e n=>b2 c o (s1 c o e) n) (s1.ts.trans t2) re2 DB
set_option maxHeartbeats 0 in
theorem jN (T:Txt K mg Ad):hV P w K mg base Ad.Reach "states_behind" 9 ["self","state","order"] [] (Ds P w K Ad.aO Ad.Reach):=by
 refine T.kQ.gA bL λ f bq A outer s H vs Q E hr h=>?_
 obtain ⟨x,d,a,fp,m,c,p,st,o,rfl,Mu,hc,hs,so,ow,tn,Dy,k1,k2⟩:=h
 refine ⟨_,(ac (aE (i:=3) bL.nd rfl (lc rfl) (cL af))
     (ac (cW afP rfl (cV (am (ss (K:=K) T) hr.m (aa (am (sO (K:=K) T) hr.m (aa (aU (pv 0) rfl) (aa (pv 1) (aa (pv 2) af)))) af))) (aG (i:=4) bL.nd rfl (lc rfl)) (ac (aE (i:=5) bL.nd rfl (lc rfl) (ay gM (pv 2) (nE rW (pv 4))))
     (ac (rD (yi:=6) ["room"] ["self","state","burning"] [0,1,5] (.cons ⟨rfl,rfl,.inl rfl⟩ (.cons ⟨rfl,rfl,.inl rfl⟩ (.cons ⟨rfl,rfl,.inl rfl⟩ .nil))) rfl (bM rfl T.cI (aa (cZ (aU (pv 0) rfl) T.aC (bY (K:=K) T) .nil hr.m) af)) (λ _ _ _ _ _=>(aG (i:=0) (show (["room","self","state","burning"]:List Str).Nodup by decide +kernel) rfl (lc rfl))) (λ _ _ _ _ _=>eE) (λ _ _ _ _ _=>(aR (pv 1) T.db (o4 (P:=P) (w:=w) T) .nil hr.m (aa (pv 0) (aa (aB (gO (K:=K) rfl) (pv 2) ah (λ _ _=>rfl)) (aa (am (dQ (K:=K) T) hr.m (aa (pv 3) (aa (pv 0) af))) af))))) rfl (by decide +kernel) (by decide +kernel) (by decide +kernel) bL.nd rfl (lc rfl) rfl)
     (ac (bx (aP (Oh (ck hr)) gu (pv 6) (by with_unfolding_all rfl)) (al (aF gu)) aI)
     (ac (aE (i:=7) bL.nd rfl (lc rfl) (am (jL (K:=K) T) hr.m (aa (aU (pv 0) rfl) (aa (pv 1) (aa (pv 2) (aa (pv 4) af))))))
     (al (bg (je afF ape apd vi (pv 3) (aa (jE ["bands"] ["stoves"] [7] (.cons ⟨rfl,rfl,.inl rfl⟩ .nil) rfl (cV (am (sN (K:=K) T) hr.m (aa (pv 6) af))) (λ _ _ _ _ _=>(aG (i:=0) (show (["bands","stoves"]:List Str).Nodup by decide +kernel) rfl (lc rfl))) (λ _ _ _ _ _=>eE) (λ _ _ _ _ _=>(ay (y0 (K:=K) rfl) (cm (aa (pv 0) af)) (pv 1))) rfl (by decide +kernel) (by decide +kernel) (by decide +kernel)) af)))))))))
     (al (aF (pv 3))))),?_⟩
 try dsimp only [d7,aK]
 first|(refine dE ?_;intro _ _ _ _)|skip
 obtain ⟨_,_,_,q3,q4⟩:=id Mu.hold
 refine ⟨JZ,λ ps eR=>?_⟩
 have s1:=ak (o:=.lst []) eR
 have e1:(upd H ps (.lst [])) ps=some (.lst []):=ag
 generalize upd H ps (.lst [])=H1 at s1 e1 ⊢
 obtain ⟨dx,hx⟩:=Mu.ins
 refine ⟨_,rfl,x,_,dx,_,_,rfl,s1 _ _ hx,T.db,T.dh,rfl,_,rfl,_,rfl,a,fp,m,p,st,o,rfl,Mu.hold.same s1,hs.same s1,so,ow,λ H2 s2=>?_⟩
 have S2:=s1.trans s2
 have m16:st.may m o<16:=wu q3
 have ol:=Gh m16
 refine ⟨st.may m o,rfl,by lia,ol.1,λ pl H3 jG s3 hl=>⟨pl,rfl,⟨_,aT.of hl⟩,?_⟩⟩
 have S3:=S2.trans s3
 have e3:H3 ps=some (.lst []):=s3 _ _ (s2 _ _ e1)
 have npl:pl≠ps:=(av (s2 _ _ e1) jG).symm
 have aad:ps∉fp:=λ z=>by
   obtain ⟨u,hu⟩:=Mu.hold.some ps z
   rw [eR] at hu;cases hu
 have VR:gy P w K Ad.aO Ad.Reach [ps] H3 x d a fp m c:=(Mu.new eR).same S3
 obtain ⟨kv0,To,_⟩:=VR.Yr
 have npd:pl≠d:=λ z=>by rw [z,To.ob] at hl;cases hl
 have Xh:ps≠d:=λ z=>by rw [z,To.ob] at e3;cases e3
 have Yp:=hs.same S3
 have lo:(eD m st o).length<=16:=ol.2
 have hl:H3 pl=some (.lst ((eD m st o).map ap)):=hl
 unfold t7 at k2
 generalize eD m st o=outs at hl lo tn k1 k2
 refine jA (K:=K) (a:=pl) (xs:=outs.map ap) (λ i U H'=>A6 (m7 [d,ps] H3 H') (bw K H3 H') (gy P w K Ad.aO Ad.Reach [ps] H' x d a fp m (c+4 * i)) (∃ xs,H' ps=some (.lst xs)/\uE K H' xs ((outs.take i).flatMap (ji m st o))) (∀ out∈outs.take i,kN m st (Ord.off o out)=true) (E4 λ (v4 v5 v6 v7:Option V)=>U=[some (.ref x),some (.ref p),some (ap o),some (.ref ps),v4,v5,v6,v7]))
   ⟨λ _ _ h _=>h,bw.refl _,VR,⟨[],e3,Refs.nil⟩,λ _ h=>absurd h (by simp),none,none,none,none,rfl⟩ (λ i U H' _ ⟨b,_,_,_,_,_⟩=>aT.of (b _ _ hl (by simp [npd,npl]))) ?_ ?_
 .
  rintro _ i v U H4 hv ⟨b4,t4,HE,⟨xs,KY,Lv⟩,rm,v4,v5,v6,v7,rfl⟩
  obtain ⟨out,eo,rfl⟩:=dF hv
  have hi:i<outs.length:=(List.getElem?_eq_some_iff.mp eo).1
  have FV:=tn out (ad5 eo)
  have bits:∀ i,(Ord.off o out).testBit i=true->m.has i=true:=λ i h=>(FV.M4 (FV.LM h).1).2
  refine ⟨_,rfl,_,rfl,_,rfl,_,_,rfl,rfl,λ y ey=>?_⟩
  obtain rfl:y=((Ord.off o out:Nat):Int):=by rw [ey];exact iE _ _
  obtain ⟨OR,ER⟩:=HE.ins
  obtain ⟨⟨dxh,_,_,_,_,_,_,_,_,_,abR,_⟩,_⟩:=id HE.hold
  refine ⟨_,rfl,x,_,OR,_,_,rfl,ER,T.db,T.dh,rfl,a,dxh,_,rfl,abR,rfl,a,fp,m,rfl,HE.hold,_,rfl,by lia,by lia,λ D hD=>?_⟩
  have Vq:gd K H4 p st:=Yp.ts t4
  obtain ⟨pb,pw,pf,h0,hb0,Yx,hf0⟩:=id Vq
  obtain ⟨kv4,akX,_⟩:=HE.Yr
  have nD:D≠d:=(av akX.ob hD).symm
  have nfD:D∉fp:=λ z=>by
    obtain ⟨u,hu⟩:=HE.hold.some D z
    rw [hD] at hu;cases hu
  refine fe (lo:=0) (n:=m.rows.length) (λ j acc σ' H5=>A6 (m7 [d] H4 H5) (bw K H4 H5) (gy P w K Ad.aO Ad.Reach [D,ps] H5 x d a fp m (c+4 * i+j)) (H5 D=some (.lst acc)) (Paired (e9 [D,ps] H5) acc ((List.range j).map (ph m st (Ord.off o out)))) (∃ v,σ'=[v,some (.ref x),some (.ref p),some (ap (Ord.off o out))]))
    ⟨λ b u h _=>ak hD b u h,(ak hD).ts,(HE.new hD).same (ak hD),ag,.nil,none,rfl⟩ ?_ ?_
  .
   rintro j acc σ' H5 hj ⟨b5,t5,LS,UR,nF,v,rfl⟩
   obtain ⟨dx5,hx5⟩:=LS.ins
   obtain ⟨kv5,afL,_⟩:=LS.Yr
   have la:acc.length=j:=by rw [anX nF,AM,adw]
   have Ip:=b5 _ _ KY (by simp [Xh])
   obtain ⟨NL,YI⟩:=Dy j ((Ord.off o out).testBit j) hj (bits j)
   refine ⟨_,rfl,x,dx5,_,rfl,hx5,rfl,_,rfl,_,rfl,p,_,_,_,rfl,rfl,.inr (t5 _ _ h0),rfl,_,rfl,_,rfl,Ord.off o out,j,by rw [ad8];rfl,?_⟩
   refine ⟨x,d,a,fp,m,c+4 * i+j,j,pb,st.aH,(Ord.off o out).testBit j,[D,ps],by rw [ad8];rfl,LS,?_,by lia,hj,t5 _ _ hb0,so.lb,λ j hj=>by have:=so.band j hj;unfold gN at this;rw [OQ];exact this,λ z=>?_,NL,YI,λ v6 H6 b6 t6 re6 af9=>?_⟩
   . intro b hb
     simp only [acs,aaI,agT] at hb
     rcases hb with rfl|rfl
     . rw [UR];exact nofun
     . rw [Ip];exact nofun
   . obtain ⟨z',ez⟩:=nN (bits j z)
     exact ⟨z',by rw [jY (by lia),ez]⟩
   .
    have hD6:=b6 _ _ UR (by simp [nD])
    obtain ⟨kv6,akN,_⟩:=re6.Yr
    have ks:∀ {v r},e9 [D,ps] H6 v r->e9 [D,ps] (upd H6 D (.lst (acc++[v6]))) v r:=λ h=>h.but akN.ob mB (λ c u e _ n=>by rw [ax (λ z=>n (by simp [z]))];exact e) λ _ h=>h
    refine ⟨hD6,aN (by lia),λ b u h n=>by rw [ax (av h hD)];exact b6 b u (b5 b u h n) n,t5.trans (t6.trans (cF hD6 rfl)),re6.write hD6 (by simp) nfD,ag,?_,_,rfl⟩
    rw [agN,YT]
    exact aoS (Paired.EM nF λ a r h=>ks (h.but afL.ob mB (λ c u e n _=>b6 c u e (by simp [n])) λ _ h=>h)) (ks af9)
  .
   rintro acc σ' H5 ⟨b5,t5,LS,UR,nF,v,rfl⟩
   have FD:∀ v∈acc,v = .b9∨∃ a ys,v = .ref a/\aT K H5 a ys:=λ v hv=>(CC nF v hv).imp id λ ⟨q,ys,e,h⟩=>⟨q,ys,e,aT.of h⟩
   have Ip:=b5 _ _ KY (by simp [Xh])
   obtain ⟨dx5,hx5⟩:=LS.ins
   have B5:m7 [d] H H5:=λ b u h n=>b5 b u (b4 b u (S3 b u h) (by
     simp only [acs,aaI,agT,an3] at n ⊢
     exact ⟨n,av h eR⟩)) n
   have T5:bw K H H5:=S3.ts.trans (t4.trans t5)
   refine ⟨_,rfl,D,acc,rfl,rfl,aT.of UR,FD,_,rfl,k9 (λ hn=>?_) (λ hn=>?_)⟩
   . exact k1 ⟨out,ad5 eo,uv.mp ((sC nF).mp hn)⟩ H5 B5 T5 ((LS.less (by simp)).more (by lia))
   have nn:none∉(List.range m.rows.length).map (ph m st (Ord.off o out)):=λ z=>hn ((sC nF).mpr z)
   have qj:=zp nF nn
   rw [Kc] at qj
   have sf:kN m st (Ord.off o out)=true:=by
     cases e:kN m st (Ord.off o out) with
     | true=>rfl
     | false=>exact absurd (uv.mpr e) nn
   refine ⟨_,rfl,x,_,dx5,_,_,rfl,hx5,T.db,T.dh,rfl,_,rfl,_,rfl,_,rfl,a,fp,m,p,st,o,out,rfl,LS.hold,Vq.ts t5,so,λ i h=>FV.has h,FV.LR,FV.Mi,λ qt pw' vJ H6 s6 g1 g2 g3=>?_⟩
   have lr:(cR m st (Ord.off o out)).length=m.rows.length:=by unfold cR;rw [AM,adw]
   refine ⟨_,rfl,.inl ⟨rfl,_,aT.of (s6 _ _ Ip)⟩,_,rfl,D,acc,cR m st (Ord.off o out),rfl,aT.of (s6 _ _ UR),qj.imp λ q r h=>aT.of (s6 _ _ h),by lia,xX q4,λ qc ys H7 s7 hqc wY=>⟨qc,rfl,⟨_,aT.of hqc⟩,λ D2 jW=>?_⟩⟩
   have bl:=my q4 q3 (s:=st) (o:=o) out
   unfold ji at bl
   rw [AM] at bl
   have eb:ji m st o out=(bR (cR m st (Ord.off o out))).map λ c=>st.behind m c o out:=rfl
   have l4:∀ c∈bR (cR m st (Ord.off o out)),c.length<=4:=λ c h=>by have:=(gb.mp h).1;lia
   generalize bR (cR m st (Ord.off o out))=cs at wY bl eb l4
   refine gL (K:=K) (a:=qc) (xs:=ys) (λ j iJ σ' H8=>A4 (aA H7 H8) (H8 D2=some (.lst iJ)) (uE K H8 iJ ((cs.take j).map λ c=>st.behind m c o out)) (∃ v,σ'=[v,some (.ref qt)]))
     ⟨ak jW,ag,Refs.nil,none,rfl⟩ (λ j iJ σ' H8 _ ⟨s8,_,_,_⟩=>aT.of (s8 _ _ hqc)) ?_ ?_
   .
    rintro j z iJ σ' H8 hz ⟨s8,hD8,rq,v,rfl⟩
    obtain ⟨tc,cc,rfl,ec,htc⟩:=wY.get hz
    have hj:j<cs.length:=(List.getElem?_eq_some_iff.mp ec).1
    have la:iJ.length<=1296:=by rw [rq.length,AM,ad4];lia
    have s78:=s7.trans s8
    refine ⟨_,rfl,Mn,λ tb htb=>?_⟩
    have s9:=ak (o:=.tup [.ref tc]) htb
    refine ⟨_,rfl,tb,qt,_,_,rfl,rfl,bP.of ag,bP.of (s9 _ _ (s78 _ _ g1)),(by show 1+4<=sizeLine;decide),λ tq SB Oz h10=>?_⟩
    have Qr:=Oz _ _ (s9 _ _ hD8)
    have ts:bw K SB (upd SB D2 (.lst (iJ++[.ref tq]))):=cF Qr rfl
    have Ha:=s9.trans Oz
    refine ⟨Qr,agc la (by decide),(s8.trans Ha).put jW,ag,?_,_,rfl⟩
    rw [cY ec,YT]
    refine Refs.snoc (rq.imp λ p a h=>(h.same Ha).ts ts) ?_
    exact ⟨tc,pw',vJ,ts _ _ h10,ts _ _ ((s8.trans Ha).tup htc),ts _ _ ((s78.trans Ha).tup (bP.of g2)),ts _ _ ((s78.trans Ha).tup (bP.of g3))⟩
   .
    rintro iJ σ' H8 ⟨s8,hD8,rq,v,rfl⟩
    rw [wY.length,ahU] at rq
    rw [← eb] at rq
    have S8:=(s6.trans s7).trans s8
    have MH:=S8 _ _ Ip
    have lx:xs.length<=16 * 1296:=by
      rw [Lv.length]
      refine agB (mX (k:=1296) (my q4 q3)) ?_
      rw [ad4]
      lia
    have la:iJ.length<=1296:=by rw [rq.length];exact my q4 q3 out
    refine ⟨ps,D2,xs,iJ,rfl,rfl,MH,hD8,anY (agc (show xs.length+iJ.length<=22032 by lia) (by decide)),?_⟩
    have ts:bw K H8 (upd H8 ps (.lst (xs++iJ))):=cF MH rfl
    refine ⟨λ b u h n=>?_,t4.trans (t5.trans (S8.ts.trans ts)),(((LS.less (by simp)).same S8).write MH (by simp) aad).more (by lia),⟨_,ag,?_⟩,λ Zt h'=>?_,_,_,_,_,rfl⟩
    . have n':=n
      simp only [acs,aaI,agT,an3] at n'
      rw [ax n'.2]
      exact S8 _ _ (b5 _ _ (b4 b u h n) (by simp [n'.1]))
    . rw [cY eo,apM,aps]
      exact Refs.append (Lv.imp λ p a h=>(((h.ts t5).same S8).ts ts)) (rq.imp λ p a h=>h.ts ts)
    . rw [cY eo] at h'
      rcases List.mem_append.mp h' with z|z
      . exact rm Zt z
      . rw [List.mem_singleton.mp z];exact sf
 .
  rintro U H4 ⟨b4,t4,HE,⟨xs,KY,Lv⟩,rm,v4,v5,v6,v7,rfl⟩
  rw [AM,ahU] at Lv rm
  refine ⟨_,rfl,k2 rm ps xs H4 (λ b u h n=>b4 b u (S3 b u h) ?_) (S3.ts.trans t4) ((HE.less (by simp)).more (by rw [AM];lia)) KY Lv⟩
  simp only [acs,aaI,agT,an3] at n ⊢
  exact ⟨n,av h eR⟩
theorem yc (T:Txt K mg Ad):Def P w K mg base "outcomes" 10 ["hold","state","order"] (ym K Ad.aO):=by
 refine T.AJ.cD xY λ f bq A outer s H vs Q E hr h=>?_
 obtain ⟨a,fp,m,p,st,o,rfl,hh,hs,so,ow,tn,Dy,k1,k2⟩:=h
 refine ⟨_,(ac (bg (am (dP (K:=K) T) hr.m (aa (pv 0) (aa (pv 1) af))))
     (al (aF (aR (tG T.GM (mK (P:=P) (w:=w) T) .nil hr.m T.JT (aa (pv 0) af)) T.db (jN (P:=P) (w:=w) T) .nil hr.m (aa (pv 1) (aa (pv 2) af)))))),?_⟩
 try dsimp only [d7,aK]
 refine ⟨_,rfl,_,rfl,a,fp,m,p,st,rfl,hh,hs,so,λ H1 s1=>?_⟩
 refine ⟨_,rfl,λ x dx hx i0 n=>?_⟩
 have s2:aA H1 (upd (upd H1 dx (.own x)) x (.ins Ad.Reach dx [])):=(ak i0).trans (ak (by first|(rw [ax n];exact hx)|(rw [ax n.symm];exact hx)))
 have KU:(upd (upd H1 dx (.own x)) x (.ins Ad.Reach dx [])) x=some (.ins Ad.Reach dx []):=ag
 generalize upd (upd H1 dx (.own x)) x (.ins Ad.Reach dx [])=H2 at s2 KU ⊢
 have S2:=s1.trans s2
 have xn:H x=none:=s1.free hx
 refine ⟨x,dx,a,fp,m,rfl,KU,hh.same S2,λ z=>?_,λ d H3 b3 t3 hd re3=>⟨rfl,?_⟩⟩
 . obtain ⟨u,hu⟩:=hh.some x z
   rw [xn] at hu;cases hu
 obtain ⟨dx3,OV⟩:=re3.ins
 have fr:∀ {H4},m7 [d] H3 H4->aA H H4:=λ b4 b u h=>b4 b u (b3 b u (S2 b u h) (by simp only [apT];exact av h xn)) (by simp only [apT];exact av (S2 b u h) hd)
 exact ⟨x,dx3,_,rfl,OV,rfl,_,rfl,_,rfl,x,d,a,fp,m,0,p,st,o,rfl,re3,by lia,(hs.same S2).ts t3,so,ow,tn,Dy,λ h H4 b4 t4 HE=>k1 h H4 (fr b4),λ h q xs H4 b4 t4 HE e1 e2=>k2 h q xs H4 (fr b4) e1 e2⟩
theorem MM {tm:ar} {n o out:Nat} {s:d6} (ok:tm.Ok n n) (n4:n<=4) (so:fG (tm.m2 n n) s) (AK:out<16) (ho:o∈s.orders (tm.m2 n n)) (hf:out &&& s.may (tm.m2 n n) o=out):cC (tm.m2 n n) s o out:=by
 obtain ⟨f1,f2,f3,f4⟩:=cH tm n n
 have hl:(tm.m2 n n).rows.length=n:=by rw [f1,AM,ad4,ok.lm];lia
 rw [BK ok n4 so,ao1,List.mem_range,zc,JM ok so] at ho
 refine ⟨by lia,so,ho.2,ho.1,AK,λ r h=>?_,λ r=>(Mf ok r).2.1,λ r=>(Mf ok r).1,by rw [f3];exact ok.bounds.2.1.1,by rw [f4];exact ok.bounds.2.2.1⟩
 have:(out &&& s.may (tm.m2 n n) o).testBit r=true:=by rw [hf];exact h
 rw [aiD] at this
 have:=(aeX _ _ ▸ this:out.testBit r=true/\(s.may (tm.m2 n n) o).testBit r=true).2
 unfold d6.may at this
 rw [Ord.iw] at this
 simp only [aeX,anF,ahP] at this
 exact ⟨this.2.1.1,this.2.1.2,this.2.2⟩
theorem yl (T:Txt K mg Ad):Def P w K mg base "_law_span" 1 ["_law_told","_law_room","_law_bands","_law_fired"] (Am K):=by
 refine T.AV.cD cf λ f bq A outer s H vs Q E hr h=>?_
 obtain ⟨p,tm,n,i,pb,bs,fired,rfl,hT,ok,n4,hi,Ez,hb,hz,k⟩:=h
 refine ⟨_,(ac (aE (i:=4) cf.nd rfl (lc rfl) (aB au (bB (ck hr) (pv 0) bE (λ _ _=>rfl)) (pv 1) (λ _ _=>rfl)))
     (ac (aE (i:=5) cf.nd rfl (lc rfl) (ay dC ah (aB au (pv 4) ah (λ _ _=>rfl))))
     (ac (aE (i:=6) cf.nd rfl (lc rfl) (ay aZ (aB au (pv 4) ah (λ _ _=>rfl)) (aB au (pv 4) ah (λ _ _=>rfl))))
     (ac (aE (i:=7) cf.nd rfl (lc rfl) (ay aZ (aB au (pv 4) ah (λ _ _=>rfl)) (aB au (pv 4) ah (λ _ _=>rfl))))
     (ac (cW afP rfl (bM rfl T.cI (aa (aX bI (by rfl) T.f8 dJ (aa (bB (ck hr) (pv 0) bE (λ _ _=>rfl)) af)) af)) (aG (i:=8) cf.nd rfl (lc rfl)) (al (bx (aP lq (pv 8) (pv 1) (aV _)) (ac (aE (i:=9) cf.nd rfl (lc rfl) (bB (ck hr) (bB (ck hr) (pv 0) bE (λ _ _=>rfl)) (cm (aa (pv 1) (aa (pv 8) af))) (λ _ _=>rfl)))
     (ac (aE (i:=5) cf.nd rfl (lc rfl) (ay dC (pv 5) (pv 9)))
     (ac (aE (i:=6) cf.nd rfl (lc rfl) (ay aJ (pv 6) (ay aZ (pv 9) (aB au (aB au (bB (ck hr) (pv 0) bE (λ _ _=>rfl)) (pv 8) (λ _ _=>rfl)) (aB au (pv 2) (pv 8) (λ _ _=>rfl)) (λ _ _=>rfl)))))
     (al (aE (i:=7) cf.nd rfl (lc rfl) (ay aJ (pv 7) (ay aZ (pv 9) (aB au (aB au (bB (ck hr) (pv 0) bE (λ _ _=>rfl)) (pv 8) (λ _ _=>rfl)) (ay aJ (aB au (pv 2) (pv 8) (λ _ _=>rfl)) ah) (λ _ _=>rfl))))))))) aI)))
     (ac (aE (i:=6) cf.nd rfl (lc rfl) (ay aJ (pv 6) (ay aZ (pv 5) (aB au (aB au (bB (ck hr) (pv 0) bE (λ _ _=>rfl)) (pv 1) (λ _ _=>rfl)) (aB au (pv 2) (pv 1) (λ _ _=>rfl)) (λ _ _=>rfl)))))
     (ac (aE (i:=7) cf.nd rfl (lc rfl) (ay aJ (pv 7) (ay aZ (pv 5) (aB au (aB au (bB (ck hr) (pv 0) bE (λ _ _=>rfl)) (pv 1) (λ _ _=>rfl)) (ay aJ (aB au (pv 2) (pv 1) (λ _ _=>rfl)) ah) (λ _ _=>rfl)))))
     (ac (bx (ce (pv 3)) (al (aF (cm (aa (ay aJ (pv 6) (ay aZ ah (aB au (aB au (bB (ck hr) (pv 0) bE (λ _ _=>rfl)) (pv 1) (λ _ _=>rfl)) ah (λ _ _=>rfl)))) (aa (ay aJ (pv 7) (ay aZ ah (aB au (aB au (bB (ck hr) (pv 0) bE (λ _ _=>rfl)) (pv 1) (λ _ _=>rfl)) ah (λ _ _=>rfl)))) af))))) aI)
     (al (aF (cm (aa (pv 6) (aa (pv 7) af))))))))))))),?_⟩
 try dsimp only [d7,aK]
 first|(refine yx ?_;intro _ _ _ _ _ _ _ _ _ _)|skip
 obtain ⟨pm,ps,pt,pf,fE,pbo,vm,vs,vt,az,C0⟩:=id hT
 have EX:vm.length=n:=by rw [C0.dm.length,AM,ok.lm]
 have xP:i<tm.dA.length:=by rw [ok.ls];exact hi
 have Dy:=ok.dA tm.dA[i] (ab8 xP)
 have Ko:tm.iO i=tm.dA[i]:=by unfold ar.iO;rw [aq xP];rfl
 have esT:tm.gY i=tm.dA[i].1:=by unfold ar.gY;rw [aq xP];rfl
 obtain ⟨vz,evz,pz,wz,rfl,zS,dz⟩:=C0.ds.get (i:=i) (d:=C8 tm.dA[i]) (by rw [T1,aq xP];rfl)
 obtain ⟨z1,r1,rfl,e1,z2,r2,rfl,e2,z3,r3,rfl,e3,e4⟩:=dz
 have e4:r3=[]:=e4
 have e1:z1 = .int tm.dA[i].1:=e1
 have e2:z2 = .int tm.dA[i].2.1:=e2
 have e3:z3 = .int tm.dA[i].2.2:=e3
 subst e1 e2 e3 e4
 have Na:bP K H pz [.int tm.dA[i].1,.int tm.dA[i].2.1,.int tm.dA[i].2.2]:=cQ.tup zS
 have bd:∀ {x:Int},-1000<=x->x<=1000->Bd 10 x:=λ h1 h2=>by show Int.natAbs _<2 ^ 10;lia
 refine ⟨_,rfl,p,_,rfl,sj C0.hp,_,rfl,ps,vs,_,_,rfl,rfl,.inl (aT.of C0.eR),bA evz,?_⟩
 refine ⟨_,rfl,pz,_,_,_,rfl,rfl,.inr Na,rfl,_,_,rfl,rfl,λ re ere=>?_⟩
 refine ⟨_,rfl,pz,_,_,_,rfl,rfl,.inr Na,rfl,_,rfl,pz,_,_,_,rfl,rfl,.inr Na,rfl,_,_,rfl,rfl,⟨10,10,bd (by lia) (by lia),bd (by lia) (by lia),by decide⟩,λ lo Ys=>?_⟩
 refine ⟨_,rfl,pz,_,_,_,rfl,rfl,.inr Na,rfl,_,rfl,pz,_,_,_,rfl,rfl,.inr Na,rfl,_,_,rfl,rfl,⟨10,10,bd (by lia) (by lia),bd (by lia) (by lia),by decide⟩,λ hg ehg=>?_⟩
 have Ys:lo=tm.gY i * (tm.iO i).2.1:=by rw [Ko,esT];exact Ys
 have ehg:hg=tm.gY i * (tm.iO i).2.2:=by rw [Ko,esT];exact ehg
 have ere:re=12 - tm.gY i:=by rw [esT];exact ere
 refine ⟨_,rfl,p,_,rfl,bZ C0.hp,pm,vm,rfl,.inl (aT.of C0.d5),λ r er=>?_⟩
 obtain rfl:r=(n:Int):=by rw [er,EX]
 refine ⟨_,rfl,by lia,by lia,?_⟩
 refine iR (lo:=0) (n:=n) (λ t U H'=>aA H H'/\E2 λ (v8 v9:Option V)=>U=[some (.ref p),some (ap i),some (.ref pb),some (.bl fired),some (.ref pz),some (.int (12 - tm.gY i - bF (tm.ek i) t)),some (.int (tm.gY i * (tm.iO i).2.1+bF (λ j=>if j=i then 0 else tm.ek i j * tm.xl bs 0 j) t)),some (.int (tm.gY i * (tm.iO i).2.2+bF (λ j=>if j=i then 0 else tm.ek i j * tm.xl bs 1 j) t)),v8,v9])
   ⟨aA.refl _,none,none,?_⟩ ?_ ?_
 . rw [Ys,ehg,ere]
   have a0:∀ f:Nat->Int,bF f 0=0:=λ _=>rfl
   rw [a0,a0,a0,anQ,anQ,Int.sub_zero];rfl
 .
  rintro _ t U H1 ht ⟨s1,v8,v9,rfl⟩
  have C1:=C0.same s1
  have Df:∀ f:Nat->Int,bF f (t+1)=bF f t+f t:=λ _=>rfl
  refine ⟨_,rfl,_,rfl,rfl,_,rfl,wj (λ EF=>?_) (λ heq=>?_)⟩
  .
   have qX:t≠i:=λ e=>EF (by rw [e,ad8];rfl)
   obtain ⟨kk,hk,k0,k3⟩:=ok.bi i t hi ht (anq qX)
   have efl:tm.ek i t=kk:=by unfold ar.ek;rw [acO (anq qX),hk];rfl
   refine ⟨_,rfl,p,_,rfl,mw C1.hp,_,rfl,_,rfl,zY,λ kp xM=>?_⟩
   have sk:=ak (o:=.tup [ap i,.int (0+(t:Int))]) xM
   have oT:(upd H1 kp (.tup [ap i,.int (0+(t:Int))])) kp=some (.tup ((fY i t).map kV)):=by rw [ag,ad8];rfl
   have Em:gF (upd H1 kp (.tup [ap i,.int (0+(t:Int))])) pf (.ref kp) (some (.int kk)):=by
     have:=gF.t (k:=fY i t) (sk _ _ C1.hJ) oT
     rw [C1.df i t (by lia) (by lia),hk] at this
     exact this
   refine ⟨pf,.int kk,rfl,Em,?_⟩
   have S2:=s1.trans sk
   have C2:=C0.same S2
   generalize upd H1 kp (.tup [ap i,.int (0+(t:Int))])=H2 at S2 C2 ⊢
   refine ⟨_,rfl,_,rfl,_,_,rfl,rfl,λ x1 g1=>?_⟩
   obtain ⟨tP,Yo,Lm,b00,b01⟩:=gn (b:=bs.getD t 0) ok ht (by have:=hb.lt t ht;lia)
   obtain ⟨_,NZ,HF,b10,b11⟩:=gn (b:=bs.getD t 0+1) ok ht (hb.lt t ht)
   obtain ⟨v,ev,pk,ws',rfl,oC,Jz⟩:=C2.dm.get (i:=t) (d:=vI tm.marks[t]) (by rw [T1,aq tP];rfl)
   obtain rfl:=f7 Jz
   have HH:aT K H2 pk (tm.marks[t].map V.int):=cQ.seq oC
   have evt:tN vm (0+(t:Int))=some (.ref pk):=by rw [ad8];exact bA ev
   have SC:t<bs.length:=by rw [hb.len];exact ht
   have UO:tN (bs.map ap) (0+(t:Int))=some (ap (bs.getD t 0)):=by rw [ad8];exact bA (by rw [T1,aq SC,OQ,aq SC];rfl)
   refine ⟨_,rfl,_,rfl,_,rfl,p,_,rfl,bZ C2.hp,_,rfl,pm,vm,_,_,rfl,rfl,.inl (aT.of C2.d5),evt,?_⟩
   refine ⟨_,rfl,_,rfl,pb,_,_,_,rfl,rfl,(Ez.imp S2.seq S2.tup),UO,pk,_,_,_,rfl,rfl,.inl HH,bA (by rw [T1,aq Yo];rfl),_,_,rfl,rfl,⟨10,10,bd (by lia) (by lia),bd (by rw [← Lm];lia) (by rw [← Lm];lia),by decide⟩,λ x2 g2=>⟨_,_,rfl,rfl,λ x3 g3=>?_⟩⟩
   refine ⟨_,rfl,_,rfl,_,rfl,p,_,rfl,bZ C2.hp,_,rfl,pm,vm,_,_,rfl,rfl,.inl (aT.of C2.d5),evt,?_⟩
   refine ⟨_,rfl,_,rfl,pb,_,_,_,rfl,rfl,(Ez.imp S2.seq S2.tup),UO,_,_,rfl,rfl,λ y ey=>?_⟩
   obtain rfl:y=((bs.getD t 0+1:Nat):Int):=by rw [ey];push_cast;rfl
   refine ⟨pk,_,_,_,rfl,rfl,.inl HH,bA (by rw [T1,aq NZ];rfl),_,_,rfl,rfl,⟨10,10,bd (by lia) (by lia),bd (by rw [← HF];lia) (by rw [← HF];lia),by decide⟩,λ x4 g4=>⟨_,_,rfl,rfl,λ x5 g5=>?_⟩⟩
   refine ⟨S2,some (.int (0+(t:Int))),some (.int kk),?_⟩
   have f0:tm.xl bs 0 t=tm.marks[t][bs.getD t 0]:=Lm
   have f1:tm.xl bs 1 t=tm.marks[t][bs.getD t 0+1]:=HF
   rw [Df,Df,Df,acO qX,acO qX,f0,f1,efl,g3,g5,g1,g2,g4]
   have q1:∀ a b c:Int,a - (b+c)=a - b - c:=λ a b c=>by lia
   rw [q1,← Int.add_assoc,← Int.add_assoc]
   rfl
  .
   have qX:t=i:=by have:=fu.mp heq;lia
   have efl:tm.ek i t=0:=by unfold ar.ek;rw [acS qX.symm]
   refine ⟨s1,some (.int (0+(t:Int))),v9,?_⟩
   rw [Df,Df,Df,acS qX,acS qX,efl,anQ,anQ,anQ]
   rfl
 .
  rintro U H1 ⟨s1,v8,v9,rfl⟩
  have C1:=C0.same s1
  obtain ⟨tP,Yo,Lm,b00,b01⟩:=gn (b:=bs.getD i 0) ok hi (by have:=hb.lt i hi;lia)
  obtain ⟨_,NZ,HF,b10,b11⟩:=gn (b:=bs.getD i 0+1) ok hi (hb.lt i hi)
  obtain ⟨v,ev,pk,ws',rfl,oC,Jz⟩:=C1.dm.get (i:=i) (d:=vI tm.marks[i]) (by rw [T1,aq tP];rfl)
  obtain rfl:=f7 Jz
  have HH:aT K H1 pk (tm.marks[i].map V.int):=cQ.seq oC
  have SC:i<bs.length:=by rw [hb.len];exact hi
  have UO:tN (bs.map ap) (i:Int)=some (ap (bs.getD i 0)):=bA (by rw [T1,aq SC,OQ,aq SC];rfl)
  have s0:=Ak ok hi
  have s9:=EK ok n4 hi
  have s00:=(Gs ok hi n (aat _)).1
  have f0:tm.xl bs 0 i=tm.marks[i][bs.getD i 0]:=Lm
  have f1:tm.xl bs 1 i=tm.marks[i][bs.getD i 0+1]:=HF
  refine ⟨_,rfl,_,rfl,_,rfl,p,_,rfl,bZ C1.hp,_,rfl,pm,vm,_,_,rfl,rfl,.inl (aT.of C1.d5),bA ev,?_⟩
  refine ⟨_,rfl,_,rfl,pb,_,_,_,rfl,rfl,(Ez.imp s1.seq s1.tup),UO,pk,_,_,_,rfl,rfl,.inl HH,bA (by rw [T1,aq Yo];rfl),_,_,rfl,rfl,⟨10,10,bd (by lia) (by lia),bd (by rw [← Lm];lia) (by rw [← Lm];lia),by decide⟩,λ x2 g2=>⟨_,_,rfl,rfl,λ x3 g3=>?_⟩⟩
  refine ⟨_,rfl,_,rfl,_,rfl,p,_,rfl,bZ C1.hp,_,rfl,pm,vm,_,_,rfl,rfl,.inl (aT.of C1.d5),bA ev,?_⟩
  refine ⟨_,rfl,_,rfl,pb,_,_,_,rfl,rfl,(Ez.imp s1.seq s1.tup),UO,_,_,rfl,rfl,λ y ey=>?_⟩
  obtain rfl:y=((bs.getD i 0+1:Nat):Int):=by rw [ey];push_cast;rfl
  refine ⟨pk,_,_,_,rfl,rfl,.inl HH,bA (by rw [T1,aq NZ];rfl),_,_,rfl,rfl,⟨10,10,bd (by lia) (by lia),bd (by rw [← HF];lia) (by rw [← HF];lia),by decide⟩,λ x4 g4=>⟨_,_,rfl,rfl,λ x5 g5=>?_⟩⟩
  have eX:∀ d xw,tm.X n i (tm.xl bs d) xw=tm.gY i * xw+bF (λ j=>if j=i then 0 else tm.ek i j * tm.xl bs d j) n+(12 - tm.gY i - bF (tm.ek i) n) * tm.xl bs d i:=λ d xw=>by
    unfold ar.X ar.kT
    rw [xK,acS hi]
    lia
  have e3:x3=tm.X n i (tm.xl bs 0) (tm.iO i).2.1:=by rw [eX,g3,g2,f0]
  have e5:x5=tm.X n i (tm.xl bs 1) (tm.iO i).2.2:=by rw [eX,g5,g4,f1]
  rw [e3,e5]
  refine ⟨_,rfl,_,rfl,?_⟩
  unfold ar.s0 ar.s1 ar.sX at k
  cases fired with
  | false =>
    refine gz ⟨_,rfl,_,rfl,zY,λ q hq=>k q _ (s1.trans (ak hq)) ?_⟩
    rw [ag,acO abZ,anQ,anQ]
  | true =>
    obtain ⟨z,ez⟩:=hz rfl
    obtain ⟨vq,OF,dq⟩:=C1.dt.get (i:=i) (d:=stI (some z)) (by rw [T1,ez];rfl)
    obtain ⟨pq,wq,rfl,Mc,t1,r1,rfl,h1,_⟩:=dq
    have h1:t1 = .int z.1:=h1
    subst h1
    have eh:tm.rS i=z.1:=by unfold ar.rS;rw [ez];rfl
    have HC:=(ok.aD z (ad5 ez)).h
    refine iW ⟨_,rfl,_,rfl,p,_,rfl,gZ C1.hp,_,rfl,pt,vt,_,_,rfl,rfl,.inl (aT.of C1.eQ),bA OF,pq,_,_,_,rfl,rfl,.inr (cQ.tup Mc),bA (j:=0) rfl,_,_,rfl,rfl,⟨10,10,oR,bd (by lia) (by lia),by decide⟩,λ x6 g6=>⟨_,_,rfl,rfl,λ x7 g7=>?_⟩⟩
    refine ⟨_,rfl,_,rfl,p,_,rfl,gZ C1.hp,_,rfl,pt,vt,_,_,rfl,rfl,.inl (aT.of C1.eQ),bA OF,pq,_,_,_,rfl,rfl,.inr (cQ.tup Mc),bA (j:=0) rfl,_,_,rfl,rfl,⟨10,10,oR,bd (by lia) (by lia),by decide⟩,λ x8 g8=>⟨_,_,rfl,rfl,λ x9 g9=>⟨zY,λ q hq=>k q _ (s1.trans (ak hq)) ?_⟩⟩⟩
    rw [ag,acS rfl,eh,g7,g9,g6,g8]
set_option maxHeartbeats 0 in
theorem su (T:Txt K mg Ad):Def P w K mg base "_law_warmths" 3 ["_law_told","_law_state","_law_behind","_law_high"] (wM K):=by
 refine T.tZ.cD cy λ f bq A outer s H vs Q E hr h=>?_
 obtain ⟨p,q,r,tm,n,st,t,hg,rfl,hT,ok,n4,hq,so,Qg,hb,hz,k⟩:=h
 refine ⟨_,(ac (aE (i:=4) cy.nd rfl (lc rfl) (cL af))
     (ac (cW afP rfl (bM rfl T.cI (aa (aX bI (by rfl) T.f8 dJ (aa (bB (ck hr) (pv 0) bE (λ _ _=>rfl)) af)) af)) (aG (i:=5) cy.nd rfl (lc rfl)) (ac (aE (i:=6) cy.nd rfl (lc rfl) (aB au (bB (ck hr) (pv 0) bE (λ _ _=>rfl)) (pv 5) (λ _ _=>rfl)))
     (ac (aE (i:=7) cy.nd rfl (lc rfl) (aB au (aB au (pv 2) ah (λ _ _=>rfl)) (pv 5) (λ _ _=>rfl)))
     (ac (aE (i:=8) cy.nd rfl (lc rfl) (am (yl (K:=K) T) hr.m (aa (pv 0) (aa (pv 5) (aa (aB au (pv 1) ah (λ _ _=>rfl)) (aa (am (Di (K:=K) T) hr.m (aa (aB au (pv 2) ah (λ _ _=>rfl)) (aa (pv 5) af))) af))))))
     (ac (aE (i:=9) cy.nd rfl (lc rfl) (aX (vo rfl) (by rfl) T.LZ Hb (aa (aB au (pv 8) ah (λ _ _=>rfl)) (aa (ay aZ ah (aB au (pv 6) (pv 7) (λ _ _=>rfl))) af))))
     (ac (lD (bx (ce (pv 3)) (al (aE (i:=9) cy.nd rfl (lc rfl) (aX (uK rfl) (by rfl) T.LN Hq (aa (aB au (pv 8) ah (λ _ _=>rfl)) (aa (ay aZ ah (aB au (pv 6) (ay aJ (pv 7) ah) (λ _ _=>rfl))) af))))) aI))
     (al (bg (je afF ago agd cN (pv 4) (aa (am (i9 (K:=K) T) hr.m (aa (pv 9) (aa ah (aa (bB (ck hr) (pv 0) bE (λ _ _=>rfl)) af)))) af))))))))))
     (al (aF (pv 4))))),?_⟩
 try dsimp only [d7,aK]
 first|(refine dE ?_;intro _ _ _ _)|skip
 obtain ⟨pm,ps,pt,pf,fE,pbo,vm,vs,vt,az,C⟩:=id hT
 obtain ⟨qb,qw,qf,g0,g1,g2,g3⟩:=id hq
 obtain ⟨rb,zZ,rf,h0,h1,h2,h3⟩:=id Qg
 have EX:vm.length=n:=by rw [C.dm.length,AM,ok.lm]
 refine ⟨JZ,λ pl jG=>?_⟩
 have s0:=ak (o:=.lst []) jG
 have C0:=C.same s0
 refine ⟨_,rfl,p,_,rfl,bZ C0.hp,pm,vm,rfl,.inl (aT.of C0.d5),λ y ey=>?_⟩
 obtain rfl:y=(n:Int):=by rw [ey,EX]
 refine ⟨_,rfl,by lia,by lia,?_⟩
 refine iR (lo:=0) (n:=n) (λ i U H'=>A3 (aA H H') (∃ ys,H' pl=some (.lst ys)/\bT K H' ((((List.range i).map (tm.num n st.aH t.bX t.aH hg)).map λ x=>aQ x 12 tm.scale).map dR) ys) (E5 λ (v5 v6 v7 v8 v9:Option V)=>U=[some (.ref p),some (.ref q),some (.ref r),some (.bl hg),some (.ref pl),v5,v6,v7,v8,v9]))
   ⟨s0,⟨[],ag,fU⟩,none,none,none,none,none,rfl⟩ ?_ ?_
 .
  rintro _ i U H1 hi ⟨S1,⟨ys,NK,YQ⟩,v5,v6,v7,v8,v9,rfl⟩
  have C1:=C.same S1
  have tP:i<tm.marks.length:=by rw [ok.lm];exact hi
  obtain ⟨t1,t2,t3,t4⟩:=hb.Ab i hi
  have lz:t.aH.getD i 0+1<(tm.marks.getD i []).length:=by lia
  obtain ⟨m1,m2,Lm,mb0,mb1⟩:=gn (b:=t.aH.getD i 0) ok hi (by lia)
  obtain ⟨_,m3,HF,mb2,mb3⟩:=gn (b:=t.aH.getD i 0+1) ok hi lz
  obtain ⟨vk,evk,pk,wk,rfl,oC,dk⟩:=C1.dm.get (i:=i) (d:=vI tm.marks[i]) (by rw [T1,aq tP];rfl)
  have dk:=f7 dk
  subst dk
  have oC:aT K H1 pk (tm.marks[i].map V.int):=cQ.seq oC
  have OY:∀ {xs:List V} {v:V},xs[i]?=some v->tN xs (0+(i:Int))=some v:=λ h=>by rw [ad8];exact fF h
  have Qc:i<t.aH.length:=by rw [hb.len];exact hi
  have XN:(t.aH.map ap)[i]?=some (ap (t.aH.getD i 0)):=by rw [T1,aq Qc,OQ,aq Qc];rfl
  refine ⟨_,rfl,p,_,rfl,bZ C1.hp,_,rfl,pm,vm,_,_,rfl,rfl,.inl (aT.of C1.d5),OY evk,?_⟩
  refine ⟨_,rfl,r,_,_,_,rfl,rfl,.inr (S1.tup h0),rfl,_,rfl,rb,_,_,_,rfl,rfl,.inr (S1.tup h1),OY XN,?_⟩
  refine ⟨_,rfl,_,rfl,_,rfl,q,_,_,_,rfl,rfl,.inr (S1.tup g0),rfl,_,rfl,r,_,_,_,rfl,rfl,.inr (S1.tup h0),rfl,_,rfl,t.bX,i,by rw [ad8];rfl,?_⟩
  refine ⟨p,tm,n,i,qb,st.aH,t.bX.testBit i,by rw [ad8];rfl,hT.same S1,ok,n4,hi,.inr (S1.tup g1),nZ ok n4 so,λ z=>tM ok hi (hz i z),λ qe H2 s2 he=>?_⟩
  have S2:=S1.trans s2
  have XZ:aT K H2 pk (tm.marks[i].map V.int):=s2.seq oC
  have at0:tN (tm.marks[i].map V.int) ((t.aH.getD i 0:Nat):Int)=some (.int (tm.qY i (t.aH.getD i 0))):=fF (by rw [T1,aq m2,Lm];rfl)
  have at1:tN (tm.marks[i].map V.int) ((t.aH.getD i 0+1:Nat):Int)=some (.int (tm.qY i (t.aH.getD i 0+1))):=fF (by rw [T1,aq m3,HF];rfl)
  have bd:∀ {x:Int},-200<=x->x<=200->Bd 10 x:=λ h1 h2=>by show Int.natAbs _<2 ^ 10;lia
  refine ⟨_,rfl,qe,_,_,_,rfl,rfl,.inr (bP.of he),rfl,_,rfl,_,rfl,pk,_,_,_,rfl,rfl,.inl XZ,at0,_,_,rfl,rfl,⟨10,10,oR,bd mb0 mb1,by decide⟩,λ z1 ez1=>⟨_,z1,rfl,?_⟩⟩
  refine ⟨λ σ' H'=>H'=H2/\σ'=[some (.ref p),some (.ref q),some (.ref r),some (.bl hg),some (.ref pl),some (.int (0+(i:Int))),some (.ref pk),some (ap (t.aH.getD i 0)),some (.ref qe),some (.int (tm.num n st.aH t.bX t.aH hg i))],?_,?_⟩
  .
   cases hg with
   | false =>
     refine ⟨_,rfl,_,rfl,gz ⟨rfl,?_⟩⟩
     have e:(if z1 > tm.s0 n i st.aH (t.bX.testBit i) then z1 else tm.s0 n i st.aH (t.bX.testBit i))=tm.num n st.aH t.bX t.aH false i:=by
       unfold ar.num
       rw [acO abZ,ez1]
       split<;>lia
     rw [e];rfl
   | true =>
     refine ⟨_,rfl,_,rfl,iW ⟨_,rfl,qe,_,_,_,rfl,rfl,.inr (bP.of he),rfl,_,rfl,_,rfl,_,_,rfl,rfl,λ z2 ez2=>⟨pk,_,_,_,rfl,rfl,.inl XZ,by rw [ez2];exact at1,_,_,rfl,rfl,⟨10,10,oR,bd mb2 mb3,by decide⟩,λ z3 ez3=>⟨_,z3,rfl,rfl,?_⟩⟩⟩⟩
     have e:(if z3<tm.s1 n i st.aH (t.bX.testBit i) then z3 else tm.s1 n i st.aH (t.bX.testBit i))=tm.num n st.aH t.bX t.aH true i:=by
       unfold ar.num
       rw [acS rfl,ez3]
       split<;>lia
     rw [e];rfl
  rintro σ' _ ⟨rfl,rfl⟩
  have EW:=s2 _ _ NK
  have C2:=C.same S2
  obtain ⟨⟨nb1,nb2⟩,_⟩:=Bo ok n4 so hb hg hi
  refine ⟨_,rfl,.inl ⟨rfl,_,aT.of EW⟩,_,rfl,_,rfl,p,_,rfl,tI C2.hp,_,12,fE,tm.scale,rfl,cQ.tup C2.sc,ok.scale,Dw (by lia) (by lia),by decide,Dw (by decide) (by decide),λ q5 H3 s3 h5=>⟨pl,ys,_,rfl,rfl,s3 _ _ EW,?_,(S2.trans s3).put jG,⟨_,ag,?_⟩,_,_,_,_,_,rfl⟩⟩
  . have:=YQ.length
    rw [AM,AM,AM,adw] at this
    exact aN (by lia)
  .
   have ts:bw K H3 (upd H3 pl (.lst (ys++[.ref q5]))):=cF (s3 _ _ EW) rfl
   rw [agN,YT,YT,YT]
   refine bT.snoc (bT.ts ts _ (λ d hd=>?_) (bT.same (s2.trans s3) _ YQ)) (Dn.ts ts _ (gq _) (iQ (bP.of h5)))
   obtain ⟨f,_,rfl⟩:=List.mem_map.mp hd
   exact gq f
 .
  rintro U H1 ⟨S1,⟨ys,NK,YQ⟩,v5,v6,v7,v8,v9,rfl⟩
  refine ⟨_,rfl,k _ H1 S1 ⟨pl,ys,rfl,aT.of NK,YQ,by rw [AM,AM,adw],λ f hf=>?_⟩⟩
  obtain ⟨x,hx,rfl⟩:=List.mem_map.mp hf
  obtain ⟨i,hi,rfl⟩:=List.mem_map.mp hx
  obtain ⟨⟨b1,b2⟩,_⟩:=Bo ok n4 so hb hg (List.mem_range.mp hi)
  exact rP ok b1 b2
theorem ur (T:Txt K mg Ad):tj P w K mg base Ad.Walk "go" 10 ["self","order","out","bands","warmths"] [] (λ vs H Q _=>AE K Ad.aO Ad.Walk Ad.lS Ad.iA Ad.cx Ad.cK vs H Q E0):=(ui T).to0
set_option maxHeartbeats 0 in
theorem vV (T:Txt K mg Ad):Def P w K mg base "_law_taken" 11 ["_law_hold","_law_told","_law_state","_law_order","_law_behind","_law_high"] (Bf K Ad.aO):=by
 refine T.yT.cD j0 λ f bq A outer s H vs Q E hr h=>?_
 obtain ⟨a,p,q,r,fp,tm,n,st,o,out,c,hg,rfl,hh,hT,ok,n4,hq,so,Qg,hb,ho,hf,tn,k⟩:=h
 refine ⟨_,(ac (aE (i:=6) j0.nd rfl (lc rfl) (tG T.Ku (nQ (K:=K) T) .nil hr.m T.NC (aa (pv 0) (aa (pv 2) af))))
     (ac (aE (i:=7) j0.nd rfl (lc rfl) (ay dC (pv 3) (ay gM (pv 3) (aB au (pv 4) ah (λ _ _=>rfl)))))
     (ac (bg (zv (pv 6) T.bJ (ur (K:=K) T) hr.m (aa (pv 3) (aa (pv 7) (aa (aB au (pv 4) ah (λ _ _=>rfl)) (aa (am (su (K:=K) T) hr.m (aa (pv 1) (aa (pv 2) (aa (pv 4) (aa (pv 5) af))))) af))))))
     (al (aF (pi (gh (Bk hr.units) (cZ (pv 6) T.bJ (sK (K:=K) T) .nil hr.m) (pv 4) (aV _)) (pI (gh jn (cZ (pv 6) T.bJ (sQ (K:=K) T) .nil hr.m) ah (aV _))))))))),?_⟩
 try dsimp only [d7,aK]
 first|(refine c7 ?_;intro _ _ _ _ _)|skip
 obtain ⟨f1,f2,f3,f4⟩:=cH tm n n
 have xt:(tm.m2 n n).Ye:=by unfold ao.Ye;rw [f2,f3,f4];exact ok.bounds
 have hl:(tm.m2 n n).rows.length=n:=by rw [f1,AM,ad4,ok.lm];lia
 obtain ⟨_,_,_,_,wf⟩:=id hh
 refine ⟨_,rfl,_,rfl,λ x dx hx i0 ndx=>?_⟩
 have s1:aA H (upd (upd H dx (.own x)) x (.ins Ad.Walk dx [])):=(ak i0).trans (ak (by rw [ax (anq ndx)];exact hx))
 have HD:(upd (upd H dx (.own x)) x (.ins Ad.Walk dx [])) x=some (.ins Ad.Walk dx []):=ag
 generalize upd (upd H dx (.own x)) x (.ins Ad.Walk dx [])=H1 at s1 HD ⊢
 refine ⟨x,dx,a,fp,_,q,st,rfl,HD,hh.same s1,hq.same s1,so,xt,λ fpw H2 b2 ts2 wk2 fr2=>⟨rfl,?_⟩⟩
 have S2:aA H H2:=λ b u e=>b2 b u (s1 b u e) (λ z=>by rw [List.mem_singleton.mp z,hx] at e;cases e)
 obtain ⟨rb,zZ,rf,h0,h1,h2,h3⟩:=id (Qg.same S2)
 refine ⟨_,rfl,_,rfl,_,rfl,r,_,_,_,rfl,rfl,.inr h0,rfl,_,_,rfl,rfl,λ y ey=>⟨_,_,rfl,rfl,λ z ez=>?_⟩⟩
 have ez:z=((out:Nat):Int):=by
   rw [ez,ey]
   show (o:Int) - Builtin.bitAnd (o:Int) ((Ord.off o out:Nat):Int)=_
   rw [iV]
   exact Fx tn.AK tn.Cd λ r h=>(tn.sub r h).1
 subst ez
 obtain ⟨dxw,hd,qq,hxw,hhw,X9,nw⟩:=id wk2
 have hz:∀ i,(Ord.off o out).testBit i=true->(tm.m2 n n).has i=true:=λ i h=>(tn.M4 (tn.LM h).1).2
 refine ⟨_,rfl,x,dxw,_,rfl,hxw,rfl,_,rfl,_,rfl,_,rfl,r,_,_,_,rfl,rfl,.inr h0,rfl,_,rfl,_,rfl,_,rfl,_,rfl,p,q,r,tm,n,st,_,hg,rfl,hT.same S2,ok,n4,hq.same S2,so,Qg.same S2,hb,hz,λ vw H3 s3 Yi=>?_⟩
 have S3:=S2.trans s3
 have erF:∀ i,i<n->roomF (tm.m2 n n) st (Ord.off o out) (c.map λ x:Nat=>(x:Int)) (some (((List.range n).map (tm.num n st.aH (Ord.off o out) c hg)).map λ x=>aQ x 12 tm.scale)) i=none:=λ i hi =>
   (BN (wl:=some ((List.range n).map (tm.num n st.aH (Ord.off o out) c hg))) wf ok n4 hi (nZ ok n4 so) (hz i) (λ l e=>by cases e;rw [AM,adw])).trans (MN ok n4 so hb hg hi)
 have ec:(c.map λ x:Nat=>(x:Int)).map Int.toNat=c:=by rw [anM];exact List.map_id' c
 refine ⟨x,fpw,_,st,0,o,out,rb,c.map λ x:Nat=>(x:Int),vw,_,rfl,wk2.same s3,so,tn.Cd,.inr ?_,by rw [AM,hl,hb.len],by rw [hl];exact Yi,λ i b hi z=>xN wf ok n4 (by lia) (nZ ok n4 so) z,λ _ _=>tn,λ h=>absurd ho h,λ _ h=>absurd hf h,λ _ _=>⟨λ i b hi e=>?_,λ _ H4 b4 ts4 wk4=>?_⟩⟩
 . rw [anM]
   exact s3.tup h1
 . have e:=(erF i (by lia)).symm.trans e
   cases e
 rw [ec] at wk4
 have S4:aA H H4:=λ b u e=>b4 b u (S3 b u e) (λ z=>by rw [List.mem_singleton.mp z,hx] at e;cases e)
 obtain ⟨OR,hd4,q4,ER,T6,Xo,n4'⟩:=id wk4
 exact ⟨_,rfl,x,_,_,rfl,ER,rfl,x,OR,hd4,q4,_,rfl,ER,_,rfl,Fe Xo.dn (Qg.same S4).dn (L9 _) (by decide) ⟨true,rfl,iW ⟨_,rfl,x,_,_,rfl,ER,rfl,x,OR,hd4,q4,_,rfl,ER,rfl,k H4 S4⟩⟩⟩
set_option maxHeartbeats 0 in
theorem xm (T:Txt K mg Ad):Def P w K mg base "_law_right" 12 ["_law_hold","_law_told","_law_state","_law_cell","_law_k"] (Bt K Ad.aO):=by
 refine T.zj.cD fo λ f bq A outer s H vs Q E hr h=>?_
 obtain ⟨a,p,q,fp,tm,n,st,c,kk,rfl,hh,hT,ok,n4,hs,so,hk,k⟩:=h
 refine ⟨_,(ac (aE (i:=5) fo.nd rfl (lc rfl) (am (nW (K:=K) T) hr.m (aa (pv 0) (aa (pv 2) af))))
     (ac (bx (aP (Bk hr.units) (pv 5) (cL af) (aV _)) (al (aF gX)) aI)
     (ac (aE (i:=6) fo.nd rfl (lc rfl) (aB au (pv 5) (am (aM (K:=K) T) hr.m (aa (pv 3) (aa (pv 4) (aa (aX bI (by rfl) T.f8 dJ (aa (pv 5) af)) af)))) (λ _ _=>rfl)))
     (ac (aE (i:=7) fo.nd rfl (lc rfl) (am (yc (K:=K) T) hr.m (aa (pv 0) (aa (pv 2) (aa (pv 6) af)))))
     (ac (bx (aP tp (pv 7) gu (aV _)) (al (aF gX)) aI)
     (ac (bx (aP (Bk hr.units) (pv 7) (cL af) (aV _)) (al (aF gX)) aI)
     (ac (cW afP rfl (cV (cL (aa ah (aa (ay dC (aX bI (by rfl) T.f8 dJ (aa (pv 7) af)) ah) (aa (am (aM (K:=K) T) hr.m (aa (pv 3) (aa (ay aJ (pv 4) ah) (aa (aX bI (by rfl) T.f8 dJ (aa (pv 7) af)) af)))) af))))) (aG (i:=8) fo.nd rfl (lc rfl)) (ac (bx (aP lq (ay gM (aB au (aB au (pv 7) (pv 8) (λ _ _=>rfl)) ah (λ _ _=>rfl)) (pv 6)) (aB au (aB au (pv 7) (pv 8) (λ _ _=>rfl)) ah (λ _ _=>rfl)) (aV _)) (al (aF gX)) aI)
     (al (cW afP rfl (cV (cL (aa gX (aa gX af)))) (aG (i:=9) fo.nd rfl (lc rfl)) (al (bx (dX (ce (am (vV (K:=K) T) hr.m (aa (pv 0) (aa (pv 1) (aa (pv 2) (aa (pv 6) (aa (aB au (pv 7) (pv 8) (λ _ _=>rfl)) (aa (pv 9) af))))))))) (al (aF gX)) aI))))))
     (al (aF gX))))))))),?_⟩
 try dsimp only [d7,aK]
 first|(refine yU ?_;intro _ _ _ _ _ _ _ _ _)|skip
 refine ⟨_,rfl,_,rfl,a,fp,_,q,st,rfl,hh,hs,so,λ po H1 np s1 k1=>?_⟩
 refine ⟨_,rfl,JZ,λ pe hpe=>?_⟩
 have s3:=ak (o:=.lst []) hpe
 have k3:(upd H1 pe (.lst [])) pe=some (.lst []):=ag
 generalize upd H1 pe (.lst [])=H3 at s3 k3 ⊢
 have S3:=s1.trans s3
 have Oy:=s3 _ _ k1
 refine GI (aT.of Oy) (aT.of k3) ⟨_,rfl,k9 (λ h=>k H3 S3) (λ h=>?_)⟩
 have N2:0<(st.orders (tm.m2 n n)).length:=List.length_pos_iff.mpr h
 have hl:(tm.m2 n n).rows.length=n:=by rw [(cH tm n n).1,AM,ad4,ok.lm];lia
 refine ⟨_,rfl,_,rfl,_,rfl,_,rfl,po,_,rfl,.inl (aT.of Oy),λ x2 e2=>?_⟩
 rw [AM] at e2
 refine ⟨c,kk,x2,rfl,by lia,by lia,by lia,λ r a0 a1=>?_⟩
 have hr:r.toNat<(st.orders (tm.m2 n n)).length:=by lia
 have ho:(st.orders (tm.m2 n n))[r.toNat]∈st.orders (tm.m2 n n):=ab8 hr
 have ato:=bA (xs:=(st.orders (tm.m2 n n)).map ap) (j:=r.toNat) (v:=ap (st.orders (tm.m2 n n))[r.toNat]) (by rw [T1,aq hr];rfl)
 rw [ann a0] at ato
 refine ⟨po,_,_,_,rfl,rfl,.inl (aT.of Oy),ato,?_⟩
 generalize (st.orders (tm.m2 n n))[r.toNat]=o at ho
 obtain ⟨_,_,_,l4,wf⟩:=id hh
 have ow:o &&& (tm.m2 n n).ws=o:=((o7 (yC l4)).2 o (List.mem_filter.mp ho).1).2
 have om:=(o7 (wu (s:=st) (o:=o) l4)).2
 have tn:∀ out∈eD (tm.m2 n n) st o,cC (tm.m2 n n) st o out:=λ out h=>MM ok n4 so (om out h).1 ho (om out h).2
 have sp:Ol (tm.m2 n n) st:=λ i b hi hz=>xN wf ok n4 (by lia) (nZ ok n4 so) hz
 refine ⟨_,rfl,_,rfl,_,rfl,a,fp,_,q,st,o,rfl,hh.same S3,hs.same S3,so,ow,tn,sp,λ hu H4 s4=>⟨_,rfl,rfl,_,rfl,iW (k H4 (S3.trans s4))⟩,λ rm pw xs H4 s4 kw Lv=>?_⟩
 have S4:=S3.trans s4
 obtain ⟨_,ne,_⟩:=(eS.refl n tm).res wf wf ok ok n4 so tn rm
 refine ⟨_,rfl,rfl,_,rfl,k9 (λ h=>nomatch h) λ _=>?_⟩
 refine ⟨_,rfl,JZ,λ pe2 acB=>?_⟩
 have s5:=ak (o:=.lst []) acB
 have k5:(upd H4 pe2 (.lst [])) pe2=some (.lst []):=ag
 generalize upd H4 pe2 (.lst [])=H5 at s5 k5 ⊢
 have YN:=s5 _ _ kw
 have UC:=Lv.imp λ p s h=>h.same s5
 have S5:=S4.trans s5
 refine IY (aT.of YN) UC (aT.of k5) ⟨_,rfl,?_⟩
 rw [ad7 ne]
 refine gz ?_
 have lx:=Lv.length
 have l0:0<(t7 (tm.m2 n n) st o).length:=List.length_pos_iff.mpr ne
 refine ⟨_,rfl,pw,xs,rfl,.inl (aT.of YN),λ y1 ey1=>⟨_,_,rfl,rfl,λ y2 ey2=>⟨_,rfl,_,rfl,_,_,rfl,rfl,λ y3 ey3=>⟨_,rfl,pw,xs,rfl,.inl (aT.of YN),λ y4 ey4=>⟨c,y3,y4,rfl,by lia,by lia,by lia,λ r2 b0 b1=>⟨OP,λ pl jG=>?_⟩⟩⟩⟩⟩⟩
 have s6:=ak (o:=.lst [.int 0,.int y2,.int r2]) jG
 have k6:(upd H5 pl (.lst [.int 0,.int y2,.int r2])) pl=some (.lst [.int 0,.int y2,.int r2]):=ag
 generalize upd H5 pl (.lst [.int 0,.int y2,.int r2])=H6 at s6 k6 ⊢
 have S6:=S5.trans s6
 have kw6:=s6 _ _ YN
 have Zg:=UC.imp λ p s h=>h.same s6
 refine ⟨pl,rfl,⟨_,aT.of k6⟩,?_⟩
 refine jA (K:=K) (a:=pl) (xs:=[.int 0,.int y2,.int r2]) (λ i U H'=>aA H6 H'/\E2 λ (v8 v9:Option V)=>U=[some (.ref a),some (.ref p),some (.ref q),some (.int c),some (ap kk),some (.ref po),some (ap o),some (.ref pw),v8,v9])
   ⟨aA.refl _,none,none,rfl⟩ (λ i U H' _ ⟨s7,_⟩=>aT.of (s7 _ _ k6)) ?_ ?_
 .
  rintro _ i v U H7 hv ⟨s7,v8,v9,rfl⟩
  obtain ⟨z,rfl,z0,z1⟩:∃ z:Int,v = .int z/\0<=z/\z<xs.length:=by
    have:=ad5 hv
    simp only [acs,aaI,agT] at this
    rcases this with e|e|e
    . exact ⟨_,e,by lia,by lia⟩
    . exact ⟨_,e,by lia,by lia⟩
    . exact ⟨_,e,by lia,by lia⟩
  have hz:z.toNat<xs.length:=by lia
  obtain ⟨pr,x,ex,Mb,mO⟩:=Zg.get (aq hz)
  have Yn:=bA (xs:=xs) (j:=z.toNat) (v:=.ref pr) (by rw [aq hz,ex])
  rw [ann z0] at Yn
  obtain ⟨out,cc,uV,xJ,rfl⟩:=Jw (ad5 Mb)
  have FV:=tn out uV
  have Jh:∀ i,(Ord.off o out).testBit i=true->(tm.m2 n n).has i=true:=λ i h=>(FV.M4 (FV.LM h).1).2
  have YF:=FE wf ok n4 so Jh (rm out uV) xJ
  obtain ⟨rb,zZ,rf,h0,_⟩:=id (mO.same s7)
  have kw7:=s7 _ _ kw6
  refine ⟨_,rfl,_,rfl,pw,_,_,_,rfl,rfl,.inl (aT.of kw7),Yn,pr,_,_,_,rfl,rfl,.inr h0,rfl,_,rfl,_,_,rfl,rfl,λ y ey=>⟨_,rfl,_,rfl,pw,_,_,_,rfl,rfl,.inl (aT.of kw7),Yn,pr,_,_,_,rfl,rfl,.inr h0,rfl,rfl,_,rfl,wj (λ EF=>absurd ?_ EF) λ _=>?_⟩⟩
  . rw [ey]
    show V.int (Builtin.bitAnd ((Ord.off o out:Nat):Int) (o:Int))=V.int ((Ord.off o out:Nat):Int)
    rw [iV,Ix FV.AK FV.Cd]
  refine ⟨zY,λ UH EW=>?_⟩
  have s8:=ak (o:=.lst [.bl false,.bl true]) EW
  have k8:(upd H7 UH (.lst [.bl false,.bl true])) UH=some (.lst [.bl false,.bl true]):=ag
  generalize upd H7 UH (.lst [.bl false,.bl true])=H8 at s8 k8 ⊢
  have s68:=s7.trans s8
  refine ⟨UH,rfl,⟨_,aT.of k8⟩,?_⟩
  refine jA (K:=K) (a:=UH) (xs:=[.bl false,.bl true]) (λ i U H'=>aA H8 H'/\∃ (v9:Option V),U=[some (.ref a),some (.ref p),some (.ref q),some (.int c),some (ap kk),some (.ref po),some (ap o),some (.ref pw),some (.int z),v9])
    ⟨aA.refl _,v9,rfl⟩ (λ i U H' _ ⟨s9,_⟩=>aT.of (s9 _ _ k8)) ?_ ?_
  .
   rintro _ j v U H9 hv ⟨s9,v9,rfl⟩
   obtain ⟨hg,rfl⟩:∃ g:Bool,v = .bl g:=by
     have:=ad5 hv
     simp only [acs,aaI,agT] at this
     rcases this with e|e
     . exact ⟨_,e⟩
     . exact ⟨_,e⟩
   have s69:=s68.trans s9
   have S9:=S6.trans s69
   exact ⟨_,rfl,_,rfl,_,rfl,_,rfl,_,rfl,_,rfl,pw,_,_,_,rfl,rfl,.inl (aT.of (s69 _ _ kw6)),Yn,_,rfl,a,p,q,pr,fp,tm,n,st,o,out,cc,hg,rfl,hh.same S9,hT.same S9,ok,n4,hs.same S9,so,mO.same s69,YF,ho,(om out uV).2,FV,λ SB Oz=>⟨_,rfl,gz ⟨s9.trans Oz,_,rfl⟩⟩⟩
  . rintro U H9 ⟨s9,v9,rfl⟩
    exact ⟨s68.trans s9,_,_,rfl⟩
 . rintro U H7 ⟨s7,v8,v9,rfl⟩
   exact k H7 (S6.trans s7)
set_option maxHeartbeats 0 in
theorem MC {f:Addr} {fd:FuncData} (F:Li K "law" "law" yk f fd) (T:Txt K mg Ad):hZ P w K mg base tO 13 f fd ["_law_script"] (FT K):=by
 refine F.ok oY (λ vs H Q E h=>?_) (λ bq A outer s H vs Q E hr h=>?_)
 . obtain ⟨a,ns,rfl,_⟩:=h
   rfl
 .
  obtain ⟨a,ns,rfl,hS,hlen,BU,k⟩:=h
  refine ⟨_,(ac (aE (i:=1) oY.nd rfl (lc rfl) (am (yA (K:=K) T) hr.m (aa (am (vR (K:=K) T) hr.m (aa (pv 0) af)) (aa (am (cP (K:=K) T) hr.m (aa (pv 0) (aa ah af))) af))))
    (ac (aE (i:=2) oY.nd rfl (lc rfl) (am (vG (K:=K) T) hr.m (aa (pv 1) af)))
    (ac (cW afP rfl (bM rfl T.cI (aa (ay aJ ah (ay iG (aX bI (by rfl) T.f8 dJ (aa (lF wG (pv 0) (jU ah) (jU ah)) af)) ah)) af)) (aG (i:=3) oY.nd rfl (lc rfl)) (ac (aE (i:=4) oY.nd rfl (lc rfl) (lF wG (pv 0) (jU (ay aJ ah (ay aZ ah (pv 3)))) (jU (ay aJ ah (ay aZ ah (pv 3))))))
    (ac (aE (i:=5) oY.nd rfl (lc rfl) (am (qy (K:=K) T) hr.m (aa (pv 1) (aa (am (cP (K:=K) T) hr.m (aa (pv 4) (aa ah af))) (aa (pv 3) af)))))
    (al (bx (dX (ce (am (xm (K:=K) T) hr.m (aa (pv 2) (aa (pv 1) (aa (pv 5) (aa (am (cP (K:=K) T) hr.m (aa (pv 4) (aa ah af))) (aa (pv 3) af)))))))) (al (aF gX)) aI)))))
    (al (aF gX))))),?_⟩
  try dsimp only [d7,aK]
  first|(refine c7 ?_;intro _ _ _ _ _)|skip
  refine ⟨_,rfl,a,ns,rfl,hS,λ p H0 tm0 n n1 n4 ok0 S0 hT0=>?_⟩
  refine ⟨_,rfl,a,ns,4,rfl,S0.seq hS,by decide,λ c4 _=>⟨p,tm0,H,n,c4,rfl,ok0,S0,hT0,λ H1 tm ok S1 hT=>?_⟩⟩
  refine ⟨_,rfl,p,tm,n,rfl,hT,ok,n1,n4,λ ha H2 fph S2 hh hF hn tw=>?_⟩
  have hT2:=hT.same S2
  have hS2:=(S1.trans S2).seq hS
  refine ⟨_,rfl,4,rfl,15,rfl,a,_,rfl,hS2,λ pc Zh=>⟨_,_,rfl,.inl (aT.of ag),λ c ec=>⟨_,_,rfl,rfl,⟨by decide,oR⟩,λ d ed=>⟨_,_,rfl,rfl,λ e ee=>?_⟩⟩⟩⟩
  have hc:c<=63:=by
    have:=pW (ns.map V.int) (some 4) (some 15)
    rw [AM] at this
    lia
  have hc0:0<=c:=by lia
  rw [ao6 c (by decide)] at ed
  have t0:=ak (o:=.lst (oH (ns.map V.int) (some 4) (some 15))) Zh
  refine ⟨e,rfl,by lia,by lia,iR (lo:=0) (n:=e.toNat) (λ i U H'=>aA H2 H'/\E3 λ (v3 v4 v5:Option V)=>U=[some (.ref a),some (.ref p),some (.ref ha),v3,v4,v5]) ⟨t0,none,none,none,rfl⟩ ?_ ?_⟩
  .
   rintro _ i U H5 hi ⟨S5,v3,v4,v5,rfl⟩
   have bk:Bd 100 (0+(i:Int)):=bdS 100 (by lia) (by lia)
   refine ⟨_,rfl,_,rfl,_,_,rfl,rfl,⟨3,100,oR,bk,by decide⟩,λ m1 HF=>⟨_,_,rfl,rfl,λ m2 em2=>⟨_,rfl,_,rfl,_,_,rfl,rfl,⟨3,100,oR,bk,by decide⟩,λ m3 em3=>⟨_,_,rfl,rfl,λ m4 em4=>⟨_,rfl,a,_,rfl,S5.seq hS2,λ p2 Gr=>?_⟩⟩⟩⟩⟩
   have t4:=ak (o:=.lst (oH (ns.map V.int) (some m2) (some m4))) Gr
   have k4:(upd H5 p2 (.lst (oH (ns.map V.int) (some m2) (some m4)))) p2=some (.lst ((Io ns (some m2) (some m4)).map V.int)):=by rw [← Ej];exact ag
   generalize upd H5 p2 (.lst (oH (ns.map V.int) (some m2) (some m4)))=H6 at t4 k4 ⊢
   generalize Io ns (some m2) (some m4)=two at k4
   have S6:=S5.trans t4
   refine ⟨_,rfl,_,rfl,p2,two,0,rfl,aT.of k4,by decide,λ c5 _=>⟨_,rfl,p,tm,n,c5,i,by rw [ad8];rfl,hT2.same S6,ok,n4,by lia,λ q st H7 S7 mO so=>?_⟩⟩
   have S47:=S6.trans S7
   exact ⟨_,rfl,_,rfl,_,rfl,_,rfl,p2,two,1,rfl,aT.of (S7 _ _ k4),by decide,λ c6 _=>⟨_,rfl,ha,p,q,fph,tm,n,st,c6,i,by rw [ad8];rfl,hh.same S47,hT2.same S47,ok,n4,mO,so,by lia,λ H8 S8=>⟨_,rfl,gz ⟨S47.trans S8,_,_,_,rfl⟩⟩⟩⟩
  . rintro U H5 ⟨S5,v3,v4,v5,rfl⟩
    exact k H5
end
theorem walk {l:W.OpenLaw} {q:Program} {loose:List Str} {XP:(Str->Option Value)->Heap->Prop} {YP:World->Heap->Prop} {d:DefRec} {K:Params->W.Frag} (hn:l.most=some 63) (Vd:d.params.defaults=[]) (We:d.name = "law")
   (hY:∀ (w:World) (h:Heap),YP w h->(K w.params).In h)
   (F:∀ (w:World) (mg:Str->Option Value) (h:Heap),(K w.params).In h->h.Ns mainGlobals mg->∃ A,Txt (K w.params) mg A) :
   W.WalkO q loose XP YP l.row.toRowW d [] (λ f vs=>PySem.call f vs) :=
 L2.G3 (k:=13) (x:="_law_script") hn Vd ⟨rfl,by decide,by decide⟩ hY
   (λ w mg fa h KX G OO=>by
     obtain ⟨_,T⟩:=F w mg h KX G
     obtain ⟨f,fd,hm,Fd⟩:=id T.So
     rw [We] at OO
     have e:=OO.symm.trans hm
     cases e
     exact ⟨fd,Fd.Nr (λ _ _ _ _ _ _ _=>rfl),λ base _ _=>MC Fd T⟩)
end K22
namespace PySem.W.Fast
def tw13469991875322676767:=0
def tw12568578570576723773:=0
def tw9395487751346942603:=0
def tw2598075956932190312:=0
def tw15770276815417193004:=0
def tw2460690911380280556:=0
def tw5982348589160299773:=0
def tw11702039406595423035:=0
def tw17371073057116324504:=0
def tw14614825680531944571:=0
def tw13916175277422071226:=0
def tw15916837854520871784:=0
def tw14373489877098828795:=0
def tw14335065983100653089:=0
def tw12983087121716569756:=0
def tw13713406607075526068:=0
def tw14988411107406477529:=0
def tw2144118532757146946:=0
def tw17089482505033012201:=0
def tw7544060964755787371:=0
def tw5952827943339674544:=0
def tw12735464242116863933:=0
def tw1151374874304716879:=0
def tw5377164023070072981:=0
def tw13724024342281852870:=0
def tw658826857561578961:=0
def tw4330806202303560942:=0
def tw15409615459397494939:=0
def tw7493223656242051089:=0
def tw12458739422207125967:=0
def tw56462062190845496:=0
def tw16442995637179311062:=0
def tw6049789997783196597:=0
def tw1315350545979907044:=0
def tw16414498001784340392:=0
def tw7491553919405075845:=0
def tw16243385243649677803:=0
def tw2213627958904231263:=0
def tw6413157924978280674:=0
def tw7835449159502281844:=0
def tw14462914362091912736:=0
def tw5514705732468283609:=0
def tw7851160591501387717:=0
def tw10271736947337683293:=0
def tw9261584119697266657:=0
def tw2361481809951199353:=0
def tw9544652934718453647:=0
def tw14405562993463975195:=0
def tw4991916590638988865:=0
def tw4010032122440001632:=0
def tw15234242889621626057:=0
def tw14043571524466161085:=0
def tw13815610984851038013:=0
def tw11935536595733645255:=0
def tw4575461301740364326:=0
def tw13726677464186148150:=0
def tw16436916282914251125:=0
def tw3952425759208126928:=0
def tw12634949053890430423:=0
def tw4775394777615225341:=0
def tw1880090457992727190:=0
def tw16975092454089214433:=0
def tw10763313999246433488:=0
def tw18155206669243401794:=0
def tw10385426490681572238:=0
def tw1869797544793351037:=0
def tw13899935346270734364:=0
def tw12753814653071735548:=0
def tw2079728441329823485:=0
def tw11829731661557933720:=0
def tw5121721097988954628:=0
def tw13557440169913796593:=0
def tw14740260183259288063:=0
def tw613647167118161490:=0
def tw14361078530157558779:=0
def tw3539547037104462665:=0
def tw2678694349683575657:=0
def tw15462355039971761995:=0
def tw16151537835439286181:=0
def tw13821673311534809192:=0
def tw9477937003560839080:=0
def tw12260868422821115707:=0
def tw16019652797110563242:=0
def tw2269214874586108752:=0
def tw2502325853541327531:=0
def tw12483131305984883875:=0
def tw9138593666772932070:=0
def tw8958730663481270714:=0
def tw15634852809606220904:=0
def tw14841827919925973920:=0
def tw11996683733897496397:=0
def tw561141046224488394:=0
def tw2895823373844798781:=0
def tw3638038674234780764:=0
def tw17941312780441366839:=0
def tw1480757732046036942:=0
def tw13416226167328948845:=0
def tw3434010665441895916:=0
def tw6315034662216587656:=0
def tw1643078082589256972:=0
def tw15279884430594142410:=0
def tw6796645572331064484:=0
def tw17480521595610134580:=0
def tw17931137413764738349:=0
def tw14798150532728421542:=0
def tw2331410443062276544:=0
def tw13929208626099890687:=0
def tw7010359721310408805:=0
def tw12177008549037726366:=0
def tw3711470852337631784:=0
def tw3810424149231004052:=0
def tw15382948133440096559:=0
def tw2630402631161751500:=0
def tw7239902564279935692:=0
def tw3973155861149262941:=0
def tw17424661826153734709:=0
def tw12134227715600131228:=0
def tw13722306335409791753:=0
def tw16554816364839198726:=0
def tw8483963935856132127:=0
end PySem.W.Fast
open PySem PySem.W PyProof.Rows
set_option maxRecDepth 100000 in
set_option maxHeartbeats 0 in
theorem PySem.Challenge.cw_stoke_k22_whole_outcomes_walked_holds : PySem.Challenge.rw_stoke_k22_whole_outcomes_walked.Holds := by
 w_on; o_law; k_head; (case hw => w_witness2)
 k_fill
 refine K22.walk (l:=PySem.Challenge.rw_stoke_k22_whole_outcomes_walked) rfl rfl rfl (fun w h Y => PySem.W.kIn_of Y) ?F
 case F =>
   intro w mg h KX G
   refine' ⟨_,K22.txt_mk KX G ?_ ?_ ?_ ?_ ?_ ?_ ?_ ?_ ?_ ?_ ?_ ?_ ?_ ?_ ?_ ?_ ?_ ?_ ?_ ?_ ?_ ?_ ?_ ?_ ?_ ?_ ?_ ?_ ?_ ?_ ?_ ?_ ?_ ?_ ?_ ?_ ?_ ?_ ?_ ?_ ?_ ?_ ?_ ?_ ?_ ?_ ?_ ?_ ?_ ?_ ?_ ?_ ?_ ?_ ?_ ?_ ?_ ?_ ?_ ?_ ?_ ?_ ?_ ?_ ?_ ?_ ?_ ?_ ?_ ?_ ?_ ?_ ?_ ?_ ?_ ?_ ?_ ?_ ?_ ?_ ?_ ?_ ?_ ?_ ?_ ?_ ?_ ?_ ?_ ?_ ?_ ?_ ?_ ?_ ?_ ?_ ?_ ?_ ?_ ?_ ?_ ?_ ?_ ?_ ?_ ?_ ?_ ?_ ?_ ?_ ?_ ?_ ?_ ?_ ?_ ?_ ?_ ?_ ?_ ?_ ?_ ?_ ?_ ?_ ?_ ?_ ?_ ?_ ?_ ?_ ?_ ?_ ?_ ?_ ?_ ?_ ?_ ?_ ?_ ?_ ?_ ?_ ?_ ?_ ?_ ?_ ?_ ?_ ?_ ?_ ?_ ?_ ?_ ?_ ?_ ?_ ?_ ?_ ?_ ?_ ?_ ?_ ?_ ?_ ?_ ?_ ?_ ?_ ?_ ?_ ?_ ?_ ?_ ?_ ?_ ?_ ?_ ?_ ?_ ?_ ?_ ?_ ?_ ?_ ?_ ?_ ?_ ?_ ?_ ?_ ?_ ?_ ?_ ?_ ?_ ?_ ?_ ?_ ?_ ?_ ?_ ?_ ?_ ?_ ?_ ?_ ?_ ?_ ?_ ?_ ?_ ?_ ?_ ?_ ?_ ?_ ?_ ?_ ?_ ?_ ?_ ?_ ?_ ?_ ?_ ?_ ?_ ?_ ?_ ?_ ?_ ?_ ?_ ?_ ?_ ?_ ?_ ?_ ?_ ?_ ?_ ?_ ?_ ?_ ?_ ?_ ?_ ?_ ?_ ?_ ?_ ?_ ?_ ?_ ?_ ?_ ?_ ?_ ?_ ?_ ?_ ?_ ?_ ?_ ?_ ?_ ?_ ?_ ?_ ?_ ?_ ?_ ?_ ?_ ?_ ?_ ?_ ?_ ?_ ?_ ?_ ?_ ?_ ?_ ?_ ?_ ?_ ?_ ?_ ?_ ?_ ?_ ?_ ?_ ?_ ?_ ?_ ?_ ?_ ?_ ?_ ?_ ?_ ?_ ?_ ?_ ?_ ?_ ?_ ?_ ?_ ?_ ?_ ?_ ?_ ?_ ?_ ?_ ?_ ?_ ?_ ?_ ?_ ?_ ?_ ?_ ?_ ?_ ?_ ?_ ?_ ?_ ?_ ?_ ?_ ?_ ?_ ?_ ?_ ?_ ?_ ?_ ?_ ?_ ?_ ?_ ?_ ?_ ?_ ?_ ?_ ?_ ?_ ?_ ?_ ?_ ?_ ?_ ?_ ?_ ?_ ?_ ?_ ?_ ?_ ?_ ?_ ?_ ?_ ?_ ?_ ?_ ?_ ?_ ?_ ?_ ?_ ?_ ?_ ?_ ?_ ?_ ?_ ?_ ?_ ?_ ?_ ?_ ?_ ?_ ?_ ?_ ?_ ?_ ?_ ?_ ?_ ?_ ?_ ?_ ?_ ?_ ?_ ?_ ?_ ?_ ?_ ?_ ?_ ?_ ?_ ?_ ?_ ?_ ?_ ?_ ?_ ?_ ?_ ?_ ?_ ?_ ?_ ?_ ?_ ?_ ?_ ?_ ?_ ?_ ?_ ?_ ?_ ?_ ?_ ?_ ?_ ?_ ?_ ?_ ?_ ?_⟩
   all_goals try ((try delta K22.kq_); (try delta K22.kc_); (try delta K22.kf_); (try delta K22.kn_); (try delta K22.kg_); first | k_is | k_exc | kernel_rfl)
