import PyProof.Rows.All
import Wide.All
import OpenK.AllK
import Wide.FinOn
import Lean
import PyProof.EqAt
import PyProof.EqKinds
import PyProof.TupleCall
import PySem.Challenge.RW_stoke_k19_walks_gone
set_option Elab.async false
set_option linter.all false
set_option maxRecDepth 100000
def At:=@List.length_map
def Nv:=@List.getD_eq_getElem?_getD
def RS:=@List.getElem?_map
def T1:=@PySem.wpAny_bind
def YC:=@List.map_append
def YM:=@PySem.Heap.get?_push_of_some
def aar:=@Nat.le_refl
def aas:=@List.length_append
def aay:=@List.not_mem_nil
def aaz:=@Int.zero_add
def aaA:=@List.getElem_mem
def aaN:=@List.mem_append_right
def aaR:=@Bool.false_ne_true
def aaU:=@Option.some.inj
def aa8:=@if_neg
def abh:=@PySem.Heap.lt_size
def abj:=@List.mem_cons
def abl:=@if_pos
def abC:=@decide_eq_false
def abE:=@Nat.lt_of_lt_of_le
def abF:=@PySem.wpAny_pure
def abO:=@List.mem_cons_of_mem
def abR:=@List.size_toArray
def abX:=@List.length_take
def abY:=@decide_eq_true
def acp:=@PySem.W.mg_of
def acq:=@List.length_cons
def acN:=@Nat.ne_of_lt
def acT:=@List.length_range
def acV:=@PySem.wpAny_mono
def ac5:=@Bool.and_eq_true
def ac8:=@List.mem_of_getElem?
def ada:=@Int.mul_right_comm
def adc:=@PySem.F.type_list_append
def adq:=@PySem.F.slot_list_append
def adt:=@PySem.Heap.get?_push_size
def adL:=@PySem.F.plainAttrs_list
def adY:=@List.mem_cons_self
def ad4:=@PySem.PassesOwn.never
def ad6:=@List.getElem?_eq_getElem
def aea:=@List.getElem?_append_right
def aeA:=@List.range_succ
def aeC:=@List.map_cons
def aeF:=@List.getElem?_append_left
def ae2:=@decide_eq_true_eq
def ae5:=@or_false
def ae7:=@Int.mul_pos
def ae9:=@List.length_filter_le
def aff:=@Int.toNat_natCast
def afh:=@Nat.zero_le
def afj:=@Nat.testBit_and
def afo:=@List.eq_nil_of_length_eq_zero
def afX:=@Nat.lt_of_le_of_lt
def afY:=@Nat.le_trans
def agc:=@List.take_length
def age:=@List.mem_append_left
def agM:=@List.getElem?_set_ne
def ag3:=@List.filter_append
def ag7:=@Nat.lt_irrefl
def ahp:=@Int.mul_assoc
def ahP:=@PySem.W.mg_none_of
def ahT:=@Int.toNat_of_nonneg
def ahZ:=@PyProof.Rows.callWith_type1
def ah1:=@List.length_set
def aib:=@Nat.pow_le_pow_right
def aim:=@Nat.eq_of_testBit_eq
def aiK:=@Int.eq_of_mul_eq_mul_right
def aiM:=@List.getElem?_set_self
def aiR:=@List.getElem_of_mem
def ai6:=@List.foldl_append
def aji:=@List.append_nil
def ajz:=@Int.le_of_lt
def ajY:=@List.lookup_cons
def akk:=@PySem.mem_of_lookup
def akG:=@Int.mul_lt_mul_of_pos_right
def alm:=@Bool.eq_iff_iff
def alp:=@PySem.wpAny_holding
def als:=@PySem.wpAny_truthy_bool
def alt:=@Ne.symm
def alH:=@Int.lt_of_mul_lt_mul_right
def alS:=@List.length_singleton
def amv:=@List.length_replicate
def amz:=@Int.natCast_nonneg
def amE:=@List.take_succ
def amN:=@List.nil_append
def amP:=@Int.add_zero
def amX:=@congrArg
def am3:=@Int.mul_le_mul_of_nonneg_left
def am8:=@List.length_nil
def ann:=@Int.ne_of_gt
def anq:=@Int.le_refl
def anz:=@PySem.Heap.get?_update_other
def anA:=@PySem.F.excBase_ValueError
def anK:=@if_true
def anR:=@PySem.wpAny_passesOwn
def anS:=@PySem.wpAny_execs_nil
def anT:=@PySem.W.kia_one
def anU:=@PySem.Heap.get?_update_self
def anV:=@Nat.le_add_right
def anW:=@List.cons_append
def anX:=@List.all_eq_true
def anY:=@PySem.wpAny_pyIter_enum
def anZ:=@Nat.le_succ
def an0:=@List.getElem?_take_of_lt
def an1:=@Int.mul_fdiv_cancel_left
def an2:=@Int.mul_comm
def an3:=@PySem.F.slot_tuple_iterator_next
def an4:=@PySem.Heap.get?_none_of_le
def an5:=@PySem.W.looks_findIn
def an6:=@Nat.not_lt_zero
def an7:=@List.find?_cons
def an8:=@List.any_cons
def an9:=@Bool.false_eq_true
def aoa:=@PySem.wpAny_of_eq
def aob:=@Bool.not_eq_true'
def aoc:=@PySem.wpAny_loadPart_at
def aod:=@PySem.plainObj_wpAny_Assign_Attribute
def aoe:=@if_false
def aof:=@List.mem_filter
def aog:=@PySem.codeAny_call_builtin
def aoh:=@Nat.lt_trans
def aoi:=@Nat.add_comm
def aoj:=@List.map_map
def aok:=@PySem.Calls.evalArgs_plain
def aol:=@PySem.wpAny_standAt
def aom:=@Nat.lt_pow_two_of_testBit
def aon:=@Int.mul_nonneg
def aoo:=@PySem.wpAny_call
def aop:=@of_decide_eq_true
def aoq:=@PySem.Within.cons
def aor:=@Nat.lt_succ_of_lt
def aos:=@List.getElem?_replicate
def aot:=@List.filter_cons_of_pos
def aou:=@List.filter_cons_of_neg
def aov:=@PySem.wpAny_Call_Name_kw
def aow:=@PySem.codeAny_mono
def aox:=@Nat.succ_ne_self
def aoy:=@Nat.and_le_right
def aoz:=@PySem.wpAny_dictEntries
def aoA:=@not_or
def aoB:=@PySem.W.Looks.ld
def aoC:=@PySem.F.slot_dict_get
def aoE:=@Option.map_some
def aoF:=@Nat.ne_of_gt
def aoG:=@Nat.le_of_ble_eq_true
def aoH:=@PySem.AutoSeq1.wpAny_loadPart'
def aoI:=@Int.mul_lt_mul_right
def aoJ:=@PySem.wpAny_execs_cons
def aoK:=@List.nodup_nil
def aoL:=@List.mem_range
def aoM:=@Int.natAbs_mul
def aoN:=@Nat.testBit_two_pow
def aoO:=@List.filterMap_cons
def aoP:=@PySem.Calls.callWith_builtin
def aoQ:=@Array.length_toList
def aoR:=@PySem.W.of_hideAll
def aoS:=@List.getElem?_tail
def aoT:=@Int.emod_lt_of_pos
def aoU:=@List.append_assoc
def aoV:=@PySem.wpAny_loadPart
def aoW:=@Nat.le_of_lt
def aoX:=@List.map_set
def aoY:=@List.map_nil
def ao0:=@PySem.Heap.size_push
def ao1:=@PySem.sizeLine_eq
def ao2:=@beq_self_eq_true
def ao3:=@Nat.lt_succ_self
def ao4:=@List.filter_cons
def ao5:=@PySem.Heap.SameBut.update
def ao6:=@PySem.tupleKind_room_in1
def ao7:=@and_congr_right
def ao8:=@PySem.W.looks_mroIn
def ao9:=@PySem.W.looks_clsIn
def apa:=@PySem.Paired.length
def apb:=@Nat.two_pow_add_eq_or_of_lt
def apc:=@Nat.and_le_left
def apd:=@List.of_mem_zip
def ape:=@Int.emod_nonneg
def apf:=@PySem.Code.quiet_builtin
def apg:=@PySem.Calls.spliced_cons
def aph:=@Bool.or_eq_true
def api:=@Int.fdiv_eq_ediv_of_nonneg
def apj:=@PySem.wpAny_newObj_type
def apk:=@Nat.testBit_or
def apl:=@List.mem_or_eq_of_mem_set
def apm:=@Bool.not_false
def apn:=@Bool.false_and
def apo:=@PySem.W.callWith_K
def app:=@PySem.F.args_tuple_add_2
def apq:=@PySem.wpAny_lookBehind
def apr:=@PySem.pastItsLine_dict
def aps:=@PySem.F.entry_tuple_add
def apt:=@PySem.F.args_dict_get_3
def apu:=@Nat.add_sub_cancel_left
def apv:=@List.sum_cons
def apw:=@Int.eq_ofNat_of_zero_le
def apx:=@Bool.not_true
def apy:=@PySem.F.slot_tuple_add
def apz:=@PySem.F.entry_dict_get
def apA:=@Nat.le_of_succ_le_succ
def apB:=@List.pairwise_lt_range
def apC:=@List.filter_eq_nil_iff
def apD:=@PySem.F.args_tuple_iterator_next_1
def apE:=@PySem.wpAny_specialOf
def apF:=@PySem.wpAny_field
def apG:=@PySem.W.methodCall_KW
def apH:=@PySem.F.entry_bexc_ga
def apI:=@Nat.pow_succ
def apJ:=@List.getElem?_zipWith
def apK:=@List.getElem?_toArray
def apL:=@Int.le_trans
def apM:=@PySem.F.entry_tuple_iterator_next
def apN:=@Bool.or_true
def apO:=@PySem.wpAny_letOwnedTupleGo_enum
def apP:=@PySem.F.args_bexc_ga
def apQ:=@PySem.Calls.Name_function_global
def apR:=@PySem.W.hideAll_none
def apS:=@Nat.mul_one
def apT:=@List.replicate_succ
def apU:=@List.getElem?_range
def apV:=@Int.mul_neg
def apW:=@true_and
def apX:=@of_decide_eq_false
def apY:=@PySem.W.any_some
def apZ:=@List.mem_singleton
def ap1:=@List.contains_cons
def ap2:=@Array.find?_toList
def ap3:=@Array.append_assoc
namespace L2
open PySem PySem.Spec PyProof.Rows
variable {C dx it:Addr} {H:Hp} {Q:VK} {ch fp:List Addr} {es:List Expr} {g:TG} {i t':Nat} {lo:Int} {o:HO} {pins:List (Addr×Obj)} {qual:Str} {s':Shared} {tb:TS} {te:TE} {tg:Expr} {u:Value} {us:List Value} {v:V} {xs:List V} {U:St}
abbrev Key:=Sum Int Str
def uP:Key->Value->Bool
 | .inl k,v=>Value.isInt k v
 | .inr x,v=>Value.isStrOf x v
def ahj (w:World):Key->Int
 | .inl k=>hashInt k
 | .inr x=>hashStr w x
theorem di:∀ {k:Key} {v:Value},uP k v=true->(∃ i t,k=Sum.inl i/\v=Value.int i t)∨(∃ x t,k=Sum.inr x/\v=Value.str x t)
 | .inl i,v,h=>by
   obtain ⟨t,e⟩:=Value.isInt_shape (k:=i) (v:=v) h
   exact .inl ⟨i,t,rfl,e⟩
 | .inr x,v,h=>by
   obtain ⟨t,e⟩:=Value.isStrOf_shape (x:=x) (v:=v) h
   exact .inr ⟨x,t,rfl,e⟩
theorem DM (i:Int) (t:Tok):uP (.inl i) (.int i t)=true:=by simp [uP,Value.isInt]
theorem EC (x:Str) (t:Tok):uP (.inr x) (.str x t)=true:=by simp [uP,Value.isStrOf]
theorem Na (a b:Int):decide ((Sum.inl a:Key)=Sum.inl b)=(a == b):=by
 by_cases e:a=b
 . subst e;simp
 . have h:¬ (Sum.inl a:Key)=Sum.inl b:=λ q=>e (Sum.inl.inj q)
   rw [abC h]
   exact (beq_eq_false_iff_ne.mpr e).symm
theorem M9 (a b:Str):decide ((Sum.inr a:Key)=Sum.inr b)=decide (a=b):=by
 by_cases e:a=b
 . subst e;simp
 . have h:¬ (Sum.inr a:Key)=Sum.inr b:=λ q=>e (Sum.inr.inj q)
   rw [abC h,abC e]
theorem N7 (a:Int) (b:Str):decide ((Sum.inl a:Key)=Sum.inr b)=false:=abC (λ q=>nomatch q)
theorem MJ (a:Str) (b:Int):decide ((Sum.inr a:Key)=Sum.inl b)=false:=abC (λ q=>nomatch q)
def cE (prog:Program) (w:World):PySem.KeyKind prog w Key where
 is:=uP
 hash:=ahj w
 inj:=λ v a b ha hb=>by
   rcases di ha with ⟨i,t,rfl,rfl⟩|⟨x,t,rfl,rfl⟩
   . rcases di hb with ⟨j,u,rfl,e⟩|⟨y,u,rfl,e⟩
     . injection e with e1 _;rw [e1]
     . exact nomatch e
   . rcases di hb with ⟨j,u,rfl,e⟩|⟨y,u,rfl,e⟩
     . exact nomatch e
     . injection e with e1 _;rw [e1]
 byValue:=λ k v h=>by
   rcases di h with ⟨i,t,rfl,rfl⟩|⟨x,t,rfl,rfl⟩<;>rfl
 pyHash:=λ hv h=>by
   rcases di hv with ⟨i,t,rfl,rfl⟩|⟨x,t,rfl,rfl⟩
   . exact wpAny_pyHash_int h
   . exact wpAny_pyHash_str h
 eqBool:=λ hu hv h=>by
   rcases di hu with ⟨i,t,rfl,rfl⟩|⟨x,t,rfl,rfl⟩
   . rcases di hv with ⟨j,u,rfl,rfl⟩|⟨y,u,rfl,rfl⟩
     . rw [Na] at h;exact wpAny_eqBool_int h
     . rw [N7] at h;exact SeqAt.EqAt.int_str i t y u _ _ _ _ h
   . rcases di hv with ⟨j,u,rfl,rfl⟩|⟨y,u,rfl,rfl⟩
     . rw [MJ] at h;exact SeqAt.EqAt.str_int x t j u _ _ _ _ h
     . rw [M9] at h;exact wpAny_eqBool_str h
 «strs»:=λ k x t v h=>by
   rcases di h with ⟨i,u,rfl,e⟩|⟨y,u,rfl,e⟩
   . exact nomatch e
   . injection e with e1 _
     subst e1
     cases v<;>rfl
theorem yW (prog:Program) (w:World) (i:Int) (t:Tok):(cE prog w).is (.inl i) (.int i t)=true:=DM i t
theorem xC (prog:Program) (w:World) (x:Str) (t:Tok):(cE prog w).is (.inr x) (.str x t)=true:=EC x t
inductive V where
 | bT|bl (b:Bool)|int (i:Int)|str (x:Str)|Eu (b:Array UInt8)|Ly (b:UInt64)|ref (a:Addr)|ty (n:String)
 deriving DecidableEq
def RelV:V->Value->Prop
 | .bT,u=>u=Value.none
 | .bl b,u=>u=Value.bool b
 | .int i,u=>∃ t,u=Value.int i t
 | .str x,u=>∃ t,u=Value.str x t
 | .Eu b,u=>∃ t,u=Value.bytes b t
 | .Ly b,u=>∃ t,u=Value.float b t
 | .ref a,u=>u=Value.ref a
 | .ty n,u=>u=Value.type n
abbrev Vals:List V->List Value->Prop:=Paired RelV
theorem Vals.length (r:Vals xs us):xs.length=us.length:=apa r
theorem Vals.get:∀ {xs:List V} {us:List Value} {i:Nat} {x:V},Vals xs us->xs[i]?=some x->∃ u,us[i]?=some u/\RelV x u
 | _,_,_,_,.nil,e=>by simp at e
 | _,_,0,_,.cons r _,e=>by simp at e;subst e;exact ⟨_,rfl,r⟩
 | _,_,i+1,x,.cons _ t,e=>by
   obtain ⟨u,h1,h2⟩:=Vals.get (i:=i) (x:=x) t (by simpa using e)
   exact ⟨u,by simpa using h1,h2⟩
theorem Vals.set {x:V} (r:RelV x u):∀ {xs:List V} {us:List Value} (i:Nat),Vals xs us->Vals (xs.set i x) (us.set i u)
 | _,_,_,.nil => .nil
 | _,_,0,.cons _ t => .cons r t
 | _,_,i+1,.cons q t => .cons q (Vals.set r i t)
theorem Vals.append:∀ {xs ys:List V} {us ws:List Value},Vals xs us->Vals ys ws->Vals (xs++ys) (us++ws)
 | _,_,_,_,.nil,s=>s
 | _,_,_,_,.cons r t,s => .cons r (Vals.append t s)
theorem Vals.take:∀ {xs:List V} {us:List Value} (n:Nat),Vals xs us->Vals (xs.take n) (us.take n)
 | _,_,0,_ => .nil
 | _,_,_+1,.nil => .nil
 | _,_,n+1,.cons r t => .cons r (Vals.take n t)
theorem Vals.drop:∀ {xs:List V} {us:List Value} (n:Nat),Vals xs us->Vals (xs.drop n) (us.drop n)
 | _,_,0,r=>r
 | _,_,_+1,.nil => .nil
 | _,_,n+1,.cons _ t=>Vals.drop n t
def jO:Option V->Option Value->Prop
 | some v,some u=>RelV v u
 | none,none=>True
 | _,_=>False
def KV {κ:Type}:List (κ×V)->List (κ×Value)->Prop:=Paired λ (p:κ×V) (q:κ×Value)=>p.1=q.1/\RelV p.2 q.2
def kV:Key->V
 | .inl i => .int i
 | .inr x => .str x
inductive HO where
 | lst (xs:List V)
 | tup (xs:List V)
 | dK (aN:List (Key×V))|dT (aN:List (List Key×V))
 | set (S:Int->Bool) (n:Nat)
 | ins (C dx:Addr) (fs:List (Str×V))
 | own (x:Addr)
 | xd (fs:List (Str×V))
 | met (f x:Addr)
 | VI (lo hi:Int)
 | zF (o:Obj) (u:HO)
 | Ls (ps:Array Value)
 | ext (φ:Heap->Prop)
abbrev Hp:=Addr->Option HO
def upd (H:Hp) (a:Addr) (o:HO):Hp:=λ b=>if b=a then some o else H b
theorem ah {a:Addr}:upd H a o a=some o:=by unfold upd;rw [abl rfl]
theorem aD {a b:Addr} (h:b≠a):upd H a o b=H b:=by unfold upd;rw [aa8 h]
theorem CS {a:Addr} {u:HO}:upd (upd H a o) a u=upd H a u:=by
 funext b;unfold upd;split<;>rfl
theorem XT {a b:Addr} {u:HO} (h:H a=some o) (h':H b=some u) (d:o≠u):a≠b:=by
 intro e;subst e;rw [h] at h';exact d (aaU h')
theorem aC {a b:Addr} (h:H a=some o) (h':H b=none):a≠b:=by
 intro e;subst e;rw [h] at h';cases h'
section
variable (P:Program) (w:World)
def c7 (H:Hp) (h:Heap) (a:Addr):HO->Prop
 | .lst xs=>xs.length<=sizeLine/\∃ (bG:List Value) (n:Nat),Vals xs bG/\h.get? a=some { cls:=.type "list",data:=.seq bG.toArray n }
 | .tup xs=>xs.length<=sizeLine/\∃ bG:List Value,Vals xs bG/\IsTup h a bG.toArray
 | .dK aN=>aN.length<=sizeLine/\(a == sysModules)=false/\∃ vs,KV aN vs/\h.DictOf (cE P w) a vs
 | .dT aN=>aN.length<=sizeLine/\(a == sysModules)=false/\∃ xs:List (List Key×Addr×Value),
     Paired (λ (p:List Key×V) (q:List Key×Addr×Value)=>p.1=q.1/\H q.2.1=some (.tup (p.1.map kV))/\RelV p.2 q.2.2) aN xs /\
     ∃ o es ep,h.get? a=some o/\o.ExactDict/\o.data = .dict es ep/\es.toList=xs.map (entryOfKey (tupleKind (cE P w)))/\(xs.map (·.1)).Nodup
 | .set S n=>h.SetOf (intKind P w) a S n
 | .ins C dx fs=>H dx=some (.own a)/\fs.length<=1000/\dx≠a/\h.get? a=some (W.instObj C dx) /\
     ∃ mA,h.Ns1 dx mA/\(∀ f,jO (fs.lookup f) (mA f))/\PySem.Within mA (fs.map (·.1))
 | .own _=>∃ o,h.get? a=some o
 | .xd fs=>∃ mA,h.Ns1 a mA/\∀ f,jO (fs.lookup f) (mA f)
 | .VI lo hi=>∃ t u v,h.get? a=some { cls:=.type "range",data:=.fields #[.int lo t,.int hi u,.int 1 v]}
 | .zF o u=>h.get? a=some o/\c7 H h a u
 | .Ls ps=>h.get? a=some { cls:=.none,data:=.fields ps }
 | .met f x=>h.get? a=some (W.methodObj (.ref f) (.ref x))
 | .ext φ=>φ h/\(∃ o,h.get? a=some o)/\∀ h1 h2:Heap,φ h1->(∀ o,h1.get? a=some o->h2.get? a=some o)->φ h2
def j2 (H:Hp) (h:Heap):Prop:=∀ a o,H a=some o->c7 P w H h a o
end
section
variable {P:Program} {w:World} {H H':Hp} {h h':Heap} {a:Addr} {o:HO}
theorem c7.lt (x:c7 P w H h a o):a<h.objs.size:=by
 cases o with
 | lst xs=>obtain ⟨_,_,_,_,e⟩:=x;exact abh e
 | tup xs=>obtain ⟨_,_,_,p⟩:=x;exact p.lt
 | dK aN=>obtain ⟨_,_,_,_,o,_,_,e,_⟩:=x;exact abh e
 | dT aN=>obtain ⟨_,_,_,_,o,_,_,e,_⟩:=x;exact abh e
 | set S n=>obtain ⟨o,_,_,_,e,_⟩:=x;exact abh e
 | ins C dx fs=>obtain ⟨_,_,_,e,_⟩:=x;exact abh e
 | own y=>obtain ⟨_,e⟩:=x;exact abh e
 | xd fs=>obtain ⟨_,⟨_,_,_,e,_⟩,_⟩:=x;exact abh e
 | VI lo hi=>obtain ⟨_,_,_,e⟩:=x;exact abh e
 | zF ob u=>obtain ⟨e,_⟩:=x;exact abh e
 | Ls ps=>exact abh (show h.get? a=some _ from x)
 | met f y=>exact abh (show h.get? a=some _ from x)
 | ext φ=>obtain ⟨_,⟨_,e⟩,_⟩:=x;exact abh e
theorem Paired.OB {α β:Type} {F G:α->β->Prop}:∀ {l₁:List α} {l₂:List β},Paired F l₁ l₂->(∀ a b,F a b->G a b)->Paired G l₁ l₂
 | _,_,.nil,_ => .nil
 | _,_,.cons r t,f => .cons (f _ _ r) (Paired.OB t f)
theorem c7.fB (x:c7 P w H h a o) (k:∀ b u,(b=a∨H b=some (.own a))->h.get? b=some u->h'.get? b=some u) (ho:∀ b,H b=some (.own a)->H' b=some (.own a)) (ht:∀ b xs,H b=some (.tup xs)->H' b=some (.tup xs)):c7 P w H' h' a o:=by
 induction o with
 | lst xs=>obtain ⟨z,bG,n,r,e⟩:=x;exact ⟨z,bG,n,r,k _ _ (.inl rfl) e⟩
 | tup xs=>obtain ⟨z,bG,r,ob,e,c⟩:=x;exact ⟨z,bG,r,ob,k _ _ (.inl rfl) e,c⟩
 | dK aN=>obtain ⟨z,y,vs,r,ob,es,ep,e,c⟩:=x;exact ⟨z,y,vs,r,ob,es,ep,k _ _ (.inl rfl) e,c⟩
 | dT aN =>
   obtain ⟨z,y,xs,r,ob,es,ep,e,c⟩:=x
   exact ⟨z,y,xs,Paired.OB r λ p q z=>⟨z.1,ht _ _ z.2.1,z.2.2⟩,ob,es,ep,k _ _ (.inl rfl) e,c⟩
 | set S n=>obtain ⟨ob,es,ep,t,e,c⟩:=x;exact ⟨ob,es,ep,t,k _ _ (.inl rfl) e,c⟩
 | ins C dx fs =>
   obtain ⟨d,z,ne,e,mA,⟨od,es,ep,e2,c⟩,r⟩:=x
   exact ⟨ho _ d,z,ne,k _ _ (.inl rfl) e,mA,⟨od,es,ep,k _ _ (.inr d) e2,c⟩,r⟩
 | own y=>obtain ⟨ob,e⟩:=x;exact ⟨ob,k _ _ (.inl rfl) e⟩
 | xd fs=>obtain ⟨mA,⟨od,es,ep,e,c⟩,r⟩:=x;exact ⟨mA,⟨od,es,ep,k _ _ (.inl rfl) e,c⟩,r⟩
 | VI lo hi=>obtain ⟨t,u,v,e⟩:=x;exact ⟨t,u,v,k _ _ (.inl rfl) e⟩
 | zF ob u ih=>obtain ⟨e,q⟩:=x;exact ⟨k _ _ (.inl rfl) e,ih q⟩
 | Ls ps =>
   have e:h.get? a=some { cls:=.none,data:=.fields ps }:=x
   show h'.get? a=some { cls:=.none,data:=.fields ps }
   exact k a _ (.inl rfl) e
 | met f y =>
   have e:h.get? a=some (W.methodObj (.ref f) (.ref y)):=x
   show h'.get? a=some (W.methodObj (.ref f) (.ref y))
   exact k a _ (.inl rfl) e
 | ext φ=>obtain ⟨p,⟨o,e⟩,st⟩:=x;exact ⟨st _ _ p λ o q=>k _ _ (.inl rfl) q,⟨o,k _ _ (.inl rfl) e⟩,st⟩
theorem j2.lt (x:j2 P w H h) (e:H a=some o):a<h.objs.size:=(x a o e).lt
theorem j2.fresh (x:j2 P w H h) (e:h.objs.size<=a):H a=none:=by
 cases q:H a with
 | none=>rfl
 | some u=>exact absurd (abE (x.lt q) e) (ag7 _)
theorem j2.kept (x:j2 P w H h) (k:∀ b u,h.get? b=some u->h'.get? b=some u):j2 P w H h':=λ a o e =>
 (x a o e).fB (λ b u _ q=>k b u q) (λ _ q=>q) λ _ _ q=>q
theorem j2.laid (x:j2 P w H h) (k:∀ b u,h.get? b=some u->h'.get? b=some u) (hp:h.objs.size<=a) (new:c7 P w (upd H a o) h' a o):j2 P w (upd H a o) h':=λ b u e=>by
 have hn:=x.fresh hp
 by_cases hb:b=a
 . subst hb;rw [ah] at e;cases e;exact new
 . rw [aD hb] at e
   exact (x b u e).fB (λ c v _ q=>k c v q) (λ c q=>by rw [aD (aC q hn)];exact q) λ c xs q=>by rw [aD (aC q hn)];exact q
end
def Rd (H:Hp) (a:Addr) (u:HO):Prop:=H a=some u∨∃ o,H a=some (.zF o u)
theorem Rd.ok {P:Program} {w:World} {h:Heap} {a:Addr} {u:HO} (r:Rd H a u) (x:j2 P w H h):c7 P w H h a u:=by
 rcases r with r|⟨o,r⟩
 . exact x a u r
 . obtain ⟨_,q⟩:=x a _ r
   exact q
def Rz:Option HO->Prop
 | some (.lst _)=>True
 | some (.dK _)=>True
 | some (.dT _)=>True
 | some (.set _ _)=>True
 | some (.ins _ _ _)=>True
 | some (.ext _)=>True
 | _=>False
section
variable {P:Program} {w:World} {H:Hp} {h h':Heap} {x e:Addr} {o':HO}
theorem j2.write (ok:j2 P w H h) (mu:Rz (H x)) (he:e=x∨H e=some (.own x)) (k:∀ b u,b≠e->h.get? b=some u->h'.get? b=some u) (BZ:∃ u,h'.get? e=some u) (new:c7 P w (upd H x o') h' x o'):j2 P w (upd H x o') h':=λ b u q=>by
 have QW:∀ c y,H c=some (.own y)->c≠x:=λ c y r z=>by subst z;rw [r] at mu;exact mu
 have acy:∀ c xs,H c=some (.tup xs)->c≠x:=λ c xs r z=>by subst z;rw [r] at mu;exact mu
 by_cases hb:b=x
 . subst hb;rw [ah] at q;cases q;exact new
 .
  rw [aD hb] at q
  by_cases NQ:b=e
  .
   have q':H b=some (.own x):=by
     rcases he with z|z
     . exact absurd (NQ.trans z) hb
     . rw [NQ];exact z
   rw [q] at q';cases q'
   obtain ⟨v,hv⟩:=BZ
   exact ⟨v,by rw [NQ];exact hv⟩
  .
   refine (ok b u q).fB (λ c v hc r=>k c v ?_ r) (λ c r=>by rw [aD (QW c b r)];exact r) λ c xs r=>by rw [aD (acy c xs r)];exact r
   rcases hc with rfl|hc
   . exact NQ
   . rintro rfl
     rcases he with z|z
     . exact QW c b hc z
     . rw [hc] at z;cases z;exact hb rfl
end
structure Un (fs ex:List Addr) (H H':Hp) (h h':Heap):Prop where
 keep:∀ b o,h.get? b=some o->H b=none->b∉fs->b∉ex->h'.get? b=some o
 slot:∀ b o,h.get? b=some o->H b=none->b∈fs->b∉ex->∃ sl,h'.get? b=some { o with slots:=sl }
 free:∀ b o,h.get? b=some o->H b=none->b∉ex->H' b=none
 there:∀ b o,h.get? b=some o->b∉ex->∃ o',h'.get? b=some o'
 og:∀ b xs,H b=some (.tup xs)->H' b=some (.tup xs)
 nu:∀ b o u,H b=some (.zF o u)->H' b=some (.zF o u)
 on:∀ b ps,H b=some (.Ls ps)->∃ more,H' b=some (.Ls (ps++more))
section
variable {fs fs' ex ex':List Addr} {H H1 H2:Hp} {h h1 h2 h':Heap} {a x e:Addr} {o:HO}
theorem Un.any (u:Un fs ex H H1 h h1) {b:Addr} {ob:Obj} (q:h.get? b=some ob) (n:H b=none) (hx:b∉ex):∃ sl,h1.get? b=some { ob with slots:=sl }:=by
 by_cases hb:b∈fs
 . exact u.slot b ob q n hb hx
 . exact ⟨ob.slots,u.keep b ob q n hb hx⟩
theorem Un.kept (k:∀ b u,h.get? b=some u->h'.get? b=some u):Un fs ex H H h h' :=
 ⟨λ b ob q _ _ _=>k b ob q,λ b ob q _ _ _=>⟨ob.slots,k b ob q⟩,λ _ _ _ n _=>n,λ b ob q _=>⟨ob,k b ob q⟩,λ _ _ q=>q,λ _ _ _ q=>q,λ _ ps q=>⟨#[],by rw [q];simp⟩⟩
theorem Un.refl:Un fs ex H H h h:=Un.kept λ _ _ q=>q
theorem Un.laid (k:∀ b u,h.get? b=some u->h'.get? b=some u) (hp:h.objs.size<=a) (hn:H a=none):Un fs ex H (upd H a o) h h' where
 keep:=λ b u q _ _ _=>k b u q
 slot:=λ b u q _ _ _=>⟨u.slots,k b u q⟩
 free:=λ b u q n _=>by rw [aD (acN (abE (abh q) hp))];exact n
 there:=λ b u q _=>⟨u,k b u q⟩
 og:=λ b xs q=>by rw [aD (aC q hn)];exact q
 nu:=λ b u xs q=>by rw [aD (aC q hn)];exact q
 on:=λ b ps q=>⟨#[],by rw [aD (aC q hn),q];simp⟩
theorem Un.write (mu:Rz (H x)) (he:e=x∨H e=some (.own x)) (k:∀ b u,b≠e->h.get? b=some u->h'.get? b=some u) (BZ:∃ u,h'.get? e=some u):Un fs ex H (upd H x o) h h':=by
 have hx:∀ b,H b=none->b≠x:=λ b n z=>by subst z;rw [n] at mu;exact mu
 have hb:∀ b,H b=none->b≠e:=λ b n z=>by
   subst z
   rcases he with r|r
   . exact hx b n r
   . rw [n] at r;cases r
 have hm:∀ b u,H b=some u->¬ Rz (some u)->b≠x:=λ b u q nm z=>by subst z;rw [q] at mu;exact nm mu
 refine ⟨λ b u q n _ _=>k b u (hb b n) q,λ b u q n _ _=>⟨u.slots,k b u (hb b n) q⟩,λ b u q n _=>by rw [aD (hx b n)];exact n,λ b u q _=>?_,
   λ b xs q=>by rw [aD (hm b _ q λ z=>z)];exact q,λ b u xs q=>by rw [aD (hm b _ q λ z=>z)];exact q,λ b ps q=>⟨#[],by rw [aD (hm b _ q λ z=>z),q];simp⟩⟩
 by_cases NQ:b=e
 . subst NQ;exact BZ
 . exact ⟨u,k b u NQ q⟩
end
def Yn (h:Heap) (H:Hp):List Addr:=(List.range h.objs.size).filter λ a=>(H a).isSome
def vR (h:Heap) (H:Hp):Heap:=W.hideAll h (Yn h H)
theorem Es (h:Heap) (H:Hp):(vR h H).objs.size=h.objs.size:=W.hideAll_size _ _
theorem FA {h:Heap} {b:Addr} {o:Obj} (e:h.get? b=some o) (n:H b=none):(vR h H).get? b=some o :=
 W.hideAll_get _ e λ hm=>by
   have q:(H b).isSome=true:=(List.mem_filter.mp hm).2
   rw [n] at q;simp at q
theorem JJ {h:Heap} {b:Addr} {o:Obj} (e:(vR h H).get? b=some o):h.get? b=some o/\H b=none:=by
 have e':h.get? b=some o:=aoR (Yn h H) e
 refine ⟨e',?_⟩
 cases q:H b with
 | none=>rfl
 | some x =>
   have hm:b∈Yn h H:=List.mem_filter.mpr ⟨List.mem_range.mpr (abh e'),by simp [q]⟩
   have z:(vR h H).get? b=none:=apR (Yn h H) hm
   rw [z] at e;cases e
def JO (g h:Heap) (L:Addr):List (Addr×Obj):=(List.range h.objs.size).filterMap λ a=>if a=L∨(g.get? a).isSome=true then none else (h.get? a).map λ o=>(a,o)
def rest (g h:Heap) (L d:Addr):List (Addr×Obj):=(JO g h L).filter λ p=>decide (p.1≠d)
structure Mod (K:W.Frag) (mg:Str->Option Value) (base:Heap):Prop where
 Il:K.In base
 glob:base.Ns mainGlobals mg
 blt:∃ mb,base.Ns builtinsNs mb/\∀ x:Str,x ≠ "__name__"->mb x=bootBuiltins x
 nolimit:base.NoLimit
structure Cx where
 prog:Program
 w:World
 K:W.Frag
 mg:Str->Option Value
 base:Heap
 A:Around
 N:List Str
 s₀:Shared
 H₀:Hp
 env:Env
 outer:List Env
 stack:List Env
 ex:List Addr
 fn:Str->Bool
 calm:Bool
 pn:List (Addr×Obj)
 xe:Value->Shared->Prop
def ib (l:List Env):List Addr:=l.filterMap (·.frame)
abbrev Cx.fs (X:Cx):List Addr:=ib X.outer
def Yt (sc:Scope) (x:Str):Prop:=sc.names.lookup x=some .local∨sc.names.lookup x=some .cell∨sc.names.lookup x=some .free
def Loc (sc:Scope) (x:Str):Prop:=sc.names.lookup x=some .local∨sc.names.lookup x=some .cell
def Look (env:Env) (h:Heap) (m:Str->Option Value) (x:Str) (u:Value):Prop :=
 (env.kindOf x=some .local/\m x=some u)∨((env.kindOf x=some .cell∨env.kindOf x=some .free)/\∃ c,env.cells.lookup x=some c/\h.IsCell c (some u))
structure Cx.Ok (X:Cx):Prop where
 mod:Mod X.K X.mg X.base
 kind:X.env.scope.kind = .function
 glob:X.env.globals=mainGlobals
 blt:X.env.builtins=builtinsNs
 above:X.s₀.heap.objs.size<=X.env.locals
 inj:∀ x y c,X.env.cells.lookup x=some c->X.env.cells.lookup y=some c->x=y
 has:∀ x,(X.env.kindOf x=some .cell∨X.env.kindOf x=some .free)->∃ c,X.env.cells.lookup x=some c
 Pe:∀ x c,X.fn x=true->X.env.cells.lookup x=some c->X.s₀.heap.objs.size<=c
 hd:X.calm=true->X.A.handled=none
 frames:X.A.frames=some X.stack
 Xi:X.stack=X.outer∨(X.stack=X.env::X.outer/\X.env.frame=some X.env.locals)
 exf:∀ b∈X.ex,b≠X.env.locals/\∀ x c,X.env.cells.lookup x=some c->c≠b
 bs:∀ b o,X.base.get? b=some o->X.s₀.heap.get? b=some o/\X.H₀ b=none
 Jg:X.base.objs.size<=X.s₀.heap.objs.size
 DB:∀ b o,X.base.get? b=some o->b∉X.ex
 GS:∀ b∈X.ex,b∉X.fs
 mP:X.s₀.heap.FunFrames X.base X.outer
 HR:∀ b∈X.fs,X.H₀ b=none
structure Inv (X:Cx) (pins:List (Addr×Obj)) (U:List (Option V)) (H:Hp) (s:Shared):Prop where
 ok:X.Ok
 os:s.os=X.s₀.os
 bare:AllBare s.gens
 base:Un X.fs X.ex X.H₀ H X.s₀.heap s.heap
 loc:∃ m,s.heap.Ns X.env.locals m/\∀ (i:Nat) (x:Str) (v:V),X.N[i]?=some x->U[i]?=some (some v)->Yt X.env.scope x->∃ u,RelV v u/\Look X.env s.heap m x u
 cell:∀ x c,X.env.cells.lookup x=some c->∃ v,s.heap.IsCell c v
 free:H X.env.locals=none
 jU:∀ x c,X.env.cells.lookup x=some c->H c=none
 pin:∀ p∈X.pn++pins,s.heap.get? p.1=some p.2/\H p.1=none/\p.1≠X.env.locals/\p.1∉X.fs/\∀ v,p.2.data ≠ .cell v
 cq:j2 X.prog X.w H s.heap
 len:U.length=X.N.length
section
variable {X:Cx} {pins:List (Addr×Obj)} {U:List (Option V)} {H H':Hp} {s:Shared} {h':Heap}
theorem Cx.Ok.nA (ok:X.Ok) {b:Addr} {o:Obj} (e:X.base.get? b=some o):b∉X.fs:=λ hb=>by
 have:=(ok.mP.mem hb).1
 rw [e] at this;cases this
theorem Inv.bs (I:Inv X pins U H s):∀ b o,X.base.get? b=some o->s.heap.get? b=some o/\H b=none:=λ b o e =>
 ⟨I.base.keep b o (I.ok.bs b o e).1 (I.ok.bs b o e).2 (I.ok.nA e) (I.ok.DB b o e),I.base.free b o (I.ok.bs b o e).1 (I.ok.bs b o e).2 (I.ok.DB b o e)⟩
theorem Inv.bk (I:Inv X pins U H s):∀ b o,X.base.get? b=some o->s.heap.get? b=some o:=λ b o e=>(I.bs b o e).1
theorem Inv.mod (I:Inv X pins U H s):Mod X.K X.mg X.base:=I.ok.mod
theorem Inv.lJ (I:Inv X pins U H s):X.K.In s.heap:=I.ok.mod.Il.keeps I.bk
theorem Inv.lt (I:Inv X pins U H s):X.env.locals<s.heap.objs.size:=let ⟨_,hn,_⟩:=I.loc;hn.lt
theorem Inv.sz (I:Inv X pins U H s):X.s₀.heap.objs.size<=s.heap.objs.size:=afY I.ok.above (aoW I.lt)
theorem Inv.aeb (I:Inv X pins U H s) {a:Addr} (h:s.heap.objs.size<=a):a∉X.fs:=λ hb=>by
 obtain ⟨_,o,ho,_⟩:=I.ok.mP.mem hb
 exact absurd (abE (abh ho) (afY I.sz h)) (ag7 _)
theorem Inv.Hh (I:Inv X pins U H s):∀ x c,X.env.cells.lookup x=some c->c≠X.env.locals:=λ x c e z=>by
 obtain ⟨v,o,ho,hd⟩:=I.cell x c e
 obtain ⟨m,⟨o',es,ep,wZ,EX,_⟩,_⟩:=I.loc
 rw [z,wZ] at ho;cases ho;rw [EX] at hd;cases hd
theorem Inv.mP (I:Inv X pins U H s):s.heap.FunFrames X.base X.outer:=by
 have all:∀ (l:List Env),(∀ b∈ib l,b∈X.fs)->X.s₀.heap.FunFrames X.base l->s.heap.FunFrames X.base l:=by
   intro l
   induction l with
   | nil=>intro _ _;trivial
   | cons env r ih =>
     intro hs hl
     obtain ⟨hk,⟨L,o,hf,hn,ho,hd⟩,hr⟩:=hl
     have hL:L∈X.fs:=hs L (by unfold ib;rw [aoO,hf];exact adY)
     obtain ⟨sl,e⟩:=I.base.slot L o ho (I.ok.HR L hL) hL λ z=>I.ok.GS L z hL
     exact ⟨hk,⟨L,_,hf,hn,e,hd⟩,ih (λ b hb=>hs b (by unfold ib;rw [aoO,hf];exact abO _ hb)) hr⟩
 exact all X.outer (λ _ hb=>hb) I.ok.mP
theorem Inv.stack (I:Inv X pins U H s):s.heap.FunFrames X.base X.stack:=by
 rcases I.ok.Xi with e|⟨e,hf⟩
 . rw [e];exact I.mP
 .
  rw [e]
  obtain ⟨m,hn,_⟩:=I.loc
  refine .cons (by rw [I.ok.kind];decide) hf hn ?_ I.mP
  exact an4 (afY I.ok.Jg I.ok.above)
theorem Inv.Ap (I:Inv X pins U H s):∀ b∈ib X.stack,b∈X.env.locals::X.fs:=λ b hb=>by
 rcases I.ok.Xi with e|⟨e,hf⟩
 . rw [e] at hb;exact abO _ hb
 .
  rw [e] at hb
  unfold ib at hb
  rw [aoO,hf] at hb
  exact hb
theorem Inv.ol (I:Inv X pins U H s):∀ b∈ib X.stack,H b=none:=λ b hb=>by
 rcases List.mem_cons.mp (I.Ap b hb) with e|hb
 . rw [e];exact I.free
 . obtain ⟨_,o,ho,_⟩:=I.ok.mP.mem hb
   exact I.base.free b o ho (I.ok.HR b hb) λ z=>I.ok.GS b z hb
theorem Inv.step {g':Array GenState} {t':Nat} {d':Drawn} (I:Inv X pins U H s) (Bh:∀ b∈ch,(b∈X.ex∨X.s₀.heap.objs.size<=b)/\b≠X.env.locals/\(∀ x c,X.env.cells.lookup x=some c->c≠b)/\∀ p∈X.pn++pins,p.1≠b) (keep:∀ b o,b≠X.env.locals->b∉X.fs->b∉ch->s.heap.get? b=some o->H b=none->h'.get? b=some o) (slot:∀ b o,b≠X.env.locals->b∈X.fs->b∉ch->s.heap.get? b=some o->H b=none->∃ sl,h'.get? b=some { o with slots:=sl }) (free:∀ b o,b∉ch->s.heap.get? b=some o->H b=none->H' b=none) (there:∀ b o,b∉ch->s.heap.get? b=some o->∃ o',h'.get? b=some o') (og:∀ b xs,H b=some (.tup xs)->H' b=some (.tup xs)) (nu:∀ b o u,H b=some (.zF o u)->H' b=some (.zF o u)) (on:∀ b ps,H b=some (.Ls ps)->∃ more,H' b=some (.Ls (ps++more))) (ns:∀ m,s.heap.Ns X.env.locals m->h'.Ns X.env.locals m) (cq:j2 X.prog X.w H' h') (hg:AllBare g') :
   Inv X pins U H' { s with heap:=h',gens:=g',drawn:=d',toks:=t' }:=by
 have neL:∀ b o,X.s₀.heap.get? b=some o->b≠X.env.locals:=λ b o e=>acN (abE (abh e) I.ok.above)
 have Ya:∀ b o,X.s₀.heap.get? b=some o->b∉X.ex->b∉ch:=λ b o e hx hb=>by
   rcases (Bh b hb).1 with z|z
   . exact hx z
   . exact absurd (abE (abh e) z) (ag7 _)
 have cellK:∀ x c,X.env.cells.lookup x=some c->∀ v,s.heap.IsCell c v->h'.IsCell c v:=λ x c e v ⟨o,ho,hd⟩=>by
   have Po:c∉ch:=λ z=>(Bh c z).2.2.1 x c e rfl
   by_cases hc:c∈X.fs
   . obtain ⟨sl,q⟩:=slot c o (I.Hh x c e) hc Po ho (I.jU x c e)
     exact ⟨_,q,hd⟩
   . exact ⟨o,keep c o (I.Hh x c e) hc Po ho (I.jU x c e),hd⟩
 refine ⟨I.ok,I.os,hg,⟨λ b o e n hb hx=>?_,λ b o e n hb hx=>?_,λ b o e n hx=>?_,λ b o e hx=>?_,λ b xs e=>og b xs (I.base.og b xs e),λ b o xs e=>nu b o xs (I.base.nu b o xs e),λ b ps e=>?_⟩,?_,λ x c e=>?_,?_,λ x c e=>?_,λ p hp=>?_,cq,I.len⟩
 . exact keep b o (neL b o e) hb (Ya b o e hx) (I.base.keep b o e n hb hx) (I.base.free b o e n hx)
 . obtain ⟨sl,e1⟩:=I.base.slot b o e n hb hx
   obtain ⟨sl',e2⟩:=slot b _ (neL b o e) hb (Ya b o e hx) e1 (I.base.free b o e n hx)
   exact ⟨sl',e2⟩
 . obtain ⟨o',e1⟩:=I.base.there b o e hx
   exact free b o' (Ya b o e hx) e1 (I.base.free b o e n hx)
 . obtain ⟨o',e1⟩:=I.base.there b o e hx
   exact there b o' (Ya b o e hx) e1
 . obtain ⟨m1,e1⟩:=I.base.on b ps e
   obtain ⟨m2,e2⟩:=on b _ e1
   exact ⟨m1++m2,by rw [e2,ap3]⟩
 .
  obtain ⟨m,hn,hl⟩:=I.loc
  refine ⟨m,ns m hn,λ i x v e1 e2 e3=>?_⟩
  obtain ⟨u,r,l⟩:=hl i x v e1 e2 e3
  refine ⟨u,r,?_⟩
  rcases l with l|⟨k,c,e,z⟩
  . exact .inl l
  . exact .inr ⟨k,c,e,cellK x c e _ z⟩
 . obtain ⟨v,z⟩:=I.cell x c e
   exact ⟨v,cellK x c e v z⟩
 . obtain ⟨m,⟨o,_,_,ho,_⟩,_⟩:=I.loc
   exact free _ o (λ z=>(Bh _ z).2.1 rfl) ho I.free
 . obtain ⟨v,o,ho,hd⟩:=I.cell x c e
   exact free c o (λ z=>(Bh c z).2.2.1 x c e rfl) ho (I.jU x c e)
 . obtain ⟨e,n,ne,nf,d⟩:=I.pin p hp
   have Po:p.1∉ch:=λ z=>(Bh p.1 z).2.2.2 p hp rfl
   exact ⟨keep p.1 p.2 ne nf Po e n,free p.1 p.2 Po e n,ne,nf,d⟩
theorem Inv.un {t':Nat} (I:Inv X pins U H s) (u:Un X.fs [] H H' s.heap h') (cq:j2 X.prog X.w H' h'):Inv X pins U H' { s with heap:=h',toks:=t' }:=by
 obtain ⟨m,⟨o,es,ep,ho,r⟩,_⟩:=id I.loc
 obtain ⟨sl,hL⟩:=u.any ho I.free (by simp)
 exact I.step (g':=s.gens) (d':=s.drawn) (ch:=[]) (λ _ z=>nomatch z) (λ b o _ hb _ e n=>u.keep b o e n hb (by simp)) (λ b o _ hb _ e n=>u.slot b o e n hb (by simp)) (λ b o _ e n=>u.free b o e n (by simp)) (λ b o _ e=>u.there b o e (by simp)) u.og u.nu u.on (λ m' hm=>by
   obtain ⟨o',X9,ep',wZ,r'⟩:=hm
   rw [ho] at wZ;cases wZ
   exact ⟨_,X9,ep',hL,r'⟩) cq I.bare
theorem Inv.call {g':Array GenState} {t':Nat} {d':Drawn} (I:Inv X pins U H s) (u:Un (ib X.stack) ch H H' s.heap h') (cq:j2 X.prog X.w H' h') (hg:AllBare g') (Bh:∀ b∈ch,(b∈X.ex∨X.s₀.heap.objs.size<=b)/\b≠X.env.locals/\(∀ x c,X.env.cells.lookup x=some c->c≠b)/\∀ p∈X.pn++pins,p.1≠b) :
   Inv X pins U H' { s with heap:=h',gens:=g',drawn:=d',toks:=t' }:=by
 obtain ⟨m,⟨o,es,ep,ho,r⟩,_⟩:=id I.loc
 obtain ⟨sl,hL⟩:=u.any ho I.free λ z=>(Bh _ z).2.1 rfl
 exact I.step (ch:=ch) Bh (λ b o hL hb hc e n=>u.keep b o e n (λ z=>(List.mem_cons.mp (I.Ap b z)).elim hL hb) hc) (λ b o _ _ hc e n=>u.any e n hc) (λ b o hc e n=>u.free b o e n hc) (λ b o hc e=>u.there b o e hc) u.og u.nu u.on (λ m' hm=>by
   obtain ⟨o',X9,ep',wZ,r'⟩:=hm
   rw [ho] at wZ;cases wZ
   exact ⟨_,X9,ep',hL,r'⟩) cq hg
theorem Inv.turned {t':Nat} (I:Inv X pins U H s) (k:∀ b o,b≠it->s.heap.get? b=some o->h'.get? b=some o) (hn:H it=none) (hL:it≠X.env.locals) (h1:it∈X.ex∨X.s₀.heap.objs.size<=it) (h2:∀ x c,X.env.cells.lookup x=some c->c≠it) (h3:∀ p∈X.pn++pins,p.1≠it):Inv X pins U H { s with heap:=h',toks:=t' }:=by
 have nit:∀ b u,H b=some u->b≠it:=λ b u e z=>by rw [z,hn] at e;cases e
 refine I.step (g':=s.gens) (d':=s.drawn) (ch:=[it]) (λ b hb=>?_) (λ b o _ _ hc e _=>k b o (λ z=>hc (by simp [z])) e) (λ b o _ _ hc e _=>⟨o.slots,k b o (λ z=>hc (by simp [z])) e⟩) (λ _ _ _ _ n=>n)
   (λ b o hc e=>⟨o,k b o (λ z=>hc (by simp [z])) e⟩) (λ _ _ e=>e) (λ _ _ _ e=>e) (λ b ps e=>⟨#[],by rw [e];simp⟩) (λ m hm=>?_) (λ b u e=>?_) I.bare
 . have e:b=it:=by simpa using hb
   subst e
   exact ⟨h1,hL,h2,h3⟩
 . obtain ⟨o,es,ep,ho,r⟩:=hm
   exact ⟨o,es,ep,k _ o (alt hL) ho,r⟩
 .
  refine (I.cq b u e).fB (λ c v hc q=>k c v ?_ q) (λ _ q=>q) λ _ _ q=>q
  rcases hc with z|z
  . rw [z];exact nit b u e
  . exact nit c _ z
theorem Inv.tok (I:Inv X pins U H s) (t:Nat):Inv X pins U H { s with toks:=t }:=I.un (h':=s.heap) (t':=t) Un.refl I.cq
theorem Inv.kept {t':Nat} (I:Inv X pins U H s) (k:∀ b u,s.heap.get? b=some u->h'.get? b=some u):Inv X pins U H { s with heap:=h',toks:=t' }:=I.un (Un.kept k) (I.cq.kept k)
theorem Inv.laid {a:Addr} {t':Nat} (I:Inv X pins U H s) (k:∀ b u,s.heap.get? b=some u->h'.get? b=some u) (hp:s.heap.objs.size<=a) (new:c7 X.prog X.w (upd H a o) h' a o) :
   Inv X pins U (upd H a o) { s with heap:=h',toks:=t' }:=I.un (Un.laid k hp (I.cq.fresh hp)) (I.cq.laid k hp new)
theorem Inv.write {x e:Addr} {t':Nat} (I:Inv X pins U H s) (mu:Rz (H x)) (he:e=x∨H e=some (.own x)) (k:∀ b u,b≠e->s.heap.get? b=some u->h'.get? b=some u) (BZ:∃ u,h'.get? e=some u) (new:c7 X.prog X.w (upd H x o) h' x o):Inv X pins U (upd H x o) { s with heap:=h',toks:=t' }:=I.un (Un.write mu he k BZ) (I.cq.write mu he k BZ new)
theorem Inv.Cs {Md:List (Addr×Obj)} (I:Inv X pins U H s) (h:∀ p∈Md,s.heap.get? p.1=some p.2/\H p.1=none/\p.1≠X.env.locals/\p.1∉X.fs/\∀ v,p.2.data ≠ .cell v):Inv X Md U H s :=
 ⟨I.ok,I.os,I.bare,I.base,I.loc,I.cell,I.free,I.jU,λ p hp=>(List.mem_append.mp hp).elim (λ z=>I.pin p (age _ z)) (h p),I.cq,I.len⟩
theorem sY {N:List Str} (hN:N.Nodup) {j:Nat} {x:Str} (a:N[i]?=some x) (b:N[j]?=some x):i=j:=by
 obtain ⟨h1,e1⟩:=List.getElem?_eq_some_iff.mp a
 obtain ⟨h2,e2⟩:=List.getElem?_eq_some_iff.mp b
 exact (List.getElem_inj hN).mp (e1.trans e2.symm)
theorem vn {M:Model} {A:Around} {E:Value->Shared->Prop} {x:Str} {Q:Unit->Shared->Prop} (I:Inv X pins U H s) (hN:X.N.Nodup) (hi:X.N[i]?=some x) (hx:Loc X.env.scope x) (r:RelV v u) (h:∀ s',Inv X pins (U.set i (some v)) H s'->(∃ a,Heap.SameBut a s.heap s'.heap/\(a=X.env.locals∨X.env.cells.lookup x=some a))->Q () s') (hf:X.fn x=true∨X.env.scope.names.lookup x=some .local:=by first|exact .inl rfl|exact .inr rfl|assumption):wpAny M A (storeName X.env x u) Q E s:=by
 obtain ⟨m,hn,hl⟩:=id I.loc
 have ab6:(X.env.scope.kind == .class || (X.env.scope.kind == .module && X.env.locals != X.env.globals))=false:=by rw [I.ok.kind];rfl
 have hiσ:i<U.length:=by rw [I.len];exact (List.getElem?_eq_some_iff.mp hi).1
 have Hh:=I.Hh
 have tracked:∀ {a:Addr} {h':Heap},(∃ o,s.heap.get? a=some o/\H a=none)->Heap.SameBut a s.heap h'->j2 X.prog X.w H h':=λ {a h'} ha hs b ob e=>by
   obtain ⟨_,_,jP⟩:=ha
   refine (I.cq b ob e).fB (λ c w' hc q=>(hs.2 c ?_).trans q) (λ _ q=>q) λ _ _ q=>q
   rintro rfl
   rcases hc with rfl|hc
   . rw [jP] at e;cases e
   . rw [jP] at hc;cases hc
 rcases hx with hk|hk
 .
  refine wpAny_storeName_local hk hn (λ h' hn' hs=>?_) ab6
  obtain ⟨oL,_,_,hoL,_⟩:=id hn
  refine h _ ⟨I.ok,I.os,I.bare,⟨λ b o e n hb hx=>?_,λ b o e n hb hx=>?_,I.base.free,λ b o e hx=>?_,I.base.og,I.base.nu,I.base.on⟩,⟨_,hn',λ j y v' e1 e2 e3=>?_⟩,λ y c e=>?_,I.free,I.jU,λ p hp=>?_,tracked ⟨oL,hoL,I.free⟩ hs,by simpa using I.len⟩ ⟨_,hs,.inl rfl⟩
  . exact (hs.2 b (acN (abE (abh e) I.ok.above))).trans (I.base.keep b o e n hb hx)
  . obtain ⟨sl,e1⟩:=I.base.slot b o e n hb hx
    exact ⟨sl,(hs.2 b (acN (abE (abh e) I.ok.above))).trans e1⟩
  . obtain ⟨o',e1⟩:=I.base.there b o e hx
    exact ⟨o',(hs.2 b (acN (abE (abh e) I.ok.above))).trans e1⟩
  .
   by_cases hj:j=i
   . subst hj
     rw [hi] at e1;cases e1
     rw [aiM hiσ] at e2
     cases e2
     exact ⟨u,r,.inl ⟨hk,by simp⟩⟩
   .
    rw [agM (alt hj)] at e2
    obtain ⟨u',r',q⟩:=hl j y v' e1 e2 e3
    refine ⟨u',r',?_⟩
    rcases q with ⟨k,e⟩|⟨k,c,e,z⟩
    . refine .inl ⟨k,?_⟩
      have:y≠x:=λ e=>hj (sY hN e1 (e ▸ hi))
      simp [this,e]
    . exact .inr ⟨k,c,e,z.sameBut hs (Hh y c e)⟩
  . obtain ⟨w',z⟩:=I.cell y c e
    exact ⟨w',z.sameBut hs (Hh y c e)⟩
  . obtain ⟨e,n,ne,nf,d⟩:=I.pin p hp
    exact ⟨(hs.2 p.1 ne).trans e,n,ne,nf,d⟩
 .
  have hfn:X.fn x=true:=by
    rcases hf with z|z
    . exact z
    . rw [z] at hk;cases hk
  obtain ⟨c,hc⟩:=I.ok.has x (.inl hk)
  obtain ⟨w',z⟩:=I.cell x c hc
  refine wpAny_storeName_cell I.ok.kind hk hc z (λ h' w9 hs=>?_)
  obtain ⟨oc,hoc,Zb⟩:=id z
  refine h { s with heap:=h' } ⟨I.ok,I.os,I.bare,⟨λ b o e n hb hx=>?_,λ b o e n hb hx=>?_,I.base.free,λ b o e hx=>?_,I.base.og,I.base.nu,I.base.on⟩,⟨m,hn.sameBut hs (alt (Hh x c hc)),λ j y v' e1 e2 e3=>?_⟩,λ y c' e=>?_,I.free,I.jU,λ p hp=>?_,tracked ⟨oc,hoc,I.jU x c hc⟩ hs,by simpa using I.len⟩ ⟨c,hs,.inr hc⟩
  . exact (hs.2 b (acN (abE (abh e) (I.ok.Pe x c hfn hc)))).trans (I.base.keep b o e n hb hx)
  . obtain ⟨sl,e1⟩:=I.base.slot b o e n hb hx
    exact ⟨sl,(hs.2 b (acN (abE (abh e) (I.ok.Pe x c hfn hc)))).trans e1⟩
  . obtain ⟨o',e1⟩:=I.base.there b o e hx
    exact ⟨o',(hs.2 b (acN (abE (abh e) (I.ok.Pe x c hfn hc)))).trans e1⟩
  .
   by_cases hj:j=i
   . subst hj
     rw [hi] at e1;cases e1
     rw [aiM hiσ] at e2
     cases e2
     exact ⟨u,r,.inr ⟨.inl hk,c,hc,w9⟩⟩
   .
    rw [agM (alt hj)] at e2
    obtain ⟨u',r',q⟩:=hl j y v' e1 e2 e3
    refine ⟨u',r',?_⟩
    rcases q with q|⟨k,c',e,z'⟩
    . exact .inl q
    . refine .inr ⟨k,c',e,z'.sameBut hs ?_⟩
      rintro rfl
      exact hj (sY hN e1 (I.ok.inj _ _ _ e hc ▸ hi))
  . by_cases hcc:c'=c
    . subst hcc;exact ⟨_,w9⟩
    . obtain ⟨w2,z2⟩:=I.cell y c' e
      exact ⟨w2,z2.sameBut hs hcc⟩
  .
   obtain ⟨e,n,ne,nf,d⟩:=I.pin p hp
   refine ⟨(hs.2 p.1 ?_).trans e,n,ne,nf,d⟩
   intro q
   rw [q,hoc] at e
   have q':oc=p.2:=aaU e
   exact d w' (by rw [← q'];exact Zb)
theorem rH {M:Model} {A:Around} {E:Value->Shared->Prop} {x:Str} {Q:Unit->Shared->Prop} (I:Inv X pins U H s) (hN:X.N.Nodup) (hi:X.N[i]?=some x) (hx:Loc X.env.scope x) (r:RelV v u) (h:∀ s',Inv X pins (U.set i (some v)) H s'->Q () s') (hf:X.fn x=true∨X.env.scope.names.lookup x=some .local:=by first|exact .inl rfl|exact .inr rfl|assumption):wpAny M A (storeName X.env x u) Q E s :=
 vn I hN hi hx r (λ s' I' _=>h s' I') hf
theorem Inv.Mi (I:Inv X pins U H s) (ho:s'.os=s.os) (u:Un (ib X.stack) ch H H' s.heap s'.heap) (cq:j2 X.prog X.w H' s'.heap) (hg:AllBare s'.gens) (Bh:∀ b∈ch,(b∈X.ex∨X.s₀.heap.objs.size<=b)/\b≠X.env.locals/\(∀ x c,X.env.cells.lookup x=some c->c≠b)/\∀ p∈X.pn++pins,p.1≠b):Inv X pins U H' s':=by
 obtain ⟨h',g',d',t',o'⟩:=s'
 have e:o'=s.os:=ho
 subst e
 exact I.call (g':=g') (t':=t') (d':=d') u cq hg Bh
end
abbrev XK:=Value->Option Addr->Hp->Prop
abbrev St:=List (Option V)
abbrev VK:=V->Hp->Prop
abbrev TE:=St->Hp->VK->Prop
abbrev TT:=St->Hp->(Bool->Hp->Prop)->Prop
abbrev TA:=St->Hp->(List V->Hp->Prop)->Prop
structure Ends where
 nx:St->Hp->Prop
 rt:VK
 bk:St->Hp->Prop:=λ _ _=>False
 ct:St->Hp->Prop:=λ _ _=>False
abbrev TS:=Ends->St->Hp->Prop
inductive EP (X:Cx) (pins:List (Addr×Obj)) (U:St) (Q:VK) (u:Value) (s':Shared):Prop
 | mk (v:V) (H':Hp) (_:Inv X pins U H' s') (_:RelV v u) (_:Q v H')
def TP (X:Cx) (pins:List (Addr×Obj)) (U:St) (Q:Bool->Hp->Prop) (b:Bool) (s':Shared):Prop:=∃ H',Inv X pins U H' s'/\Q b H'
inductive AP (X:Cx) (pins:List (Addr×Obj)) (U:St) (Q:List V->Hp->Prop) (us:List Value) (s':Shared):Prop
 | mk (vs:List V) (H':Hp) (_:Inv X pins U H' s') (_:Vals vs us) (_:Q vs H')
def SP (X:Cx) (pins:List (Addr×Obj)) (D:Ends) (f:Flow) (s':Shared):Prop :=
 match f with
 | .next=>∃ σ' H',Inv X pins σ' H' s'/\D.nx σ' H'
 | .brk=>∃ σ' H',Inv X pins σ' H' s'/\D.bk σ' H'
 | .cont=>∃ σ' H',Inv X pins σ' H' s'/\D.ct σ' H'
 | .ret u=>∃ v σ' H',Inv X pins σ' H' s'/\RelV v u/\D.rt v H'
def PE (X:Cx) (e:Expr) (t:TE):Prop :=
 ∀ (pins:List (Addr×Obj)) (s:Shared) (U:St) (H:Hp) (Q:VK),Inv X pins U H s->t U H Q->wpAny (model X.prog X.w) X.A (eval e X.env) (EP X pins U Q) X.xe s
def PT (X:Cx) (e:Expr) (t:TT):Prop :=
 ∀ (pins:List (Addr×Obj)) (s:Shared) (U:St) (H:Hp) (Q:Bool->Hp->Prop),Inv X pins U H s->t U H Q->wpAny (model X.prog X.w) X.A (isTrue e X.env (eval e X.env)) (TP X pins U Q) X.xe s
def PW (X:Cx) (e:Expr) (t:TT):Prop :=
 ∀ (whole:Sem Value) (pins:List (Addr×Obj)) (s:Shared) (U:St) (H:Hp) (Q:Bool->Hp->Prop),Inv X pins U H s->t U H Q->wpAny (model X.prog X.w) X.A (isTrue e X.env whole) (TP X pins U Q) X.xe s
theorem PW.pt {X:Cx} {e:Expr} {t:TT} (h:PW X e t):PT X e t:=h _
def PA (X:Cx) (es:List Expr) (t:TA):Prop :=
 ∀ (pos:Pos) (pins:List (Addr×Obj)) (s:Shared) (U:St) (H:Hp) (Q:List V->Hp->Prop),Inv X pins U H s->t U H Q->wpAny (model X.prog X.w) X.A (spliced (backTo pos (starEach es X.env))) (AP X pins U Q) X.xe s
def PS (X:Cx) (st:Stmt) (t:TS):Prop :=
 ∀ (pins:List (Addr×Obj)) (s:Shared) (U:St) (H:Hp) (D:Ends),Inv X pins U H s->t D U H->wpAny (model X.prog X.w) X.A (exec st X.env) (SP X pins D) X.xe s
def qg (X:Cx) (st:List Stmt) (t:TS):Prop :=
 ∀ (pins:List (Addr×Obj)) (s:Shared) (U:St) (H:Hp) (D:Ends),Inv X pins U H s->t D U H->wpAny (model X.prog X.w) X.A (execs st X.env) (SP X pins D) X.xe s
theorem cX {α:Type} {t:Sem α} {Q Q':α->Shared->Prop} {M:Model} {A:Around} {E:Value->Shared->Prop} {s:Shared} (h:wpAny M A t Q E s) (hQ:∀ a s,Q a s->Q' a s):wpAny M A t Q' E s:=acV h hQ λ _ _ x=>x
section
variable {X:Cx}
inductive G1 (i:Nat) (U:St) (H:Hp) (Q:VK):Prop
 | mk (v:_) (_:U[i]?=some (some v)) (_:Q v H)
def tC (v:V):TE:=λ _ H Q=>Q v H
theorem Oj {x:Str} {pos:Pos} (hN:X.N[i]?=some x) (hv:Yt X.env.scope x) (hd:(x == ("__debug__" : Str))=false:=by decide) (mR:(x == ("__classdict__" : Str))=false:=by decide):PE X (.Name x pos) (G1 i):=by
 intro pins s U H Q I h
 obtain ⟨v,e,h⟩:=h
 obtain ⟨m,hn,hl⟩:=I.loc
 obtain ⟨u,r,l⟩:=hl i x v hN e hv
 have fin:EP X pins U Q u s:=⟨v,H,I,r,h⟩
 rcases l with ⟨hk,hm⟩|⟨hk,c,hc,il⟩
 . exact wpAny_Name (wpAny_loadName_local I.ok.kind hk hn hm fin) hd
 . rcases hk with hk|hk
   . exact wpAny_Name (wpAny_loadName_cell I.ok.kind hk hc il fin) hd
   . exact wpAny_Name (wpAny_loadName_free I.ok.kind hk hc il fin mR) hd
theorem af {i j pos}:PE X (.Constant (.int i) j pos) (tC (.int i)):=λ _ _ _ H _ I h=>wpAny_Constant_int ⟨.int i,H,I.tok _,⟨_,rfl⟩,h⟩
theorem lg {b j pos}:PE X (.Constant (.bool b) j pos) (tC (.bl b)):=λ _ _ _ H _ I h=>Constant_bool ⟨.bl b,H,I,rfl,h⟩
theorem b9 {j pos}:PE X (.Constant .none j pos) (tC .bT):=λ _ _ _ H _ I h=>Constant_none ⟨.bT,H,I,rfl,h⟩
theorem aQ {x j pos}:PE X (.Constant (.str x) j pos) (tC (.str x)):=λ _ _ _ H _ I h=>Calls.Constant_str ⟨.str x,H,I.tok _,⟨_,rfl⟩,h⟩
def Gl (X:Cx) (x:Str):Prop:=X.env.kindOf x=some .globalImplicit
theorem mn {E:Value->Shared->Prop} {s:Shared} {x:Str} {pos:Pos} {Q:Value->Shared->Prop} (I:Inv X pins U H s) (hg:Gl X x) (hm:X.mg x=some u) (h:Q u s) (hd:(x == ("__debug__" : Str))=false:=by decide):wpAny (model X.prog X.w) X.A (eval (.Name x pos) X.env) Q E s :=
 apQ I.ok.kind hg (Calls.loadGlobal_global (by rw [I.ok.glob];exact I.mod.glob.keeps I.bk) hm h) hd
theorem lN {E:Value->Shared->Prop} {s:Shared} {x:Str} {pos:Pos} {Q:Value->Shared->Prop} (I:Inv X pins U H s) (hg:Gl X x) (hm:X.mg x=none) (hv:bootBuiltins x=some u) (h:Q u s) (hn:x ≠ "__name__":=by decide) (hd:(x == ("__debug__" : Str))=false:=by decide):wpAny (model X.prog X.w) X.A (eval (.Name x pos) X.env) Q E s:=by
 obtain ⟨mb,h1,h2⟩:=I.mod.blt
 exact apQ I.ok.kind hg (Calls.loadGlobal_builtin (by rw [I.ok.glob];exact I.mod.glob.keeps I.bk) hm (by rw [I.ok.blt];exact h1.keeps I.bk) ((h2 x hn).trans hv) h) hd
theorem bM {x:Str} {pos:Pos} (hg:Gl X x) (hm:X.mg x=some u) (r:RelV v u) (hd:(x == ("__debug__" : Str))=false:=by decide):PE X (.Name x pos) (tC v) :=
 λ _ _ _ H _ I h=>mn I hg hm ⟨v,H,I,r,h⟩ hd
theorem rg {x:Str} {pos:Pos} (hg:Gl X x) (hm:X.mg x=none) (hv:bootBuiltins x=some u) (r:RelV v u) (hn:x ≠ "__name__":=by decide) (hd:(x == ("__debug__" : Str))=false:=by decide):PE X (.Name x pos) (tC v) :=
 λ _ _ _ H _ I h=>lN I hg hm hv ⟨v,H,I,r,h⟩ hn hd
variable {a b:Expr} {ta tb:TE} {pos:Pos}
def tB (t:TE):TT:=λ U H Q=>t U H λ x H1=>∃ c,x = .bl c/\Q c H1
theorem bK {e:Expr} {t:TE} (h:PE X e t) (he:∀ whole,isTrue e X.env whole=(do let v ← whole;standAt e.pos;holding [v] (truthy v)):=by intro _;rfl):PT X e (tB t):=by
 intro pins s U H Q I hw
 refine isTrue_plain (cX (h pins s U H _ I hw) λ v s1 ⟨x,H1,I1,r1,q1⟩=>?_) (he _)
 obtain ⟨d,rfl,q⟩:=q1
 cases r1
 exact als ⟨H1,I1,q⟩
variable {tA Yu:TT} {rest:List Expr}
def afL (t u:TT):TT:=λ U H Q=>t U H λ c H1=>if c=true then u U H1 Q else Q false H1
def tOr (t u:TT):TT:=λ U H Q=>t U H λ c H1=>if c=true then Q true H1 else u U H1 Q
def afv (t:TT):TT:=λ U H Q=>t U H λ c H1=>Q (!c) H1
theorem fR (ha:PT X a tA):PW X (.BoolOp .And [a] pos) tA:=by
 intro wh pins s U H Q I h
 refine isTrue_and (cX (ha pins s U H Q I h) λ c s1 e=>?_)
 cases c with
 | true=>exact isTrue_and_nil e
 | false=>exact e
theorem gR (ha:PT X a tA):PW X (.BoolOp .Or [a] pos) tA:=by
 intro wh pins s U H Q I h
 refine isTrue_or (cX (ha pins s U H Q I h) λ c s1 e=>?_)
 cases c with
 | false=>exact isTrue_or_nil e
 | true=>exact e
theorem ig (ha:PT X a tA) (hb:PW X (.BoolOp .And (b::rest) pos) Yu):PW X (.BoolOp .And (a::b::rest) pos) (afL tA Yu):=by
 intro wh pins s U H Q I h
 refine isTrue_and (cX (ha pins s U H _ I h) λ c s1 ⟨H1,I1,q1⟩=>?_)
 cases c with
 | true=>exact hb wh pins s1 U H1 Q I1 q1
 | false=>exact ⟨H1,I1,q1⟩
theorem io (ha:PT X a tA) (hb:PW X (.BoolOp .Or (b::rest) pos) Yu):PW X (.BoolOp .Or (a::b::rest) pos) (tOr tA Yu):=by
 intro wh pins s U H Q I h
 refine isTrue_or (cX (ha pins s U H _ I h) λ c s1 ⟨H1,I1,q1⟩=>?_)
 cases c with
 | true=>exact ⟨H1,I1,q1⟩
 | false=>exact hb wh pins s1 U H1 Q I1 q1
theorem cS (ha:PT X a tA):PT X (.UnaryOp .Not a pos) (afv tA):=by
 intro pins s U H Q I h
 exact isTrue_not (ha pins s U H (λ c H1=>Q (!c) H1) I h)
def Gc (ta tb:TE):TE:=λ U H Q=>ta U H λ x H1=>∃ c,x = .bl c/\if c=true then tb U H1 Q else Q (.bl false) H1
def ae0 (ta tb:TE):TE:=λ U H Q=>ta U H λ x H1=>∃ c,x = .bl c/\if c=true then Q (.bl true) H1 else tb U H1 Q
def Sc (ta:TE):TE:=λ U H Q=>ta U H λ x H1=>∃ c,x = .bl c/\Q (.bl (!c)) H1
theorem pF {op} {t:TE} (h:PE X a t):PE X (.BoolOp op [a] pos) t:=λ pins s U H Q I hw=>BoolOp_one (h pins s U H Q I hw)
theorem ng (ha:PE X a ta) (hb:PE X (.BoolOp .And (b::rest) pos) tb):PE X (.BoolOp .And (a::b::rest) pos) (Gc ta tb):=by
 intro pins s U H Q I h
 refine BoolOp_and (cX (ha pins s U H _ I h) λ v s1 ⟨x,H1,I1,r1,q1⟩=>?_)
 obtain ⟨c,rfl,q1⟩:=q1
 cases r1
 refine als ?_
 cases c with
 | true=>exact hb pins s1 U H1 Q I1 q1
 | false=>exact ⟨.bl false,H1,I1,rfl,q1⟩
theorem Rn (ha:PE X a ta) (hb:PE X (.BoolOp .Or (b::rest) pos) tb):PE X (.BoolOp .Or (a::b::rest) pos) (ae0 ta tb):=by
 intro pins s U H Q I h
 refine BoolOp_or (cX (ha pins s U H _ I h) λ v s1 ⟨x,H1,I1,r1,q1⟩=>?_)
 obtain ⟨c,rfl,q1⟩:=q1
 cases r1
 refine als ?_
 cases c with
 | false=>exact hb pins s1 U H1 Q I1 q1
 | true=>exact ⟨.bl true,H1,I1,rfl,q1⟩
theorem Bx (ha:PE X a ta):PE X (.UnaryOp .Not a pos) (Sc ta):=by
 intro pins s U H Q I h
 refine UnaryOp_ (cX (ha pins s U H _ I h) λ v s1 ⟨x,H1,I1,r1,q1⟩=>?_)
 obtain ⟨c,rfl,q1⟩:=q1
 cases r1
 exact not_of (als ⟨.bl (!c),H1,I1,rfl,q1⟩)
def tIf (t:TT) (ta tb:TE):TE:=λ U H Q=>t U H λ c H1=>if c=true then ta U H1 Q else tb U H1 Q
theorem sZ {c:Expr} (hc:PT X c tA) (ha:PE X a ta) (hb:PE X b tb):PE X (.IfExp c a b pos) (tIf tA ta tb):=by
 intro pins s U H Q I h
 refine wpAny_IfExp (cX (hc pins s U H _ I h) λ d s1 ⟨H1,I1,q1⟩=>?_)
 cases d with
 | true=>exact ha pins s1 U H1 Q I1 q1
 | false=>exact hb pins s1 U H1 Q I1 q1
end
def bg (K:W.Frag) (H:Hp) (a:Addr) (xs:List V):Prop :=
 Rd H a (.lst xs) ∨
   ∃ (o:Obj) (bG:Array Value) (n:Nat),K.lookup a=some o/\o.cls = .type "list"/\o.dict=none/\o.data = .seq bG n/\bG.size<=sizeLine/\Vals xs bG.toList
def bS (K:W.Frag) (H:Hp) (a:Addr) (xs:List V):Prop :=
 Rd H a (.tup xs) ∨
   ∃ (o:Obj) (bG:Array Value) (n:Nat),K.lookup a=some o/\o.cls = .type "tuple"/\o.data = .seq bG n/\bG.size<=sizeLine/\Vals xs bG.toList
def abK:Value->Option V
 | .none=>some .bT
 | .bool b=>some (.bl b)
 | .int i _=>some (.int i)
 | .str x _=>some (.str x)
 | .bytes b _=>some (.Eu b)
 | .float b _=>some (.Ly b)
 | .ref a=>some (.ref a)
 | .type n=>some (.ty n)
 | _=>none
theorem RelV.abs {x:V} (r:RelV x u):abK u=some x:=by
 cases x with
 | bT=>cases r;rfl
 | bl _=>cases r;rfl
 | int _=>obtain ⟨t,rfl⟩:=r;rfl
 | str _=>obtain ⟨t,rfl⟩:=r;rfl
 | Eu _=>obtain ⟨t,rfl⟩:=r;rfl
 | Ly _=>obtain ⟨t,rfl⟩:=r;rfl
 | ref _=>cases r;rfl
 | ty _=>cases r;rfl
theorem RelV.inj {x y:V} (r:RelV x u) (q:RelV y u):x=y:=aaU (r.abs.symm.trans q.abs)
theorem Vals.inj:∀ {xs ys:List V} {us:List Value},Vals xs us->Vals ys us->xs=ys
 | _,_,_,.nil,.nil=>rfl
 | _,_,_,.cons r t,.cons r' t'=>by rw [r.inj r',Vals.inj t t']
section
variable {X:Cx} {pins:List (Addr×Obj)} {U:St} {H:Hp} {s:Shared} {a:Addr} {xs ys:List V}
theorem bg.of {K:W.Frag} (h:H a=some (.lst xs)):bg K H a xs:=.inl (.inl h)
theorem bS.of {K:W.Frag} (h:H a=some (.tup xs)):bS K H a xs:=.inl (.inl h)
theorem Inv.list (I:Inv X pins U H s) (h:bg X.K H a xs):∃ bG:List Value,Vals xs bG/\PlainL s.heap a bG.toArray/\xs.length<=sizeLine:=by
 rcases h with h|⟨o,bG,n,hk,hc,hd,hs,hz,r⟩
 . obtain ⟨z,bG,n,r,e⟩:=h.ok I.cq
   exact ⟨bG,r,⟨_,n,e,rfl,rfl,rfl⟩,z⟩
 .
  refine ⟨bG.toList,r,⟨o,n,I.lJ a o hk,hc,hd,by simpa using hs⟩,?_⟩
  have e:=r.length
  simp only [aoQ] at e
  lia
theorem Inv.tuple (I:Inv X pins U H s) (h:bS X.K H a xs):∃ bG:List Value,Vals xs bG/\IsTup s.heap a bG.toArray/\xs.length<=sizeLine:=by
 rcases h with h|⟨o,bG,n,hk,hc,hs,hz,r⟩
 . obtain ⟨z,bG,r,p⟩:=h.ok I.cq
   exact ⟨bG,r,p,z⟩
 .
  refine ⟨bG.toList,r,⟨o,I.lJ a o hk,hc,n,by simpa using hs⟩,?_⟩
  have e:=r.length
  simp only [aoQ] at e
  lia
theorem Inv.oM (I:Inv X pins U H s) (h:bg X.K H a xs) (h':bg X.K H a ys):xs=ys:=by
 obtain ⟨bG,r,⟨o,n,e,_,_,d⟩,_⟩:=I.list h
 obtain ⟨its',r',⟨o',n',e',_,_,d'⟩,_⟩:=I.list h'
 rw [e] at e';cases e'
 rw [d] at d'
 injection d' with d1 _
 have:bG=its':=by simpa using amX Array.toList d1
 subst this
 exact r.inj r'
theorem Inv.EN (I:Inv X pins U H s) (h:bS X.K H a xs) (h':bS X.K H a ys):xs=ys:=by
 obtain ⟨bG,r,⟨o,e,_,n,d⟩,_⟩:=I.tuple h
 obtain ⟨its',r',⟨o',e',_,n',d'⟩,_⟩:=I.tuple h'
 rw [e] at e';cases e'
 rw [d] at d'
 injection d' with d1 _
 have:bG=its':=by simpa using amX Array.toList d1
 subst this
 exact r.inj r'
end
abbrev Cx.mj (X:Cx) (E:Value->Shared->Prop):Cx:={ X with xe:=E }
abbrev Cx.zV (X:Cx):Cx:=X.mj λ _ _=>False
theorem Cx.Ok.mj {X:Cx} (ok:X.Ok) (E:Value->Shared->Prop):(X.mj E).Ok :=
 ⟨ok.mod,ok.kind,ok.glob,ok.blt,ok.above,ok.inj,ok.has,ok.Pe,ok.hd,ok.frames,ok.Xi,ok.exf,ok.bs,ok.Jg,ok.DB,ok.GS,ok.mP,ok.HR⟩
theorem Cx.Ok.i8 {X:Cx} {E:Value->Shared->Prop} (ok:(X.mj E).Ok):X.Ok :=
 ⟨ok.mod,ok.kind,ok.glob,ok.blt,ok.above,ok.inj,ok.has,ok.Pe,ok.hd,ok.frames,ok.Xi,ok.exf,ok.bs,ok.Jg,ok.DB,ok.GS,ok.mP,ok.HR⟩
section
variable {X:Cx} {pins:List (Addr×Obj)} {U:St} {H:Hp} {s:Shared} {E:Value->Shared->Prop}
theorem Inv.mj (I:Inv X pins U H s) (E:Value->Shared->Prop):Inv (X.mj E) pins U H s:=⟨I.ok.mj E,I.os,I.bare,I.base,I.loc,I.cell,I.free,I.jU,I.pin,I.cq,I.len⟩
theorem Inv.i8 (I:Inv (X.mj E) pins U H s):Inv X pins U H s:=⟨I.ok.i8,I.os,I.bare,I.base,I.loc,I.cell,I.free,I.jU,I.pin,I.cq,I.len⟩
theorem SP.i8 {D:Ends} {f:Flow} (h:SP (X.mj E) pins D f s'):SP X pins D f s':=by
 cases f with
 | next=>obtain ⟨σ',H',I,q⟩:=h;exact ⟨σ',H',I.i8,q⟩
 | brk=>obtain ⟨σ',H',I,q⟩:=h;exact ⟨σ',H',I.i8,q⟩
 | cont=>obtain ⟨σ',H',I,q⟩:=h;exact ⟨σ',H',I.i8,q⟩
 | ret u=>obtain ⟨v,σ',H',I,r,q⟩:=h;exact ⟨v,σ',H',I.i8,r,q⟩
theorem qg.zV {st:List Stmt} {t:TS} (h:qg X.zV st t):qg X st t:=λ pins s U H D I hw =>
 acV (h pins s U H D (I.mj _) hw) (λ _ _ q=>q.i8) λ _ _ z=>False.elim z
end
section
variable {X:Cx} {st:Stmt} {rest:List Stmt} {t u:TS} {e:Expr} {te:TE} {pos:Pos}
def We:TS:=λ D U H=>D.nx U H
def aP (t u:TS):TS:=λ D U H=>t { D with nx:=u D } U H
theorem aI:qg X [] We:=λ _ _ U H _ I h=>anS ⟨U,H,I,h⟩
theorem ag (h1:PS X st t) (h2:qg X rest u):qg X (st::rest) (aP t u):=by
 intro pins s U H D I h
 refine aoJ (cX (h1 pins s U H { D with nx:=u D } I h) λ f s1 q=>?_)
 cases f with
 | next =>
   obtain ⟨σ',H',I',q⟩:=q
   exact h2 pins s1 σ' H' D I' q
 | ret v=>exact q
 | brk=>exact q
 | cont=>exact q
theorem am (h1:PS X st t):qg X [st] t:=by
 intro pins s U H D I h
 refine aoJ (cX (h1 pins s U H D I h) λ f s1 q=>?_)
 cases f with
 | next=>exact anS q
 | ret v=>exact q
 | brk=>exact q
 | cont=>exact q
theorem Inv.quiet {s:Shared} (I:Inv X pins U H s):interactive X.env=false:=by simp [interactive,I.ok.kind]
def Ph (te:TE):TS:=λ D U H=>te U H λ _ H1=>D.nx U H1
theorem br (he:PE X e te) (hs:swapsWith e none pos.line X.env=pure false:=by rfl):PS X (.Expr e pos) (Ph te):=by
 intro pins s U H D I h
 exact wpAny_Expr_any (cX (he pins s U H _ I h) λ v s1 ⟨x,H1,I1,r1,q1⟩=>⟨U,H1,I1,q1⟩) I.quiet hs
def Vg (te:TE):TS:=λ D U H=>te U H D.rt
theorem aH (he:PE X e te):PS X (.Return (some e) pos) (Vg te):=by
 intro pins s U H D I h
 exact wpAny_Return_some (cX (he pins s U H _ I h) λ v s1 ⟨x,H1,I1,r1,q1⟩=>⟨x,U,H1,I1,r1,q1⟩)
def alh (c:TT) (t u:TS):TS:=λ D U H=>c U H λ b H1=>if b=true then t D U H1 else u D U H1
theorem aU {c:Expr} {a b:List Stmt} {tc:TT} (hc:PT X c tc) (ha:qg X a t) (hb:qg X b u):PS X (.If c a b pos) (alh tc t u):=by
 intro pins s U H D I h
 refine wpAny_If (cX (hc pins s U H _ I h) λ d s1 ⟨H1,I1,q1⟩=>?_)
 cases d with
 | true=>exact ha pins s1 U H1 D I1 q1
 | false=>exact hb pins s1 U H1 D I1 q1
def MP:TS:=λ _ _ _=>False
theorem cL:PS X st MP:=λ _ _ _ _ _ _ h=>h.elim
end
abbrev TG:=V->St->Hp->(St->Hp->Prop)->Prop
abbrev OC:=List V->St->Hp->(St->Hp->Prop)->Prop
def PG (X:Cx) (target:Expr) (t:TG):Prop :=
 ∀ (pins:List (Addr×Obj)) (s:Shared) (U:St) (H:Hp) (v:V) (u:Value) (Q:St->Hp->Prop),Inv X pins U H s->RelV v u->t v U H Q ->
   wpAny (model X.prog X.w) X.A (assign target X.env u) (λ _ s'=>∃ σ' H',Inv X pins σ' H' s'/\Q σ' H') X.xe s
def OS (X:Cx) (ts:List Expr) (t:OC):Prop :=
 ∀ (pins:List (Addr×Obj)) (s:Shared) (U:St) (H:Hp) (vs:List V) (us:List Value) (Q:St->Hp->Prop),Inv X pins U H s->Vals vs us->t vs U H Q ->
   wpAny (model X.prog X.w) X.A (assignInOrder ((assignEach ts X.env).map (·.2)) us) (λ _ s'=>∃ σ' H',Inv X pins σ' H' s'/\Q σ' H') X.xe s
abbrev Ot:=V->V->V->Hp->(Hp->Prop)->Prop
def Xa (X:Cx) (t:Ot):Prop :=
 ∀ (pins:List (Addr×Obj)) (s:Shared) (U:St) (H:Hp) (o i v:V) (ov iv u:Value) (Q:Hp->Prop),Inv X pins U H s->RelV o ov->RelV i iv->RelV v u->t o i v H Q ->
   wpAny (model X.prog X.w) X.A (setItem ov iv u) (λ _ s'=>∃ H',Inv X pins U H' s'/\Q H') X.xe s
section
variable {X:Cx} {pos:Pos}
def uv (i:Nat):TG:=λ v U H Q=>Q (U.set i (some v)) H
theorem aK {x:Str} (hN:X.N.Nodup) (hi:X.N[i]?=some x) (hx:Loc X.env.scope x) (hf:X.fn x=true∨X.env.scope.names.lookup x=some .local:=by first|exact .inl rfl|exact .inr rfl|assumption):PG X (.Name x pos) (uv i):=by
 intro pins s U H v u Q I r h
 exact wpAny_assign_Name (rH I hN hi hx r (λ s' I'=>⟨_,H,I',h⟩) hf)
def anJ:OC:=λ vs U H Q=>vs=[]/\Q U H
inductive Wj (t:TG) (u:OC) (vs:List V) (U:St) (H:Hp) (Q:(St->Hp->Prop)):Prop
 | mk (v r:_) (_:vs=v::r) (_:t v U H λ σ' H'=>u r σ' H' Q)
theorem fG:OS X [] anJ:=by
 intro pins s U H vs us Q I r h
 obtain ⟨e,h⟩:=h
 subst e
 cases r
 exact assignInOrder_nil ⟨U,H,I,h⟩
theorem bj {e:Expr} {t:TG} {u:OC} (h1:PG X e t) (h2:OS X es u) (hs:(assignEach (e::es) X.env).map (·.2)=assign e X.env::(assignEach es X.env).map (·.2):=by rfl):OS X (e::es) (Wj t u):=by
 intro pins s U H vs us Q I r h
 obtain ⟨v,vr,e1,h⟩:=h
 subst e1
 cases r with
 | cons r rr =>
   rw [hs]
   refine assignInOrder_cons (cX (h1 pins s U H _ _ _ I r h) λ _ s1 ⟨σ1,H1,I1,q1⟩=>?_)
   exact h2 pins s1 σ1 H1 _ _ Q I1 rr q1
inductive Uc (K:W.Frag) (n:Nat) (t:OC) (v:V) (U:St) (H:Hp) (Q:(St->Hp->Prop)):Prop
 | mk (a xs:_) (_:v = .ref a) (_:bS K H a xs) (_:xs.length=n) (_:t xs U H Q)
theorem NC {k:Nat} {t:OC} {n:Nat} (hc:X.calm=true) (h:OS X es t) (hn:(assignEach es X.env).length=n:=by rfl) (gE:(assignEach es X.env).findIdx? (·.1)=none:=by rfl):PG X (.Tuple es k pos) (Uc X.K n t):=by
 intro pins s U H v u Q I r hw
 obtain ⟨a,xs,e1,hq,hl,hw⟩:=hw
 subst e1
 cases r
 obtain ⟨bG,rv,ht,hz⟩:=I.tuple hq
 refine assign_Tuple_tuple (I.ok.hd hc) ht (by simp [hn,← hl,rv.length]) gE λ h' hx=>?_
 have I1:Inv X pins U H { s with heap:=h' }:=I.kept (t':=s.toks) λ b o e=>hx b o (acN (abh e)) e
 exact h pins _ U H xs _ Q I1 (by simpa using rv) hw
def aal (to ti:TE) (t:Ot):TG:=λ v U H Q=>to U H λ o H1=>ti U H1 λ i H2=>t o i v H2 λ H3=>Q U H3
theorem wL {o i:Expr} {to ti:TE} {t:Ot} (ho:PE X o to) (hi:PE X i ti) (hs:Xa X t) (ha:∀ v,assign (.Subscript o i pos) X.env v=(do
     let ov ← holding [v] (eval o X.env)
     let iv ← holding [v,ov] (eval i X.env)
     standAt pos
     holding [v,ov,iv] (setItem ov iv v)
     release [v,ov,iv] []):=by intro _;rfl):PG X (.Subscript o i pos) (aal to ti t):=by
 intro pins s U H v u Q I r h
 rw [ha]
 refine T1 (alp (cX (ho pins s U H _ I h) λ ov s1 ⟨x,H1,I1,r1,q1⟩=>?_))
 refine T1 (alp (cX (hi pins s1 U H1 _ I1 q1) λ iv s2 ⟨y,H2,I2,r2,q2⟩=>?_))
 refine T1 (aol (T1 (alp (cX (hs pins s2 U H2 x y v ov iv u _ I2 r1 r2 r q2) λ _ s3 ⟨H3,I3,q3⟩=>?_))))
 exact wpAny_release ⟨U,H3,I3,q3⟩
def FE (te:TE) (g:TG):TS:=λ D U H=>te U H λ x H1=>g x U H1 D.nx
theorem jF {e:Expr} (he:PE X e te) (hg:PG X tg g) (hs:swapsWithSole [tg] e pos.line X.env=pure false:=by rfl) (hw:swappedStores [tg] e X.env=pure none:=by rfl) (h1:(assignEach [tg] X.env).map (·.2)=[assign tg X.env]:=by rfl):PS X (.Assign [tg] e pos) (FE te g):=by
 intro pins s U H D I h
 refine wpAny_Assign_stores (cX (he pins s U H _ I h) λ v s1 ⟨x,H1,I1,r1,q1⟩=>?_) hs hw
 rw [h1]
 exact cX (hg pins s1 U H1 x v _ I1 r1 q1) λ _ s2 q=>q
theorem az {x:Str} {e:Expr} {pos':Pos} (hN:X.N.Nodup) (hi:X.N[i]?=some x) (hx:Loc X.env.scope x) (he:PE X e te) (hs:swapsWith e (some (.Name x pos')) pos.line X.env=pure false:=by rfl) (hf:X.fn x=true∨X.env.scope.names.lookup x=some .local:=by first|exact .inl rfl|exact .inr rfl|assumption) :
   PS X (.Assign [.Name x pos'] e pos) (FE te (uv i)):=by
 intro pins s U H D I h
 refine wpAny_Assign_Name (cX (he pins s U H _ I h) λ v s1 ⟨y,H1,I1,r1,q1⟩=>?_) hs
 exact rH I1 hN hi hx r1 (λ s2 I2=>⟨_,H1,I2,q1⟩) hf
end
section
variable {X:Cx} {pos:Pos}
def Ms (c:TT) (tb:TS):TS:=λ D U H=>∃ W:Nat->St->Hp->Prop,(∃ m,W m U H)/\∀ m U H,W m U H ->
 c U H λ b H1=>if b=true then ∃ N:St->Hp->Prop,(∀ σ' H',N σ' H'->∃ m',m'<m/\W m' σ' H')/\tb { D with nx:=N,ct:=N,bk:=D.nx } U H1 else D.nx U H1
theorem zB {c:Expr} {body:List Stmt} {tc:TT} (hp:PassesOwn (model X.prog X.w) X.A X.env X.xe) (hc:PT X c tc) (hb:qg X body tb):PS X (.While c body [] pos) (Ms tc tb):=by
 intro pins s U H D I h
 obtain ⟨W,⟨m0,w0⟩,turn⟩:=h
 refine wpAny_While (codeAny_whileLoop (λ n s'=>∃ σ' H',Inv X pins σ' H' s'/\W n σ' H') ?_ m0 ⟨U,H,I,w0⟩)
 rintro n s1 ⟨σ1,H1,I1,w1⟩
 refine anR hp (cX (hc pins s1 σ1 H1 _ I1 (turn n σ1 H1 w1)) λ b s2 ⟨H2,I2,q2⟩=>?_)
 cases b with
 | true =>
   obtain ⟨N,hN,q2⟩:=q2
   rw [abl rfl]
   refine anR hp (cX (hb pins s2 σ1 H2 _ I2 q2) λ f s3 q3=>?_)
   cases f with
   | next =>
     obtain ⟨σ3,H3,I3,n3⟩:=q3
     obtain ⟨m',hm,w3⟩:=hN σ3 H3 n3
     exact ⟨m',hm,σ3,H3,I3,w3⟩
   | cont =>
     obtain ⟨σ3,H3,I3,n3⟩:=q3
     obtain ⟨m',hm,w3⟩:=hN σ3 H3 n3
     exact ⟨m',hm,σ3,H3,I3,w3⟩
   | brk=>exact q3
   | ret v=>exact q3
 | false =>
   rw [aa8 aaR]
   exact anS ⟨σ1,H2,I2,q2⟩
end
structure It where
 go:Nat->Hp->Prop
 FP:Nat->Hp->V->Hp->Prop
 stop:Nat->Hp->Prop
def tS (X:Cx) (pins:List (Addr×Obj)) (H:Hp) (b:Addr):Prop :=
 H b=none/\b≠X.env.locals/\b∉X.fs/\(b∈X.ex∨X.s₀.heap.objs.size<=b)/\(∀ x c,X.env.cells.lookup x=some c->c≠b)/\∀ p∈X.pn++pins,p.1≠b
theorem Inv.xx {X:Cx} {H':Hp} {s:Shared} {b:Addr} (I:Inv X pins U H s) (hb:s.heap.objs.size<=b) (hn:H' b=none):tS X pins H' b:=by
 refine ⟨hn,aoF (abE I.lt hb),I.aeb hb,.inr (afY I.sz hb),λ x c e z=>?_,λ p hp z=>?_⟩
 . obtain ⟨v,q⟩:=I.cell x c e
   exact absurd (abE q.lt (by rw [z];exact hb)) (ag7 _)
 . exact absurd (abE (abh (I.pin p hp).1) (by rw [z];exact hb)) (ag7 _)
structure Turn (P:Program) (w:World) (K:W.Frag) (tg:Expr) (J:It) (fp:List Addr) (it:Addr) (tn:Nat->Heap->Prop):Prop where
 mem:it∈fp
 obj:∀ i h,tn i h->∀ b∈fp,∃ o,h.get? b=some o/\∀ v,o.data ≠ .cell v
 keep:∀ i h h',tn i h->(∀ b∈fp,∀ o,h.get? b=some o->h'.get? b=some o)->tn i h'
 item:∀ (X:Cx),X.prog=P->X.w=w->X.K=K->X.calm=true->∀ (i:Nat) (pins:List (Addr×Obj)) (s:Shared) (U:St) (H:Hp) (E:Value->Shared->Prop),Inv X pins U H s->(∀ b∈fp,tS X pins H b)->tn i s.heap->J.go i H ->
   wpAny (model P w) X.A (pyNext (.ref it)) (λ r s1=>∃ u,r=some u /\
     wpAny (model P w) X.A (letOwnedTupleGo tg (.ref it) u) (λ _ s2=>∃ x H',Inv X pins U H' s2/\RelV x u/\J.FP i H x H'/\tn (i+1) s2.heap/\∀ b∈fp,H' b=none) E s1) E s
 done:∀ (X:Cx),X.prog=P->X.w=w->X.K=K->X.calm=true->∀ (i:Nat) (pins:List (Addr×Obj)) (s:Shared) (U:St) (H:Hp) (E:Value->Shared->Prop),Inv X pins U H s->(∀ b∈fp,tS X pins H b)->tn i s.heap->J.stop i H ->
   wpAny (model P w) X.A (pyNext (.ref it)) (λ r s1=>r=none/\Inv X pins U H s1) E s
 self:∀ (A:Around) (i:Nat) (s:Shared) (Q:Value->Shared->Prop) (E:Value->Shared->Prop),tn i s.heap->Q (.ref it) s->wpAny (model P w) A (pyIter (.ref it)) Q E s
abbrev TI:=St->Hp->(It->Hp->Prop)->Prop
def PIE (X:Cx) (pins:List (Addr×Obj)) (U:St) (tg:Expr) (R:It->Hp->Prop) (itv:Value) (s2:Shared):Prop :=
 ∃ (it:Addr) (fp:List Addr) (tn:Nat->Heap->Prop) (J:It) (H':Hp),itv = .ref it/\Inv X pins U H' s2/\Turn X.prog X.w X.K tg J fp it tn/\tn 0 s2.heap/\(∀ b∈fp,tS X pins H' b)/\R J H'
def PI (X:Cx) (tg iter:Expr) (wi:TI):Prop :=
 ∀ (pins:List (Addr×Obj)) (s:Shared) (U:St) (H:Hp) (R:It->Hp->Prop),Inv X pins U H s->wi U H R ->
   wpAny (model X.prog X.w) X.A (eval iter X.env) (λ v s1=>wpAny (model X.prog X.w) X.A (pyIter v) (PIE X pins U tg R) X.xe s1) X.xe s
theorem LU {M:Model} {A:Around} {E:Value->Shared->Prop} {s:Shared} {o:Obj} {n:String} {vs:Array Value} {Q:Unit->Shared->Prop} (ho:s.heap.get? it=some o) (hc:o.cls = .type n) (hd:o.data = .fields vs) (hn:["enumerate","zip","dict_itemiterator","dict_reverseitemiterator","odict_iterator","itertools.zip_longest","itertools.pairwise"].contains n=false) (hQ:Q () s):wpAny M A (letOwnedTupleGo tg (.ref it) u) Q E s:=by
 unfold letOwnedTupleGo
 cases tg<;>first
   | exact abF hQ
   | (cases u<;>first
       | exact abF hQ
       | (refine T1 (wpAny_load ho ?_)
          rw [hc,hd]
          show wpAny M A (if (["enumerate","zip","dict_itemiterator","dict_reverseitemiterator","odict_iterator","itertools.zip_longest","itertools.pairwise"].contains n && vs[0]? == some (rawInt _))=true then _ else _) Q E s
          rw [aa8 (by intro h;rw [hn,apn] at h;cases h)]
          exact abF hQ))
def FS (K:W.Frag) (a:Addr):It :=
 ⟨λ i H=>∃ xs x,bg K H a xs/\xs[i]?=some x,λ i H x H'=>H'=H/\∀ xs,bg K H a xs->xs[i]?=some x,λ i H=>∃ xs,bg K H a xs/\xs.length<=i⟩
def ET (lo:Int) (n:Nat):It:=⟨λ i _=>i<n,λ i H x H'=>H'=H/\x = .int (lo+i),λ i _=>n<=i⟩
theorem Di {P:Program} {w:World} {K:W.Frag} (a it:Addr):Turn P w K tg (FS K a) [it] it (λ i h=>h.IsListIter it a i) where
 mem:=by simp
 obj:=λ i h st b hb=>by
   have e:b=it:=by simpa using hb
   subst e
   obtain ⟨o,e,c,d⟩:=st
   exact ⟨o,e,λ v z=>by rw [d] at z;cases z⟩
 keep:=λ i h h' st k=>st.at λ o e=>k it (by simp) o e
 item:=by
   intro X hP hw hK hc i pins s U H E I hf st hg
   subst hP hw hK
   obtain ⟨xs,x,hq,hx⟩:=hg
   obtain ⟨bG,rv,p,hz⟩:=I.list hq
   obtain ⟨u,hu,ru⟩:=rv.get hx
   obtain ⟨f0,f1,f2,f3,f4,f5⟩:=hf it (by simp)
   refine wpAny_pyNext_list_item st p.isList (x:=u) (by simpa using hu) λ h' Lb sb=>?_
   have I1:Inv X pins U H { s with heap:=h' }:=I.turned (t':=s.toks) (λ b o hb e=>(sb.2 b hb).trans e) f0 f1 f3 f4 f5
   obtain ⟨o,e,c,d⟩:=id Lb
   exact ⟨u,rfl,LU (s:={ s with heap:=h' }) e c d (by decide) ⟨x,H,I1,ru,⟨rfl,λ ys hy=>by rw [I.oM hy hq];exact hx⟩,Lb,λ b hb=>(hf b hb).1⟩⟩
 done:=by
   intro X hP hw hK hc i pins s U H E I hf st hg
   subst hP hw hK
   obtain ⟨xs,hq,hx⟩:=hg
   obtain ⟨bG,rv,p,hz⟩:=I.list hq
   obtain ⟨f0,f1,f2,f3,f4,f5⟩:=hf it (by simp)
   have hl:=rv.length
   exact wpAny_pyNext_list_end (I.ok.hd hc) st p.isList (by simp;lia) λ h' eb=>⟨rfl,I.turned (t':=s.toks) (λ b o hb e=>eb b o hb e) f0 f1 f3 f4 f5⟩
 self:=λ _ _ _ _ _ st h=>wpAny_pyIter_listiter st h
theorem BF {P:Program} {w:World} {K:W.Frag} (it:Addr) (lo:Int) (n:Nat):Turn P w K tg (ET lo n) [it] it (λ i h=>IsRangeIter h it (lo+(i:Nat) * 1) ((n:Int) - (i:Nat)) 1) where
 mem:=by simp
 obj:=λ i h st b hb=>by
   have e:b=it:=by simpa using hb
   subst e
   exact ⟨_,st,λ v z=>by
     have z':Data.fields _=Data.cell v:=z
     cases z'⟩
 keep:=λ i h h' st k=>k it (by simp) _ st
 item:=by
   intro X hP hw hK hc i pins s U H E I hf st hg
   subst hP hw hK
   obtain ⟨f0,f1,f2,f3,f4,f5⟩:=hf it (by simp)
   have W:=Walks.range (prog:=X.prog) (w:=X.w) (I.ok.hd hc) it lo 1 n
   refine W.item i s _ _ hg st λ v h' tk hv Lb kk=>?_
   obtain ⟨t,rfl⟩:=hv
   have I1:Inv X pins U H { s with heap:=h',toks:=tk }:=I.turned (λ b o hb e=>kk b o (by simpa using hb) e) f0 f1 f3 f4 f5
   refine ⟨_,rfl,LU (s:={ s with heap:=h',toks:=tk }) (n:="range_iterator") Lb rfl rfl (by decide) ⟨.int (lo+i),H,I1,⟨t,?_⟩,⟨rfl,rfl⟩,Lb,λ b hb=>(hf b hb).1⟩⟩
   rw [Int.mul_one]
 done:=by
   intro X hP hw hK hc i pins s U H E I hf st hg
   subst hP hw hK
   obtain ⟨f0,f1,f2,f3,f4,f5⟩:=hf it (by simp)
   exact wpAny_pyNext_range_end (I.ok.hd hc) st (by have:n<=i:=hg;lia) λ h' eb=>⟨rfl,I.turned (t':=s.toks) (λ b o hb e=>eb b o hb e) f0 f1 f3 f4 f5⟩
 self:=λ _ _ _ _ _ st h=>wpAny_pyIter_rangeiter st h
section
variable {X:Cx} {tg:Expr}
inductive adv (K:W.Frag) (R:It->Hp->Prop) (x:V) (H1:Hp):Prop
 | mk (a:Addr) (h1:x = .ref a) (h2:∃ xs,bg K H1 a xs) (q:R (FS K a) H1)
def VM (K:W.Frag) (tl:TE):TI:=λ U H R=>tl U H (adv K R)
theorem fL {l:Expr} {tl:TE} (hl:PE X l tl):PI X tg l (VM X.K tl):=by
 intro pins s U H R I h
 refine cX (hl pins s U H _ I h) λ v s1 ⟨x,H1,I1,r1,q1⟩=>?_
 obtain ⟨a,e,⟨xs,hq⟩,q⟩:=q1
 subst e
 cases r1
 obtain ⟨bG,rv,p,hz⟩:=I1.list hq
 refine wpAny_pyIter_list p.isList ?_
 refine ⟨s1.heap.objs.size,[s1.heap.objs.size],_,_,H1,rfl,I1.kept (t':=s1.toks) λ b o e=>YM _ e,Di a _,⟨_,adt _ rfl,rfl,rfl⟩,λ b hb=>?_,q⟩
 have e:b=s1.heap.objs.size:=by simpa using hb
 subst e
 exact I1.xx (aar _) (I1.cq.fresh (aar _))
theorem Hj {s:Shared} {R:It->Hp->Prop} {E:Value->Shared->Prop} {hi:Int} {t u v:Tok} {tk:Nat} (I:Inv X pins U H s) (h1 : -(2 ^ 62)<=lo) (h2:lo<2 ^ 62) (h3 : -(2 ^ 62)<=hi) (h4:hi<2 ^ 62) (q:R (ET lo (hi - lo).toNat) H):wpAny (model X.prog X.w) X.A (pyIter (.ref s.heap.objs.size)) (PIE X pins U tg R) E { s with heap:=s.heap.push { cls:=.type "range",data:=.fields #[.int lo t,.int hi u,.int 1 v]},toks:=tk }:=by
 refine wpAny_pyIter_range (IsRange.new ..) (small_one h1 h2 h3 h4) ?_
 have I1:Inv X pins U H { s with heap:=s.heap.push { cls:=.type "range",data:=.fields #[.int lo t,.int hi u,.int 1 v]},toks:=tk }:=I.kept λ b o e=>YM _ e
 refine ⟨(s.heap.push { cls:=.type "range",data:=.fields #[.int lo t,.int hi u,.int 1 v]}).objs.size,[(s.heap.push { cls:=.type "range",data:=.fields #[.int lo t,.int hi u,.int 1 v]}).objs.size],_,_,H,rfl,
   I1.kept (t':=tk) λ b o e=>YM _ e,BF _ lo (hi - lo).toNat,?_,λ b hb=>?_,q⟩
 .
  have e1:lo+((0:Nat):Int) * 1=lo:=by simp
  have e2:(((hi - lo).toNat:Nat):Int) - ((0:Nat):Int)=Builtin.Range.rangeSize lo hi 1:=by rw [rangeSize_one];split<;>lia
  show IsRangeIter _ _ (lo+((0:Nat):Int) * 1) ((((hi - lo).toNat:Nat):Int) - ((0:Nat):Int)) 1
  rw [e1,e2]
  exact adt _ rfl
 . have e:b=(s.heap.push { cls:=.type "range",data:=.fields #[.int lo t,.int hi u,.int 1 v]}).objs.size:=by simpa using hb
   subst e
   exact I1.xx (aar _) (I1.cq.fresh (aar _))
inductive abr (R:It->Hp->Prop) (vs:List V) (H1:Hp):Prop
 | mk (j:Int) (h1:vs=[.int j]) (h2 : -(2 ^ 62)<=j) (h3:j<2 ^ 62) (q:R (ET 0 j.toNat) H1)
def RK (ta:TA):TI:=λ U H R=>ta U H (abr R)
theorem bH {a:Expr} {ta:TA} {p pos:Pos} (hg:Gl X "range") (hm:X.mg "range" = none) (ha:PA X [a] ta) (hs:starEach [a] X.env=[(false,eval a X.env)]:=by rfl):PI X tg (.Call (.Name "range" p) [a] [] pos) (RK ta):=by
 intro pins s U H R I h
 refine Call_ (lN I hg hm boot_range (ahZ (cX (ha pos pins s U H _ I h) λ us s1 ⟨vs,H1,I1,r1,q1⟩=>?_) hs rfl))
 obtain ⟨j,e,q1,q2,q⟩:=q1
 subst e
 cases r1 with
 | cons r rr =>
   cases rr
   obtain ⟨t,rfl⟩:=r
   exact call_range_1 (Hj I1 (by lia) (by lia) q1 q2 (by simpa using q))
def amG (wi:TI) (g:TG) (tb:TS):TS:=λ D U H=>wi U H λ J H1=>∃ W:Nat->Nat->St->Hp->Prop,(∃ m,W 0 m U H1)/\∀ i m U H,W i m U H ->
 (J.stop i H/\D.nx U H)∨(J.go i H/\∃ N:St->Hp->Prop,(∀ σ' H',N σ' H'->∃ m',m'<m/\W (i+1) m' σ' H')/\∀ x H',J.FP i H x H'->g x U H' λ σ2 H2=>tb { D with nx:=N,ct:=N,bk:=D.nx } σ2 H2)
def rN (fp:List Addr) (h:Heap):List (Addr×Obj):=fp.filterMap λ b=>(h.get? b).map λ o=>(b,o)
theorem kA {h:Heap} {b:Addr} {o:Obj} (hb:b∈fp) (e:h.get? b=some o):(b,o)∈rN fp h:=List.mem_filterMap.mpr ⟨b,hb,by rw [e];rfl⟩
theorem EF {h:Heap} {p:Addr×Obj} (hp:p∈rN fp h):p.1∈fp/\h.get? p.1=some p.2:=by
 obtain ⟨b,hb,e⟩:=List.mem_filterMap.mp hp
 cases q:h.get? b with
 | none=>rw [q] at e;cases e
 | some o =>
   rw [q] at e
   have e':(b,o)=p:=aaU e
   subst e'
   exact ⟨hb,q⟩
theorem Inv.pinned {s:Shared} (I:Inv X pins U H s) (hf:∀ b∈fp,tS X pins H b) (ho:∀ b∈fp,∃ o,s.heap.get? b=some o/\∀ v,o.data ≠ .cell v):Inv X (pins++rN fp s.heap) U H s :=
 I.Cs λ p hp=>(List.mem_append.mp hp).elim (λ z=>I.pin p (aaN _ z)) λ z=>by
   obtain ⟨hb,e⟩:=EF z
   obtain ⟨f0,f1,f2,_⟩:=hf p.1 hb
   obtain ⟨o,e',d⟩:=ho p.1 hb
   rw [e] at e';cases e'
   exact ⟨e,f0,f1,f2,d⟩
theorem Inv.oF {pl:List (Addr×Obj)} {s:Shared} (I:Inv X (pins++pl) U H s):Inv X pins U H s:=I.Cs λ p hp=>I.pin p (aaN _ (age _ hp))
theorem dO {iter:Expr} {body:List Stmt} {wi:TI} {pos:Pos} (hp:PassesOwn (model X.prog X.w) X.A X.env X.xe) (hc:X.calm=true) (hi:PI X tg iter wi) (hg:PG X tg g) (hb:qg X body tb) (hs:∀ x,foldedSetIterable iter X.env x=pure x:=by intro _;rfl):PS X (.For tg iter body [] pos) (amG wi g tb):=by
 intro pins s U H D I h
 refine wpAny_For (cX (hi pins s U H _ I h) λ v s1 h1=>cX h1 λ itv s2 h2=>?_) hs
 obtain ⟨it,fp,tn,J,H2,e,I2,T,YT,f2,W,⟨m0,w0⟩,turn⟩:=h2
 subst e
 have NE:∀ {H':Hp},(∀ b∈fp,H' b=none)->∀ b∈fp,tS X pins H' b:=λ hn b hb=>⟨hn b hb,(f2 b hb).2⟩
 refine codeAny_forLoop_any (λ n s'=>∃ i σ' H',Inv X pins σ' H' s'/\tn i s'.heap/\(∀ b∈fp,H' b=none)/\W i n σ' H') ?_ m0 ⟨0,U,H2,I2,YT,λ b hb=>(f2 b hb).1,w0⟩
 rintro n s3 ⟨i,σ3,H3,I3,st3,fr3,w3⟩
 rcases turn i n σ3 H3 w3 with ⟨stop,qn⟩|⟨go,N,hN,step⟩
 . refine anR hp (cX (T.done X rfl rfl rfl hc i pins s3 σ3 H3 X.xe I3 (NE fr3) st3 stop) λ r s4 ⟨hr,I4⟩=>?_)
   subst hr
   exact anS ⟨σ3,H3,I4,qn⟩
 .
  refine anR hp (cX (T.item X rfl rfl rfl hc i pins s3 σ3 H3 X.xe I3 (NE fr3) st3 go) λ r s4 ⟨u,hr,h4⟩=>?_)
  subst hr
  refine anR hp (cX h4 λ _ s5 ⟨x,H5,I5,r5,y5,O9,Yg⟩=>?_)
  have I5':=I5.pinned (NE Yg) (T.obj _ _ O9)
  refine anR hp (cX (hg _ s5 σ3 H5 x u _ I5' r5 (step x H5 y5)) λ _ s6 ⟨σ6,H6,I6,q6⟩=>?_)
  refine anR hp (cX (hb _ s6 σ6 H6 _ I6 q6) λ f s7 q7=>?_)
  have again:∀ {σ7:St} {H7:Hp},Inv X (pins++rN fp s5.heap) σ7 H7 s7->N σ7 H7->∃ m,m<n/\∃ i σ' H',Inv X pins σ' H' s7/\tn i s7.heap/\(∀ b∈fp,H' b=none)/\W i m σ' H':=λ {σ7 H7} I7 n7=>by
    obtain ⟨m',hm,w7⟩:=hN σ7 H7 n7
    refine ⟨m',hm,i+1,σ7,H7,I7.oF,T.keep _ _ _ O9 λ b hb o e=>(I7.pin (b,o) (aaN _ (aaN _ (kA hb e)))).1,λ b hb=>?_,w7⟩
    obtain ⟨o,e,d⟩:=T.obj _ _ O9 b hb
    exact (I7.pin (b,o) (aaN _ (aaN _ (kA hb e)))).2.1
  cases f with
  | next=>obtain ⟨σ7,H7,I7,n7⟩:=q7;exact again I7 n7
  | cont=>obtain ⟨σ7,H7,I7,n7⟩:=q7;exact again I7 n7
  | brk=>obtain ⟨σ7,H7,I7,q7⟩:=q7;exact ⟨σ7,H7,I7.oF,q7⟩
  | ret v=>obtain ⟨x7,σ7,H7,I7,r7,q7⟩:=q7;exact ⟨x7,σ7,H7,I7.oF,r7,q7⟩
end
theorem lW {K:W.Frag} {a:Addr} {D:Ends} (Pv:Nat->St->Hp->Prop) (h0:Pv 0 U H) (hl:∀ i U H,i<=xs.length->Pv i U H->bg K H a xs) (hs:∀ i x U H,xs[i]?=some x->Pv i U H->g x U H λ σ2 H2=>tb { D with nx:=Pv (i+1),ct:=Pv (i+1),bk:=D.nx } σ2 H2) (hd:∀ U H,Pv xs.length U H->D.nx U H) :
   ∃ W:Nat->Nat->St->Hp->Prop,(∃ m,W 0 m U H)/\∀ i m U H,W i m U H ->
     ((FS K a).stop i H/\D.nx U H)∨((FS K a).go i H/\∃ N:St->Hp->Prop,(∀ σ' H',N σ' H'->∃ m',m'<m/\W (i+1) m' σ' H')/\∀ x H',(FS K a).FP i H x H'->g x U H' λ σ2 H2=>tb { D with nx:=N,ct:=N,bk:=D.nx } σ2 H2):=by
 refine ⟨λ i m U H=>m=xs.length - i/\i<=xs.length/\Pv i U H,⟨xs.length,by simp,afh _,h0⟩,?_⟩
 rintro i m U H ⟨rfl,hi,p⟩
 have q:=hl i U H hi p
 by_cases mK:i<xs.length
 .
  refine .inr ⟨⟨xs,xs[i],q,by simp [mK]⟩,Pv (i+1),λ σ' H' p'=>⟨xs.length - (i+1),by lia,rfl,mK,p'⟩,λ x H' y=>?_⟩
  obtain ⟨e,y⟩:=y
  subst e
  exact hs i x U _ (y xs q) p
 . have e:i=xs.length:=by lia
   subst e
   exact .inl ⟨⟨xs,q,aar _⟩,hd U H p⟩
theorem jZ {n:Nat} {D:Ends} (Pv:Nat->St->Hp->Prop) (h0:Pv 0 U H) (hs:∀ i U H,i<n->Pv i U H->g (.int (lo+i)) U H λ σ2 H2=>tb { D with nx:=Pv (i+1),ct:=Pv (i+1),bk:=D.nx } σ2 H2) (hd:∀ U H,Pv n U H->D.nx U H) :
   ∃ W:Nat->Nat->St->Hp->Prop,(∃ m,W 0 m U H)/\∀ i m U H,W i m U H ->
     ((ET lo n).stop i H/\D.nx U H)∨((ET lo n).go i H/\∃ N:St->Hp->Prop,(∀ σ' H',N σ' H'->∃ m',m'<m/\W (i+1) m' σ' H')/\∀ x H',(ET lo n).FP i H x H'->g x U H' λ σ2 H2=>tb { D with nx:=N,ct:=N,bk:=D.nx } σ2 H2):=by
 refine ⟨λ i m U H=>m=n - i/\i<=n/\Pv i U H,⟨n,by simp,afh _,h0⟩,?_⟩
 rintro i m U H ⟨rfl,hi,p⟩
 by_cases mK:i<n
 .
  refine .inr ⟨mK,Pv (i+1),λ σ' H' p'=>⟨n - (i+1),by lia,rfl,mK,p'⟩,λ x H' y=>?_⟩
  obtain ⟨e,y⟩:=y
  subst e y
  exact hs i U _ mK p
 . have e:i=n:=by lia
   subst e
   exact .inl ⟨aar _,hd U H p⟩
abbrev R2:=V->V->Hp->VK->Prop
def jz (X:Cx) (f:Value->Value->Sem Value) (r:R2):Prop :=
 ∀ (pins:List (Addr×Obj)) (s:Shared) (U:St) (H:Hp) (x y:V) (v u:Value) (Q:VK),Inv X pins U H s->RelV x v->RelV y u->r x y H Q ->
   wpAny (model X.prog X.w) X.A (f v u) (EP X pins U Q) X.xe s
def YU (X:Cx) (f:Value->Sem Value) (r:V->Hp->VK->Prop):Prop :=
 ∀ (pins:List (Addr×Obj)) (s:Shared) (U:St) (H:Hp) (x:V) (v:Value) (Q:VK),Inv X pins U H s->RelV x v->r x H Q ->
   wpAny (model X.prog X.w) X.A (f v) (EP X pins U Q) X.xe s
def hZ (X:Cx) (f:Value) (r:List V->Hp->VK->Prop):Prop :=
 ∀ (pins:List (Addr×Obj)) (s:Shared) (U:St) (H:Hp) (xs:List V) (us:List Value) (Q:VK),Inv X pins U H s->Vals xs us->r xs H Q ->
   wpAny (model X.prog X.w) X.A (call f us) (EP X pins U Q) X.xe s
def UT (r:R2) (ta tb:TE):TE:=λ U H Q=>ta U H λ x H1=>tb U H1 λ y H2=>r x y H2 Q
def tUn (r:V->Hp->VK->Prop) (ta:TE):TE:=λ U H Q=>ta U H λ x H1=>r x H1 Q
inductive rI (C:Int->Int->Prop) (g:Int->Int->V) (x:V) (y:V) (H:Hp) (Q:VK):Prop
 | mk (i j:_) (_:x = .int i) (_:y = .int j) (_:C i j) (_:Q (g i j) H)
inductive Ie (g:Int->Int->V) (x:V) (y:V) (H:Hp) (Q:VK):Prop
 | mk (i j:_) (_:x = .int i) (_:y = .int j) (_:Q (g i j) H)
inductive rU (g:Int->V) (x:V) (H:Hp) (Q:VK):Prop
 | mk (i:_) (_:x = .int i) (_:Q (g i) H)
section
variable {X:Cx} {a b c:Expr} {ta tb tc:TE} {pos:Pos}
theorem N5 (ha:PE X a ta) (hb:PE X b tb) {s:Shared} {R:V->V->Hp->Prop} (I:Inv X pins U H s) (h:ta U H λ x H1=>tb U H1 λ y H2=>R x y H2) {Q:Value->Shared->Prop} {f:Value->Value->Sem Value} (hf:∀ v u s2 x y H2,Inv X pins U H2 s2->RelV x v->RelV y u->R x y H2->wpAny (model X.prog X.w) X.A (f v u) Q X.xe s2) :
   wpAny (model X.prog X.w) X.A (eval a X.env) (λ v s₁=>wpAny (model X.prog X.w) X.A (eval b X.env) (λ u s₂=>wpAny (model X.prog X.w) X.A (f v u) Q X.xe s₂) X.xe s₁) X.xe s:=by
 refine cX (ha pins s U H _ I h) λ v s1 ⟨x,H1,I1,r1,q1⟩=>?_
 refine cX (hb pins s1 U H1 _ I1 q1) λ u s2 ⟨y,H2,I2,r2,q2⟩=>?_
 exact hf v u s2 x y H2 I2 r1 r2 q2
theorem ax {op:Operator} {r:R2} (ho:jz X (binaryOp op) r) (ha:PE X a ta) (hb:PE X b tb):PE X (.BinOp a op b pos) (UT r ta tb):=by
 intro pins s U H Q I h
 exact wpAny_BinOp (N5 ha hb I h λ v u s2 x y H2 I2 rx ry q=>ho pins s2 U H2 x y v u Q I2 rx ry q)
theorem p9 {op:UnaryOp} {r:V->Hp->VK->Prop} (ho:YU X (unaryOp op) r) (ha:PE X a ta):PE X (.UnaryOp op a pos) (tUn r ta):=by
 intro pins s U H Q I h
 exact UnaryOp_ (cX (ha pins s U H _ I h) λ v s1 ⟨x,H1,I1,r1,q1⟩=>ho pins s1 U H1 x v Q I1 r1 q1)
theorem ON {f:Value->Value->Sem Value} {C:Int->Int->Prop} {g:Int->Int->Int} (rule:∀ (i j:Int) (t u:Tok) (s:Shared) (Q:Value->Shared->Prop) (E:Value->Shared->Prop),C i j->Q (.int (g i j) s.toks) { s with toks:=s.toks+1 }->wpAny (model X.prog X.w) X.A (f (.int i t) (.int j u)) Q E s) :
   jz X f (rI C λ i j => .int (g i j)):=by
 intro pins s U H x y v u Q I rx ry h
 obtain ⟨i,j,rfl,rfl,hc,q⟩:=h
 obtain ⟨t,rfl⟩:=rx
 obtain ⟨t',rfl⟩:=ry
 exact rule i j t t' s _ _ hc ⟨.int (g i j),H,I.tok _,⟨_,rfl⟩,q⟩
theorem Iy {f:Value->Value->Sem Value} {g:Int->Int->Int} (rule:∀ (i j:Int) (t u:Tok) (s:Shared) (Q:Value->Shared->Prop) (E:Value->Shared->Prop),Q (.int (g i j) s.toks) { s with toks:=s.toks+1 }->wpAny (model X.prog X.w) X.A (f (.int i t) (.int j u)) Q E s) :
   jz X f (Ie λ i j => .int (g i j)):=by
 intro pins s U H x y v u Q I rx ry h
 obtain ⟨i,j,rfl,rfl,q⟩:=h
 obtain ⟨t,rfl⟩:=rx
 obtain ⟨t',rfl⟩:=ry
 exact rule i j t t' s _ _ ⟨.int (g i j),H,I.tok _,⟨_,rfl⟩,q⟩
theorem Ki {f:Value->Value->Sem Value} {g:Int->Int->Bool} (rule:∀ (i j:Int) (t u:Tok) (s:Shared) (Q:Value->Shared->Prop) (E:Value->Shared->Prop),Q (.bool (g i j)) s->wpAny (model X.prog X.w) X.A (f (.int i t) (.int j u)) Q E s) :
   jz X f (Ie λ i j => .bl (g i j)):=by
 intro pins s U H x y v u Q I rx ry h
 obtain ⟨i,j,rfl,rfl,q⟩:=h
 obtain ⟨t,rfl⟩:=rx
 obtain ⟨t',rfl⟩:=ry
 exact rule i j t t' s _ _ ⟨.bl (g i j),H,I,rfl,q⟩
def Ks (i j:Int):Prop:=0<=j/\j<=1000000/\i.natAbs<2 ^ 64
theorem Bi (k:Nat):(0:Int)<=2 ^ k:=by
 rw [two_pow_cast]
 exact amz _
theorem NS:jz X (binaryOp .Add) (Ie λ i j => .int (i+j)):=Iy λ _ _ _ _ _ _ _ q=>add_int q
theorem Og:jz X (binaryOp .Sub) (Ie λ i j => .int (i - j)):=Iy λ _ _ _ _ _ _ _ q=>sub_int q
theorem Nc:jz X (binaryOp .Mod) (rI (λ _ j=>0<j) λ i j => .int (i % j)):=ON λ i j _ _ _ _ _ hc q=>by
 have h1:(0:Int)<j:=hc
 exact mod_int' (by lia) (by rw [Int.fmod_eq_emod_of_nonneg i (by lia)];exact q)
theorem Nq:jz X (binaryOp .Pow) (rI Ks λ i j => .int (i ^ j.toNat)):=ON λ _ _ _ _ _ _ _ hc q=>pow_int_small hc.1 hc.2.1 hc.2.2 q
theorem Ox:jz X (binaryOp .LShift) (rI Ks λ i j => .int (i * 2 ^ j.toNat)):=ON λ _ _ _ _ _ _ _ hc q=>lshift_int_small hc.1 hc.2.1 hc.2.2 q
theorem Ny:jz X (binaryOp .RShift) (rI (λ _ j=>0<=j) λ i j => .int (i / 2 ^ j.toNat)):=ON λ i j _ _ _ _ _ hc q =>
 rshift_int hc (by rw [api i (Bi _)];exact q)
theorem NA:jz X (binaryOp .BitAnd) (Ie λ i j => .int (Builtin.bitAnd i j)):=Iy λ _ _ _ _ _ _ _ q=>and_int q
theorem Qc:jz X (binaryOp .BitOr) (Ie λ i j => .int (Builtin.bitOr i j)):=Iy λ _ _ _ _ _ _ _ q=>or_int q
theorem unI {f:Value->Sem Value} {g:Int->Int} (rule:∀ (i:Int) (t:Tok) (s:Shared) (Q:Value->Shared->Prop) (E:Value->Shared->Prop),Q (.int (g i) s.toks) { s with toks:=s.toks+1 }->wpAny (model X.prog X.w) X.A (f (.int i t)) Q E s) :
   YU X f (rU λ i => .int (g i)):=by
 intro pins s U H x v Q I rx h
 obtain ⟨i,rfl,q⟩:=h
 obtain ⟨t,rfl⟩:=rx
 exact rule i t s _ _ ⟨.int (g i),H,I.tok _,⟨_,rfl⟩,q⟩
theorem vZ:YU X (unaryOp .USub) (rU λ i => .int (-i)):=unI λ _ _ _ _ _ q=>neg_int q
theorem vX:YU X (unaryOp .Invert) (rU λ i => .int (Builtin.bitNot i)):=unI λ _ _ _ _ _ q=>invert_int q
end
def Nx:V->V->Bool
 | .bT,.bT=>true | .bT,.int _=>true | .int _,.bT=>true | .bT,.bl _=>true | .bl _,.bT=>true | .bT,.str _=>true | .str _,.bT=>true
 | .int _,.int _=>true | .bl _,.bl _=>true | .str _,.str _=>true | .Eu _,.Eu _=>true
 | .int _,.str _=>true | .str _,.int _=>true | .bl _,.str _=>true | .str _,.bl _=>true
 | _,_=>false
def rEq:R2:=λ x y H Q=>Nx x y=true/\Q (.bl (decide (x=y))) H
def rNe:R2:=λ x y H Q=>Nx x y=true/\Q (.bl (!decide (x=y))) H
theorem CZ {i j:Int}:decide (V.int i=V.int j)=(i == j):=by
 rw [alm]
 simp
theorem GH {i j:Bool}:decide (V.bl i=V.bl j)=(i == j):=by
 rw [alm]
 simp
theorem BY {i j:Str}:decide (V.str i=V.str j)=(i == j):=by
 rw [alm]
 simp
theorem CC {i j:Array UInt8}:decide (V.Eu i=V.Eu j)=(i.toList == j.toList):=by
 rw [alm]
 cases i
 cases j
 simp
section
variable {X:Cx} {a b c:Expr} {ta tb tc:TE} {pos:Pos}
theorem b7 {s:Shared} {k k':Bool} (I:Inv X pins U H s) (q:Q (.bl k) H) (e:k=k'):EP X pins U Q (.bool k') s:=by
 subst e
 exact ⟨.bl k,H,I,rfl,q⟩
theorem gB:jz X (compareOp .Eq) rEq:=by
 intro pins s U H x y v u Q I rx ry h
 obtain ⟨hs,q⟩:=h
 cases x with
 | bT =>
   cases rx
   cases y with
   | bT=>cases ry;exact PySem.EqNone.eq_none_none (b7 I q (by simp))
   | bl j=>cases ry;exact PySem.EqNone.eq_none_bool (b7 I q (by simp))
   | int j=>obtain ⟨t',rfl⟩:=ry;exact PySem.EqNone.eq_none_int (b7 I q (by simp))
   | str j=>obtain ⟨t',rfl⟩:=ry;exact PySem.EqNone.eq_none_str (b7 I q (by simp))
   | _=>exact absurd (show false=true from hs) aaR
 | bl i =>
   cases rx
   cases y with
   | bT=>cases ry;exact PySem.EqNone.eq_bool_none (b7 I q (by simp))
   | bl j=>cases ry;exact eq_bool (b7 I q GH)
   | str j=>obtain ⟨t',rfl⟩:=ry;exact PySem.EqMixed.eq_bool_str (b7 I q (by simp))
   | _=>exact absurd (show false=true from hs) aaR
 | int i =>
   obtain ⟨t,rfl⟩:=rx
   cases y with
   | bT=>cases ry;exact PySem.EqNone.eq_int_none (b7 I q (by simp))
   | int j=>obtain ⟨t',rfl⟩:=ry;exact eq_int (b7 I q CZ)
   | str j=>obtain ⟨t',rfl⟩:=ry;exact PySem.EqMixed.eq_int_str (b7 I q (by simp))
   | _=>exact absurd (show false=true from hs) aaR
 | str i =>
   obtain ⟨t,rfl⟩:=rx
   cases y with
   | bT=>cases ry;exact PySem.EqNone.eq_str_none (b7 I q (by simp))
   | bl j=>cases ry;exact PySem.EqMixed.eq_str_bool (b7 I q (by simp))
   | int j=>obtain ⟨t',rfl⟩:=ry;exact PySem.EqMixed.eq_str_int (b7 I q (by simp))
   | str j=>obtain ⟨t',rfl⟩:=ry;exact eq_str (b7 I q BY)
   | _=>exact absurd (show false=true from hs) aaR
 | Eu i =>
   obtain ⟨t,rfl⟩:=rx
   cases y with
   | Eu j=>obtain ⟨t',rfl⟩:=ry;exact W.eq_bytes (b7 I q CC)
   | _=>exact absurd (show false=true from hs) aaR
 | _=>cases y<;>exact absurd (show false=true from hs) aaR
theorem hU:jz X (compareOp .NotEq) rNe:=by
 intro pins s U H x y v u Q I rx ry h
 obtain ⟨hs,q⟩:=h
 cases x with
 | bT =>
   cases rx
   cases y with
   | bT=>cases ry;exact PySem.EqNone.ne_none_none (b7 I q (by simp))
   | bl j=>cases ry;exact PySem.EqNone.ne_none_bool (b7 I q (by simp))
   | int j=>obtain ⟨t',rfl⟩:=ry;exact PySem.EqNone.ne_none_int (b7 I q (by simp))
   | str j=>obtain ⟨t',rfl⟩:=ry;exact PySem.EqNone.ne_none_str (b7 I q (by simp))
   | _=>exact absurd (show false=true from hs) aaR
 | bl i =>
   cases rx
   cases y with
   | bT=>cases ry;exact PySem.EqNone.ne_bool_none (b7 I q (by simp))
   | bl j=>cases ry;exact ne_bool (b7 I q (amX not GH))
   | str j=>obtain ⟨t',rfl⟩:=ry;exact PySem.EqMixed.ne_bool_str (b7 I q (by simp))
   | _=>exact absurd (show false=true from hs) aaR
 | int i =>
   obtain ⟨t,rfl⟩:=rx
   cases y with
   | bT=>cases ry;exact PySem.EqNone.ne_int_none (b7 I q (by simp))
   | int j=>obtain ⟨t',rfl⟩:=ry;exact ne_int (b7 I q (amX not CZ))
   | str j=>obtain ⟨t',rfl⟩:=ry;exact PySem.EqMixed.ne_int_str (b7 I q (by simp))
   | _=>exact absurd (show false=true from hs) aaR
 | str i =>
   obtain ⟨t,rfl⟩:=rx
   cases y with
   | bT=>cases ry;exact PySem.EqNone.ne_str_none (b7 I q (by simp))
   | bl j=>cases ry;exact PySem.EqMixed.ne_str_bool (b7 I q (by simp))
   | int j=>obtain ⟨t',rfl⟩:=ry;exact PySem.EqMixed.ne_str_int (b7 I q (by simp))
   | str j=>obtain ⟨t',rfl⟩:=ry;exact ne_str (b7 I q (amX not BY))
   | _=>exact absurd (show false=true from hs) aaR
 | Eu i =>
   obtain ⟨t,rfl⟩:=rx
   cases y with
   | Eu j=>obtain ⟨t',rfl⟩:=ry;exact W.ne_bytes (b7 I q (amX not CC))
   | _=>exact absurd (show false=true from hs) aaR
 | _=>cases y<;>exact absurd (show false=true from hs) aaR
theorem lQ:jz X (compareOp .Lt) (Ie λ i j => .bl (decide (i<j))):=Ki λ _ _ _ _ _ _ _ q=>lt_int q
theorem fX:jz X (compareOp .LtE) (Ie λ i j => .bl (decide (i<=j))):=Ki λ _ _ _ _ _ _ _ q=>le_int q
theorem lY:jz X (compareOp .Gt) (Ie λ i j => .bl (decide (j<i))):=Ki λ _ _ _ _ _ _ _ q=>gt_int q
theorem Me:jz X (compareOp .GtE) (Ie λ i j => .bl (decide (j<=i))):=Ki λ _ _ _ _ _ _ _ q=>ge_int q
theorem nK:jz X (compareOp .Is) (λ x y H Q=>y = .bT/\Q (.bl (decide (x = .bT))) H):=by
 intro pins s U H x y v u Q I rx ry h
 obtain ⟨rfl,q⟩:=h
 cases ry
 refine is_none_gen (b7 I q ?_)
 cases x<;>first
   | (cases rx;rfl)
   | (obtain ⟨t,rfl⟩:=rx;rfl)
theorem js:jz X (compareOp .IsNot) (λ x y H Q=>y = .bT/\Q (.bl (!decide (x = .bT))) H):=by
 intro pins s U H x y v u Q I rx ry h
 obtain ⟨rfl,q⟩:=h
 cases ry
 refine isnot_none_gen (b7 I q ?_)
 cases x<;>first
   | (cases rx;rfl)
   | (obtain ⟨t,rfl⟩:=rx;rfl)
theorem aL (b:Expr) {op:CmpOp} (h:op ≠ .In:=by decide) (h2:op ≠ .NotIn:=by decide):behindInMarks op b=false:=by
 have e1:(op == CmpOp.In)=false:=by cases op<;>first|rfl|exact absurd rfl h
 have e2:(op == CmpOp.NotIn)=false:=by cases op<;>first|rfl|exact absurd rfl h2
 cases b<;>simp [behindInMarks,e1,e2]
theorem e9 {op:CmpOp} {r:R2} (ho:jz X (compareOp op) r) (ha:PE X a ta) (hb:PE X b tb) (hm:behindInMarks op b=false):PE X (.Compare a [op] [b] pos) (UT r ta tb):=by
 intro pins s U H Q I h
 exact wpAny_Compare1 (N5 ha hb I h λ v u s2 x y H2 I2 rx ry q=>ho pins s2 U H2 x y v u Q I2 rx ry q) hm
inductive afm (Q:Bool->Hp->Prop) (x:V) (H:Hp):Prop
 | mk (k:Bool) (h:x = .bl k) (q:Q k H)
def GO (t:TE):TT:=λ U H Q=>t U H (afm Q)
theorem aJ {op:CmpOp} {r:R2} (ho:jz X (compareOp op) r) (ha:PE X a ta) (hb:PE X b tb) (hm:behindInMarks op b=false):PT X (.Compare a [op] [b] pos) (GO (UT r ta tb)):=by
 intro pins s U H Q I h
 refine wpAny_isTrue_Compare1 (cX (ha pins s U H _ I h) λ v s1 ⟨x,H1,I1,r1,q1⟩=>cX (hb pins s1 U H1 _ I1 q1) λ u s2 ⟨y,H2,I2,r2,q2⟩ =>
   cX (ho pins s2 U H2 x y v u _ I2 r1 r2 q2) λ c s3 ⟨z,H3,I3,r3,k,e,q3⟩=>?_) hm
 subst e
 cases r3
 exact als ⟨H3,I3,q3⟩
def GC (r r':R2) (ta tb tc:TE):TE:=λ U H Q=>ta U H λ x H1=>tb U H1 λ y H2=>r x y H2 λ z H3=>∃ k,z = .bl k /\
 (if k=true then tc U H3 λ w' H4=>r' y w' H4 Q else Q (.bl false) H3)
theorem GM {op Ng:CmpOp} {r r':R2} (ho:jz X (compareOp op) r) (wZ:jz X (compareOp Ng) r') (ha:PE X a ta) (hb:PE X b tb) (hc:PE X c tc) (hm:lastMarks [op,Ng] [b,c]=false:=by with_unfolding_all rfl):PE X (.Compare a [op,Ng] [b,c] pos) (GC r r' ta tb tc):=by
 intro pins s U H Q I h
 refine Compare_chain (cX (ha pins s U H _ I h) λ v s1 ⟨x,H1,I1,r1,q1⟩=>chain_link (cX (hb pins s1 U H1 _ I1 q1) λ u s2 ⟨y,H2,I2,r2,q2⟩ =>
   cX (ho pins s2 U H2 x y v u _ I2 r1 r2 q2) λ d s3 ⟨z,H3,I3,r3,k,e,q3⟩=>?_)) hm
 subst e
 cases r3
 refine als ?_
 cases k with
 | false=>exact ite_ff ⟨.bl false,H3,I3,rfl,q3⟩
 | true=>exact ite_tt (chain_last (cX (hc pins s3 U H3 _ I3 q3) λ w' s4 ⟨z',H4,I4,r4,q4⟩=>wZ pins s4 U H4 y z' u w' Q I4 r2 r4 q4))
theorem hR {op Ng:CmpOp} {r r':R2} (ho:jz X (compareOp op) r) (wZ:jz X (compareOp Ng) r') (ha:PE X a ta) (hb:PE X b tb) (hc:PE X c tc) (hm:lastMarks [op,Ng] [b,c]=false:=by with_unfolding_all rfl):PT X (.Compare a [op,Ng] [b,c] pos) (GO (GC r r' ta tb tc)):=by
 intro pins s U H Q I h
 refine isTrue_chain (cX (ha pins s U H _ I h) λ v s1 ⟨x,H1,I1,r1,q1⟩=>test_link (cX (hb pins s1 U H1 _ I1 q1) λ u s2 ⟨y,H2,I2,r2,q2⟩ =>
   cX (ho pins s2 U H2 x y v u _ I2 r1 r2 q2) λ d s3 ⟨z,H3,I3,r3,k,e,q3⟩=>?_)) hm
 subst e
 cases r3
 refine als ?_
 cases k with
 | false =>
   obtain ⟨k',e',q'⟩:=q3
   cases e'
   exact ite_ff ⟨H3,I3,q'⟩
 | true =>
   refine ite_tt (test_last (cX (hc pins s3 U H3 _ I3 q3) λ w' s4 ⟨z',H4,I4,r4,q4⟩=>cX (wZ pins s4 U H4 y z' u w' _ I4 r2 r4 q4) λ d' s5 ⟨z2,H5,I5,r5,k2,e2,q5⟩=>?_))
   subst e2
   cases r5
   exact als ⟨H5,I5,q5⟩
theorem vM:(sizeLine:Nat)<2 ^ 63:=by rw [ao1];decide
theorem vals1 {x:V} (r:Vals [x] us):∃ u,us=[u]/\RelV x u:=by
 cases r with
 | cons r1 r2=>cases r2;exact ⟨_,rfl,r1⟩
theorem vals2 {x y:V} (r:Vals [x,y] us):∃ u w',us=[u,w']/\RelV x u/\RelV y w':=by
 cases r with
 | cons r1 r2 =>
   cases r2 with
   | cons r3 r4=>cases r4;exact ⟨_,_,rfl,r1,r3⟩
theorem F3:hZ X (.builtin "abs") (λ xs H Q=>∃ i,xs=[.int i]/\Q (.int (if i<0 then -i else i)) H):=by
 intro pins s U H xs us Q I r h
 obtain ⟨i,rfl,q⟩:=h
 obtain ⟨u,rfl,t,rfl⟩:=vals1 r
 exact call_abs_int λ u tk=>⟨.int (if i<0 then -i else i),H,I.tok _,⟨_,rfl⟩,q⟩
theorem vh (hc:X.calm=true):hZ X (.builtin "max") (λ xs H Q=>∃ i j,xs=[.int i,.int j]/\Q (.int (if j > i then j else i)) H):=by
 intro pins s U H xs us Q I r h
 obtain ⟨i,j,rfl,q⟩:=h
 obtain ⟨u,w',rfl,⟨t,rfl⟩,⟨t',rfl⟩⟩:=vals2 r
 refine max_two_ints (I.ok.hd hc) λ h' tk k=>⟨_,H,I.kept k,?_,q⟩
 by_cases hj:j > i
 . rw [abl hj,abl hj];exact ⟨_,rfl⟩
 . rw [aa8 hj,aa8 hj];exact ⟨_,rfl⟩
theorem DE (hc:X.calm=true):hZ X (.builtin "min") (λ xs H Q=>∃ i j,xs=[.int i,.int j]/\Q (.int (if j<i then j else i)) H):=by
 intro pins s U H xs us Q I r h
 obtain ⟨i,j,rfl,q⟩:=h
 obtain ⟨u,w',rfl,⟨t,rfl⟩,⟨t',rfl⟩⟩:=vals2 r
 refine min_two_ints (I.ok.hd hc) λ h' tk k=>⟨_,H,I.kept k,?_,q⟩
 by_cases hj:j<i
 . rw [abl hj,abl hj];exact ⟨_,rfl⟩
 . rw [aa8 hj,aa8 hj];exact ⟨_,rfl⟩
end
structure Be (h:Heap) (x dx C:Addr) (mA:Str->Option Value):Prop where
 obj:h.get? x=some (W.instObj C dx)
 ns:h.Ns1 dx mA
 ne:dx≠x
theorem pJ {h:Heap} {mA:Str->Option Value} (n:h.Ns1 dx mA):∃ od,h.get? dx=some od/\∀ name,W.lookIn name od=some (mA name):=by
 obtain ⟨o,es,ep,ho,hd,hk,_,hm⟩:=n
 refine ⟨o,ho,λ name=>?_⟩
 have e:=hm name
 unfold nsFind findBy at e
 rw [← ap2] at e
 unfold W.lookIn
 rw [hd]
 dsimp only
 split
 . rename_i y q
   rw [q] at e
   exact amX some e
 .
  rename_i q
  rw [q] at e
  have a:es.toList.any (·.refKey)=false:=by
    rw [List.any_eq_false]
    intro y hy
    obtain ⟨z,t,pj⟩:=hk y (Array.mem_toList_iff.mp hy)
    simp [DictEntry.refKey,pj]
  have a':¬ es.toList.any (·.refKey)=true:=by rw [a];exact aaR
  rw [aa8 a']
  exact amX some e
theorem Be.look {h:Heap} {x:Addr} {mA:Str->Option Value} (I:Be h x dx C mA):∃ od,W.InstAt h x (W.instObj C dx) C (some od)/\∀ name,W.lookIn name od=some (mA name) :=
 let ⟨od,ho,hl⟩:=pJ I.ns
 ⟨od,⟨I.obj,rfl,rfl,ho⟩,hl⟩
section
variable {prog:Program} {w:World} {A:Around} {E:Value->Shared->Prop} {s:Shared} {K:W.Frag} {x dx C f:Addr} {mA:Str->Option Value} {name:Str} {v:Value}
theorem get_map {expr:Bool} {Q:Value->Shared->Prop} (X:K.In s.heap) (I:Be s.heap x dx C mA) (hg:W.plainGet K C name=true) (hh:W.hasDictIn K C=true) (ha:W.findIn K (.ref C) name=some none) (hv:mA name=some v) (hv':W.handedIn v=true) (h:Q v { s with toks:=s.toks+1 }) :
   wpAny (model prog w) A (getAttr (.ref x) name expr) Q E s:=by
 obtain ⟨od,J,hl⟩:=I.look
 exact W.get_value X J (W.plainGet_of hg).1 (W.findObj_own hh ha rfl (by rw [hl,hv])) hv' h
theorem GA {pl:Sem Bool} {Q:Value×List Value->Shared->Prop} (X:K.In s.heap) (I:Be s.heap x dx C mA) (hg:W.plainGet K C name=true) (hf:W.findIn K (.ref C) name=some (some (.ref f))) (ht:W.isFn K (.ref f)=true) (hv:mA name=none) (h:Q (.ref f,[.ref x]) s) :
   wpAny (model prog w) A (getMethod (.ref x) name pl) Q E s:=by
 obtain ⟨od,J,hl⟩:=I.look
 exact W.method_fn X J (W.plainGet_of hg).1 (W.plainGet_of hg).2 hf (beq_iff_eq.mp ht) (by show (W.lookIn name od).map (·.isSome)=some false;rw [hl,hv];rfl) h
theorem Ir {ns:List Str} {Q:Unit->Shared->Prop} (X:K.In s.heap) (I:Be s.heap x dx C mA) (hs:W.findIn K (.ref C) "__setattr__" = some (some (.builtin "object.__setattr__"))) (hp:W.plainOver K C=true) (ht:W.takerIn K C name=some none) (hh:W.hasDictIn K C=true) (hw:PySem.Within mA ns) (hsz:ns.length<=sizeLine) (h:∀ h',Be h' x dx C (λ y=>if y=name then some v else mA y)->Heap.SameBut dx s.heap h'->Q () { s with heap:=h',toks:=s.toks+2 }) :
   wpAny (model prog w) A (setAttr (.ref x) name v) Q E s:=by
 obtain ⟨od,J,hl⟩:=I.look
 refine W.set_plain X J hs (W.osa_open (s:={ s with toks:=s.toks+1 }) (r:=none) X J hp ht λ b=>?_)
 obtain ⟨cd,hc,EX⟩:=apY hh
 have hx:s.heap.get? x=some ⟨.ref C,some dx,.plain,#[]⟩:=I.obj
 refine T1 (abF (T1 (T1 (aoV hx (T1 (W.Looks.here (s:={ s with toks:=s.toks+1 }) (ao9 X hc) ?_))))))
 rw [EX]
 refine abF (a:=some dx) (T1 (abF (T1 ?_)))
 refine wpAny_nsSet1 (s:={ s with toks:=s.toks+1 }) I.ns λ h' Dj GF=>?_
 obtain ⟨oD,esD,epD,Rp,VJ,PU⟩:=Dj.count (aoq name v hw)
 refine T1 (apq Rp (by rw [VJ];exact apr (afY PU (by rw [acq];lia))) ?_)
 exact abF (h _ ⟨(GF.2 _ (alt I.ne)).trans I.obj,Dj,I.ne⟩ GF)
theorem HC {R:Result->Shared->Prop} {vs:List Value} {kw:List (Str×Value)} (X:K.In s.heap) (hm:W.makesIn K C=true) (hi:W.findIn K (.ref C) "__init__" = some (some (.ref f))) (hf:W.typeIn K (.ref f)=some (.type "function")) (h:codeAny (model prog w) (A.under (.builtin "type.__call__" ⟨.ref C::vs,kw⟩)) (.call (.ref f) ⟨.ref (s.heap.objs.size+1)::vs,kw⟩) (W.InitBack (s.heap.objs.size+1) R)
     { s with heap:=(s.heap.push W.emptyDict).push (W.instObj C s.heap.objs.size)}) :
   codeAny (model prog w) A (.call (.ref C) ⟨vs,kw⟩) R s:=by
 obtain ⟨hh,g,d,t,os⟩:=s
 exact W.make_core (W.makes_of X hm) (an5 X hi) (λ self=>W.bind_fn X self hf) (.inl rfl) h
end
def bN (f:Str) (v:V):List (Str×V)->List (Str×V)
 | []=>[(f,v)]
 | (g,x)::r=>if g=f then (g,v)::r else (g,x)::bN f v r
theorem p7 (f g:Str) (v:V):∀ fs:List (Str×V),(bN f v fs).lookup g=if g=f then some v else fs.lookup g
 | []=>by
   show List.lookup g [(f,v)]=_
   by_cases h:g=f
   . have hb:(g == f)=true:=beq_iff_eq.mpr h
     simp only [List.lookup,hb,abl h]
   . have hb:(g == f)=false:=beq_eq_false_iff_ne.mpr h
     simp only [List.lookup,hb,aa8 h]
 | (k,x)::r=>by
   have ih:=p7 f g v r
   rw [show bN f v ((k,x)::r)=(if k=f then (k,v)::r else (k,x)::bN f v r) from rfl]
   by_cases hk:k=f
   .
    rw [abl hk]
    by_cases h:g=k
    . have hb:(g == k)=true:=beq_iff_eq.mpr h
      simp only [List.lookup,hb,abl (h.trans hk)]
    . have hb:(g == k)=false:=beq_eq_false_iff_ne.mpr h
      simp only [List.lookup,hb,aa8 (λ e:g=f=>h (e.trans hk.symm))]
   .
    rw [aa8 hk]
    by_cases h:g=k
    . have hb:(g == k)=true:=beq_iff_eq.mpr h
      simp only [List.lookup,hb,aa8 (λ e:g=f=>hk (h.symm.trans e))]
    . have hb:(g == k)=false:=beq_eq_false_iff_ne.mpr h
      simp only [List.lookup,hb]
      exact ih
theorem pB (f:Str) (v:V):∀ fs:List (Str×V),f∈(bN f v fs).map (·.1)/\∀ g,g∈fs.map (·.1)->g∈(bN f v fs).map (·.1)
 | []=>⟨by simp [bN],λ g h=>by simp at h⟩
 | (k,x)::r=>by
   obtain ⟨i1,i2⟩:=pB f v r
   rw [show bN f v ((k,x)::r)=(if k=f then (k,v)::r else (k,x)::bN f v r) from rfl]
   by_cases hk:k=f
   . rw [abl hk]
     subst hk
     exact ⟨by simp,λ g h=>by simpa using h⟩
   .
    rw [aa8 hk]
    refine ⟨?_,λ g h=>?_⟩
    . rw [aeC]
      exact abO _ i1
    . rw [aeC] at h ⊢
      rcases List.mem_cons.mp h with e|e
      . exact List.mem_cons.mpr (.inl e)
      . exact abO _ (i2 g e)
theorem qc (f:Str) (v:V):∀ fs:List (Str×V),(bN f v fs).length<=fs.length+1
 | []=>by simp [bN]
 | (k,x)::r=>by
   have ih:=qc f v r
   rw [show bN f v ((k,x)::r)=(if k=f then (k,v)::r else (k,x)::bN f v r) from rfl]
   by_cases hk:k=f
   . rw [abl hk,acq,acq];lia
   . rw [aa8 hk,acq,acq];lia
theorem jO.some_of {o:Option Value} (r:jO (some v) o):∃ u,o=some u/\RelV v u:=by
 cases o with
 | none=>exact (show False from r).elim
 | some u=>exact ⟨u,rfl,r⟩
theorem jO.none_of {o:Option Value} (r:jO none o):o=none:=by
 cases o with
 | none=>rfl
 | some u=>exact (show False from r).elim
theorem uB (r:RelV v u):W.handedIn u=true:=by
 cases v with
 | bT=>cases (show u=Value.none from r);rfl
 | bl b=>cases (show u=Value.bool b from r);rfl
 | int i=>obtain ⟨t,e⟩:=(show ∃ t,u=Value.int i t from r);cases e;rfl
 | str x=>obtain ⟨t,e⟩:=(show ∃ t,u=Value.str x t from r);cases e;rfl
 | Eu b=>obtain ⟨t,e⟩:=(show ∃ t,u=Value.bytes b t from r);cases e;rfl
 | Ly b=>obtain ⟨t,e⟩:=(show ∃ t,u=Value.float b t from r);cases e;rfl
 | ref a=>cases (show u=Value.ref a from r);rfl
 | ty n=>cases (show u=Value.type n from r);rfl
section
variable {P:Program} {w:World} {H H':Hp} {h h':Heap} {a C dx:Addr} {fs fs':List (Str×V)}
theorem qS (cq:j2 P w H h) (e:H a=some (.ins C dx fs)):∃ mA,Be h a dx C mA/\(∀ f,jO (fs.lookup f) (mA f))/\PySem.Within mA (fs.map (·.1))/\fs.length<=1000/\H dx=some (.own a):=by
 obtain ⟨d,z,ne,ob,mA,n,r,q⟩:=(show c7 P w H h a (.ins C dx fs) from cq a _ e)
 exact ⟨mA,⟨ob,n,ne⟩,r,q,z,d⟩
end
structure xr (K:W.Frag) (C:Addr):Prop where
 pg:W.plainGet K C Str.empty=true
 hd:W.hasDictIn K C=true
 po:W.plainOver K C=true
 sa:W.findIn K (.ref C) "__setattr__" = some (some (.builtin "object.__setattr__"))
theorem xr.get {K:W.Frag} (c:xr K C) (f:Str):W.plainGet K C f=true:=c.pg
def eB (K:W.Frag) (C:Addr) (f:Str):Prop:=W.findIn K (.ref C) f=some none
theorem eB.Qg {K:W.Frag} {f:Str} (n:eB K C f):W.takerIn K C f=some none:=by
 unfold W.takerIn
 rw [show W.findIn K (.ref C) f=some none from n]
 rfl
structure Meth (K:W.Frag) (C:Addr) (m:Str) (f:Addr):Prop where
 at_:W.findIn K (.ref C) m=some (some (.ref f))
 fn:W.isFn K (.ref f)=true
 kp:W.keepIn K (.ref f)=true
section
variable {X:Cx} {pins:List (Addr×Obj)} {U:St} {H:Hp} {s:Shared} {a C dx:Addr} {fs:List (Str×V)} {f:Str} {v:V} {A:Around} {E:Value->Shared->Prop}
theorem sP {b:Bool} {Q:Value->Shared->Prop} (I:Inv X pins U H s) (e:H a=some (.ins C dx fs)) (c:xr X.K C) (n:eB X.K C f) (l:fs.lookup f=some v) (h:∀ u s',Inv X pins U H s'->RelV v u->Q u s'):wpAny (model X.prog X.w) A (getAttr (.ref a) f b) Q E s:=by
 obtain ⟨mA,O,r,_,_,_⟩:=qS I.cq e
 obtain ⟨u,hu,ru⟩:=jO.some_of (v:=v) (o:=mA f) (by rw [← l];exact r f)
 exact get_map I.lJ O (c.get f) c.hd n hu (uB ru) (h u _ (I.tok _) ru)
theorem nB {m:Str} {g:Addr} {pl:Sem Bool} {Q:Value×List Value->Shared->Prop} (I:Inv X pins U H s) (e:H a=some (.ins C dx fs)) (c:xr X.K C) (k:Meth X.K C m g) (l:fs.lookup m=none) (h:Q (.ref g,[.ref a]) s):wpAny (model X.prog X.w) A (getMethod (.ref a) m pl) Q E s:=by
 obtain ⟨mA,O,r,_,_,_⟩:=qS I.cq e
 have hn:mA m=none:=jO.none_of (by rw [← l];exact r m)
 exact GA I.lJ O (c.get m) k.at_ k.fn hn h
theorem sU {y:V} {Q:Unit->Shared->Prop} (I:Inv X pins U H s) (e:H a=some (.ins C dx fs)) (c:xr X.K C) (n:eB X.K C f) (hl:fs.length<1000) (ry:RelV y u) (h:∀ s',Inv X pins U (upd H a (.ins C dx (bN f y fs))) s'->Q () s'):wpAny (model X.prog X.w) A (setAttr (.ref a) f u) Q E s:=by
 obtain ⟨mA,O,r,wi,_,ho⟩:=qS I.cq e
 have hz:(fs.map (·.1)).length<=sizeLine:=by rw [At,ao1];lia
 refine Ir I.lJ O c.sa c.po n.Qg c.hd wi hz λ h' O' sb=>h _ ?_
 have hd:∃ o,h'.get? dx=some o:=let ⟨o,_,_,e',_⟩:=O'.ns;⟨o,e'⟩
 refine I.write (x:=a) (e:=dx) (by rw [e];exact True.intro) (.inr ho) (λ b q hb z=>(sb.2 b hb).trans z) hd ?_
 refine ⟨by rw [aD O.ne];exact ho,?_,O.ne,O'.obj,_,O'.ns,λ g=>?_,λ g hg=>?_⟩
 . have:=qc f y fs;lia
 .
  show jO ((bN f y fs).lookup g) (if g=f then some u else mA g)
  rw [p7]
  by_cases q:g=f
  . rw [abl q,abl q];exact ry
  . rw [aa8 q,aa8 q];exact r g
 .
  by_cases q:g=f
  . rw [q];exact (pB f y fs).1
  . refine (pB f y fs).2 g (wi g λ z=>hg ?_)
    show (if g=f then some u else mA g)=none
    rw [aa8 q];exact z
theorem Inv.made (I:Inv X pins U H s):Inv X pins U (upd (upd H s.heap.objs.size (.own (s.heap.objs.size+1))) (s.heap.objs.size+1) (.ins C s.heap.objs.size []))
   { s with heap:=(s.heap.push W.emptyDict).push (W.instObj C s.heap.objs.size)}:=by
 have e1:(s.heap.push W.emptyDict).get? s.heap.objs.size=some W.emptyDict:=adt s.heap rfl
 have e2:((s.heap.push W.emptyDict).push (W.instObj C s.heap.objs.size)).get? (s.heap.objs.size+1)=some (W.instObj C s.heap.objs.size):=by
   have:=adt (s.heap.push W.emptyDict) (o:=W.instObj C s.heap.objs.size) rfl
   rwa [ao0] at this
 have e3:(s.heap.push W.emptyDict).Ns s.heap.objs.size (λ _=>none):=⟨W.emptyDict,#[],_,e1,rfl,(λ e he=>absurd he (by simp)),λ _=>rfl⟩
 have I1:=I.laid (a:=s.heap.objs.size) (o:=.own (s.heap.objs.size+1)) (h':=s.heap.push W.emptyDict) (t':=s.toks) (λ b u q=>YM _ q) (aar _) ⟨_,e1⟩
 refine I1.laid (a:=s.heap.objs.size+1) (o:=.ins C s.heap.objs.size []) (t':=s.toks) (λ b u q=>YM _ q) (Nat.le_of_eq (ao0 _ _)) ?_
 have ne:s.heap.objs.size≠s.heap.objs.size+1:=acN (ao3 _)
 refine ⟨by rw [aD ne,ah],afh _,ne,e2,λ _=>none,(Heap.Ns1.of_empty e3).at λ o q=>YM _ q,λ _=>True.intro,λ y hy=>absurd rfl hy⟩
theorem Cy {prog:Program} {w:World} {env:Env} {e:Expr} {f:Str} {pos:Pos} {s:Shared} {Q:Value->Shared->Prop} (hb:attributeBase e f env (eval e env)=eval e env) (h:wpAny (model prog w) A (eval e env) (λ o s₁=>wpAny (model prog w) A (getAttr o f true) Q E s₁) E s):wpAny (model prog w) A (eval (.Attribute e f pos) env) Q E s :=
 Attribute_any_ h (by rw [arm_eval_Attribute,hb])
end
inductive U8 (K:W.Frag) (f:Str) (Q:VK) (x:V) (H1:Hp):Prop
 | mk (a C dx:Addr) (fs:List (Str×V)) (v:V) (h1:x = .ref a) (h2:H1 a=some (.ins C dx fs)) (h3:xr K C) (h4:eB K C f) (h5:fs.lookup f=some v) (q:Q v H1)
def alo (K:W.Frag) (ta:TE) (f:Str):TE:=λ U H Q=>ta U H (U8 K f Q)
def afJ (K:W.Frag) (ta tv:TE) (f:Str):TS:=λ D U H=>tv U H λ y H1=>ta U H1 λ x H2=>∃ a C dx fs,x = .ref a/\H2 a=some (.ins C dx fs)/\xr K C/\eB K C f/\fs.length<1000 /\
 D.nx U (upd H2 a (.ins C dx (bN f y fs)))
def XM (X:Cx) (op:Operator) (rd:V->V->Hp->VK->Prop):Prop :=
 ∀ (pins:List (Addr×Obj)) (s:Shared) (U:St) (H:Hp) (x y:V) (u v:Value) (Q:VK),Inv X pins U H s->RelV x u->RelV y v->rd x y H Q->wpAny (model X.prog X.w) X.A (inplaceOp op u v) (EP X pins U Q) X.xe s
def KI (K:W.Frag) (ta tv:TE) (rd:V->V->Hp->VK->Prop) (f:Str):TS:=λ D U H=>ta U H λ x H1=>∃ a C dx fs v,x = .ref a/\H1 a=some (.ins C dx fs)/\xr K C/\eB K C f/\fs.lookup f=some v /\
 tv U H1 λ y H2=>rd v y H2 λ z H3=>∃ uZ fs',H3 a=some (.ins C uZ fs')/\fs'.length<1000/\D.nx U (upd H3 a (.ins C uZ (bN f z fs')))
section
variable {X:Cx} {o e value:Expr} {f:Str} {pos pos' qy:Pos} {ta tv:TE}
theorem bC (he:PE X e ta) (hb:attributeBase e f X.env (eval e X.env)=eval e X.env):PE X (.Attribute e f pos) (alo X.K ta f):=by
 intro pins s U H Q I h
 refine Cy hb (cX (he pins s U H _ I h) λ u s1 ⟨x,H1,I1,rx,a,C,dx,fs,v,ex,ea,c,n,l,q⟩=>?_)
 subst ex
 obtain rfl:u=Value.ref a:=rx
 exact sP I1 ea c n l λ u' s2 I2 ru=>⟨v,H1,I2,ru,q⟩
theorem eR (ha:PE X o ta) (hv:PE X value tv) (hs:swapsWith value (some (.Attribute o f pos')) pos.line X.env=pure false):PS X (.Assign [.Attribute o f pos'] value pos) (afJ X.K ta tv f):=by
 intro pins s U H D I h
 refine aod (cX (hv pins s U H _ I h) λ u s1 ⟨y,H1,I1,ry,q⟩=>cX (ha pins s1 U H1 _ I1 q) λ ov s2 ⟨x,H2,I2,rx,a,C,dx,fs,ex,ea,c,n,l,q2⟩=>?_) hs
 subst ex
 obtain rfl:ov=Value.ref a:=rx
 exact sU I2 ea c n l ry λ s3 I3=>⟨U,_,I3,q2⟩
theorem DA {op:Operator} {rd:V->V->Hp->VK->Prop} (ha:PE X o ta) (hv:PE X value tv) (hop:XM X op rd):PS X (.AugAssign (.Attribute o f qy) op value pos) (KI X.K ta tv rd f):=by
 intro pins s U H D I h
 refine wpAny_AugAssign_AttributeAny (cX (ha pins s U H _ I h) λ ov s1 ⟨x,H1,I1,rx,a,C,dx,fs,v,ex,ea,c,n,l,q⟩=>?_)
 subst ex
 obtain rfl:ov=Value.ref a:=rx
 refine sP I1 ea c n l λ u s2 I2 ru=>cX (hv pins s2 U H1 _ I2 q) λ w3 s3 ⟨y,H2,I3,ry,q3⟩=>cX (hop pins s3 U H2 v y u w3 _ I3 ru ry q3) λ w4 s4 ⟨z,H3,I4,rz,uZ,fs',ea',l',q4⟩=>?_
 exact sU I4 ea' c n l' rz λ s5 I5=>⟨U,_,I5,q4⟩
inductive Zi  (x:V) (y:V) (H:Hp) (Q:VK):Prop
 | mk (i j:_) (_:x = .int i) (_:y = .int j) (_:Q (.int (i+j)) H)
theorem Mx:XM X .Add Zi:=by
 rintro pins s U H x y u v Q I rx ry ⟨i,j,rfl,rfl,q⟩
 obtain ⟨t,rfl⟩:=(show ∃ t,u=Value.int i t from rx)
 obtain ⟨t',rfl⟩:=(show ∃ t',v=Value.int j t' from ry)
 exact PyProof.Rows.iadd_int ⟨.int (i+j),H,I.tok _,⟨_,rfl⟩,q⟩
end
section
variable {X:Cx} {pins:List (Addr×Obj)} {U:St} {H:Hp} {s:Shared} {A:Around} {E:Value->Shared->Prop} {Q:Value->Shared->Prop} {c:Value} {b:Bool}
inductive pT (K:W.Frag) (H:Hp):V->Value->Prop where
 | bT:pT K H .bT (.type "NoneType")
 | bl (x:Bool):pT K H (.bl x) (.type "bool")
 | int (i:Int):pT K H (.int i) (.type "int")
 | str (x:Str):pT K H (.str x) (.type "str")
 | Ly (x:UInt64):pT K H (.Ly x) (.type "float")
 | lst {a:Addr} {xs:List V} (e:H a=some (.lst xs)):pT K H (.ref a) (.type "list")
 | zF {a:Addr} {o:Obj} {xs:List V} (e:H a=some (.zF o (.lst xs))):pT K H (.ref a) (.type "list")
 | tup {a:Addr} {xs:List V} (e:H a=some (.tup xs)):pT K H (.ref a) (.type "tuple")
 | dK {a:Addr} {aN:List (Key×V)} (e:H a=some (.dK aN)):pT K H (.ref a) (.type "dict")
 | dT {a:Addr} {aN:List (List Key×V)} (e:H a=some (.dT aN)):pT K H (.ref a) (.type "dict")
 | ins {a C dx:Addr} {fs:List (Str×V)} (e:H a=some (.ins C dx fs)) (cl:xr K C) (ha:W.findIn K (.ref C) "__class__" = some (some (.builtin "object.__class__")))
     (hn:W.specialIn K (.builtin "object.__class__") "__get__" = some (some (.builtin "getset_descriptor.__get__"))) (htk:W.takesIn K (.builtin "object.__class__")=some true)
     (hm:W.mroIn K C (.type "object")=some true):pT K H (.ref a) (.ref C)
theorem DV {x:V} {t:Value} (I:Inv X pins U H s) (rx:RelV x u) (ty:pT X.K H x t) (e:W.kitOne X.K t c=some b) (h:∀ tk,Q (.bool b) { s with toks:=tk }) :
   wpAny (model X.prog X.w) A (call (.builtin "isinstance") [u,c]) Q E s:=by
 cases ty with
 | bT=>cases (show u=Value.none from rx);exact anT W.kitx_none I.lJ True.intro e (λ z=>nomatch z) h
 | bl y=>cases (show u=Value.bool y from rx);exact anT W.kitx_bool I.lJ True.intro e (λ z=>nomatch z) h
 | int i=>obtain ⟨t,q⟩:=(show ∃ t,u=Value.int i t from rx);cases q;exact anT W.kitx_int I.lJ True.intro e (λ z=>nomatch z) h
 | str y=>obtain ⟨t,q⟩:=(show ∃ t,u=Value.str y t from rx);cases q;exact anT W.kitx_str I.lJ True.intro e (λ z=>nomatch z) h
 | Ly y=>obtain ⟨t,q⟩:=(show ∃ t,u=Value.float y t from rx);cases q;exact anT W.kitx_float I.lJ True.intro e (λ z=>nomatch z) h
 | @lst a xs ea =>
   cases (show u=Value.ref a from rx)
   obtain ⟨_,_,n,_,h1⟩:=(show c7 X.prog X.w H s.heap a (.lst xs) from I.cq a _ ea)
   exact anT W.kitx_list I.lJ ⟨_,h1,rfl⟩ e (λ z=>nomatch z) h
 | @zF a ob xs ea =>
   cases (show u=Value.ref a from rx)
   obtain ⟨_,_,_,n,_,h1⟩:=(show c7 X.prog X.w H s.heap a (.zF ob (.lst xs)) from I.cq a _ ea)
   exact anT W.kitx_list I.lJ ⟨_,h1,rfl⟩ e (λ z=>nomatch z) h
 | @tup a xs ea =>
   cases (show u=Value.ref a from rx)
   obtain ⟨_,_,_,p⟩:=(show c7 X.prog X.w H s.heap a (.tup xs) from I.cq a _ ea)
   obtain ⟨o,h1,h2,_⟩:=p
   exact anT W.kitx_tuple I.lJ ⟨o,h1,h2⟩ e (λ z=>nomatch z) h
 | @dK a aN ea =>
   cases (show u=Value.ref a from rx)
   obtain ⟨_,_,vs,_,p⟩:=(show c7 X.prog X.w H s.heap a (.dK aN) from I.cq a _ ea)
   obtain ⟨o,es,ep,h1,h2,_⟩:=p
   exact anT W.kitx_dict I.lJ ⟨o,h1,h2.1⟩ e (λ z=>nomatch z) h
 | @dT a aN ea =>
   cases (show u=Value.ref a from rx)
   obtain ⟨_,_,xs,_,o,es,ep,h1,h2,_⟩:=(show c7 X.prog X.w H s.heap a (.dT aN) from I.cq a _ ea)
   exact anT W.kitx_dict I.lJ ⟨o,h1,h2.1⟩ e (λ z=>nomatch z) h
 | @ins a C dx fs ea cl ha hn htk hm =>
   cases (show u=Value.ref a from rx)
   obtain ⟨mA,O,_⟩:=qS I.cq ea
   obtain ⟨od,J,_⟩:=O.look
   exact anT (W.kitx_own (cl.get _) cl.hd ha hn htk hm) I.lJ J e (λ z=>nomatch z) h
end
structure cR (k:Nat) (A:Around):Prop where
 hd:A.handled=none
 dp:A.depth+3 * k+5<recursionLimit
 un:A.units+16 * k+200<cLine
theorem cR.mono {j k:Nat} {A:Around} (r:cR k A) (h:j<=k):cR j A:=⟨r.hd,by have:=r.dp;lia,by have:=r.un;lia⟩
theorem cR.deeper {k:Nat} {A:Around} (r:cR (k+1) A) (env:Env):cR k (A.deeper env) :=
 ⟨r.hd,by have:=r.dp;show A.depth+1+3 * k+5<_;lia,by have:=r.un;show A.units+3+16 * k+200<_;lia⟩
theorem AU {A:Around} {kw:List (Str×Value)}:(A.under (.builtin "type.__call__" ⟨.ref C::us,kw⟩)).depth=A.depth+1:=by
 first|rfl|simp [Around.under,Code.weight,Code.isCreation,Code.isGuard,Code.isCaller,Code.frames,Code.isFrame,guardIds]
theorem AR {A:Around} {kw:List (Str×Value)}:(A.under (.builtin "type.__call__" ⟨.ref C::us,kw⟩)).units=A.units+1:=by
 first|rfl|simp [Around.under,Code.cUnits,Code.frames,Code.isFrame]
theorem cR.make {k:Nat} {A:Around} (r:cR (k+1) A) (C:Addr) (us:List Value) (kw:List (Str×Value)):cR k (A.under (.builtin "type.__call__" ⟨.ref C::us,kw⟩)) :=
 ⟨r.hd,by have:=r.dp;rw [AU];lia,by have:=r.un;rw [AR];lia⟩
theorem cR.depth {k:Nat} {A:Around} (r:cR k A):A.depth<recursionLimit:=by have:=r.dp;lia
theorem cR.units {k:Nat} {A:Around} (r:cR k A):A.units+64<cLine:=by have:=r.un;lia
def vD:TA:=λ _ H Q=>Q [] H
def F2 (ta:TE) (tr:TA):TA:=λ U H Q=>ta U H λ x H1=>tr U H1 λ xs H2=>Q (x::xs) H2
section
variable {X:Cx} {e:Expr} {es:List Expr} {te:TE} {t:TA} {pos:Pos}
theorem ac:PA X [] vD:=λ _ _ _ _ H Q I h=>Calls.spliced_nil ⟨[],H,I,.nil,h⟩
theorem aa (ha:PE X e te) (hr:PA X es t) (hs:starEach (e::es) X.env=(false,eval e X.env)::starEach es X.env:=by rfl):PA X (e::es) (F2 te t):=by
 intro pos pins s U H Q I h
 rw [hs]
 show wpAny _ _ (spliced ((false,eval e X.env)::backTo pos (starEach es X.env))) _ _ s
 refine apg (cX (ha pins s U H _ I h) λ u s1 ⟨x,H1,I1,r1,q1⟩=>?_)
 exact cX (hr pos pins s1 U H1 _ I1 q1) λ us s2 ⟨xs,H2,I2,r2,q2⟩=>⟨x::xs,H2,I2,.cons r1 r2,q2⟩
def Wi (t:TA):TE:=λ U H Q=>t U H λ xs H1=>xs.length<=sizeLine/\∀ p,H1 p=none->Q (.ref p) (upd H1 p (.tup xs))
def ZP (t:TA):TE:=λ U H Q=>t U H λ xs H1=>xs.length<=sizeLine/\∀ p,H1 p=none->Q (.ref p) (upd H1 p (.lst xs))
theorem aV {x1} (h:PA X es t):PE X (.Tuple es x1 pos) (Wi t):=by
 intro pins s U H Q I hq
 refine wpAny_Tuple_spliced (cX (h pos pins s U H _ I hq) λ us s1 ⟨xs,H1,I1,r,z,q⟩=>⟨by rw [← r.length];exact z,?_⟩)
 have hf:H1 s1.heap.objs.size=none:=I1.cq.fresh (aar _)
 refine ⟨.ref s1.heap.objs.size,upd H1 s1.heap.objs.size (.tup xs),I1.laid (t':=s1.toks) (λ b u e=>YM _ e) (aar _) ?_,rfl,q _ hf⟩
 exact ⟨z,us,r,⟨_,adt _ rfl,rfl,_,rfl⟩⟩
theorem dB (h:PA X es t):PE X (.List es pos) (ZP t):=by
 intro pins s U H Q I hq
 refine wpAny_List_spliced (cX (h pos pins s U H _ I hq) λ us s1 ⟨xs,H1,I1,r,z,q⟩=>⟨by rw [← r.length];exact z,?_⟩)
 have hf:H1 s1.heap.objs.size=none:=I1.cq.fresh (aar _)
 refine ⟨.ref s1.heap.objs.size,upd H1 s1.heap.objs.size (.lst xs),I1.laid (t':=s1.toks) (λ b u e=>YM _ e) (aar _) ?_,rfl,q _ hf⟩
 exact ⟨z,us,0,r,adt _ rfl⟩
end
abbrev Sp:=List V->Hp->VK->XK->Prop
abbrev Go:=List Env->Hp->Shared->XK->Value->Shared->Prop
structure Bp (P:Program) (w:World) (K:W.Frag) (mg:Str->Option Value) (base:Heap) (A:Around) (outer:List Env) (s:Shared) (H:Hp):Prop where
 frames:A.frames=some outer
 mod:Mod K mg base
 bs:∀ b o,base.get? b=some o->s.heap.get? b=some o/\H b=none
 Jg:base.objs.size<=s.heap.objs.size
 mP:s.heap.FunFrames base outer
 HR:∀ b∈ib outer,H b=none
 cq:j2 P w H s.heap
 bare:AllBare s.gens
def CE (outer:List Env) (P:Program) (w:World) (H:Hp) (s:Shared) (Q:VK) (u:Value) (s':Shared):Prop :=
 ∃ v H',s'.os=s.os/\AllBare s'.gens/\Un (ib outer) [] H H' s.heap s'.heap/\j2 P w H' s'.heap/\RelV v u/\Q v H'
def CR (CX:Go) (outer:List Env) (P:Program) (w:World) (H:Hp) (s:Shared) (Q:VK) (E:XK) (r:Result) (s':Shared):Prop :=
 match r with
 | .ok (.ret u)=>CE outer P w H s Q u s'
 | .ok _=>False
 | .error e=>CX outer H s E e s'
structure ja (P:Program) (w:World) (K:W.Frag) (mg:Str->Option Value) (base:Heap) (CX:Go) (k:Nat) (f:Addr) (fd:FuncData) (ps:List Str) (sp:Sp):Prop where
 len:∀ vs H Q E,sp vs H Q E->vs.length=ps.length
 run:∀ (A:Around) (outer:List Env) (s:Shared) (H:Hp) (args:Args) (us:List Value) (vs:List V) (Q:VK) (E:XK),cR k A->Bp P w K mg base A outer s H->BindsTo s fd args (ps.zip us)->Vals vs us->sp vs H Q E ->
   codeAny (model P w) A (.call (.ref f) args) (CR CX outer P w H s Q E) s
theorem Bp.make {P:Program} {w:World} {K:W.Frag} {mg:Str->Option Value} {base:Heap} {A:Around} {outer:List Env} {s:Shared} (e:Bp P w K mg base A outer s H) (C:Addr) (us:List Value) (kw:List (Str×Value)) :
   Bp P w K mg base (A.under (.builtin "type.__call__" ⟨.ref C::us,kw⟩)) outer s H:=⟨by first|exact e.frames|(simpa [Around.under,Code.envs,Code.isFrame,pushEnvs] using e.frames),e.mod,e.bs,e.Jg,e.mP,e.HR,e.cq,e.bare⟩
section
variable {X:Cx} {pins:List (Addr×Obj)} {U:St} {H:Hp} {s s':Shared}
theorem Inv.Km (I:Inv X pins U H s):Bp X.prog X.w X.K X.mg X.base X.A X.stack s H :=
 ⟨I.ok.frames,I.ok.mod,I.bs,afY I.ok.Jg I.sz,I.stack,I.ol,I.cq,I.bare⟩
theorem Inv.after (I:Inv X pins U H s) (h:CE X.stack X.prog X.w H s Q u s'):EP X pins U Q u s':=by
 obtain ⟨v,H',os,bare,un,cq,r,q⟩:=h
 obtain ⟨hh,g,d,t,os'⟩:=s'
 obtain rfl:os'=s.os:=os
 exact ⟨v,H',I.call (h':=hh) (g':=g) (d':=d) (t':=t) (ch:=[]) un cq bare (λ b z=>absurd z (by simp)),r,q⟩
end
def CP (sp:Sp) (gd:List V) (E:XK) (t:TA):TE:=λ U H Q=>t U H λ vs H1=>sp (vs++gd) H1 Q E
inductive NV (C:Addr) (m:Str) (sp:Sp) (gd:List V) (E:XK) (t:TA) (U:St) (Q:VK) (x:V) (H1:Hp):Prop
 | mk (a dx:Addr) (fs:List (Str×V)) (h1:x = .ref a) (h2:H1 a=some (.ins C dx fs)) (h3:fs.lookup m=none) (q:t U H1 λ vs H2=>sp (x::(vs++gd)) H2 Q E)
def sO (C:Addr) (m:Str) (sp:Sp) (gd:List V) (E:XK) (ta:TE) (t:TA):TE:=λ U H Q=>ta U H (NV C m sp gd E t U Q)
def HG (C:Addr) (sp:Sp) (gd:List V) (E:XK) (t:TA):TE:=λ U H Q=>t U H λ vs H1=>∀ x dx,H1 x=none->H1 dx=none->dx≠x ->
 sp (.ref x::(vs++gd)) (upd (upd H1 dx (.own x)) x (.ins C dx [])) (λ v H2=>v = .bT/\Q (.ref x) H2) E
def Binds (K:W.Frag) (fd:FuncData) (ps:List Str) (ds:List Value):Prop :=
 ∀ (s:Shared) (us:List Value),K.In s.heap->(us++ds).length=ps.length->BindsTo s fd ⟨us,[]⟩ (ps.zip (us++ds))
theorem Binds.all {K:W.Frag} {fd:FuncData} {ps:List Str} (h:∀ us:List Value,us.length=ps.length->bindArgs fd ⟨us,[]⟩=pure (ps.zip us)):Binds K fd ps []:=λ s us _ hl=>by
 rw [aji] at hl ⊢
 exact .of_eq (h us hl)
def Passes (CX:Go) (X:Cx) (E:XK):Prop:=∀ (pins:List (Addr×Obj)) (U:St) (H:Hp) (s:Shared) (e:Value) (s':Shared),Inv X pins U H s->CX X.stack H s E e s'->X.xe e s'
section
variable {X:Cx} {CX:Go} {k:Nat} {f C:Addr} {fd:FuncData} {ps:List Str} {sp:Sp} {gd:List V} {ds:List Value} {E:XK} {x m:Str} {p pos apos:Pos} {e o:Expr} {es:List Expr} {ta:TE} {t:TA}
theorem BQ {s:Shared} {vs:List V} (F:ja X.prog X.w X.K X.mg X.base CX k f fd ps sp) (hr:cR k X.A) (hb:Binds X.K fd ps ds) (hd:Vals gd ds) (hx:Passes CX X E) (I:Inv X pins U H s) (r:Vals vs us) (h:sp (vs++gd) H Q E):wpAny (model X.prog X.w) X.A (call (.ref f) us) (EP X pins U Q) X.xe s:=by
 have r2:Vals (vs++gd) (us++ds):=r.append hd
 have hl:(us++ds).length=ps.length:=by rw [← r2.length];exact F.len _ _ _ _ h
 refine aoo (aow (F.run X.A X.stack s H ⟨us,[]⟩ (us++ds) (vs++gd) Q E hr I.Km (hb s us I.lJ hl) r2 h) λ r s' hq=>?_)
 cases r with
 | error e=>exact hx pins U H s e s' I hq
 | ok fl =>
   cases fl with
   | ret u=>exact I.after hq
   | next=>exact False.elim hq
   | brk=>exact False.elim hq
   | cont=>exact False.elim hq
theorem Cd (F:ja X.prog X.w X.K X.mg X.base CX k f fd ps sp) (hr:cR k X.A) (hg:Gl X x) (hm:X.mg x=some (.ref f)) (hk:W.keepIn X.K (.ref f)=true) (hb:Binds X.K fd ps ds) (hd:Vals gd ds) (hx:Passes CX X E) (ha:PA X (e::es) t) (vG:(x == ("__debug__" : Str))=false:=by decide) (he:starEach (e::es) X.env=(false,eval e X.env)::starEach es X.env:=by rfl) (lA:(backTo pos (starEach es X.env)).any (·.1)=false:=by rfl) :
   PE X (.Call (.Name x p) (e::es) [] pos) (CP sp gd E t):=by
 intro pins s U H Q I h
 refine aov (mn I hg hm ?_ vG)
 refine apo (h₀:=X.base) I.ok.mod.Il hk (cX (ha pos pins s U H _ I h) λ us s1 ⟨vs,H1,I1,r,q⟩=>⟨I1.lJ,?_⟩) he lA
 exact BQ F hr hb hd hx I1 r q
theorem C7 {pl:Sem Bool} (he:PE X o ta) (c:xr X.K C) (hm:Meth X.K C m f) (F:ja X.prog X.w X.K X.mg X.base CX k f fd ps sp) (hr:cR k X.A) (hb:Binds X.K fd ps ds) (hd:Vals gd ds) (hx:Passes CX X E) (ha:PA X (e::es) t) (gE:starEach (e::es) X.env=(false,eval e X.env)::starEach es X.env:=by rfl) (lA:(backTo pos (starEach es X.env)).any (·.1)=false:=by rfl) (ht:eval (.Call (.Attribute o m apos) (e::es) [] pos) X.env=(do
     let ov ← eval o X.env
     standAt apos.atName
     let (f,first) ← holding [ov] (getMethod ov m pl)
     callWith pos f first (backTo pos (starEach (e::es) X.env)) (backToKw pos (keywordEach [] X.env))):=by rfl) :
   PE X (.Call (.Attribute o m apos) (e::es) [] pos) (sO C m sp gd E ta t):=by
 intro pins s U H Q I h
 refine apG (pl:=pl) (cX (he pins s U H _ I h) λ u s1 ⟨x,H1,I1,rx,a,dx,fs,ex,ea,l,q⟩=>?_) ht
 subst ex
 obtain rfl:u=Value.ref a:=rx
 refine nB I1 ea c hm l ?_
 refine apo (first:=[.ref a]) (h₀:=X.base) I.ok.mod.Il hm.kp (cX (ha pos pins s1 U H1 _ I1 q) λ us s2 ⟨vs,H2,I2,r,q2⟩=>⟨I2.lJ,?_⟩) gE lA
 exact BQ (us:=.ref a::us) (vs:=.ref a::vs) F hr hb hd hx I2 (.cons rfl r) q2
theorem HA {pl:Sem Bool} (he:PE X o ta) (c:xr X.K C) (hm:Meth X.K C m f) (F:ja X.prog X.w X.K X.mg X.base CX k f fd ps sp) (hr:cR k X.A) (hb:Binds X.K fd ps ds) (hd:Vals gd ds) (hx:Passes CX X E) (ht:eval (.Call (.Attribute o m apos) [] [] pos) X.env=(do
     let ov ← eval o X.env
     standAt apos.atName
     let (f,first) ← holding [ov] (getMethod ov m pl)
     callWith pos f first (backTo pos (starEach [] X.env)) (backToKw pos (keywordEach [] X.env))):=by rfl) :
   PE X (.Call (.Attribute o m apos) [] [] pos) (sO C m sp gd E ta vD):=by
 intro pins s U H Q I h
 refine apG (pl:=pl) (cX (he pins s U H _ I h) λ u s1 ⟨x,H1,I1,rx,a,dx,fs,ex,ea,l,q⟩=>?_) ht
 subst ex
 obtain rfl:u=Value.ref a:=rx
 refine nB I1 ea c hm l ?_
 exact W.callWith_K0 (first:=[.ref a]) I1.lJ hm.kp (BQ (us:=[.ref a]) (vs:=[.ref a]) F hr hb hd hx I1 (.cons rfl .nil) q)
structure Mk (K:W.Frag) (C f:Addr):Prop where
 makes:W.makesIn K C=true
 init:W.findIn K (.ref C) "__init__" = some (some (.ref f))
 fn:W.isFn K (.ref f)=true
 kp:W.keepIn K (.ref C)=true
theorem GG {s:Shared} {vs:List V} (M:Mk X.K C f) (F:ja X.prog X.w X.K X.mg X.base CX k f fd ps sp) (hr:cR (k+1) X.A) (hb:Binds X.K fd ps ds) (hd:Vals gd ds) (hx:Passes CX X E) (I:Inv X pins U H s) (r:Vals vs us) (h:∀ x dx,H x=none->H dx=none->dx≠x->sp (.ref x::(vs++gd)) (upd (upd H dx (.own x)) x (.ins C dx [])) (λ v H2=>v = .bT/\Q (.ref x) H2) E) :
   wpAny (model X.prog X.w) X.A (call (.ref C) us) (EP X pins U Q) X.xe s:=by
 have hq:=h (s.heap.objs.size+1) s.heap.objs.size (I.cq.fresh (anZ _)) (I.cq.fresh (aar _)) (acN (ao3 _))
 have I2:=Inv.made (C:=C) I
 have r2:Vals (V.ref (s.heap.objs.size+1)::(vs++gd)) (Value.ref (s.heap.objs.size+1)::(us++ds)):=.cons rfl (r.append hd)
 have hl:(Value.ref (s.heap.objs.size+1)::us++ds).length=ps.length:=by
   have e:=r2.length
   rw [F.len _ _ _ _ hq] at e
   exact e.symm
 refine aoo (HC (f:=f) I.lJ M.makes M.init (beq_iff_eq.mp M.fn) (aow (F.run _ X.stack _ _ ⟨Value.ref (s.heap.objs.size+1)::us,[]⟩ (Value.ref (s.heap.objs.size+1)::(us++ds)) _ _ E (hr.make C us [])
   (I2.Km.make C us []) (hb _ (Value.ref (s.heap.objs.size+1)::us) I2.lJ hl) r2 hq) λ r s' Ea=>?_))
 cases r with
 | error e=>exact hx pins U _ _ e s' I2 Ea
 | ok fl =>
   cases fl with
   | ret u =>
     obtain ⟨v,H',I3,rv,ev,q3⟩:=I2.after Ea
     subst ev
     exact ⟨rv,⟨V.ref (s.heap.objs.size+1),H',I3,rfl,q3⟩⟩
   | next=>exact False.elim Ea
   | brk=>exact False.elim Ea
   | cont=>exact False.elim Ea
theorem Jq (M:Mk X.K C f) (F:ja X.prog X.w X.K X.mg X.base CX k f fd ps sp) (hr:cR (k+1) X.A) (hg:Gl X x) (hm:X.mg x=some (.ref C)) (hb:Binds X.K fd ps ds) (hd:Vals gd ds) (hx:Passes CX X E) (ha:PA X (e::es) t) (vG:(x == ("__debug__" : Str))=false:=by decide) (he:starEach (e::es) X.env=(false,eval e X.env)::starEach es X.env:=by rfl) (lA:(backTo pos (starEach es X.env)).any (·.1)=false:=by rfl) :
   PE X (.Call (.Name x p) (e::es) [] pos) (HG C sp gd E t):=by
 intro pins s U H Q I h
 refine aov (mn I hg hm ?_ vG)
 refine apo (h₀:=X.base) I.ok.mod.Il M.kp (cX (ha pos pins s U H _ I h) λ us s1 ⟨vs,H1,I1,r,q⟩=>⟨I1.lJ,?_⟩) he lA
 exact GG M F hr hb hd hx I1 r q
end
section
variable {X:Cx} {CX:Go} {k:Nat} {f C:Addr} {fd:FuncData} {ps ks:List Str} {sp:Sp} {E:XK} {x m:Str} {p pos apos asA:Pos} {e o:Expr} {es:List Expr} {kws:List Keyword} {te ta:TE} {t tk:TA} {nm:Option Str}
variable {g:List Value->List Value->List Value} {gV:List V->List V->List V}
end
structure aA (N P:List Str) (sc:Scope):Prop where
 kind:sc.kind = .function
 co:sc.isCoroutine=false
 gen:sc.isGenerator=false
 nd:N.Nodup
 pre:N.take P.length=P
 par:∀ x∈P,sc.names.lookup x=some .local∨sc.names.lookup x=some .cell
 Mt:∀ y∈sc.names,y.2 ≠ .free
theorem uQ {kindOf:Str->Option NameKind} {x:Str}:∀ {binds:List (Str×Value)} {m:Str->Option Value},(∀ v,(x,v)∉binds)->bindL kindOf binds m x=m x
 | [],_,_=>rfl
 | (n,v)::r,m,h=>by
   unfold bindL
   rw [uQ λ w hw=>h w (abO _ hw)]
   split
   . have:x≠n:=by rintro rfl;exact h v adY
     simp [this]
   . rfl
theorem uF {kindOf:Str->Option NameKind} {x:Str}:∀ {binds:List (Str×Value)} {m:Str->Option Value},(∀ v,(x,v)∉binds)->bindC kindOf binds m x=m x
 | [],_,_=>rfl
 | (n,v)::r,m,h=>by
   unfold bindC
   rw [uF λ w hw=>h w (abO _ hw)]
   split
   . rfl
   . have:x≠n:=by rintro rfl;exact h v adY
     simp [this]
theorem vi {kindOf:Str->Option NameKind} {x:Str} {v:Value}:∀ {P:List Str} {vs:List Value} {i:Nat} {m:Str->Option Value},P.Nodup->P[i]?=some x->vs[i]?=some v->kindOf x=some .local ->
   bindL kindOf (P.zip vs) m x=some v
 | [],_,_,_,_,h,_,_=>by simp at h
 | _::_,[],_,_,_,_,h,_=>by simp at h
 | p::P,w::vs,0,m,nd,h1,h2,hk=>by
   simp at h1 h2;subst h1;subst h2
   show bindL kindOf ((p,w)::P.zip vs) m p=_
   unfold bindL
   rw [uQ λ v hv=>(List.nodup_cons.mp nd).1 (apd hv).1,abl hk]
   simp
 | p::P,w::vs,i+1,m,nd,h1,h2,hk=>by
   show bindL kindOf ((p,w)::P.zip vs) m x=_
   unfold bindL
   exact vi (i:=i) (List.nodup_cons.mp nd).2 (by simpa using h1) (by simpa using h2) hk
theorem uG {kindOf:Str->Option NameKind} {x:Str} {v:Value}:∀ {P:List Str} {vs:List Value} {i:Nat} {m:Str->Option Value},P.Nodup->P[i]?=some x->vs[i]?=some v->kindOf x≠some .local ->
   bindC kindOf (P.zip vs) m x=some v
 | [],_,_,_,_,h,_,_=>by simp at h
 | _::_,[],_,_,_,_,h,_=>by simp at h
 | p::P,w::vs,0,m,nd,h1,h2,hk=>by
   simp at h1 h2;subst h1;subst h2
   show bindC kindOf ((p,w)::P.zip vs) m p=_
   unfold bindC
   rw [uF λ v hv=>(List.nodup_cons.mp nd).1 (apd hv).1,aa8 hk]
   simp
 | p::P,w::vs,i+1,m,nd,h1,h2,hk=>by
   show bindC kindOf ((p,w)::P.zip vs) m x=_
   unfold bindC
   exact uG (i:=i) (List.nodup_cons.mp nd).2 (by simpa using h1) (by simpa using h2) hk
def start (N:List Str) (vs:List V):St:=vs.map some++List.replicate (N.length - vs.length) none
def fi (CX:Go) (P:Program) (w:World) (K:W.Frag) (mg:Str->Option Value) (base:Heap) (N:List Str) (qual:Str) (scope:Scope) (f:Addr) (cd:Value) (A:Around) (outer:List Env) (s:Shared) (H:Hp) (E:XK):Cx where
 prog:=P
 w:=w
 K:=K
 mg:=mg
 base:=base
 A:=A.deeper (envOfC qual scope s.heap.objs.size f cd)
 N:=N
 s₀:=s
 H₀:=H
 env:=envOfC qual scope s.heap.objs.size f cd
 outer:=outer
 stack:=envOfC qual scope s.heap.objs.size f cd::outer
 ex:=[]
 calm:=true
 fn:=λ _=>true
 pn:=[]
 xe:=λ e s'=>wpAny (model P w) (A.deeper (envOfC qual scope s.heap.objs.size f cd)) (leaving (envOfC qual scope s.heap.objs.size f cd) e) (λ _ s''=>CX outer H s E e s'') (λ e' s''=>CX outer H s E e' s'') s'
theorem zh {sc:Scope} {n:Nat} {x:Str} (h:sc.names.lookup x=some .cell):∃ c,(cellsFrom n sc.names []).lookup x=some c:=by
 have q:=W.cellsFrom_some sc.names n [] (.inl h)
 exact Option.isSome_iff_exists.mp q
theorem DZ {CX:Go} {P:Program} {w:World} {K:W.Frag} {mg:Str->Option Value} {base:Heap} {N ps:List Str} {scope:Scope} {f:Addr} {cd:Value} {A:Around} {outer:List Env} {s s1:Shared} {E:XK} {vs:List V} (S:aA N ps scope) (hd:A.handled=none) (e0:Bp P w K mg base A outer s H) (hl:vs.length=ps.length) (r:Vals vs us) (x:InCallC s s.heap.objs.size (bindL (envOfC qual scope s.heap.objs.size f cd).kindOf (ps.zip us) λ _=>none) (cellsFrom (s.heap.objs.size+1) scope.names []) (bindC (envOfC qual scope s.heap.objs.size f cd).kindOf (ps.zip us) λ _=>none) s1) :
   Inv (fi CX P w K mg base N qual scope f cd A outer s H E) [] (start N vs) H s1:=by
 have lA:ps.length<=N.length:=by have:=amX List.length S.pre;rw [abX] at this;lia
 obtain ⟨h1,tk,rfl,hk⟩:=x.done
 have Pj:∀ b:Addr,b∉(fi CX P w K mg base N qual scope f cd A outer s H E).ex:=λ b z=>absurd (show b∈([]:List Addr) from z) (by simp)
 refine ⟨⟨e0.mod,S.kind,rfl,rfl,aar _,λ y z c h1 h2=>?_,λ y hy=>?_,λ y c _ h=>?_,λ _=>hd,Around.frames_deeper e0.frames,.inr ⟨rfl,rfl⟩,λ b z=>absurd z (Pj b),e0.bs,e0.Jg,λ b _ _=>Pj b,λ b z=>absurd z (Pj b),e0.mP,e0.HR⟩,
   rfl,e0.bare,Un.kept hk,⟨_,x.toInCall.ns,λ i y v h1 h2 h3=>?_⟩,λ y c h=>⟨_,x.cell y c h⟩,e0.cq.fresh (aar _),λ y c h=>?_,λ p hp=>absurd (show p∈([]:List (Addr×Obj)) from hp) (by simp),e0.cq.kept hk,?_⟩
 . exact name_of_addr x.apart (akk h1) (akk h2)
 .
  have hy:scope.names.lookup y=some .cell∨scope.names.lookup y=some .free:=hy
  rcases hy with hy|hy
  . exact zh hy
  . exact absurd rfl (S.Mt _ (akk hy))
 . exact aoW (x.above y c (akk h))
 .
  have hi:i<vs.length:=by
    unfold start at h2
    by_cases hi:i<vs.length
    . exact hi
    . rw [aea (by simpa using hi)] at h2
      rw [aos] at h2
      split at h2<;>cases h2
  have ha:vs[i]?=some v:=by
    unfold start at h2
    rw [aeF (by simpa using hi),RS] at h2
    cases e:vs[i]? with
    | none=>rw [e] at h2;cases h2
    | some a=>rw [e] at h2;cases h2;rfl
  obtain ⟨u,hu,rv⟩:=r.get ha
  have hp:ps[i]?=some y:=by
    rw [← S.pre,an0 (by lia)];exact h1
  have ndP:ps.Nodup:=by rw [← S.pre];exact S.nd.sublist (List.take_sublist _ _)
  refine ⟨u,rv,?_⟩
  rcases S.par y (ac8 hp) with k|k
  . exact .inl ⟨k,vi ndP hp hu k⟩
  .
   obtain ⟨c,e⟩:=zh (n:=s.heap.objs.size+1) k
   refine .inr ⟨.inl k,c,e,?_⟩
   have q:=x.cell y c e
   rw [uG ndP hp hu (by show scope.names.lookup y≠_;rw [k];decide)] at q
   exact q
 . exact e0.cq.fresh (aoW (x.above y c (akk h)))
 .
  unfold start
  show _=N.length
  rw [aas,At,amv]
  lia
theorem Gq {CX:Go} {P:Program} {w:World} {K:W.Frag} {mg:Str->Option Value} {base:Heap} {k:Nat} {f:Addr} {name:Str} {params:Arguments} {body:List Stmt} {scope:Scope} {dV kV doc pm bB ct oc:Value} {an od:Option Addr} {xn:Array (Option Value)} {N ps:List Str} {sp:Sp} (lk:K.lookup f=some ⟨oc,od,.func (W.fnOf name qual params body scope dV kV doc pm an bB ct),xn⟩) (mR:W.codeIn K bB qual=true) (S:aA N ps scope) (len:∀ vs H Q E,sp vs H Q E->vs.length=ps.length) (dZ:∀ (A:Around) (outer:List Env) (s:Shared) (H:Hp) (vs:List V) (Q:VK) (E:XK),cR k (A.deeper (envOfC qual scope s.heap.objs.size f bB))->sp vs H Q E ->
     ∃ t,qg (fi CX P w K mg base N qual scope f bB A outer s H E) body t/\t { nx:=λ _ H'=>Q .bT H',rt:=Q } (start N vs) H) :
   ja P w K mg base CX (k+1) f (W.fnOf name qual params body scope dV kV doc pm an bB ct) ps sp:=by
 refine ⟨len,λ A outer s H args us vs Q E hr e0 hb r HQ=>?_⟩
 have hl:=len _ _ _ _ HQ
 have KX:K.In s.heap:=e0.mod.Il.keeps λ b o e=>(e0.bs b o e).1
 have lim:s.heap.NoLimit:=e0.mod.nolimit.keeps λ b o e=>(e0.bs b o e).1
 have Qz:∀ y∈ps.zip us,scope.names.lookup y.1=some .local∨(scope.names.lookup y.1=some .cell/\((cellsFrom (s.heap.objs.size+1) scope.names []).lookup y.1).isSome=true):=λ ⟨n,v⟩ hy=>by
   rcases S.par n (apd hy).1 with q|q
   . exact .inl q
   . exact .inr ⟨q,W.cellsFrom_some _ _ _ (.inl q)⟩
 refine codeAny_call_function hr.depth (KX _ _ lk) rfl S.co S.gen rfl (W.codeRec_of KX mR) (hb _ _ _ _ ?_)
 refine wpAny_newFunctionEnv_cells S.kind Qz λ env he s1 x=>?_
 subst he
 refine ⟨lim.keeps x.toInCall.keep,codeAny_func ?_⟩
 obtain ⟨t,ht,hq⟩:=dZ A outer s H vs Q E (hr.deeper _) HQ
 have I:Inv (fi CX P w K mg base N qual scope f bB A outer s H E) [] (start N vs) H s1:=DZ S hr.hd e0 hl r x
 refine acV (ht [] s1 (start N vs) H _ I hq) (λ fl s' hs=>?_) λ e s' hs=>hs
 have fin:∀ {σ':St} {H':Hp} {v:V} {u:Value},Inv (fi CX P w K mg base N qual scope f bB A outer s H E) [] σ' H' s'->RelV v u->Q v H'->CE outer P w H s Q u s' :=
   λ {σ' H' v u} J rv q=>⟨v,H',J.os,J.bare,J.base,J.cq,rv,q⟩
 cases fl with
 | ret u =>
   obtain ⟨v,σ',H',J,rv,q⟩:=hs
   exact fin J rv q
 | next =>
   obtain ⟨σ',H',J,q⟩:=hs
   exact fin (v:=V.bT) (u:=Value.none) J rfl q
 | brk =>
   obtain ⟨_,_,_,q⟩:=hs
   exact False.elim q
 | cont =>
   obtain ⟨_,_,_,q⟩:=hs
   exact False.elim q
section
variable {X:Cx} {x:Str} {p pos:Pos} {e:Expr} {es:List Expr} {t:TA} {id T:String} {r:List V->Hp->VK->Prop}
def tCB (r:List V->Hp->VK->Prop) (t:TA):TE:=λ U H Q=>t U H λ vs H1=>r vs H1 Q
theorem aO (hc:hZ X (.builtin id) r) (hg:Gl X x) (hm:X.mg x=none) (hv:bootBuiltins x=some (.builtin id)) (ha:PA X (e::es) t) (hn:x ≠ "__name__":=by decide) (vG:(x == ("__debug__" : Str))=false:=by decide) (he:starEach (e::es) X.env=(false,eval e X.env)::starEach es X.env:=by rfl) (lA:(backTo pos (starEach es X.env)).any (·.1)=false:=by rfl):PE X (.Call (.Name x p) (e::es) [] pos) (tCB r t):=by
 intro pins s U H Q I h
 refine aov (lN I hg hm hv ?_ hn vG)
 exact PyProof.Rows.callWith_builtin1 (cX (ha pos pins s U H _ I h) λ us s1 ⟨vs,H1,I1,r1,q1⟩=>hc pins s1 U H1 vs us Q I1 r1 q1) he lA
theorem cH (hc:hZ X (.type T) r) (hg:Gl X x) (hm:X.mg x=none) (hv:bootBuiltins x=some (.type T)) (ha:PA X (e::es) t) (hn:x ≠ "__name__":=by decide) (vG:(x == ("__debug__" : Str))=false:=by decide) (he:starEach (e::es) X.env=(false,eval e X.env)::starEach es X.env:=by rfl) (lA:(backTo pos (starEach es X.env)).any (·.1)=false:=by rfl):PE X (.Call (.Name x p) (e::es) [] pos) (tCB r t):=by
 intro pins s U H Q I h
 refine aov (lN I hg hm hv ?_ hn vG)
 exact ahZ (cX (ha pos pins s U H _ I h) λ us s1 ⟨vs,H1,I1,r1,q1⟩=>hc pins s1 U H1 vs us Q I1 r1 q1) he lA
end
end L2
namespace HT
open PySem PyProof.Rows
def lexLt:List Int->List Int->Bool
 | [],[]=>false
 | [],_::_=>true
 | _::_,[]=>false
 | x::xs,y::ys=>if x=y then lexLt xs ys else decide (x<y)
section
open PySem.SeqAt
open PySem.AutoSeq1 (wpAny_loadPart')
open PySem.MeetsSeq PySem.MeetsSeq2 PySem.MeetsSeq3
end
section
variable {prog:Program} {w:World} {A:Around} {E:Value->Shared->Prop} {s:Shared}
theorem JL {t b:Addr} {vs ws:List Value} {Q:Value->Shared->Prop} (ht:IsTup s.heap t vs.toArray) (hb:IsTup s.heap b ws.toArray) (hv:vs≠[])
   (h1:ws=[]->Q (.ref t) s) (h2:ws≠[]->Q (.ref s.heap.objs.size) { s with heap:=s.heap.push { cls:=.type "tuple",data:=.seq (vs++ws).toArray }})
   (hsz:vs.length+ws.length<=sizeLine):wpAny (model prog w) A (binaryOp .Add (.ref t) (.ref b)) Q E s:=by
 obtain ⟨⟨cls,dd,data,sl⟩,ho,hc,n,hd⟩:=id ht
 obtain ⟨⟨atU,U0,data2,CF⟩,X0,hc2,n2,hd2⟩:=id hb
 simp only at hc hd hc2 hd2
 subst hc hd hc2 hd2
 have e:vs.toArray++ws.toArray=(vs++ws).toArray:=by simp
 by_cases hw:ws=[]
 . exact concat_meets ⟨_,ho,rfl⟩ ⟨_,X0,rfl⟩ noFill_tuple_add seq_tuple_add apy aps (app _ _)
     (tuple_addW1 t b vs.toArray ws.toArray n n2 dd U0 sl CF (by simpa using hv) (by simp [hw])) ⟨ho,X0,h1 hw⟩
 .
  refine concat_meets ⟨_,ho,rfl⟩ ⟨_,X0,rfl⟩ noFill_tuple_add seq_tuple_add apy aps (app _ _)
    (tuple_addW2 t b vs.toArray ws.toArray n n2 dd U0 sl CF (by simpa using hv) (by simpa using hw) (by rw [abR,abR];exact hsz)) ⟨ho,X0,?_⟩
  rw [e]
  exact h2 hw
def t9 (n d:Nat):Option Int->Nat
 | none=>d
 | some v=>if v<0 then (v+(n:Int)).toNat else min v.toNat n
theorem Hg (n d:Nat):t9 n d none=d:=rfl
theorem IH (n d k:Nat):t9 n d (some (k:Int))=min k n:=by
 show (if (k:Int)<0 then ((k:Int)+(n:Int)).toNat else min (k:Int).toNat n)=min k n
 rw [aa8 (by lia),aff]
end
end HT
namespace L2
open PySem PySem.Spec PyProof.Rows
variable {H H':Hp} {h':Heap} {bG its':List Value} {pins:List (Addr×Obj)} {t':Nat} {u:Value} {v:V} {xs:List V} {U:St}
abbrev TO:=St->Hp->(Option Int->Hp->Prop)->Prop
def PO (X:Cx) (e:Option Expr) (t:TO):Prop :=
 ∀ (pins:List (Addr×Obj)) (s:Shared) (U:St) (H:Hp) (Q:Option Int->Hp->Prop),Inv X pins U H s->t U H Q ->
   wpAny (model X.prog X.w) X.A (evalPart e X.env) (λ u s'=>∃ o H',Inv X pins U H' s'/\IsPart u o/\Q o H') X.xe s
def KE:TO:=λ _ H Q=>Q none H
def Vd (t:TE):TO:=λ U H Q=>t U H λ x H1=>∃ i,x = .int i/\Q (some i) H1
section
variable {X:Cx} {e:Expr} {te:TE} {lo hi:Option Expr} {tl th:TO} {pos p2:Pos}
theorem vJ:PO X none KE:=by
 intro pins s U H Q I h
 rw [evalPart_none]
 exact abF ⟨none,H,I,.none,h⟩
theorem kX (h:PE X e te):PO X (some e) (Vd te):=by
 intro pins s U H Q I hw
 rw [evalPart_some]
 refine cX (h pins s U H _ I hw) λ u s1 ⟨x,H1,I1,r1,q1⟩=>?_
 obtain ⟨i,rfl,q⟩:=q1
 obtain ⟨t,rfl⟩:=r1
 exact ⟨some i,H1,I1,.int i t,q⟩
def SlR (X:Cx) (r:V->Option Int->Option Int->Hp->VK->Prop):Prop :=
 ∀ (pins:List (Addr×Obj)) (s:Shared) (U:St) (H:Hp) (x:V) (v vl vu:Value) (lo hi:Option Int) (sl:Addr) (Q:VK),Inv X pins U H s->RelV x v->s.heap.IsSliceOf sl vl vu .none->IsPart vl lo->IsPart vu hi->r x lo hi H Q ->
   ∃ T id,typeLookup (.type T) "__getitem__" = pure (some (.builtin id))/\s.TypeIs v T/\wpAny (model X.prog X.w) X.A (getItem v (.ref sl)) (EP X pins U Q) X.xe s
def tSl (r:V->Option Int->Option Int->Hp->VK->Prop) (te:TE) (tl th:TO):TE:=λ U H Q=>te U H λ x H1=>tl U H1 λ l H2=>th U H2 λ u H3=>r x l u H3 Q
theorem mh {r:V->Option Int->Option Int->Hp->VK->Prop} (hr:SlR X r) (he:PE X e te) (hl:PO X lo tl) (hu:PO X hi th):PE X (.Subscript e (.Slice lo hi none p2) pos) (tSl r te tl th):=by
 intro pins s U H Q I h
 refine Subscript_ (cX (he pins s U H _ I h) λ v s1 ⟨x,H1,I1,r1,q1⟩=>?_)
 refine wpAny_Slice (cX (hl pins s1 U H1 _ I1 q1) λ vl s2 ⟨l,H2,I2,pl,q2⟩=>cX (hu pins s2 U H2 _ I2 q2) λ vu s3 ⟨u,H3,I3,pu,q3⟩=>?_)
 rw [evalPart_none]
 refine abF ?_
 have I4:Inv X pins U H3 { s3 with heap:=s3.heap.push { cls:=.type "slice",data:=.fields #[vl,vu,.none]}}:=I3.kept (t':=s3.toks) λ b ob q=>YM _ q
 obtain ⟨T,id,hT,ht,hg⟩:=hr pins { s3 with heap:=s3.heap.push { cls:=.type "slice",data:=.fields #[vl,vu,.none]}} U H3 x v vl vu l u s3.heap.objs.size Q I4 r1 (Heap.IsSliceOf.new ..) pl pu q3
 show wpAny (model X.prog X.w) X.A (subscriptTail e (.Slice lo hi none p2) v (.ref s3.heap.objs.size)) (EP X pins U Q) X.xe { s3 with heap:=s3.heap.push { cls:=.type "slice",data:=.fields #[vl,vu,.none]}}
 exact tail_any (ops:=[.ref s3.heap.objs.size,v]) ht hT hg (by with_unfolding_all rfl)
def pR (xs:List V) (lo hi:Option Int):List V:=(xs.drop (HT.t9 xs.length 0 lo)).take (HT.t9 xs.length xs.length hi - HT.t9 xs.length 0 lo)
theorem ql (xs:List V) (lo hi:Option Int):(pR xs lo hi).length<=xs.length:=by
 unfold pR
 rw [abX,List.length_drop]
 lia
inductive Tj (K:W.Frag) (x:V) (y:V) (H:Hp) (Q:VK):Prop
 | mk (a b xs ys:_) (_:x = .ref a) (_:y = .ref b) (_:bS K H a xs) (_:bS K H b ys) (_:xs≠[]) (_:xs.length+ys.length<=sizeLine) (_:(ys=[]->Q (.ref a) H)) (_:(ys≠[]->∀ p,H p=none->Q (.ref p) (upd H p (.tup (xs++ys)))))
theorem Vals.vF {us:List Value} (r:Vals xs us):us=[]↔xs=[]:=by
 cases r with
 | nil=>simp
 | cons _ _=>simp
theorem CL:jz X (binaryOp .Add) (Tj X.K):=by
 intro pins s U H x y v u Q I rx ry h
 obtain ⟨a,b,xs,ys,rfl,rfl,ha,hb,hx,hz,q1,q2⟩:=h
 cases rx
 cases ry
 obtain ⟨bG,r1,p1,_⟩:=I.tuple ha
 obtain ⟨BN,r2,p2,_⟩:=I.tuple hb
 refine HT.JL p1 p2 (λ z=>hx (r1.vF.mp z)) (λ z=>⟨.ref a,H,I,rfl,q1 (r2.vF.mp z)⟩) (λ z=>?_) (by rw [← r1.length,← r2.length];exact hz)
 refine ⟨.ref s.heap.objs.size,_,I.laid (t':=s.toks) (o:=.tup (xs++ys)) (λ b ob q=>YM _ q) (aar _) ?_,rfl,q2 (λ w=>z (r2.vF.mpr w)) _ (I.cq.fresh (aar _))⟩
 exact ⟨by rw [aas];exact hz,_,r1.append r2,IsTup.new _ _⟩
end
def Du (n:Nat) (i:Int):Option Nat:=if 0<=i then (if i<n then some i.toNat else none) else if -(n:Int)<=i then some (i+n).toNat else none
def tE {α:Type} (xs:List α) (i:Int):Option α:=(Du xs.length i).bind λ j=>xs[j]?
theorem BV {n:Nat} {i:Int} {j:Nat} (h:Du n i=some j):seqIndex? i n=some j/\j<n/\-(n:Int)<=i/\i<n:=by
 unfold Du at h
 by_cases h0:0<=i
 .
  rw [abl h0] at h
  by_cases h1:i<n
  . rw [abl h1] at h
    have e:i.toNat=j:=aaU h
    exact ⟨by rw [seqIndex_of h0 h1,e],by lia,by lia,h1⟩
  . rw [aa8 h1] at h;cases h
 .
  rw [aa8 h0] at h
  by_cases h1 : -(n:Int)<=i
  . rw [abl h1] at h
    have e:(i+n).toNat=j:=aaU h
    exact ⟨by rw [seqIndex_neg (by lia) h1,e],by lia,h1,by lia⟩
  . rw [aa8 h1] at h;cases h
theorem Ct {α:Type} {xs:List α} {i:Int} {v:α} (h:tE xs i=some v):∃ j,seqIndex? i xs.length=some j/\xs[j]?=some v/\j<xs.length/\-(xs.length:Int)<=i/\i<xs.length:=by
 unfold tE at h
 cases e:Du xs.length i with
 | none=>rw [e] at h;cases h
 | some j =>
   rw [e] at h
   obtain ⟨h1,h2,h3,h4⟩:=BV e
   exact ⟨j,h1,h,h2,h3,h4⟩
theorem bh {α:Type} {xs:List α} {j:Nat} {v:α} (h:xs[j]?=some v):tE xs (j:Int)=some v:=by
 have hj:j<xs.length:=(List.getElem?_eq_some_iff.mp h).1
 have e:Du xs.length (j:Int)=some j:=by
   unfold Du
   rw [abl (by lia),abl (by lia)];simp
 unfold tE;rw [e];exact h
def K1 (b:Expr):Prop:=∀ o i,subscripted b false o i=operate [o,i] (getItem o i)
def Wr (X:Cx) (r:R2):Prop :=
 ∀ (value slice:Expr) (pins:List (Addr×Obj)) (s:Shared) (U:St) (H:Hp) (x y:V) (v u:Value) (Q:VK),Inv X pins U H s->RelV x v->RelV y u->r x y H Q ->
   subscripted slice false v u=operate [v,u] (getItem v u)->wpAny (model X.prog X.w) X.A (subscriptTail value slice v u) (EP X pins U Q) X.xe s
def MtR (X:Cx) (id:String) (r:V->List V->Hp->VK->Prop):Prop :=
 ∀ (pins:List (Addr×Obj)) (s:Shared) (U:St) (H:Hp) (x:V) (xs:List V) (v:Value) (us:List Value) (Q:VK),Inv X pins U H s->RelV x v->Vals xs us->r x xs H Q ->
   wpAny (model X.prog X.w) X.A (call (.builtin id) (v::us)) (EP X pins U Q) X.xe s
section
variable {X:Cx} {a b:Expr} {ta tb:TE} {pos:Pos}
theorem ay {r:R2} (hr:Wr X r) (ha:PE X a ta) (hb:PE X b tb) (hs:K1 b):PE X (.Subscript a b pos) (UT r ta tb):=by
 intro pins s U H Q I h
 exact Subscript_ (N5 ha hb I h λ v u s2 x y H2 I2 rx ry q=>hr a b pins s2 U H2 x y v u Q I2 rx ry q (hs _ _))
inductive aaw (K:W.Frag) (x:V) (y:V) (H:Hp) (Q:VK):Prop
 | mk (p xs i v:_) (_:x = .ref p) (_:y = .int i) (_:bg K H p xs) (_:tE xs i=some v) (_:Q v H)
inductive acW (K:W.Frag) (x:V) (y:V) (H:Hp) (Q:VK):Prop
 | mk (p xs i v:_) (_:x = .ref p) (_:y = .int i) (_:bS K H p xs) (_:tE xs i=some v) (_:Q v H)
theorem J4:Wr X (aaw X.K):=by
 intro value slice pins s U H x y v u Q I rx ry h hs
 obtain ⟨p,xs,i,z,rfl,rfl,hq,he,q⟩:=h
 cases rx
 obtain ⟨t,rfl⟩:=ry
 obtain ⟨bG,r,pl,hz⟩:=I.list hq
 obtain ⟨j,h1,h2,h3,h4,h5⟩:=Ct he
 obtain ⟨w,ew,Gb⟩:=r.get h2
 have hl:=r.length
 have hn:=vM
 have fin:EP X pins U Q w s:=⟨z,H,I,Gb,q⟩
 by_cases h0:0<=i
 .
  have hj:i.toNat=j:=by
    rw [seqIndex_of h0 h5] at h1
    exact aaU h1
  exact item_listR pl.isList h0 (by lia) (by rw [hj];simpa using ew) fin hs
 .
  have hj:(i+(bG.toArray.size:Int)).toNat=j:=by
    rw [seqIndex_neg (by lia) h4] at h1
    rw [abR,← hl]
    exact aaU h1
  exact subscriptTail_builtinR (x:=w) pl.isList.typeIs slot_list_getitem.lookup
    (wpAny_getItem_list_neg (Q:=λ r s'=>r=w/\EP X pins U Q r s') pl.isList (by lia) (by rw [abR]<;>lia) (by lia) (by rw [hj];simpa using ew) ⟨rfl,fin⟩) hs
theorem Oe:Wr X (acW X.K):=by
 intro value slice pins s U H x y v u Q I rx ry h hs
 obtain ⟨p,xs,i,z,rfl,rfl,hq,he,q⟩:=h
 cases rx
 obtain ⟨t,rfl⟩:=ry
 obtain ⟨bG,r,pl,hz⟩:=I.tuple hq
 obtain ⟨j,h1,h2,h3,h4,h5⟩:=Ct he
 obtain ⟨w,ew,Gb⟩:=r.get h2
 have hl:=r.length
 have hn:=vM
 have fin:EP X pins U Q w s:=⟨z,H,I,Gb,q⟩
 exact subscriptTail_builtinR (x:=w) pl.typeIs slot_tuple_getitem.lookup
   (getItem_tuple (j:=j) (Q:=λ r s'=>r=w/\EP X pins U Q r s') pl (by lia) (by lia) (by rw [abR,← hl];exact h1) (by simpa using ew) ⟨rfl,fin⟩) hs
theorem Bb (bG:List Value) (n j:Nat) (u:Value):Obj.mapSeq (·.setIfInBounds j u) { cls:=.type "list",data:=.seq bG.toArray n }={ cls:=.type "list",data:=.seq (bG.set j u).toArray n }:=by
 simp [Obj.mapSeq]
theorem Inv.lst {s:Shared} {p:Addr} (I:Inv X pins U H s) (h:H p=some (.lst xs)) :
   ∃ (bG:List Value) (n:Nat),Vals xs bG/\s.heap.get? p=some { cls:=.type "list",data:=.seq bG.toArray n }/\xs.length<=sizeLine:=by
 obtain ⟨z,bG,n,r,e⟩:=I.cq p _ h
 exact ⟨bG,n,r,e,z⟩
theorem Inv.N6 {s:Shared} {p:Addr} {ys:List V} {n n':Nat} {f:Obj->Obj} (I:Inv X pins U H s) (h:H p=some (.lst xs)) (ho:s.heap.get? p=some { cls:=.type "list",data:=.seq bG.toArray n }) (hf:f { cls:=.type "list",data:=.seq bG.toArray n }={ cls:=.type "list",data:=.seq its'.toArray n' }) (r:Vals ys its') (hz:ys.length<=sizeLine) (t:Nat) :
   Inv X pins U (upd H p (.lst ys)) { s with heap:=s.heap.update p f,toks:=t }:=by
 have e:(s.heap.update p f).get? p=some { cls:=.type "list",data:=.seq its'.toArray n' }:=by
   rw [anU f ho (by rw [hf]<;>rfl),hf]
 refine I.write (x:=p) (e:=p) (by rw [h];trivial) (.inl rfl) (λ b u hb q=>(anz _ _ (alt hb)).trans q) ⟨_,e⟩ ?_
 exact ⟨hz,its',n',r,e⟩
def VR:V->V->V->Hp->(Hp->Prop)->Prop:=λ o i v H Q=>∃ p xs k j,o = .ref p/\i = .int k/\H p=some (.lst xs)/\Du xs.length k=some j/\Q (upd H p (.lst (xs.set j v)))
theorem set_list:Xa X VR:=by
 intro pins s U H o i v ov iv u Q I ro ri rv h
 obtain ⟨p,xs,k,j,rfl,rfl,hp,hj,q⟩:=h
 cases ro
 obtain ⟨t,rfl⟩:=ri
 obtain ⟨bG,n,r,ho,hz⟩:=I.lst hp
 obtain ⟨h1,h2,h3,h4⟩:=BV hj
 have hl:=r.length
 have hn:=vM
 have I':Inv X pins U (upd H p (.lst (xs.set j v))) { s with heap:=s.heap.update p (Obj.mapSeq (·.setIfInBounds j u))} :=
   I.N6 hp ho (Bb bG n j u) (r.set rv j) (by rw [ah1];exact hz) s.toks
 by_cases h0:0<=k
 .
  have hk:k.toNat=j:=by
    rw [seqIndex_of h0 h4] at h1
    exact aaU h1
  exact W.ki_setAt ho h0 (by lia) (by rw [abR,← hl];exact h4) (by rw [hk];exact ⟨_,I',q⟩)
 .
  have hk:(k+(bG.toArray.size:Int)).toNat=j:=by
    rw [seqIndex_neg (by lia) h3] at h1
    rw [abR,← hl]
    exact aaU h1
  exact W.ki_setBack ho (by lia) (by rw [abR,← hl];exact h3) (by lia) (by rw [hk];exact ⟨_,I',q⟩)
theorem wO (lo hi:Option Int) (n:Nat):(sliceBounds lo hi none n).1=((HT.t9 n 0 lo:Nat):Int)/\(sliceBounds lo hi none n).2.1=((HT.t9 n n hi:Nat):Int)/\(sliceBounds lo hi none n).2.2=1:=by
 refine ⟨?_,?_,rfl⟩
 .
  cases lo with
  | none=>simp [sliceBounds,HT.t9]
  | some i =>
    simp only [sliceBounds,HT.t9,Option.getD_none,show (1:Int) > 0 by decide,anK]
    by_cases h:i<0
    . simp only [h,anK]<;>lia
    . simp only [h,aoe]<;>lia
 .
  cases hi with
  | none=>simp [sliceBounds,HT.t9]
  | some i =>
    simp only [sliceBounds,HT.t9,Option.getD_none,show (1:Int) > 0 by decide,anK]
    by_cases h:i<0
    . simp only [h,anK]<;>lia
    . simp only [h,aoe]<;>lia
theorem uj (bG:List Value) (lo hi:Option Int):slicePick bG.toArray lo hi none=((bG.drop (HT.t9 bG.length 0 lo)).take (HT.t9 bG.length bG.length hi - HT.t9 bG.length 0 lo)).toArray:=by
 obtain ⟨h1,h2,h3⟩:=wO lo hi bG.toArray.size
 unfold slicePick
 rw [h1,h2,h3]
 simp only [sliceRange_one,pick_run,abR]<;>rfl
inductive aa1 (K:W.Frag) (x:V) (lo:Option Int) (hi:Option Int) (H:Hp) (Q:VK):Prop
 | mk (a xs:_) (_:x = .ref a) (_:bg K H a xs) (_:∀ p,H p=none->Q (.ref p) (upd H p (.lst (pR xs lo hi))))
theorem vU:SlR X (aa1 X.K):=by
 intro pins s U H x v vl vu lo hi sl Q I rx hs pl pu h
 obtain ⟨a,xs,rfl,hx,q⟩:=h
 cases rx
 obtain ⟨bG,r,ht,hz⟩:=I.list hx
 have hlen:=r.length
 refine ⟨"list",_,slot_list_getitem.lookup,ht.isList.typeIs,?_⟩
 refine wpAny_getItem_list_slice ht.isList hs pl pu .none (by simp) ?_ (by rw [abR]<;>lia)
 rw [uj,← hlen]
 refine ⟨.ref s.heap.objs.size,_,I.laid (t':=s.toks) (o:=.lst (pR xs lo hi)) (λ b ob q=>YM _ q) (aar _) ?_,rfl,q _ (I.cq.fresh (aar _))⟩
 exact ⟨afY (ql xs lo hi) hz,_,0,(r.drop (HT.t9 xs.length 0 lo)).take (HT.t9 xs.length xs.length hi - HT.t9 xs.length 0 lo),adt _ rfl⟩
def or:V->Bool
 | .bT=>true
 | .bl _=>true
 | .int _=>true
 | .str _=>true
 | _=>false
def LR:V->V->Bool
 | .bT,.bT=>true
 | .bl a,.bl b=>a == b
 | .bl a,.int b=>(if a then 1 else 0) == b
 | .int a,.bl b=>a == (if b then 1 else 0)
 | .int a,.int b=>a == b
 | .str a,.str b=>a == b
 | _,_=>false
theorem Oq {A:Around} {s:Shared} {y x:V} {v:Value} (ry:RelV y u) (rx:RelV x v) (fy:or y=true) (fx:or x=true):SeqAt.EqAt A s u v (LR y x):=by
 cases y with
 | bT =>
   cases ry
   cases x with
   | bT=>cases rx;exact SeqAt.EqAt.same _
   | bl b=>cases rx;exact SeqAt.EqAt.none_bool b
   | int b=>obtain ⟨t,rfl⟩:=rx;exact SeqAt.EqAt.none_int b t
   | str b=>obtain ⟨t,rfl⟩:=rx;exact SeqAt.EqAt.none_str b t
   | _=>exact absurd (show false=true from fx) aaR
 | bl a =>
   cases ry
   cases x with
   | bT=>cases rx;exact SeqAt.EqAt.bool_none a
   | bl b=>cases rx;exact SeqAt.EqAt.bool_bool a b
   | int b=>obtain ⟨t,rfl⟩:=rx;exact SeqAt.EqAt.bool_int a b t
   | str b=>obtain ⟨t,rfl⟩:=rx;exact SeqAt.EqAt.bool_str a b t
   | _=>exact absurd (show false=true from fx) aaR
 | int a =>
   obtain ⟨t',rfl⟩:=ry
   cases x with
   | bT=>cases rx;exact SeqAt.EqAt.int_none a t'
   | bl b=>cases rx;exact SeqAt.EqAt.int_bool a t' b
   | int b=>obtain ⟨t,rfl⟩:=rx;exact SeqAt.EqAt.int_int a t' b t
   | str b=>obtain ⟨t,rfl⟩:=rx;exact SeqAt.EqAt.int_str a t' b t
   | _=>exact absurd (show false=true from fx) aaR
 | str a =>
   obtain ⟨t',rfl⟩:=ry
   cases x with
   | bT=>cases rx;exact SeqAt.EqAt.str_none a t'
   | bl b=>cases rx;exact SeqAt.EqAt.str_bool a t' b
   | int b=>obtain ⟨t,rfl⟩:=rx;exact SeqAt.EqAt.str_int a t' b t
   | str b=>obtain ⟨t,rfl⟩:=rx;exact SeqAt.EqAt.str_str a t' b t
   | _=>exact absurd (show false=true from fx) aaR
 | _=>exact absurd (show false=true from fy) aaR
def Lq (x:V) (u:Value):Bool:=match u with
 | .none=>LR .bT x
 | .bool b=>LR (.bl b) x
 | .int i _=>LR (.int i) x
 | .str z _=>LR (.str z) x
 | _=>false
theorem FT {x y:V} (r:RelV y u) (f:or y=true):Lq x u=LR y x:=by
 cases y with
 | bT=>cases r;rfl
 | bl b=>cases r;rfl
 | int i=>obtain ⟨t,rfl⟩:=r;rfl
 | str z=>obtain ⟨t,rfl⟩:=r;rfl
 | _=>exact absurd (show false=true from f) aaR
theorem vN {x:V}:∀ {xs:List V} {us:List Value},Vals xs us->xs.all or=true->us.any (Lq x)=xs.any λ y=>LR y x
 | _,_,.nil,_=>rfl
 | y::xs,u::us,.cons r t,f=>by
   rw [List.all_cons,ac5] at f
   rw [an8,an8,FT r f.1,vN t f.2]
theorem sH {A:Around} {s:Shared} {x:V} {v:Value} (rx:RelV x v) (fx:or x=true):∀ {xs:List V} {us:List Value},Vals xs us->xs.all or=true->∀ u∈us,SeqAt.EqAt A s u v (Lq x u)
 | _,_,.nil,_=>λ u hu=>by cases hu
 | y::xs,u::us,.cons r t,f=>λ u' hu=>by
   rw [List.all_cons,ac5] at f
   rcases List.mem_cons.mp hu with rfl|hu
   . rw [FT r f.1];exact Oq r rx f.1 fx
   . exact sH rx fx t f.2 u' hu
def Ii (x:V) (xs:List V):Bool:=xs.any λ y=>LR y x
inductive rIn (K:W.Frag) (neg:Bool) (x:V) (y:V) (H:Hp) (Q:VK):Prop
 | mk (p xs:_) (_:y = .ref p) (_:(bg K H p xs∨bS K H p xs)) (_:or x=true) (_:xs.all or=true) (_:Q (.bl (if neg then !Ii x xs else Ii x xs)) H)
theorem oG:jz X (compareOp .NotIn) (rIn X.K true):=by
 intro pins s U H x y v u Q I rx ry h
 obtain ⟨p,xs,rfl,hq,fx,fs,q⟩:=h
 cases ry
 rcases hq with hq|hq
 .
  obtain ⟨bG,r,pl,hz⟩:=I.list hq
  refine SeqAt.notIn_listAt (Lq x) pl.isList (λ w hw=>sH rx fx r fs w (by simpa using hw)) ⟨.bl _,H,I,rfl,?_⟩
  rw [show bG.toArray.any (Lq x)=bG.any (Lq x) by simp,vN r fs]
  exact q
 .
  obtain ⟨bG,r,pl,hz⟩:=I.tuple hq
  refine SeqAt.notIn_tupleAt (Lq x) pl (λ w hw=>sH rx fx r fs w (by simpa using hw)) ⟨.bl _,H,I,rfl,?_⟩
  rw [show bG.toArray.any (Lq x)=bG.any (Lq x) by simp,vN r fs]
  exact q
theorem wQ:hZ X (.builtin "len") (λ xs H Q=>∃ p ys,xs=[.ref p]/\(bg X.K H p ys∨bS X.K H p ys)/\Q (.int ys.length) H):=by
 intro pins s U H xs us Q I r h
 obtain ⟨p,ys,rfl,hq,q⟩:=h
 obtain ⟨u,rfl,rx⟩:=vals1 r
 cases rx
 have hn:=vM
 rcases hq with hq|hq
 . obtain ⟨bG,r',pl,hz⟩:=I.list hq
   have hlen:=r'.length
   exact Calls.call_len_list pl.isList (by simp only [abR]<;>lia) ⟨.int ys.length,H,I.tok _,⟨s.toks+1,by rw [abR,hlen]⟩,q⟩
 . obtain ⟨bG,r',pl,hz⟩:=I.tuple hq
   have hlen:=r'.length
   exact len_tuple pl (by simp only [abR]<;>lia) ⟨.int ys.length,H,I.tok _,⟨s.toks+1,by rw [abR,hlen]⟩,q⟩
theorem gk:hZ X (.type "list") (λ xs H Q=>∃ p ys,xs=[.ref p]/\(bg X.K H p ys∨bS X.K H p ys)/\∀ l,H l=none->Q (.ref l) (upd H l (.lst ys))):=by
 intro pins s U H xs us Q I r h
 obtain ⟨p,ys,rfl,hq,q⟩:=h
 obtain ⟨u,rfl,rx⟩:=vals1 r
 cases rx
 have fin:∀ (bG:List Value),Vals ys bG->ys.length<=sizeLine->∀ (h':Heap) (c':Nat),(∀ b o',s.heap.get? b=some o'->h'.get? b=some o') ->
     h'.get? s.heap.objs.size=some { cls:=.type "list",dict:=none,data:=.seq bG.toArray c',slots:=#[]}->EP X pins U Q (.ref s.heap.objs.size) { s with heap:=h' }:=λ bG r' hz h' c' kp e =>
   ⟨.ref s.heap.objs.size,_,I.laid (t':=s.toks) kp (aar _) (show c7 X.prog X.w _ h' _ (.lst ys) from ⟨hz,bG,c',r',e⟩),rfl,q _ (I.cq.fresh (aar _))⟩
 rcases hq with hq|hq
 .
  obtain ⟨bG,r',pl,hz⟩:=I.list hq
  have hlen:=r'.length
  obtain ⟨o,ho,hc,n,hd⟩:=pl.isList
  exact call_list_seq p (.inl rfl) ho hc hd (λ h' c' kp e=>fin bG r' hz h' c' kp e) (by simp only [abR]<;>lia)
 .
  obtain ⟨bG,r',pl,hz⟩:=I.tuple hq
  have hlen:=r'.length
  obtain ⟨o,ho,hc,n,hd⟩:=pl
  exact call_list_seq p (.inr rfl) ho hc hd (λ h' c' kp e=>fin bG r' hz h' c' kp e) (by simp only [abR]<;>lia)
theorem dC:hZ X (.type "tuple") (λ xs H Q=>∃ p ys,xs=[.ref p]/\((bg X.K H p ys/\∀ l,H l=none->Q (.ref l) (upd H l (.tup ys)))∨(bS X.K H p ys/\Q (.ref p) H))):=by
 intro pins s U H xs us Q I r h
 obtain ⟨p,ys,rfl,h⟩:=h
 obtain ⟨u,rfl,rx⟩:=vals1 r
 cases rx
 rcases h with ⟨hq,q⟩|⟨hq,q⟩
 .
  obtain ⟨bG,r',pl,hz⟩:=I.list hq
  have hlen:=r'.length
  refine call_tuple_list pl.isList (λ h' kp=>?_) (by simp only [abR]<;>lia)
  have I1:Inv X pins U H { s with heap:=h' }:=I.kept (t':=s.toks) kp
  have I2:Inv X pins U (upd H h'.objs.size (.tup ys)) { s with heap:=h'.push { cls:=.type "tuple",data:=.seq bG.toArray }} :=
    I1.laid (t':=s.toks) (λ b o e=>YM _ e) (aar _) (show c7 X.prog X.w _ _ _ (.tup ys) from ⟨hz,bG,r',IsTup.new _ _⟩)
  exact ⟨.ref h'.objs.size,_,I2,rfl,q _ (I1.cq.fresh (aar _))⟩
 . obtain ⟨bG,r',pl,hz⟩:=I.tuple hq
   exact call_tuple_same pl ⟨.ref p,H,I,rfl,q⟩
def tyV (K:W.Frag) (T:String) (x:V) (H:Hp):Prop:=match x with
 | .str _=>T = "str"
 | .int _=>T = "int"
 | .ref p=>(T = "list"/\∃ xs,bg K H p xs)∨(T = "tuple"/\∃ o,K.lookup p=some o/\o.cls = .type "tuple"/\o.dict=none) ∨
     (T = "dict"/\((∃ aN,H p=some (.dK aN))∨∃ aN,H p=some (.dT aN)))∨(T = "set"/\∃ S n,H p=some (.set S n))
 | _=>False
theorem Hz {s:Shared} {T:String} {x:V} {v:Value} (I:Inv X pins U H s) (r:RelV x v) (ty:tyV X.K T x H) :
   s.TypeIs v T/\∀ a,v = .ref a->∃ ob,s.heap.get? a=some ob/\ob.dict=none:=by
 cases x with
 | str z =>
   obtain ⟨t,rfl⟩:=r
   cases (show T = "str" from ty)
   exact ⟨typeIs_str s z t,λ _ e=>nomatch e⟩
 | int i =>
   obtain ⟨t,rfl⟩:=r
   cases (show T = "int" from ty)
   exact ⟨typeIs_int s i t,λ _ e=>nomatch e⟩
 | ref p =>
   cases r
   rcases ty with ⟨rfl,xs,hq⟩|⟨rfl,o,hk,hc,hd⟩|⟨rfl,hk⟩|⟨rfl,S,n,hk⟩
   . obtain ⟨bG,_,pl,_⟩:=I.list hq
     refine ⟨pl.isList.typeIs,λ a e=>?_⟩
     cases e
     obtain ⟨o,n,e,c,hd,_⟩:=pl
     exact ⟨o,e,hd⟩
   . refine ⟨⟨o,I.lJ p o hk,hc⟩,λ a e=>?_⟩
     cases e
     exact ⟨o,I.lJ _ o hk,hd⟩
   .
    have z:∃ o,s.heap.get? p=some o/\o.ExactDict:=by
      rcases hk with ⟨aN,hk⟩|⟨aN,hk⟩
      . obtain ⟨_,_,_,_,o,_,_,e,ex,_⟩:=I.cq p _ hk
        exact ⟨o,e,ex⟩
      . obtain ⟨_,_,_,_,o,_,_,e,ex,_⟩:=I.cq p _ hk
        exact ⟨o,e,ex⟩
    obtain ⟨o,e,ex⟩:=z
    refine ⟨⟨o,e,ex.1⟩,λ a e2=>?_⟩
    cases e2
    exact ⟨o,e,ex.2.1⟩
   . obtain ⟨o,_,_,_,e,ex,_⟩:=I.cq p _ hk
     refine ⟨⟨o,e,ex.1⟩,λ a e2=>?_⟩
     cases e2
     exact ⟨o,e,ex.2.1⟩
 | _=>exact False.elim ty
def aes (K:W.Frag) (T:String) (r:V->List V->Hp->VK->Prop) (to:TE):TE:=λ U H Q=>to U H λ x H1=>tyV K T x H1/\r x [] H1 Q
def tBM (K:W.Frag) (T:String) (r:V->List V->Hp->VK->Prop) (to:TE) (t:TA):TE:=λ U H Q=>to U H λ x H1=>tyV K T x H1/\t U H1 λ xs H2=>r x xs H2 Q
variable {o e:Expr} {es:List Expr} {to:TE} {t:TA} {name:Str} {apos eC:Pos} {T id:String} {r:V->List V->Hp->VK->Prop}
theorem MR (pa:PlainAttrs T) (slot:Slot T name id) (hty:typeOf (.builtin id)=pure (.type "method_descriptor")) (hm:MtR X id r) (ho:PE X o to) (sv:attributeBase o name X.env (eval o X.env)=eval o X.env:=by rfl) (F0:(apos.endLine == eC.line)=true:=by rfl):PE X (.Call (.Attribute o name apos) [] [] eC) (aes X.K T r to):=by
 intro pins s U H Q I h
 refine wpAny_Call_method0_late sv F0 (cX (ho pins s U H _ I h) λ v s1 ⟨x,H1,I1,r1,ty,q1⟩=>?_)
 obtain ⟨h1,h2⟩:=Hz I1 r1 ty
 exact ⟨T,id,pa,slot,hty,h1,h2,aoP rfl (PySem.evalArgs_none (hm pins s1 U H1 x [] v [] Q I1 r1 .nil q1))⟩
theorem j1 (pa:PlainAttrs T) (slot:Slot T name id) (hty:typeOf (.builtin id)=pure (.type "method_descriptor")) (hm:MtR X id r) (ho:PE X o to) (ha:PA X (e::es) t) (sv:attributeBase o name X.env (eval o X.env)=eval o X.env:=by rfl) (af7:((backTo eC (starEach (e::es) X.env)).all (λ x => !x.1) && (backToKw eC (keywordEach [] X.env)).all (λ x=>x.1.isSome)
     && decide ((e::es).length+([]:List Keyword).length+(if ([]:List Keyword).isEmpty then 0 else 1)<30))=true:=by rfl) (F0:(apos.endLine == eC.line)=true:=by rfl) (hs:starEach (e::es) X.env=(false,eval e X.env)::starEach es X.env:=by rfl) (kN:(backTo eC (starEach es X.env)).any (·.1)=false:=by rfl) :
   PE X (.Call (.Attribute o name apos) (e::es) [] eC) (tBM X.K T r to t):=by
 intro pins s U H Q I h
 refine wpAny_Call_method_late sv af7 F0 rfl (cX (ho pins s U H _ I h) λ v s1 ⟨x,H1,I1,r1,ty,q1⟩=>?_)
 obtain ⟨h1,h2⟩:=Hz I1 r1 ty
 refine ⟨T,id,pa,slot,hty,h1,h2,?_⟩
 have hA:=ha eC pins s1 U H1 _ I1 q1
 rw [hs] at hA ⊢
 refine aoP (by show (false || (backTo eC (starEach es X.env)).any (·.1))=false;rw [kN]<;>rfl) (aok ?_)
 exact cX hA λ us s2 ⟨vs,H2,I2,r2,q2⟩=>hm pins s2 U H2 x vs v us Q I2 r1 r2 q2
end
def MtM (X:Cx) (id:String) (r:V->List V->Hp->VK->Prop):Prop :=
 ∀ (pins:List (Addr×Obj)) (s:Shared) (U:St) (H:Hp) (x:V) (xs:List V) (v:Value) (us:List Value) (Q:VK),Inv X pins U H s->RelV x v->Vals xs us->r x xs H Q ->
   wpAny (model X.prog X.w) X.A (call (.builtin id) (v::us)) (EP X pins U Q) X.xe s
theorem Vals.one:∀ {x:V} {us:List Value},Vals [x] us->∃ u,us=[u]/\RelV x u
 | _,_,.cons r .nil=>⟨_,rfl,r⟩
theorem Vals.zero:∀ {us:List Value},Vals [] us->us=[]
 | _,.nil=>rfl
section
variable {X:Cx} {pins:List (Addr×Obj)} {U:St} {H:Hp} {s:Shared} {l b:Addr} {xs ys zs:List V}
theorem Inv.aiS {n:Nat} {f:Array Value->Array Value} {t':Nat} (I:Inv X pins U H s) (hH:H l=some (.lst xs)) (e:s.heap.get? l=some { cls:=.type "list",data:=.seq bG.toArray n }) (hf:f bG.toArray=its'.toArray) (hv:Vals ys its') (hz:ys.length<=sizeLine) :
   Inv X pins U (upd H l (.lst ys)) { s with heap:=s.heap.update l (Obj.mapSeq f),toks:=t' }:=by
 have q:=PySem.IsL.update e f
 rw [hf] at q
 refine I.write (x:=l) (e:=l) (by rw [hH];exact trivial) (.inl rfl) (λ b' u hb hu=>(anz s.heap (Obj.mapSeq f) (alt hb)).trans hu) ⟨_,q⟩ ?_
 exact ⟨hz,its',_,hv,q⟩
theorem Inv.afs {t':Nat} (I:Inv X pins U H s) (hv:Vals ys bG) (hz:ys.length<=sizeLine) :
   Inv X pins U (upd H s.heap.objs.size (.lst ys)) { s with heap:=s.heap.push { cls:=.type "list",data:=.seq bG.toArray },toks:=t' } :=
 I.laid (λ _ _ q=>YM _ q) (aar _) ⟨hz,bG,0,hv,adt _ rfl⟩
theorem Inv.fresh (I:Inv X pins U H s):H s.heap.objs.size=none:=I.cq.fresh (aar _)
theorem Inv.Ou (I:Inv X pins U H s) (hH:H l=some (.lst xs)):xs.length<=sizeLine/\∃ (bG:List Value) (n:Nat),Vals xs bG/\xs.length=bG.length/\s.heap.get? l=some { cls:=.type "list",data:=.seq bG.toArray n }:=by
 obtain ⟨z,bG,n,r,e⟩:=I.cq l _ hH
 exact ⟨z,bG,n,r,r.length,e⟩
end
section
variable {X:Cx}
inductive JW  (x:V) (vs:List V) (H:Hp) (Q:VK):Prop
 | mk (l xs y:_) (_:x = .ref l) (_:vs=[y]) (_:H l=some (.lst xs)) (_:xs.length<sizeLine) (_:Q .bT (upd H l (.lst (xs++[y]))))
theorem cN:MtM X "list.append" JW:=by
 intro pins s U H x vs v us Q I rx rv h
 obtain ⟨l,xs,y,rfl,rfl,hH,hz,q⟩:=h
 cases rx
 obtain ⟨u,rfl,ru⟩:=rv.one
 obtain ⟨z,bG,n,r,hl,e⟩:=I.Ou hH
 refine call_meets F.slot_list_append ⟨_,e,rfl⟩ F.entry_list_append (F.args_list_append_2 _ _) (PySem.list_append l bG.toArray n u (by rw [abR];lia)) ⟨e,?_⟩
 refine ⟨.bT,_,I.aiS (its':=bG++[u]) hH e (by simp) (r.append (.cons ru .nil)) ?_,rfl,q⟩
 rw [aas,alS]
 lia
inductive Zm  (x:V) (y:V) (H:Hp) (Q:VK):Prop
 | mk (l b xs zs:_) (_:x = .ref l) (_:y = .ref b) (_:H l=some (.lst xs)) (_:H b=some (.lst zs)) (_:xs.length+zs.length<=sizeLine) (_:∀ p,H p=none->Q (.ref p) (upd H p (.lst (xs++zs))))
theorem FX:jz X (binaryOp .Add) Zm:=by
 intro pins s U H x y v u Q I rx ry h
 obtain ⟨l,b,xs,zs,rfl,rfl,hH,hB,hz,q⟩:=h
 cases rx
 cases ry
 obtain ⟨z,bG,n,r,hl,e⟩:=I.Ou hH
 obtain ⟨z2,BN,n2,r2,hl2,e2⟩:=I.Ou hB
 refine PySem.P.add_list e e2 ?_ (by rw [abR,abR];lia)
 have ea:bG.toArray++BN.toArray=(bG++BN).toArray:=by simp
 rw [ea]
 exact ⟨.ref _,_,I.afs (t':=s.toks) (r.append r2) (by rw [aas];lia),rfl,q _ I.fresh⟩
end
section
variable {κ:Type} [DecidableEq κ]
def ge (aN:List (κ×V)) (k:κ):Option V:=(aN.find? λ kv=>decide (kv.1=k)).map (·.2)
def putK (aN:List (κ×V)) (k:κ) (v:V):List (κ×V) :=
 if (aN.any λ kv=>decide (kv.1=k))=true then aN.map (λ kv=>if kv.1=k then (kv.1,v) else kv) else aN++[(k,v)]
theorem eQ {p:κ×V} {r:List (κ×V)} {k:κ} (e:p.1=k):ge (p::r) k=some p.2:=by simp [ge,an7,e]
theorem eZ {p:κ×V} {r:List (κ×V)} {k:κ} (e:¬ p.1=k):ge (p::r) k=ge r k:=by simp [ge,an7,e]
theorem jQ (k:κ):∀ aN:List (κ×V),(aN.any λ kv=>decide (kv.1=k))=(ge aN k).isSome
 | []=>rfl
 | p::r=>by
   rw [an8]
   by_cases e:p.1=k
   . simp only [eQ e,abY e,Bool.true_or,Option.isSome_some]
   . rw [eZ e,abC e,Bool.false_or];exact jQ k r
theorem zy (k j:κ) (y:V):∀ aN:List (κ×V),ge (aN.map λ kv=>if kv.1=k then (kv.1,y) else kv) j=(ge aN j).map λ x=>if j=k then y else x
 | []=>rfl
 | p::r=>by
   have ih:=zy k j y r
   rw [aeC]
   by_cases h:p.1=k
   . rw [abl h]
     by_cases e:p.1=j
     . rw [eQ (p:=(p.1,y)) e,eQ e,aoE,abl (e.symm.trans h)]
     . rw [eZ (p:=(p.1,y)) e,eZ e,ih]
   . rw [aa8 h]
     by_cases e:p.1=j
     . rw [eQ (p:=p) e,eQ e,aoE,aa8 (λ z=>h (e.trans z))]
     . rw [eZ (p:=p) e,eZ e,ih]
theorem uN (k j:κ) (y:V):∀ aN:List (κ×V),ge aN k=none->ge (aN++[(k,y)]) j=if j=k then some y else ge aN j
 | [],_=>by
   by_cases e:k=j
   . rw [abl e.symm];exact eQ (p:=(k,y)) e
   . rw [aa8 (λ z=>e z.symm)];exact eZ (p:=(k,y)) e
 | p::r,hn=>by
   rw [anW]
   have hk:¬ p.1=k:=λ z=>by rw [eQ z] at hn;cases hn
   rw [eZ hk] at hn
   have ih:=uN k j y r hn
   by_cases e:p.1=j
   . rw [eQ e,eQ e,aa8 (λ z=>hk (e.trans z))]
   . rw [eZ e,eZ e,ih]
theorem zD (aN:List (κ×V)) (k j:κ) (y:V):ge (putK aN k y) j=if j=k then some y else ge aN j:=by
 unfold putK
 by_cases a:(aN.any λ kv=>decide (kv.1=k))=true
 .
  rw [abl a,zy]
  rw [jQ] at a
  by_cases e:j=k
  . obtain ⟨x,hx⟩:=Option.isSome_iff_exists.mp a
    rw [abl e,e,hx,aoE,abl rfl]
  . rw [aa8 e]
    cases ge aN j with
    | none=>rfl
    | some x=>rw [aoE,aa8 e]
 .
  rw [aa8 a]
  refine uN k j y aN ?_
  rw [jQ] at a
  cases q:ge aN k with
  | none=>rfl
  | some x=>rw [q] at a;exact (a rfl).elim
theorem lu (aN:List (κ×V)) (k:κ) (v:V):(putK aN k v).length<=aN.length+1:=by
 unfold putK
 split
 . rw [At];lia
 . rw [aas,acq,am8];lia
theorem Fl {aN:List (κ×V)} {k:κ} (v:V) (h:ge aN k=none):putK aN k v=aN++[(k,v)]:=by
 unfold putK
 rw [jQ,h]
 exact aa8 (by decide)
theorem jO.DO {o:Option V} {u:Option Value} (r:jO o u):o.isSome=u.isSome:=by
 cases o with
 | none=>cases u with
   | none=>rfl
   | some _=>exact (show False from r).elim
 | some _=>cases u with
   | none=>exact (show False from r).elim
   | some _=>rfl
theorem jO.getD {o:Option V} {u:Option Value} {d:V} {d':Value} (r:jO o u) (rd:RelV d d'):RelV (o.getD d) (u.getD d'):=by
 cases o with
 | none=>cases u with
   | none=>exact rd
   | some _=>exact (show False from r).elim
 | some _=>cases u with
   | none=>exact (show False from r).elim
   | some _=>exact r
theorem KV.val {aN:List (κ×V)} {vs:List (κ×Value)} (r:KV aN vs) (k:κ):jO (ge aN k) (valueAt vs k):=by
 unfold KV at r
 induction r with
 | nil=>exact True.intro
 | @cons p q ps qs h t ih =>
   obtain ⟨h1,h2⟩:=h
   by_cases e:p.1=k
   . have e':q.1=k:=h1.symm.trans e
     have b:valueAt (q::qs) k=some q.2:=by simp [valueAt,an7,e']
     rw [eQ e,b];exact h2
   . have e':¬ q.1=k:=λ z=>e (h1.trans z)
     have b:valueAt (q::qs) k=valueAt qs k:=by simp [valueAt,an7,e']
     rw [eZ e,b];exact ih
theorem KV.any {aN:List (κ×V)} {vs:List (κ×Value)} (r:KV aN vs) (k:κ):(aN.any λ kv=>decide (kv.1=k))=vs.any λ kv=>decide (kv.1=k):=by
 unfold KV at r
 induction r with
 | nil=>rfl
 | cons h t ih=>rw [an8,an8,ih,h.1]
theorem KV.Oy {aN:List (κ×V)} {vs:List (κ×Value)} (r:KV aN vs) (k:κ) {y:V} (ry:RelV y u) :
   KV (aN.map λ kv=>if kv.1=k then (kv.1,y) else kv) (vs.map λ kv=>if kv.1=k then (kv.1,u) else kv):=by
 unfold KV at r ⊢
 induction r with
 | nil=>exact .nil
 | @cons p q ps qs h t ih =>
   rw [aeC,aeC]
   refine .cons ?_ ih
   obtain ⟨h1,h2⟩:=h
   by_cases e:p.1=k
   . rw [abl e,abl (h1.symm.trans e)];exact ⟨h1,ry⟩
   . rw [aa8 e,aa8 (λ z=>e (h1.trans z))];exact ⟨h1,h2⟩
theorem KV.put {aN:List (κ×V)} {vs:List (κ×Value)} (r:KV aN vs) (k:κ) {y:V} (ry:RelV y u):KV (putK aN k y) (stored vs k u):=by
 unfold putK stored
 rw [r.any k]
 by_cases e:(vs.any λ kv=>decide (kv.1=k))=true
 . rw [abl e,abl e];exact r.Oy k ry
 . rw [aa8 e,aa8 e];exact Paired.snoc r ⟨rfl,ry⟩
theorem KV.length {aN:List (κ×V)} {vs:List (κ×Value)} (r:KV aN vs):aN.length=vs.length:=apa r
end
theorem zI {P:Program} {w:World} {k:Key} (r:RelV (kV k) u):(cE P w).is k u=true:=by
 cases k with
 | inl i=>obtain ⟨t,e⟩:=(show ∃ t,u=Value.int i t from r);subst e;exact yW P w i t
 | inr x=>obtain ⟨t,e⟩:=(show ∃ t,u=Value.str x t from r);subst e;exact xC P w x t
theorem uE {P:Program} {w:World}:∀ {ks:List Key} {us:List Value},Vals (ks.map kV) us->ItemsAre (cE P w) ks us
 | [],_,r=>by rw [aoY] at r;cases r;exact .nil
 | k::ks,_,r=>by
   rw [aeC] at r
   cases r with
   | cons h t=>exact .cons (zI h) (uE t)
abbrev KT (H:Hp):List (List Key×V)->List (List Key×Addr×Value)->Prop:=Paired λ p q=>p.1=q.1/\H q.2.1=some (.tup (p.1.map kV))/\RelV p.2 q.2.2
theorem KT.val {aN:List (List Key×V)} {xs:List (List Key×Addr×Value)} (r:KT H aN xs) (k:List Key):jO (ge aN k) ((atKey xs k).map (·.2)):=by
 induction r with
 | nil=>exact True.intro
 | @cons p q ps qs h t ih =>
   obtain ⟨h1,_,h2⟩:=h
   by_cases e:p.1=k
   . have e':q.1=k:=h1.symm.trans e
     have b:atKey (q::qs) k=some q.2:=by simp [atKey,an7,e']
     rw [eQ e,b];exact h2
   . have e':¬ q.1=k:=λ z=>e (h1.trans z)
     have b:atKey (q::qs) k=atKey qs k:=by simp [atKey,an7,e']
     rw [eZ e,b];exact ih
theorem KT.Oy {aN:List (List Key×V)} {xs:List (List Key×Addr×Value)} (r:KT H aN xs) (k:List Key) {y:V} (ry:RelV y u) :
   KT H (aN.map λ kv=>if kv.1=k then (kv.1,y) else kv) (xs.map (putAt k u)):=by
 induction r with
 | nil=>exact .nil
 | @cons p q ps qs h t ih =>
   rw [aeC,aeC]
   refine .cons ?_ ih
   obtain ⟨h1,h2,h3⟩:=h
   unfold putAt
   by_cases e:p.1=k
   . rw [abl e,abl (h1.symm.trans e)];exact ⟨h1,h2,ry⟩
   . rw [aa8 e,aa8 (λ z=>e (h1.trans z))];exact ⟨h1,h2,h3⟩
theorem KT.put {aN:List (List Key×V)} {xs:List (List Key×Addr×Value)} (r:KT H aN xs) (k:List Key) {b:Addr} {y:V} (hb:H b=some (.tup (k.map kV))) (ry:RelV y u) :
   KT H (putK aN k y) (storedH xs k b u):=by
 have e:(aN.any λ kv=>decide (kv.1=k))=(atKey xs k).isSome:=by
   rw [jQ,(r.val k).DO,Option.isSome_map]
 unfold putK storedH
 rw [e]
 by_cases q:(atKey xs k).isSome=true
 . rw [abl q,abl q];exact r.Oy k ry
 . rw [aa8 q,aa8 q];exact Paired.snoc r ⟨rfl,hb,ry⟩
theorem KT.keeps {aN:List (List Key×V)} {xs:List (List Key×Addr×Value)} (r:KT H aN xs) (ht:∀ b ys,H b=some (.tup ys)->H' b=some (.tup ys)):KT H' aN xs :=
 Paired.OB r λ _ _ z=>⟨z.1,ht _ _ z.2.1,z.2.2⟩
section
variable {P:Program} {w:World} {H:Hp} {h:Heap} {a:Addr}
theorem Mg {u:HO} (ok:j2 P w H h) (e:Rd H a u):c7 P w H h a u:=e.ok ok
theorem xu {aN:List (Key×V)} (ok:j2 P w H h) (e:Rd H a (.dK aN)):aN.length<=sizeLine/\(a == sysModules)=false/\∃ vs,KV aN vs/\h.DictOf (cE P w) a vs :=
 show c7 P w H h a (.dK aN) from Mg ok e
theorem LJ {aN:List (Key×V)} (ok:j2 P w H h) (e:H a=some (.dK aN)):aN.length<=sizeLine/\(a == sysModules)=false/\∃ vs,KV aN vs/\h.DictOf (cE P w) a vs:=xu ok (.inl e)
theorem wC {ks:List Key} (ok:j2 P w H h) (e:H a=some (.tup (ks.map kV))):(tupleKind (cE P w)).is h ks a:=by
 obtain ⟨_,bG,r,o,h1,h2,n,h3⟩:=(show c7 P w H h a (.tup (ks.map kV)) from ok a _ e)
 exact ⟨o,bG.toArray,n,h1,h2,h3,by simpa using uE r⟩
theorem uH {aN:List (List Key×V)} (ok:j2 P w H h) (e:Rd H a (.dT aN)):aN.length<=sizeLine/\(a == sysModules)=false /\
   ∃ xs,KT H aN xs/\h.DictOfH (tupleKind (cE P w)) a xs:=by
 obtain ⟨z,y,xs,r,o,es,ep,h1,h2,h3,h4,h5⟩:=(show c7 P w H h a (.dT aN) from Mg ok e)
 refine ⟨z,y,xs,r,o,es,ep,h1,h2,h3,h4,λ x hx=>?_,h5⟩
 have all:∀ {l:List (List Key×V)} {m:List (List Key×Addr×Value)},KT H l m->∀ x∈m,(tupleKind (cE P w)).is h x.1 x.2.1:=by
   intro l m q
   induction q with
   | nil=>intro x hx;exact nomatch hx
   | @cons p q ps qs hq t ih =>
     intro x hx
     rcases List.mem_cons.mp hx with e|hx
     . subst e
       exact wC ok (by rw [← hq.1];exact hq.2.1)
     . exact ih x hx
 exact all r x hx
theorem QA {aN:List (List Key×V)} (ok:j2 P w H h) (e:H a=some (.dT aN)):aN.length<=sizeLine/\(a == sysModules)=false /\
   ∃ xs,KT H aN xs/\h.DictOfH (tupleKind (cE P w)) a xs:=uH ok (.inl e)
end
def gS (H:Hp) (a:Addr) (y:V) (r:Option V):Prop :=
 (∃ aN k,Rd H a (.dK aN)/\y=kV k/\r=ge aN k)∨∃ aN k b,Rd H a (.dT aN)/\y = .ref b/\H b=some (.tup (k.map kV))/\r=ge aN k
def xa (H:Hp) (a:Addr) (y v:V) (H':Hp):Prop :=
 (∃ aN k,H a=some (.dK aN)/\y=kV k/\aN.length<sizeLine/\H'=upd H a (.dK (putK aN k v))) ∨
 ∃ aN k b,H a=some (.dT aN)/\y = .ref b/\H b=some (.tup (k.map kV))/\aN.length<sizeLine/\H'=upd H a (.dT (putK aN k v))
theorem gS.k {a:Addr} {aN:List (Key×V)} {k:Key} (e:H a=some (.dK aN)):gS H a (kV k) (ge aN k):=.inl ⟨aN,k,.inl e,rfl,rfl⟩
theorem gS.t {a b:Addr} {aN:List (List Key×V)} {k:List Key} (e:H a=some (.dT aN)) (eb:H b=some (.tup (k.map kV))):gS H a (.ref b) (ge aN k):=.inr ⟨aN,k,b,.inl e,rfl,eb,rfl⟩
theorem xa.k {a:Addr} {aN:List (Key×V)} {k:Key} (e:H a=some (.dK aN)) (hl:aN.length<sizeLine):xa H a (kV k) v (upd H a (.dK (putK aN k v))):=.inl ⟨aN,k,e,rfl,hl,rfl⟩
theorem xa.t {a b:Addr} {aN:List (List Key×V)} {k:List Key} (e:H a=some (.dT aN)) (eb:H b=some (.tup (k.map kV))) (hl:aN.length<sizeLine) :
   xa H a (.ref b) v (upd H a (.dT (putK aN k v))):=.inr ⟨aN,k,b,e,rfl,eb,hl,rfl⟩
section
variable {X:Cx} {pins:List (Addr×Obj)} {U:St} {H:Hp} {s:Shared} {a:Addr} {y v:V} {u r:Value} {o:Option V} {A:Around} {E:Value->Shared->Prop}
theorem Inv.big (I:Inv X pins U H s):sysModules<s.heap.objs.size:=by
 have h:mainGlobals<s.heap.objs.size:=(I.mod.glob.keeps I.bk).lt
 exact aoh (by decide) h
theorem ES {Q:Value->Shared->Prop} (hu:A.units+1<cLine) (I:Inv X pins U H s) (g:gS H a y (some v)) (ry:RelV y u) (h:∀ w' s',Inv X pins U H s'->RelV v w'->Q w' s') :
   wpAny (model X.prog X.w) A (getItem (.ref a) u) Q E s:=by
 rcases g with ⟨aN,k,e,ey,l⟩|⟨aN,k,b,e,ey,eb,l⟩
 .
  subst ey
  obtain ⟨z,hd,vs,rel,dd⟩:=xu I.cq e
  obtain ⟨w',hw,Gb⟩:=jO.some_of (v:=v) (o:=valueAt vs k) (by rw [l];exact rel.val k)
  exact wpAny_getItem_of (zI ry) dd.mapOf hw (h w' _ (I.tok _) Gb)
 .
  subst ey
  cases (show u=Value.ref b from ry)
  obtain ⟨z,hd,xs,rel,dd⟩:=uH I.cq e
  obtain ⟨w',hw,Gb⟩:=jO.some_of (v:=v) (o:=(atKey xs k).map (·.2)) (by rw [l];exact rel.val k)
  obtain ⟨p,hp,KY⟩:=Option.map_eq_some_iff.mp hw
  refine wpAny_getItem_heap (ao6 hu) (wC I.cq eb) dd hp ?_
  rw [KY]
  exact h w' _ (I.tok _) Gb
theorem wW {t':Nat} {ob:HO} (I:Inv X pins U H s) (mu:Rz (H a)) (hs:Heap.SameBut a s.heap h') (he:∃ q,h'.get? a=some q) (new:c7 X.prog X.w (upd H a ob) h' a ob) :
   Inv X pins U (upd H a ob) { s with heap:=h',toks:=t' } :=
 I.write (x:=a) (e:=a) mu (.inl rfl) (λ b q hb z=>(hs.2 b hb).trans z) he new
theorem Fk {P:Program} {w:World} {aN:List (Key×V)} {vs:List (Key×Value)} (z:aN.length<=sizeLine) (hd:(a == sysModules)=false) (rel:KV aN vs) (dd:h'.DictOf (cE P w) a vs) :
   c7 P w H' h' a (.dK aN):=⟨z,hd,vs,rel,dd⟩
theorem Ds {Q:Unit->Shared->Prop} (hu:A.units+1<cLine) (I:Inv X pins U H s) (g:xa H a y v H') (ry:RelV y u) (rv:RelV v r) (h:∀ s',Inv X pins U H' s'->Q () s') :
   wpAny (model X.prog X.w) A (setItem (.ref a) u r) Q E s:=by
 rcases g with ⟨aN,k,e,ey,l,eH⟩|⟨aN,k,b,e,ey,eb,l,eH⟩
 .
  subst ey eH
  obtain ⟨z,hd,vs,rel,dd⟩:=LJ I.cq e
  have hz:vs.length<=sizeLine:=by rw [← rel.length];exact z
  have hl:(putK aN k v).length<=sizeLine:=by have:=lu aN k v;lia
  refine wpAny_setItem_pairs (hsz:=hz) (zI ry) dd λ h' KQ hs=>h _ ?_
  have he:∃ q,h'.get? a=some q:=let ⟨q,_,_,hq,_⟩:=KQ;⟨q,hq⟩
  exact wW I (by rw [e];exact True.intro) hs he (Fk hl hd (rel.put k rv) KQ)
 .
  subst ey eH
  cases (show u=Value.ref b from ry)
  obtain ⟨z,hd,xs,rel,dd⟩:=QA I.cq e
  have hz:xs.length<=sizeLine:=by rw [← apa rel];exact z
  have hl:(putK aN k v).length<=sizeLine:=by have:=lu aN k v;lia
  refine wpAny_setItem_heap (hsz:=hz) (ao6 hu) (wC I.cq eb) dd λ h' KQ hs=>h _ ?_
  obtain ⟨q,es,ep,hq,h2,h3,h4,_,h5⟩:=KQ
  refine wW I (by rw [e];exact True.intro) hs ⟨q,hq⟩ ⟨hl,hd,_,(rel.put k eb rv).keeps λ c ys ec=>?_,q,es,ep,hq,h2,h3,h4,h5⟩
  rw [aD (XT ec e (λ z=>nomatch z))]
  exact ec
end
def SH (i:Expr):Prop:=∀ ov iv,subscripted i false ov iv=operate [ov,iv] (getItem ov iv)
theorem IF {prog:Program} {w:World} {A:Around} {E:Value->Shared->Prop} {s:Shared} {env:Env} {value slice:Expr} {pos:Pos} {T id:String} {Q:Value->Shared->Prop} (hl:typeLookup (.type T) "__getitem__" = pure (some (.builtin id))) (hs:SH slice) (h:wpAny (model prog w) A (eval value env) (λ o s₁=>wpAny (model prog w) A (eval slice env) (λ i s₂=>s₂.TypeIs o T/\wpAny (model prog w) A (getItem o i) Q E s₂) E s₁) E s) :
   wpAny (model prog w) A (eval (.Subscript value slice pos) env) Q E s:=by
 refine Subscript_ (acV h (λ o s₁ h₁=>acV h₁ (λ i s₂ h₂=>?_) λ _ _ x=>x) λ _ _ x=>x)
 obtain ⟨hT,h₂⟩:=h₂
 unfold subscriptTail
 refine T1 ?_
 rw [getitemInPython_of_ne hT.not_modules]
 refine T1 (apE hT hl ?_)
 have fin:wpAny (model prog w) A (subscripted slice false o i) (λ r s₃=>wpAny (model prog w) A (letTemporaryGo value o r >>= λ _=>pure r) Q E s₃) E s₂:=by
   rw [hs o i]
   exact wpAny_operating (acV h₂ (λ r s₃ h₃=>T1 (wpAny_letTemporaryGo (abF h₃))) λ _ _ x=>x)
 first
   | exact abF (T1 fin)
   | exact T1 (abF (T1 fin))
   | exact T1 fin
theorem zi {X:Cx} {s:Shared} {a:Addr} {y:V} {o:Option V} (I:Inv X pins U H s) (g:gS H a y o):s.TypeIs (.ref a) "dict":=by
 rcases g with ⟨aN,k,e,_,_⟩|⟨aN,k,b,e,_,_,_⟩
 . obtain ⟨_,_,vs,_,dd⟩:=xu I.cq e
   exact dd.typeIs
 . obtain ⟨_,_,xs,_,dd⟩:=uH I.cq e
   exact dd.typeIs
inductive ZU (Q:VK) (x y:V) (H2:Hp):Prop
 | mk (a:Addr) (v:V) (h1:x = .ref a) (h2:gS H2 a y (some v)) (q:Q v H2)
def QB (td ty:TE):TE:=λ U H Q=>td U H λ x H1=>ty U H1 (ZU Q x)
def Wp (td ty tv:TE):TS:=λ D U H=>tv U H λ v H1=>td U H1 λ x H2=>ty U H2 λ y H3=>∃ a H4,x = .ref a/\xa H3 a y v H4/\D.nx U H4
section
variable {X:Cx} {o i e value:Expr} {pos pos' qy:Pos} {td ty tv:TE}
theorem bi (hu:X.A.units+1<cLine) (ho:PE X o td) (hi:PE X i ty) (hs:SH i):PE X (.Subscript o i pos) (QB td ty):=by
 intro pins s U H Q I h
 refine IF PySem.F.slot_dict_getitem.lookup hs (cX (ho pins s U H _ I h) λ u s1 ⟨x,H1,I1,rx,q1⟩=>cX (hi pins s1 U H1 _ I1 q1) λ iv s2 ⟨y,H2,I2,ry,a,v,ex,g,q2⟩=>?_)
 subst ex
 obtain rfl:u=Value.ref a:=rx
 exact ⟨zi I2 g,ES hu I2 g ry λ w' s3 I3 Gb=>⟨v,H2,I3,Gb,q2⟩⟩
theorem vI (hu:X.A.units+1<cLine) (ho:PE X o td) (hi:PE X i ty) (hv:PE X value tv) (hs:swapsWith value (some (.Subscript o i pos')) pos.line X.env=pure false) :
   PS X (.Assign [.Subscript o i pos'] value pos) (Wp td ty tv):=by
 intro pins s U H D I h
 refine wpAny_Assign_Subscript (cX (hv pins s U H _ I h) λ r s1 ⟨v,H1,I1,rv,q1⟩=>cX (ho pins s1 U H1 _ I1 q1) λ u s2 ⟨x,H2,I2,rx,q2⟩=>cX (hi pins s2 U H2 _ I2 q2) λ iv s3 ⟨y,H3,I3,ry,a,H4,ex,g,q3⟩=>?_) hs
 subst ex
 obtain rfl:u=Value.ref a:=rx
 exact Ds hu I3 g ry rv λ s4 I4=>⟨U,H4,I4,q3⟩
end
theorem Fi {P:Program} {w:World} (h:Heap) (hb:sysModules<h.objs.size):c7 P w H (h.push { cls:=.type "dict",data:=.dict #[]}) h.objs.size (.dK []) :=
 ⟨afh _,beq_eq_false_iff_ne.mpr (alt (acN hb)),[],.nil,Heap.DictOf.new h⟩
theorem HD {P:Program} {w:World} (h:Heap) (hb:sysModules<h.objs.size):c7 P w H (h.push { cls:=.type "dict",data:=.dict #[]}) h.objs.size (.dT []) :=
 ⟨afh _,beq_eq_false_iff_ne.mpr (alt (acN hb)),[],.nil,_,#[],0,adt _ rfl,⟨rfl,rfl,rfl⟩,rfl,rfl,aoK⟩
def N4:TE:=λ _ H Q=>∀ p,H p=none->Q (.ref p) (upd H p (.dT []))
section
variable {X:Cx} {pos:Pos}
theorem xF:PE X (.Dict [] [] pos) N4:=λ pins s U H Q I h =>
 wpAny_Dict_empty ⟨.ref s.heap.objs.size,_,I.laid (a:=s.heap.objs.size) (o:=.dT []) (t':=s.toks) (λ _ _ q=>YM _ q) (aar _) (HD s.heap I.big),rfl,h _ (I.cq.fresh (aar _))⟩
end
def Bc:List (TE×TE)->St->Hp->(List (V×V)->Hp->Prop)->Prop
 | [],_,H,Q=>Q [] H
 | (tk,tv)::r,U,H,Q=>tk U H λ x H1=>tv U H1 λ y H2=>Bc r U H2 λ ps H3=>Q ((x,y)::ps) H3
abbrev VV:List (V×V)->List (Value×Value)->Prop:=Paired λ p q=>RelV p.1 q.1/\RelV p.2 q.2
def R1 (X:Cx) (pos:Pos) (keys:List (Option Expr)) (values:List Expr) (K4:List (TE×TE)):Prop :=
 ∀ (pins:List (Addr×Obj)) (s:Shared) (U:St) (H:Hp) (Q:List (V×V)->Hp->Prop),Inv X pins U H s->Bc K4 U H Q ->
   wpAny (model X.prog X.w) X.A (evalPairs (pairTrees keys values X.env pos)) (λ vs s'=>∃ ps H',Inv X pins U H' s'/\VV ps vs/\Q ps H') X.xe s
theorem Ke {X:Cx} {pos:Pos}:R1 X pos [] [] []:=λ pins s U H Q I h=>pairTrees_nil_walk ⟨[],H,I,.nil,h⟩
theorem lG {X:Cx} {pos:Pos} {k v:Expr} {ks:List (Option Expr)} {vs:List Expr} {tk tv:TE} {K4:List (TE×TE)} (hk:PE X k tk) (hv:PE X v tv) (hr:R1 X pos ks vs K4) :
   R1 X pos (some k::ks) (v::vs) ((tk,tv)::K4):=λ pins s U H Q I h =>
 pairTrees_cons_walk (cX (hk pins s U H _ I h) λ u s1 ⟨x,H1,I1,rx,q1⟩=>cX (hv pins s1 U H1 _ I1 q1) λ w2 s2 ⟨y,H2,I2,ry,q2⟩ =>
   cX (hr pins s2 U H2 _ I2 q2) λ ws s3 ⟨ps,H3,I3,rel,q3⟩=>⟨(x,y)::ps,H3,I3,.cons ⟨rx,ry⟩ rel,q3⟩)
def kC (aN more:List (Key×V)):List (Key×V):=more.foldl (λ acc kv=>putK acc kv.1 kv.2) aN
theorem KV.merge:∀ {more:List (Key×V)} {rs:List (Key×Value)} {aN:List (Key×V)} {vs:List (Key×Value)},KV more rs->KV aN vs->KV (kC aN more) (merged vs rs):=by
 intro more rs aN vs r
 unfold KV at r
 induction r generalizing aN vs with
 | nil=>intro q;exact q
 | @cons p q ps qs h t ih =>
   intro r0
   have e:KV (putK aN p.1 p.2) (stored vs q.1 q.2):=by
     have:=r0.put p.1 h.2
     rw [← h.1];exact this
   exact ih e
theorem jK:∀ (more aN:List (Key×V)),(kC aN more).length<=aN.length+more.length
 | [],aN=>by show aN.length<=aN.length+0;lia
 | p::r,aN=>by
   have h1:=jK r (putK aN p.1 p.2)
   have h2:=lu aN p.1 p.2
   show (kC (putK aN p.1 p.2) r).length<=_
   rw [acq];lia
theorem rY {P:Program} {w:World}:∀ {aN:List (Key×V)} {ws:List (Value×Value)},VV (aN.map λ kv=>(kV kv.1,kv.2)) ws->∃ rs,Carries (cE P w) ws rs/\KV aN rs
 | [],_,r=>by rw [aoY] at r;cases r;exact ⟨[],True.intro,.nil⟩
 | p::aN,_,r=>by
   rw [aeC] at r
   cases r with
   | @cons a b as bs h t =>
     obtain ⟨rs,c,q⟩:=rY (P:=P) (w:=w) t
     obtain ⟨b1,b2⟩:=b
     exact ⟨(p.1,b2)::rs,⟨zI h.1,rfl,c⟩,.cons ⟨rfl,h.2⟩ q⟩
def T9 (K4:List (TE×TE)):TE:=λ U H Q=>∀ p,H p=none->Bc K4 U (upd H p (.dK [])) λ ps H2=>H2 p=some (.dK [])/\∃ aN:List (Key×V),ps=aN.map (λ kv=>(kV kv.1,kv.2))/\aN.length<=15/\Q (.ref p) (upd H2 p (.dK (kC [] aN)))
theorem IR {X:Cx} {pos:Pos} {keys:List (Option Expr)} {values:List Expr} {K4:List (TE×TE)} (h:R1 X pos keys values K4) (xv:keys.all (·.isSome)=true) (hl:keys.length=values.length) (h0:keys≠[]) (h15:keys.length<=15):PE X (.Dict keys values pos) (T9 K4):=by
 intro pins s U H Q I q
 have hn:=I.cq.fresh (aar s.heap.objs.size)
 have I1:=I.laid (a:=s.heap.objs.size) (o:=.dK []) (h':=s.heap.push { cls:=.type "dict",data:=.dict #[]}) (t':=s.toks) (λ _ _ q=>YM _ q) (aar _) (Fi s.heap I.big)
 refine wpAny_Dict_walk (knd:=cE X.prog X.w) xv hl h0 h15 (cX (h pins _ U _ _ I1 (q _ hn)) λ ws s2 ⟨ps,H2,I2,rel,e,aN,ep,lk,q2⟩=>?_)
 subst ep
 obtain ⟨rs,c,rk⟩:=rY (P:=X.prog) (w:=X.w) rel
 obtain ⟨z,hd,vs0,r0,dd⟩:=LJ I2.cq e
 cases r0
 refine ⟨rs,c,dd,λ h' KQ hs=>⟨.ref s.heap.objs.size,_,?_,rfl,q2⟩⟩
 have hz:(kC [] aN).length<=sizeLine:=by
   have h1:=jK aN []
   rw [am8] at h1
   rw [ao1];lia
 have he:∃ q,h'.get? s.heap.objs.size=some q:=let ⟨q,_,_,hq,_⟩:=KQ;⟨q,hq⟩
 exact wW I2 (by rw [e];exact True.intro) hs he (Fk hz hd (rk.merge .nil) KQ)
structure M1 (X:Cx) (o:Expr) (m:Str) (apos:Pos) (e:Expr) (eC:Pos):Prop where
 base:attributeBase o m X.env (eval o X.env)=eval o X.env
 few:((backTo eC (starEach [e] X.env)).all (λ x => !x.1) && (backToKw eC (keywordEach [] X.env)).all (λ x=>x.1.isSome)
   && decide (([e]:List Expr).length+([]:List Keyword).length+(if ([]:List Keyword).isEmpty then 0 else 1)<30))=true
 line:(apos.endLine == eC.line)=true
 trees:backTo eC (starEach [e] X.env)=[(false,eval e X.env)]
structure M2 (X:Cx) (o:Expr) (m:Str) (apos:Pos) (e f:Expr) (eC:Pos):Prop where
 base:attributeBase o m X.env (eval o X.env)=eval o X.env
 few:((backTo eC (starEach [e,f] X.env)).all (λ x => !x.1) && (backToKw eC (keywordEach [] X.env)).all (λ x=>x.1.isSome)
   && decide (([e,f]:List Expr).length+([]:List Keyword).length+(if ([]:List Keyword).isEmpty then 0 else 1)<30))=true
 line:(apos.endLine == eC.line)=true
 trees:backTo eC (starEach [e,f] X.env)=[(false,eval e X.env),(false,eval f X.env)]
def IsD (H:Hp) (a:Addr):Prop:=(∃ aN,Rd H a (.dK aN))∨∃ aN,Rd H a (.dT aN)
theorem Oz {X:Cx} {s:Shared} {a:Addr} (I:Inv X pins U H s) (d:IsD H a) :
   s.TypeIs (.ref a) "dict"/\(∀ b,Value.ref a = .ref b->∃ ob,s.heap.get? b=some ob/\ob.dict=none)/\(a == sysModules)=false:=by
 rcases d with ⟨aN,e⟩|⟨aN,e⟩
 .
  obtain ⟨_,hd,vs,_,dd⟩:=xu I.cq e
  refine ⟨dd.typeIs,λ b q=>?_,hd⟩
  cases q
  obtain ⟨ob,_,_,h1,h2,_⟩:=dd
  exact ⟨ob,h1,h2.2.1⟩
 .
  obtain ⟨_,hd,xs,_,dd⟩:=uH I.cq e
  refine ⟨dd.typeIs,λ b q=>?_,hd⟩
  cases q
  obtain ⟨ob,_,_,h1,h2,_⟩:=dd
  exact ⟨ob,h1,h2.2.1⟩
section
variable {X:Cx} {pins:List (Addr×Obj)} {U:St} {H:Hp} {s:Shared} {a:Addr} {y d:V} {u r:Value} {o:Option V} {A:Around} {E:Value->Shared->Prop}
theorem My {Q:Value->Shared->Prop} (hu:A.units+1<cLine) (I:Inv X pins U H s) (g:gS H a y o) (ry:RelV y u) (rd:RelV d r) (h:∀ w' s',Inv X pins U H s'->RelV (o.getD d) w'->Q w' s') :
   wpAny (model X.prog X.w) A (call (.builtin "dict.get") [.ref a,u,r]) Q E s:=by
 rcases g with ⟨aN,k,e,ey,l⟩|⟨aN,k,b,e,ey,eb,l⟩
 .
  subst ey
  obtain ⟨z,hd,vs,rel,dd⟩:=xu I.cq e
  refine call_meetsIn aoC dd.typeIs apz (apt _ _ _) (meets_dict_get_default (cE X.prog X.w) a (zI ry) hd r) ⟨_,dd.mapOf,h _ _ (I.tok _) ?_⟩
  rw [l]
  exact (rel.val k).getD rd
 .
  subst ey
  cases (show u=Value.ref b from ry)
  obtain ⟨z,hd,xs,rel,dd⟩:=uH I.cq e
  refine call_meetsIn aoC dd.typeIs apz (apt _ _ _) (meetsH_dict_get_default (tupleKind (cE X.prog X.w)) a b hd r) ⟨ao6 hu,k,xs,wC I.cq eb,dd,h _ _ (I.tok _) ?_⟩
  rw [l]
  exact (rel.val k).getD rd
end
def Od (td ty tx:TE):TE:=λ U H Q=>td U H λ x H1=>∃ a,x = .ref a/\IsD H1 a/\ty U H1 λ y H2=>tx U H2 λ z H3=>∃ o,gS H3 a y o/\Q (o.getD z) H3
section
variable {X:Cx} {o e f:Expr} {apos eC:Pos} {td ty tx:TE}
theorem zK (hu:X.A.units+1<cLine) (ho:PE X o td) (he:PE X e ty) (hf:PE X f tx) (m:M2 X o "get" apos e f eC):PE X (.Call (.Attribute o "get" apos) [e,f] [] eC) (Od td ty tx):=by
 intro pins s U H Q I h
 refine wpAny_Call_method m.base m.few m.line PySem.F.plainAttrs_dict aoC PySem.F.type_dict_get (cX (ho pins s U H _ I h) λ u s1 ⟨x,H1,I1,rx,a,ex,d,q1⟩=>?_)
 subst ex
 obtain rfl:u=Value.ref a:=rx
 obtain ⟨t1,t2,_⟩:=Oz I1 d
 refine ⟨t1,t2,?_⟩
 rw [m.trees]
 refine aoP rfl (aok (apg (cX (he pins s1 U H1 _ I1 q1) λ iv s2 ⟨y,H2,I2,ry,q2⟩ =>
   apg (cX (hf pins s2 U H2 _ I2 q2) λ fv s3 ⟨z,H3,I3,rz,ov,g,q3⟩=>Calls.spliced_nil ?_))))
 exact My hu I3 g ry rz λ w' s4 I4 Gb=>⟨_,H3,I4,Gb,q3⟩
end
end L2
namespace Att
open PySem PySem.W PySem.Calls PyProof.Rows
theorem qL {P:Params} {h:Heap}:∀ (ns:List Int) (vs:List Value),WellAll P h vs (ns.map WData.int)->IntsAre vs ns:=by
 intro ns
 induction ns with
 | nil =>
   intro vs w
   rw [aoY] at w
   cases w
   exact .nil
 | cons n ns ih =>
   intro vs w
   rw [aeC] at w
   cases w with
   | cons a b =>
     cases a
     exact .cons _ _ (ih _ b)
theorem Ep {l:OpenLaw} {n:Nat} (hn:l.most=some n) {P:Params} {h:Heap} {args:List WData} {vals:List Value}
   (Lv:l.row.toRowW.claim.pre args=true) (HS:WellAll P h vals args) :
   ∃ a vs ns,vals=[Value.ref a]/\args=[WData.list (ns.map WData.int)]/\h.get? a=some { cls:=.type "list",data:=.seq vs.toArray }/\IntsAre vs ns/\ns.length<=n:=by
 have hsh:WShape.hasAll [] args [.list .int]=true:=(pre_splitW Lv).1
 have hc:l.pre.holds [] { args:=args }=true:=(pre_splitW Lv).2
 obtain ⟨d,r,rfl,h1,h2⟩:=hasAllW_cons hsh
 obtain rfl:=hasAllW_nil h2
 obtain ⟨xs,rfl,h3⟩:=hasW_list h1
 obtain ⟨ns,rfl⟩:=items_int h3
 have hlen:ns.length<=n:=by
   unfold OpenLaw.pre at hc
   have h4:(WTm.not (.lt (.lit (.int (n:Int))) (.len (.arg 0)))).holds [] { args:=[.list (ns.map .int)]}=true:=by
     have h4:=(holds_andW hc).1
     rw [hn] at h4
     exact h4
   have h5:=condW_of h4 (w_not (w_lt w_lit (w_len_list (w_arg rfl))))
   rw [At] at h5
   refine Nat.le_of_not_lt λ q=>?_
   have q':(n:Int)<((ns.length:Nat):Int):=by lia
   first
     | (rw [abY q'] at h5;exact absurd h5 (by decide))
     | (simp at h5;lia)
 cases HS with
 | cons w1 w2 =>
   cases w2
   cases w1 with
   | list ho xv=>exact ⟨_,_,ns,rfl,rfl,ho,qL ns _ xv,hlen⟩
theorem EO (l:OpenLaw) (args:List WData):l.row.toRowW.claim.post args (.bool true) args=true :=
 postW_of (r:=l.row.toRowW) (X:=(true == true))
   (show WShape.has [] (.bool true) .bool=true by first|rfl|decide|simp [WShape.has,WShape.arms,WShape.armsAll])
   (show (WTm.eq .res (.lit (.bool true))).value [] { args:=args,res:=some (.bool true),after:=args }=some (.bool (true == true)) from w_eq_bool (w_res rfl) w_lit) rfl
section
variable {prog:Program} {w:World} {A:Around} {E:Value->Shared->Prop} {s:Shared} {K:Frag}
def aeL (h:Heap):Heap:={ h with objs:=#[]}
def ledger (h:Heap) (L d:Addr):List (Addr×Obj):=(List.range h.objs.size).filterMap λ a=>if a=L∨a=d then none else (h.get? a).map λ o=>(a,o)
end
end Att
namespace L2
open PySem PySem.Spec PyProof.Rows
variable {H H':Hp} {qual:Str}
theorem uC:∀ {vs:List Value} {ns:List Int},IntsAre vs ns->Vals (ns.map V.int) vs
 | _,_,.nil => .nil
 | _,_,.cons n t h => .cons ⟨t,rfl⟩ (uC h)
def QV (H:Hp):Prop:=∀ b,H b=none∨∃ o xs,H b=some (.zF o (.lst xs))
theorem Ff {P:Program} {w:World} {K:W.Frag} {mg mb:Str->Option Value} {CX:Go} {k:Nat} {fa a:Addr} {fd:FuncData} {x:Str} {sp:Sp} {s₁:Shared} {vs:List Value} {ns:List Int} (KX:K.In s₁.heap) (FW:s₁.heap.Ns mainGlobals mg) (hb:s₁.heap.Ns builtinsNs mb) (YN:∀ x:Str,x ≠ "__name__"->mb x=bootBuiltins x) (anH:s₁.heap.NoLimit) (hg:s₁.gens=#[]) (ha:s₁.heap.get? a=some { cls:=.type "list",data:=.seq vs.toArray }) (hi:IntsAre vs ns) (hl:ns.length<=sizeLine) (hr:cR k callerA) (F:∀ base:Heap,K.In base->base.Ns mainGlobals mg->ja P w K mg base CX k fa fd [x] sp) (PM:∀ (s:Shared) (u:Value),BindsTo s fd ⟨[u],[]⟩ [(x,u)]) (HQ:∀ H:Hp,QV H->bg K H a (ns.map V.int)->sp [.ref a] H (λ v _=>v = .bl true) λ _ _ _=>False) (hCX:∀ H e s',CX [] H s₁ (λ _ _ _=>False) e s'->False) :
   codeAny (model P w) callerA (.call (.ref fa) ⟨[.ref a],[]⟩) (λ r s'=>r = .ok (.ret (.bool true))/\OldK s₁.heap s'.heap/\s'.os=s₁.os/\AllBare s'.gens) s₁:=by
 have rv:=uC hi
 have ab9:=hi.length
 have core:∀ H:Hp,QV H->bg K H a (ns.map V.int)->j2 P w H s₁.heap->(∀ b,H b≠none->b=a)->(H a≠none->K.lookup a=none) ->
     codeAny (model P w) callerA (.call (.ref fa) ⟨[.ref a],[]⟩) (λ r s'=>r = .ok (.ret (.bool true))/\OldK s₁.heap s'.heap/\s'.os=s₁.os/\AllBare s'.gens) s₁:=by
   intro H hO hS cq hA hK
   have CY:∀ {b:Addr} {o:Obj},s₁.heap.get? b=some o->H b=none->(vR s₁.heap H).get? b=some o:=λ e n=>FA e n
   have Pj:∀ {b:Addr} {o:Obj} {es:Array DictEntry} {ep:Nat},s₁.heap.get? b=some o->o.data = .dict es ep->H b=none:=λ {b o es ep} e d=>by
     cases q:H b with
     | none=>rfl
     | some u =>
       have e':b=a:=hA b (by rw [q];simp)
       subst e'
       rw [ha] at e;cases e
       have d':Data.seq vs.toArray _=Data.dict es ep:=d
       cases d'
   have YQ:∀ {b:Addr} {m:Str->Option Value},s₁.heap.Ns b m->(vR s₁.heap H).Ns b m:=λ {b m} ⟨o,es,ep,e,d,r⟩=>⟨o,es,ep,CY e (Pj e d),d,r⟩
   have hKb:K.In (vR s₁.heap H):=λ b o e=>CY (KX b o e) (by
     cases q:H b with
     | none=>rfl
     | some u =>
       have e':b=a:=hA b (by rw [q];simp)
       subst e'
       rw [hK (by rw [q];simp)] at e;cases e)
   have hM:Mod K mg (vR s₁.heap H):=⟨hKb,YQ FW,⟨mb,YQ hb,YN⟩,let ⟨mc,h1,h2⟩:=anH;⟨mc,YQ h1,h2⟩⟩
   have e0:Bp P w K mg (vR s₁.heap H) callerA [] s₁ H:=⟨rfl,hM,λ b o e=>JJ e,Nat.le_of_eq (Es _ _),trivial,λ b hb=>absurd (show b∈([]:List Addr) from hb) (by simp),cq,.of_eq hg⟩
   refine aow ((F _ hKb (YQ FW)).run callerA [] s₁ H ⟨[.ref a],[]⟩ [.ref a] [.ref a] _ _ hr e0 (PM s₁ (.ref a)) (.cons rfl .nil) (HQ H hO hS)) λ r s' h=>?_
   cases r with
   | error e=>exact (hCX H e s' h).elim
   | ok fl =>
     cases fl with
     | next=>exact False.elim h
     | brk=>exact False.elim h
     | cont=>exact False.elim h
     | ret u =>
       obtain ⟨v,H',os,bare,un,akh,r',q⟩:=h
       have q':v = .bl true:=q
       subst q'
       obtain rfl:u=Value.bool true:=r'
       refine ⟨rfl,OldK.of_keep λ b o e=>?_,os,bare⟩
       cases q:H b with
       | none=>exact un.keep b o e q (by intro z;exact absurd (show b∈([]:List Addr) from z) (by simp)) (by simp)
       | some u =>
         rcases hO b with z|⟨ob,xs,z⟩
         . rw [q] at z;cases z
         . have z2:=un.nu b ob _ z
           obtain ⟨e1,_⟩:=cq b _ z
           obtain ⟨e2,_⟩:=akh b _ z2
           rw [e] at e1;cases e1
           exact e2
 cases hk:K.lookup a with
 | some o =>
   have e:=KX a o hk
   rw [ha] at e
   cases e
   refine core (λ _=>none) (λ _ => .inl rfl) (.inr ⟨_,vs.toArray,_,hk,rfl,rfl,rfl,by rw [abR,ab9];exact hl,by simpa using rv⟩) (λ b u z=>by have z':(none:Option HO)=some u:=z;cases z') (λ b z=>absurd rfl z) λ z=>absurd rfl z
 | none =>
   refine core (λ b=>if b=a then some (.zF { cls:=.type "list",data:=.seq vs.toArray } (.lst (ns.map V.int))) else none) (λ b=>?_) (.inl (.inr ⟨{ cls:=.type "list",data:=.seq vs.toArray },abl rfl⟩)) (λ b u z=>?_) (λ b z=>?_) λ _=>hk
   . by_cases hb:b=a
     . exact .inr ⟨_,_,abl hb⟩
     . exact .inl (aa8 hb)
   .
    by_cases hb:b=a
    . have z':=(abl hb).symm.trans z
      cases z'
      subst hb
      exact ⟨ha,by rw [At];exact hl,vs,_,rv,ha⟩
    . have z':=(aa8 hb).symm.trans z
      cases z'
   . by_cases hb:b=a
     . exact hb
     . exact absurd (aa8 hb) z
def inClass (s:Stmt) (j:Nat):Stmt:=match s with
 | .ClassDef _ _ _ body _ _ _ _ _ _ _=>body.getD j (.Pass ⟨0,0,0,0⟩)
 | _ => .Pass ⟨0,0,0,0⟩
def cm (s:Stmt):Arguments:=match s with
 | .FunctionDef _ a _ _ _ _ _ _ _ _=>a
 | _=>{ posonlyargs:=[],args:=[],vararg:=none,kwonlyargs:=[],kw_defaults:=[],kwarg:=none,defaults:=[]}
def bx (s:Stmt):List Stmt:=match s with
 | .FunctionDef _ _ b _ _ _ _ _ _ _=>b
 | _=>[]
def ao (s:Stmt):Scope:=match s with
 | .FunctionDef _ _ _ _ _ _ sc _ _ _=>sc
 | _=>{ kind:=.function,names:=[],isGenerator:=false,isCoroutine:=false }
abbrev tL:Go:=λ _ _ _ _ _ _=>False
abbrev E0:XK:=λ _ _ _=>False
theorem yx {X:Cx}:Passes tL X E0:=λ _ _ _ _ _ _ _ h=>h.elim
structure IP (K:W.Frag) (x qual:Str) (st:Stmt) (f:Addr) (fd:FuncData):Prop where
 ex:∃ (oc:Value) (od:Option Addr) (kV doc pm:Value) (an:Option Addr) (bB ct:Value) (xn:Array (Option Value)),
   fd=W.fnOf x qual (cm st) (bx st) (ao st) .none kV doc pm an bB ct/\K.lookup f=some ⟨oc,od,.func fd,xn⟩/\W.codeIn K bB qual=true
 kp:W.keepIn K (.ref f)=true
section
variable {P:Program} {w:World} {K:W.Frag} {mg:Str->Option Value} {base:Heap}
theorem IP.ok {x:Str} {st:Stmt} {f:Addr} {fd:FuncData} {N ps:List Str} {k:Nat} {sp:Sp} (F:IP K x qual st f fd) (S:aA N ps (ao st)) (len:∀ vs H Q E,sp vs H Q E->vs.length=ps.length) (dZ:∀ (bB:Value) (A:Around) (outer:List Env) (s:Shared) (H:Hp) (vs:List V) (Q:VK) (E:XK),cR k (A.deeper (envOfC qual (ao st) s.heap.objs.size f bB))->sp vs H Q E ->
     ∃ t,qg (fi tL P w K mg base N qual (ao st) f bB A outer s H E).zV (bx st) t/\t { nx:=λ _ H'=>Q .bT H',rt:=Q } (start N vs) H):ja P w K mg base tL (k+1) f fd ps sp:=by
 obtain ⟨oc,od,kV,doc,pm,an,bB,ct,xn,rfl,lk,mR⟩:=F.ex
 refine Gq lk mR S len λ A outer s H vs Q E hr HQ=>?_
 obtain ⟨t,h,q⟩:=dZ bB A outer s H vs Q E hr HQ
 exact ⟨t,h.zV,q⟩
theorem IP.binds {x:Str} {st:Stmt} {f:Addr} {fd:FuncData} {ps:List Str} (F:IP K x qual st f fd) (h:∀ (kV doc pm:Value) (an:Option Addr) (bB ct:Value) (us:List Value),us.length=ps.length->bindArgs (W.fnOf x qual (cm st) (bx st) (ao st) .none kV doc pm an bB ct) ⟨us,[]⟩=pure (ps.zip us)):Binds K fd ps []:=by
 obtain ⟨oc,od,kV,doc,pm,an,bB,ct,xn,rfl,lk,mR⟩:=F.ex
 exact .all (h kV doc pm an bB ct)
theorem aW {x:Str} {st:Stmt} {f:Addr} {oc:Value} {od an:Option Addr} {xn:Array (Option Value)} {kV doc pm bB ct:Value} (l:K.lookup f=some ⟨oc,od,.func (W.fnOf x qual (cm st) (bx st) (ao st) .none kV doc pm an bB ct),xn⟩) (c:W.codeIn K bB qual=true) (k:W.keepIn K (.ref f)=true):IP K x qual st f (W.fnOf x qual (cm st) (bx st) (ao st) .none kV doc pm an bB ct):=⟨⟨oc,od,kV,doc,pm,an,bB,ct,xn,rfl,l,c⟩,k⟩
end
theorem b5 {A:Around} {k:Nat} (hr:cR k A):A.units+1<cLine:=afX (Nat.add_le_add_left (by decide:1<=64) _) hr.units
theorem aS {n:Nat} (h:n<=1000):n<sizeLine:=afX h (by decide)
section
variable {X:Cx}
theorem pv (i:Nat) {x:Str} {pos:Pos} (hN:X.N[i]?=some x:=by rfl) (hv:Yt X.env.scope x:=by first|exact Or.inl rfl|exact Or.inr (Or.inl rfl)|exact Or.inr (Or.inr rfl)) (hd:(x == ("__debug__" : Str))=false:=by decide) (mR:(x == ("__classdict__" : Str))=false:=by decide):PE X (.Name x pos) (G1 i):=Oj hN hv hd mR
end
theorem dF {A B:Prop} (h:B):if false=true then A else B:=by
 rw [aa8 aaR]
 exact h
theorem fw {A B:Prop} (h:A):if true=true then A else B:=by
 rw [abl rfl]
 exact h
theorem cY {c A B:Prop} [Decidable c] (hc:c) (h:B):if (!decide c)=true then A else B:=by
 rw [abY hc]
 exact dF h
def aB (H H':Hp):Prop:=∀ b o,H b=some o->H' b=some o
theorem aB.refl (H:Hp):aB H H:=λ _ _ h=>h
theorem aB.trans {H1 H2:Hp} (a:aB H H1) (b:aB H1 H2):aB H H2:=λ c o h=>b c o (a c o h)
theorem aB.free (e:aB H H') {l:Addr} (h:H' l=Option.none):H l=Option.none:=by
 cases q:H l with
 | none=>rfl
 | some o =>
   rw [e l o q] at h
   cases h
theorem aB.seq {K:W.Frag} {a:Addr} {xs:List V} (e:aB H H') (h:bg K H a xs):bg K H' a xs:=by
 rcases h with (h|⟨o,h⟩)|h
 . exact .inl (.inl (e _ _ h))
 . exact .inl (.inr ⟨o,e _ _ h⟩)
 . exact .inr h
section
variable {κ:Type} [DecidableEq κ]
theorem HM {aN:List (κ×V)} {k:κ} (h:ge aN k=none):¬ k∈aN.map (·.1):=by
 intro m
 obtain ⟨p,hp,e⟩:=List.mem_map.mp m
 have q:(aN.any λ kv=>decide (kv.1=k))=true:=List.any_eq_true.mpr ⟨p,hp,abY e⟩
 rw [jQ,h] at q
 exact absurd q (by simp)
theorem CJ:∀ {l:List κ} {k:κ},l.Nodup->¬ k∈l->(l++[k]).Nodup
 | [],k,_,_=>by simp
 | a::r,k,h,hk=>by
   obtain ⟨h1,h2⟩:=List.nodup_cons.mp h
   show (a::(r++[k])).Nodup
   refine List.nodup_cons.mpr ⟨λ m=>?_,CJ h2 λ m=>hk (List.mem_cons.mpr (Or.inr m))⟩
   rcases List.mem_append.mp m with q|q
   . exact h1 q
   . exact hk (List.mem_cons.mpr (Or.inl (List.mem_singleton.mp q).symm))
theorem Ld {aN:List (κ×V)} {k:κ} (v:V) (hn:(aN.map (·.1)).Nodup) (h:ge aN k=none):((putK aN k v).map (·.1)).Nodup:=by
 rw [Fl v h,YC]
 exact CJ hn (HM h)
end
end L2
namespace Mth
theorem LG {g l:Int} (hg:0<=g) (hl:0<l):Int.gcd l (g % l)=Int.gcd g l:=by
 obtain ⟨a,rfl⟩:=apw hg
 obtain ⟨b,rfl⟩:=apw (ajz hl)
 show Nat.gcd b (((a:Int) % (b:Int))).natAbs=Nat.gcd a b
 have:(((a:Int) % (b:Int))).natAbs=a % b:=by rw [← Int.natCast_emod];rfl
 rw [this,Nat.gcd_comm a b,Nat.gcd_comm b,← Nat.gcd_rec]
theorem Xw {g:Int} (hg:0<=g):((Int.gcd g 0:Nat):Int)=g:=by
 rw [Int.gcd_zero_right];lia
theorem vj {a b:Int} (ha:0<a) (h:0<a * b):0<b:=by
 rcases (by lia:0<b∨b<=0) with q|q
 . exact q
 . have:=aon (ajz ha) (by lia:0 <= -b)
   rw [apV] at this
   lia
structure Fr (t b q r:Int):Prop where
 pos:0<r
 jT:q * b=t * r
 Ye:Int.gcd q r=1
 Pn:q.natAbs<=t.natAbs
 RJ:r.natAbs<=b.natAbs
theorem rE {c q:Int} (hc:0<c):q.natAbs<=(c * q).natAbs:=by
 rw [aoM]
 exact Nat.le_mul_of_pos_left _ (by lia)
theorem G2 {t b c:Int} (hb:b≠0) (hc:c=((Int.gcd t b:Nat):Int)):0<c/\c<=b.natAbs/\(0<b->Fr t b (t.fdiv c) (b.fdiv c))/\(b<0->Fr t b (t.fdiv (-c)) (b.fdiv (-c))):=by
 have hp:0<Int.gcd t b:=Int.gcd_pos_iff.mpr (.inr hb)
 have c0:0<c:=by lia
 have d1:c ∣ t:=hc ▸ Int.gcd_dvd_left t b
 have d2:c ∣ b:=hc ▸ Int.gcd_dvd_right t b
 obtain ⟨q,hq⟩:=d1
 obtain ⟨r,hr⟩:=d2
 have UP:r≠0:=by rintro rfl;rw [Int.mul_zero] at hr;exact hb hr
 have hle:c<=b.natAbs:=by
   rw [hr,aoM]
   have:c.natAbs * 1<=c.natAbs * r.natAbs:=Nat.mul_le_mul_left _ (by lia)
   lia
 have e1:t.fdiv c=q:=by rw [hq,an1 _ (by lia)]
 have e2:b.fdiv c=r:=by rw [hr,an1 _ (by lia)]
 have e3:t.fdiv (-c) = -q:=by rw [show t = -c * -q by rw [hq,Int.neg_mul_neg],an1 _ (by lia)]
 have e4:b.fdiv (-c) = -r:=by rw [show b = -c * -r by rw [hr,Int.neg_mul_neg],an1 _ (by lia)]
 have hg:Int.gcd q r=1:=by
   have h1:Int.gcd (c * q) (c * r)=c.natAbs * Int.gcd q r:=Int.gcd_mul_left c q r
   rw [← hq,← hr] at h1
   have h3:c.natAbs=Int.gcd t b:=by lia
   rw [h3] at h1
   have h2:Int.gcd t b * Int.gcd q r=Int.gcd t b * 1:=by rw [← h1,apS]
   exact Nat.eq_of_mul_eq_mul_left hp h2
 have l1:q.natAbs<=t.natAbs:=hq ▸ rE c0
 have l2:r.natAbs<=b.natAbs:=hr ▸ rE c0
 refine ⟨c0,hle,λ b0=>?_,λ b0=>?_⟩
 . rw [e1,e2]
   exact ⟨vj c0 (hr ▸ b0),by rw [hq,hr,ahp,Int.mul_left_comm],hg,l1,l2⟩
 . rw [e3,e4]
   refine ⟨vj c0 (by rw [apV,← hr];lia),?_,by rw [Int.gcd_neg,Int.neg_gcd];exact hg,by lia,by lia⟩
   rw [hq,hr,Int.neg_mul,apV,ahp,Int.mul_left_comm]
def Bd (n:Nat) (x:Int):Prop:=x.natAbs<2 ^ n
theorem Bd.mono {m n:Nat} {x:Int} (h:Bd m x) (l:m<=n):Bd n x:=abE h (aib (by decide) l)
theorem Bd.mul {m n:Nat} {x y:Int} (h:Bd m x) (k:Bd n y):Bd (m+n) (x * y):=by
 unfold Bd at *
 rw [aoM,Nat.pow_add]
 exact Nat.mul_lt_mul'' h k
theorem Bd.add {m:Nat} {x y:Int} (h:Bd m x) (k:Bd m y):Bd (m+1) (x+y):=by
 unfold Bd at *
 rw [apI]
 have:=Int.natAbs_add_le x y
 lia
theorem Bd.neg {m:Nat} {x:Int} (h:Bd m x):Bd m (-x):=by unfold Bd at *;rw [Int.natAbs_neg];exact h
theorem Bd.sub {m:Nat} {x y:Int} (h:Bd m x) (k:Bd m y):Bd (m+1) (x - y):=by rw [Int.sub_eq_add_neg];exact h.add k.neg
theorem Bd.le {m:Nat} {x y:Int} (h:Bd m y) (k:x.natAbs<=y.natAbs):Bd m x:=afX k h
theorem Bd.log {n:Nat} {x:Int} (h:Bd n x) (hn:0<n):x.natAbs.log2<n:=by
 by_cases h0:x.natAbs=0
 . rw [h0];simpa using hn
 . exact (Nat.log2_lt h0).mpr h
theorem Fr.YE {t b q r:Int} {n:Nat} (h:Fr t b q r) (k:Bd n t):Bd n q:=k.le h.Pn
theorem Fr.Ys {t b q r:Int} {n:Nat} (h:Fr t b q r) (k:Bd n b):Bd n r:=k.le h.RJ
end Mth
namespace Bit
def rooms (n:Nat):List Nat:=(List.range 61).filter n.testBit
theorem dJ {n k:Nat}:k∈rooms n↔k<61/\n.testBit k=true:=by
 unfold rooms;rw [aof,aoL]
theorem kx (n:Nat):(rooms n).Pairwise (· < ·):=(apB).filter _
theorem iR {n m k:Nat} (h:n<2 ^ m) (hk:m<=k):n.testBit k=false:=Nat.testBit_lt_two_pow (abE h (aib (by decide) hk))
theorem A9 {n m:Nat} (h:n<2 ^ m) (hm:m<=61):(List.range m).filter n.testBit=rooms n:=by
 unfold rooms
 obtain ⟨d,hd⟩:∃ d,61=m+d:=⟨61 - m,by lia⟩
 have e61:List.range 61=List.range (m+d):=by rw [hd]
 rw [e61,List.range_add,ag3]
 have:(List.map (m + ·) (List.range d)).filter n.testBit=[]:=by
   rw [apC]
   intro a ha
   obtain ⟨b,_,rfl⟩:=List.mem_map.mp ha
   rw [iR h (by lia)]
   exact aaR
 rw [this,aji]
def sumOf (l:List Nat):Nat:=l.foldl (λ n r=>n ||| 2 ^ r) 0
theorem yT:∀ (l:List Nat) (a k:Nat),(l.foldl (λ n r=>n ||| 2 ^ r) a).testBit k=(a.testBit k || decide (k∈l))
 | [],a,k=>by simp
 | r::l,a,k=>by
   rw [List.foldl_cons,yT l,apk,aoN,Bool.or_assoc]
   congr 1
   by_cases h:r=k
   . subst h;simp
   . have:decide (k∈r::l)=decide (k∈l):=by simp [alt h]
     rw [this];simp [h]
theorem mq (l:List Nat) (k:Nat):(sumOf l).testBit k=decide (k∈l):=by
 unfold sumOf;rw [yT];simp
theorem Gx {l:List Nat} {m:Nat} (h:∀ r∈l,r<m):sumOf l<2 ^ m:=by
 refine aom _ λ i hi=>?_
 rw [mq]
 exact abC λ q=>absurd (h i q) (by lia)
theorem xQ {l:List Nat} (h:∀ r∈l,r<61) (hs:l.Pairwise (· < ·)):rooms (sumOf l)=l:=by
 have DQ:∀ k,k∈rooms (sumOf l)↔k∈l:=λ k=>by
   rw [dJ,mq]
   constructor
   . rintro ⟨_,q⟩;exact aop q
   . intro q;exact ⟨h k q,abY q⟩
 have uniq:∀ (a b:List Nat),a.Pairwise (· < ·)->b.Pairwise (· < ·)->(∀ k,k∈a↔k∈b)->a=b:=by
   intro a
   induction a with
   | nil =>
     intro b _ _ hm
     cases b with
     | nil=>rfl
     | cons y b=>exact absurd ((hm y).mpr adY) (by simp)
   | cons x a ih =>
     intro b ha hb hm
     cases b with
     | nil=>exact absurd ((hm x).mp adY) (by simp)
     | cons y b =>
       obtain ⟨ha1,ha2⟩:=List.pairwise_cons.mp ha
       obtain ⟨EY,Mz⟩:=List.pairwise_cons.mp hb
       have exy:x=y:=by
         rcases List.mem_cons.mp ((hm x).mp adY) with q|q
         . exact q
         . rcases List.mem_cons.mp ((hm y).mpr adY) with q2|q2
           . exact q2.symm
           . have:=EY x q;have:=ha1 y q2;lia
       subst exy
       rw [ih b ha2 Mz λ k=>?_]
       constructor
       . intro q
         rcases List.mem_cons.mp ((hm k).mp (abO _ q)) with z|z
         . subst z;exact absurd (ha1 k q) (ag7 _)
         . exact z
       . intro q
         rcases List.mem_cons.mp ((hm k).mpr (abO _ q)) with z|z
         . subst z;exact absurd (EY k q) (ag7 _)
         . exact z
 exact uniq _ _ (kx _) hs DQ
def parts (l:List Nat):List Nat:=l.foldl (λ ps r=>ps++ps.map (· ||| 2 ^ r)) [0]
theorem AA {p r:Nat} (h:p<2 ^ r):p ||| 2 ^ r=p+2 ^ r:=by
 have:=apb h 1
 rw [apS] at this
 rw [Nat.or_comm,← this,aoi]
structure Ok (ps l:List Nat):Prop where
 len:ps.length=2 ^ l.length
 first:ps[0]?=some 0
 last:ps[ps.length - 1]?=some (sumOf l)
 rise:ps.Pairwise (· < ·)
 sub:∀ p∈ps,∀ k,p.testBit k=true->k∈l
theorem Fg:Ok [0] []:=⟨rfl,rfl,rfl,by simp,λ p hp k hk=>by
 have:p=0:=by simpa using hp
 subst this;simp at hk⟩
theorem Jc {ps l:List Nat} {r:Nat} (h:Ok ps l) (hr:∀ x∈l,x<r):Ok (ps++ps.map (· ||| 2 ^ r)) (l++[r]):=by
 have small:∀ p∈ps,p<2 ^ r:=λ p hp=>aom _ λ i hi=>by
   cases e:p.testBit i with
   | false=>rfl
   | true=>have:=hr i (h.sub p hp i e);lia
 have pos:0<ps.length:=by rw [h.len];exact Nat.two_pow_pos _
 refine ⟨?_,?_,?_,?_,?_⟩
 . rw [aas,At,h.len,aas,alS,apI];lia
 . rw [aeF pos];exact h.first
 .
  rw [aas,At,aea (by lia),RS]
  have e:ps.length+ps.length - 1 - ps.length=ps.length - 1:=by lia
  rw [e,h.last]
  show some (sumOf l ||| 2 ^ r)=some (sumOf (l++[r]))
  unfold sumOf
  rw [ai6];rfl
 .
  rw [List.pairwise_append]
  refine ⟨h.rise,?_,λ a ha b hb=>?_⟩
  . rw [List.pairwise_map]
    refine List.Pairwise.imp_of_mem ?_ h.rise
    intro a b ha hb EZ
    rw [AA (small a ha),AA (small b hb)];lia
  . obtain ⟨c,hc,rfl⟩:=List.mem_map.mp hb
    have:=small a ha
    rw [AA (small c hc)];lia
 .
  intro p hp k hk
  rcases List.mem_append.mp hp with q|q
  . exact age _ (h.sub p q k hk)
  .
   obtain ⟨c,hc,rfl⟩:=List.mem_map.mp q
   rw [apk,aph] at hk
   rcases hk with z|z
   . exact age _ (h.sub c hc k z)
   . rw [aoN] at z
     have:=aop z
     subst this
     exact aaN _ (by simp)
theorem wX:∀ (b a ps:List Nat),Ok ps a->(a++b).Pairwise (· < ·)->Ok (b.foldl (λ ps r=>ps++ps.map (· ||| 2 ^ r)) ps) (a++b)
 | [],a,ps,h,_=>by simpa using h
 | r::b,a,ps,h,hs=>by
   rw [List.foldl_cons]
   have e:a++r::b=(a++[r])++b:=by simp
   have hr:∀ x∈a,x<r:=λ x hx=>(List.pairwise_append.mp hs).2.2 x hx r adY
   rw [e] at hs ⊢
   exact wX b (a++[r]) _ (Jc h hr) hs
theorem FC {n:Nat}:Ok (parts (rooms n)) (rooms n):=by
 have:=wX (rooms n) [] [0] Fg (by simpa using kx n)
 rw [amN] at this
 exact this
theorem Jj {p n:Nat} (h:∀ k,p.testBit k=true->n.testBit k=true):p &&& n=p:=by
 refine aim λ k=>?_
 rw [afj]
 cases e:p.testBit k with
 | false=>rfl
 | true=>rw [h k e];rfl
theorem GL {n p:Nat} (hp:p∈parts (rooms n)):p &&& n=p:=Jj λ k hk=>(dJ.mp (FC.sub p hp k hk)).2
theorem Gn {n r:Nat} (hr:r<61) (h:n.testBit r=false):(rooms (n ||| 2 ^ r)).length=(rooms n).length+1:=by
 have c:∀ (l:List Nat),l.Nodup->(l.filter (n ||| 2 ^ r).testBit).length=(l.filter n.testBit).length+(if r∈l then 1 else 0):=by
   intro l
   induction l with
   | nil=>intro _;rfl
   | cons x l ih =>
     intro hl
     obtain ⟨h1,h2⟩:=List.nodup_cons.mp hl
     have e:=ih h2
     have hx:(n ||| 2 ^ r).testBit x=(n.testBit x || decide (r=x)):=by rw [apk,aoN]
     rw [ao4,ao4,hx]
     by_cases q:r=x
     . subst q
       rw [h]
       simp only [decide_true,apN,anK,acq,e,aa8 h1,abj,true_or]
       simp
     . have q':(r∈x::l)↔r∈l:=by simp [q]
       have d:decide (r=x)=false:=abC q
       rw [d,Bool.or_false]
       cases n.testBit x with
       | true=>simp only [anK,acq,e];by_cases z:r∈l<;>simp [z,q]<;>lia
       | false=>simp only [an9,aoe,e];by_cases z:r∈l<;>simp [z,q]
 have:=c (List.range 61) List.nodup_range
 rw [abl (List.mem_range.mpr hr)] at this
 exact this
end Bit
namespace L2
open PySem PySem.Spec PyProof.Rows Mth
theorem Bm:bootBuiltins "abs" = some (.builtin "abs"):=by decide +kernel
theorem cJ:bootBuiltins "len" = some (.builtin "len"):=by decide +kernel
theorem bO:bootBuiltins "isinstance" = some (.builtin "isinstance"):=by decide +kernel
theorem Ft:bootBuiltins "all" = some (.builtin "all"):=by decide +kernel
theorem fC:bootBuiltins "tuple" = some (.type "tuple"):=by decide +kernel
theorem nS:bootBuiltins "list" = some (.type "list"):=by decide +kernel
theorem NY:bootBuiltins "int" = some (.type "int"):=by decide +kernel
theorem Lh:bootBuiltins "bool" = some (.type "bool"):=by decide +kernel
theorem CD {n:Nat} {x:Int} (h:Bd n x):Builtin.Int.intBits x<=n:=PySem.intBits_le_iff.mpr h
theorem JX {n:Nat} {x:Int} (h:Builtin.Int.intBits x<=n):Bd n x:=PySem.intBits_le_iff.mp h
section
variable {X:Cx}
def LK (i j:Int):Prop:=∃ m n,Bd m i/\Bd n j/\m+n<=100000000
def Mo (_ j:Int):Prop:=j≠0/\Bd 8999 j
theorem IB:jz X (binaryOp .Mult) (rI LK λ i j => .int (i * j)):=ON λ _ _ _ _ _ _ _ hc q=>by
 obtain ⟨m,n,h1,h2,h3⟩:=hc
 exact mul_int q (IntMulOk.of_le (CD h1) (CD h2) (by lia))
theorem Hy:jz X (binaryOp .FloorDiv) (rI Mo λ i j => .int (i.fdiv j)):=ON λ _ _ _ _ _ _ _ hc q=>by
 have h2:Bd 8999 _:=hc.2
 exact floordiv_int hc.1 q (.inl (PyProof.noPylong_of_log2 (abE (h2.log (by decide)) (by decide))))
inductive TH (K:W.Frag) (x:V) (y:V) (H:Hp) (Q:VK):Prop
 | mk (p xs i v:_) (_:x = .ref p) (_:y = .int i) (_:(bg K H p xs∨bS K H p xs)) (_:tE xs i=some v) (_:Q v H)
theorem au:Wr X (TH X.K):=by
 intro value slice pins s U H x y v u Q I rx ry h hs
 obtain ⟨p,xs,i,w,e1,e2,hq,e3,q⟩:=h
 rcases hq with hq|hq
 . exact J4 value slice pins s U H x y v u Q I rx ry ⟨p,xs,i,w,e1,e2,hq,e3,q⟩ hs
 . exact Oe value slice pins s U H x y v u Q I rx ry ⟨p,xs,i,w,e1,e2,hq,e3,q⟩ hs
theorem qj:hZ X (.builtin "isinstance") (λ xs H Q=>∃ x c t cv b,xs=[x,c]/\pT X.K H x t/\RelV c cv/\W.kitOne X.K t cv=some b/\Q (.bl b) H):=by
 intro pins s U H xs us Q I r h
 obtain ⟨x,c,t,cv,b,rfl,ty,rc,e,q⟩:=h
 obtain ⟨u,w',rfl,r1,r2⟩:=vals2 r
 have:w'=cv:=by
   cases c with
   | bT=>cases r2;cases rc;rfl
   | bl b=>cases r2;cases rc;rfl
   | ref a=>cases r2;cases rc;rfl
   | ty n=>cases r2;cases rc;rfl
   | int i=>exact absurd e (by obtain ⟨k,rfl⟩:=rc;intro z;unfold W.kitOne W.kitCls at z;cases ty<;>simp at z)
   | str i=>exact absurd e (by obtain ⟨k,rfl⟩:=rc;intro z;unfold W.kitOne W.kitCls at z;cases ty<;>simp at z)
   | Eu i=>exact absurd e (by obtain ⟨k,rfl⟩:=rc;intro z;unfold W.kitOne W.kitCls at z;cases ty<;>simp at z)
   | Ly i=>exact absurd e (by obtain ⟨k,rfl⟩:=rc;intro z;unfold W.kitOne W.kitCls at z;cases ty<;>simp at z)
 subst this
 exact DV I r1 ty e λ tk=>⟨.bl b,H,I.tok _,rfl,q⟩
end
def gC (K:W.Frag) (mg:Str->Option Value) (x:Str) (st:Stmt):Prop:=∃ f fd,mg x=some (.ref f)/\IP K x x st f fd
def Def (P:Program) (w:World) (K:W.Frag) (mg:Str->Option Value) (base:Heap) (x:Str) (k:Nat) (ps:List Str) (sp:Sp):Prop :=
 ∃ f fd,mg x=some (.ref f)/\W.keepIn K (.ref f)=true/\Binds K fd ps []/\ja P w K mg base tL k f fd ps sp
section
variable {P:Program} {w:World} {K:W.Frag} {mg:Str->Option Value} {base:Heap}
theorem gC.def {x:Str} {st:Stmt} {N ps:List Str} {k:Nat} {sp:Sp} (h:gC K mg x st) (S:aA N ps (ao st)) (len:∀ vs H Q E,sp vs H Q E->vs.length=ps.length)
   (hb:∀ (kV doc pm:Value) (an:Option Addr) (bB ct:Value) (us:List Value),us.length=ps.length->bindArgs (W.fnOf x x (cm st) (bx st) (ao st) .none kV doc pm an bB ct) ⟨us,[]⟩=pure (ps.zip us))
   (dZ:∀ (f:Addr) (bB:Value) (A:Around) (outer:List Env) (s:Shared) (H:Hp) (vs:List V) (Q:VK) (E:XK),cR k (A.deeper (envOfC x (ao st) s.heap.objs.size f bB))->sp vs H Q E ->
     ∃ t,qg (fi tL P w K mg base N x (ao st) f bB A outer s H E).zV (bx st) t/\t { nx:=λ _ H'=>Q .bT H',rt:=Q } (start N vs) H):Def P w K mg base x (k+1) ps sp:=by
 obtain ⟨f,fd,hm,F⟩:=h
 exact ⟨f,fd,hm,F.kp,F.binds hb,F.ok S len λ bB A outer s H vs Q E hr hs=>dZ f bB A outer s H vs Q E hr hs⟩
theorem IP.Nw {x qual:Str} {st:Stmt} {f:Addr} {fd:FuncData} {p:Str} (F:IP K x qual st f fd)
   (h:∀ (kV doc pm:Value) (an:Option Addr) (bB ct:Value) (u:Value),bindArgs (W.fnOf x qual (cm st) (bx st) (ao st) .none kV doc pm an bB ct) ⟨[u],[]⟩=pure [(p,u)]) (s:Shared) (u:Value):BindsTo s fd ⟨[u],[]⟩ [(p,u)]:=by
 obtain ⟨oc,od,kV,doc,pm,an,bB,ct,xn,rfl,lk,mR⟩:=F.ex
 exact .of_eq (h kV doc pm an bB ct u)
end
section
variable {X:Cx} {x:Str} {p pos:Pos} {e:Expr} {es:List Expr} {t:TA} {k:Nat} {ps:List Str} {sp:Sp}
theorem ak (D:Def X.prog X.w X.K X.mg X.base x k ps sp) (hr:cR k X.A) (ha:PA X (e::es) t) (hg:Gl X x:=by rfl) (vG:(x == ("__debug__" : Str))=false:=by decide)
   (he:starEach (e::es) X.env=(false,eval e X.env)::starEach es X.env:=by rfl) (lA:(backTo pos (starEach es X.env)).any (·.1)=false:=by rfl):PE X (.Call (.Name x p) (e::es) [] pos) (CP sp [] E0 t):=by
 obtain ⟨f,fd,hm,hk,hb,F⟩:=D
 exact Cd F hr hg hm hk hb .nil yx ha vG he lA
end
theorem Ab {n:Int} {m:Nat} (h:(W.WData.int n).weight<=m):Bd m n:=by
 refine JX ?_
 simpa only [W.WData.weight,Builtin.Int.intBits] using h
end L2
namespace Att
open PySem PySem.W PySem.Calls PyProof.Rows Mth
theorem wM {l:OpenLaw} {n:Nat} {q:Program} {loose:List Str} {XP:(Str->Option Value)->Heap->Prop} {YP:World->Heap->Prop} {d:DefRec}
   (hn:l.most=some n) (Ur:d.params.defaults=[])
   (call:∀ (w:World) (s₀ s₁:Shared) (mg mb:Str->Option Value) (fa:Addr) (o:Obj) (pm cd doc:Value) (a:Addr) (vs:List Value) (ns:List Int),
     Ground q loose [] XP w s₀ mg mb s₁.heap->YP w s₁.heap ->
     s₁.heap.get? fa=some o->o.data = .func (docDef d.name d.params d.body d.scope pm cd doc)->s₁.heap.CodeRec cd d.name->mg d.name=some (.ref fa) ->
     s₁.heap.get? a=some { cls:=.type "list",data:=.seq vs.toArray }->IntsAre vs ns->ns.length<=n->(∀ z∈ns,Bd 1048576 z)->s₁.gens=#[] ->
     codeAny (model l.prog w) callerA (.call (.ref fa) ⟨[.ref a],[]⟩) (λ r s'=>r = .ok (.ret (.bool true))/\OldK s₁.heap s'.heap/\s'.os=s₁.os/\AllBare s'.gens) s₁) :
   WalkO q loose XP YP l.row.toRowW d [] (λ f vs=>PySem.call f vs):=by
 intro w s₀ s₁ mg mb G Y fa o pm cd doc dV kV ho hd mR hD OP hg args vals as Lv ajh Pl HS hlo
 obtain rfl:dV = .none:=Dflts.none hD Ur
 obtain rfl:kV = .none:=Dflts.noKw hD
 obtain ⟨a,vs,ns,rfl,rfl,NR,hints,hlen⟩:=Ep hn Lv HS
 have CT:∀ z∈ns,Bd 1048576 z:=λ z hz=>by
   have h1:=layableW_arg ajh _ (List.mem_singleton.mpr rfl)
   have h2:=layableW_item h1 (.int z) (List.mem_map.mpr ⟨z,hz,rfl⟩)
   exact L2.Ab (afY (layableW_iff.mp h2).2.2 (by decide))
 refine enter_call (aow (call w s₀ s₁ mg mb fa o pm cd doc a vs ns G Y ho (fd_plain hd) mR OP NR hints hlen CT hg) λ r s' hq=>?_)
 obtain ⟨rfl,h2,h3,h4⟩:=hq
 exact ⟨.inl ⟨.bool true,.bool true,[],rfl,λ _=>rfl,.bool true,EO l _,λ _=>⟨List.Pairwise.nil,λ _ hm=>(nomatch hm)⟩⟩,h2,h3,h4⟩
end Att
namespace L2
open PySem PySem.Spec PyProof.Rows Mth
variable {C L T fI i1 i2:Addr} {E:XK} {H H':Hp} {ur:List Value} {eC np qy:Pos} {BI xs:List V} {elt e₀ iter tg:Expr} {elts ifs:List Expr} {g:TG} {h' h2:Heap} {i nt t' x1:Nat} {o:HO} {oI oe:Obj} {pins:List (Addr×Obj)} {te:TE} {v:V} {U:St}
inductive Gu (K:W.Frag) (vs:List V) (H:Hp) (Q:VK) (_E:XK):Prop
 | mk (a:Addr) (ns:List Int) (_:vs=[.ref a]) (_:bg K H a (ns.map V.int)) (_:ns.length<=63) (_:(∀ z∈ns,Bd 1048576 z)) (_:∀ H',Q (.bl true) H')
theorem GZ {l:W.OpenLaw} {k:Nat} {q:Program} {loose:List Str} {XP:(Str->Option Value)->Heap->Prop} {YP:World->Heap->Prop} {d:DefRec} {K:Params->W.Frag} {x:Str} (hn:l.most=some 63) (Ur:d.params.defaults=[]) (hr:cR k callerA) (hY:∀ (w:World) (h:Heap),YP w h->(K w.params).In h) (F:∀ (w:World) (mg:Str->Option Value) (fa:Addr) (h:Heap),(K w.params).In h->h.Ns mainGlobals mg->mg d.name=some (.ref fa) ->
     ∃ fd:FuncData,(∀ (s:Shared) (u:Value),BindsTo s fd ⟨[u],[]⟩ [(x,u)]) /\
       ∀ base:Heap,(K w.params).In base->base.Ns mainGlobals mg->ja l.prog w (K w.params) mg base tL k fa fd [x] (Gu (K w.params))) :
   W.WalkO q loose XP YP l.row.toRowW d [] (λ f vs=>PySem.call f vs):=by
 refine Att.wM hn Ur λ w s₀ s₁ mg mb fa o pm cd doc a vs ns G Y ho hd mR OP NR hints hlen CT hg=>?_
 have KX:=hY w _ Y
 obtain ⟨fd,hb,hF⟩:=F w mg fa _ KX G.T.g OP
 exact Ff KX G.T.g G.T.b G.T.builtins G.T.nolimit hg NR hints (afY hlen (by decide)) hr hF hb (λ H hO hS=>⟨a,ns,rfl,hS,hlen,CT,λ _=>rfl⟩) λ H e s' z=>z
section
variable {X:Cx}
inductive SW  (x:V) (y:V) (H:Hp) (Q:VK):Prop
 | mk (i j:_) (_:x = .int i) (_:y = .int j) (_:∀ r:Int,r=i+j->Q (.int r) H)
inductive U1  (x:V) (y:V) (H:Hp) (Q:VK):Prop
 | mk (i j:_) (_:x = .int i) (_:y = .int j) (_:∀ r:Int,r=i - j->Q (.int r) H)
inductive QD  (x:V) (y:V) (H:Hp) (Q:VK):Prop
 | mk (i j:_) (_:x = .int i) (_:y = .int j) (_:LK i j) (_:∀ r:Int,r=i * j->Q (.int r) H)
inductive QN  (x:V) (y:V) (H:Hp) (Q:VK):Prop
 | mk (i j:_) (_:x = .int i) (_:y = .int j) (_:Mo i j) (_:∀ r:Int,r=i.fdiv j->Q (.int r) H)
inductive TX  (x:V) (y:V) (H:Hp) (Q:VK):Prop
 | mk (i j:_) (_:x = .int i) (_:y = .int j) (_:Ks i j) (_:∀ r:Int,r=i ^ j.toNat->Q (.int r) H)
inductive P8  (x:V) (y:V) (H:Hp) (Q:VK):Prop
 | mk (i j:_) (_:x = .int i) (_:y = .int j) (_:Ks i j) (_:∀ r:Int,r=i * 2 ^ j.toNat->Q (.int r) H)
inductive Sq  (x:V) (y:V) (H:Hp) (Q:VK):Prop
 | mk (i j:_) (_:x = .int i) (_:y = .int j) (_:0<=j) (_:∀ r:Int,r=i / 2 ^ j.toNat->Q (.int r) H)
inductive amr  (x:V) (y:V) (H:Hp) (Q:VK):Prop
 | mk (i j:_) (_:x = .int i) (_:y = .int j) (_:∀ r:Int,r=Builtin.bitOr i j->Q (.int r) H)
inductive Q7  (x:V) (y:V) (H:Hp) (Q:VK):Prop
 | mk (i j:_) (_:x = .int i) (_:y = .int j) (_:∀ r:Int,r=Builtin.bitAnd i j->Q (.int r) H)
inductive rLM  (x:V) (y:V) (H:Hp) (Q:VK):Prop
 | mk (i j:_) (_:x = .int i) (_:y = .int j) (_:0<j) (_:∀ r:Int,0<=r->r<j->r=i % j->Q (.int r) H)
theorem aG:jz X (binaryOp .Add) SW:=λ pins s U H x y v u Q I rx ry ⟨i,j,e1,e2,q⟩=>NS pins s U H x y v u Q I rx ry ⟨i,j,e1,e2,q _ rfl⟩
theorem cO:jz X (binaryOp .Sub) U1:=λ pins s U H x y v u Q I rx ry ⟨i,j,e1,e2,q⟩=>Og pins s U H x y v u Q I rx ry ⟨i,j,e1,e2,q _ rfl⟩
theorem bf:jz X (binaryOp .Mult) QD:=λ pins s U H x y v u Q I rx ry ⟨i,j,e1,e2,c,q⟩=>IB pins s U H x y v u Q I rx ry ⟨i,j,e1,e2,c,q _ rfl⟩
theorem hX:jz X (binaryOp .FloorDiv) QN:=λ pins s U H x y v u Q I rx ry ⟨i,j,e1,e2,c,q⟩=>Hy pins s U H x y v u Q I rx ry ⟨i,j,e1,e2,c,q _ rfl⟩
theorem rA:jz X (binaryOp .Pow) TX:=λ pins s U H x y v u Q I rx ry ⟨i,j,e1,e2,c,q⟩=>Nq pins s U H x y v u Q I rx ry ⟨i,j,e1,e2,c,q _ rfl⟩
theorem JD:jz X (binaryOp .LShift) P8:=λ pins s U H x y v u Q I rx ry ⟨i,j,e1,e2,c,q⟩=>Ox pins s U H x y v u Q I rx ry ⟨i,j,e1,e2,c,q _ rfl⟩
theorem wa:jz X (binaryOp .RShift) Sq:=λ pins s U H x y v u Q I rx ry ⟨i,j,e1,e2,c,q⟩=>Ny pins s U H x y v u Q I rx ry ⟨i,j,e1,e2,c,q _ rfl⟩
theorem Nj:jz X (binaryOp .BitOr) amr:=λ pins s U H x y v u Q I rx ry ⟨i,j,e1,e2,q⟩=>Qc pins s U H x y v u Q I rx ry ⟨i,j,e1,e2,q _ rfl⟩
theorem iK:jz X (binaryOp .BitAnd) Q7:=λ pins s U H x y v u Q I rx ry ⟨i,j,e1,e2,q⟩=>NA pins s U H x y v u Q I rx ry ⟨i,j,e1,e2,q _ rfl⟩
theorem gz:jz X (binaryOp .Mod) rLM:=λ pins s U H x y v u Q I rx ry ⟨i,j,e1,e2,c,q⟩ =>
 Nc pins s U H x y v u Q I rx ry ⟨i,j,e1,e2,c,q _ (ape _ (by lia)) (aoT _ c) rfl⟩
theorem pU:hZ X (.builtin "abs") (λ xs H Q=>∃ i,xs=[.int i]/\∀ r:Int,r=i.natAbs->Q (.int r) H) :=
 λ pins s U H xs us Q I r ⟨i,e,q⟩=>F3 pins s U H xs us Q I r ⟨i,e,q _ (by split<;>lia)⟩
theorem bv:hZ X (.builtin "len") (λ xs H Q=>∃ p ys,xs=[.ref p]/\(bg X.K H p ys∨bS X.K H p ys)/\∀ r:Int,r=ys.length->Q (.int r) H) :=
 λ pins s U H xs us Q I r ⟨p,ys,e,hq,q⟩=>wQ pins s U H xs us Q I r ⟨p,ys,e,hq,q _ rfl⟩
def agu (t:TS):TS:=λ D U H=>∃ P:St->Hp->Prop,t { D with nx:=P } U H/\∀ σ' H',P σ' H'->D.nx σ' H'
theorem gp {st:Stmt} {t:TS} (h:PS X st t):PS X st (agu t):=by
 intro pins s U H D I hw
 obtain ⟨P,h1,h2⟩:=hw
 refine cX (h pins s U H { D with nx:=P } I h1) λ f s1 q=>?_
 cases f with
 | next =>
   obtain ⟨σ',H',I',q⟩:=q
   exact ⟨σ',H',I',h2 σ' H' q⟩
 | ret v=>exact q
 | brk=>exact q
 | cont=>exact q
end
theorem oP {c A B:Prop} [Decidable c] (hc:c) (h:A):if decide c=true then A else B:=by
 rw [abY hc];exact fw h
theorem ny {c A B:Prop} [Decidable c] (hc:¬ c) (h:B):if decide c=true then A else B:=by
 rw [abC hc];exact dF h
theorem d6 {c A B:Prop} [Decidable c] (h1:c->A) (h2:¬ c->B):if decide c=true then A else B:=by
 by_cases h:c
 . exact oP h (h1 h)
 . exact ny h (h2 h)
theorem mO {c A B:Prop} [Decidable c] (h1:¬ c->A) (h2:c->B):if (!decide c)=true then A else B:=by
 by_cases h:c
 . exact cY h (h2 h)
 . rw [abC h];exact fw (h1 h)
theorem Fo {c A B:Prop} [Decidable c] (hc:¬ c) (h:A):if (!decide c)=true then A else B:=by
 rw [abC hc];exact fw h
theorem blT {c:Prop} [Decidable c] (h:c) {Q:VK} (q:Q (.bl true) H):Q (.bl (decide c)) H:=by rw [abY h];exact q
theorem eK {a b:Int}:V.int a=V.int b↔a=b:=⟨λ e=>by cases e;rfl,λ e=>by rw [e]⟩
theorem ai {p:Addr} (h:H p=none):aB H (upd H p o):=λ b u e=>by rw [aD (aC e h)];exact e
theorem aB.tup {K:W.Frag} {a:Addr} (e:aB H H') (h:bS K H a xs):bS K H' a xs:=by
 rcases h with (h|⟨o,h⟩)|h
 . exact .inl (.inl (e _ _ h))
 . exact .inl (.inr ⟨o,e _ _ h⟩)
 . exact .inr h
theorem mT {n:Nat} {x:Int} (h:x.natAbs<2 ^ n:=by decide):Bd n x:=h
theorem bdS {x:Int} (n:Nat) (lo : -(2 ^ 100)<x) (hi:x<2 ^ 100) (h:100<=n:=by decide):Bd n x:=by
 have:Bd 100 x:=by unfold Bd;lia
 exact this.mono h
theorem vx (K:W.Frag):W.kitOne K (.type "int") (.type "bool")=some false:=by
 show (if W.kitMeta "bool" = true then ((PySem.fastBuiltinMro "int").map (·.contains (Value.type "bool"))) else none)=some false
 decide +kernel
theorem mS {x y:V}:[x,y].length<=sizeLine:=by show 2<=sizeLine;decide
theorem CO {x y z:V}:[x,y,z].length<=sizeLine:=by show 3<=sizeLine;decide
inductive No  (vs:List V) (H:Hp) (Q:VK) (_E:XK):Prop
 | mk (a b:Int) (_:vs=[.int a,.int b]) (_:∀ r:Int,r=((Int.gcd a b:Nat):Int)->Q (.int r) H)
inductive yS  (vs:List V) (H:Hp) (Q:VK) (_E:XK):Prop
 | mk (t b:Int) (_:vs=[.int t,.int b]) (_:b≠0) (_:Bd 4000 b) (_:∀ q r p H',Fr t b q r->aB H H'->H' p=some (.tup [.int q,.int r])->Q (.ref p) H')
inductive xH (f:Int->Int->Int->Int->Int) (K:W.Frag) (vs:List V) (H:Hp) (Q:VK) (_E:XK):Prop
 | mk (p1 p2 a b c d:_) (_:vs=[.ref p1,.ref p2]) (_:bS K H p1 [.int a,.int b]) (_:bS K H p2 [.int c,.int d]) (_:0<b) (_:0<d) (_:Bd 1000 a) (_:Bd 1000 b) (_:Bd 1000 c) (_:Bd 1000 d) (_:∀ q r p H',Fr (f a b c d) (b * d) q r->aB H H'->H' p=some (.tup [.int q,.int r])->Q (.ref p) H')
inductive Gv (K:W.Frag) (vs:List V) (H:Hp) (Q:VK) (_E:XK):Prop
 | mk (p1 p2 a b c d:_) (_:vs=[.ref p1,.ref p2]) (_:bS K H p1 [.int a,.int b]) (_:bS K H p2 [.int c,.int d]) (_:Bd 1000 a) (_:Bd 1000 b) (_:Bd 1000 c) (_:Bd 1000 d) (_:Q (.bl (decide (a * d<c * b))) H)
inductive zZ (K:W.Frag) (vs:List V) (H:Hp) (Q:VK) (_E:XK):Prop
 | mk (a:Addr) (ns:List Int) (k:Int) (_:vs=[.ref a,.int k]) (_:bg K H a (ns.map V.int)) (_:0<=k) (_:∀ z,(z∈ns∨z=0)->Q (.int z) H)
inductive FF  (vs:List V) (H:Hp) (Q:VK) (_E:XK):Prop
 | mk (t b:Int) (_:vs=[.int t,.int b]) (_:0<b) (_:Bd 4000 b) (_:∀ q r p H',Fr t b q r->aB H H'->H' p=some (.tup [.int q,.int r])->Q (.ref p) H')
def cI (X:Cx) (N':List Str) (scope:Scope) (cl:List (Str×Addr)) (C:Addr) (s:Shared) (H:Hp) (ex:List Addr):Cx :=
 { X with N:=N',env:=compEnvC scope cl C X.env,s₀:=s,H₀:=H,outer:=X.stack,ex:=ex,fn:=λ _=>false,pn:=[],xe:=λ _ _=>False }
theorem Un.sN {fs ex:List Addr} {h h'':Heap} (u:Un fs ex H H' h h') (sb:Heap.SameBut C h' h'') (hC:h.get? C=none):Un fs ex H H' h h'':=by
 have ne:∀ b o,h.get? b=some o->b≠C:=λ b o e z=>by rw [z,hC] at e;cases e
 exact ⟨λ b o e n hb hx=>sb.extBut b o (ne b o e) (u.keep b o e n hb hx),λ b o e n hb hx=>by
     obtain ⟨sl,q⟩:=u.slot b o e n hb hx
     exact ⟨sl,sb.extBut b _ (ne b o e) q⟩,u.free,λ b o e hx=>by
     obtain ⟨o',q⟩:=u.there b o e hx
     exact ⟨o',sb.extBut b o' (ne b o e) q⟩,u.og,u.nu,u.on⟩
theorem j2.sN {P:Program} {w:World} {h:Heap} (x:j2 P w H h) (sb:Heap.SameBut C h h') (hn:H C=none):j2 P w H h':=λ a o e =>
 (x a o e).fB (λ b u hb q=>sb.extBut b u (λ z=>by
   subst z
   rcases hb with z|z
   . rw [z,e] at hn;cases hn
   . rw [z] at hn;cases hn) q) (λ _ q=>q) λ _ _ q=>q
def LF (X:Cx) (ifs:List Expr) (tt:TT):Prop :=
 ∀ (pins:List (Addr×Obj)) (s:Shared) (U:St) (H:Hp) (Q:Bool->Hp->Prop),Inv X pins U H s->tt U H Q ->
   wpAny (model X.prog X.w) X.A (forIn ifs true λ c r=>if r=true then do let ok ← isTrue c X.env (eval c X.env);pure (ForInStep.yield ok) else pure (ForInStep.yield r)) (TP X pins U Q) X.xe s
def ajj:TT:=λ _ H Q=>Q true H
theorem fM {X:Cx}:LF X [] ajj:=λ _ _ _ H _ I h=>wpAny_tests_nil ⟨H,I,h⟩
theorem jA {X:Cx} {c:Expr} {tt:TT} (hc:PT X c tt):LF X [c] tt:=λ pins s U H Q I h=>wpAny_tests_one (hc pins s U H Q I h)
def fY (env:Env):List (Str×NameKind)->List (Str×Addr)->List (Str×Addr)
 | [],acc=>acc
 | y::r,acc=>fY env r (if (y.2 == NameKind.free)=true then (y.1,(env.cells.lookup y.1).getD 0)::acc else acc)
theorem wR (env:Env):∀ (names:List (Str×NameKind)) (acc:List (Str×Addr)),(∀ y∈names,y.2 = .free->∃ c,env.cells.lookup y.1=some c) ->
   (forIn names acc λ x __s=>if (x.snd == NameKind.free)=true then do
       let __do_lift ← cellOf env x.fst
       pure (ForInStep.yield ((x.fst,__do_lift)::__s))
     else pure (ForInStep.yield __s))=(pure (fY env names acc):Sem _)
 | [],acc,_=>rfl
 | y::r,acc,h=>by
   rw [List.forIn_cons]
   by_cases hk:(y.2 == NameKind.free)=true
   .
    obtain ⟨c,e⟩:=h y adY (beq_iff_eq.mp hk)
    rw [abl hk]
    have ec:cellOf env y.1=pure c:=by unfold cellOf;rw [e]
    rw [ec]
    simp only [pure_bind]
    rw [wR env r _ λ z hz=>h z (abO _ hz)]
    simp only [fY,hk,anK,e,Option.getD_some]
   . rw [aa8 hk]
     simp only [pure_bind]
     rw [wR env r _ λ z hz=>h z (abO _ hz)]
     simp only [fY,hk,aoe]
     rfl
theorem Ja {scope:Scope} {env:Env} (h:∀ y∈scope.names,y.2 = .free->∃ c,env.cells.lookup y.1=some c):closureFor scope env=pure (fY env scope.names []):=by
 simp only [closureFor]
 rw [wR env scope.names [] h]
 simp only [pure_bind]
theorem uu {env:Env}:∀ {names:List (Str×NameKind)} {acc:List (Str×Addr)},(∀ y∈names,y.2 = .free->∃ c,env.cells.lookup y.1=some c)->(∀ x c,acc.lookup x=some c->env.cells.lookup x=some c) ->
   ∀ x c,(fY env names acc).lookup x=some c->env.cells.lookup x=some c
 | [],_,_,ha,x,c,e=>ha x c e
 | y::r,acc,h,ha,x,c,e=>by
   refine uu (names:=r) (λ z hz=>h z (abO _ hz)) ?_ x c e
   intro x c e
   by_cases hk:(y.2 == NameKind.free)=true
   .
    rw [abl hk] at e
    obtain ⟨c',e'⟩:=h y adY (beq_iff_eq.mp hk)
    rw [e',Option.getD_some,ajY] at e
    cases q:x == y.1 with
    | true=>rw [q] at e;cases e;rw [beq_iff_eq.mp q];exact e'
    | false=>rw [q] at e;exact ha x c e
   . rw [aa8 hk] at e;exact ha x c e
theorem vo {env:Env}:∀ {names:List (Str×NameKind)} {acc:List (Str×Addr)} {x:Str},(∃ c,acc.lookup x=some c)->∃ c,(fY env names acc).lookup x=some c
 | [],_,_,h=>h
 | y::r,acc,x,⟨c,h⟩=>by
   refine vo (names:=r) ?_
   by_cases hk:(y.2 == NameKind.free)=true
   . rw [abl hk,ajY]
     cases q:x == y.1 with
     | true=>exact ⟨_,rfl⟩
     | false=>exact ⟨c,h⟩
   . rw [aa8 hk];exact ⟨c,h⟩
theorem pQ {env:Env}:∀ {names:List (Str×NameKind)} {acc:List (Str×Addr)} {y:Str×NameKind},y∈names->y.2 = .free->∃ c,(fY env names acc).lookup y.1=some c
 | z::r,acc,y,hm,hk=>by
   rcases List.mem_cons.mp hm with rfl|hm
   . refine vo (names:=r) ?_
     rw [abl (beq_iff_eq.mpr hk),ajY]
     simp
   . exact pQ (names:=r) hm hk
theorem sC {scope:Scope} {env:Env} {x:Str} {k:NameKind} (h:(relabel scope env).names.lookup x=some k) (hk:k = .cell∨k = .free) (il:∀ y∈scope.names,y.2 ≠ .cell):(x,NameKind.free)∈scope.names:=by
 have hm:=akk h
 obtain ⟨⟨n,k0⟩,h1,h2⟩:=List.mem_map.mp hm
 dsimp only at h2
 split at h2
 .
  rename_i hc
  cases h2
  have:(k0 == NameKind.free)=true:=by
    simp only [ac5] at hc
    exact hc.1.1
  rw [beq_iff_eq.mp this] at h1
  exact h1
 .
  cases h2
  rcases hk with rfl|rfl
  . exact absurd rfl (il _ h1)
  . exact h1
theorem ir {env:Env}:∀ {names:List (Str×NameKind)} {x:Str},names.lookup x=some .free ->
   (names.map λ (n,k)=>if (k == NameKind.free && env.scope.kind == .function && env.kindOf n == some .cell) then (n,NameKind.cell) else (n,k)).lookup x=some .cell ∨
   (names.map λ (n,k)=>if (k == NameKind.free && env.scope.kind == .function && env.kindOf n == some .cell) then (n,NameKind.cell) else (n,k)).lookup x=some .free
 | [],_,h=>by simp at h
 | (n,k)::r,x,h=>by
   have ih:=@ir env r x
   show List.lookup x ((if (k == NameKind.free && env.scope.kind == .function && env.kindOf n == some .cell)=true then (n,NameKind.cell) else (n,k))::_)=_∨List.lookup x ((if (k == NameKind.free && env.scope.kind == .function && env.kindOf n == some .cell)=true then (n,NameKind.cell) else (n,k))::_)=_
   cases hx:x == n with
   | true =>
     simp only [ajY,hx] at h
     cases h
     by_cases hc:(NameKind.free == NameKind.free && env.scope.kind == .function && env.kindOf n == some .cell)=true
     . rw [abl hc];simp [ajY,hx]
     . rw [aa8 hc];simp [ajY,hx]
   | false =>
     simp only [ajY,hx] at h
     by_cases hc:(k == NameKind.free && env.scope.kind == .function && env.kindOf n == some .cell)=true
     . rw [abl hc];simp only [ajY,hx];exact ih h
     . rw [aa8 hc];simp only [ajY,hx];exact ih h
section
variable {prog:Program} {w:World} {A:Around} {E:Value->Shared->Prop} {R:Result->Shared->Prop} {s:Shared}
theorem zR {target:Expr} {scope:Scope} {pos:Pos} {it acc:Value} {env:Env} (I:Nat->Shared->Prop) (turn:∀ n s,I n s->wpAny (model prog w) A (pyNext it) (λ r s₁=>match r with
     | none=>R (.ok .next) s₁
     | some v=>wpAny (model prog w) A (letOwnedTupleGo target it v) (λ _ s₁=>wpAny (model prog w) A (assign target env v) (λ _ s₂ =>
         wpAny (model prog w) A (forIn ifs true λ c r=>if r=true then do let ok ← isTrue c env (eval c env);pure (ForInStep.yield ok) else pure (ForInStep.yield r)) (λ ok s₃ =>
           if ok=true then wpAny (model prog w) A (eval elt env) (λ x s₄ =>
             wpAny (model prog w) A (call (.builtin "list.append") [acc,x]) (λ _ s₅=>∃ m,m<n/\I m s₅) (notedBy (model prog w) A env λ e s'=>R (.error e) s') s₄) (notedBy (model prog w) A env λ e s'=>R (.error e) s') s₃
           else ∃ m,m<n/\I m s₃) (notedBy (model prog w) A env λ e s'=>R (.error e) s') s₂) (notedBy (model prog w) A env λ e s'=>R (.error e) s') s₁) (notedBy (model prog w) A env λ e s'=>R (.error e) s') s₁) (notedBy (model prog w) A env λ e s'=>R (.error e) s') s) (n:Nat) (h:I n s) :
   codeAny (model prog w) A (.compLoop (.ListComp elt [⟨target,iter,ifs,0⟩] scope pos) 0 it acc env) R s:=by
 refine codeAny_loop rfl I (λ n s hI=>?_) n h
 show wpAny _ A ((compTurn (.ListComp elt [⟨target,iter,ifs,0⟩] scope pos) 0 it acc env).onRaise (λ x=>do noteFrame x env;theTreesLotGoes x)) _ _ s
 refine wpAny_noted ?_
 rw [compTurn_list]
 refine T1 (aol (T1 (acV (turn n s hI) (λ r s₁ h₁=>?_) λ _ _ h'=>h')))
 cases r with
 | none=>exact abF h₁
 | some v =>
   refine T1 (acV h₁ (λ _ s₁' h₁'=>?_) λ _ _ h'=>h')
   refine T1 (acV h₁' (λ _ s₂ h₂=>T1 (acV h₂ (λ ok s₃ h₃=>?_) λ _ _ h'=>h')) λ _ _ h'=>h')
   cases ok with
   | false=>exact abF ⟨rfl,h₃⟩
   | true =>
     exact T1 (T1 (acV h₃ (λ x s₄ h₄=>T1 (acV h₄ (λ _ s₅ h₅=>abF (abF ⟨rfl,h₅⟩)) λ _ _ h'=>h')) λ _ _ h'=>h'))
end
section
variable {X:Cx}
def yz (wi:TI) (g:TG) (tt:TT) (te:TE) (nt:Nat) (sl:List Nat):TE:=λ U H Q=>wi U H λ J H1=>∀ D,H1 D=none ->
 ∃ W:Nat->Nat->List V->St->Hp->Prop,(∃ m,W 0 m [] (List.replicate nt none++sl.map λ j=>(U[j]?).join) (upd H1 D (.lst []))) /\
   ∀ i m acc σ' H',W i m acc σ' H' ->
     (J.stop i H'/\Q (.ref D) H') ∨
     (J.go i H'/\∃ N:List V->St->Hp->Prop,(∀ jc σ2 H4,N jc σ2 H4->∃ m',m'<m/\W (i+1) m' jc σ2 H4)/\∀ x H2,J.FP i H' x H2->g x σ' H2 λ σ2 H3=>tt σ2 H3 λ b H4 =>
       if b=true then te σ2 H4 λ y H5=>H5 D=some (.lst acc)/\acc.length<sizeLine/\N (acc++[y]) σ2 (upd H5 D (.lst (acc++[y])))
       else N acc σ2 H4)
theorem va {scope:Scope} {pos:Pos} {wi:TI} {tt:TT} {N':List Str} {sl:List Nat} (hc:X.calm=true) (hi:PI X tg iter wi) (hg:∀ cl C s H ex,PG (cI X N' scope cl C s H ex) tg g) (ht:∀ cl C s H ex,LF (cI X N' scope cl C s H ex) ifs tt) (he:∀ cl C s H ex,PE (cI X N' scope cl C s H ex) elt te) (Rl:N'.length=nt+sl.length) (Nu:∀ k j:Nat,sl[k]?=some j->∃ x,N'[nt+k]?=some x/\X.N[j]?=some x/\scope.names.lookup x=some .free) (hk:scope.kind = .function) (il:∀ y∈scope.names,y.2 ≠ .cell) (kq:∀ y∈scope.names,y.2 = .local->scope.names.lookup y.1=some .local) (jP:∀ y∈scope.names,y.2 = .free->X.env.kindOf y.1=some .cell∨X.env.kindOf y.1=some .free) (hs:∀ x,foldedSetIterable iter X.env x=pure x) {use:Option (Value->Sem Unit)} {Qp:Value->Shared->Prop} {s:Shared} {Q:V->Hp->Prop} {pos':Pos} (I:Inv X pins U H s) (h:yz wi g tt te nt sl U H Q) (fin:∀ (s6:Shared) (H5:Hp) (d c:Addr) m,Inv X pins U H5 s6->tS X pins H5 c->s6.heap.Ns c m->Q (.ref d) H5->compPost (model X.prog X.w) X.A X.xe use Qp (.ref d) c (.ok .next) s6) :
   wpAny (model X.prog X.w) X.A (comprehension (.ListComp elt [⟨tg,iter,ifs,0⟩] scope pos) scope X.env pos' (newList []) false (eval iter X.env) use) Qp X.xe s:=by
 have uY:∀ y∈scope.names,y.2 = .free->∃ c,X.env.cells.lookup y.1=some c:=λ y hy hf=>I.ok.has y.1 (jP y hy hf)
 have xG:=uu (env:=X.env) (names:=scope.names) (acc:=[]) uY (λ x c e=>by simp at e)
 refine wpAny_comprehension_free (use:=use) (cl:=fY X.env scope.names []) rfl hs (Ja uY) hk kq (cX (hi pins s U H _ I h) λ v s1 h1=>cX h1 λ itv s2 h2=>?_)
 obtain ⟨it,fp,tn,J,H2,rfl,I2,T,YT,f2,q⟩:=h2
 have nD:H2 s2.heap.objs.size=none:=I2.cq.fresh (aar _)
 obtain ⟨W,⟨m0,w0⟩,turn⟩:=q s2.heap.objs.size nD
 refine apj ?_ (by show 0<=sizeLine;exact afh _)
 have I3:Inv X pins U (upd H2 s2.heap.objs.size (.lst [])) { s2 with heap:=s2.heap.push { cls:=.type "list",data:=.seq ([]:List Value).toArray }} :=
   I2.laid (t':=s2.toks) (λ b u e=>YM _ e) (aar _) ⟨afh _,[],0,.nil,adt _ rfl⟩
 generalize hs3:({ s2 with heap:=s2.heap.push { cls:=.type "list",data:=.seq ([]:List Value).toArray }}:Shared)=s3 at I3 ⊢
 have hle:s2.heap.objs.size<=s3.heap.objs.size:=by rw [← hs3];show _<=(Heap.push _ _).objs.size;rw [ao0];exact anZ _
 have Kl:∀ b o,s2.heap.get? b=some o->s3.heap.get? b=some o:=λ b o e=>by rw [← hs3];exact YM _ e
 refine wpAny_newFunctionEnv il (by intro y hy;simp at hy) (λ h₁ FW hsb=>?_) hk
 have yr:∀ b o,s3.heap.get? b=some o->h₁.get? b=some o:=λ b o e=>hsb.extBut b o (acN (abh e)) (YM _ e)
 have nC:(upd H2 s2.heap.objs.size (.lst [])) s3.heap.objs.size=none:=I3.cq.fresh (aar _)
 have frC:s3.heap.get? s3.heap.objs.size=none:=an4 (aar _)
 have Q3:∀ b∈fp,b<s2.heap.objs.size:=λ b hb=>by
   obtain ⟨o,e,_⟩:=T.obj _ _ YT b hb
   exact abh e
 have fpC:∀ b∈fp,b≠s3.heap.objs.size:=λ b hb=>acN (abE (Q3 b hb) hle)
 have fpD:∀ b∈fp,b≠s2.heap.objs.size:=λ b hb=>acN (Q3 b hb)
 have fpS:∀ b∈fp,b∉ib X.stack:=λ b hb hm=>by
   rcases List.mem_cons.mp (I2.Ap b hm) with z|z
   . exact (f2 b hb).2.1 z
   . exact (f2 b hb).2.2.1 z
 have aoZ:∀ x c,(fY X.env scope.names []).lookup x=some c->X.env.cells.lookup x=some c:=xG
 have Bh:∀ b∈fp,(b∈X.ex∨X.s₀.heap.objs.size<=b)/\b≠X.env.locals/\(∀ x c,X.env.cells.lookup x=some c->c≠b)/\∀ p∈X.pn++pins,p.1≠b:=λ b hb =>
   ⟨(f2 b hb).2.2.2.1,(f2 b hb).2.1,(f2 b hb).2.2.2.2.1,(f2 b hb).2.2.2.2.2⟩
 have ok':(cI X N' scope (fY X.env scope.names []) s3.heap.objs.size s3 (upd H2 s2.heap.objs.size (.lst [])) fp).Ok:=by
   refine ⟨I3.ok.mod,hk,I3.ok.glob,I3.ok.blt,aar _,λ x y c h1 h2=>I3.ok.inj x y c (xG x c h1) (xG y c h2),λ x hx=>?_,(λ x c hf=>nomatch hf),I3.ok.hd,I3.ok.frames,.inl rfl,λ b hb=>⟨fpC b hb,λ x c e=>(Bh b hb).2.2.1 x c (xG x c e)⟩,
     I3.bs,afY I3.ok.Jg I3.sz,λ b o e hb=>?_,fpS,I3.stack,I3.ol⟩
   . have hm:(x,NameKind.free)∈scope.names:=by
       rcases hx with hx|hx
       . exact sC hx (.inl rfl) il
       . exact sC hx (.inr rfl) il
     exact pQ hm rfl
   . rcases (Bh b hb).1 with z|z
     . exact I3.ok.DB b o e z
     . exact absurd (abE (abh (I3.ok.bs b o e).1) z) (ag7 _)
 have I4:Inv (cI X N' scope (fY X.env scope.names []) s3.heap.objs.size s3 (upd H2 s2.heap.objs.size (.lst [])) fp) [] (List.replicate nt none++sl.map λ j=>(U[j]?).join) (upd H2 s2.heap.objs.size (.lst []))
     { s3 with heap:=h₁,toks:=s3.toks+([]:List (Str×Value)).length }:=by
   refine ⟨ok',rfl,I3.bare,Un.kept yr,⟨_,FW,λ i x v e1 e2 e3=>?_⟩,λ x c e=>?_,nC,λ x c e=>I3.jU x c (xG x c e),λ p hp=>absurd hp (by simp [cI]),I3.cq.kept yr,?_⟩
   .
    by_cases hi:i<nt
    . rw [aeF (by simpa using hi),aos] at e2
      split at e2<;>cases e2
    .
     rw [aea (by simpa using hi),amv,RS] at e2
     cases ej:sl[i - nt]? with
     | none=>rw [ej] at e2;cases e2
     | some j =>
       rw [ej] at e2
       have X8:(U[j]?).join=some v:=aaU e2
       have eσ:U[j]?=some (some v):=by
         cases q:U[j]? with
         | none=>rw [q] at X8;cases X8
         | some o=>rw [q] at X8;cases X8;rfl
       obtain ⟨y,n1,n2,n3⟩:=Nu _ j ej
       have:nt+(i - nt)=i:=by lia
       rw [this] at n1
       have exy:y=x:=aaU (n1.symm.trans e1)
       subst exy
       have hm:(y,NameKind.free)∈scope.names:=akk n3
       have hkx:=jP _ hm rfl
       obtain ⟨m,hn,hl⟩:=I3.loc
       have vis:Yt X.env.scope y:=by
         rcases hkx with z|z
         . exact .inr (.inl z)
         . exact .inr (.inr z)
       obtain ⟨u,r,l⟩:=hl j y v n2 eσ vis
       refine ⟨u,r,.inr ⟨ir n3,?_⟩⟩
       obtain ⟨c,ec⟩:=pQ (env:=X.env) (acc:=[]) hm rfl
       refine ⟨c,ec,?_⟩
       rcases l with ⟨k1,_⟩|⟨_,c',e',MQ⟩
       . rcases hkx with z|z
         . rw [show X.env.kindOf y=some .local from k1] at z;cases z
         . rw [show X.env.kindOf y=some .local from k1] at z;cases z
       . have ecc:c=c':=aaU ((xG y c ec).symm.trans e')
         subst ecc
         obtain ⟨o,ho,hd⟩:=MQ
         exact ⟨o,yr c o ho,hd⟩
   . obtain ⟨v,o,ho,hd⟩:=I3.cell x c (xG x c e)
     exact ⟨v,o,yr c o ho,hd⟩
   . show _=N'.length
     rw [Rl,aas,amv,At]
 have st4:tn 0 h₁:=T.keep _ _ _ YT λ b hb o e=>yr b o (Kl b o e)
 have On:∀ {pl:List (Addr×Obj)} {H':Hp},pl=[]->(∀ b∈fp,H' b=none)->∀ b∈fp,tS (cI X N' scope (fY X.env scope.names []) s3.heap.objs.size s3 (upd H2 s2.heap.objs.size (.lst [])) fp) pl H' b:=λ {pl H'} lA hn b hb=>by
   subst lA
   exact ⟨hn b hb,fpC b hb,fpS b hb,.inl hb,λ x c e=>(Bh b hb).2.2.1 x c (xG x c e),λ p hp=>absurd hp (by simp [cI])⟩
 have fr4:∀ b∈fp,(upd H2 s2.heap.objs.size (.lst [])) b=none:=λ b hb=>by rw [aD (fpD b hb)];exact (f2 b hb).1
 have loop:codeAny (model X.prog X.w) X.A (.compLoop (.ListComp elt [⟨tg,iter,ifs,0⟩] scope pos) 0 (.ref it) (.ref s2.heap.objs.size) (compEnvC scope (fY X.env scope.names []) s3.heap.objs.size X.env))
     (compPost (model X.prog X.w) X.A X.xe use Qp (.ref s2.heap.objs.size) s3.heap.objs.size) { s3 with heap:=h₁,toks:=s3.toks+([]:List (Str×Value)).length }:=by
   refine zR (λ n s'=>∃ i acc σ' H',Inv (cI X N' scope (fY X.env scope.names []) s3.heap.objs.size s3 (upd H2 s2.heap.objs.size (.lst [])) fp) [] σ' H' s'/\tn i s'.heap/\(∀ b∈fp,H' b=none)/\W i n acc σ' H') ?_ m0 ⟨0,[],_,_,I4,st4,fr4,w0⟩
   rintro n s5 ⟨i,acc,σ5,H5,I5,O9,Yg,w5⟩
   rcases turn i n acc σ5 H5 w5 with ⟨stop,qn⟩|⟨go,N,hN,step⟩
   . refine cX (T.done (cI X N' scope (fY X.env scope.names []) s3.heap.objs.size s3 (upd H2 s2.heap.objs.size (.lst [])) fp) rfl rfl rfl hc i [] s5 σ5 H5 _ I5 (On rfl Yg) O9 stop) λ r s6 ⟨hr,I6⟩=>?_
     subst hr
     obtain ⟨m,hn,_⟩:=id I6.loc
     exact fin s6 H5 _ _ m (I3.Mi (s':=s6) I6.os I6.base I6.cq I6.bare Bh) (I3.xx (aar _) I6.free) hn qn
   .
    refine cX (T.item (cI X N' scope (fY X.env scope.names []) s3.heap.objs.size s3 (upd H2 s2.heap.objs.size (.lst [])) fp) rfl rfl rfl hc i [] s5 σ5 H5 _ I5 (On rfl Yg) O9 go) λ r s6 ⟨u,hr,h6⟩=>?_
    subst hr
    refine cX h6 λ _ s7 ⟨x,H7,I7,r7,y7,st7,fr7⟩=>?_
    have I7':=I7.pinned (On rfl fr7) (T.obj _ _ st7)
    have again:∀ {s8:Shared} {σ8:St} {H8:Hp} {jc:List V},Inv (cI X N' scope (fY X.env scope.names []) s3.heap.objs.size s3 (upd H2 s2.heap.objs.size (.lst [])) fp) ([]++rN fp s7.heap) σ8 H8 s8->(∃ m',m'<n/\W (i+1) m' jc σ8 H8) ->
        ∃ m,m<n/\∃ i acc σ' H',Inv (cI X N' scope (fY X.env scope.names []) s3.heap.objs.size s3 (upd H2 s2.heap.objs.size (.lst [])) fp) [] σ' H' s8/\tn i s8.heap/\(∀ b∈fp,H' b=none)/\W i m acc σ' H':=λ {s8 σ8 H8 jc} I8 ⟨m',hm,w8⟩=>by
      refine ⟨m',hm,i+1,jc,σ8,H8,I8.oF,T.keep _ _ _ st7 λ b hb o e=>(I8.pin (b,o) (aaN _ (aaN _ (kA hb e)))).1,λ b hb=>?_,w8⟩
      obtain ⟨o,e,d⟩:=T.obj _ _ st7 b hb
      exact (I8.pin (b,o) (aaN _ (aaN _ (kA hb e)))).2.1
    refine acV (hg _ _ _ _ _ _ s7 σ5 H7 x u _ I7' r7 (step x H7 y7)) (λ _ s8 ⟨σ8,H8,I8,q8⟩=>?_) λ _ _ z=>False.elim z
    refine acV (ht _ _ _ _ _ _ s8 σ8 H8 _ I8 q8) (λ ok s9 ⟨H9,I9,q9⟩=>?_) λ _ _ z=>False.elim z
    cases ok with
    | false =>
      rw [aa8 aaR] at q9 ⊢
      exact again I9 (hN _ _ _ q9)
    | true =>
      rw [abl rfl] at q9 ⊢
      refine acV (he _ _ _ _ _ _ s9 σ8 H9 _ I9 q9) (λ y Qr ⟨yv,Mc,I10,r10,hD,hz,q10⟩=>?_) λ _ _ z=>False.elim z
      refine acV (cN (X:=(cI X N' scope (fY X.env scope.names []) s3.heap.objs.size s3 (upd H2 s2.heap.objs.size (.lst [])) fp)) _ Qr σ8 Mc (.ref s2.heap.objs.size) [yv] (.ref s2.heap.objs.size) [y] (λ _ X2=>N (acc++[yv]) σ8 X2) I10 rfl (.cons r10 .nil) ⟨_,acc,yv,rfl,rfl,hD,hz,q10⟩) (λ _ s11 ⟨v11,X2,I11,r11,q11⟩=>?_) λ _ _ z=>False.elim z
      exact again I11 (hN _ _ _ q11)
 exact codeAny_compStart_list loop (T.self _ 0 _ _ _ st4 loop)
theorem KH {scope:Scope} {pos:Pos} {wi:TI} {tt:TT} {N':List Str} {sl:List Nat} (hc:X.calm=true) (hi:PI X tg iter wi) (hg:∀ cl C s H ex,PG (cI X N' scope cl C s H ex) tg g) (ht:∀ cl C s H ex,LF (cI X N' scope cl C s H ex) ifs tt) (he:∀ cl C s H ex,PE (cI X N' scope cl C s H ex) elt te) (Rl:N'.length=nt+sl.length) (Nu:∀ k j:Nat,sl[k]?=some j->∃ x,N'[nt+k]?=some x/\X.N[j]?=some x/\scope.names.lookup x=some .free) (hk:scope.kind = .function) (il:∀ y∈scope.names,y.2 ≠ .cell) (kq:∀ y∈scope.names,y.2 = .local->scope.names.lookup y.1=some .local) (jP:∀ y∈scope.names,y.2 = .free->X.env.kindOf y.1=some .cell∨X.env.kindOf y.1=some .free) (hs:∀ x,foldedSetIterable iter X.env x=pure x:=by intro _;rfl) :
   PE X (.ListComp elt [⟨tg,iter,ifs,0⟩] scope pos) (yz wi g tt te nt sl):=by
 intro pins s U H Q I h
 rw [eval_ListComp]
 exact va hc hi hg ht he Rl Nu hk il kq jP hs I h λ s6 H5 d c m J F hn q=>⟨m,hn,λ h' sb=>⟨.ref d,H5,J.turned (t':=s6.toks) (λ b _ hb q=>(sb.2 b hb).trans q) F.1 F.2.1 F.2.2.2.1 F.2.2.2.2.1 F.2.2.2.2.2,rfl,q⟩⟩
theorem lS {scope:Scope} {pos:Pos} {wi:TI} {tt:TT} (tn fr:List Str) (sl:List Nat) (hp:Paired (λ (j:Nat) (x:Str)=>X.N[j]?=some x/\scope.names.lookup x=some .free/\(X.env.kindOf x=some .cell∨X.env.kindOf x=some .free)) sl fr) (hc:X.calm=true) (hi:PI X tg iter wi) (hg:∀ cl C s H ex,PG (cI X (tn++fr) scope cl C s H ex) tg g) (ht:∀ cl C s H ex,LF (cI X (tn++fr) scope cl C s H ex) ifs tt) (he:∀ cl C s H ex,PE (cI X (tn++fr) scope cl C s H ex) elt te) (hk:scope.kind = .function) (il:∀ y∈scope.names,y.2 ≠ .cell) (kq:∀ y∈scope.names,y.2 = .local->scope.names.lookup y.1=some .local) (jP:∀ y∈scope.names,y.2 = .free->y.1∈fr) (hs:∀ x,foldedSetIterable iter X.env x=pure x:=by intro _;rfl) :
   PE X (.ListComp elt [⟨tg,iter,ifs,0⟩] scope pos) (yz wi g tt te tn.length sl):=by
 have key:∀ {sl:List Nat} {fr:List Str},Paired (λ (j:Nat) (x:Str)=>X.N[j]?=some x/\scope.names.lookup x=some .free/\(X.env.kindOf x=some .cell∨X.env.kindOf x=some .free)) sl fr ->
     (∀ k j:Nat,sl[k]?=some j->∃ x,fr[k]?=some x/\X.N[j]?=some x/\scope.names.lookup x=some .free)/\∀ x∈fr,X.env.kindOf x=some .cell∨X.env.kindOf x=some .free:=by
   intro sl fr hp
   induction hp with
   | nil=>exact ⟨λ k j h=>by simp at h,λ x hx=>by simp at hx⟩
   | cons r t ih =>
     refine ⟨λ k j h=>?_,λ x hx=>?_⟩
     . cases k with
       | zero =>
         have e:_=j:=aaU h
         subst e
         exact ⟨_,rfl,r.1,r.2.1⟩
       | succ k=>exact ih.1 k j (by simpa using h)
     . rcases List.mem_cons.mp hx with z|z
       . rw [z];exact r.2.2
       . exact ih.2 x z
 refine KH (N':=tn++fr) hc hi hg ht he (by rw [aas,hp.length]) (λ k j h=>?_) hk il kq (λ y hy hf=>(key hp).2 _ (jP y hy hf)) hs
 obtain ⟨x,e1,e2⟩:=(key hp).1 k j h
 exact ⟨x,by rw [aea (anV _ _),apu];exact e1,e2⟩
end
theorem dW {lo:Int} {n:Nat} {tt:TT} {D:Addr} {Q:Hp->Prop} (Pv:Nat->List V->St->Hp->Prop) (h0:Pv 0 [] U H) (hs:∀ i acc U H,i<n->Pv i acc U H->g (.int (lo+i)) U H λ σ2 H3=>tt σ2 H3 λ b H4 =>
     if b=true then te σ2 H4 λ y H5=>H5 D=some (.lst acc)/\acc.length<sizeLine/\Pv (i+1) (acc++[y]) σ2 (upd H5 D (.lst (acc++[y]))) else Pv (i+1) acc σ2 H4) (hd:∀ acc U H,Pv n acc U H->Q H) :
   ∃ W:Nat->Nat->List V->St->Hp->Prop,(∃ m,W 0 m [] U H)/\∀ i m acc σ' H',W i m acc σ' H'->((ET lo n).stop i H'/\Q H') ∨
     ((ET lo n).go i H'/\∃ N:List V->St->Hp->Prop,(∀ jc σ2 H4,N jc σ2 H4->∃ m',m'<m/\W (i+1) m' jc σ2 H4)/\∀ x H2,(ET lo n).FP i H' x H2->g x σ' H2 λ σ2 H3=>tt σ2 H3 λ b H4 =>
       if b=true then te σ2 H4 λ y H5=>H5 D=some (.lst acc)/\acc.length<sizeLine/\N (acc++[y]) σ2 (upd H5 D (.lst (acc++[y]))) else N acc σ2 H4):=by
 refine ⟨λ i m acc U H=>m=n - i/\i<=n/\Pv i acc U H,⟨n,by simp,afh _,h0⟩,?_⟩
 rintro i m acc U H ⟨rfl,hi,p⟩
 by_cases mK:i<n
 .
  refine .inr ⟨mK,Pv (i+1),λ jc σ' H' p'=>⟨n - (i+1),by lia,rfl,mK,p'⟩,λ x H' y=>?_⟩
  obtain ⟨e,y⟩:=y
  subst e y
  exact hs i acc U _ mK p
 . have e:i=n:=by lia
   subst e
   exact .inl ⟨aar _,hd acc U H p⟩
theorem iO {K:W.Frag} {a:Addr} {tt:TT} {D:Addr} {Q:Hp->Prop} (Pv:Nat->List V->St->Hp->Prop) (h0:Pv 0 [] U H) (hl:∀ i acc U H,i<=xs.length->Pv i acc U H->bg K H a xs) (hs:∀ i x acc U H,xs[i]?=some x->Pv i acc U H->g x U H λ σ2 H3=>tt σ2 H3 λ b H4 =>
     if b=true then te σ2 H4 λ y H5=>H5 D=some (.lst acc)/\acc.length<sizeLine/\Pv (i+1) (acc++[y]) σ2 (upd H5 D (.lst (acc++[y]))) else Pv (i+1) acc σ2 H4) (hd:∀ acc U H,Pv xs.length acc U H->Q H) :
   ∃ W:Nat->Nat->List V->St->Hp->Prop,(∃ m,W 0 m [] U H)/\∀ i m acc σ' H',W i m acc σ' H'->((FS K a).stop i H'/\Q H') ∨
     ((FS K a).go i H'/\∃ N:List V->St->Hp->Prop,(∀ jc σ2 H4,N jc σ2 H4->∃ m',m'<m/\W (i+1) m' jc σ2 H4)/\∀ x H2,(FS K a).FP i H' x H2->g x σ' H2 λ σ2 H3=>tt σ2 H3 λ b H4 =>
       if b=true then te σ2 H4 λ y H5=>H5 D=some (.lst acc)/\acc.length<sizeLine/\N (acc++[y]) σ2 (upd H5 D (.lst (acc++[y]))) else N acc σ2 H4):=by
 refine ⟨λ i m acc U H=>m=xs.length - i/\i<=xs.length/\Pv i acc U H,⟨xs.length,by simp,afh _,h0⟩,?_⟩
 rintro i m acc U H ⟨rfl,hi,p⟩
 have q:=hl i acc U H hi p
 by_cases mK:i<xs.length
 .
  refine .inr ⟨⟨xs,xs[i],q,by simp [mK]⟩,Pv (i+1),λ jc σ' H' p'=>⟨xs.length - (i+1),by lia,rfl,mK,p'⟩,λ x H' y=>?_⟩
  obtain ⟨e,y⟩:=y
  subst e
  exact hs i x acc U _ (y xs q) p
 . have e:i=xs.length:=by lia
   subst e
   exact .inl ⟨⟨xs,q,aar _⟩,hd acc U H p⟩
section
variable {X:Cx}
inductive K8  (x:V) (vs:List V) (H:Hp) (Q:VK):Prop
 | mk (i:Int) (_:x = .int i) (_:vs=[]) (_:∀ b:Int,b=((Builtin.Int.intBits i:Nat):Int)->Q (.int b) H)
theorem D6:MtR X "int.bit_length" K8:=by
 intro pins s U H x vs v us Q I rx rv h
 obtain ⟨i,rfl,rfl,q⟩:=h
 obtain ⟨t,rfl⟩:=rx
 obtain rfl:=Vals.zero rv
 exact call_int_bit_length ⟨.int _,H,I.tok _,⟨_,rfl⟩,q _ rfl⟩
theorem ED (a b:Nat):Builtin.bitOr (a:Int) (b:Int)=((a ||| b:Nat):Int):=by
 have d1:decide (0<=Builtin.bitNot (a:Int))=false:=abC (by unfold Builtin.bitNot;lia)
 have d2:decide (0<=Builtin.bitNot (b:Int))=false:=abC (by unfold Builtin.bitNot;lia)
 have n1:(Builtin.bitNot (Builtin.bitNot (a:Int))).toNat=a:=by unfold Builtin.bitNot;lia
 have n2:(Builtin.bitNot (Builtin.bitNot (b:Int))).toNat=b:=by unfold Builtin.bitNot;lia
 unfold Builtin.bitOr Builtin.bitAnd
 rw [d1,d2]
 dsimp only
 rw [n1,n2]
 unfold Builtin.bitNot
 lia
theorem kE (a b:Nat):Builtin.bitAnd (a:Int) (b:Int)=((a &&& b:Nat):Int):=by simp [Builtin.bitAnd]
end
def aq (k:Nat):V:=.int (k:Int)
inductive yq  (vs:List V) (H:Hp) (Q:VK) (_E:XK):Prop
 | mk (n r:Nat) (_:vs=[aq n,aq r]) (_:Q (.bl (n.testBit r)) H)
inductive xb  (vs:List V) (H:Hp) (Q:VK) (_E:XK):Prop
 | mk (n r:Nat) (_:vs=[aq n,aq r]) (_:r<=1000) (_:Q (aq (n ||| 2 ^ r)) H)
inductive Ax  (vs:List V) (H:Hp) (Q:VK) (_E:XK):Prop
 | mk (n:Nat) (_:vs=[aq n]) (_:n<2 ^ 61) (_:∀ p H',H p=none->aB H H'->H' p=some (.lst ((Bit.rooms n).map aq))->Q (.ref p) H')
inductive Aj  (vs:List V) (H:Hp) (Q:VK) (_E:XK):Prop
 | mk (n:Nat) (_:vs=[aq n]) (_:n<2 ^ 61) (_:(Bit.rooms n).length<=8) (_:∀ p H',H p=none->aB H H'->H' p=some (.lst ((Bit.parts (Bit.rooms n)).map aq))->Q (.ref p) H')
theorem uI (n:Nat):(Bit.rooms n).length<=61:=by
 have:=ae9 n.testBit (List.range 61)
 rw [acT] at this
 exact this
theorem CB (n r:Nat) {s m:Int} (es:s=(n:Int) / 2 ^ ((r:Int)).toNat) (em:m=s % 2):decide (V.int m=V.int 1)=n.testBit r:=by
 rw [Nat.testBit_eq_decide_div_mod_eq]
 have e1:s=((n / 2 ^ r:Nat):Int):=by
   rw [es,aff]
   have:((2:Int) ^ r)=((2 ^ r:Nat):Int):=by rw [Int.natCast_pow];rfl
   rw [this,← Int.natCast_ediv]
 have e2:m=((n / 2 ^ r % 2:Nat):Int):=by rw [em,e1];exact (Int.natCast_emod _ _).symm
 have e3:(V.int m=V.int 1)↔(n / 2 ^ r % 2=1):=by rw [eK,e2];lia
 exact decide_eq_decide.mpr e3
theorem AE (l:List Nat) (r:Nat):Bit.parts (l++[r])=Bit.parts l++(Bit.parts l).map (· ||| 2 ^ r):=by
 unfold Bit.parts;rw [ai6];rfl
theorem K2 (n i:Nat):Bit.Ok (Bit.parts ((Bit.rooms n).take i)) ((Bit.rooms n).take i):=by
 have:=Bit.wX ((Bit.rooms n).take i) [] [0] Bit.Fg (by rw [amN];exact (Bit.kx n).sublist (List.take_sublist _ _))
 rw [amN] at this
 exact this
theorem iS {α:Type} {l:List α} {x:α} (h:l[i]?=some x):l.take (i+1)=l.take i++[x]:=by
 rw [List.take_add_one,h];rfl
theorem eP {l:List Nat} {x:V} (h:(l.map aq)[i]?=some x):∃ k,l[i]?=some k/\x=aq k:=by
 rw [RS] at h
 cases e:l[i]? with
 | none=>rw [e] at h;cases h
 | some k=>rw [e] at h;exact ⟨k,rfl,(aaU h).symm⟩
def Da (f:Obj->Obj):Prop:=∀ o,(f o).dict=o.dict/\(o.isFreed=false->(f o).isFreed=false)
def dL {α:Type}:Sem α->Prop
 | .pure _=>True
 | .raise _=>True
 | .unsupported _=>True
 | .finish _=>True
 | .rule _ k=>dL (k ())
 | .at _ k=>dL (k ())
 | .load _ _ k=>∀ o,dL (k o)
 | .update _ _ f k=>Da f/\dL (k ())
 | .alloc _ k=>∀ a,dL (k a)
 | .loadIfAlive _ k=>∀ o,dL (k o)
 | .point _ k=>dL (k ())
 | .register _ _=>True
 | .fresh k=>∀ t,dL (k t)
 | .ask k=>∀ t,dL (k t)
 | .choose _ _ k=>∀ n,dL (k n)
 | .os _ _ k=>∀ r,dL (k r)
 | .call ..=>False
 | .handled _ k=>∀ o,dL (k o)
 | .newGen _ k=>∀ n,dL (k n)
 | .genState _ k=>∀ x,dL (k x)
 | .resume ..=>False
 | .yield ..=>True
 | .stack k=>∀ x,dL (k x)
 | .fork ..=>True
 | .thread k=>∀ n,dL (k n)
 | .await ..=>True
def cx (h h':Heap):Prop:=∀ b o,h.get? b=some o->∃ o',h'.get? b=some o'/\o'.dict=o.dict
theorem cx.refl (h:Heap):cx h h:=λ _ o e=>⟨o,e,rfl⟩
theorem cx.trans {h1 h3:Heap} (x:cx h1 h2) (y:cx h2 h3):cx h1 h3:=λ b o e =>
 let ⟨o1,e1,d1⟩:=x b o e;let ⟨o2,e2,d2⟩:=y b o1 e1;⟨o2,e2,d2.trans d1⟩
theorem cx.update {h:Heap} {a:Addr} {f:Obj->Obj} (m:Da f):cx h (h.update a f):=λ b o e=>by
 by_cases z:a=b
 . subst z
   have nf:o.isFreed=false:=(Heap.get?_some_iff.mp e).2
   exact ⟨f o,anU f e ((m o).2 nf),(m o).1⟩
 . exact ⟨o,(anz h f z).trans e,rfl⟩
theorem cx.push {h:Heap} {o:Obj}:cx h (h.push o):=λ b ob e=>⟨ob,YM _ e,rfl⟩
theorem K9 {α:Type} (M:Model) (Γ:PySem.Ctx):∀ (t:Sem α) (Q:α->Pos->Shared->Prop) (E:Value->Pos->Shared->Prop) (p:Pos) (s:Shared),dL t->Sem.wp M Γ t Q E p s ->
   Sem.wp M Γ t (λ a p s'=>Q a p s'/\cx s.heap s'.heap) (λ e p s'=>E e p s'/\cx s.heap s'.heap) p s:=by
 intro t
 have up:∀ (t:Sem α) (Q:α->Pos->Shared->Prop) (E:Value->Pos->Shared->Prop) (p:Pos) (s s1:Shared),cx s.heap s1.heap ->
     Sem.wp M Γ t (λ a p s'=>Q a p s'/\cx s1.heap s'.heap) (λ e p s'=>E e p s'/\cx s1.heap s'.heap) p s1 ->
     Sem.wp M Γ t (λ a p s'=>Q a p s'/\cx s.heap s'.heap) (λ e p s'=>E e p s'/\cx s.heap s'.heap) p s1:=λ t Q E p s s1 k h =>
   Sem.wp_mono M Γ t (λ _ _ _ z=>⟨z.1,k.trans z.2⟩) (λ _ _ _ z=>⟨z.1,k.trans z.2⟩) p s1 h
 induction t with
 | pure a=>intro Q E p s _ h;rw [Sem.wp_pure] at h ⊢;exact ⟨h,.refl _⟩
 | raise e=>intro Q E p s _ h;rw [Sem.wp_raise] at h ⊢;exact ⟨h,.refl _⟩
 | unsupported w=>intro Q E p s _ h;rw [Sem.wp_unsupported] at h;exact h.elim
 | finish e=>intro Q E p s _ h;rw [Sem.wp_finish] at h;exact h.elim
 | rule t k ih=>intro Q E p s m h;rw [Sem.wp_rule] at h ⊢;exact ih () Q E p s m h
 | «at» q k ih=>intro Q E p s m h;rw [Sem.wp_at] at h ⊢;exact ih () Q E q s m h
 | load a part k ih=>intro Q E p s m h;rw [Sem.wp_load] at h ⊢;obtain ⟨o,e,h⟩:=h;exact ⟨o,e,ih o Q E p s (m o) h⟩
 | update a part f k ih=>intro Q E p s m h;rw [Sem.wp_update] at h ⊢;exact ⟨h.1,up _ Q E p s _ (.update m.1) (ih () Q E p _ m.2 h.2)⟩
 | alloc o k ih=>intro Q E p s m h;rw [Sem.wp_alloc] at h ⊢;exact up _ Q E p s _ .push (ih _ Q E p _ (m _) h)
 | loadIfAlive a k ih=>intro Q E p s m h;rw [Sem.wp_loadIfAlive] at h ⊢;exact ih _ Q E p s (m _) h
 | point l k ih=>intro Q E p s m h;rw [Sem.wp_point] at h ⊢;exact ih () Q E p s m h
 | register a k ih=>intro Q E p s m h;rw [Sem.wp_register] at h;exact h.elim
 | fresh k ih=>intro Q E p s m h;rw [Sem.wp_fresh] at h ⊢;exact ih _ Q E p _ (m _) h
 | ask k ih=>intro Q E p s m h;rw [Sem.wp_ask] at h ⊢;exact ih _ Q E p s (m _) h
 | choose src n k ih=>intro Q E p s m h;rw [Sem.wp_choose] at h ⊢;exact ⟨h.1,ih _ Q E p _ (m _) h.2⟩
 | os q l k ih=>intro Q E p s m h;rw [Sem.wp_os] at h ⊢;exact ih _ Q E p _ (m _) h
 | call c h g l k ih=>intro Q E p s m h;exact m.elim
 | handled own k ih=>intro Q E p s m h;rw [Sem.wp_handled] at h ⊢;exact ih _ Q E p s (m _) h
 | newGen c k ih=>intro Q E p s m h;rw [Sem.wp_newGen] at h ⊢;exact ih _ Q E p _ (m _) h
 | genState g k ih=>intro Q E p s m h;rw [Sem.wp_genState] at h ⊢;obtain ⟨st,e,h⟩:=h;exact ⟨st,e,ih _ Q E p s (m _) h⟩
 | resume g r l k ih=>intro Q E p s m h;exact m.elim
 | yield v g l k ih=>intro Q E p s m h;rw [Sem.wp_yield] at h;exact h.elim
 | stack k ih=>intro Q E p s m h;rw [Sem.wp_stack] at h ⊢;exact ih _ Q E p s (m _) h
 | fork c k ih=>intro Q E p s m h;rw [Sem.wp_fork] at h;exact h.elim
 | thread k ih=>intro Q E p s m h;rw [Sem.wp_thread] at h ⊢;exact ih _ Q E p s (m _) h
 | await a tk ti l k ih=>intro Q E p s m h;unfold Sem.wp at h;exact h.elim
theorem gM {α:Type} {M:Model} {A:Around} {t:Sem α} {Q:α->Shared->Prop} {E:Value->Shared->Prop} {s:Shared} (m:dL t) (h:wpAny M A t Q E s) :
   wpAny M A t (λ a s'=>Q a s'/\cx s.heap s'.heap) (λ e s'=>E e s'/\cx s.heap s'.heap) s:=λ Γ p hΓ=>K9 M Γ t _ _ p s m (h Γ p hΓ)
theorem dL.bind {α β:Type} {f:α->Sem β} (hf:∀ a,dL (f a)):∀ {t:Sem α},dL t->dL (t.bind f):=by
 intro t
 induction t with
 | pure a=>intro _;exact hf a
 | raise e=>intro _;trivial
 | unsupported w=>intro _;trivial
 | finish e=>intro _;trivial
 | rule t k ih=>intro m;exact ih () m
 | «at» q k ih=>intro m;exact ih () m
 | load a part k ih=>intro m;exact λ o=>ih o (m o)
 | update a part g k ih=>intro m;exact ⟨m.1,ih () m.2⟩
 | alloc o k ih=>intro m;exact λ a=>ih a (m a)
 | loadIfAlive a k ih=>intro m;exact λ a=>ih a (m a)
 | point l k ih=>intro m;exact ih () m
 | register a k ih=>intro m;trivial
 | fresh k ih=>intro m;exact λ a=>ih a (m a)
 | ask k ih=>intro m;exact λ a=>ih a (m a)
 | choose src n k ih=>intro m;exact λ a=>ih a (m a)
 | os q l k ih=>intro m;exact λ a=>ih a (m a)
 | call c h g l k ih=>intro m;exact m.elim
 | handled own k ih=>intro m;exact λ a=>ih a (m a)
 | newGen c k ih=>intro m;exact λ a=>ih a (m a)
 | genState g k ih=>intro m;exact λ a=>ih a (m a)
 | resume g r l k ih=>intro m;exact m.elim
 | yield v g l k ih=>intro m;trivial
 | stack k ih=>intro m;exact λ a=>ih a (m a)
 | fork c k ih=>intro m;trivial
 | thread k ih=>intro m;exact λ a=>ih a (m a)
 | await a tk ti l k ih=>intro m;trivial
theorem dL.bd {α β:Type} {t:Sem α} {f:α->Sem β} (h:dL t) (hf:∀ a,dL (f a)):dL (t >>= f):=dL.bind hf h
theorem wb (g:Array Value->Array Value):Da (Obj.mapFields g):=λ o=>by
 obtain ⟨c,d,dt,sl⟩:=o
 cases dt<;>exact ⟨rfl,λ h=>h⟩
theorem zQ (g:Obj->Array (Option Value)):Da (λ o=>{ o with slots:=g o }):=λ o=>by
 obtain ⟨c,d,dt,sl⟩:=o
 refine ⟨rfl,λ h=>?_⟩
 cases dt<;>first|rfl|exact h
theorem p5 (a:Addr):dL (load a):=λ _=>trivial
theorem tJ (v:Value):dL (fieldsOf v):=by
 unfold fieldsOf
 split
 . refine .bd (p5 _) λ o=>?_
   split<;>trivial
 . trivial
theorem kg (v:Value) (i:Nat):dL (field v i):=by
 unfold field
 refine .bd (tJ v) λ vs=>?_
 split<;>trivial
theorem jJ (v:Value) (i:Nat) (x:Value):dL (setField v i x):=by
 unfold setField
 split
 .
  unfold updateField
  refine .bd (p5 _) λ o=>?_
  split
  . split
    . exact ⟨wb _,trivial⟩
    . trivial
  . trivial
 . trivial
theorem i6 (e:Value) (f:Option Addr):dL (setFlight e f):=by
 unfold setFlight
 refine .bd (kg _ _) λ tb=>?_
 split
 . exact jJ _ _ _
 . trivial
theorem mY:dL stack:=λ _=>trivial
theorem si:∀ l:List Env,dL (readyFrames l)
 | []=>trivial
 | env::outer=>by
   unfold readyFrames
   split
   .
    refine .bd (p5 _) λ o=>?_
    split
    . trivial
    .
     refine .bd ?_ λ im => .bd ?_ λ bk=>⟨zQ _,si outer⟩
     . unfold behindIsImport
       split
       . trivial
       . split
         . trivial
         . exact .bd (kg _ _) λ _=>trivial
     . unfold keptBack
       split
       . split
         . trivial
         . unfold underTheClaimsCaller
           exact .bd (.bd mY λ _=>trivial) λ _=>trivial
       . trivial
   . trivial
theorem vp (env:Env):dL (PySem.frameOf env):=by
 unfold PySem.frameOf frameEnvs
 refine .bd (.bd mY λ _=>trivial) λ l => .bd ?_ λ r=>?_
 .
  unfold frameObject
  split
  . trivial
  . exact .bd (si _) λ _=>trivial
 . split<;>trivial
theorem Bs (f:Addr) (b:Bool):dL (entryPlaceOf f b):=by
 unfold entryPlaceOf
 refine .bd mY λ l=>?_
 split<;>trivial
theorem tI (a b c d e:Value) (pl:List Value):dL (EntryCells.newEntry a b c d e pl):=by
 unfold EntryCells.newEntry newFields newObj
 dsimp only
 have ob:∀ d,dL (newObjAsIs (.type "traceback") d):=λ d=>by
   unfold newObjAsIs
   exact .bd (λ _=>trivial) λ _=>trivial
 split
 . split
   . exact .bd trivial λ _=>ob _
   . exact ob _
 . split
   . exact .bd trivial λ _=>ob _
   . exact ob _
theorem u7 (e:Value) (env:Env):dL (noteFrame e env):=by
 unfold noteFrame
 split
 .
  refine .bd (kg _ _) λ head=>?_
  have rest:dL (do setField e 1 (← EntryCells.newEntry head (← PySem.frameOf env) .none (rawInt ‹Addr›) .none (← entryPlaceOf ‹Addr› (head != .none)))) :=
    .bd (vp env) λ fr => .bd (Bs _ _) λ pl => .bd (tI _ _ _ _ _ _) λ v=>jJ _ _ _
  split
  . refine .bd (kg _ _) λ x=>?_
    split
    . trivial
    . exact .bd (jJ _ _ _) λ _=>rest
  . exact rest
 . trivial
theorem j6 (env:Env) (e:Value):dL (leaving env e):=by
 unfold leaving
 exact .bd (u7 _ _) λ _=>i6 _ _
theorem oQ {h:Heap} {as:List Addr} {b:Addr} {o:Obj} (e:h.get? b=some o) (n:b∉as):(W.hideAll h as).get? b=some o:=W.hideAll_get _ e n
structure Fly (P:Program) (w:World) (outer:List Env) (H:Hp) (s:Shared) (cls:Value) (x:Addr) (H':Hp) (s':Shared):Prop where
 os:s'.os=s.os
 bare:AllBare s'.gens
 un:Un (ib outer) [] H H' s.heap s'.heap
 cq:j2 P w H' s'.heap
 fly:∃ a0 B,Heap.FlyingW B outer x cls a0 s'.heap/\(∀ b o,s.heap.get? b=some o->b∉ib outer->∀ o',s'.heap.get? b=some o'->B.get? b=some o')/\∀ b u,H' b=some u->∃ o,B.get? b=some o
def XD (h:Heap) (x:Addr) (d:Option Addr):Prop:=∃ o,h.get? x=some o/\o.dict=d
theorem XD.kept {h:Heap} {x:Addr} {d:Option Addr} (k:cx h h') (q:XD h x d):XD h' x d:=let ⟨o,e,z⟩:=q;let ⟨o',e',z'⟩:=k x o e;⟨o',e',z'.trans z⟩
def zA (P:Program) (w:World):Go:=λ outer H s E e s'=>∃ x cls H',e = .ref x/\Fly P w outer H s cls x H' s'/\∃ d,XD s'.heap x d/\E cls d H'
theorem xm {P:Program} {w:World} {h B:Heap} (x:j2 P w H h) (hB:∀ b o,B.get? b=some o->h'.get? b=some o) (hb:∀ b o,B.get? b=some o->h.get? b=some o) (tk:∀ b u,H b=some u->∃ o,B.get? b=some o):j2 P w H h':=λ a o e =>
 (x a o e).fB (λ b u Yi q=>by
   have:∃ u',H b=some u':=by
     rcases Yi with z|z
     . exact ⟨o,by rw [z];exact e⟩
     . exact ⟨_,z⟩
   obtain ⟨u',MZ⟩:=this
   obtain ⟨ob,ME⟩:=tk b u' MZ
   have:=hb b ob ME
   rw [q] at this
   cases this
   exact hB b u ME) (λ _ q=>q) λ _ _ q=>q
def Thr (X:Cx) (E:XK):Prop:=∀ (pins:List (Addr×Obj)) (U:St) (H:Hp) (s:Shared) (h':Heap) (x:Addr) (cls:Value) (args:List Value),Inv X pins U H s->Heap.MadeExcOf s.heap h' x cls args->E cls none H->X.xe (.ref x) { s with heap:=h' }
section
variable {P:Program} {w:World} {K:W.Frag} {mg:Str->Option Value} {base:Heap} {N:List Str} {qual:Str} {scope:Scope} {f:Addr} {cd:Value} {A:Around} {outer:List Env} {s₀:Shared} {H₀:Hp} {E E':XK}
theorem An (hE:∀ cls d H,E' cls d H->E cls d H):Thr (fi (zA P w) P w K mg base N qual scope f cd A outer s₀ H₀ E) E':=by
 intro pins U H s h' x cls args I hx he
 have L1:(envOfC qual scope s₀.heap.objs.size f cd).frame=some s₀.heap.objs.size:=rfl
 have fr:=I.ok.frames
 have st:=I.stack
 have Ow:∀ env∈(envOfC qual scope s₀.heap.objs.size f cd::outer),∀ b,env.frame=some b->b∈ib (envOfC qual scope s₀.heap.objs.size f cd::outer):=λ env he b hb=>List.mem_filterMap.mpr ⟨env,he,hb⟩
 show wpAny _ _ (leaving _ _) _ _ _
 refine acV (gM (j6 _ _) (wpAny_leaves_madeW (E:=λ _ _=>False) (Q:=λ _ s2=>∃ h2 t,s2={ s with heap:=h2 }/\Heap.FlyingW (W.hideAll s.heap (ib (envOfC qual scope s₀.heap.objs.size f cd::outer))) outer x cls (.ref t) h2/\h'.UpToSlots h2) (base:=W.hideAll s.heap (ib (envOfC qual scope s₀.heap.objs.size f cd::outer))) fr L1 (λ b o q=>aoR _ q) (W.funFrames_hide st Ow) hx λ h2 t fl tup tn up=>⟨h2,t,rfl,fl,up⟩)) (λ _ s2 z=>?_) λ _ _ z=>z.1.elim
 obtain ⟨⟨h2,t,rfl,fl,up⟩,dk⟩:=z
 have nA:∀ b o,s₀.heap.get? b=some o->b∉ib outer->b∉ib (envOfC qual scope s₀.heap.objs.size f cd::outer):=λ b o e n hm=>by
   rcases List.mem_cons.mp (show b∈s₀.heap.objs.size::ib outer from hm) with z|z
   . exact absurd (abh e) (by rw [z];exact ag7 _)
   . exact n z
 have fB:∀ b o,s.heap.get? b=some o->b∉ib (envOfC qual scope s₀.heap.objs.size f cd::outer)->h2.get? b=some o:=λ b o e n=>fl.1 b o (oQ e n)
 have fin:∀ b∈ib outer,∃ o,s.heap.get? b=some o/\∀ vs,o.data ≠ .fields vs:=λ b hb=>(I.ok.mP.mem hb).2 |> λ ⟨o,e,hd⟩=>by
   obtain ⟨sl,e2⟩:=I.base.slot b o e (I.ok.HR b hb) hb (by intro z;exact absurd (show b∈([]:List Addr) from z) (by simp))
   exact ⟨_,e2,hd⟩
 have tk:∀ b u,H b=some u->∃ o,(W.hideAll s.heap (ib (envOfC qual scope s₀.heap.objs.size f cd::outer))).get? b=some o:=λ b u e=>by
   have nf:b∉ib (envOfC qual scope s₀.heap.objs.size f cd::outer):=λ z=>by rw [I.ol b z] at e;cases e
   have lt:=I.cq.lt e
   cases q:s.heap.get? b with
   | none =>
     obtain ⟨o,ho⟩:∃ o,s.heap.get? b=some o:=by
       have ok:=I.cq b u e
       cases u with
       | lst xs=>obtain ⟨_,_,_,_,e⟩:=ok;exact ⟨_,e⟩
       | tup xs=>obtain ⟨_,_,_,o,e,_⟩:=ok;exact ⟨_,e⟩
       | dK aN=>obtain ⟨_,_,_,_,o,_,_,e,_⟩:=ok;exact ⟨_,e⟩
       | dT aN=>obtain ⟨_,_,_,_,o,_,_,e,_⟩:=ok;exact ⟨_,e⟩
       | set S n=>obtain ⟨o,_,_,_,e,_⟩:=ok;exact ⟨_,e⟩
       | ins C dx fs=>obtain ⟨_,_,_,e,_⟩:=ok;exact ⟨_,e⟩
       | own y=>obtain ⟨_,e⟩:=ok;exact ⟨_,e⟩
       | xd fs=>obtain ⟨_,⟨_,_,_,e,_⟩,_⟩:=ok;exact ⟨_,e⟩
       | VI lo hi=>obtain ⟨_,_,_,e⟩:=ok;exact ⟨_,e⟩
       | zF ob u=>obtain ⟨e,_⟩:=ok;exact ⟨_,e⟩
       | Ls ps=>exact ⟨_,ok⟩
       | met f y=>exact ⟨_,ok⟩
       | ext φ=>obtain ⟨_,⟨_,e⟩,_⟩:=ok;exact ⟨_,e⟩
     rw [q] at ho;cases ho
   | some o=>exact ⟨o,oQ q nf⟩
 refine ⟨x,cls,H,rfl,⟨I.os,I.bare,?_,xm I.cq fl.1 (λ b o q=>aoR _ q) tk,_,_,fl,?_,tk⟩,none,XD.kept dk (let ⟨_,e,_⟩:=hx.there;⟨_,e,rfl⟩),hE _ _ _ he⟩
 .
  refine ⟨λ b o e n hb _=>fB b o (I.base.keep b o e n hb (by simp [fi])) (nA b o e hb),λ b o e n hb _=>?_,λ b o e n _=>I.base.free b o e n (by simp [fi]),λ b o e _=>?_,I.base.og,I.base.nu,I.base.on⟩
  .
   obtain ⟨sl,e1⟩:=I.base.slot b o e n hb (by simp [fi])
   obtain ⟨o1,e2,hd⟩:=fin b hb
   rw [e1] at e2
   cases e2
   obtain ⟨CF,e3⟩:=up b _ (hx.keeps b _ e1) hd
   exact ⟨CF,e3⟩
  .
   obtain ⟨o',e1⟩:=I.base.there b o e (by simp [fi])
   by_cases hb:b∈ib outer
   . obtain ⟨o1,e2,hd⟩:=fin b hb
     obtain ⟨CF,e3⟩:=up b _ (hx.keeps b _ e2) hd
     exact ⟨_,e3⟩
   . exact ⟨o',fB b o' e1 (nA b o e hb)⟩
 .
  intro b o e hb o' e'
  obtain ⟨o1,e1⟩:=I.base.there b o e (by simp [fi])
  have e2:=fB b o1 e1 (nA b o e hb)
  rw [e2] at e'
  cases e'
  exact oQ e1 (nA b o e hb)
theorem BX (hE:∀ cls d H,E' cls d H->E cls d H):Passes (zA P w) (fi (zA P w) P w K mg base N qual scope f cd A outer s₀ H₀ E) E':=by
 intro pins U H s e s' I hc
 obtain ⟨x,cls,H',rfl,F,dd,zT,he⟩:=hc
 obtain ⟨a0,B,fl,hB,tk⟩:=F.fly
 have L1:(envOfC qual scope s₀.heap.objs.size f cd).frame=some s₀.heap.objs.size:=rfl
 have fr:=I.ok.frames
 show wpAny _ _ (leaving _ _) _ _ _
 refine acV (gM (j6 _ _) (wpAny_leaves_onW (E:=λ _ _=>False) (Q:=λ _ s2=>∃ h2,s2={ s' with heap:=h2 }/\Heap.FlyingW B outer x cls a0 h2/\s'.heap.UpToSlots h2) (outer:=outer) fr L1 fl λ h2 He up=>⟨h2,rfl,He,up⟩)) (λ _ s2 z=>?_) λ _ _ z=>z.1.elim
 obtain ⟨⟨h2,rfl,He,up⟩,dk⟩:=z
 have nA:∀ b o,s₀.heap.get? b=some o->b∉ib outer->b∉ib (envOfC qual scope s₀.heap.objs.size f cd::outer):=λ b o e n hm=>by
   rcases List.mem_cons.mp (show b∈s₀.heap.objs.size::ib outer from hm) with z|z
   . exact absurd (abh e) (by rw [z];exact ag7 _)
   . exact n z
 have EE:∀ b:Addr,b∉(fi (zA P w) P w K mg base N qual scope f cd A outer s₀ H₀ E).ex:=λ b=>by simp [fi]
 have at2:∀ b o,s₀.heap.get? b=some o->b∉ib outer->∃ o',s'.heap.get? b=some o'/\B.get? b=some o'/\h2.get? b=some o':=λ b o e n=>by
   obtain ⟨o1,e1⟩:=I.base.there b o e (EE b)
   obtain ⟨o2,e2⟩:=F.un.there b o1 e1 (by simp)
   have e3:=hB b o1 e1 (nA b o e n) o2 e2
   exact ⟨o2,e2,e3,He.1 b o2 e3⟩
 have fin:∀ b∈ib outer,∃ o,s'.heap.get? b=some o/\∀ vs,o.data ≠ .fields vs:=λ b hb=>(fl.2.2.1.mem (abO (s₀.heap.objs.size) hb:b∈ib (envOfC qual scope s₀.heap.objs.size f cd::outer))).2
 refine ⟨x,cls,H',rfl,⟨F.os.trans I.os,F.bare,?_,xm F.cq He.1 fl.1 tk,a0,B,He,?_,tk⟩,dd,zT.kept dk,hE _ _ _ he⟩
 .
  refine ⟨λ b o e n hb _=>?_,λ b o e n hb _=>?_,λ b o e n _=>?_,λ b o e _=>?_,λ b xs q=>F.un.og b xs (I.base.og b xs q),λ b ob u q=>F.un.nu b ob u (I.base.nu b ob u q),λ b ps q=>?_⟩
  . have e1:=I.base.keep b o e n hb (EE b)
    have e2:=F.un.keep b o e1 (I.base.free b o e n (EE b)) (nA b o e hb) (by simp)
    exact He.1 b o (hB b o e1 (nA b o e hb) o e2)
  .
   obtain ⟨sl,e1⟩:=I.base.slot b o e n hb (EE b)
   obtain ⟨sl',e2⟩:=F.un.slot b _ e1 (I.base.free b o e n (EE b)) (abO (s₀.heap.objs.size) hb:b∈ib (envOfC qual scope s₀.heap.objs.size f cd::outer)) (by simp)
   obtain ⟨o1,e3,hd⟩:=fin b hb
   rw [e2] at e3
   cases e3
   obtain ⟨CF,e4⟩:=up b _ e2 hd
   exact ⟨CF,e4⟩
  . obtain ⟨o1,e1⟩:=I.base.there b o e (EE b)
    exact F.un.free b o1 e1 (I.base.free b o e n (EE b)) (by simp)
  .
   by_cases hb:b∈ib outer
   . obtain ⟨o1,e3,hd⟩:=fin b hb
     obtain ⟨CF,e4⟩:=up b _ e3 hd
     exact ⟨_,e4⟩
   . obtain ⟨o',_,_,e'⟩:=at2 b o e hb
     exact ⟨o',e'⟩
  . obtain ⟨m1,e1⟩:=I.base.on b ps q
    obtain ⟨m2,e2⟩:=F.un.on b _ e1
    exact ⟨m1++m2,by rw [e2,ap3]⟩
 .
  intro b o e hb o' e'
  obtain ⟨o1,_,e1,e2⟩:=at2 b o e hb
  rw [e2] at e'
  cases e'
  exact e1
end
theorem La {K:W.Frag} {h:Heap} {newId:String} (X:K.In h) (q:W.excIn K C ur newId=true) :
   ∃ bm N nm q bs hdct sn sub ab col dd k0 k1 k2 k3 k5 mN,h.get? C=some (excClassObj nm q C N bs bm hdct sn sub ab col dd k0 k1 k2 k3 k5 newId)/\h.Ns N mN/\mN "__init__" = none/\OwnTail h ur bm:=by
 unfold W.excIn at q
 split at q
 .
  rename_i dd cd sl ho
  split at q
  .
   rename_i C' bm k0 k1 k2 k3 n k5 hm hs
   simp only [ac5,beq_iff_eq,aob] at q
   obtain ⟨⟨⟨⟨⟨rfl,rfl⟩,Xo⟩,ht⟩,cq⟩,OM⟩:=q
   obtain ⟨nm,bs,mro,ns,qn,hd,sn,sub,ab,col,del⟩:=cd
   dsimp only at hm Xo cq OM
   subst hm Xo
   have Nu:sl=#[k0,k1,k2,k3,some (.builtin n),k5]:=by
     obtain ⟨l⟩:=sl
     simp only at hs
     rw [hs]
   subst Nu
   exact ⟨bm,ns,nm,qn,bs,hd,sn,sub,ab,col,dd,k0,k1,k2,k3,k5,_,X _ _ ho,.of_isNs (W.isNs_of_in X cq),W.nsMap_none_of_in X cq OM,W.tail_of_in X ht⟩
  . cases q
 . cases q
section
variable {X:Cx}
def Oh (C:Addr) (E:XK) (t:TA):TS:=λ _ U H=>t U H λ vs H1=>vs.length<=sizeLine/\E (.ref C) none H1
theorem sB {c:Str} {B j8:String} {newId:String} {rest:List Expr} {pos:Pos} {t:TA} (hc:X.calm=true) (FB:ExcBaseFacts B newId j8 ur) (hm:X.mg c=some (.ref C)) (q:W.excIn X.K C ur newId=true) (th:Thr X E) (ha:PA X (e₀::rest) t) (hg:Gl X c:=by rfl) (hd:(c == ("__debug__" : Str))=false:=by decide) (he:starEach (e₀::rest) X.env=(false,eval e₀ X.env)::starEach rest X.env:=by rfl) (kN:(backTo eC (starEach rest X.env)).any (·.1)=false:=by rfl) :
   PS X (.Raise (some (.Call (.Name c np) (e₀::rest) [] eC)) none pos) (Oh C E t):=by
 intro pins s U H D I h
 obtain ⟨tl,N,nm,qn,bs,hdct,sn,sub,ab,col,dd,k0,k1,k2,k3,k5,mN,hC,hN,OM,T⟩:=La I.ok.mod.Il q
 refine wpAny_Raise_call_subT (C:=C) (nm:=nm) (q:=qn) (N:=N) (bs:=bs) (bm:=tl) (hdct:=hdct) (sn:=sn) (sub:=sub) (ab:=ab) (col:=col) (dd:=dd) (k0:=k0) (k1:=k1) (k2:=k2) (k3:=k3) (k5:=k5)
   FB (mN:=mN) (T.hasType FB.hasBase) (I.ok.hd hc) (by rw [he];show (false || (backTo eC (starEach rest X.env)).any (·.1))=false;rw [kN];rfl) OM (mn I hg hm ⟨rfl,?_⟩ hd)
 have hA:=ha eC pins s U H _ I h
 rw [he] at hA ⊢
 refine aok (acV hA (λ us s2 ⟨vs,H2,I2,r2,hz,q2⟩=>⟨rfl,by rw [← r2.length];exact hz,I2.bk _ _ hC,hN.keeps I2.bk,T.keeps I2.bk,λ h' x hx=>?_⟩) λ _ _ y=>y)
 exact th pins U H2 s2 h' x _ _ I2 hx q2
end
def PX (X:Cx) (e:Expr) (t:St->Hp->VK->XK->Prop):Prop :=
 ∀ (pins:List (Addr×Obj)) (s:Shared) (U:St) (H:Hp) (Q:VK) (E:XK),Inv X pins U H s->t U H Q E ->
   wpAny (model X.prog X.w) X.A (eval e X.env) (EP X pins U Q) (λ ex s'=>∃ H1 s1,Inv X pins U H1 s1/\zA X.prog X.w X.stack H1 s1 E ex s') s
structure sd (P:Program) (w:World) (outer:List Env) (H:Hp) (s:Shared) (cls:Value) (x:Addr) (H':Hp) (a0:Value) (B:Heap) (s':Shared):Prop where
 os:s'.os=s.os
 bare:AllBare s'.gens
 un:Un (ib outer) [] H H' s.heap s'.heap
 cq:j2 P w H' s'.heap
 fl:Heap.FlyingW B outer x cls a0 s'.heap
 st:∀ b o,s.heap.get? b=some o->b∉ib outer->∀ o',s'.heap.get? b=some o'->B.get? b=some o'
 tk:∀ b u,H' b=some u->∃ o,B.get? b=some o
theorem Fly.b {P:Program} {w:World} {outer:List Env} {s s':Shared} {cls:Value} {x:Addr} (F:Fly P w outer H s cls x H' s'):∃ a0 B,sd P w outer H s cls x H' a0 B s' :=
 let ⟨a0,B,fl,hB,tk⟩:=F.fly;⟨a0,B,F.os,F.bare,F.un,F.cq,fl,hB,tk⟩
section
variable {P:Program} {w:World} {outer:List Env} {H H':Hp} {s s':Shared} {cls a0:Value} {x:Addr} {B:Heap}
theorem sd.fin (F:sd P w outer H s cls x H' a0 B s'):∀ b∈ib outer,∃ o,s'.heap.get? b=some o/\∀ vs,o.data ≠ .fields vs:=λ b hb=>(F.fl.2.2.1.mem hb).2
theorem sd.moved {t2:Nat} (F:sd P w outer H s cls x H' a0 B s') (He:Heap.FlyingW B outer x cls a0 h2) (up:s'.heap.UpToSlots h2):sd P w outer H s cls x H' a0 B { s' with heap:=h2,toks:=t2 }:=by
 have th:∀ b o,s.heap.get? b=some o->b∉ib outer->∃ o',B.get? b=some o'/\h2.get? b=some o':=λ b o e hb=>by
   obtain ⟨o1,e1⟩:=F.un.there b o e (by simp)
   have q:=F.st b o e hb o1 e1
   exact ⟨o1,q,He.1 b o1 q⟩
 refine ⟨F.os,F.bare,⟨λ b o e n hb hx=>?_,λ b o e n hb hx=>?_,F.un.free,λ b o e hx=>?_,F.un.og,F.un.nu,F.un.on⟩,xm F.cq He.1 F.fl.1 F.tk,He,λ b o e hb o' e'=>?_,F.tk⟩
 . exact He.1 b o (F.st b o e hb o (F.un.keep b o e n hb hx))
 .
  obtain ⟨sl,e1⟩:=F.un.slot b o e n hb hx
  obtain ⟨o1,e3,hd⟩:=F.fin b hb
  rw [e1] at e3
  cases e3
  obtain ⟨CF,e4⟩:=up b _ e1 hd
  exact ⟨CF,e4⟩
 .
  by_cases hb:b∈ib outer
  . obtain ⟨o1,e3,hd⟩:=F.fin b hb
    obtain ⟨CF,e4⟩:=up b _ e3 hd
    exact ⟨_,e4⟩
  . obtain ⟨o',_,e4⟩:=th b o e hb
    exact ⟨o',e4⟩
 .
  obtain ⟨o1,q,e4⟩:=th b o e hb
  have e4':h2.get? b=some o':=e'
  rw [e4] at e4'
  cases e4'
  exact q
theorem sd.none (F:sd P w outer H s cls x H' a0 B s'):H' x=none:=by
 cases q:H' x with
 | none=>rfl
 | some u =>
   obtain ⟨o,e⟩:=F.tk x u q
   rw [F.fl.2.1] at e
   cases e
theorem sd.obj (F:sd P w outer H s cls x H' a0 B s'):∃ oe vs,s'.heap.get? x=some oe/\oe.cls=cls/\oe.data = .fields vs :=
 let ⟨oe,vs,e,c,d,_⟩:=F.fl.first;⟨oe,vs,e,c,d⟩
end
def Cx.held (X:Cx) (e:Addr) (oe:Obj):Cx:={ X with A:=X.A.mark (some (.ref e)),calm:=false,pn:=X.pn++[(e,oe)],xe:=λ _ _=>False }
theorem Cx.Ok.held {X:Cx} (ok:X.Ok) (e:Addr) (oe:Obj):(X.held e oe).Ok :=
 ⟨ok.mod,ok.kind,ok.glob,ok.blt,ok.above,ok.inj,ok.has,ok.Pe,(λ z=>nomatch z),ok.frames,ok.Xi,ok.exf,ok.bs,ok.Jg,ok.DB,ok.GS,ok.mP,ok.HR⟩
section
variable {X:Cx} {pins:List (Addr×Obj)} {U:St} {H H':Hp} {s s':Shared} {cls a0:Value} {e:Addr} {oe:Obj} {B:Heap}
theorem Inv.HJ (I:Inv X pins U H s) (F:sd X.prog X.w X.stack H s cls e H' a0 B s'):Inv X pins U H' s' :=
 I.Mi (ch:=[]) F.os F.un F.cq F.bare (λ b z=>absurd z (by simp))
theorem Inv.held {vs:Array Value} (I:Inv X pins U H s) (he:s.heap.get? e=some oe) (hd:oe.data = .fields vs) (hn:H e=none):Inv (X.held e oe) pins U H s:=by
 refine ⟨I.ok.held e oe,I.os,I.bare,I.base,I.loc,I.cell,I.free,I.jU,λ p hp=>?_,I.cq,I.len⟩
 rcases List.mem_append.mp hp with hp|hp
 .
  rcases List.mem_append.mp hp with hp|hp
  . exact I.pin p (age _ hp)
  .
   have ep:p=(e,oe):=by simpa using hp
   subst ep
   refine ⟨he,hn,λ z=>?_,λ z=>?_,λ v z=>?_⟩
   .
    obtain ⟨m,⟨o,es,ep,ho,Bf,_⟩,_⟩:=I.loc
    have z':e=X.env.locals:=z
    rw [z',ho] at he
    cases he
    rw [Bf] at hd
    cases hd
   . obtain ⟨_,o,ho,hnf⟩:=I.mP.mem z
     have wZ:s.heap.get? e=some o:=ho
     rw [he] at wZ
     cases wZ
     exact hnf vs hd
   . have z':oe.data = .cell v:=z
     rw [hd] at z'
     cases z'
 . exact I.pin p (aaN _ hp)
theorem Inv.wF (ok:X.Ok) (I:Inv (X.held e oe) pins U H s):Inv X pins U H s :=
 ⟨ok,I.os,I.bare,I.base,I.loc,I.cell,I.free,I.jU,λ p hp=>I.pin p ((List.mem_append.mp hp).elim (λ z=>age _ (age _ z)) λ z=>aaN _ z),I.cq,I.len⟩
theorem mH {A:Around} {E:Value->Shared->Prop} {n:Str} {pos:Pos} {Q:Unit->Shared->Prop} (I:Inv X pins U H s) (hN:X.N.Nodup) (hi:X.N[i]?=some n) (hl:X.env.scope.names.lookup n=some .local) (h:∀ s',Inv X pins (U.set i none) H s'->Q () s'):wpAny (model X.prog X.w) A (do bindName X.env n .none;unbindBehindTheSuite X.env n pos) Q E s:=by
 obtain ⟨m,hn,hm⟩:=id I.loc
 refine wpAny_nameGoes_keeps hl hn (by rw [I.ok.kind];rfl) λ h' v hn' hs=>h _ ?_
 have Hh:=I.Hh
 refine ⟨I.ok,I.os,I.bare,I.base.sN hs (an4 I.ok.above),⟨_,hn',λ j y v' e1 e2 e3=>?_⟩,λ y c q=>?_,I.free,I.jU,λ p hp=>?_,I.cq.sN hs I.free,by rw [ah1];exact I.len⟩
 .
  by_cases hj:j=i
  . subst hj
    rw [List.getElem?_set] at e2
    simp only [anK] at e2
    split at e2<;>cases e2
  .
   rw [agM (alt hj)] at e2
   obtain ⟨u',r',q⟩:=hm j y v' e1 e2 e3
   refine ⟨u',r',?_⟩
   rcases q with ⟨k,q⟩|⟨k,c,q,z⟩
   . refine .inl ⟨k,?_⟩
     have:y≠n:=λ z=>hj (sY hN e1 (z ▸ hi))
     show (if y=n then v else m y)=some u'
     rw [aa8 this]
     exact q
   . exact .inr ⟨k,c,q,z.sameBut hs (Hh y c q)⟩
 . obtain ⟨w',z⟩:=I.cell y c q
   exact ⟨w',z.sameBut hs (Hh y c q)⟩
 . obtain ⟨q,n',ne,nf,d⟩:=I.pin p hp
   exact ⟨(hs.2 p.1 ne).trans q,n',ne,nf,d⟩
end
def Wq (X:Cx) (st:List Stmt) (t:(St->XK)->TS):Prop :=
 ∀ (pins:List (Addr×Obj)) (s:Shared) (U:St) (H:Hp) (D:Ends) (E:St->XK),Inv X pins U H s->t E D U H ->
   wpAny (model X.prog X.w) X.A (execs st X.env) (SP X pins D) (λ ex s'=>∃ σ1 H1 s1,Inv X pins σ1 H1 s1/\zA X.prog X.w X.stack H1 s1 (E σ1) ex s') s
section
variable {X:Cx} {pos:Pos}
theorem yB {e:Expr} {t:St->Hp->VK->XK->Prop} (he:PX X e t) (hs:swapsWith e none pos.line X.env=pure false:=by rfl):Wq X [.Expr e pos] (λ E D U H=>t U H (λ _ H1=>D.nx U H1) (E U)):=by
 intro pins s U H D E I h
 refine aoJ (wpAny_Expr_any (acV (he pins s U H _ _ I h) (λ v s1 q=>?_) λ ex s1 q=>?_) I.quiet hs)
 . obtain ⟨x,H1,I1,r1,q1⟩:=q
   exact anS ⟨U,H1,I1,q1⟩
 . obtain ⟨H1,s1,I1,c⟩:=q
   exact ⟨U,H1,s1,I1,c⟩
theorem Ol {c:Expr} {a b:List Stmt} {tc:TT} {t u:(St->XK)->TS} (hc:PT X.zV c tc) (ha:Wq X a t) (hb:Wq X b u):Wq X [.If c a b pos] (λ E D U H=>tc U H λ k H1=>if k=true then t E D U H1 else u E D U H1):=by
 intro pins s U H D E I h
 refine aoJ (wpAny_If (acV (hc pins s U H _ (I.mj _) h) (λ d s1 q=>?_) λ _ _ z=>False.elim z))
 obtain ⟨H1,I1,q1⟩:=q
 have I1':Inv X pins U H1 s1:=I1.i8
 have fin:∀ f s2,SP X pins D f s2->(match f with|Flow.next=>wpAny (model X.prog X.w) X.A (execs [] X.env) (SP X pins D) (λ ex s'=>∃ σ1 H1 s1,Inv X pins σ1 H1 s1/\zA X.prog X.w X.stack H1 s1 (E σ1) ex s') s2|f=>SP X pins D f s2):=λ f s2 z=>by
   cases f with
   | next=>exact anS z
   | ret v=>exact z
   | brk=>exact z
   | cont=>exact z
 cases d with
 | true=>exact acV (ha pins s1 U H1 D E I1' q1) fin λ _ _ z=>z
 | false=>exact acV (hb pins s1 U H1 D E I1' q1) fin λ _ _ z=>z
def Ends.unset (D:Ends) (i:Nat):Ends:=⟨λ U H=>D.nx (U.set i none) H,D.rt,λ U H=>D.bk (U.set i none) H,λ U H=>D.ct (U.set i none) H⟩
def LP (K:W.Frag) (c:Value) (i:Nat) (t:(St->XK)->TS) (ts:Value->Option Addr->Addr->TS):TS:=λ D U H =>
 t (λ σ1 cls d H1=>W.exmOne K cls c=some true/\∀ e,H1 e=none->ts cls d e (D.unset i) (σ1.set i (some (.ref e))) H1) D U H
theorem DT {M:Model} {A:Around} {E:Value->Shared->Prop} {s:Shared} {base:Heap} {env:Env} {outer:List Env} {e:Addr} {cls a0:Value} {Q:Unit->Shared->Prop} (hfr:A.frames=some (env::outer)) (hf:env.frame=some L) (Cv:Heap.FlyingW base (env::outer) e cls a0 s.heap) (hQ:∀ h',Heap.HeldW base (env::outer) e cls a0 L h'->s.heap.UpToSlots h'->cx s.heap h'->Q () { s with heap:=h' }):wpAny M A (noteFrame (.ref e) env) Q E s:=by
 refine acV (gM (u7 _ _) (wpAny_looks_onW (E:=λ _ _=>False) (Q:=λ _ s2=>∃ h2,s2={ s with heap:=h2 }/\Heap.HeldW base (env::outer) e cls a0 L h2/\s.heap.UpToSlots h2) hfr hf Cv λ h2 a b=>⟨h2,rfl,a,b⟩)) (λ _ s2 z=>?_) λ _ _ z=>z.1.elim
 obtain ⟨⟨h2,rfl,a,b⟩,dk⟩:=z
 exact hQ h2 a b dk
theorem DI {M:Model} {A:Around} {E:Value->Shared->Prop} {s:Shared} {base:Heap} {l:List Env} {e:Addr} {cls a0:Value} {Q:Unit->Shared->Prop} (hh:Heap.HeldW base l e cls a0 L s.heap) (hQ:∀ h',Heap.FlyingW base l e cls a0 h'->s.heap.UpToSlots h'->cx s.heap h'->Q () { s with heap:=h' }):wpAny M A (setFlight (.ref e) none) Q E s:=by
 refine acV (gM (i6 _ _) (wpAny_landsW (E:=λ _ _=>False) (Q:=λ _ s2=>∃ h2,s2={ s with heap:=h2 }/\Heap.FlyingW base l e cls a0 h2/\s.heap.UpToSlots h2) hh λ h2 a b=>⟨h2,rfl,a,b⟩)) (λ _ s2 z=>?_) λ _ _ z=>z.1.elim
 obtain ⟨⟨h2,rfl,a,b⟩,dk⟩:=z
 exact hQ h2 a b dk
theorem wm {M:Model} {A:Around} {E:Value->Shared->Prop} {s:Shared} {base:Heap} {l:List Env} {e:Addr} {cls a0:Value} {Q:Unit->Shared->Prop} (hh:Heap.FlyingW base l e cls a0 s.heap) (hQ:∀ h',Heap.FlyingW base l e cls a0 h'->s.heap.UpToSlots h'->cx s.heap h'->Q () { s with heap:=h' }):wpAny M A (setFlight (.ref e) none) Q E s:=by
 refine acV (gM (i6 _ _) (lands_againW (E:=λ _ _=>False) (Q:=λ _ s2=>∃ h2,s2={ s with heap:=h2 }/\Heap.FlyingW base l e cls a0 h2/\s.heap.UpToSlots h2) hh λ h2 a b=>⟨h2,rfl,a,b⟩)) (λ _ s2 z=>?_) λ _ _ z=>z.1.elim
 obtain ⟨⟨h2,rfl,a,b⟩,dk⟩:=z
 exact hQ h2 a b dk
theorem Jm {body:List Stmt} {c n:Str} {Hi:Pos} {b₀:Stmt} {Mm:List Stmt} {t:(St->XK)->TS} {ts:Value->Option Addr->Addr->TS} (gE:X.stack=X.env::X.outer) (hfr:X.env.frame=some X.env.locals) (hN:X.N.Nodup) (hi:X.N[i]?=some n) (hl:X.env.scope.names.lookup n=some .local) (hm:X.mg c=some (.ref C)) (hb:Wq X body t) (hs:∀ cls d e oe,oe.cls=cls->oe.dict=d->W.notCls oe=true->qg (X.held e oe) (b₀::Mm) (ts cls d e)) (hg:Gl X c:=by rfl) (vG:(c == ("__debug__" : Str))=false:=by decide) :
   PS X (.Try body [.ExceptHandler (some (.Name c np)) (some n) (b₀::Mm) Hi] [] [] pos) (LP X.K (.ref C) i t ts):=by
 intro pins s U H D I h
 refine wpAny_Try_except (acV (hb pins s U H D _ I h) (λ f s1 q=>?_) λ ex s1 hx=>?_)
 .
  cases f with
  | next=>exact anS q
  | ret v=>exact q
  | brk=>exact q
  | cont=>exact q
 .
  obtain ⟨σ1,H1,s0,I0,x,cls,H',rfl,F,dd,zT,hm',hk⟩:=hx
  obtain ⟨a0,B,FB⟩:=F.b
  have fr:X.A.frames=some (X.env::X.outer):=gE ▸ I.ok.frames
  have fl':Heap.FlyingW B (X.env::X.outer) x cls a0 s1.heap:=gE ▸ FB.fl
  refine DT fr hfr fl' λ h4 held up4 dk4=>?_
  refine DI held λ h5 fl5 up5 dk5=>?_
  have F5:=FB.moved (t2:=s1.toks) (gE ▸ fl5) (Heap.UpToSlots.trans up4 up5)
  have I5:=I0.HJ F5
  obtain ⟨oe5,vs5,he5,hc5,hd5⟩:=F5.obj
  have J5:=I5.held he5 hd5 F5.none
  refine wpAny_handleBy_cons (codeAny_handlers_test (mn (X:=X.held x oe5) J5 hg hm ?_ vG)) (by intro q;cases q)
  have LT:W.Looks (model X.prog X.w) h5 (typeOf (.ref x)) cls:=hc5 ▸ (aoB he5).andThen .now
  refine (W.exm_one J5.lJ LT hm') _ _ _ _ (λ _ _ q=>q) ?_
  refine codeAny_handlers_suite_as ?_
  refine wm fl5 λ h6 fl6 up6 dk6=>?_
  have F6:=F5.moved (t2:=s1.toks) (gE ▸ fl6) up6
  have I6:=I0.HJ F6
  obtain ⟨oe,vs,he,hc,hd⟩:=F6.obj
  have J6:=I6.held he hd F6.none
  have afO:oe.dict=dd:=by
    obtain ⟨o6,e6,z6⟩:=((zT.kept dk4).kept dk5).kept dk6
    have e6:h6.get? x=some o6:=e6
    have he:h6.get? x=some oe:=he
    rw [he] at e6
    cases e6
    exact z6
  refine rH (X:=X.held x oe) (v:=.ref x) J6 hN hi (.inl hl) rfl (λ s7 J7=>?_) (.inr hl)
  refine acV (hs cls dd x oe hc afO (by unfold W.notCls;rw [hd]) pins s7 _ H' (D.unset i) J7 (hk x F6.none)) (λ f s8 q=>?_) λ _ _ z=>False.elim z
  have ok:=I.ok
  cases f with
  | next =>
    obtain ⟨σ8,H8,J8,q8⟩:=q
    exact mH (J8.wF ok) hN hi hl λ s9 I9=>⟨_,H8,I9,q8⟩
  | brk =>
    obtain ⟨σ8,H8,J8,q8⟩:=q
    exact mH (J8.wF ok) hN hi hl λ s9 I9=>⟨_,H8,I9,q8⟩
  | cont =>
    obtain ⟨σ8,H8,J8,q8⟩:=q
    exact mH (J8.wF ok) hN hi hl λ s9 I9=>⟨_,H8,I9,q8⟩
  | ret v =>
    obtain ⟨v8,σ8,H8,J8,r8,q8⟩:=q
    exact mH (J8.wF ok) hN hi hl λ s9 I9=>⟨v8,_,H8,I9,r8,q8⟩
end
structure mU (K:W.Frag) (C:Addr):Prop where
 ga:W.findIn K (.ref C) "__getattribute__" = some (some (.builtin "BaseException.__getattribute__"))
 gt:W.findIn K (.ref C) "__getattr__" = some none
 cl:W.findIn K (.ref C) "__class__" = some (some (.builtin "object.__class__"))
 gs:W.specialIn K (.builtin "object.__class__") "__get__" = some (some (.builtin "getset_descriptor.__get__"))
 tk:W.takesIn K (.builtin "object.__class__")=some true
 mo:W.mroIn K C (.type "object")=some true
 mb:W.mroIn K C (.type "BaseException")=some true
 is:(W.clsIn K C).isSome=true
section
open PySem.Builtin PySem.Builtin.ObjectAttr PySem.Builtin.Getset_descriptor
variable {K:W.Frag} {C e:Addr}
theorem EG {M:Model} {h:Heap} {name:Str} {a g:Value} (X:K.In h) (h1:W.findIn K (.ref C) name=some (some a)) (h2:W.specialIn K a "__get__" = some (some g)) (h3:W.takesIn K a=some true) :
   W.Looks M h (find (.ref e) (.ref C) name) (.bind g a):=by
 have M1:=an5 (M:=M) X h1
 have M2:W.Looks M h (getOf (some a)) (some g):=W.looks_specialIn X h2
 have M3:W.Looks M h (dataDescriptor? (some a) (some g)) (some (g,a)):=(W.looks_takesIn (M:=M) X h3).andThen .now
 exact M1.andThen (M2.andThen (M3.andThen (W.Looks.tag .now)))
variable {prog:Program} {w:World} {A:Around} {s:Shared} {oe:Obj}
theorem DC {R:Result->Shared->Prop} {tp:Value} (X:K.In s.heap) (he:s.heap.get? e=some oe) (hc:oe.cls = .ref C) (hE:mU K C) (h:R (.ok (.ret (.ref C))) s) :
   codeAny (model prog w) A (.call (.builtin "getset_descriptor.__get__") ⟨[.builtin "object.__class__",.ref e,tp],[]⟩) R s:=by
 obtain ⟨tD,gn,dw,tt,M8⟩:=s
 have M0:W.Looks (model prog w) tD (typeOf (.ref e)) (.ref C):=hc ▸ (aoB he).andThen .now
 have M1:=ao8 (M:=model prog w) X hE.mo
 refine aog W.KF.slot_gs.plain W.KF.entry_gs (W.KF.slot_gs.check _ _ _ _ _ _ _ _ W.KF.type_class (W.KF.args_gs _ _ _) ?_)
 unfold PySem.Builtin.«getset_descriptor.__get__» descrGet
 rw [W.dga_obj]
 refine T1 (abF ?_)
 unfold descrGetter descrCheckInstance descrNameAndClass PySem.isInstance
 simp only [W.KF.owner_class]
 repeat lk
 refine ⟨apf _ (by decide +kernel),codeAny_builtin W.KF.entry_class ?_⟩
 unfold PySem.Builtin.«object.__class__» PySem.shownTypeOf
 repeat lk
 exact h
theorem Np {R:Result->Shared->Prop} {tk:Tok} (X:K.In s.heap) (he:s.heap.get? e=some oe) (hc:oe.cls = .ref C) (hE:mU K C) (h:R (.ok (.ret (.ref C))) s) :
   codeAny (model prog w) A (.call (.builtin "BaseException.__getattribute__") ⟨[.ref e,.str "__class__" tk],[]⟩) R s:=by
 obtain ⟨tD,gn,dw,tt,M8⟩:=s
 have M0:W.Looks (model prog w) tD (typeOf (.ref e)) (.ref C):=hc ▸ (aoB he).andThen .now
 have MB:=ao8 (M:=model prog w) X hE.mb
 have MF:=EG (M:=model prog w) (e:=e) X hE.cl hE.gs hE.tk
 have ar:=apP (.ref e) (.str "__class__" tk)
 refine aog PySem.F.excAttr_ValueError.ga.plain apH ?_
 have hk:builtinKind "BaseException.__getattribute__" = some .slot:=by decide +kernel
 have BJ:splitId "BaseException.__getattribute__" = some ("BaseException","__getattribute__"):=by decide +kernel
 simp only [checkBuiltinCall,hk,BJ]
 refine T1 ((M0.andThen MB).at ?_)
 simp only [apx,an9,aoe]
 unfold argsOk at ar
 refine aoa (a:=()) ar ?_
 unfold PySem.Builtin.«object.__getattribute__»
 refine T1 (aoa (a:=(Value.ref e,[Value.str "__class__" tk])) rfl ?_)
 dsimp only
 refine T1 (aoa (a:=("__class__" : Str)) rfl ?_)
 refine T1 (M0.at (T1 (MF.at ?_)))
 show wpAny _ _ (holding [_] (call _ [_,_,_]) >>= ret) _ _ _
 refine T1 (alp (aoo (DC (s:=⟨tD,gn,dw,tt,M8⟩) X he hc hE ?_)))
 exact abF h
theorem zq (hE:mU K C):W.KitX K (.ref e) (.ref C) (λ h=>∃ oe,h.get? e=some oe/\oe.cls = .ref C) where
 ty:=λ _ _ _ ⟨_,he,hc⟩=>hc ▸ (aoB he).andThen .now
 it:=λ _ _ X _=>by
   obtain ⟨cd,mR⟩:=Option.isSome_iff_exists.mp hE.is
   unfold W.clsIn at mR
   split at mR
   . rename_i q1 q2 q3 q4 ho
     intro A1 Q1 E1 s1 keep q
     unfold isType loadHead
     exact T1 (aoV (keep _ _ (X _ _ ho)) (abF q))
   . cases mR
 ne:=λ h tp dd bG n sl X htp=>by
   obtain ⟨cd,mR⟩:=Option.isSome_iff_exists.mp hE.is
   refine Bool.eq_false_iff.mpr λ q=>?_
   have z:C=tp:=Value.ref.inj (beq_iff_eq.mp q)
   subst z
   unfold W.clsIn at mR
   split at mR
   . rename_i q1 q2 q3 q4 ho
     have y:=(X _ _ ho).symm.trans htp
     cases y
   . cases mR
 ca:=λ {prog w A E Q s} X hx k=>by
   obtain ⟨oe,he,hc⟩:=hx
   obtain ⟨tD,gn,dw,tt,M8⟩:=s
   have M0:W.Looks (model prog w) tD (typeOf (.ref e)) (.ref C):=hc ▸ (aoB he).andThen .now
   have M1:=an5 (M:=model prog w) X hE.ga
   have M2:=an5 (M:=model prog w) X hE.gt
   unfold getAttr? getAttrBy? getAttrBy
   refine T1 (wpAny_mkText (T1 (wpAny_attempt (alp (T1 (M0.at (T1 (M1.at ?_))))))))
   show wpAny _ _ (getAttrByItsOwn _ _ _ _ _ _) _ _ _
   unfold getAttrByItsOwn
   refine T1 (m:=hookBefore _) (M2.at ?_)
   refine T1 (wpAny_attempt (alp ?_))
   show wpAny _ _ (boundAndCalled _ _ _) _ _ _
   unfold boundAndCalled
   refine T1 (aoa (PySem.F.excAttr_ValueError.ga.bind (.ref e)) ?_)
   refine aoo (Np (s:=⟨tD,gn,dw,tt+1,M8⟩) X he hc hE ?_)
   exact W.handed_on rfl (abF k)
end
def Ip:V->Bool
 | .ref _=>true
 | .ty _=>true
 | _=>false
def YF:V->Value
 | .ref a => .ref a
 | .ty n => .type n
 | _ => .none
theorem yj {c:V} {u:Value} (hc:Ip c=true) (r:RelV c u):u=YF c:=by
 cases c<;>first|exact r|cases hc
theorem xN:∀ {cs:List V} {us:List Value},Vals cs us->(∀ x∈cs,Ip x=true)->us=cs.map YF
 | _,_,.nil,_=>rfl
 | _,_,.cons r t,h=>by rw [aeC,yj (h _ adY) r,xN t λ x hx=>h x (abO _ hx)]
inductive IsE (K:W.Frag) (C:Addr) (H:Hp):V->Bool->Prop where
 | one {c:V} {b:Bool} (hc:Ip c=true) (h:W.kitOne K (.ref C) (YF c)=some b):IsE K C H c b
 | many {p:Addr} {cs:List V} {b:Bool} (hp:H p=some (.tup cs)) (hc:∀ x∈cs,Ip x=true) (h:W.kitAny K (.ref C) (cs.map YF)=some b):IsE K C H (.ref p) b
section
variable {X:Cx}
theorem fE {e:Addr} {cls:Value} (K:W.Frag) (hK:X.K=K) (hp:(e,oe)∈X.pn) (hc:oe.cls=cls) :
   hZ X (.builtin "isinstance") (λ xs H Q=>∃ c b C,xs=[.ref e,c]/\cls = .ref C/\mU K C/\IsE K C H c b/\Q (.bl b) H):=by
 subst hK
 intro pins s U H xs us Q I r h
 obtain ⟨c,b,C,rfl,ec,hE,is,q⟩:=h
 obtain ⟨u,w',rfl,r1,r2⟩:=vals2 r
 obtain rfl:u=Value.ref e:=r1
 have he:s.heap.get? e=some oe:=(I.pin (e,oe) (age _ hp)).1
 have fin:∀ tk,EP X pins U Q (.bool b) { s with toks:=tk }:=λ tk=>⟨.bl b,H,I.tok _,rfl,q⟩
 cases is with
 | one w9 h1 =>
   rw [yj w9 r2]
   exact anT (zq hE) I.lJ ⟨oe,he,hc.trans ec⟩ h1 (λ z=>nomatch z) fin
 | @many p cs _ hp' w9 h1 =>
   obtain rfl:w'=Value.ref p:=r2
   obtain ⟨_,bG,rv,o,ho,uY,n,hd⟩:=(show c7 X.prog X.w H s.heap p (.tup cs) from I.cq p _ hp')
   have ei:=xN rv w9
   subst ei
   obtain ⟨o1,o2,o3,o4⟩:=o
   dsimp only at uY hd
   subst uY hd
   exact W.kia_tup (zq hE) I.lJ ⟨oe,he,hc.trans ec⟩ ho h1 (λ z=>nomatch z) fin
end
theorem tK:bootBuiltins "ValueError" = some (.type "ValueError"):=by decide +kernel
open PySem.Builtin PySem.Builtin.ObjectAttr
section
variable {K:W.Frag} {prog:Program} {w:World} {A:Around} {E:Value->Shared->Prop} {s:Shared} {x C:Addr} {name:Str} {v:Value}
def mC:List Value->Bool
 | []=>false
 | .ref _::r=>mC r
 | c::r=>decide (c::r=[.type "ValueError",.type "Exception",.type "BaseException",.type "object"])
def jr (K:W.Frag) (C:Addr):Bool:=(W.clsIn K C).any λ cd=>mC cd.mro
theorem mX {l:List Value} (e:mC l=true):(∃ c r,l = .ref c::r/\mC r=true)∨l=[.type "ValueError",.type "Exception",.type "BaseException",.type "object"]:=by
 cases l with
 | nil=>cases e
 | cons c r =>
   cases c with
   | ref a=>exact .inl ⟨a,r,rfl,e⟩
   | _=>exact .inr (aop e)
theorem rF (self:Value):∀ (n:Nat) {l:List Value},l.length<=n->mC l=true->refuseLoop self "__setattr__" l=pure ()
 | 0,l,hl,e=>by
   have:l=[]:=List.length_eq_zero_iff.mp (Nat.le_zero.mp hl)
   subst this
   cases e
 | n+1,l,hl,e=>by
   rcases mX e with ⟨c,r,rfl,e'⟩|rfl
   . rw [refuseLoop_ref]
     exact rF self n (apA hl) e'
   . exact PySem.F.store_ValueError.passes self
theorem qk:∀ (n:Nat) {l:List Value},l.length<=n->mC l=true->l.contains (.type "object")=true/\l.isEmpty=false
 | 0,l,hl,e=>by
   have:l=[]:=List.length_eq_zero_iff.mp (Nat.le_zero.mp hl)
   subst this
   cases e
 | n+1,l,hl,e=>by
   rcases mX e with ⟨c,r,rfl,e'⟩|rfl
   . refine ⟨?_,rfl⟩
     rw [ap1,(qk n (apA hl) e').1,apN]
   . exact ⟨by simp,rfl⟩
theorem Cw {ox:Obj} {od:Option Obj} {tk:Tok} {R:Result->Shared->Prop} (X:K.In s.heap) (J:W.InstAt s.heap x ox C od) (hp:jr K C=true) (hf:W.findIn K (.ref C) name=some none) (h:wpAny (model prog w) A.in1 (storeInOwnDict (.ref x) (.ref C) (.str name tk) name v false)
     (λ fin s'=>match fin with | .done f=>R (.ok f) s' | .again c'=>c'.quiet=true/\codeAny (model prog w) A c' R s') (λ e s'=>R (.error e) s') s) :
   codeAny (model prog w) A (.call (.builtin "object.__setattr__") ⟨[.ref x,.str name tk,v],[]⟩) R s:=by
 obtain ⟨cd,mR,ho⟩:=apY hp
 obtain ⟨ME,CG⟩:=qk _ (aar _) ho
 have amR:W.mroIn K C (.type "object")=some true:=by
   unfold W.mroIn
   rw [mR]
   show (if cd.mro.isEmpty=true then none else some (cd.mro.contains (.type "object")))=some true
   rw [aa8 (by rw [CG];exact aaR),ME]
 have top:W.Looks (model prog w) s.heap (isInstance (.ref x) (.type "object")) true:=J.type.andThen (ao8 X amR)
 have SO:=PySem.F.store_object
 refine aog SO.slot.plain SO.entry (W.check_slot (M:=model prog w) (s:=s) (i:="object.__setattr__") (owner:="object") (n:="__setattr__") (self:=.ref x) (rest:=[.str name tk,v]) (kw:=[]) SO.kind SO.split top (SO.args (.ref x) (.str name tk) v) ?_)
 have hl:W.Looks (model prog w) s.heap (mroOf (.ref C)) cd.mro:=W.Looks.andThen (ao9 X mR) .now
 have L3:W.Looks (model prog w) s.heap (storeTaker? none) none:=.now
 rw [W.osa_eq,refuse_eq]
 refine T1 (T1 (J.type.here (T1 (hl.here ?_))))
 rw [rF _ _ (aar _) ho]
 refine abF (T1 (J.type.here (T1 ((an5 X hf).here (T1 (L3.here ?_))))))
 exact h
def EW (C t:Addr) (d:Option Addr):Obj:={ cls:=.ref C,dict:=d,data:=.fields #[.ref t,.none,.none,.none,.bool false,.none]}
theorem J1 {t:Addr} {Q:Unit->Shared->Prop} (X:K.In s.heap) (he:s.heap.get? x=some (EW C t none)) (hs:W.findIn K (.ref C) "__setattr__" = some (some (.builtin "object.__setattr__"))) (hp:jr K C=true) (ht:W.findIn K (.ref C) name=some none) (hh:W.hasDictIn K C=true) (h:∀ h',h'.get? x=some (EW C t (some s.heap.objs.size))->h'.Ns1 s.heap.objs.size (λ y=>if y=name then some v else none)->(∀ b o,b≠x->s.heap.get? b=some o->h'.get? b=some o)->Q () { s with heap:=h',toks:=s.toks+2 }) :
   wpAny (model prog w) A (setAttr (.ref x) name v) Q E s:=by
 have J:W.InstAt s.heap x (EW C t none) C none:=⟨he,rfl,rfl,trivial⟩
 refine W.set_plain X J hs (Cw (s:={ s with toks:=s.toks+1 }) X J hp ht ?_)
 obtain ⟨cd,hc,EX⟩:=apY hh
 refine T1 (abF (T1 (T1 (aoV he (T1 (W.Looks.here (s:={ s with toks:=s.toks+1 }) (ao9 X hc) ?_))))))
 rw [EX]
 rw [aa8 (by decide)]
 show wpAny _ _ (alloc { cls:=.type "dict",data:=.dict #[]} >>= λ d=>update x (λ o=>{ o with dict:=some d }) >>= λ _=>dictMade (.ref C) x d) _ _ _
 have mK:=abh he
 have he1:(s.heap.push { cls:=.type "dict",data:=.dict #[]}).get? x=some (EW C t none):=YM _ he
 have he2:((s.heap.push { cls:=.type "dict",data:=.dict #[]}).update x (λ o=>{ o with dict:=some s.heap.objs.size })).get? x=some (EW C t (some s.heap.objs.size)):=anU _ he1 rfl
 have iM:((s.heap.push { cls:=.type "dict",data:=.dict #[]}).update x (λ o=>{ o with dict:=some s.heap.objs.size })).get? s.heap.objs.size=some { cls:=.type "dict",data:=.dict #[]}:=by
   rw [anz _ _ (acN mK)]
   exact adt _ rfl
 have FW:((s.heap.push { cls:=.type "dict",data:=.dict #[]}).update x (λ o=>{ o with dict:=some s.heap.objs.size })).Ns1 s.heap.objs.size (λ _=>none) :=
   ⟨_,#[],_,iM,rfl,(λ e he=>absurd he (by simp)),(by simp [UniqKeys]),λ _=>rfl⟩
 refine T1 (wpAny_alloc ?_)
 refine T1 (wpAny_update he1 ?_)
 refine abF (a:=some s.heap.objs.size) ?_
 refine T1 (abF (T1 ?_))
 refine wpAny_nsSet1 (s:={ s with heap:=(s.heap.push { cls:=.type "dict",data:=.dict #[]}).update x (λ o=>{ o with dict:=some s.heap.objs.size }),toks:=s.toks+1 }) FW λ h' Dj GF=>?_
 obtain ⟨oD,esD,epD,Rp,VJ,PU⟩:=Dj.count (aoq name v (ns:=[]) (λ y hy=>absurd rfl hy))
 refine T1 (apq Rp (by rw [VJ];exact apr (afY PU (by rw [acq,am8,ao1];lia))) ?_)
 refine abF (h h' ((GF.2 _ (acN mK)).trans he2) Dj λ b o hb q=>?_)
 rw [GF.2 b (acN (abh q))]
 show ((s.heap.push _).update x _).get? b=some o
 rw [anz _ _ (alt hb)]
 exact YM _ q
end
open PySem.Builtin PySem.Builtin.ObjectAttr
section
variable {K:W.Frag} {prog:Program} {w:World} {A:Around} {E:Value->Shared->Prop} {s:Shared} {e C dx:Addr} {name:Str} {v:Value} {oe:Obj} {mA:Str->Option Value}
theorem Kk {R:Result->Shared->Prop} {tk:Tok} (X:K.In s.heap) (he:s.heap.get? e=some oe) (hc:oe.cls = .ref C) (hn:W.notCls oe=true) (hd:oe.dict=some dx) (ns:s.heap.Ns1 dx mA) (hE:mU K C) (hh:W.hasDictIn K C=true) (ha:W.findIn K (.ref C) name=some none) (hv:mA name=some v) (h:R (.ok (.ret v)) s):codeAny (model prog w) A (.call (.builtin "BaseException.__getattribute__") ⟨[.ref e,.str name tk],[]⟩) R s:=by
 obtain ⟨od,Bf,hl⟩:=pJ ns
 have J:W.InstAt s.heap e oe C (some od):=⟨he,hc,hn,by rw [hd];exact Bf⟩
 have MF:=W.looks_find (M:=model prog w) X J (W.findObj_own (v:=v) hh ha rfl (by rw [hl,hv]))
 obtain ⟨tD,gn,dw,tt,M8⟩:=s
 have M0:W.Looks (model prog w) tD (typeOf (.ref e)) (.ref C):=hc ▸ (aoB he).andThen .now
 have MB:=ao8 (M:=model prog w) X hE.mb
 have ar:=apP (.ref e) (.str name tk)
 refine aog PySem.F.excAttr_ValueError.ga.plain apH ?_
 have hk:builtinKind "BaseException.__getattribute__" = some .slot:=by decide +kernel
 have BJ:splitId "BaseException.__getattribute__" = some ("BaseException","__getattribute__"):=by decide +kernel
 simp only [checkBuiltinCall,hk,BJ]
 refine T1 ((M0.andThen MB).at ?_)
 simp only [apx,an9,aoe]
 unfold argsOk at ar
 refine aoa (a:=()) ar ?_
 unfold PySem.Builtin.«object.__getattribute__»
 refine T1 (aoa (a:=(Value.ref e,[Value.str name tk])) rfl ?_)
 dsimp only
 refine T1 (aoa (a:=name) rfl ?_)
 refine T1 (M0.at (T1 (MF.at ?_)))
 exact abF h
theorem Li {b:Bool} {Q:Value->Shared->Prop} (X:K.In s.heap) (he:s.heap.get? e=some oe) (hc:oe.cls = .ref C) (hn:W.notCls oe=true) (hd:oe.dict=some dx) (ns:s.heap.Ns1 dx mA) (hE:mU K C) (hh:W.hasDictIn K C=true) (ha:W.findIn K (.ref C) name=some none) (hv:mA name=some v) (hh':W.handedIn v=true) (h:Q v { s with toks:=s.toks+1 }):wpAny (model prog w) A (getAttr (.ref e) name b) Q E s:=by
 obtain ⟨tD,gn,dw,tt,M8⟩:=s
 have M0:W.Looks (model prog w) tD (typeOf (.ref e)) (.ref C):=hc ▸ (aoB he).andThen .now
 have M1:=an5 (M:=model prog w) X hE.ga
 have M2:=an5 (M:=model prog w) X hE.gt
 unfold getAttr getAttrBy
 refine T1 (wpAny_mkText (alp (T1 (M0.at (T1 (M1.at ?_))))))
 show wpAny _ _ (getAttrByItsOwn _ _ _ _ _ _) _ _ _
 unfold getAttrByItsOwn
 refine T1 (m:=hookBefore _) (M2.at ?_)
 refine T1 (wpAny_attempt (alp ?_))
 have hcg:callGetattribute (.ref e) (.str name tt) (.builtin "BaseException.__getattribute__") b=boundAndCalled (.builtin "BaseException.__getattribute__") (.ref e) (.str name tt):=by
   unfold callGetattribute
   rw [aa8 (by cases b<;>decide)]
 rw [hcg]
 unfold boundAndCalled
 refine T1 (aoa (PySem.F.excAttr_ValueError.ga.bind (.ref e)) ?_)
 refine aoo (Kk (s:=⟨tD,gn,dw,tt+1,M8⟩) X he hc hn hd ns hE hh ha hv ?_)
 exact W.handed_on hh' h
end
structure ExcAt (K:W.Frag) (C:Addr) (f:Str):Prop where
 ex:mU K C
 hd:W.hasDictIn K C=true
 no:W.findIn K (.ref C) f=some none
 sa:W.findIn K (.ref C) "__setattr__" = some (some (.builtin "object.__setattr__"))
 po:jr K C=true
section
variable {X:Cx}
theorem Le {b:Bool} {s:Shared} {A:Around} {E:Value->Shared->Prop} {e dx:Addr} {fs:List (Str×V)} {f:Str} {Q:Value->Shared->Prop} (I:Inv X pins U H s) (hp:(e,oe)∈X.pn) (hc:oe.cls = .ref C) (hn:W.notCls oe=true) (hd:oe.dict=some dx) (hx:H dx=some (.xd fs)) (hE:ExcAt X.K C f) (hl:fs.lookup f=some v) (h:∀ u s',Inv X pins U H s'->RelV v u->Q u s'):wpAny (model X.prog X.w) A (getAttr (.ref e) f b) Q E s:=by
 have he:=(I.pin (e,oe) (age _ hp)).1
 obtain ⟨mA,ns,r⟩:=I.cq dx _ hx
 obtain ⟨u,hu,ru⟩:=jO.some_of (v:=v) (o:=mA f) (by rw [← hl];exact r f)
 exact Li I.lJ he hc hn hd ns hE.ex hE.hd hE.no hu (uB ru) (h u _ (I.tok _) ru)
end
def XO (x C t:Addr) (d:Option Addr):HO:=.ext λ h=>h.get? x=some (EW C t d)
section
variable {prog:Program} {w:World} {A:Around} {E:Value->Shared->Prop} {h:Heap} {g:Array GenState} {d:Drawn} {t:Nat} {os:OsState}
variable {nm q:Str} {C N:Addr} {bs bm ur:List Value} {hdct:Bool} {sn:List Str} {sub:List Value} {ab:Bool} {col:Option Bool} {dd:Option Addr} {k0 k1 k2 k3 k5:Option Value} {B newId j8:String}
theorem qP (F:ExcBaseFacts B newId j8 ur) (T:OwnTail h ur bm) {mN:Str->Option Value} {rest:List Value} {Q:Fin->Shared->Prop} (hC:h.get? C=some (excClassObj nm q C N bs bm hdct sn sub ab col dd k0 k1 k2 k3 k5 newId)) (hn:h.Ns N mN) (hi:mN "__init__" = some (.ref fI)) (Nk:h.get? fI=some oI) (MW:oI.cls = .type "function") (hq:∀ h' e,h.objs.size<=e->Heap.MadeExcOf h h' e (.ref C) rest->wpAny (model prog w) A (call (.ref fI) (.ref e::rest)) (λ r s'=>r = .none/\Q (.done (.ret (.ref e))) s') E ⟨h',g,d,t,os⟩) (hrest:rest.length<=sizeLine) :
   wpAny (model prog w) A (Builtin.«type.__call__» ⟨.ref C::rest,[]⟩) Q E ⟨h,g,d,t,os⟩:=by
 repeat (first|with_reducible refine aoc hC ?_|with_reducible refine wpAny_madeBy_exc hC ?_|wp_step)
 refine codeAny_call_builtin_code (apf _ F.quiet) (wpAny_check_new_subT F T hC ?_)
 refine codeAny_exc_new_subT F T hC ?_ hrest
 show wpAny _ _ _ _ _ _
 have kp:∀ b o,h.get? b=some o->((h.push { cls:=.type "tuple",data:=.seq rest.toArray }).push { cls:=.ref C,data:=.fields #[.ref h.objs.size,.none,.none,.none,.bool false,.none]}).get? b=some o :=
   λ b o e=>YM _ (YM _ e)
 have hC₁:=kp _ _ hC
 have aeH:=kp _ _ Nk
 have hn₁:=hn.keeps kp
 have T₁:=T.keeps kp
 have Dk:((h.push { cls:=.type "tuple",data:=.seq rest.toArray }).push
     { cls:=.ref C,data:=.fields #[.ref h.objs.size,.none,.none,.none,.bool false,.none]}).get? (h.objs.size+1)=some
     { cls:=.ref C,data:=.fields #[.ref h.objs.size,.none,.none,.none,.bool false,.none]}:=by heap_get
 have hcC:(Value.ref C::bm).contains (.ref C)=true:=by simp
 unfold isInstance
 repeat (first|with_reducible refine aoc Dk ?_|(with_reducible refine wpAny_isSubtype_exc hC₁ ?_;rw [hcC])|wp_step)
 show wpAny _ _ (typeLookup (.ref C) _) _ _ _
 refine wpAny_typeLookup_tail hC₁ hn₁ T₁ F.mroIs F.init.lookup ?_
 rw [hi]
 refine alp (T1 ?_)
 unfold bindSpecial
 refine T1 (wpAny_typeOf (T:="function") ⟨_,aeH,MW⟩ ?_)
 rw [abl (by decide)]
 refine abF (T1 (acV (hq _ (h.objs.size+1) (anZ _) ⟨kp,an4 (anZ _),h.objs.size,Dk,an4 (aar _),YM _ (Heap.get?_push_at rfl rfl)⟩) (λ r s' hr=>?_) λ _ _ x=>x))
 obtain ⟨rfl,hQ⟩:=hr
 wp_walk
 exact hQ
theorem Bk (F:ExcBaseFacts B newId j8 ur) (T:OwnTail h ur bm) {mN:Str->Option Value} {rest:List Value} {Q:Value->Shared->Prop} (hC:h.get? C=some (excClassObj nm q C N bs bm hdct sn sub ab col dd k0 k1 k2 k3 k5 newId)) (hn:h.Ns N mN) (hi:mN "__init__" = some (.ref fI)) (Nk:h.get? fI=some oI) (MW:oI.cls = .type "function") (hq:∀ h' e,h.objs.size<=e->Heap.MadeExcOf h h' e (.ref C) rest->wpAny (model prog w) (A.under (.builtin "type.__call__" ⟨.ref C::rest,[]⟩)) (call (.ref fI) (.ref e::rest)) (λ r s'=>r = .none/\Q (.ref e) s') E ⟨h',g,d,t,os⟩) (hrest:rest.length<=sizeLine) :
   wpAny (model prog w) A (call (.ref C) rest) Q E ⟨h,g,d,t,os⟩:=by
 have f1:=tc_lookup
 have f2:=tc_bind (.ref C)
 have hT:(⟨h,g,d,t,os⟩:Shared).TypeIs (.ref C) "type":=⟨_,hC,rfl⟩
 refine aoo (codeAny_of_tree ?_)
 show wpAny _ _ (callAny (.ref C) _) _ _ _
 repeat (any_goals (first|assumption|with_reducible refine aoc hC ?_|wp_step))
 refine ⟨rfl,?_⟩
 refine codeAny_call_builtin_at (apf _ (by decide +kernel)) entry_typeCall (wpAny_check_type_call_sub hC (qP (hrest:=hrest) F T hC hn hi Nk MW λ h' e hle hm=>?_))
 exact hq h' e hle hm
end
section
variable {M:Model} {A:Around} {E:Value->Shared->Prop} {env:Env}
variable {nm q:Str} {C N:Addr} {bs bm ur:List Value} {hdct:Bool} {sn:List Str} {sub:List Value} {ab:Bool} {col:Option Bool} {dd:Option Addr} {k0 k1 k2 k3 k5:Option Value} {B newId j8:String}
theorem xM {s:Shared} {x:Sem Value} {Q:Flow->Shared->Prop} (sv:bm.contains (.type "BaseException")=true) (hh:A.handled=none) (h:wpAny M A x (λ v s₁=>∃ e t O5,v = .ref e/\s₁.heap.get? C=some (excClassObj nm q C N bs bm hdct sn sub ab col dd k0 k1 k2 k3 k5 newId)/\s₁.heap.get? e=some { cls:=.ref C,dict:=O5,data:=.fields #[.ref t,.none,.none,.none,.bool false,.none]}/\E (.ref e) s₁) E s) :
   wpAny M A (raiseStmt env (some x) none) Q E s:=by
 have hcB:(Value.ref C::bm).contains (.type "BaseException")=true:=by rw [ap1,sv,apN]
 unfold raiseStmt
 refine T1 (acV h (λ v s₁ h₁=>?_) λ _ _ x=>x)
 obtain ⟨e,t,O5,rfl,hC,he,hE⟩:=h₁
 obtain ⟨hp,g,d,tk,os⟩:=s₁
 repeat (first|with_reducible refine aoc he ?_|with_reducible refine aoc hC ?_|(with_reducible refine wpAny_isSubtype_exc hC ?_;rw [hcB])|wp_step)
 exact wpAny_raiseNew_none hh hE
end
section
variable {prog:Program} {w:World} {A:Around} {E:Value->Shared->Prop} {s:Shared} {env:Env}
variable {nm q:Str} {C N:Addr} {bs bm ur:List Value} {hdct:Bool} {sn:List Str} {sub:List Value} {ab:Bool} {col:Option Bool} {dd:Option Addr} {k0 k1 k2 k3 k5:Option Value} {B newId j8:String}
theorem zm (F:ExcBaseFacts B newId j8 ur) {mN:Str->Option Value} {x:Str} {pos:Pos} {args:List Expr} {Q:Flow->Shared->Prop} (sv:bm.contains (.type "BaseException")=true) (hh:A.handled=none) (kN:(backTo eC (starEach args env)).any (·.1)=false) (hi:mN "__init__" = some (.ref fI)) (h:wpAny (model prog w) A (eval (.Name x np) env) (λ f s₁=>f = .ref C/\wpAny (model prog w) A (evalArgs (.ref C) true (backTo eC (starEach args env)) [])
     (λ a s₂=>a.kw=[]/\a.pos.length<=sizeLine/\s₂.heap.get? C=some (excClassObj nm q C N bs bm hdct sn sub ab col dd k0 k1 k2 k3 k5 newId)/\s₂.heap.Ns N mN/\OwnTail s₂.heap ur bm/\(∃ oI,s₂.heap.get? fI=some oI/\oI.cls = .type "function") /\
       ∀ h' e,s₂.heap.objs.size<=e->Heap.MadeExcOf s₂.heap h' e (.ref C) a.pos->wpAny (model prog w) (A.under (.builtin "type.__call__" ⟨.ref C::a.pos,[]⟩)) (call (.ref fI) (.ref e::a.pos))
         (λ r s'=>r = .none/\s'.heap.get? C=some (excClassObj nm q C N bs bm hdct sn sub ab col dd k0 k1 k2 k3 k5 newId)/\(∃ t O5,s'.heap.get? e=some { cls:=.ref C,dict:=O5,data:=.fields #[.ref t,.none,.none,.none,.bool false,.none]})/\E (.ref e) s') E { s₂ with heap:=h' }) E s₁) E s) :
   wpAny (model prog w) A (exec (.Raise (some (.Call (.Name x np) args [] eC)) none pos) env) Q E s:=by
 rw [arm_exec_Raise]
 refine T1 (aol (xM (C:=C) (nm:=nm) (q:=q) (N:=N) (bs:=bs) (bm:=bm) (hdct:=hdct) (sn:=sn) (sub:=sub) (ab:=ab) (col:=col) (dd:=dd) (k0:=k0) (k1:=k1) (k2:=k2) (k3:=k3) (k5:=k5) (newId:=newId) sv hh ?_))
 refine T1 (acV (wpAny_Call_ofName (acV h (λ f s₁ h₁=>?_) λ _ _ x=>x)) (λ v s₃ h₃=>T1 (aol (abF h₃))) λ _ _ x=>x)
 obtain ⟨rfl,h₁⟩:=h₁
 unfold callWith
 refine T1 (alp (acV h₁ (λ a s₂ h₂=>T1 (aol ?_)) λ _ _ x=>x))
 obtain ⟨apos,akw⟩:=a
 obtain ⟨RX,hlen,hC,hn,T,⟨oI,Nk,MW⟩,h₂⟩:=h₂
 obtain rfl:akw=[]:=RX
 obtain ⟨hp,g,d,tk,os⟩:=s₂
 simp only [kN]
 refine T1 (wpAny_keeperOf_exc hC ?_)
 refine T1 (Bk (hrest:=hlen) F T hC hn hi Nk MW λ h' e hle hm=>?_)
 refine acV (h₂ h' e hle hm) (λ r s' z=>?_) λ _ _ z=>z
 obtain ⟨z0,zC,⟨t,O5,ze⟩,zE⟩:=z
 exact ⟨z0,T1 (alp (wpAny_point (abF ⟨e,t,O5,rfl,zC,ze,zE⟩)))⟩
end
theorem Ez {P:Program} {w:World} {h:Heap} (x:j2 P w H h) {b:Addr} {u:HO} (e:H b=some u):∃ o,h.get? b=some o:=by
 have ok:=x b u e
 cases u with
 | lst xs=>obtain ⟨_,_,_,_,e⟩:=ok;exact ⟨_,e⟩
 | tup xs=>obtain ⟨_,_,_,o,e,_⟩:=ok;exact ⟨_,e⟩
 | dK aN=>obtain ⟨_,_,_,_,o,_,_,e,_⟩:=ok;exact ⟨_,e⟩
 | dT aN=>obtain ⟨_,_,_,_,o,_,_,e,_⟩:=ok;exact ⟨_,e⟩
 | set S n=>obtain ⟨o,_,_,_,e,_⟩:=ok;exact ⟨_,e⟩
 | ins C dx fs=>obtain ⟨_,_,_,e,_⟩:=ok;exact ⟨_,e⟩
 | own y=>obtain ⟨_,e⟩:=ok;exact ⟨_,e⟩
 | xd fs=>obtain ⟨_,⟨_,_,_,e,_⟩,_⟩:=ok;exact ⟨_,e⟩
 | VI lo hi=>obtain ⟨_,_,_,e⟩:=ok;exact ⟨_,e⟩
 | zF ob u=>obtain ⟨e,_⟩:=ok;exact ⟨_,e⟩
 | Ls ps=>exact ⟨_,ok⟩
 | met f y=>exact ⟨_,ok⟩
 | ext φ=>obtain ⟨_,⟨_,e⟩,_⟩:=ok;exact ⟨_,e⟩
def i0 (H:Hp) (e:Addr):Hp:=λ b=>if b=e then none else H b
theorem uw {e b:Addr} {u:HO} (h:i0 H e b=some u):b≠e/\H b=some u:=by
 unfold i0 at h
 split at h
 . cases h
 . rename_i n;exact ⟨n,h⟩
theorem gc {e b:Addr} (n:b≠e):i0 H e b=H b:=by unfold i0;rw [aa8 n]
theorem ER {P:Program} {w:World} {h:Heap} {e:Addr} {φ:Heap->Prop} (x:j2 P w H h) (he:H e=some (.ext φ)):j2 P w (i0 H e) h:=λ b u q=>by
 obtain ⟨n,q⟩:=uw q
 refine (x b u q).fB (λ _ _ _ z=>z) (λ c z=>?_) λ c xs z=>?_
 . rw [gc (λ y=>by rw [y,he] at z;cases z)];exact z
 . rw [gc (λ y=>by rw [y,he] at z;cases z)];exact z
section
variable {P:Program} {w:World} {K:W.Frag} {mg:Str->Option Value} {base:Heap} {N:List Str} {qual:Str} {scope:Scope} {f:Addr} {cd:Value} {A:Around} {outer:List Env} {s₀:Shared} {H₀:Hp} {E E':XK}
theorem VF {s:Shared} {x t:Addr} {dx:Option Addr} (hE:∀ cls d H,E' cls d H->E cls d H) (I:Inv (fi (zA P w) P w K mg base N qual scope f cd A outer s₀ H₀ E) pins U H s) (hx:H x=some (XO x C t dx)) (AT:∀ o,s₀.heap.get? x≠some o) (he:E' (.ref C) dx (i0 H x)):(fi (zA P w) P w K mg base N qual scope f cd A outer s₀ H₀ E).xe (.ref x) s:=by
 have ME:s.heap.get? x=some (EW C t dx):=(I.cq x _ hx).1
 have L1:(envOfC qual scope s₀.heap.objs.size f cd).frame=some s₀.heap.objs.size:=rfl
 have fr:=I.ok.frames
 have st:=I.stack
 have hxf:x∉ib (envOfC qual scope s₀.heap.objs.size f cd::outer):=λ z=>by have:=I.ol x z;rw [hx] at this;cases this
 have Ow:∀ env∈(envOfC qual scope s₀.heap.objs.size f cd::outer),∀ b,env.frame=some b->b∈x::ib (envOfC qual scope s₀.heap.objs.size f cd::outer):=λ env he b hb=>abO _ (List.mem_filterMap.mpr ⟨env,he,hb⟩)
 have ZF:∀ b o,s.heap.get? b=some o->b≠x->b∉ib (envOfC qual scope s₀.heap.objs.size f cd::outer)->(W.hideAll s.heap (x::ib (envOfC qual scope s₀.heap.objs.size f cd::outer))).get? b=some o:=λ b o e n1 n2 =>
   oQ e λ z=>(List.mem_cons.mp z).elim n1 n2
 show wpAny _ _ (leaving _ _) _ _ _
 refine acV (gM (j6 _ _) (wpAny_leaving_firstW (E:=λ _ _=>False) (Q:=λ _ s2=>∃ h2,s2={ s with heap:=h2 }/\Heap.FlyingW (W.hideAll s.heap (x::ib (envOfC qual scope s₀.heap.objs.size f cd::outer))) outer x (.ref C) (.ref t) h2/\s.heap.UpToSlots h2)
   (base:=W.hideAll s.heap (x::ib (envOfC qual scope s₀.heap.objs.size f cd::outer))) (a0:=.ref t) fr (W.funFrames_hide st Ow) L1 ME (λ b o q=>aoR _ q) (apR _ (.head _)) rfl rfl rfl λ h' hL=>?_)) (λ _ s2 z=>?_) λ _ _ z=>z.1.elim
 . obtain ⟨k1,⟨_,_,k2⟩,k3,k4⟩:=hL
   exact ⟨h',rfl,⟨k1,apR _ (.head _),k2,k3⟩,k4⟩
 obtain ⟨⟨h2,rfl,fl,up⟩,dk⟩:=z
 have nA:∀ b o,s₀.heap.get? b=some o->b∉ib outer->b∉ib (envOfC qual scope s₀.heap.objs.size f cd::outer):=λ b o e n hm=>by
   rcases List.mem_cons.mp (show b∈s₀.heap.objs.size::ib outer from hm) with z|z
   . exact absurd (abh e) (by rw [z];exact ag7 _)
   . exact n z
 have EE:∀ b o,s₀.heap.get? b=some o->b≠x:=λ b o e z=>AT o (z ▸ e)
 have fB:∀ b o,s.heap.get? b=some o->b≠x->b∉ib (envOfC qual scope s₀.heap.objs.size f cd::outer)->h2.get? b=some o:=λ b o e n1 n=>fl.1 b o (ZF b o e n1 n)
 have fin:∀ b∈ib outer,∃ o,s.heap.get? b=some o/\∀ vs,o.data ≠ .fields vs:=λ b hb=>(I.ok.mP.mem hb).2 |> λ ⟨o,e,hd⟩=>by
   obtain ⟨sl,e2⟩:=I.base.slot b o e (I.ok.HR b hb) hb (by intro z;exact absurd (show b∈([]:List Addr) from z) (by simp))
   exact ⟨_,e2,hd⟩
 have tk:∀ b u,i0 H x b=some u->∃ o,(W.hideAll s.heap (x::ib (envOfC qual scope s₀.heap.objs.size f cd::outer))).get? b=some o:=λ b u e=>by
   obtain ⟨n,e⟩:=uw e
   have nf:b∉ib (envOfC qual scope s₀.heap.objs.size f cd::outer):=λ z=>by rw [I.ol b z] at e;cases e
   obtain ⟨o,q⟩:=Ez I.cq e
   exact ⟨o,ZF b o q n nf⟩
 refine ⟨x,.ref C,i0 H x,rfl,⟨I.os,I.bare,?_,xm (ER I.cq hx) fl.1 (λ b o q=>aoR _ q) tk,_,_,fl,?_,tk⟩,dx,XD.kept dk ⟨_,ME,rfl⟩,hE _ _ _ he⟩
 .
  refine ⟨λ b o e n hb _=>fB b o (I.base.keep b o e n hb (by simp [fi])) (EE b o e) (nA b o e hb),λ b o e n hb _=>?_,λ b o e n _=>by rw [gc (EE b o e)];exact I.base.free b o e n (by simp [fi]),λ b o e _=>?_,λ b xs q=>?_,λ b ob u q=>?_,λ b ps q=>?_⟩
  .
   obtain ⟨sl,e1⟩:=I.base.slot b o e n hb (by simp [fi])
   obtain ⟨o1,e2,hd⟩:=fin b hb
   rw [e1] at e2
   cases e2
   obtain ⟨CF,e3⟩:=up b _ e1 hd
   exact ⟨CF,e3⟩
  .
   obtain ⟨o',e1⟩:=I.base.there b o e (by simp [fi])
   by_cases hb:b∈ib outer
   . obtain ⟨o1,e2,hd⟩:=fin b hb
     obtain ⟨CF,e3⟩:=up b _ e2 hd
     exact ⟨_,e3⟩
   . exact ⟨o',fB b o' e1 (EE b o e) (nA b o e hb)⟩
  . have z:=I.base.og b xs q
    rw [gc (λ y=>by rw [y,hx] at z;cases z)];exact z
  . have z:=I.base.nu b ob u q
    rw [gc (λ y=>by rw [y,hx] at z;cases z)];exact z
  . obtain ⟨m,z⟩:=I.base.on b ps q
    exact ⟨m,by rw [gc (λ y=>by rw [y,hx] at z;cases z)];exact z⟩
 .
  intro b o e hb o' e'
  obtain ⟨o1,e1⟩:=I.base.there b o e (by simp [fi])
  have e2:=fB b o1 e1 (EE b o e) (nA b o e hb)
  rw [e2] at e'
  cases e'
  exact ZF b _ e1 (EE b o e) (nA b o e hb)
end
structure IX (K:W.Frag) (C fI:Addr) (ur:List Value) (newId:String):Prop where
 ex:∀ h:Heap,K.In h->∃ bm N nm q bs hdct sn sub ab col dd k0 k1 k2 k3 k5 mN,h.get? C=some (excClassObj nm q C N bs bm hdct sn sub ab col dd k0 k1 k2 k3 k5 newId)/\h.Ns N mN/\mN "__init__" = some (.ref fI)/\OwnTail h ur bm
 fn:∀ h:Heap,K.In h->∃ oI,h.get? fI=some oI/\oI.cls = .type "function"
def Nn (X:Cx) (E:XK):Prop:=∀ (pins:List (Addr×Obj)) (U:St) (H:Hp) (s:Shared) (x C t:Addr) (dx:Option Addr),Inv X pins U H s->H x=some (XO x C t dx)->(∀ o,X.s₀.heap.get? x=some o->x∈X.ex)->E (.ref C) dx (i0 H x)->X.xe (.ref x) s
section
variable {P:Program} {w:World} {K:W.Frag} {mg:Str->Option Value} {base:Heap} {N:List Str} {qual:Str} {scope:Scope} {f:Addr} {cd:Value} {A:Around} {outer:List Env} {s₀:Shared} {H₀:Hp} {E E':XK}
theorem Ce (hE:∀ cls d H,E' cls d H->E cls d H):Nn (fi (zA P w) P w K mg base N qual scope f cd A outer s₀ H₀ E) E':=λ pins U H s x C t dx I hx hn he =>
 VF hE I hx (λ o q=>absurd (show x∈([]:List Addr) from hn o q) (by simp)) he
end
section
variable {X:Cx} {k:Nat} {fd:FuncData} {ps:List Str} {sp:Sp}
def CV (C:Addr) (E:XK) (sp:Sp) (t:TA):TS:=λ _ U H=>t U H λ vs H1=>vs.length<=sizeLine/\∀ x t,H1 x=none->sp (.ref x::vs) (upd H1 x (XO x C t none)) (λ v H2=>v = .bT/\∃ d,H2 x=some (XO x C t d)/\E (.ref C) d (i0 H2 x)) E0
theorem Ex {c:Str} {B j8:String} {newId:String} {rest:List Expr} {pos:Pos} {t:TA} (hc:X.calm=true) (FB:ExcBaseFacts B newId j8 ur) (hm:X.mg c=some (.ref C)) (q:IX X.K C fI ur newId) (F:ja X.prog X.w X.K X.mg X.base tL k fI fd ps sp) (hr:cR (k+1) X.A) (hb:Binds X.K fd ps []) (th:Nn X E) (ha:PA X (e₀::rest) t) (hg:Gl X c:=by rfl) (hd:(c == ("__debug__" : Str))=false:=by decide) (he:starEach (e₀::rest) X.env=(false,eval e₀ X.env)::starEach rest X.env:=by rfl) (kN:(backTo eC (starEach rest X.env)).any (·.1)=false:=by rfl) :
   PS X (.Raise (some (.Call (.Name c np) (e₀::rest) [] eC)) none pos) (CV C E sp t):=by
 intro pins s U H D I h
 obtain ⟨tl,N,nm,qn,bs,hdct,sn,sub,ab,col,dd,k0,k1,k2,k3,k5,mN,hC,hN,hi,T⟩:=q.ex _ I.ok.mod.Il
 obtain ⟨oI,Nk,MW⟩:=q.fn _ I.ok.mod.Il
 refine zm (C:=C) (nm:=nm) (q:=qn) (N:=N) (bs:=bs) (bm:=tl) (hdct:=hdct) (sn:=sn) (sub:=sub) (ab:=ab) (col:=col) (dd:=dd) (k0:=k0) (k1:=k1) (k2:=k2) (k3:=k3) (k5:=k5)
   FB (mN:=mN) (fI:=fI) (T.hasType FB.hasBase) (I.ok.hd hc) (by rw [he];show (false || (backTo eC (starEach rest X.env)).any (·.1))=false;rw [kN];rfl) hi (mn I hg hm ⟨rfl,?_⟩ hd)
 have hA:=ha eC pins s U H _ I h
 rw [he] at hA ⊢
 refine aok (acV hA (λ us s2 ⟨vs,H2,I2,r2,hz,q2⟩=>⟨rfl,by rw [← r2.length];exact hz,I2.bk _ _ hC,hN.keeps I2.bk,T.keeps I2.bk,⟨oI,I2.bk _ _ Nk,MW⟩,λ h' x hle hx=>?_⟩) λ _ _ y=>y)
 obtain ⟨t0,ht0,_,_⟩:=hx.there
 have I3:=I2.laid (a:=x) (o:=XO x C t0 none) (h':=h') (t':=s2.toks) hx.keeps hle ⟨ht0,⟨_,ht0⟩,λ h1 h2 p z=>z _ p⟩
 have hq:=q2 x t0 (I2.cq.fresh hle)
 have r3:Vals (V.ref x::vs) (Value.ref x::us):=.cons rfl r2
 have hl:(Value.ref x::us++[]).length=ps.length:=by
   have e:=r3.length
   rw [F.len _ _ _ _ hq] at e
   rw [aji]
   exact e.symm
 have YN:=hb _ (Value.ref x::us) I3.lJ hl
 rw [aji] at YN
 refine aoo (aow (F.run _ X.stack _ _ ⟨Value.ref x::us,[]⟩ (Value.ref x::us) _ _ E0 (hr.make C us []) (I3.Km.make C us []) YN r3 hq) λ r s' Ea=>?_)
 cases r with
 | error e=>exact False.elim Ea
 | ok fl =>
   cases fl with
   | ret u =>
     obtain ⟨v,H',I4,rv,ev,d,EX,hE⟩:=I3.after Ea
     subst ev
     refine ⟨rv,I4.bk _ _ hC,⟨t0,d,(I4.cq x _ EX).1⟩,th pins U H' s' x C t0 d I4 EX (λ o z=>?_) hE⟩
     by_cases hx':x∈X.ex
     . exact hx'
     . obtain ⟨o',e'⟩:=I2.base.there x o z hx'
       rw [hx.new] at e'
       cases e'
   | next=>exact False.elim Ea
   | brk=>exact False.elim Ea
   | cont=>exact False.elim Ea
end
theorem Im {K:W.Frag} {h:Heap} {N:Addr} {m:Str->Option Value} {n:Str} {v:Value} (X:K.In h) (G:h.Ns N m) (e:W.nsIn K N n=some (some v)):m n=some v:=by
 obtain ⟨o,es,ep,ho,hd,_,hf⟩:=G
 unfold W.nsIn at e
 split at e
 .
  rename_i c d X9 n' sl q
  have e1:=X _ _ q
  rw [ho] at e1
  cases e1
  cases hd
  rw [← hf]
  have fd:nsFind es n=(es.toList.find? λ x=>x.key.isStr n).map (·.val):=by
    unfold nsFind findBy
    rw [← ap2]
  rw [fd]
  split at e
  . rename_i en he
    rw [he]
    cases e
    rfl
  . split at e<;>cases e
 . cases e
def qV (K:W.Frag) (C f:Addr) (ur:List Value) (newId:String):Bool:=(K.lookup C).any λ o=>decide (o.cls = .type "type") &&
 match o.data with
 | .cls cd=>decide (cd.mro = .ref C::cd.mro.tail) && decide (o.slots.size=6) && decide (o.slots[4]?=some (some (.builtin newId))) && !cd.hasDel && W.tailIn K ur cd.mro.tail && W.nsOkIn K cd.ns && decide (W.nsIn K cd.ns "__init__" = some (some (.ref f)))
 | _=>false
@[elab_as_elim] theorem dg {α:Type} {motive:List α->Prop} {n:Nat} {us:List α} (h:us.length=n+1) (k:∀ a t,t.length=n->motive (a::t)):motive us:=by
 cases us with
 | nil=>cases h
 | cons a t=>exact k a t (Nat.succ.inj h)
theorem uT {α:Type} {n:Nat} {l:List α} (h:l.length=n+1):∃ a t,l=a::t/\t.length=n:=dg h λ a t h=>⟨a,t,rfl,h⟩
theorem Ca {K:W.Frag} {f:Addr} {newId:String} (q:qV K C f ur newId=true) (hf:W.typeIn K (.ref f)=some (.type "function")):IX K C f ur newId where
 ex:=λ h X=>by
   unfold qV at q
   cases ho:K.lookup C with
   | none=>rw [ho] at q;cases q
   | some o =>
     rw [ho] at q
     obtain ⟨cls,dd,data,sl⟩:=o
     simp only [Option.any_some,ac5,ae2] at q
     obtain ⟨rfl,q⟩:=q
     cases data with
     | cls cd =>
       obtain ⟨nm,bs,mro,ns,qn,hd,sn,sub,ab,col,del⟩:=cd
       simp only [ac5,ae2,aob] at q
       obtain ⟨⟨⟨⟨⟨⟨hm,hsz⟩,h4⟩,rfl⟩,ht⟩,cq⟩,OM⟩:=q
       obtain ⟨l⟩:=sl
       obtain ⟨k0,l,rfl,Nr⟩:=uT (n:=5) (l:=l) hsz
       obtain ⟨k1,l,rfl,Lz⟩:=uT (n:=4) (l:=l) Nr
       obtain ⟨k2,l,rfl,Mh⟩:=uT (n:=3) (l:=l) Lz
       obtain ⟨k3,l,rfl,hz3⟩:=uT (n:=2) (l:=l) Mh
       obtain ⟨k4,l,rfl,NX⟩:=uT (n:=1) (l:=l) hz3
       obtain ⟨k5,l,rfl,hz5⟩:=uT (n:=0) (l:=l) NX
       obtain rfl:=List.length_eq_zero_iff.mp hz5
       have h4':k4=some (.builtin newId):=by simpa using h4
       subst h4'
       have e1:=X _ _ ho
       rw [hm] at e1
       exact ⟨mro.tail,ns,nm,qn,bs,hd,sn,sub,ab,col,dd,k0,k1,k2,k3,k5,_,e1,.of_isNs (W.isNs_of_in X cq),Im X (.of_isNs (W.isNs_of_in X cq)) OM,W.tail_of_in X ht⟩
     | _=>cases q
 fn:=λ h X=>by
   obtain ⟨o,ho,hc⟩:=Option.map_eq_some_iff.mp (show (K.lookup f).map (·.cls)=some (.type "function") from hf)
   exact ⟨o,X _ _ ho,hc⟩
section
variable {X:Cx} {x:Str} {pos:Pos}
theorem fD {i:Int} (hg:Gl X x) (hm:∃ t,X.mg x=some (.int i t)) (hd:(x == ("__debug__" : Str))=false:=by decide):PE X (.Name x pos) (tC (.int i)):=by
 obtain ⟨t,hm⟩:=hm
 exact bM hg hm ⟨t,rfl⟩ hd
end
def BK (K:W.Frag) (a:Addr) (xs:List V):Prop :=
 ∃ (o:Obj) (bG:Array Value) (n:Nat),K.lookup a=some o/\o.cls = .type "tuple"/\o.data = .seq bG n/\bG.size<=sizeLine/\Vals xs bG.toList
theorem BK.at {K:W.Frag} {a:Addr} (h:BK K a xs) (H:Hp):bS K H a xs:=.inr h
theorem L0 {K:W.Frag} {a:Addr} {dd:Option Addr} {n:Nat} {sl:Array (Option Value)} {i j:Int} {t u:Tok} (h:K.lookup a=some ⟨.type "tuple",dd,.seq #[.int i t,.int j u] n,sl⟩):BK K a [.int i,.int j] :=
 ⟨_,_,_,h,rfl,rfl,by show 2<=sizeLine;decide,.cons ⟨t,rfl⟩ (.cons ⟨u,rfl⟩ .nil)⟩
def BU (K:W.Frag) (T:Addr) (gd:List V):Prop:=∃ o n items,K.lookup T=some o/\o.data = .seq items n/\Vals gd items.toList
structure nE (K:W.Frag) (x qual:Str) (st:Stmt) (dV:Value) (f:Addr) (fd:FuncData):Prop where
 ex:∃ (oc:Value) (od:Option Addr) (kV doc pm:Value) (an:Option Addr) (bB ct:Value) (xn:Array (Option Value)),
   fd=W.fnOf x qual (cm st) (bx st) (ao st) dV kV doc pm an bB ct/\K.lookup f=some ⟨oc,od,.func fd,xn⟩/\W.codeIn K bB qual=true
 kp:W.keepIn K (.ref f)=true
theorem cn {K:W.Frag} {x qual:Str} {st:Stmt} {f:Addr} {oc:Value} {od an:Option Addr} {xn:Array (Option Value)} {dV kV doc pm bB ct:Value} (l:K.lookup f=some ⟨oc,od,.func (W.fnOf x qual (cm st) (bx st) (ao st) dV kV doc pm an bB ct),xn⟩) (c:W.codeIn K bB qual=true) (k:W.keepIn K (.ref f)=true):nE K x qual st dV f (W.fnOf x qual (cm st) (bx st) (ao st) dV kV doc pm an bB ct):=⟨⟨oc,od,kV,doc,pm,an,bB,ct,xn,rfl,l,c⟩,k⟩
section
variable {P:Program} {w:World} {K:W.Frag} {mg:Str->Option Value} {base:Heap} {x qual m:Str} {st:Stmt} {dV:Value} {f C:Addr} {fd:FuncData} {N ps:List Str} {k:Nat} {sp:Sp} {ds:List Value}
theorem nE.ok (F:nE K x qual st dV f fd) (S:aA N ps (ao st)) (len:∀ vs H Q E,sp vs H Q E->vs.length=ps.length) (dZ:∀ (bB:Value) (A:Around) (outer:List Env) (s:Shared) (H:Hp) (vs:List V) (Q:VK) (E:XK),cR k (A.deeper (envOfC qual (ao st) s.heap.objs.size f bB))->sp vs H Q E ->
     ∃ t,qg (fi tL P w K mg base N qual (ao st) f bB A outer s H E).zV (bx st) t/\t { nx:=λ _ H'=>Q .bT H',rt:=Q } (start N vs) H):ja P w K mg base tL (k+1) f fd ps sp:=by
 obtain ⟨oc,od,kV,doc,pm,an,bB,ct,xn,rfl,lk,mR⟩:=F.ex
 refine Gq lk mR S len λ A outer s H vs Q E hr HQ=>?_
 obtain ⟨t,h,q⟩:=dZ bB A outer s H vs Q E hr HQ
 exact ⟨t,h.zV,q⟩
theorem nE.binds {o:Obj} {n:Nat} {items:Array Value} (F:nE K x qual st (.ref T) f fd) (hT:K.lookup T=some o) (ho:o.data = .seq items n) (h:∀ (kV doc pm:Value) (an:Option Addr) (bB ct:Value) (us:List Value),(us++ds).length=ps.length->∃ k,bindArgs (W.fnOf x qual (cm st) (bx st) (ao st) (.ref T) kV doc pm an bB ct) ⟨us,[]⟩=seqItems? (.ref T) >>= k/\k (some items)=pure (ps.zip (us++ds))):Binds K fd ps ds:=by
 obtain ⟨oc,od,kV,doc,pm,an,bB,ct,xn,rfl,lk,mR⟩:=F.ex
 intro s us X hl
 obtain ⟨k,h1,h2⟩:=h kV doc pm an bB ct us hl
 exact W.binds_K X rfl hT ho h1 h2
theorem nE.Ai (F:nE K x qual st .none f fd) (h:∀ (kV doc pm:Value) (an:Option Addr) (bB ct:Value) (us:List Value),us.length=ps.length->bindArgs (W.fnOf x qual (cm st) (bx st) (ao st) .none kV doc pm an bB ct) ⟨us,[]⟩=pure (ps.zip us)):Binds K fd ps []:=by
 obtain ⟨oc,od,kV,doc,pm,an,bB,ct,xn,rfl,lk,mR⟩:=F.ex
 exact .all (h kV doc pm an bB ct)
def fU (K:W.Frag) (C:Addr) (m qual:Str) (st:Stmt) (dV:Value):Prop:=∃ f fd,Meth K C m f/\nE K m qual st dV f fd
def jb (P:Program) (w:World) (K:W.Frag) (mg:Str->Option Value) (base:Heap) (C:Addr) (m:Str) (k:Nat) (ps:List Str) (ds:List Value) (sp:Sp):Prop :=
 ∃ f fd,Meth K C m f/\Binds K fd ps ds/\ja P w K mg base tL k f fd ps sp
theorem fU.Kx (h:fU K C m qual st .none) (S:aA N ps (ao st)) (len:∀ vs H Q E,sp vs H Q E->vs.length=ps.length) (hb:∀ (kV doc pm:Value) (an:Option Addr) (bB ct:Value) (us:List Value),us.length=ps.length->bindArgs (W.fnOf m qual (cm st) (bx st) (ao st) .none kV doc pm an bB ct) ⟨us,[]⟩=pure (ps.zip us)) (dZ:∀ (f:Addr) (bB:Value) (A:Around) (outer:List Env) (s:Shared) (H:Hp) (vs:List V) (Q:VK) (E:XK),cR k (A.deeper (envOfC qual (ao st) s.heap.objs.size f bB))->sp vs H Q E ->
     ∃ t,qg (fi tL P w K mg base N qual (ao st) f bB A outer s H E).zV (bx st) t/\t { nx:=λ _ H'=>Q .bT H',rt:=Q } (start N vs) H):jb P w K mg base C m (k+1) ps [] sp:=by
 obtain ⟨f,fd,M,F⟩:=h
 exact ⟨f,fd,M,F.Ai hb,F.ok S len λ bB A outer s H vs Q E hr hs=>dZ f bB A outer s H vs Q E hr hs⟩
structure Kg (K:W.Frag) (C:Addr):Prop where
 makes:W.makesIn K C=true
 kp:W.keepIn K (.ref C)=true
def Oo (K:W.Frag) (mg:Str->Option Value) (x:Str) (st:Stmt) (dV:Value):Prop:=∃ f fd,mg x=some (.ref f)/\nE K x x st dV f fd
def Wm (P:Program) (w:World) (K:W.Frag) (mg:Str->Option Value) (base:Heap) (x:Str) (k:Nat) (ps:List Str) (ds:List Value) (sp:Sp):Prop :=
 ∃ f fd,mg x=some (.ref f)/\W.keepIn K (.ref f)=true/\Binds K fd ps ds/\ja P w K mg base tL k f fd ps sp
end
section
variable {X:Cx} {C:Addr} {m x:Str} {p pos apos:Pos} {e o:Expr} {es:List Expr} {ta:TE} {t:TA} {k:Nat} {ps:List Str} {sp:Sp} {ds:List Value} {gd:List V}
theorem aX {pl:Sem Bool} (he:PE X o ta) (c:xr X.K C) (D:jb X.prog X.w X.K X.mg X.base C m k ps ds sp) (hd:Vals gd ds) (hr:cR k X.A) (ha:PA X (e::es) t) (gE:starEach (e::es) X.env=(false,eval e X.env)::starEach es X.env:=by rfl) (lA:(backTo pos (starEach es X.env)).any (·.1)=false:=by rfl) (ht:eval (.Call (.Attribute o m apos) (e::es) [] pos) X.env=(do
     let ov ← eval o X.env
     standAt apos.atName
     let (f,first) ← holding [ov] (getMethod ov m pl)
     callWith pos f first (backTo pos (starEach (e::es) X.env)) (backToKw pos (keywordEach [] X.env))):=by rfl) :
   PE X (.Call (.Attribute o m apos) (e::es) [] pos) (sO C m sp gd E0 ta t):=by
 obtain ⟨f,fd,hm,hb,F⟩:=D
 exact C7 (pl:=pl) he c hm F hr hb hd yx ha gE lA ht
theorem cP {pl:Sem Bool} (he:PE X o ta) (c:xr X.K C) (D:jb X.prog X.w X.K X.mg X.base C m k ps ds sp) (hd:Vals gd ds) (hr:cR k X.A) (ht:eval (.Call (.Attribute o m apos) [] [] pos) X.env=(do
     let ov ← eval o X.env
     standAt apos.atName
     let (f,first) ← holding [ov] (getMethod ov m pl)
     callWith pos f first (backTo pos (starEach [] X.env)) (backToKw pos (keywordEach [] X.env))):=by rfl) :
   PE X (.Call (.Attribute o m apos) [] [] pos) (sO C m sp gd E0 ta vD):=by
 obtain ⟨f,fd,hm,hb,F⟩:=D
 exact HA (pl:=pl) he c hm F hr hb hd yx ht
theorem xD (M:Kg X.K C) (D:jb X.prog X.w X.K X.mg X.base C "__init__" k ps ds sp) (hd:Vals gd ds) (hr:cR (k+1) X.A) (hm:X.mg x=some (.ref C)) (ha:PA X (e::es) t) (hg:Gl X x:=by rfl) (vG:(x == ("__debug__" : Str))=false:=by decide) (he:starEach (e::es) X.env=(false,eval e X.env)::starEach es X.env:=by rfl) (lA:(backTo pos (starEach es X.env)).any (·.1)=false:=by rfl):PE X (.Call (.Name x p) (e::es) [] pos) (HG C sp gd E0 t):=by
 obtain ⟨f,fd,me,hb,F⟩:=D
 exact Jq ⟨M.makes,me.at_,me.fn,M.kp⟩ F hr hg hm hb hd yx ha vG he lA
theorem EJ (D:Wm X.prog X.w X.K X.mg X.base x k ps ds sp) (hd:Vals gd ds) (hr:cR k X.A) (ha:PA X (e::es) t) (hg:Gl X x:=by rfl) (vG:(x == ("__debug__" : Str))=false:=by decide) (he:starEach (e::es) X.env=(false,eval e X.env)::starEach es X.env:=by rfl) (lA:(backTo pos (starEach es X.env)).any (·.1)=false:=by rfl):PE X (.Call (.Name x p) (e::es) [] pos) (CP sp gd E0 t):=by
 obtain ⟨f,fd,hm,hk,hb,F⟩:=D
 exact Cd F hr hg hm hk hb hd yx ha vG he lA
end
section
variable {X:Cx} {pins:List (Addr×Obj)} {U:St} {H:Hp} {s:Shared} {h':Heap} {ch:List Addr}
theorem Inv.wj {a:Addr} {t':Nat} (I:Inv X pins U H s) (k:∀ b u,b∉ch->s.heap.get? b=some u->h'.get? b=some u) (hf:∀ b∈ch,tS X pins H b) (hp:s.heap.objs.size<=a) (new:c7 X.prog X.w (upd H a o) h' a o):Inv X pins U (upd H a o) { s with heap:=h',toks:=t' }:=by
 have hn:H a=none:=I.cq.fresh hp
 refine I.step (g':=s.gens) (d':=s.drawn) (ch:=ch) (λ b hb=>⟨(hf b hb).2.2.2.1,(hf b hb).2.1,(hf b hb).2.2.2.2.1,(hf b hb).2.2.2.2.2⟩) (λ b u _ _ hc q _=>k b u hc q) (λ b u _ _ hc q _=>⟨u.slots,k b u hc q⟩)
   (λ b u _ q n=>by rw [aD (acN (abE (abh q) hp))];exact n) (λ b u hc q=>⟨u,k b u hc q⟩) (λ b xs q=>by rw [aD (aC q hn)];exact q) (λ b u xs q=>by rw [aD (aC q hn)];exact q)
   (λ b ps q=>⟨#[],by rw [aD (aC q hn),q];simp⟩) (λ m hm=>?_) (λ b u q=>?_) I.bare
 . obtain ⟨ob,es,ep,ho,r⟩:=hm
   exact ⟨ob,es,ep,k _ ob (λ z=>(hf _ z).2.1 rfl) ho,r⟩
 .
  by_cases hb:b=a
  . subst hb
    rw [ah] at q
    cases q
    exact new
  .
   rw [aD hb] at q
   refine (I.cq b u q).fB (λ c v hc z=>k c v (λ y=>?_) z) (λ c z=>by rw [aD (aC z hn)];exact z) λ c xs z=>by rw [aD (aC z hn)];exact z
   have n:=(hf c y).1
   rcases hc with rfl|hc
   . rw [n] at q;cases q
   . rw [n] at hc;cases hc
theorem Inv.wr {t':Nat} (I:Inv X pins U H s) (k:∀ b u,b∉ch->s.heap.get? b=some u->h'.get? b=some u) (hf:∀ b∈ch,tS X pins H b):Inv X pins U H { s with heap:=h',toks:=t' }:=by
 refine I.step (g':=s.gens) (d':=s.drawn) (ch:=ch) (λ b hb=>⟨(hf b hb).2.2.2.1,(hf b hb).2.1,(hf b hb).2.2.2.2.1,(hf b hb).2.2.2.2.2⟩) (λ b u _ _ hc q _=>k b u hc q) (λ b u _ _ hc q _=>⟨u.slots,k b u hc q⟩)
   (λ _ _ _ _ n=>n) (λ b u hc q=>⟨u,k b u hc q⟩) (λ _ _ q=>q) (λ _ _ _ q=>q) (λ b ps q=>⟨#[],by rw [q];simp⟩) (λ m hm=>?_) (λ b u q=>?_) I.bare
 . obtain ⟨ob,es,ep,ho,r⟩:=hm
   exact ⟨ob,es,ep,k _ ob (λ z=>(hf _ z).2.1 rfl) ho,r⟩
 .
  refine (I.cq b u q).fB (λ c v hc z=>k c v (λ y=>?_) z) (λ _ z=>z) λ _ _ z=>z
  have n:=(hf c y).1
  rcases hc with rfl|hc
  . rw [n] at q;cases q
  . rw [n] at hc;cases hc
end
def Vt (K:W.Frag) (a b:Addr):It :=
 ⟨λ i H=>∃ xs ys x y,bg K H a xs/\bg K H b ys/\xs[i]?=some x/\ys[i]?=some y,
  λ i H v H'=>∃ p x y,H p=none/\v = .ref p/\H'=upd H p (.tup [x,y])/\(∀ xs,bg K H a xs->xs[i]?=some x)/\∀ ys,bg K H b ys->ys[i]?=some y,
  λ i H=>∃ xs ys,bg K H a xs/\bg K H b ys/\(xs.length<=i∨ys.length<=i)⟩
def Hs (z TI TO i1 i2 a b:Addr) (i:Nat) (h:Heap):Prop:=IsZip h z TI TO .none/\IsPair h TI (.ref i1) (.ref i2)/\(∃ u v,IsPair h TO u v)/\h.IsListIter i1 a i/\h.IsListIter i2 b i
theorem Hs.obj {z TI TO a b:Addr} {h:Heap} (st:Hs z TI TO i1 i2 a b i h):∀ c∈[z,TI,TO,i1,i2],∃ o,h.get? c=some o/\∀ v,o.data ≠ .cell v:=λ c hc=>by
 obtain ⟨hz,LW,⟨u,v,Nd⟩,⟨o1,e1,_,d1⟩,⟨o2,e2,_,d2⟩⟩:=st
 simp only [abj,aay,ae5] at hc
 rcases hc with rfl|rfl|rfl|rfl|rfl
 . exact ⟨_,hz,λ v q=>by cases q⟩
 . exact ⟨_,LW,λ v q=>by cases q⟩
 . exact ⟨_,Nd,λ v q=>by cases q⟩
 . exact ⟨o1,e1,λ v q=>by rw [d1] at q;cases q⟩
 . exact ⟨o2,e2,λ v q=>by rw [d2] at q;cases q⟩
theorem FJ {P:Program} {w:World} {K:W.Frag} {z TI TO a b:Addr} (D:ZipApart z TI TO i1 i2 a b) :
   Turn P w K (.Tuple elts x1 qy) (Vt K a b) [z,TI,TO,i1,i2] z (Hs z TI TO i1 i2 a b) where
 mem:=by simp
 obj:=λ i h st=>st.obj
 keep:=λ i h h' st k=>by
   obtain ⟨hz,LW,⟨u,v,Nd⟩,h1,h2⟩:=st
   exact ⟨k z (by simp) _ hz,k TI (by simp) _ LW,⟨u,v,k TO (by simp) _ Nd⟩,h1.at λ o e=>k i1 (by simp) o e,h2.at λ o e=>k i2 (by simp) o e⟩
 item:=by
   intro X hP hw hK hc i pins s U H E I hf st hg
   subst hP hw hK
   obtain ⟨xs,ys,x,y,HX,Ig,hx,hy⟩:=hg
   obtain ⟨NP,X7,p1,Lz⟩:=I.list HX
   obtain ⟨BN,Yk,p2,Mh⟩:=I.list Ig
   obtain ⟨u1,hu1,ru1⟩:=X7.get hx
   obtain ⟨u2,W2,ru2⟩:=Yk.get hy
   have lt:∀ c∈[z,TI,TO,i1,i2],c<s.heap.objs.size:=λ c w9=>by
     obtain ⟨o,e,_⟩:=st.obj c w9
     exact abh e
   obtain ⟨hz,LW,⟨u,v,Nd⟩,h1,h2⟩:=st
   refine wpAny_pyNext_zip_item D hz LW Nd h1 h2 p1.isList p2.isList (x:=u1) (y:=u2) (by simpa using hu1) (by simpa using W2) λ h' z1 z2 z3 z4 z5 z6 kk=>?_
   refine ⟨.ref s.heap.objs.size,rfl,wpAny_letOwnedTupleGo_zip (s:={ s with heap:=h' }) z1 λ h2' zz sb=>?_⟩
   have Gs:∀ c o,c∉[z,TI,TO,i1,i2]->s.heap.get? c=some o->h2'.get? c=some o:=λ c o hn e=>by
     simp only [abj,aay,ae5,aoA] at hn
     exact sb.extBut _ _ hn.1 (kk c o hn.1 hn.2.2.1 hn.2.2.2.1 hn.2.2.2.2 e)
   have nz:s.heap.objs.size≠z:=aoF (lt z (by simp))
   have n5:IsPair h2' s.heap.objs.size u1 u2:=sb.extBut _ _ nz z5
   refine ⟨.ref s.heap.objs.size,upd H s.heap.objs.size (.tup [x,y]),I.wj (t':=s.toks) Gs hf (aar _) ⟨by show 2<=sizeLine;decide,[u1,u2],.cons ru1 (.cons ru2 .nil),⟨_,n5,rfl,_,rfl⟩⟩,rfl,
     ⟨_,x,y,I.cq.fresh (aar _),rfl,rfl,λ xs' h=>by rw [I.oM h HX];exact hx,λ ys' h=>by rw [I.oM h Ig];exact hy⟩,?_,λ c w9=>?_⟩
   . exact ⟨zz,sb.extBut _ _ D.TIz (kk _ _ D.TIz D.TITO D.TIi1 D.TIi2 LW),⟨_,_,sb.extBut _ _ D.TOz z2⟩,z3.extBut sb.extBut D.i1z,z4.extBut sb.extBut D.i2z⟩
   . rw [aD (acN (lt c w9))]
     exact (hf c w9).1
 done:=by
   intro X hP hw hK hc i pins s U H E I hf st hg
   subst hP hw hK
   obtain ⟨xs,ys,HX,Ig,hl⟩:=hg
   obtain ⟨NP,X7,p1,Lz⟩:=I.list HX
   obtain ⟨BN,Yk,p2,Mh⟩:=I.list Ig
   have l1:=X7.length
   have l2:=Yk.length
   obtain ⟨hz,LW,⟨u,v,Nd⟩,h1,h2⟩:=st
   have abg:NP.toArray[i]?=none∨BN.toArray[i]?=none:=by
     rcases hl with h|h
     . exact .inl (by simp;lia)
     . exact .inr (by simp;lia)
   refine wpAny_pyNext_zip_end (I.ok.hd hc) D hz LW Nd h1 h2 p1.isList p2.isList abg λ h' kk=>⟨rfl,I.wr (ch:=[z,TI,TO,i1,i2]) (t':=s.toks) (λ c o hn e=>?_) hf⟩
   simp only [abj,aay,ae5,aoA] at hn
   exact kk c o hn.1 hn.2.2.1 hn.2.2.2.1 hn.2.2.2.2 e
 self:=λ _ _ _ _ _ st h=>wpAny_pyIter_zip st.1 h
theorem Mw:bootBuiltins "zip" = some (.type "zip"):=by decide +kernel
section
variable {X:Cx}
def acS (K:W.Frag) (ta:TA):TI:=λ U H R=>ta U H λ vs H1=>∃ a b,vs=[.ref a,.ref b]/\(∃ xs,bg K H1 a xs)/\(∃ ys,bg K H1 b ys)/\R (Vt K a b) H1
theorem N2 {a b:Expr} {ta:TA} {p pos:Pos} (hg:Gl X "zip") (hm:X.mg "zip" = none) (ha:PA X [a,b] ta) (hs:starEach [a,b] X.env=[(false,eval a X.env),(false,eval b X.env)]:=by rfl) (GF:starEach [b] X.env=[(false,eval b X.env)]:=by rfl):PI X (.Tuple elts x1 qy) (.Call (.Name "zip" p) [a,b] [] pos) (acS X.K ta):=by
 intro pins s U H R I h
 refine Call_ (lN I hg hm Mw (ahZ (cX (ha pos pins s U H _ I h) λ us s1 ⟨vs,H1,I1,r1,q1⟩=>?_) (by rw [hs,GF]) (by rw [GF];rfl)))
 obtain ⟨a,b,e,⟨xs,HX⟩,⟨ys,Ig⟩,q⟩:=q1
 subst e
 obtain ⟨u,v,rfl,r,r'⟩:=vals2 r1
 obtain rfl:u=Value.ref a:=r
 obtain rfl:v=Value.ref b:=r'
 obtain ⟨NP,X7,p1,Lz⟩:=I1.list HX
 obtain ⟨BN,Yk,p2,Mh⟩:=I1.list Ig
 refine call_zip_2 p1.isList p2.isList λ h' z1 z2 z3 z4 z5 z6 kk=>?_
 have la:a<s1.heap.objs.size:=by obtain ⟨_,e,_⟩:=p1.isList;exact abh e
 have lb:b<s1.heap.objs.size:=by obtain ⟨_,e,_⟩:=p2.isList;exact abh e
 refine wpAny_pyIter_zip z1 ?_
 refine ⟨s1.heap.objs.size+4,[s1.heap.objs.size+4,s1.heap.objs.size+2,s1.heap.objs.size+3,s1.heap.objs.size,s1.heap.objs.size+1],_,_,H1,rfl,I1.kept (t':=s1.toks) kk,FJ (zipApart_new la lb),⟨z1,z2,⟨_,_,z3⟩,z4,z5⟩,λ c hc=>?_,q⟩
 have hle:s1.heap.objs.size<=c:=by
   simp only [abj,aay,ae5] at hc
   rcases hc with rfl|rfl|rfl|rfl|rfl
   . exact anV _ _
   . exact anV _ _
   . exact anV _ _
   . exact aar _
   . exact anV _ _
 exact I1.xx hle (I1.cq.fresh hle)
end
theorem Gz {K:W.Frag} {a b:Addr} {ys:List V} {tt:TT} {D:Addr} {Q:Hp->Prop} (Pv:Nat->List V->St->Hp->Prop) (h0:Pv 0 [] U H) (hl:∀ i acc U H,i<=min xs.length ys.length->Pv i acc U H->bg K H a xs/\bg K H b ys) (hs:∀ i x y p acc U H,xs[i]?=some x->ys[i]?=some y->H p=none->Pv i acc U H->g (.ref p) U (upd H p (.tup [x,y])) λ σ2 H3=>tt σ2 H3 λ k H4 =>
     if k=true then te σ2 H4 λ v H5=>H5 D=some (.lst acc)/\acc.length<sizeLine/\Pv (i+1) (acc++[v]) σ2 (upd H5 D (.lst (acc++[v]))) else Pv (i+1) acc σ2 H4) (hd:∀ acc U H,Pv (min xs.length ys.length) acc U H->Q H) :
   ∃ W:Nat->Nat->List V->St->Hp->Prop,(∃ m,W 0 m [] U H)/\∀ i m acc σ' H',W i m acc σ' H'->((Vt K a b).stop i H'/\Q H') ∨
     ((Vt K a b).go i H'/\∃ N:List V->St->Hp->Prop,(∀ jc σ2 H4,N jc σ2 H4->∃ m',m'<m/\W (i+1) m' jc σ2 H4)/\∀ x H2,(Vt K a b).FP i H' x H2->g x σ' H2 λ σ2 H3=>tt σ2 H3 λ k H4 =>
       if k=true then te σ2 H4 λ y H5=>H5 D=some (.lst acc)/\acc.length<sizeLine/\N (acc++[y]) σ2 (upd H5 D (.lst (acc++[y]))) else N acc σ2 H4):=by
 refine ⟨λ i m acc U H=>m=min xs.length ys.length - i/\i<=min xs.length ys.length/\Pv i acc U H,⟨_,rfl,afh _,h0⟩,?_⟩
 rintro i m acc U H ⟨rfl,hi,p⟩
 obtain ⟨q1,q2⟩:=hl i acc U H hi p
 by_cases mK:i<min xs.length ys.length
 .
  have h1:i<xs.length:=by lia
  have h2:i<ys.length:=by lia
  refine .inr ⟨⟨xs,ys,xs[i],ys[i],q1,q2,by simp [h1],by simp [h2]⟩,Pv (i+1),λ jc σ' H' p'=>⟨min xs.length ys.length - (i+1),by lia,rfl,mK,p'⟩,λ v H' y=>?_⟩
  obtain ⟨pp,x,y,hn,rfl,rfl,e1,e2⟩:=y
  exact hs i x y pp acc U H (e1 xs q1) (e2 ys q2) hn p
 . have e:i=min xs.length ys.length:=by lia
   subst e
   exact .inl ⟨⟨xs,ys,q1,q2,by lia⟩,hd acc U H p⟩
mutual
def Dn (K:W.Frag) (H:Hp):PyData->V->Prop
 | .none,v=>v = .bT
 | .bool b,v=>v = .bl b
 | .int i,v=>v = .int i
 | .str x,v=>v = .str x
 | .list ds,v=>∃ a xs,v = .ref a/\bg K H a xs/\cf K H ds xs
 | .tuple ds,v=>∃ a xs,v = .ref a/\bS K H a xs/\cf K H ds xs
 | .dict _,_=>False
def cf (K:W.Frag) (H:Hp):List PyData->List V->Prop
 | [],xs=>xs=[]
 | d::ds,xs=>∃ x r,xs=x::r/\Dn K H d x/\cf K H ds r
end
def fu:PyData->Bool
 | .list _=>false
 | .dict _=>false
 | .tuple ds=>ds.attach.all λ ⟨d,_⟩=>fu d
 | _=>true
theorem qo {ds:List PyData}:fu (.tuple ds)=true↔∀ d∈ds,fu d=true:=by
 rw [fu,anX]
 constructor
 . intro h d hd
   exact h ⟨d,hd⟩ (List.mem_attach ..)
 . intro h x _
   exact h x.1 x.2
def cu (K:W.Frag) (H H':Hp):Prop:=∀ a xs,bS K H a xs->bS K H' a xs
theorem cu.refl {K:W.Frag} (H:Hp):cu K H H:=λ _ _ h=>h
theorem cu.trans {K:W.Frag} {H1 H2:Hp} (a:cu K H H1) (b:cu K H1 H2):cu K H H2:=λ c xs h=>b c xs (a c xs h)
theorem aB.ts {K:W.Frag} (s:aB H H'):cu K H H':=λ _ _ h=>s.tup h
def Mr:HO->Bool
 | .tup _=>false
 | .zF _ _=>false
 | _=>true
theorem eS {K:W.Frag} {a:Addr} {o':HO} (h:H a=some o) (n:Mr o=true):cu K H (upd H a o'):=λ b xs q=>by
 have ne:∀ u,H b=some u->Mr u=false->b≠a:=λ u e z y=>by
   subst y
   rw [h] at e
   cases e
   rw [n] at z
   cases z
 rcases q with (q|⟨ob,q⟩)|q
 . exact .inl (.inl (by rw [aD (ne _ q rfl)];exact q))
 . exact .inl (.inr ⟨ob,by rw [aD (ne _ q rfl)];exact q⟩)
 . exact .inr q
section
variable {K:W.Frag} {H H':Hp}
mutual
theorem Dn.same (s:aB H H'):∀ (d:PyData) {v:V},Dn K H d v->Dn K H' d v
 | .none,_,h=>by rw [Dn] at h ⊢;exact h
 | .bool _,_,h=>by rw [Dn] at h ⊢;exact h
 | .int _,_,h=>by rw [Dn] at h ⊢;exact h
 | .str _,_,h=>by rw [Dn] at h ⊢;exact h
 | .list ds,_,h=>by
   rw [Dn] at h ⊢
   obtain ⟨a,xs,e,q,r⟩:=h
   exact ⟨a,xs,e,s.seq q,cf.same s ds r⟩
 | .tuple ds,_,h=>by
   rw [Dn] at h ⊢
   obtain ⟨a,xs,e,q,r⟩:=h
   exact ⟨a,xs,e,s.tup q,cf.same s ds r⟩
 | .dict _,_,h=>by rw [Dn] at h;exact h.elim
theorem cf.same (s:aB H H'):∀ (ds:List PyData) {xs:List V},cf K H ds xs->cf K H' ds xs
 | [],_,h=>by rw [cf] at h ⊢;exact h
 | d::ds,_,h=>by
   rw [cf] at h ⊢
   obtain ⟨x,r,e,q,t⟩:=h
   exact ⟨x,r,e,Dn.same s d q,cf.same s ds t⟩
end
mutual
theorem Dn.ts (s:cu K H H'):∀ (d:PyData) {v:V},fu d=true->Dn K H d v->Dn K H' d v
 | .none,_,_,h=>by rw [Dn] at h ⊢;exact h
 | .bool _,_,_,h=>by rw [Dn] at h ⊢;exact h
 | .int _,_,_,h=>by rw [Dn] at h ⊢;exact h
 | .str _,_,_,h=>by rw [Dn] at h ⊢;exact h
 | .list ds,_,f,_=>by rw [fu] at f;cases f
 | .tuple ds,_,f,h=>by
   rw [Dn] at h ⊢
   obtain ⟨a,xs,e,q,r⟩:=h
   exact ⟨a,xs,e,s _ _ q,cf.ts s ds (qo.mp f) r⟩
 | .dict _,_,_,h=>by rw [Dn] at h;exact h.elim
theorem cf.ts (s:cu K H H'):∀ (ds:List PyData) {xs:List V},(∀ d∈ds,fu d=true)->cf K H ds xs->cf K H' ds xs
 | [],_,_,h=>by rw [cf] at h ⊢;exact h
 | d::ds,_,f,h=>by
   rw [cf] at h ⊢
   obtain ⟨x,r,e,q,t⟩:=h
   exact ⟨x,r,e,Dn.ts s d (f d adY) q,cf.ts s ds (λ d hd=>f d (abO _ hd)) t⟩
end
theorem cf.length:∀ {ds:List PyData} {xs:List V},cf K H ds xs->xs.length=ds.length
 | [],_,h=>by rw [cf] at h;rw [h];rfl
 | d::ds,_,h=>by
   rw [cf] at h
   obtain ⟨x,r,rfl,_,t⟩:=h
   rw [acq,acq,cf.length t]
theorem cf.get:∀ {ds:List PyData} {xs:List V} {i:Nat} {d:PyData},cf K H ds xs->ds[i]?=some d->∃ x,xs[i]?=some x/\Dn K H d x
 | [],_,_,_,_,e=>by simp at e
 | _::_,_,0,_,h,e=>by
   rw [cf] at h
   obtain ⟨x,r,rfl,q,t⟩:=h
   simp at e
   subst e
   exact ⟨x,rfl,q⟩
 | _::ds,_,i+1,d,h,e=>by
   rw [cf] at h
   obtain ⟨x,r,rfl,q,t⟩:=h
   obtain ⟨y,e1,e2⟩:=cf.get (i:=i) t (by simpa using e)
   exact ⟨y,by simpa using e1,e2⟩
theorem cf.snoc:∀ {ds:List PyData} {xs:List V} {d:PyData} {x:V},cf K H ds xs->Dn K H d x->cf K H (ds++[d]) (xs++[x])
 | [],_,d,x,h,q=>by
   rw [cf] at h
   subst h
   exact ⟨x,[],rfl,q,rfl⟩
 | _::ds,_,d,x,h,q=>by
   rw [cf] at h
   obtain ⟨y,r,rfl,q',t⟩:=h
   exact ⟨y,r++[x],rfl,q',cf.snoc t q⟩
theorem cf.set:∀ {ds:List PyData} {xs:List V} {i:Nat} {d:PyData} {x:V},cf K H ds xs->Dn K H d x->cf K H (ds.set i d) (xs.set i x)
 | [],_,_,_,_,h,_=>by
   rw [cf] at h
   subst h
   exact rfl
 | _::_,_,0,d,x,h,q=>by
   rw [cf] at h
   obtain ⟨y,r,rfl,q',t⟩:=h
   exact ⟨x,r,rfl,q,t⟩
 | _::ds,_,i+1,d,x,h,q=>by
   rw [cf] at h
   obtain ⟨y,r,rfl,q',t⟩:=h
   exact ⟨y,r.set i x,rfl,q',cf.set t q⟩
theorem ic:cf K H [] []:=rfl
theorem bU {d:PyData} {ds:List PyData} {x:V} (a:Dn K H d x) (b:cf K H ds xs):cf K H (d::ds) (x::xs):=⟨x,xs,rfl,a,b⟩
theorem GI {i:Int}:Dn K H (.int i) (.int i):=rfl
theorem gO {a:Addr} {ds:List PyData} (h:bS K H a xs) (r:cf K H ds xs):Dn K H (.tuple ds) (.ref a):=⟨a,xs,rfl,h,r⟩
theorem BB {a:Addr} {ds:List PyData} (h:bg K H a xs) (r:cf K H ds xs):Dn K H (.list ds) (.ref a):=⟨a,xs,rfl,h,r⟩
abbrev ek (f:Int×Int):PyData:=.tuple [.int f.1,.int f.2]
theorem hV {p:Addr} {f:Int×Int} (h:bS K H p [.int f.1,.int f.2]):Dn K H (ek f) (.ref p):=gO h (bU GI (bU GI ic))
theorem Dn.fr {f:Int×Int} (h:Dn K H (ek f) v):∃ p,v = .ref p/\bS K H p [.int f.1,.int f.2]:=by
 obtain ⟨p,xs,e,q,x,r,e1,e2,y,r2,e3,e4,e5⟩:=h
 have e2:x=V.int f.1:=e2
 have e4:y=V.int f.2:=e4
 have e5:r2=[]:=e5
 subst e1 e2 e3 e4 e5
 exact ⟨p,e,q⟩
theorem gT (f:Int×Int):fu (ek f)=true:=by simp [ek,fu]
end
section
variable {X:Cx} {pins:List (Addr×Obj)} {U:St} {H:Hp} {s:Shared}
mutual
theorem Inv.reads (I:Inv X pins U H s):∀ (d:PyData) {v:V} {u:Value},Dn X.K H d v->RelV v u->∃ as,Reads s.heap u d as
 | .none,_,_,h,r=>by
   have h:_=V.bT:=h
   subst h
   obtain rfl:=(show _=Value.none from r)
   exact ⟨_,.none⟩
 | .bool b,_,_,h,r=>by
   have h:_=V.bl b:=h
   subst h
   obtain rfl:=(show _=Value.bool b from r)
   exact ⟨_,.bool b⟩
 | .int i,_,_,h,r=>by
   have h:_=V.int i:=h
   subst h
   obtain ⟨t,rfl⟩:=r
   exact ⟨_,.int i t⟩
 | .str x,_,_,h,r=>by
   have h:_=V.str x:=h
   subst h
   obtain ⟨t,rfl⟩:=r
   exact ⟨_,.str x t⟩
 | .list ds,_,_,h,r=>by
   obtain ⟨a,xs,rfl,q,t⟩:=h
   obtain rfl:=(show _=Value.ref a from r)
   obtain ⟨bG,rv,p,_⟩:=I.list q
   obtain ⟨o,ho,hc,n,hd⟩:=p.isList
   obtain ⟨as,ra⟩:=Inv.readsAll I ds t rv
   exact ⟨_,.list ho hc hd (by simpa using ra)⟩
 | .tuple ds,_,_,h,r=>by
   obtain ⟨a,xs,rfl,q,t⟩:=h
   obtain rfl:=(show _=Value.ref a from r)
   obtain ⟨bG,rv,p,_⟩:=I.tuple q
   obtain ⟨o,ho,hc,n,hd⟩:=p
   obtain ⟨as,ra⟩:=Inv.readsAll I ds t rv
   exact ⟨_,.tuple ho hc hd (by simpa using ra)⟩
 | .dict _,_,_,h,_=>(show False from h).elim
theorem Inv.readsAll (I:Inv X pins U H s):∀ (ds:List PyData) {xs:List V} {us:List Value},cf X.K H ds xs->Vals xs us->∃ as,ReadsAll s.heap us ds as
 | [],_,_,h,r=>by
   have h:_=[]:=h
   subst h
   obtain rfl:=Vals.zero r
   exact ⟨_,.nil⟩
 | d::ds,_,_,h,r=>by
   obtain ⟨x,t,rfl,q,qt⟩:=h
   cases r with
   | cons r1 r2 =>
     obtain ⟨as,ra⟩:=Inv.reads I d q r1
     obtain ⟨bs,rb⟩:=Inv.readsAll I ds qt r2
     exact ⟨_,.cons ra rb⟩
end
inductive Qi (K:W.Frag) (x:V) (y:V) (H:Hp) (Q:VK):Prop
 | mk (d e:_) (_:Dn K H d x) (_:Dn K H e y) (_:SeqAt.shaped d=true) (_:SeqAt.shaped e=true) (_:Q (.bl (PyData.eqv d e)) H)
inductive MT (K:W.Frag) (x:V) (y:V) (H:Hp) (Q:VK):Prop
 | mk (d e:_) (_:Dn K H d x) (_:Dn K H e y) (_:SeqAt.shaped d=true) (_:SeqAt.shaped e=true) (_:Q (.bl (!PyData.eqv d e)) H)
theorem NZ (hu:X.A.units+64<cLine):jz X (compareOp .Eq) (Qi X.K):=by
 intro pins s U H x y v u Q I rx ry h
 obtain ⟨d,e,h1,h2,s1,s2,q⟩:=h
 obtain ⟨as,r1⟩:=I.reads d h1 rx
 obtain ⟨bs,r2⟩:=I.reads e h2 ry
 exact eq_dataH r1 r2 s1 s2 hu ⟨.bl _,H,I,rfl,q⟩
theorem G3 (hu:X.A.units+64<cLine):jz X (compareOp .NotEq) (MT X.K):=by
 intro pins s U H x y v u Q I rx ry h
 obtain ⟨d,e,h1,h2,s1,s2,q⟩:=h
 obtain ⟨as,r1⟩:=I.reads d h1 rx
 obtain ⟨bs,r2⟩:=I.reads e h2 ry
 exact ne_dataH r1 r2 s1 s2 hu ⟨.bl _,H,I,rfl,q⟩
theorem vf (hc:X.calm=true):hZ X (.builtin "all") (λ xs H Q=>∃ (p:Addr) (bs:List Bool),xs=[.ref p]/\bg X.K H p (bs.map V.bl)/\Q (.bl (bs.all id)) H):=by
 intro pins s U H xs us Q I r h
 obtain ⟨p,bs,rfl,hq,q⟩:=h
 obtain ⟨u,rfl,r1⟩:∃ u,us=[u]/\RelV (.ref p) u:=by
   cases r with
   | cons a b=>cases b;exact ⟨_,rfl,a⟩
 obtain rfl:u=Value.ref p:=r1
 obtain ⟨bG,rv,pl,_⟩:=I.list hq
 have hl:p<s.heap.objs.size:=by obtain ⟨_,e,_⟩:=pl.isList;exact abh e
 have hlen:bG.length=bs.length:=by rw [← rv.length,At]
 have anE:∀ i v,bG.toArray[i]?=some v->v=Value.bool (bs.getD i false):=λ i v e=>by
   have e':bG[i]?=some v:=by simpa using e
   have hi:i<bs.length:=by rw [← hlen];exact (List.getElem?_eq_some_iff.mp e').1
   obtain ⟨u,e2,r2⟩:=rv.get (i:=i) (x:=V.bl (bs[i])) (by simp [hi])
   rw [e'] at e2
   cases e2
   have r3:v=Value.bool bs[i]:=r2
   rw [r3]
   simp [hi]
 refine call_all_walk (wpAny_pyIter_list pl.isList ⟨s.heap.objs.size,_,_,_,_,_,λ i=>bs.getD i false,rfl,Walks.list (by simpa using I.ok.hd hc) _ p (acN hl) bG.toArray,⟨⟨_,adt _ rfl,rfl,rfl⟩,pl.isList.push _⟩,λ i v s' Q' E' hP hQ'=>?_,λ h' tk hk=>?_⟩)
 . rw [anE i v hP]
   exact abF hQ'
 .
  have e:(List.range bG.toArray.size).all (λ i=>bs.getD i false)=bs.all id:=by
    have:bG.toArray.size=bs.length:=by simpa using hlen
    rw [this,alm,anX,anX]
    constructor
    . intro h b hb
      obtain ⟨i,hi,rfl⟩:=aiR hb
      have:=h i (List.mem_range.mpr hi)
      simpa [hi] using this
    . intro h i hi
      have hi:=List.mem_range.mp hi
      have:=h _ (aaA hi)
      simpa [hi] using this
  rw [e]
  exact ⟨.bl _,H,I.kept (t':=tk) λ b o z=>hk b o (λ y=>by
    have y:b=s.heap.objs.size:=by simpa using y
    exact absurd (abh z) (by rw [y];exact ag7 _)) (YM _ z),rfl,q⟩
end
section
variable {P:Program} {w:World} {K:W.Frag} {mg:Str->Option Value} {base:Heap} {x qual m:Str} {st:Stmt} {dV:Value} {f C:Addr} {fd:FuncData} {N ps:List Str} {k:Nat} {sp:Sp} {ds:List Value} {gd:List V}
def Wk (P:Program) (w:World) (K:W.Frag) (mg:Str->Option Value) (base:Heap) (C:Addr) (m qual:Str) (st:Stmt) (dV:Value) (k:Nat) (ps:List Str) (sp:Sp):Prop :=
 ∃ f fd,Meth K C m f/\nE K m qual st dV f fd/\ja P w K mg base tL k f fd ps sp
def xP (P:Program) (w:World) (K:W.Frag) (mg:Str->Option Value) (base:Heap) (C:Addr) (m:Str) (k:Nat) (ps:List Str) (gd:List V) (sp:Sp):Prop :=
 ∃ ds,Vals gd ds/\jb P w K mg base C m k ps ds sp
theorem fU.mok (h:fU K C m qual st dV) (S:aA N ps (ao st)) (len:∀ vs H Q E,sp vs H Q E->vs.length=ps.length) (dZ:∀ (f:Addr) (bB:Value) (A:Around) (outer:List Env) (s:Shared) (H:Hp) (vs:List V) (Q:VK) (E:XK),cR k (A.deeper (envOfC qual (ao st) s.heap.objs.size f bB))->sp vs H Q E ->
     ∃ t,qg (fi tL P w K mg base N qual (ao st) f bB A outer s H E).zV (bx st) t/\t { nx:=λ _ H'=>Q .bT H',rt:=Q } (start N vs) H):Wk P w K mg base C m qual st dV (k+1) ps sp:=by
 obtain ⟨f,fd,M,F⟩:=h
 exact ⟨f,fd,M,F,F.ok S len λ bB A outer s H vs Q E hr hs=>dZ f bB A outer s H vs Q E hr hs⟩
theorem Wk.Kx (h:Wk P w K mg base C m qual st (.ref T) k ps sp) (hT:BU K T BI) (hb:∀ items:Array Value,Vals BI items.toList->∃ ds,Vals gd ds/\∀ (kV doc pm:Value) (an:Option Addr) (bB ct:Value) (us:List Value),(us++ds).length=ps.length->∃ k,bindArgs (W.fnOf m qual (cm st) (bx st) (ao st) (.ref T) kV doc pm an bB ct) ⟨us,[]⟩=seqItems? (.ref T) >>= k/\k (some items)=pure (ps.zip (us++ds))) :
   xP P w K mg base C m k ps gd sp:=by
 obtain ⟨f,fd,M,F,O⟩:=h
 obtain ⟨o,n,items,hT,ho,hv⟩:=hT
 obtain ⟨ds,hd,hb⟩:=hb items hv
 exact ⟨ds,hd,f,fd,M,F.binds hT ho hb,O⟩
def YK (P:Program) (w:World) (K:W.Frag) (mg:Str->Option Value) (base:Heap) (x:Str) (st:Stmt) (dV:Value) (k:Nat) (ps:List Str) (sp:Sp):Prop :=
 ∃ f fd,mg x=some (.ref f)/\nE K x x st dV f fd/\ja P w K mg base tL k f fd ps sp
def OJ (P:Program) (w:World) (K:W.Frag) (mg:Str->Option Value) (base:Heap) (x:Str) (k:Nat) (ps:List Str) (gd:List V) (sp:Sp):Prop :=
 ∃ ds,Vals gd ds/\Wm P w K mg base x k ps ds sp
theorem Oo.dok (h:Oo K mg x st dV) (S:aA N ps (ao st)) (len:∀ vs H Q E,sp vs H Q E->vs.length=ps.length) (dZ:∀ (f:Addr) (bB:Value) (A:Around) (outer:List Env) (s:Shared) (H:Hp) (vs:List V) (Q:VK) (E:XK),cR k (A.deeper (envOfC x (ao st) s.heap.objs.size f bB))->sp vs H Q E ->
     ∃ t,qg (fi tL P w K mg base N x (ao st) f bB A outer s H E).zV (bx st) t/\t { nx:=λ _ H'=>Q .bT H',rt:=Q } (start N vs) H):YK P w K mg base x st dV (k+1) ps sp:=by
 obtain ⟨f,fd,M,F⟩:=h
 exact ⟨f,fd,M,F,F.ok S len λ bB A outer s H vs Q E hr hs=>dZ f bB A outer s H vs Q E hr hs⟩
theorem YK.anh (h:YK P w K mg base x st (.ref T) k ps sp) (hT:BU K T BI) (hb:∀ items:Array Value,Vals BI items.toList->∃ ds,Vals gd ds/\∀ (kV doc pm:Value) (an:Option Addr) (bB ct:Value) (us:List Value),(us++ds).length=ps.length->∃ k,bindArgs (W.fnOf x x (cm st) (bx st) (ao st) (.ref T) kV doc pm an bB ct) ⟨us,[]⟩=seqItems? (.ref T) >>= k/\k (some items)=pure (ps.zip (us++ds))) :
   OJ P w K mg base x k ps gd sp:=by
 obtain ⟨f,fd,M,F,O⟩:=h
 obtain ⟨o,n,items,hT,ho,hv⟩:=hT
 obtain ⟨ds,hd,hb⟩:=hb items hv
 exact ⟨ds,hd,f,fd,M,F.kp,F.binds hT ho hb,O⟩
theorem vals3 {a b c:V} {items:Array Value} (h:Vals [a,b,c] items.toList):∃ u v z,items=#[u,v,z]/\RelV a u/\RelV b v/\RelV c z:=by
 obtain ⟨l⟩:=items
 cases h with
 | cons h1 h=>cases h with
   | cons h2 h=>cases h with
     | cons h3 h=>cases h with
       | nil=>exact ⟨_,_,_,rfl,h1,h2,h3⟩
end
section
variable {X:Cx} {C:Addr} {m x:Str} {p pos apos:Pos} {e o:Expr} {es:List Expr} {ta:TE} {t:TA} {k:Nat} {ps:List Str} {sp:Sp} {gd:List V}
theorem yh {pl:Sem Bool} (he:PE X o ta) (c:xr X.K C) (D:xP X.prog X.w X.K X.mg X.base C m k ps gd sp) (hr:cR k X.A) (ha:PA X (e::es) t) (gE:starEach (e::es) X.env=(false,eval e X.env)::starEach es X.env:=by rfl) (lA:(backTo pos (starEach es X.env)).any (·.1)=false:=by rfl) (ht:eval (.Call (.Attribute o m apos) (e::es) [] pos) X.env=(do
     let ov ← eval o X.env
     standAt apos.atName
     let (f,first) ← holding [ov] (getMethod ov m pl)
     callWith pos f first (backTo pos (starEach (e::es) X.env)) (backToKw pos (keywordEach [] X.env))):=by rfl) :
   PE X (.Call (.Attribute o m apos) (e::es) [] pos) (sO C m sp gd E0 ta t):=by
 obtain ⟨ds,hd,D⟩:=D
 exact aX (pl:=pl) he c D hd hr ha gE lA ht
theorem yX (M:Kg X.K C) (D:xP X.prog X.w X.K X.mg X.base C "__init__" k ps gd sp) (hr:cR (k+1) X.A) (hm:X.mg x=some (.ref C)) (ha:PA X (e::es) t) (hg:Gl X x:=by rfl) (vG:(x == ("__debug__" : Str))=false:=by decide) (he:starEach (e::es) X.env=(false,eval e X.env)::starEach es X.env:=by rfl) (lA:(backTo pos (starEach es X.env)).any (·.1)=false:=by rfl):PE X (.Call (.Name x p) (e::es) [] pos) (HG C sp gd E0 t):=by
 obtain ⟨ds,hd,D⟩:=D
 exact xD M D hd hr hm ha hg vG he lA
theorem GQ (D:OJ X.prog X.w X.K X.mg X.base x k ps gd sp) (hr:cR k X.A) (ha:PA X (e::es) t) (hg:Gl X x:=by rfl) (vG:(x == ("__debug__" : Str))=false:=by decide) (he:starEach (e::es) X.env=(false,eval e X.env)::starEach es X.env:=by rfl) (lA:(backTo pos (starEach es X.env)).any (·.1)=false:=by rfl):PE X (.Call (.Name x p) (e::es) [] pos) (CP sp gd E0 t):=by
 obtain ⟨ds,hd,D⟩:=D
 exact EJ D hd hr ha hg vG he lA
end
theorem fP {X:Cx} {K:W.Frag} {es:List Expr} {k:Nat} {pos:Pos} {t:OC} {n:Nat} (hK:X.K=K) (hc:X.calm=true) (h:OS X es t) (hn:(assignEach es X.env).length=n:=by rfl) (gE:(assignEach es X.env).findIdx? (·.1)=none:=by rfl):PG X (.Tuple es k pos) (Uc K n t):=by
 subst hK
 exact NC hc h hn gE
end L2
namespace PySem
open Sem (wp)
theorem lL:∀ (l:List DictEntry) (c:Int),(l.map (·.hash)).Nodup->(l.filter (·.hash == c)).length<=1
 | [],_,_=>afh _
 | e::l,c,h=>by
   rw [aeC,List.nodup_cons] at h
   rw [ao4]
   split
   .
    rename_i q
    have q:e.hash=c:=by simpa using q
    have:l.filter (·.hash == c)=[]:=by
      rw [apC]
      intro x hx z
      exact h.1 (List.mem_map.mpr ⟨x,hx,by rw [q];simpa using z⟩)
    rw [this]
    exact aar _
   . exact lL l c h.2
section
variable {prog:Program} {w:World} {K:Type} [DecidableEq K] {knd:KeyKind prog w K} {A:Around} {E:Value->Shared->Prop} {s:Shared}
theorem mQ {ks:List K} {a:Addr} {Q:Bool->Shared->Prop} (hk:IsTupleKey knd s.heap ks a) (h:Q false s):wpAny (model prog w) A (Builtin.Dict.quietEq (.ref a)) Q E s:=by
 have hT:=hk.typeIs
 unfold Builtin.Dict.quietEq
 exact T1 (apE hT F.slot_tuple_eq.lookup (abF h))
theorem kF {id:String} {d:Addr} {o:Obj} {es ep} {xs:List (List K×Addr×Value)} {Q:Array DictEntry->Shared->Prop} (ho:s.heap.get? d=some o) (hd:o.data = .dict es ep) (he:es.toList=xs.map (entryOfKey (tupleKind knd)))
   (hi:∀ x∈xs,IsTupleKey knd s.heap x.1 x.2.1) (hh:(xs.map λ x=>tupleKeyHash knd x.1).Nodup) (h:Q es s) :
   wpAny (model prog w) A (Builtin.Dict.entriesForEmpty id d) Q E s:=by
 unfold Builtin.Dict.entriesForEmpty
 refine T1 (aoz ho hd ?_)
 have hn:(es.toList.map (·.hash)).Nodup:=by
   rw [he,aoj]
   exact hh
 refine T1 ?_
 refine wpAny_forIn_array' _ (λ rest _ s'=>s'=s/\∀ e∈rest,e∈es.toList) _ ?_ ?_ _ _ ⟨rfl,λ _ h=>h⟩
 .
  rintro e rest b s' ⟨rfl,hm⟩
  have hme:=hm e adY
  rw [he] at hme
  obtain ⟨x,hx,rfl⟩:=List.mem_map.mp hme
  refine T1 (mQ (hi x hx) ?_)
  have hc:¬ ((es.filter λ y=>y.hash == (entryOfKey (tupleKind knd) x).hash).size > 1):=by
    have:=lL es.toList (entryOfKey (tupleKind knd) x).hash hn
    have e2:(es.filter λ y=>y.hash == (entryOfKey (tupleKind knd) x).hash).size=(es.toList.filter λ y=>y.hash == (entryOfKey (tupleKind knd) x).hash).length:=by
      obtain ⟨l⟩:=es
      simp
    lia
  simp only [apm,anK,aa8 hc]
  exact abF ⟨rfl,λ e he=>hm e (abO _ he)⟩
 . rintro b s' ⟨rfl,_⟩
   exact abF h
theorem px {nm:String} {d o:Addr} {xs:List (List K×Addr×Value)} {Q:Unit->Shared->Prop} (hdo:d≠o) (Zg:(o == sysModules)=false)
   (hd:s.heap.DictOfH (tupleKind knd) d []) (ho:s.heap.DictOfH (tupleKind knd) o xs) (hh:(xs.map λ x=>tupleKeyHash knd x.1).Nodup)
   (hQ:∀ h',(∃ q es ep,h'.get? d=some q/\q.ExactDict/\q.data = .dict es ep/\es.toList=xs.map (entryOfKey (tupleKind knd))/\(xs.map (·.1)).Nodup)->Heap.SameBut d s.heap h'->Q () { s with heap:=h' }) (hsz:xs.length<=sizeLine) :
   wpAny (model prog w) A (Builtin.Dict.mergeDict nm d o) Q E s:=by
 obtain ⟨od,esd,epd,Bf,mR,zT,hed,ar9,hnd⟩:=id hd
 obtain ⟨oo,HV,epo,O2,hco,Ej,BZ,Nl,Ko⟩:=id ho
 have hse:esd=#[]:=by
   obtain ⟨l⟩:=esd
   have:l=[]:=by simpa using hed
   rw [this]
 have hlen:HV.size=xs.length:=by
   obtain ⟨l⟩:=HV
   have:l.length=_:=amX List.length BZ
   simpa using this
 unfold Builtin.Dict.mergeDict
 rw [aa8 (by simpa using hdo)]
 unfold Builtin.Dict.showsAll
 rw [aa8 (by rw [Zg];exact aaR)]
 refine T1 (abF ?_)
 refine T1 (aoz O2 Ej ?_)
 dsimp only
 cases xs with
 | nil =>
   have h0:HV=#[]:=by
     obtain ⟨l⟩:=HV
     have:l=[]:=by simpa using BZ
     rw [this]
   subst h0
   have fin:Q () s:=by
     have:=hQ s.heap ⟨od,esd,epd,Bf,mR,zT,hed,Ko⟩ (Heap.SameBut.refl _ _)
     exact this
   split
   . rename_i hf
     exact absurd hf (by simp)
   . refine T1 (wpAny_dictEpoch O2 Ej ?_)
     refine T1 (aoz O2 Ej ?_)
     refine T1 ?_
     rw [Std.Legacy.Range.forIn_eq_forIn_range']
     exact abF (abF fin)
 | cons x xs =>
   have hf:(decide (HV.size<=8) && HV.all λ e=>(keyPart e.key).isSome)=false:=by
     obtain ⟨l⟩:=HV
     have e1:l=_:=BZ
     subst e1
     have:keyPart (entryOfKey (tupleKind knd) x).key=none:=rfl
     simp [this]
   rw [hf]
   simp only [apm,anK]
   refine T1 (aoz Bf zT ?_)
   rw [hse]
   simp only [Array.isEmpty_empty,anK]
   refine T1 (kF O2 Ej BZ Nl hh ?_)
   have CG:HV.isEmpty=false:=by
     rw [Array.isEmpty_eq_false_iff]
     intro z
     rw [z] at hlen
     simp at hlen
   rw [CG]
   simp only [apm,anK]
   refine T1 (wpAny_updateDictKeysTo Bf zT (abF (hQ _ ⟨_,_,epd+1,anU _ Bf (Obj.isFreed_of_dict (Obj.data_mapDictKeys zT _)),mR.mapDictKeys _,Obj.data_mapDictKeys zT _,BZ,Ko⟩ (ao5 ..))) (by rw [hlen];lia))
theorem ui {o:Addr} {xs:List (List K×Addr×Value)} {Q:Value->Shared->Prop} (Zg:(o == sysModules)=false) (ho:s.heap.DictOfH (tupleKind knd) o xs) (hsz:xs.length<=sizeLine) (hh:(xs.map λ x=>tupleKeyHash knd x.1).Nodup)
   (h:∀ h',(∃ q es ep,h'.get? s.heap.objs.size=some q/\q.ExactDict/\q.data = .dict es ep/\es.toList=xs.map (entryOfKey (tupleKind knd))/\(xs.map (·.1)).Nodup)->Heap.SameBut s.heap.objs.size (s.heap.push { cls:=.type "dict",data:=.dict #[]}) h'->Q (.ref s.heap.objs.size) { s with heap:=h' }) :
   wpAny (model prog w) A (call (.type "dict") [.ref o]) Q E s:=by
 refine callType_codes (Q₁:=λ obj s₁=>obj = .ref s.heap.objs.size/\s₁={ s with heap:=s.heap.push { cls:=.type "dict",data:=.dict #[]}}) F.kt_called_dict (F.kt_typeCall_dict_1 _) F.entry_dict_init (kt_code_dict_new _ ⟨rfl,rfl⟩) ?_
 rintro obj s₁ ⟨rfl,rfl⟩
 have AT:(s.heap.push { cls:=.type "dict",data:=.dict #[]}).DictOfH (tupleKind knd) s.heap.objs.size []:=Heap.DictOfH.new s.heap
 have wZ:(s.heap.push { cls:=.type "dict",data:=.dict #[]}).DictOfH (tupleKind knd) o xs:=by
   obtain ⟨oo,HV,epo,O2,hco,Ej,BZ,Nl,Ko⟩:=id ho
   exact ⟨oo,HV,epo,YM _ O2,hco,Ej,BZ,λ x hx=>(let ⟨q,it,n,h1,h2⟩:=Nl x hx;⟨q,it,n,YM _ h1,h2⟩),Ko⟩
 have hdo:s.heap.objs.size≠o:=by
   obtain ⟨_,_,_,hg,_⟩:=ho
   exact λ e=>absurd (abh hg) (by rw [e];exact ag7 _)
 refine ⟨AT.typeIs,F.args_dict_init_2 _ _,?_⟩
 unfold Builtin.«dict.__init__»
 refine T1 ?_
 unfold Builtin.Dict.selfAndRest
 refine T1 (wpAny_notOrdered_dict AT.typeIs ?_)
 show wpAny _ _ (pure (s.heap.objs.size,[Value.ref o])) _ _ _
 refine abF ?_
 show wpAny _ _ (Builtin.Dict.updateFrom "dict.__init__" s.heap.objs.size (.ref o) [] .none) _ _ _
 unfold Builtin.Dict.updateFrom
 refine T1 (wpAny_typeOf wZ.typeIs ?_)
 rw [aa8 (by decide)]
 refine T1 ?_
 unfold Builtin.Dict.merge
 refine T1 ?_
 unfold Builtin.Dict.readDirectly
 refine T1 (wpAny_isInstance wZ.typeIs isSubtype_dict_dict ?_)
 simp only [apx,an9,aoe]
 refine T1 (apE wZ.typeIs F.slot_dict_iter.lookup (abF ?_))
 simp only [ao2,anK]
 refine T1 (abF ?_)
 refine px (hsz:=hsz) hdo Zg AT wZ hh λ h' EX hs'=>?_
 show wpAny _ _ (Builtin.Dict.addKeywords s.heap.objs.size [] >>= _) _ _ _
 exact T1 (abF (abF ⟨rfl,h h' EX hs'⟩))
end
end PySem
namespace L2
open PySem PySem.Spec PyProof.Rows Mth
variable {elt iter tg:Expr} {g:TG} {ifs:List Expr} {py KU:Pos} {te:TE} {yi:Nat}
section
variable {X:Cx} {pins:List (Addr×Obj)} {U:St} {H:Hp} {s:Shared} {a:Addr} {aN:List (List Key×V)} {A:Around} {E:Value->Shared->Prop}
theorem El {Q:Value->Shared->Prop} (I:Inv X pins U H s) (e:Rd H a (.dT aN)) (hh:(aN.map λ kv=>tupleKeyHash (cE X.prog X.w) kv.1).Nodup) (h:∀ p s',H p=none->Inv X pins U (upd H p (.dT aN)) s'->Q (.ref p) s'):wpAny (model X.prog X.w) A (call (.type "dict") [.ref a]) Q E s:=by
 obtain ⟨z,hd,xs,rel,dd⟩:=uH I.cq e
 have hx:xs.map (λ x=>tupleKeyHash (cE X.prog X.w) x.1)=aN.map λ kv=>tupleKeyHash (cE X.prog X.w) kv.1:=by
   clear dd z hh h e
   induction rel with
   | nil=>rfl
   | cons r _ ih=>rw [aeC,aeC,ih,r.1]
 refine ui hd dd (by rw [← apa rel];exact z) (by rw [hx];exact hh) λ h' KQ hs=>?_
 have hn:H s.heap.objs.size=none:=I.cq.fresh (aar _)
 refine h _ _ hn (I.laid (a:=s.heap.objs.size) (o:=.dT aN) (t':=s.toks) (λ b q hq=>?_) (aar _) ⟨z,beq_eq_false_iff_ne.mpr (alt (acN I.big)),xs,rel.keeps λ c ys ec=>?_,KQ⟩)
 . exact (hs.2 b (acN (abh hq))).trans (YM _ hq)
 . rw [aD (aC ec hn)];exact ec
end
theorem tY {X:Cx}:hZ X (.type "dict") (λ xs H Q=>∃ p aN,xs=[.ref p]/\H p=some (.dT aN)/\(aN.map λ kv=>tupleKeyHash (cE X.prog X.w) kv.1).Nodup/\∀ l,H l=none->Q (.ref l) (upd H l (.dT aN))):=by
 intro pins s U H xs us Q I r h
 obtain ⟨p,aN,rfl,hp,hh,q⟩:=h
 obtain ⟨u,rfl,rx⟩:=vals1 r
 cases rx
 exact El I (.inl hp) hh λ l s' hl I'=>⟨.ref l,_,I',rfl,q l hl⟩
theorem IW:bootBuiltins "dict" = some (.type "dict"):=by decide +kernel
section
variable {X:Cx}
theorem KC {y:Str} {scope:Scope} {pos:Pos} {wi:TI} {tt:TT} {N':List Str} {nt:Nat} {sl:List Nat} (hc:X.calm=true) (hi:PI X tg iter wi) (hg:∀ cl C s H ex,PG (cI X N' scope cl C s H ex) tg g) (ht:∀ cl C s H ex,LF (cI X N' scope cl C s H ex) ifs tt) (he:∀ cl C s H ex,PE (cI X N' scope cl C s H ex) elt te) (Rl:N'.length=nt+sl.length) (Nu:∀ k j:Nat,sl[k]?=some j->∃ x,N'[nt+k]?=some x/\X.N[j]?=some x/\scope.names.lookup x=some .free) (hk:scope.kind = .function) (il:∀ y∈scope.names,y.2 ≠ .cell) (kq:∀ y∈scope.names,y.2 = .local->scope.names.lookup y.1=some .local) (jP:∀ y∈scope.names,y.2 = .free->X.env.kindOf y.1=some .cell∨X.env.kindOf y.1=some .free) (hN:X.N.Nodup) (hyi:X.N[yi]?=some y) (hy:Loc X.env.scope y) (hf:X.fn y=true∨X.env.scope.names.lookup y=some .local) (O6:swapsWith (.ListComp elt [⟨tg,iter,ifs,0⟩] scope pos) (some (.Name y py)) KU.line X.env=pure true) (hs:∀ x,foldedSetIterable iter X.env x=pure x:=by intro _;rfl) :
   PS X (.Assign [.Name y py] (.ListComp elt [⟨tg,iter,ifs,0⟩] scope pos) KU) (FE (yz wi g tt te nt sl) (uv yi)):=by
 intro pins s U H DD I h
 rw [exec_Assign_Name_used _ _ _ _ O6]
 refine T1 (aol (T1 ?_))
 show wpAny _ X.A (do let _ ← comprehension (.ListComp elt [⟨tg,iter,ifs,0⟩] scope pos) scope X.env _ (newList []) false (eval iter X.env) (some (assign (.Name y py) X.env))) _ _ s
 refine T1 (acV (va (use:=some (assign (.Name y py) X.env)) (Qp:=λ _ s'=>SP X pins DD .next s') hc hi hg ht he Rl Nu hk il kq jP hs I h λ s6 H5 d c m J F hn q=>?_)
   (λ _ s' hq=>abF (abF hq)) λ _ _ e=>e)
 refine wpAny_assign_Name (vn (v:=.ref d) J hN hyi hy rfl (λ s7 I7 ⟨a,sb7,ha⟩=>?_) hf)
 have na:c≠a:=λ z=>by
   rcases ha with q|q
   . exact F.2.1 (z.trans q)
   . exact F.2.2.2.2.1 _ a q z.symm
 refine ⟨m,?_,λ h' sb=>?_⟩
 . obtain ⟨o,es,ep,ho,r⟩:=hn
   exact ⟨o,es,ep,(sb7.2 _ na).trans ho,r⟩
 . exact ⟨_,H5,I7.turned (t':=s7.toks) (λ b _ hb q=>(sb.2 b hb).trans q) F.1 F.2.1 F.2.2.2.1 F.2.2.2.2.1 F.2.2.2.2.2,q⟩
theorem nZ {y:Str} {scope:Scope} {pos:Pos} {wi:TI} {tt:TT} (tn fr:List Str) (sl:List Nat) (hp:Paired (λ (j:Nat) (x:Str)=>X.N[j]?=some x/\scope.names.lookup x=some .free/\(X.env.kindOf x=some .cell∨X.env.kindOf x=some .free)) sl fr) (hc:X.calm=true) (hi:PI X tg iter wi) (hg:∀ cl C s H ex,PG (cI X (tn++fr) scope cl C s H ex) tg g) (ht:∀ cl C s H ex,LF (cI X (tn++fr) scope cl C s H ex) ifs tt) (he:∀ cl C s H ex,PE (cI X (tn++fr) scope cl C s H ex) elt te) (hk:scope.kind = .function) (il:∀ y∈scope.names,y.2 ≠ .cell) (kq:∀ y∈scope.names,y.2 = .local->scope.names.lookup y.1=some .local) (jP:∀ y∈scope.names,y.2 = .free->y.1∈fr) (hN:X.N.Nodup) (hyi:X.N[yi]?=some y) (hy:Loc X.env.scope y) (O6:swapsWith (.ListComp elt [⟨tg,iter,ifs,0⟩] scope pos) (some (.Name y py)) KU.line X.env=pure true) (hf:X.fn y=true∨X.env.scope.names.lookup y=some .local:=by first|exact .inl rfl|exact .inr rfl|assumption) (hs:∀ x,foldedSetIterable iter X.env x=pure x:=by intro _;rfl) :
   PS X (.Assign [.Name y py] (.ListComp elt [⟨tg,iter,ifs,0⟩] scope pos) KU) (FE (yz wi g tt te tn.length sl) (uv yi)):=by
 have key:∀ {sl:List Nat} {fr:List Str},Paired (λ (j:Nat) (x:Str)=>X.N[j]?=some x/\scope.names.lookup x=some .free/\(X.env.kindOf x=some .cell∨X.env.kindOf x=some .free)) sl fr ->
     (∀ k j:Nat,sl[k]?=some j->∃ x,fr[k]?=some x/\X.N[j]?=some x/\scope.names.lookup x=some .free)/\∀ x∈fr,X.env.kindOf x=some .cell∨X.env.kindOf x=some .free:=by
   intro sl fr hp
   induction hp with
   | nil=>exact ⟨λ k j h=>by simp at h,λ x hx=>by simp at hx⟩
   | cons r t ih =>
     refine ⟨λ k j h=>?_,λ x hx=>?_⟩
     . cases k with
       | zero =>
         have e:_=j:=aaU h
         subst e
         exact ⟨_,rfl,r.1,r.2.1⟩
       | succ k=>exact ih.1 k j (by simpa using h)
     . rcases List.mem_cons.mp hx with z|z
       . rw [z];exact r.2.2
       . exact ih.2 x z
 refine KC (N':=tn++fr) hc hi hg ht he (by rw [aas,hp.length]) (λ k j h=>?_) hk il kq (λ y hy hf=>(key hp).2 _ (jP y hy hf)) hN hyi hy hf O6 hs
 obtain ⟨x,e1,e2⟩:=(key hp).1 k j h
 exact ⟨x,by rw [aea (anV _ _),apu];exact e1,e2⟩
end
abbrev cg:=Int×Int
structure ap where
 most:Int
 iU:Int
 load:Int
 rows:List (List cg)
 bI:Int->Int->Option cg
 bw:List (cg×cg×cg)
 aF:List (Option (cg×Int×Int×Int))
abbrev o5 (s:cg×cg×cg):PyData:=.tuple [ek s.1,ek s.2.1,ek s.2.2]
abbrev ij:Option (cg×Int×Int×Int)->PyData
 | none => .none
 | some s => .tuple [ek s.1,.int s.2.1,.int s.2.2.1,.int s.2.2.2]
abbrev tZ (r:List cg):PyData:=.tuple (r.map ek)
def l6 (m:ap) (pm pf ps pt:Addr):List (Str×V) :=
 [("most",.int m.most),("cap",.int m.iU),("load",.int m.load),("mark_rows",.ref pm),("flows",.ref pf),("skies",.ref ps),("stoves",.ref pt)]
section
variable (m:ap) (pm pf ps pt:Addr)
theorem rJ:(l6 m pm pf ps pt).lookup ("most" : Str)=some (.int m.most):=by rfl
theorem xj:(l6 m pm pf ps pt).lookup ("cap" : Str)=some (.int m.iU):=by rfl
theorem zp:(l6 m pm pf ps pt).lookup ("load" : Str)=some (.int m.load):=by rfl
theorem oZ:(l6 m pm pf ps pt).lookup ("mark_rows" : Str)=some (.ref pm):=by rfl
theorem my:(l6 m pm pf ps pt).lookup ("flows" : Str)=some (.ref pf):=by rfl
theorem iP:(l6 m pm pf ps pt).lookup ("skies" : Str)=some (.ref ps):=by rfl
theorem k7:(l6 m pm pf ps pt).lookup ("stoves" : Str)=some (.ref pt):=by rfl
end
def nQ (K:W.Frag) (H:Hp):Option cg->Option V->Prop
 | none,none=>True
 | some f,some v=>Dn K H (ek f) v
 | _,_=>False
abbrev fW (i j:Int):List Key:=[.inl i,.inl j]
def oN (aN:List (List Key×V)):Prop:=(aN.map (·.1)).Nodup/\∀ p∈aN,∃ i j:Nat,i<4/\j<4/\p.1=fW i j
end L2
namespace Mth
def nf (t b:Int):Int×Int:=(t.fdiv (Int.gcd t b:Nat),b.fdiv (Int.gcd t b:Nat))
theorem rn {r q s:Int} (h:r ∣ q * s) (c:Int.gcd q r=1):r ∣ s:=by
 have h1:r.natAbs ∣ q.natAbs * s.natAbs:=by rw [← aoM];exact Int.natAbs_dvd_natAbs.mpr h
 have h2:Nat.Coprime r.natAbs q.natAbs:=by rw [Nat.coprime_comm];exact c
 exact Int.natAbs_dvd_natAbs.mp (Nat.Coprime.dvd_of_dvd_mul_left h2 h1)
theorem Fr.uniq {t b q r q' r':Int} (hb:b≠0) (h:Fr t b q r) (k:Fr t b q' r'):q=q'/\r=r':=by
 have e:q * r'=q' * r:=by
   have e1:(q * r') * b=(q' * r) * b:=by
     have a1:=h.jT
     have a2:=k.jT
     calc (q * r') * b=(q * b) * r':=by rw [ada]
       _=(t * r) * r':=by rw [a1]
       _=(t * r') * r:=by rw [ada]
       _=(q' * b) * r:=by rw [a2]
       _=(q' * r) * b:=by rw [ada]
   exact aiK hb e1
 have d1:r ∣ r':=by
   have:r ∣ q * r':=⟨q',by rw [e,an2]⟩
   exact rn this h.Ye
 have d2:r' ∣ r:=by
   have:r' ∣ q' * r:=⟨q,by rw [← e,an2]⟩
   exact rn this k.Ye
 have er:r=r':=Int.dvd_antisymm (ajz h.pos) (ajz k.pos) d1 d2
 subst er
 exact ⟨aiK (ann h.pos) e,rfl⟩
theorem ip {t b:Int} (hb:0<b):Fr t b (nf t b).1 (nf t b).2:=(G2 (ann hb) rfl).2.2.1 hb
theorem Fr.nf {t b q r:Int} (hb:0<b) (h:Fr t b q r):(q,r)=nf t b:=by
 obtain ⟨e1,e2⟩:=h.uniq (ann hb) (ip hb)
 rw [e1,e2]
def lq (x y:Int×Int):Int×Int:=nf (x.1 * y.2+y.1 * x.2) (x.2 * y.2)
def nN (x y:Int×Int):Int×Int:=nf (x.1 * y.2 - y.1 * x.2) (x.2 * y.2)
def bE (x y:Int×Int):Bool:=decide (x.1 * y.2<y.1 * x.2)
structure eA (n:Nat) (f:Int×Int):Prop where
 t:Bd n f.1
 b:Bd n f.2
 p:0<f.2
theorem eA.mono {m n:Nat} {f:Int×Int} (h:eA m f) (l:m<=n):eA n f:=⟨h.t.mono l,h.b.mono l,h.p⟩
theorem eA.minus {m n:Nat} {x y:Int×Int} (h:eA m x) (k:eA n y):eA (m+n+1) (nN x y):=by
 have F:=ip (t:=x.1 * y.2 - y.1 * x.2) (b:=x.2 * y.2) (ae7 h.p k.p)
 have b1:Bd (m+n) (x.1 * y.2):=h.t.mul k.b
 have b2:Bd (m+n) (y.1 * x.2):=by rw [aoi];exact k.t.mul h.b
 exact ⟨F.YE (b1.sub b2),F.Ys ((h.b.mul k.b).mono (anZ _)),F.pos⟩
theorem eA.plus {m n:Nat} {x y:Int×Int} (h:eA m x) (k:eA n y):eA (m+n+1) (lq x y):=by
 have F:=ip (t:=x.1 * y.2+y.1 * x.2) (b:=x.2 * y.2) (ae7 h.p k.p)
 have b1:Bd (m+n) (x.1 * y.2):=h.t.mul k.b
 have b2:Bd (m+n) (y.1 * x.2):=by rw [aoi];exact k.t.mul h.b
 exact ⟨F.YE (b1.add b2),F.Ys ((h.b.mul k.b).mono (anZ _)),F.pos⟩
theorem G9:eA 100 (0,1):=⟨(by decide:(_:Int).natAbs<_),(by decide:(_:Int).natAbs<_),by decide⟩
theorem MS:eA 100 (1,1):=⟨(by decide:(_:Int).natAbs<_),(by decide:(_:Int).natAbs<_),by decide⟩
end Mth
namespace L2
open PySem PySem.Spec PyProof.Rows Mth
variable {C dx p3 pf pm ps:Addr} {H H':Hp} {Q:VK} {fp:List Addr} {i:Nat} {l:List Int} {o:HO} {v:V} {vm vt xs:List V}
structure ap.Wf (m:ap):Prop where
 rows:∀ r∈m.rows,∀ f∈r,eA 100 f
 len:∀ r∈m.rows,2<=r.length/\r.length<=7
 bI:∀ i j f,m.bI i j=some f->eA 100 f
 bw:∀ s∈m.bw,eA 100 s.1/\eA 100 s.2.1/\eA 100 s.2.2
 aF:∀ x,some x∈m.aF->eA 100 x.1
structure aR (K:W.Frag) (C:Addr) (H:Hp) (a:Addr) (fp:List Addr) (m:ap):Prop where
 ex:∃ dx pm pf ps pt vm vs vt aN,fp=[a,dx,pm,pf,ps,pt]/\H a=some (.ins C dx (l6 m pm pf ps pt))/\H dx=some (.own a)/\H pm=some (.lst vm)/\H pf=some (.dT aN)/\H ps=some (.lst vs)/\H pt=some (.lst vt) /\
   pm≠ps/\pm≠pt/\ps≠pt/\cf K H (m.rows.map tZ) vm/\cf K H (m.bw.map o5) vs/\cf K H (m.aF.map ij) vt/\(∀ i j,nQ K H (m.bI i j) (ge aN (fW i j)))/\oN aN
 sk:m.bw.length=m.rows.length
 st:m.aF.length=m.rows.length
 mx:m.rows.length<=4
 wf:m.Wf
def qE (fp:List Addr) (H H':Hp):Prop:=∀ b o,H b=some o->b∉fp->H' b=some o
def ap.fo (m:ap) (i j:Nat):cg:=(m.bI i j).getD (0,1)
def ap.eV (m:ap) (i:Nat):cg:=((m.bw[i]?).map (·.1)).getD (0,1)
def ap.gj (m:ap) (i n:Nat):cg:=(List.range n).foldl (λ acc j=>nN acc (m.fo i j)) (nN (1,1) (m.eV i))
def ap.own (m:ap) (i:Nat):cg:=m.gj i m.rows.length
def ap.share (m:ap) (i j:Nat):cg:=if i=j then m.own i else m.fo i j
theorem ap.Wf.fo {m:ap} (w:m.Wf) (i j:Nat):eA 100 (m.fo i j):=by
 unfold ap.fo
 cases e:m.bI i j with
 | none=>exact G9
 | some f=>exact w.bI i j f e
theorem ap.Wf.eV {m:ap} (w:m.Wf) (i:Nat):eA 100 (m.eV i):=by
 unfold ap.eV
 cases e:m.bw[i]? with
 | none=>exact G9
 | some f=>exact (w.bw f (ac8 e)).1
theorem ap.ku (m:ap) (i n:Nat):m.gj i (n+1)=nN (m.gj i n) (m.fo i n):=by
 unfold ap.gj
 rw [aeA,ai6];rfl
theorem ap.Wf.gj {m:ap} (w:m.Wf) (i:Nat):∀ n,eA (201+101 * n) (m.gj i n)
 | 0=>(MS.minus (w.eV i)).mono (by decide)
 | n+1=>by
   rw [ap.ku]
   exact ((w.gj i n).minus (w.fo i n)).mono (by lia)
section
variable {K:W.Frag} {H:Hp} {v:V}
theorem Dn.dE {s:cg×cg×cg} (h:Dn K H (o5 s) v):∃ p v1 v2 v3,v = .ref p/\bS K H p [v1,v2,v3]/\Dn K H (ek s.1) v1/\Dn K H (ek s.2.1) v2/\Dn K H (ek s.2.2) v3:=by
 obtain ⟨p,xs,e,q,x1,r1,e1,d1,x2,r2,e2,d2,x3,r3,e3,d3,e4⟩:=h
 have e4:r3=[]:=e4
 subst e1 e2 e3 e4
 exact ⟨p,x1,x2,x3,e,q,d1,d2,d3⟩
theorem G6 {s:cg×cg×cg} {p:Addr} {v1 v2 v3:V} (q:bS K H p [v1,v2,v3]) (d1:Dn K H (ek s.1) v1) (d2:Dn K H (ek s.2.1) v2) (d3:Dn K H (ek s.2.2) v3):Dn K H (o5 s) (.ref p) :=
 gO q (bU d1 (bU d2 (bU d3 ic)))
theorem rQ (s:cg×cg×cg):fu (o5 s)=true:=by simp [o5,ek,fu]
theorem rR (s:Option (cg×Int×Int×Int)):fu (ij s)=true:=by cases s<;>simp [ij,ek,fu]
theorem yG (r:List cg):fu (tZ r)=true:=qo.mpr λ d hd=>by
 obtain ⟨f,_,rfl⟩:=List.mem_map.mp hd
 exact gT f
theorem BK.fr {a:Addr} {f:cg} (h:BK K a [.int f.1,.int f.2]):Dn K H (ek f) (.ref a):=hV (h.at H)
end
theorem av {α:Type} {l:List α} (h:i<l.length):l[i]?=some l[i]:=ad6 h
theorem gx {α:Type} {xs:List α} {v:α} (h:xs[i]?=some v):tE xs (i:Int)=some v:=bh h
theorem Dc {K:W.Frag} {o:Option cg} {r:Option V} {z:V} (h:nQ K H o r) (hz:Dn K H (ek (0,1)) z):Dn K H (ek (o.getD (0,1))) (r.getD z):=by
 cases o with
 | none=>cases r with
   | none=>exact hz
   | some v=>exact (show False from h).elim
 | some f=>cases r with
   | none=>exact (show False from h).elim
   | some v=>exact h
inductive IN  (vs:List V) (H:Hp) (Q:VK) (_E:XK):Prop
 | mk (n g:Int) (_:vs=[.int n,.int g]) (_:Q (.bl (decide (0<=n/\n<=g))) H)
section
variable (K:W.Frag) (C:Addr)
inductive K5  (vs:List V) (H:Hp) (Q:VK) (_E:XK):Prop
 | mk (a fp m:_) (_:vs=[.ref a]) (_:aR K C H a fp m) (_:Q (aq m.rows.length) H)
inductive yN  (vs:List V) (H:Hp) (Q:VK) (_E:XK):Prop
 | mk (a fp m:_) (i:Nat) (_:vs=[.ref a,aq i]) (_:aR K C H a fp m) (_:i<m.rows.length) (_:Q .bT H)
inductive OF  (vs:List V) (H:Hp) (Q:VK) (_E:XK):Prop
 | mk (a fp m:_) (i:Nat) (s:_) (_:vs=[.ref a,aq i]) (_:aR K C H a fp m) (_:m.bw[i]?=some s) (_:∀ v,Dn K H (o5 s) v->Q v H)
inductive HE  (vs:List V) (H:Hp) (Q:VK) (_E:XK):Prop
 | mk (a fp m:_) (i:Nat) (s:_) (_:vs=[.ref a,aq i]) (_:aR K C H a fp m) (_:m.aF[i]?=some s) (_:∀ v,Dn K H (ij s) v->Q v H)
inductive Hl  (vs:List V) (H:Hp) (Q:VK) (_E:XK):Prop
 | mk (a fp m:_) (i:Nat) (r:_) (_:vs=[.ref a,aq i]) (_:aR K C H a fp m) (_:m.rows[i]?=some r) (_:∀ p xs,H p=none->cf K H (r.map ek) xs->Q (.ref p) (upd H p (.lst xs)))
inductive MI  (vs:List V) (H:Hp) (Q:VK) (_E:XK):Prop
 | mk (a fp m:_) (i:Nat) (_:vs=[.ref a,aq i]) (_:aR K C H a fp m) (_:i<m.rows.length) (_:∀ v H',aB H H'->Dn K H' (ek (m.own i)) v->Q v H')
inductive GR  (vs:List V) (H:Hp) (Q:VK) (_E:XK):Prop
 | mk (a fp m:_) (i j:Nat) (_:vs=[.ref a,aq i,aq j]) (_:aR K C H a fp m) (_:i<m.rows.length) (_:j<m.rows.length) (_:∀ v H',aB H H'->Dn K H' (ek (m.share i j)) v->Q v H')
end
theorem aR.same {K:W.Frag} {a:Addr} {m:ap} (s:aB H H') (h:aR K C H a fp m):aR K C H' a fp m:=by
 obtain ⟨⟨dx,pm,pf,ps,pt,vm,vs,vt,aN,e,ha,iM,dI,gX,ft,c8,n1,n2,n3,dm,ds,dt,df,fk⟩,q1,q2,q3,q4⟩:=h
 refine ⟨⟨dx,pm,pf,ps,pt,vm,vs,vt,aN,e,s _ _ ha,s _ _ iM,s _ _ dI,s _ _ gX,s _ _ ft,s _ _ c8,n1,n2,n3,cf.same s _ dm,cf.same s _ ds,cf.same s _ dt,λ i j=>?_,fk⟩,q1,q2,q3,q4⟩
 have:=df i j
 revert this
 cases m.bI i j<;>cases ge aN (fW i j)<;>intro q
 . exact q
 . exact q
 . exact q
 . exact Dn.same s _ q
theorem CH {n:Nat} (h:i<n):Du n (i:Int)=some i:=by
 unfold Du
 rw [abl (by lia),abl (by lia),aff]
theorem Ob {x y z t:V}:[x,y,z,t].length<=sizeLine:=by show 4<=sizeLine;decide
theorem OR {x:V}:[x].length<=sizeLine:=by show 1<=sizeLine;decide
theorem vc {α:Type} [DecidableEq α]:∀ (l L:List α),l.Nodup->(∀ x∈l,x∈L)->l.length<=L.length
 | [],_,_,_=>afh _
 | x::l,L,hn,hs=>by
   obtain ⟨h1,h2⟩:=List.nodup_cons.mp hn
   have hx:=hs x adY
   have:=vc l (L.erase x) h2 λ y hy=>(List.mem_erase_of_ne (λ e=>h1 (by rw [← e];exact hy))).mpr (hs y (abO _ hy))
   rw [List.length_erase_of_mem hx] at this
   have hp:=List.length_pos_of_mem hx
   rw [acq]
   lia
def Iq:List (List Key):=(List.range 4).flatMap λ (i:Nat)=>(List.range 4).map λ (j:Nat)=>fW (i:Int) (j:Int)
theorem oN.len {aN:List (List Key×V)} (h:oN aN):aN.length<=16:=by
 have:=vc (aN.map (·.1)) Iq h.1 λ x hx=>by
   obtain ⟨p,hp,rfl⟩:=List.mem_map.mp hx
   obtain ⟨i,j,hi,hj,e⟩:=h.2 p hp
   rw [e]
   exact List.mem_flatMap.mpr ⟨i,List.mem_range.mpr hi,List.mem_map.mpr ⟨j,List.mem_range.mpr hj,rfl⟩⟩
 rw [At] at this
 exact afY this (by decide)
theorem oN.put {aN:List (List Key×V)} (h:oN aN) {j:Nat} (hi:i<4) (hj:j<4) (v:V):oN (putK aN (fW i j) v):=by
 refine ⟨?_,λ p hp=>?_⟩
 .
  cases e:ge aN (fW i j) with
  | none=>exact Ld v h.1 e
  | some y =>
    have hc:(aN.any λ kv=>decide (kv.1=fW i j))=true:=by
      unfold ge at e
      cases q:aN.find? λ kv=>decide (kv.1=fW i j) with
      | none=>rw [q] at e;cases e
      | some z=>have q2:=List.find?_some q;exact List.any_eq_true.mpr ⟨z,List.mem_of_find?_eq_some q,q2⟩
    unfold putK
    rw [abl hc,aoj]
    have:((λ x:List Key×V=>x.1) ∘ λ kv:List Key×V=>if kv.1=fW i j then (kv.1,v) else kv)=λ x=>x.1:=by
      funext x
      show (if x.1=fW i j then (x.1,v) else x).1=x.1
      split<;>rfl
    rw [this]
    exact h.1
 .
  unfold putK at hp
  split at hp
  . obtain ⟨z,hz,rfl⟩:=List.mem_map.mp hp
    obtain ⟨a,b,ha,hb,e⟩:=h.2 z hz
    refine ⟨a,b,ha,hb,?_⟩
    split<;>exact e
  .
   rcases List.mem_append.mp hp with hp|hp
   . exact h.2 p hp
   . have:p=(fW i j,v):=by simpa using hp
     subst this
     exact ⟨i,j,hi,hj,rfl⟩
theorem xY {i j i' j':Int} (h:fW i j=fW i' j'):i=i'/\j=j':=by
 simp only [fW,List.cons.injEq,Sum.inl.injEq,and_true] at h
 exact h
def ap.dH (m:ap) (i j:Nat) (f:cg):ap:={ m with bI:=λ a b=>if a=(i:Int)/\b=(j:Int) then some f else m.bI a b }
def ap.e8 (m:ap) (i:Nat) (s:cg×cg×cg):ap:={ m with bw:=m.bw.set i s }
def ap.eU (m:ap) (i:Nat) (s:cg×Int×Int×Int):ap:={ m with aF:=m.aF.set i (some s)}
def ap.ce (m:ap) (r:List cg):ap:={ m with rows:=m.rows++[r],bw:=m.bw++[((0,1),(0,1),(0,1))],aF:=m.aF++[none]}
def ap.new (most iU load:Int):ap:=⟨most,iU,load,[],λ _ _=>none,[],[]⟩
structure mL (K:W.Frag) (C:Addr) (H:Hp) (a:Addr) (fp:List Addr) (m':ap) (H':Hp) (pd:List Addr):Prop where
 at_:aR K C H' a pd m'
 but:qE fp H H'
 ts:cu K H H'
 own:∀ b∈pd,b∈fp∨H b=none
theorem nQ.ts {K:W.Frag} (s:cu K H H'):∀ {o:Option cg} {v:Option V},nQ K H o v->nQ K H' o v
 | none,none,_=>trivial
 | some f,some v,h=>Dn.ts s _ (gT f) h
 | none,some _,h=>h
 | some _,none,h=>h
theorem jf {K:W.Frag} {rs:List (List cg)} (s:cu K H H') (h:cf K H (rs.map tZ) xs):cf K H' (rs.map tZ) xs:=cf.ts s _ (λ d hd=>by obtain ⟨r,_,rfl⟩:=List.mem_map.mp hd;exact yG r) h
theorem h9 {K:W.Frag} {rs:List (cg×cg×cg)} (s:cu K H H') (h:cf K H (rs.map o5) xs):cf K H' (rs.map o5) xs:=cf.ts s _ (λ d hd=>by obtain ⟨r,_,rfl⟩:=List.mem_map.mp hd;exact rQ r) h
theorem gb {K:W.Frag} {rs:List (Option (cg×Int×Int×Int))} (s:cu K H H') (h:cf K H (rs.map ij) xs):cf K H' (rs.map ij) xs:=cf.ts s _ (λ d hd=>by obtain ⟨r,_,rfl⟩:=List.mem_map.mp hd;exact rR r) h
def rB (r:List cg):Bool:=(List.zipWith bE r r.tail).all id
def kG (rs:List (List cg)):Int:=rs.foldl (λ p r=>p * ((r.length:Int) - 1)) 1
section
variable (K:W.Frag) (C:Addr)
inductive Ji  (vs:List V) (H:Hp) (Q:VK) (_E:XK):Prop
 | mk (a fp m:_) (i:Nat) (v1 v2 f g:_) (_:vs=[.ref a,aq i,v1,v2]) (_:aR K C H a fp m) (_:i<m.rows.length) (_:Dn K H (ek f) v1) (_:Dn K H (ek g) v2) (_:eA 100 f) (_:eA 100 g) (_:0<=f.1) (_:bE (lq (m.own i) g) f=false) (_:∀ H',aB H H'->Q .bT H')
inductive yn  (vs:List V) (H:Hp) (Q:VK) (_E:XK):Prop
 | mk (a fp m:_) (i j:Nat) (v f:_) (_:vs=[.ref a,aq i,aq j,v]) (_:aR K C H a fp m) (_:i<m.rows.length) (_:j<m.rows.length) (_:i≠j) (_:Dn K H (ek f) v) (_:eA 100 f) (_:0<=f.1) (_:bE (lq (m.own i) (m.fo i j)) f=false) (_:∀ H' pd,mL K C H a fp (m.dH i j f) H' pd->Q .bT H')
inductive BR  (vs:List V) (H:Hp) (Q:VK) (_E:XK):Prop
 | mk (a fp m:_) (i:Nat) (v1 v2 v3 f lo hi:_) (_:vs=[.ref a,aq i,v1,v2,v3]) (_:aR K C H a fp m) (_:i<m.rows.length) (_:Dn K H (ek f) v1) (_:Dn K H (ek lo) v2) (_:Dn K H (ek hi) v3) (_:eA 100 f) (_:eA 100 lo) (_:eA 100 hi) (_:bE hi lo=false) (_:0<=f.1) (_:bE (lq (m.own i) (m.eV i)) f=false) (_:∀ H' pd,mL K C H a fp (m.e8 i (f,lo,hi)) H' pd->Q .bT H')
inductive oE  (vs:List V) (H:Hp) (Q:VK) (_E:XK):Prop
 | mk (a fp m:_) (i:Nat) (v f:_) (w st fl:Int) (_:vs=[.ref a,aq i,v,.int w,.int st,.int fl]) (_:aR K C H a fp m) (_:i<m.rows.length) (_:Dn K H (ek f) v) (_:eA 100 f) (_:0<=f.1) (_:(0<=w/\w<=9)) (_:(0<=st/\st<=3)) (_:(0<=fl/\fl<=3)) (_:∀ H' pd,mL K C H a fp (m.eU i (f,w,st,fl)) H' pd->Q .bT H')
inductive DS  (vs:List V) (H:Hp) (Q:VK) (_E:XK):Prop
 | mk (p xs r:_) (_:vs=[.ref p]) (_:bg K H p xs) (_:cf K H (r.map ek) xs) (_:(∀ f∈r,eA 100 f)) (_:r.length<=7) (_:∀ H',aB H H'->Q (.bl (rB r)) H')
inductive Fn  (vs:List V) (H:Hp) (Q:VK) (_E:XK):Prop
 | mk (p xs rs:_) (_:vs=[.ref p]) (_:bg K H p xs) (_:cf K H (rs.map tZ) xs) (_:rs.length<=5) (_:(∀ r∈rs,1<=r.length/\r.length<=7)) (_:Q (.int (kG rs)) H)
inductive xL  (vs:List V) (H:Hp) (Q:VK) (_E:XK):Prop
 | mk (a fp m p xs r:_) (_:vs=[.ref a,.ref p]) (_:aR K C H a fp m) (_:m.rows.length<4) (_:bg K H p xs) (_:cf K H (r.map ek) xs) (_:(∀ f∈r,eA 100 f)) (_:2<=r.length) (_:r.length<=7) (_:rB r=true) (_:kG (m.rows++[r])<=400) (_:∀ H' pd,mL K C H a fp (m.ce r) H' pd->Q (aq m.rows.length) H')
inductive CM  (vs:List V) (H:Hp) (Q:VK) (_E:XK):Prop
 | mk (x dx:_) (most iU load:Int) (_:vs=[.ref x,.int most,.int iU,.int load]) (_:H x=some (.ins C dx [])) (_:H dx=some (.own x)) (_:(0<=most/\most<=4)) (_:(0<=iU/\iU<=30)) (_:(0<=load/\load<=30)) (_:∀ H' pd,mL K C H x [x,dx] (ap.new most iU load) H' pd->Q .bT H')
end
theorem bD {a b:Addr} {u:HO} (h:H a=some o) (k:H b=some u) (n:o≠u):a≠b:=λ e=>by
 subst e
 rw [h] at k
 exact n (aaU k)
theorem oY {m:ap} {uZ pt EI xq qA rj:Addr} (h:some (HO.ins C dx (l6 m pm pf ps pt))=some (HO.ins C uZ (l6 m EI xq qA rj))):dx=uZ/\pm=EI/\pf=xq/\ps=qA/\pt=rj:=by
 simp only [l6,Option.some.injEq,HO.ins.injEq,List.cons.injEq,Prod.mk.injEq,apW,and_true,V.ref.injEq] at h
 exact h
theorem qE.same (s:aB H H'):qE fp H H':=λ b o h _=>s b o h
theorem qE.upd {p:Addr} (b:qE fp H H') (hp:p∈fp):qE fp H (upd H' p o):=λ c u h n=>by
 rw [aD (λ e=>n (by rw [e];exact hp))]
 exact b c u h n
section
variable {K:W.Frag} {C:Addr} {H H1:Hp} {a:Addr} {fp:List Addr} {m:ap}
theorem DJ {pt:Addr} {aN:List (List Key×V)} {j:Nat} {f:cg} (hh:aR K C H a fp m) (s:aB H H1) (ha:H a=some (.ins C dx (l6 m pm pf ps pt))) (gX:H pf=some (.dT aN)) (hi:i<4) (hj:j<4) (d:Dn K H1 (ek f) v) (o:eA 100 f):mL K C H a fp (m.dH i j f) (upd H1 pf (.dT (putK aN (fW i j) v))) fp:=by
 obtain ⟨⟨uZ,EI,xq,qA,rj,vm,vs,vt,n8,pP,uV,iM,dI,mM,ft,c8,n1,n2,n3,dm,ds,dt,df,fk⟩,q1,q2,q3,q4⟩:=hh
 obtain ⟨rfl,rfl,rfl,rfl,rfl⟩:=oY (uV.symm.trans ha)
 obtain rfl:n8=aN:=by
   have:=mM.symm.trans gX
   injection this with e
   injection e
 have t1:cu K H1 (upd H1 xq (.dT (putK n8 (fW i j) v))):=eS (s _ _ mM) rfl
 have t0:=(aB.ts (K:=K) s).trans t1
 have w:∀ {b o},H b=some o->o ≠ .dT n8->(upd H1 xq (.dT (putK n8 (fW i j) v))) b=some o:=λ h n=>by
   rw [aD (bD h mM n)]
   exact s _ _ h
 refine ⟨⟨⟨uZ,EI,xq,qA,rj,vm,vs,vt,putK n8 (fW i j) v,pP,w uV nofun,w iM nofun,w dI nofun,ah,w ft nofun,w c8 nofun,n1,n2,n3,jf t0 dm,h9 t0 ds,gb t0 dt,λ i' j'=>?_,fk.put hi hj v⟩,q1,q2,q3,⟨q4.rows,q4.len,λ i' j' g hg=>?_,q4.bw,q4.aF⟩⟩,(qE.same s).upd (by rw [pP];simp),t0,λ b hb => .inl hb⟩
 .
  rw [zD]
  by_cases e:i'=(i:Int)/\j'=(j:Int)
  . show nQ K _ (if i'=(i:Int)/\j'=(j:Int) then some f else m.bI i' j') _
    rw [abl e,abl (by rw [e.1,e.2])]
    exact Dn.ts t1 _ (gT f) d
  . show nQ K _ (if i'=(i:Int)/\j'=(j:Int) then some f else m.bI i' j') _
    rw [aa8 e,aa8 (λ z=>e (xY z))]
    exact (df i' j').ts t0
 .
  have hg:(if i'=(i:Int)/\j'=(j:Int) then some f else m.bI i' j')=some g:=hg
  split at hg
  . cases hg
    exact o
  . exact q4.bI i' j' g hg
theorem G8 {pt:Addr} {vs:List V} {z:cg×cg×cg} (hh:aR K C H a fp m) (s:aB H H1) (ha:H a=some (.ins C dx (l6 m pm pf ps pt))) (ft:H ps=some (.lst vs)) (d:Dn K H1 (o5 z) v) (o:eA 100 z.1/\eA 100 z.2.1/\eA 100 z.2.2):mL K C H a fp (m.e8 i z) (upd H1 ps (.lst (vs.set i v))) fp:=by
 obtain ⟨⟨uZ,EI,xq,qA,rj,vm,AL,vt,n8,pP,uV,iM,dI,mM,xz,c8,n1,n2,n3,dm,ds,dt,df,fk⟩,q1,q2,q3,q4⟩:=hh
 obtain ⟨rfl,rfl,rfl,rfl,rfl⟩:=oY (uV.symm.trans ha)
 obtain rfl:AL=vs:=by
   have:=xz.symm.trans ft
   injection this with e
   injection e
 have t1:cu K H1 (upd H1 qA (.lst (AL.set i v))):=eS (s _ _ xz) rfl
 have t0:=(aB.ts (K:=K) s).trans t1
 have w:∀ {b o},H b=some o->b≠qA->(upd H1 qA (.lst (AL.set i v))) b=some o:=λ h n=>by
   rw [aD n]
   exact s _ _ h
 refine ⟨⟨⟨uZ,EI,xq,qA,rj,vm,AL.set i v,vt,n8,pP,w uV (bD uV ft nofun),w iM (bD iM ft nofun),w dI n1,w mM (bD mM ft nofun),ah,w c8 n3.symm,n1,n2,n3,jf t0 dm,?_,gb t0 dt,λ i' j'=>(df i' j').ts t0,fk⟩,?_,q2,q3,⟨q4.rows,q4.len,q4.bI,λ y hy=>?_,q4.aF⟩⟩,(qE.same s).upd (by rw [pP];simp),t0,λ b hb => .inl hb⟩
 . show cf K _ ((m.bw.set i z).map o5) _
   rw [aoX]
   exact cf.set (i:=i) (h9 t0 ds) (Dn.ts t1 _ (rQ z) d)
 . show (m.bw.set i z).length=_
   rw [ah1];exact q1
 . rcases apl hy with h|h
   . exact q4.bw y h
   . rw [h];exact o
theorem BD {pt:Addr} {z:cg×Int×Int×Int} (hh:aR K C H a fp m) (s:aB H H1) (ha:H a=some (.ins C dx (l6 m pm pf ps pt))) (c8:H pt=some (.lst vt)) (d:Dn K H1 (ij (some z)) v) (o:eA 100 z.1):mL K C H a fp (m.eU i z) (upd H1 pt (.lst (vt.set i v))) fp:=by
 obtain ⟨⟨uZ,EI,xq,qA,rj,vm,AL,Dh,n8,pP,uV,iM,dI,mM,xz,Eh,n1,n2,n3,dm,ds,dt,df,fk⟩,q1,q2,q3,q4⟩:=hh
 obtain ⟨rfl,rfl,rfl,rfl,rfl⟩:=oY (uV.symm.trans ha)
 obtain rfl:Dh=vt:=by
   have:=Eh.symm.trans c8
   injection this with e
   injection e
 have t1:cu K H1 (upd H1 rj (.lst (Dh.set i v))):=eS (s _ _ Eh) rfl
 have t0:=(aB.ts (K:=K) s).trans t1
 have w:∀ {b o},H b=some o->b≠rj->(upd H1 rj (.lst (Dh.set i v))) b=some o:=λ h n=>by
   rw [aD n]
   exact s _ _ h
 refine ⟨⟨⟨uZ,EI,xq,qA,rj,vm,AL,Dh.set i v,n8,pP,w uV (bD uV c8 nofun),w iM (bD iM c8 nofun),w dI n2,w mM (bD mM c8 nofun),w xz n3,ah,n1,n2,n3,jf t0 dm,h9 t0 ds,?_,λ i' j'=>(df i' j').ts t0,fk⟩,q1,?_,q3,⟨q4.rows,q4.len,q4.bI,q4.bw,λ y hy=>?_⟩⟩,(qE.same s).upd (by rw [pP];simp),t0,λ b hb => .inl hb⟩
 . show cf K _ ((m.aF.set i (some z)).map ij) _
   rw [aoX]
   exact cf.set (i:=i) (gb t0 dt) (Dn.ts t1 _ (rR (some z)) d)
 . show (m.aF.set i (some z)).length=_
   rw [ah1];exact q2
 . rcases apl hy with h|h
   . exact q4.aF y h
   . cases h;exact o
end
theorem HB (xs:List V):pR xs (some 1) none=xs.tail:=by
 have e:HT.t9 xs.length 0 (some 1)=min 1 xs.length:=HT.IH _ _ 1
 unfold pR
 rw [e,HT.Hg]
 cases xs with
 | nil=>rfl
 | cons x l =>
   have:min 1 (x::l).length=1:=by simp
   rw [this]
   simp
theorem aB.put {D:Addr} (s:aB H H') (h:H D=none):aB H (upd H' D o):=λ b u e=>by
 rw [aD (aC e h)]
 exact s b u e
theorem Aw {r:List cg} {x y:cg} (hx:r[i]?=some x) (hy:r[i+1]?=some y):(List.zipWith bE r r.tail)[i]?=some (bE x y):=by
 rw [apJ,hx]
 have:r.tail[i]?=some y:=by rw [aoS];exact hy
 rw [this]
section
variable {K:W.Frag} {C:Addr} {H H1:Hp} {a:Addr} {fp:List Addr} {m:ap}
theorem D0 {pt kt q0 N:Addr} {vs:List V} {r:List cg} (hh:aR K C H a fp m) (s:aB H H1) (ha:H a=some (.ins C dx (l6 m pm pf ps pt))) (dI:H pm=some (.lst vm)) (ft:H ps=some (.lst vs)) (c8:H pt=some (.lst vt)) (hn:H p3=none) (KZ:H1 p3=some (.lst (vm++[.ref kt]))) (dr:Dn K H1 (tZ r) (.ref kt)) (mK:m.rows.length<4) (hr:∀ f∈r,eA 100 f) (hl:2<=r.length/\r.length<=7) (dN:∀ H',Dn K H' (ek (0,1)) (.ref N)) (Dq:upd H1 a (.ins C dx (bN "mark_rows" (.ref p3) (l6 m pm pf ps pt))) q0=none) :
   ∃ pd,mL K C H a fp (m.ce r) (upd (upd (upd (upd H1 a (.ins C dx (bN "mark_rows" (.ref p3) (l6 m pm pf ps pt)))) q0 (.tup [.ref N,.ref N,.ref N])) ps (.lst (vs++[.ref q0]))) pt (.lst (vt++[.bT]))) pd:=by
 obtain ⟨⟨uZ,EI,xq,qA,rj,Pu,AL,Dh,n8,pP,uV,iM,MC,mM,xz,Eh,n1,n2,n3,dm,ds,dt,df,fk⟩,q1,q2,q3,q4⟩:=hh
 obtain ⟨rfl,rfl,rfl,rfl,rfl⟩:=oY (uV.symm.trans ha)
 obtain rfl:Pu=vm:=by
   have:=MC.symm.trans dI
   injection this with e
   injection e
 obtain rfl:AL=vs:=by
   have:=xz.symm.trans ft
   injection this with e
   injection e
 obtain rfl:Dh=vt:=by
   have:=Eh.symm.trans c8
   injection this with e
   injection e
 let H2:=upd H1 a (.ins C uZ (bN "mark_rows" (.ref p3) (l6 m EI xq qA rj)))
 let H3:=upd H2 q0 (.tup [.ref N,.ref N,.ref N])
 let H4:=upd H3 qA (.lst (AL++[.ref q0]))
 let H5:=upd H4 rj (.lst (Dh++[.bT]))
 have w2:∀ {b o},H1 b=some o->b≠a->H2 b=some o:=λ h n=>by show upd _ _ _ _=_;rw [aD n];exact h
 have s3:aB H2 H3:=ai Dq
 have na:H2 a=some (.ins C uZ (bN "mark_rows" (.ref p3) (l6 m EI xq qA rj))):=ah
 have T5:=bD uV ft nofun
 have Yp:=bD uV c8 nofun
 have SZ:H2 qA=some (.lst AL):=w2 (s _ _ ft) T5.symm
 have aaK:H2 rj=some (.lst Dh):=w2 (s _ _ c8) Yp.symm
 have adX:=s3 _ _ SZ
 have aeS:=s3 _ _ aaK
 have agG:H4 rj=some (.lst Dh):=by show upd _ _ _ _=_;rw [aD n3.symm];exact aeS
 have t12:cu K H1 H2:=eS (s _ _ uV) rfl
 have t34:cu K H3 H4:=eS adX rfl
 have ND:cu K H4 H5:=eS agG rfl
 have t35:=t34.trans ND
 have t15:=t12.trans ((aB.ts s3).trans t35)
 have WZ:=(aB.ts (K:=K) s).trans t15
 have w5:∀ {b o},H2 b=some o->b≠qA->b≠rj->H5 b=some o:=λ h x y=>by
   show upd _ _ _ _=_
   rw [aD y]
   show upd _ _ _ _=_
   rw [aD x]
   exact s3 _ _ h
 have wo:∀ {b o},H b=some o->b≠a->b≠qA->b≠rj->H5 b=some o:=λ h x y z=>w5 (w2 (s _ _ h) x) y z
 have p3a:p3≠a:=(aC uV hn).symm
 have p3s:p3≠qA:=(aC ft hn).symm
 have p3t:p3≠rj:=(aC c8 hn).symm
 have q0s:q0≠qA:=(aC SZ Dq).symm
 have ahh:H5 qA=some (.lst (AL++[.ref q0])):=by
   show upd _ _ _ _=_
   rw [aD n3]
   exact ah
 refine ⟨[a,uZ,p3,xq,qA,rj],⟨⟨uZ,p3,xq,qA,rj,Pu++[.ref kt],AL++[.ref q0],Dh++[.bT],n8,rfl,?_,wo iM (bD iM uV nofun) (bD iM ft nofun) (bD iM c8 nofun),w5 (w2 KZ p3a) p3s p3t,wo mM (bD mM uV nofun) (bD mM ft nofun) (bD mM c8 nofun),ahh,ah,p3s,p3t,n3,?_,?_,?_,λ i j=>(df i j).ts WZ,fk⟩,?_,?_,?_,?_⟩,?_,WZ,?_⟩
 . exact w5 na T5 Yp
 . show cf K H5 ((m.rows++[r]).map tZ) _
   rw [YC]
   exact (jf WZ dm).snoc (Dn.ts t15 _ (yG r) dr)
 . show cf K H5 ((m.bw++[((0,1),(0,1),(0,1))]).map o5) _
   rw [YC]
   exact (h9 WZ ds).snoc (Dn.ts t35 _ (rQ _) (G6 (s:=((0,1),(0,1),(0,1))) (bS.of ah) (dN _) (dN _) (dN _)))
 . show cf K H5 ((m.aF++[none]).map ij) _
   rw [YC]
   exact (gb WZ dt).snoc rfl
 . show (m.bw++[_]).length=(m.rows++[r]).length
   rw [aas,aas,q1];rfl
 . show (m.aF++[_]).length=(m.rows++[r]).length
   rw [aas,aas,q2];rfl
 . show (m.rows++[r]).length<=4
   rw [aas];exact mK
 .
  refine ⟨λ x hx=>?_,λ x hx=>?_,q4.bI,λ x hx=>?_,λ x hx=>?_⟩
  . rcases List.mem_append.mp hx with h|h
    . exact q4.rows x h
    . rw [List.mem_singleton.mp h];exact hr
  . rcases List.mem_append.mp hx with h|h
    . exact q4.len x h
    . rw [List.mem_singleton.mp h];exact hl
  . rcases List.mem_append.mp hx with h|h
    . exact q4.bw x h
    . rw [List.mem_singleton.mp h];exact ⟨G9,G9,G9⟩
  . rcases List.mem_append.mp hx with h|h
    . exact q4.aF x h
    . cases List.mem_singleton.mp h
 .
  intro b o h n
  rw [pP] at n
  simp only [abj,aay,ae5,aoA] at n
  exact wo h n.1 n.2.2.2.2.1 n.2.2.2.2.2
 .
  intro b hb
  rw [pP]
  simp only [abj,aay,ae5] at hb ⊢
  rcases hb with rfl|rfl|rfl|rfl|rfl|rfl
  . exact .inl (.inl rfl)
  . exact .inl (.inr (.inl rfl))
  . exact .inr hn
  . exact .inl (.inr (.inr (.inr (.inl rfl))))
  . exact .inl (.inr (.inr (.inr (.inr (.inl rfl)))))
  . exact .inl (.inr (.inr (.inr (.inr (.inr rfl)))))
end
structure jW (K:W.Frag) (C x dx:Addr) (H H':Hp) (fs:List (Str×V)):Prop where
 st:∀ b o,H b=some o->b≠x->H' b=some o
 ts:cu K H H'
 at_:H' x=some (.ins C dx fs)
section
variable {K:W.Frag} {C x dx:Addr} {H H':Hp} {fs fs':List (Str×V)}
theorem jW.start (h:H x=some (.ins C dx fs)):jW K C x dx H H fs:=⟨λ _ _ h _=>h,cu.refl _,h⟩
theorem jW.put (B:jW K C x dx H H' fs):jW K C x dx H (upd H' x (.ins C dx fs')) fs':=⟨λ b o h n=>by rw [aD n];exact B.st b o h n,B.ts.trans (eS B.at_ rfl),ah⟩
theorem jW.new {p:Addr} (B:jW K C x dx H H' fs) (hp:H' p=none):jW K C x dx H (upd H' p o) fs:=⟨λ b u h n=>by rw [aD (aC (B.st b u h n) hp)];exact B.st b u h n,B.ts.trans (aB.ts (ai hp)),by rw [aD (aC B.at_ hp)];exact B.at_⟩
theorem jW.keep {b:Addr} {u:HO} (B:jW K C x dx H H' fs) (h:H' b=some o) (n:b≠x):(upd H' x u) b=some o:=by rw [aD n];exact h
theorem jW.none {p:Addr} (B:jW K C x dx H H' fs) (hp:H' p=none):H p=Option.none:=by
 cases e:H p with
 | none=>rfl
 | some o =>
   by_cases q:p=x
   . rw [q,B.at_] at hp;cases hp
   . rw [B.st p o e q] at hp;cases hp
theorem jW.ne {p:Addr} (B:jW K C x dx H H' fs) (hp:H' p=Option.none):p≠x:=λ q=>by rw [q,B.at_] at hp;cases hp
theorem Cm {α:Type} {p:α->Prop} (x:α) (h:x∈([]:List α)):p x:=absurd h aay
theorem Ga {p1 p2 p4:Addr} {most iU load:Int} (B:jW K C x dx H H' (l6 (ap.new most iU load) p1 p2 p3 p4)) (hx:H x=some (.ins C dx fs')) (iM:H dx=some (.own x)) (h1:H' p1=some (.lst [])) (h2:H' p2=some (.dT [])) (h3:H' p3=some (.lst [])) (h4:H' p4=some (.lst [])) (n1:H p1=none) (n2:H p2=none) (n3:H p3=none) (n4:H p4=none) (e1:p1≠p3) (e2:p1≠p4) (e3:p3≠p4) :
   mL K C H x [x,dx] (ap.new most iU load) H' [x,dx,p1,p2,p3,p4]:=by
 refine ⟨⟨⟨dx,p1,p2,p3,p4,[],[],[],[],rfl,B.at_,B.st _ _ iM (bD iM hx nofun),h1,h2,h3,h4,e1,e2,e3,rfl,rfl,rfl,λ _ _=>trivial,aoK,Cm⟩,rfl,rfl,afh _,⟨Cm,Cm,λ _ _ _ h=>(by cases h),Cm,λ _ h=>absurd h aay⟩⟩,?_,B.ts,?_⟩
 . intro b o h n
   simp only [abj,aay,ae5,aoA] at n
   exact B.st b o h n.1
 .
  intro b hb
  simp only [abj,aay,ae5] at hb ⊢
  rcases hb with rfl|rfl|rfl|rfl|rfl|rfl
  . exact .inl (.inl rfl)
  . exact .inl (.inr rfl)
  . exact .inr n1
  . exact .inr n2
  . exact .inr n3
  . exact .inr n4
end
theorem lt1000 {n:Nat} (h:Nat.ble (n+1) 1000=true):n<1000:=aoG h
def Cp (i j:Int):Int:=reduceHash (Builtin.Tuple.tupleHashOf [hashInt i,hashInt j])
theorem EB:∀ i j i' j':Fin 4,Cp (i.val:Int) (j.val:Int)=Cp (i'.val:Int) (j'.val:Int)->i=i'/\j=j':=by decide +kernel
theorem Ee (i:Nat) (hi:i<4) (j:Nat) (hj:j<4) (i':Nat) (hi':i'<4) (j':Nat) (hj':j'<4) (h:Cp (i:Int) (j:Int)=Cp (i':Int) (j':Int)):i=i'/\j=j':=by
 obtain ⟨a,b⟩:=EB ⟨i,hi⟩ ⟨j,hj⟩ ⟨i',hi'⟩ ⟨j',hj'⟩ h
 exact ⟨amX Fin.val a,amX Fin.val b⟩
theorem oN.hash {P:Program} {w:World} {aN:List (List Key×V)} (h:oN aN):(aN.map λ kv=>tupleKeyHash (cE P w) kv.1).Nodup:=by
 have h1:=List.pairwise_map.mp h.1
 refine List.pairwise_map.mpr (h1.imp_of_mem λ {a b} ha hb n e=>?_)
 obtain ⟨i,j,hi,hj,e1⟩:=h.2 a ha
 obtain ⟨i',j',hi',hj',e2⟩:=h.2 b hb
 rw [e1,e2] at e
 obtain ⟨z1,z2⟩:=Ee i hi j hj i' hi' j' hj' e
 exact n (by rw [e1,e2,z1,z2])
def K3:Option Int->V
 | none => .bT
 | some n => .int n
theorem BM {U:St} {ta:TE} {k:Nat} {o:Option Int} {d:Int} (hk:U[k]?=some (some (K3 o))) (hA:∀ Q':VK,Q' (.int d) H->ta U H Q') (h:Q (.int (o.getD d)) H) :
   tIf (GO (UT (λ x y H Q=>y = .bT/\Q (.bl (decide (x = .bT))) H) (G1 k) (tC .bT))) ta (G1 k) U H Q:=by
 refine ⟨_,by rw [hk],rfl,_,rfl,?_⟩
 cases o with
 | none=>exact oP rfl (hA Q h)
 | some n=>exact ny nofun ⟨_,hk,h⟩
def ap.with (m:ap) (x y z:Option Int):ap:={ m with most:=x.getD m.most,iU:=y.getD m.iU,load:=z.getD m.load }
def ap.Yf (m:ap):Prop:=(0<=m.most/\m.most<=4)/\(0<=m.iU/\m.iU<=30)/\(0<=m.load/\m.load<=30)
inductive Cq (K:W.Frag) (C:Addr) (vs:List V) (H:Hp) (Q:VK) (_E:XK):Prop
 | mk (a fp m x y z:_) (_:vs=[.ref a,K3 x,K3 y,K3 z]) (_:aR K C H a fp m) (_:(m.with x y z).Yf) (_:∀ b H' pd,aB H H'->aR K C H' b pd (m.with x y z)->(∀ c∈pd,H c=none)->Q (.ref b) H')
theorem Iw {K:W.Frag} {H1:Hp} {a x:Addr} {m m':ap} {l1 l2 l3 l4:Addr} {vs:List V} {aN:List (List Key×V)} {CN pt:Addr} (hh:aR K C H a fp m) (ha:H a=some (.ins C CN (l6 m pm pf ps pt))) (dI:H pm=some (.lst vm)) (gX:H pf=some (.dT aN)) (ft:H ps=some (.lst vs)) (c8:H pt=some (.lst vt)) (s:aB H H1) (e:m'.rows=m.rows/\m'.bI=m.bI/\m'.bw=m.bw/\m'.aF=m.aF) (B:jW K C x dx H1 H' (l6 m' l1 l2 l3 l4)) (iM:H' dx=some (.own x)) (h1:H' l1=some (.lst vm)) (h2:H' l2=some (.dT aN)) (h3:H' l3=some (.lst vs)) (h4:H' l4=some (.lst vt)) (e1:l1≠l3) (e2:l1≠l4) (e3:l3≠l4):aR K C H' x [x,dx,l1,l2,l3,l4] m':=by
 obtain ⟨⟨uZ,EI,xq,qA,rj,Pu,AL,Dh,n8,pP,uV,auf,MC,mM,xz,Eh,n1,n2,n3,dm,ds,dt,df,fk⟩,q1,q2,q3,q4⟩:=hh
 obtain ⟨rfl,rfl,rfl,rfl,rfl⟩:=oY (uV.symm.trans ha)
 obtain rfl:Pu=vm:=by
   have:=MC.symm.trans dI
   injection this with e
   injection e
 obtain rfl:AL=vs:=by
   have:=xz.symm.trans ft
   injection this with e
   injection e
 obtain rfl:Dh=vt:=by
   have:=Eh.symm.trans c8
   injection this with e
   injection e
 obtain rfl:n8=aN:=by
   have:=mM.symm.trans gX
   injection this with e
   injection e
 have t:=(aB.ts (K:=K) s).trans B.ts
 obtain ⟨r1,r2,r3,r4⟩:=e
 refine ⟨⟨dx,l1,l2,l3,l4,Pu,AL,Dh,n8,rfl,B.at_,iM,h1,h2,h3,h4,e1,e2,e3,?_,?_,?_,λ i j=>?_,fk⟩,?_,?_,?_,⟨?_,?_,?_,?_,?_⟩⟩
 . rw [r1];exact jf t dm
 . rw [r3];exact h9 t ds
 . rw [r4];exact gb t dt
 . rw [r2];exact (df i j).ts t
 . rw [r1,r3];exact q1
 . rw [r1,r4];exact q2
 . rw [r1];exact q3
 . rw [r1];exact q4.rows
 . rw [r1];exact q4.len
 . rw [r2];exact q4.bI
 . rw [r3];exact q4.bw
 . rw [r4];exact q4.aF
theorem yD {ns:List Int} {r:Int} (h0:0<=r) (h1:r<ns.length):∃ z∈ns,tE (ns.map V.int) r=some (.int z):=by
 have hl:r.toNat<ns.length:=by lia
 have e:(ns.map V.int)[r.toNat]?=some (.int (ns[r.toNat]'hl)):=by simp [hl]
 have e2:=bh e
 rw [ahT h0] at e2
 exact ⟨_,aaA hl,e2⟩
inductive Ky  (vs:List V) (H:Hp) (Q:VK) (_E:XK):Prop
 | mk (c k n:Int) (_:vs=[.int c,.int k,.int n]) (_:0<=k) (_:k<=1000) (_:0<n) (_:∀ r,0<=r->r<n->Q (.int r) H)
structure vY where
 a:Int
 b:Int
 t:Int
 d:Int
structure vY.Ok (s:vY):Prop where
 a0:1<=s.a
 a1:s.a<=10 ^ 9
 b0:1<=s.b
 b1:s.b<=10 ^ 9
 t0 : -(10 ^ 9)<=s.t
 t1:s.t<=10 ^ 9
 d0:1<=s.d
 d1:s.d<=10 ^ 9
abbrev vY.vs (s:vY):List V:=[.int s.a,.int s.b,.int s.t,.int s.d]
inductive HI  (vs:List V) (H:Hp) (Q:VK) (_E:XK):Prop
 | mk (c:Int) (_:vs=[.int c]) (_:∀ p H' (s:vY),s.Ok->aB H H'->H' p=some (.tup s.vs)->Q (.ref p) H')
def cF (num parts:Int) (s:vY):Int:=num * s.a * s.d+parts * s.t * s.b
def ck (parts:Int) (s:vY):Int:=parts * s.b * s.d
def aZ (num parts:Int) (s:vY):cg:=nf (cF num parts s) (ck parts s)
inductive K7 (K:W.Frag) (vs:List V) (H:Hp) (Q:VK) (_E:XK):Prop
 | mk (num parts p:_) (s:vY) (_:vs=[.int num,.int parts,.ref p]) (_:bS K H p s.vs) (_:s.Ok) (_:Bd 30 num) (_:0<parts) (_:Bd 30 parts) (_:∀ q H',aB H H'->H' q=some (.tup [.int (aZ num parts s).1,.int (aZ num parts s).2])->Q (.ref q) H')
theorem d7 {parts:Int} {s:vY} (h:s.Ok) (hp:0<parts):0<ck parts s:=ae7 (ae7 hp (by have:=h.b0;lia)) (by have:=h.d0;lia)
theorem Jk {x:Int} (h0 : -(10 ^ 9)<=x) (h1:x<=10 ^ 9):Bd 30 x:=by show x.natAbs<2 ^ 30;lia
section
variable {s:vY}
theorem vY.Ok.ba (h:s.Ok):Bd 30 s.a:=Jk (by have:=h.a0;lia) h.a1
theorem vY.Ok.bb (h:s.Ok):Bd 30 s.b:=Jk (by have:=h.b0;lia) h.b1
theorem vY.Ok.bt (h:s.Ok):Bd 30 s.t:=Jk h.t0 h.t1
theorem vY.Ok.bd (h:s.Ok):Bd 30 s.d:=Jk (by have:=h.d0;lia) h.d1
end
theorem rf {num parts:Int} {s:vY} {n:Nat} (h:s.Ok) (hp:0<parts) (bn:Bd n num) (bp:Bd n parts):eA (n+61) (aZ num parts s):=by
 have F:=ip (t:=cF num parts s) (d7 h hp)
 have b1:Bd (n+60) (num * s.a * s.d):=((bn.mul h.ba).mul h.bd).mono (by lia)
 have b2:Bd (n+60) (parts * s.t * s.b):=((bp.mul h.bt).mul h.bb).mono (by lia)
 have b3:Bd (n+60) (ck parts s):=((bp.mul h.bb).mul h.bd).mono (by lia)
 exact ⟨(F.YE (b1.add b2)).mono (by lia),(F.Ys b3).mono (by lia),F.pos⟩
theorem ki {x y parts:Int} {s:vY} (h:s.Ok) (hp:0<parts):bE (aZ x parts s) (aZ y parts s)=decide (x<y):=by
 have F:=ip (t:=cF x parts s) (d7 h hp)
 have G:=ip (t:=cF y parts s) (d7 h hp)
 have hB:=d7 h hp
 have e:(aZ x parts s).1 * (aZ y parts s).2<(aZ y parts s).1 * (aZ x parts s).2↔cF x parts s<cF y parts s:=by
   have c1:(aZ x parts s).1 * ck parts s=cF x parts s * (aZ x parts s).2:=F.jT
   have c2:(aZ y parts s).1 * ck parts s=cF y parts s * (aZ y parts s).2:=G.jT
   have p1:0<(aZ x parts s).2:=F.pos
   have p2:0<(aZ y parts s).2:=G.pos
   generalize (aZ x parts s).1=q1 at c1 ⊢
   generalize (aZ x parts s).2=r1 at c1 p1 ⊢
   generalize (aZ y parts s).1=q2 at c2 ⊢
   generalize (aZ y parts s).2=r2 at c2 p2 ⊢
   generalize cF x parts s=t1 at c1 ⊢
   generalize cF y parts s=t2 at c2 ⊢
   generalize ck parts s=B at c1 c2 hB
   have k1:(q1 * r2) * B=t1 * (r1 * r2):=by rw [ada,c1,ahp]
   have k2:(q2 * r1) * B=t2 * (r1 * r2):=by rw [ada,c2,ahp,an2 r2 r1]
   have rp:0<r1 * r2:=ae7 p1 p2
   constructor
   . intro l
     have:=akG l hB
     rw [k1,k2] at this
     exact alH this (ajz rp)
   . intro l
     have:=akG l rp
     rw [← k1,← k2] at this
     exact alH this (ajz hB)
 unfold bE
 refine decide_eq_decide.mpr (e.trans ?_)
 have had:0<s.a * s.d:=ae7 (by have:=h.a0;lia) (by have:=h.d0;lia)
 unfold cF
 rw [ahp x,ahp y]
 constructor
 . intro l
   exact alH (by lia:x * (s.a * s.d)<y * (s.a * s.d)) (ajz had)
 . intro l
   have:=akG l had
   lia
abbrev Hq (z:Int×Int×Int×Int):List V:=[.int z.1,.int z.2.1,.int z.2.2.1,.int z.2.2.2]
structure W7 (z:Int×Int×Int×Int):Prop where
 h:0<=z.1/\z.1<=25
 w:0<=z.2.1/\z.2.1<=9
 s:0<=z.2.2.1/\z.2.2.1<=3
 f:0<=z.2.2.2/\z.2.2.2<=3
inductive qp  (vs:List V) (H:Hp) (Q:VK) (_E:XK):Prop
 | mk (a b c:Int) (i:Nat) (_:vs=[.int a,.int b,.int c,aq i]) (_:i<4) (_:Q .bT H) (_:∀ p z,W7 z->H p=none->Q (.ref p) (upd H p (.tup (Hq z))))
def dU (H:Hp) (L:List Addr):Hp:=λ b=>if b∈L then none else H b
section
variable {K:W.Frag} {H H':Hp} {L:List Addr} {a:Addr} {o:HO}
theorem bZ:aB (dU H L) H:=λ b u h=>by
 unfold dU at h
 split at h
 . cases h
 . exact h
theorem jG (h:H a=some o) (n:a∉L):dU H L a=some o:=by unfold dU;rw [aa8 n];exact h
theorem rm (h:a∈L):dU (upd H a o) L=dU H L:=by
 funext b
 unfold dU
 split
 . rfl
 . rename_i n
   rw [aD (λ e=>n (by rw [e];exact h))]
theorem lU (s:aB H H'):aB (dU H L) (dU H' L):=λ b u h=>by
 unfold dU at h ⊢
 split at h
 . cases h
 . rename_i n
   rw [aa8 n]
   exact s b u h
theorem qE.cut (b:qE L H H'):aB (dU H L) (dU H' L):=λ c u h=>by
 unfold dU at h ⊢
 split at h
 . cases h
 . rename_i n
   rw [aa8 n]
   exact b c u h n
end
structure aw where
 marks:List (List Int)
 dE:List (Int×Int×Int)
 aF:List (Option (Int×Int×Int×Int))
 bI:Nat->Nat->Option Int
 scale:vY
 bounds:Int×Int×Int
abbrev DW (z:Int×Int×Int):PyData:=.tuple [.int z.1,.int z.2.1,.int z.2.2]
abbrev stI:Option (Int×Int×Int×Int)->PyData
 | none => .none
 | some z => .tuple [.int z.1,.int z.2.1,.int z.2.2.1,.int z.2.2.2]
abbrev qG (l:List Int):PyData:=.list (l.map PyData.int)
def nv (pm ps pt pf fm pb:Addr):List (Key×V) :=
 [(.inr "marks",.ref pm),(.inr "sky",.ref ps),(.inr "stoves",.ref pt),(.inr "flows",.ref pf),(.inr "scale",.ref fm),(.inr "bounds",.ref pb)]
structure TC (K:W.Frag) (H:Hp) (p pm ps pt pf fm pb:Addr) (vm vs vt:List V) (aN:List (List Key×V)) (m:aw):Prop where
 hp:H p=some (.dK (nv pm ps pt pf fm pb))
 dI:H pm=some (.lst vm)
 ft:H ps=some (.lst vs)
 c8:H pt=some (.lst vt)
 gX:H pf=some (.dT aN)
 n1:pm≠ps
 n2:pm≠pt
 n3:ps≠pt
 dm:cf K (dU H [p,pm,ps,pt,pf]) (m.marks.map qG) vm
 ds:cf K (dU H [p,pm,ps,pt,pf]) (m.dE.map DW) vs
 dt:cf K (dU H [p,pm,ps,pt,pf]) (m.aF.map stI) vt
 df:∀ i j:Nat,i<4->j<4->ge aN (fW i j)=(m.bI i j).map V.int
 fk:oN aN
 sc:bS K (dU H [p,pm,ps,pt,pf]) fm m.scale.vs
 bo:bS K (dU H [p,pm,ps,pt,pf]) pb [.int m.bounds.1,.int m.bounds.2.1,.int m.bounds.2.2]
section
variable {K:W.Frag} {H H':Hp} {p pm ps pt pf fm pb:Addr} {vm vs vt:List V} {aN:List (List Key×V)} {m:aw}
theorem TC.same (c:TC K H p pm ps pt pf fm pb vm vs vt aN m) (s:aB H H'):TC K H' p pm ps pt pf fm pb vm vs vt aN m :=
 ⟨s _ _ c.hp,s _ _ c.dI,s _ _ c.ft,s _ _ c.c8,s _ _ c.gX,c.n1,c.n2,c.n3,cf.same (lU s) _ c.dm,cf.same (lU s) _ c.ds,cf.same (lU s) _ c.dt,c.df,c.fk,(lU s).tup c.sc,(lU s).tup c.bo⟩
theorem TC.Ge (c:TC K H p pm ps pt pf fm pb vm vs vt aN m) {x:V} (d:Dn K (dU H [p,pm,ps,pt,pf]) (qG l) x) :
   TC K (upd H pm (.lst (vm++[x]))) p pm ps pt pf fm pb (vm++[x]) vs vt aN { m with marks:=m.marks++[l]}:=by
 have e:dU (upd H pm (.lst (vm++[x]))) [p,pm,ps,pt,pf]=dU H [p,pm,ps,pt,pf]:=rm (by simp)
 refine ⟨by rw [aD (bD c.hp c.dI nofun)];exact c.hp,ah,by rw [aD c.n1.symm];exact c.ft,by rw [aD c.n2.symm];exact c.c8,by rw [aD (bD c.gX c.dI nofun)];exact c.gX,c.n1,c.n2,c.n3,?_,by rw [e];exact c.ds,by rw [e];exact c.dt,c.df,c.fk,by rw [e];exact c.sc,by rw [e];exact c.bo⟩
 rw [e]
 show cf K _ ((m.marks++[l]).map qG) _
 rw [YC]
 exact c.dm.snoc d
theorem TC.N0 (c:TC K H p pm ps pt pf fm pb vm vs vt aN m) {l:Int×Int×Int} {x:V} (d:Dn K (dU H [p,pm,ps,pt,pf]) (DW l) x) :
   TC K (upd H ps (.lst (vs++[x]))) p pm ps pt pf fm pb vm (vs++[x]) vt aN { m with dE:=m.dE++[l]}:=by
 have e:dU (upd H ps (.lst (vs++[x]))) [p,pm,ps,pt,pf]=dU H [p,pm,ps,pt,pf]:=rm (by simp)
 refine ⟨by rw [aD (bD c.hp c.ft nofun)];exact c.hp,by rw [aD c.n1];exact c.dI,ah,by rw [aD c.n3.symm];exact c.c8,by rw [aD (bD c.gX c.ft nofun)];exact c.gX,c.n1,c.n2,c.n3,by rw [e];exact c.dm,?_,by rw [e];exact c.dt,c.df,c.fk,by rw [e];exact c.sc,by rw [e];exact c.bo⟩
 rw [e]
 show cf K _ ((m.dE++[l]).map DW) _
 rw [YC]
 exact c.ds.snoc d
theorem TC.FL (c:TC K H p pm ps pt pf fm pb vm vs vt aN m) {l:Option (Int×Int×Int×Int)} {x:V} (d:Dn K (dU H [p,pm,ps,pt,pf]) (stI l) x) :
   TC K (upd H pt (.lst (vt++[x]))) p pm ps pt pf fm pb vm vs (vt++[x]) aN { m with aF:=m.aF++[l]}:=by
 have e:dU (upd H pt (.lst (vt++[x]))) [p,pm,ps,pt,pf]=dU H [p,pm,ps,pt,pf]:=rm (by simp)
 refine ⟨by rw [aD (bD c.hp c.c8 nofun)];exact c.hp,by rw [aD c.n2];exact c.dI,by rw [aD c.n3];exact c.ft,ah,by rw [aD (bD c.gX c.c8 nofun)];exact c.gX,c.n1,c.n2,c.n3,by rw [e];exact c.dm,by rw [e];exact c.ds,?_,c.df,c.fk,by rw [e];exact c.sc,by rw [e];exact c.bo⟩
 rw [e]
 show cf K _ ((m.aF++[l]).map stI) _
 rw [YC]
 exact c.dt.snoc d
def aw.dH (m:aw) (i j:Nat) (k:Int):aw:={ m with bI:=λ a b=>if a=i/\b=j then some k else m.bI a b }
theorem TC.dH (c:TC K H p pm ps pt pf fm pb vm vs vt aN m) {j:Nat} {k:Int} (hi:i<4) (hj:j<4) :
   TC K (upd H pf (.dT (putK aN (fW i j) (.int k)))) p pm ps pt pf fm pb vm vs vt (putK aN (fW i j) (.int k)) (m.dH i j k):=by
 have e:dU (upd H pf (.dT (putK aN (fW i j) (.int k)))) [p,pm,ps,pt,pf]=dU H [p,pm,ps,pt,pf]:=rm (by simp)
 refine ⟨by rw [aD (bD c.hp c.gX nofun)];exact c.hp,by rw [aD (bD c.dI c.gX nofun)];exact c.dI,by rw [aD (bD c.ft c.gX nofun)];exact c.ft,by rw [aD (bD c.c8 c.gX nofun)];exact c.c8,ah,c.n1,c.n2,c.n3,by rw [e];exact c.dm,by rw [e];exact c.ds,by rw [e];exact c.dt,λ a b ha hb=>?_,c.fk.put hi hj _,by rw [e];exact c.sc,by rw [e];exact c.bo⟩
 rw [zD]
 show _=(if a=i/\b=j then some k else m.bI a b).map V.int
 by_cases z:a=i/\b=j
 . rw [abl z,abl (by rw [z.1,z.2])];rfl
 . rw [aa8 z,aa8 (λ y=>z (by have:=xY y;lia))]
   exact c.df a b ha hb
end
def oq (l:List Int):Prop:=∀ i x y,l[i]?=some x->l[i+1]?=some y->x<y
structure vk (n:Nat) (l:List Int):Prop where
 two:2<=l.length
 most:l.length<=if n<=2 then 7 else 5
 OU:oq l
 bd:∀ x∈l,-200<=x/\x<=200
structure aw.Ok (n i:Nat) (m:aw):Prop where
 lm:m.marks.length=i
 ls:m.dE.length=i
 lt:m.aF.length=i
 rows:∀ l∈m.marks,vk n l
 dE:∀ z∈m.dE,(0<=z.1/\z.1<=3)/\(-30<=z.2.1/\z.2.1<=30)/\z.2.1<=z.2.2/\z.2.2<=z.2.1+30
 aF:∀ z,some z∈m.aF->W7 z
 bI:∀ a b,a<i->b<n->a≠b->∃ k,m.bI a b=some k/\0<=k/\k<=3
 scale:m.scale.Ok
 bounds:(0<=m.bounds.1/\m.bounds.1<=4)/\(0<=m.bounds.2.1/\m.bounds.2.1<=30)/\(0<=m.bounds.2.2/\m.bounds.2.2<=30)
def fA (K:W.Frag) (H:Hp) (p:Addr) (m:aw):Prop:=∃ pm ps pt pf fm pb vm vs vt aN,TC K H p pm ps pt pf fm pb vm vs vt aN m
theorem fA.same {K:W.Frag} {p:Addr} {m:aw} (h:fA K H p m) (s:aB H H'):fA K H' p m:=by
 obtain ⟨pm,ps,pt,pf,fm,pb,vm,vs,vt,aN,c⟩:=h
 exact ⟨pm,ps,pt,pf,fm,pb,vm,vs,vt,aN,c.same s⟩
section
variable {H:Hp} {p pm ps pt pf fm pb:Addr}
theorem bP (h:H p=some (.dK (nv pm ps pt pf fm pb))):gS H p (.str "marks") (some (.ref pm)):=gS.k (k:=.inr "marks") h
theorem sR (h:H p=some (.dK (nv pm ps pt pf fm pb))):gS H p (.str "sky") (some (.ref ps)):=gS.k (k:=.inr "sky") h
theorem dR (h:H p=some (.dK (nv pm ps pt pf fm pb))):gS H p (.str "stoves") (some (.ref pt)):=gS.k (k:=.inr "stoves") h
theorem nO (h:H p=some (.dK (nv pm ps pt pf fm pb))):gS H p (.str "flows") (some (.ref pf)):=gS.k (k:=.inr "flows") h
theorem su (h:H p=some (.dK (nv pm ps pt pf fm pb))):gS H p (.str "scale") (some (.ref fm)):=gS.k (k:=.inr "scale") h
theorem jC (h:H p=some (.dK (nv pm ps pt pf fm pb))):gS H p (.str "bounds") (some (.ref pb)):=gS.k (k:=.inr "bounds") h
end
theorem Cf {j:Nat} (h:j<l.length):tE (l.map V.int) ((0:Int)+(j:Int))=some (.int l[j]):=by
 rw [aaz]
 exact bh (by rw [RS,ad6 h];rfl)
theorem Jz {n:Nat} (h1:1<=n) (h4:n<=4) {x:Int} (e:x=(n:Int) - 1):tE [V.int 6,.int 6,.int 4,.int 4] x=some (.int (if n<=2 then 6 else 4)):=by
 subst e
 match n,h1,h4 with
 | 1,_,_=>rfl
 | 2,_,_=>rfl
 | 3,_,_=>rfl
 | 4,_,_=>rfl
theorem xy {j:Nat} {z:Int} (h:oq l) (hl:l.length=j+1) (hz:l[j]'(by lia)<z):oq (l++[z]):=by
 intro i x y hx hy
 by_cases hi:i+1<l.length
 . rw [aeF (by lia)] at hx
   rw [aeF hi] at hy
   exact h i x y hx hy
 .
  have JY:i+1<(l++[z]).length:=(List.getElem?_eq_some_iff.mp hy).1
  rw [aas,alS] at JY
  have e:i=j:=by lia
  subst e
  rw [aeF (by lia),ad6 (by lia)] at hx
  rw [aea (by lia),hl,Nat.sub_self] at hy
  have hx:=aaU hx
  have hy:z=y:=aaU hy
  rw [← hx,← hy]
  exact hz
theorem aw.Ok.marks {n:Nat} {m:aw} {z:Int×Int×Int} {t:Option (Int×Int×Int×Int)} {fl:Nat->Nat->Option Int} (h:m.Ok n i) (hl:vk n l) (hz:(0<=z.1/\z.1<=3)/\(-30<=z.2.1/\z.2.1<=30)/\z.2.1<=z.2.2/\z.2.2<=z.2.1+30) (ht:∀ y,t=some y->W7 y) (hf:∀ a b,a<i+1->b<n->a≠b->∃ k,fl a b=some k/\0<=k/\k<=3) :
   aw.Ok n (i+1) { m with marks:=m.marks++[l],dE:=m.dE++[z],aF:=m.aF++[t],bI:=fl }:=by
 refine ⟨?_,?_,?_,λ x hx=>?_,λ x hx=>?_,λ x hx=>?_,hf,h.scale,h.bounds⟩
 . show (m.marks++[l]).length=_
   rw [aas,h.lm];rfl
 . show (m.dE++[z]).length=_
   rw [aas,h.ls];rfl
 . show (m.aF++[t]).length=_
   rw [aas,h.lt];rfl
 . rcases List.mem_append.mp hx with q|q
   . exact h.rows x q
   . rw [List.mem_singleton.mp q];exact hl
 . rcases List.mem_append.mp hx with q|q
   . exact h.dE x q
   . rw [List.mem_singleton.mp q];exact hz
 . rcases List.mem_append.mp hx with q|q
   . exact h.aF x q
   . exact ht x (List.mem_singleton.mp q).symm
theorem xg {K:W.Frag}:∀ l:List Int,cf K H (l.map PyData.int) (l.map V.int)
 | []=>rfl
 | x::l=>⟨.int x,l.map V.int,rfl,rfl,xg l⟩
theorem TC.Mb {K:W.Frag} {p pt fm pb b:Addr} {vs:List V} {aN:List (List Key×V)} {m:aw} (c:TC K H p pm ps pt pf fm pb vm vs vt aN m) (h:H b=none):b∉[p,pm,ps,pt,pf]:=by
 simp only [abj,aay,ae5,aoA]
 exact ⟨(aC c.hp h).symm,(aC c.dI h).symm,(aC c.ft h).symm,(aC c.c8 h).symm,(aC c.gX h).symm⟩
def N3 (H:Hp) (t:Option (Int×Int×Int×Int)) (x:V) (H':Hp):Prop:=(t=none/\x = .bT/\H'=H)∨∃ p z,t=some z/\x = .ref p/\H p=none/\W7 z/\H'=upd H p (.tup (Hq z))
theorem yo {vs:List V} {E:XK} {a b c:Int} (hv:vs=[.int a,.int b,.int c,aq i]) (hi:i<4) (h:∀ t x H',N3 H t x H'->Q x H'):qp vs H Q E :=
 ⟨a,b,c,i,hv,hi,h none _ _ (.inl ⟨rfl,rfl,rfl⟩),λ p z hz hp=>h (some z) _ _ (.inr ⟨p,z,rfl,rfl,hp,hz,rfl⟩)⟩
theorem N3.same {t:Option (Int×Int×Int×Int)} {x:V} (h:N3 H t x H'):aB H H':=by
 rcases h with ⟨_,_,rfl⟩|⟨p,z,_,_,hp,_,rfl⟩
 . exact aB.refl _
 . exact ai hp
theorem N3.ok {t:Option (Int×Int×Int×Int)} {x:V} (h:N3 H t x H'):∀ y,t=some y->W7 y:=by
 rcases h with ⟨rfl,_,_⟩|⟨p,z,rfl,_,hp,hz,_⟩
 . exact nofun
 . intro y e;cases e;exact hz
theorem N3.dn {K:W.Frag} {t:Option (Int×Int×Int×Int)} {x:V} {L:List Addr} (h:N3 H t x H') (n:∀ b,H b=none->b∉L):Dn K (dU H' L) (stI t) x:=by
 rcases h with ⟨rfl,rfl,_⟩|⟨p,z,rfl,rfl,hp,hz,rfl⟩
 . rfl
 . exact gO (bS.of (jG ah (n p hp))) (bU rfl (bU rfl (bU rfl (bU rfl ic))))
end L2
namespace Mth
def Ov (W k:Int) (f:Int×Int):Prop:=f.1 * W=k * f.2/\0<f.2
theorem Ov.nf {W k:Int} (h:0<W):Ov W k (nf k W):=by
 have F:=ip (t:=k) h
 exact ⟨F.jT,F.pos⟩
theorem Ho {W:Int}:Ov W W (1,1):=⟨by show 1 * W=W * 1;lia,by decide⟩
theorem qW {W:Int}:Ov W 0 (0,1):=⟨by show 0 * W=0 * 1;lia,by decide⟩
theorem Ov.minus {W a b:Int} {x y:Int×Int} (h:Ov W a x) (k:Ov W b y):Ov W (a - b) (nN x y):=by
 have F:=ip (t:=x.1 * y.2 - y.1 * x.2) (b:=x.2 * y.2) (ae7 h.2 k.2)
 refine ⟨?_,F.pos⟩
 have c:=F.jT
 have hx:=h.1
 have hy:=k.1
 have pp:0<x.2 * y.2:=ae7 h.2 k.2
 show (Mth.nf (x.1 * y.2 - y.1 * x.2) (x.2 * y.2)).1 * W=(a - b) * (Mth.nf (x.1 * y.2 - y.1 * x.2) (x.2 * y.2)).2
 generalize (Mth.nf (x.1 * y.2 - y.1 * x.2) (x.2 * y.2)).1=q at c ⊢
 generalize (Mth.nf (x.1 * y.2 - y.1 * x.2) (x.2 * y.2)).2=r at c ⊢
 refine aiK (ann pp) ?_
 have e1:x.1 * y.2 * W=a * (x.2 * y.2):=by rw [ada,hx,ahp]
 have e2:y.1 * x.2 * W=b * (x.2 * y.2):=by rw [ada,hy,ahp,an2 y.2]
 calc q * W * (x.2 * y.2)=(q * (x.2 * y.2)) * W:=by rw [ada]
   _=(x.1 * y.2 - y.1 * x.2) * r * W:=by rw [c]
   _=((x.1 * y.2 - y.1 * x.2) * W) * r:=by rw [ada]
   _=(a * (x.2 * y.2) - b * (x.2 * y.2)) * r:=by rw [Int.sub_mul,e1,e2]
   _=(a - b) * r * (x.2 * y.2):=by rw [← Int.sub_mul,ada]
theorem Ov.plus {W a b:Int} {x y:Int×Int} (h:Ov W a x) (k:Ov W b y):Ov W (a+b) (lq x y):=by
 have F:=ip (t:=x.1 * y.2+y.1 * x.2) (b:=x.2 * y.2) (ae7 h.2 k.2)
 refine ⟨?_,F.pos⟩
 have c:=F.jT
 have hx:=h.1
 have hy:=k.1
 have pp:0<x.2 * y.2:=ae7 h.2 k.2
 show (Mth.nf (x.1 * y.2+y.1 * x.2) (x.2 * y.2)).1 * W=(a+b) * (Mth.nf (x.1 * y.2+y.1 * x.2) (x.2 * y.2)).2
 generalize (Mth.nf (x.1 * y.2+y.1 * x.2) (x.2 * y.2)).1=q at c ⊢
 generalize (Mth.nf (x.1 * y.2+y.1 * x.2) (x.2 * y.2)).2=r at c ⊢
 refine aiK (ann pp) ?_
 have e1:x.1 * y.2 * W=a * (x.2 * y.2):=by rw [ada,hx,ahp]
 have e2:y.1 * x.2 * W=b * (x.2 * y.2):=by rw [ada,hy,ahp,an2 y.2]
 calc q * W * (x.2 * y.2)=(q * (x.2 * y.2)) * W:=by rw [ada]
   _=(x.1 * y.2+y.1 * x.2) * r * W:=by rw [c]
   _=((x.1 * y.2+y.1 * x.2) * W) * r:=by rw [ada]
   _=(a * (x.2 * y.2)+b * (x.2 * y.2)) * r:=by rw [Int.add_mul,e1,e2]
   _=(a+b) * r * (x.2 * y.2):=by rw [← Int.add_mul,ada]
theorem Ov.under {W a b:Int} {x y:Int×Int} (hW:0<W) (h:Ov W a x) (k:Ov W b y):bE x y=decide (a<b):=by
 unfold bE
 refine decide_eq_decide.mpr ?_
 have pp:0<x.2 * y.2:=ae7 h.2 k.2
 have e1:x.1 * y.2 * W=a * (x.2 * y.2):=by rw [ada,h.1,ahp]
 have e2:y.1 * x.2 * W=b * (x.2 * y.2):=by rw [ada,k.1,ahp,an2 y.2]
 constructor
 .
  intro l
  have:=akG l hW
  rw [e1,e2] at this
  exact alH this (ajz pp)
 .
  intro l
  have:=akG l pp
  rw [← e1,← e2] at this
  exact alH this (ajz hW)
end Mth
namespace L2
open PySem PySem.Spec PyProof.Rows Mth
variable {H:Hp} {elts:List Expr} {i x1:Nat} {l:List Int} {ta:TA} {tm:aw} {qy:Pos}
def sumF (fl:Nat->Nat->Int) (i:Nat):Nat->Int
 | 0=>0
 | t+1=>sumF fl i t+fl i t
structure gQ (W:Int) (sk:Nat->Int) (fl:Nat->Nat->Int) (m:ap):Prop where
 dE:∀ i,Ov W (sk i) (m.eV i)
 fo:∀ i j,Ov W (fl i j) (m.fo i j)
theorem gQ.gj {W:Int} {sk:Nat->Int} {fl:Nat->Nat->Int} {m:ap} (h:gQ W sk fl m) (i:Nat):∀ t,Ov W (W - sk i - sumF fl i t) (m.gj i t)
 | 0=>by
   have:=(Ho (W:=W)).minus (h.dE i)
   have e:W - sk i - sumF fl i 0=W - sk i:=by show W - sk i - 0=_;lia
   rw [e]
   exact this
 | t+1=>by
   rw [ap.ku]
   have:=(h.gj i t).minus (h.fo i t)
   have e:W - sk i - sumF fl i (t+1)=W - sk i - sumF fl i t - fl i t:=by show W - sk i - (sumF fl i t+fl i t)=_;lia
   rw [e]
   exact this
theorem gQ.own {W:Int} {sk:Nat->Int} {fl:Nat->Nat->Int} {m:ap} (h:gQ W sk fl m) (i:Nat):Ov W (W - sk i - sumF fl i m.rows.length) (m.own i):=h.gj i _
theorem gQ.rq {W k:Int} {sk:Nat->Int} {fl:Nat->Nat->Int} {m:ap} {f:cg} (hW:0<W) (h:gQ W sk fl m) (hf:Ov W k f) (le:k<=W - sumF fl i m.rows.length):bE (lq (m.own i) (m.eV i)) f=false:=by
 rw [((h.own i).plus (h.dE i)).under hW hf]
 exact abC (by lia)
theorem gQ.lB {W k:Int} {sk:Nat->Int} {fl:Nat->Nat->Int} {m:ap} {f:cg} {j:Nat} (hW:0<W) (h:gQ W sk fl m) (hf:Ov W k f) (le:k<=W - sk i - sumF fl i m.rows.length+fl i j):bE (lq (m.own i) (m.fo i j)) f=false:=by
 rw [((h.own i).plus (h.fo i j)).under hW hf]
 exact abC (by lia)
theorem wx {m:ap} {j a b:Nat} {f:cg}:(m.dH i j f).fo a b=if a=i/\b=j then f else m.fo a b:=by
 unfold ap.fo ap.dH
 by_cases e:a=i/\b=j
 . rw [abl e]
   show ((if (a:Int)=(i:Int)/\(b:Int)=(j:Int) then some f else m.bI a b)).getD (0,1)=f
   rw [abl (by lia)];rfl
 . rw [aa8 e]
   show ((if (a:Int)=(i:Int)/\(b:Int)=(j:Int) then some f else m.bI a b)).getD (0,1)=_
   rw [aa8 (by lia)]
theorem gQ.dH {W k:Int} {sk:Nat->Int} {fl:Nat->Nat->Int} {m:ap} {f:cg} {j:Nat} (h:gQ W sk fl m) (hf:Ov W k f):gQ W sk (λ a b=>if a=i/\b=j then k else fl a b) (m.dH i j f):=by
 refine ⟨λ a=>h.dE a,λ a b=>?_⟩
 rw [wx]
 by_cases e:a=i/\b=j
 . simp only [abl e];exact hf
 . simp only [aa8 e];exact h.fo a b
theorem xT {m:ap} {a:Nat} {z:cg×cg×cg} (hi:i<m.bw.length):(m.e8 i z).eV a=if a=i then z.1 else m.eV a:=by
 unfold ap.eV ap.e8
 by_cases e:a=i
 .
  subst e
  rw [abl rfl]
  show (((m.bw.set a z)[a]?).map (·.1)).getD (0,1)=_
  rw [aiM hi];rfl
 . rw [aa8 e]
   show (((m.bw.set i z)[a]?).map (·.1)).getD (0,1)=_
   rw [agM (λ x=>e x.symm)]
theorem gQ.e8 {W k:Int} {sk:Nat->Int} {fl:Nat->Nat->Int} {m:ap} {z:cg×cg×cg} (h:gQ W sk fl m) (hi:i<m.bw.length) (hf:Ov W k z.1):gQ W (λ a=>if a=i then k else sk a) fl (m.e8 i z):=by
 refine ⟨λ a=>?_,λ a b=>h.fo a b⟩
 rw [xT hi]
 by_cases e:a=i
 . simp only [abl e];exact hf
 . simp only [aa8 e];exact h.dE a
theorem gQ.new {W:Int} {most iU load:Int}:gQ W (λ _=>0) (λ _ _=>0) (ap.new most iU load):=⟨λ _=>qW,λ _ _=>qW⟩
theorem gQ.ce {W:Int} {sk:Nat->Int} {fl:Nat->Nat->Int} {m:ap} {r:List cg} (h:gQ W sk fl m) (hs:∀ i,m.bw.length<=i->sk i=0):gQ W sk fl (m.ce r):=by
 refine ⟨λ a=>?_,λ a b=>h.fo a b⟩
 by_cases e:a<m.bw.length
 .
  have:(m.ce r).eV a=m.eV a:=by
    show (((m.bw++[((0,1),(0,1),(0,1))])[a]?).map (·.1)).getD (0,1)=((m.bw[a]?).map (·.1)).getD (0,1)
    rw [aeF e]
  rw [this]
  exact h.dE a
 .
  have:(m.ce r).eV a=(0,1):=by
    show (((m.bw++[((0,1),(0,1),(0,1))])[a]?).map (·.1)).getD (0,1)=(0,1)
    rw [aea (by lia)]
    cases q:a - m.bw.length with
    | zero=>rfl
    | succ n=>rfl
  rw [this,hs a (by lia)]
  exact qW
theorem gQ.eU {W:Int} {sk:Nat->Int} {fl:Nat->Nat->Int} {m:ap} {z:cg×Int×Int×Int} (h:gQ W sk fl m):gQ W sk fl (m.eU i z):=⟨λ a=>h.dE a,λ a b=>h.fo a b⟩
theorem Jw {fl:Nat->Nat->Int} {t:Int} {n:Nat} (hn:n<=4) (ht:0<=t) (h:∀ j,0<=fl i j/\fl i j<=t) (h0:fl i i=0) (hi:i<n):0<=sumF fl i n/\sumF fl i n<=3 * t:=by
 have a0:=h 0
 have a1:=h 1
 have a2:=h 2
 have a3:=h 3
 match n,hn with
 | 0,_=>lia
 | 1,_=>simp only [sumF];lia
 | 2,_=>simp only [sumF];lia
 | 3,_=>simp only [sumF];lia
 | 4,_ =>
   have:i=0∨i=1∨i=2∨i=3:=by lia
   rcases this with rfl|rfl|rfl|rfl<;>simp only [sumF]<;>lia
def aw.row (tm:aw) (l:List Int):List cg:=l.map λ x=>aZ x 1 tm.scale
def aw.m1 (tm:aw) (k:Nat):ap:=((tm.marks.take k).map tm.row).foldl ap.ce (ap.new tm.bounds.1 tm.bounds.2.1 tm.bounds.2.2)
def aw.nT (tm:aw) (z:Int×Int×Int):cg×cg×cg:=(nf z.1 12,aZ z.2.1 1 tm.scale,aZ z.2.2 1 tm.scale)
def aw.jw (tm:aw) (z:Int×Int×Int×Int):cg×Int×Int×Int:=(nf (z.1 * tm.scale.a) tm.scale.b,z.2.1,z.2.2.1,z.2.2.2)
def aw.gi (tm:aw) (m:ap) (i:Nat):ap:=match tm.dE[i]? with|some z=>m.e8 i (tm.nT z)|none=>m
def aw.b8 (tm:aw) (m:ap) (i:Nat):ap:=match tm.aF[i]? with|some (some z)=>m.eU i (tm.jw z)|_=>m
def aw.gA (tm:aw) (i:Nat) (m:ap) (j:Nat):ap:=if j=i then m else match tm.bI i j with|some k=>m.dH i j (nf k 12)|none=>m
def aw.eJ (tm:aw) (i:Nat) (m:ap) (j:Nat):ap:=(List.range j).foldl (tm.gA i) m
def aw.oW (tm:aw) (n:Nat) (m:ap) (i:Nat):ap:=tm.eJ i (tm.b8 (tm.gi m i) i) n
def aw.m2 (tm:aw) (n k:Nat):ap:=(List.range k).foldl (tm.oW n) (tm.m1 n)
theorem aw.JA {k:Nat} (h:tm.marks[k]?=some l):tm.m1 (k+1)=(tm.m1 k).ce (tm.row l):=by
 unfold aw.m1
 rw [amE,h,YC,ai6];rfl
theorem aw.CI (tm:aw) (n k:Nat):tm.m2 n (k+1)=tm.oW n (tm.m2 n k) k:=by
 unfold aw.m2
 rw [aeA,ai6];rfl
theorem aw.oO (tm:aw) (i:Nat) (m:ap) (j:Nat):tm.eJ i m (j+1)=tm.gA i (tm.eJ i m j) j:=by
 unfold aw.eJ
 rw [aeA,ai6];rfl
theorem GD {n:Nat} {b:Nat} (hb:b=if n<=2 then 6 else 4) (hn:n<=4):∀ {rs:List (List cg)},(∀ r∈rs,1<=r.length/\r.length<=b+1)->rs.length<=n->0<=kG rs/\kG rs<=400:=by
 intro rs h hl
 have key:∀ (rs:List (List cg)) (p:Int),(∀ r∈rs,1<=r.length/\r.length<=b+1)->0<=p->0<=rs.foldl (λ p r=>p * ((r.length:Int) - 1)) p/\rs.foldl (λ p r=>p * ((r.length:Int) - 1)) p<=p * (b:Int) ^ rs.length:=by
   intro rs
   induction rs with
   | nil=>intro p _ hp;exact ⟨hp,by simp⟩
   | cons r rs ih =>
     intro p h hp
     have hr:=h r adY
     have p0:0<=p * ((r.length:Int) - 1):=aon hp (by lia)
     obtain ⟨a,c⟩:=ih (p * ((r.length:Int) - 1)) (λ x hx=>h x (abO _ hx)) p0
     refine ⟨a,apL c ?_⟩
     have bp:0<=(b:Int) ^ rs.length:=Int.pow_nonneg (by lia)
     have e:p * ((r.length:Int) - 1)<=p * (b:Int):=am3 (by lia) hp
     have:=Int.mul_le_mul_of_nonneg_right e bp
     have e3:p * (b:Int) ^ (r::rs).length=p * (b:Int) * (b:Int) ^ rs.length:=by rw [acq,Int.pow_succ,← ahp,ada]
     rw [e3]
     exact this
 obtain ⟨a,c⟩:=key rs 1 h (by decide)
 refine ⟨a,apL c ?_⟩
 rw [Int.one_mul]
 have hbn:(b:Int) ^ n<=400:=by
   subst hb
   match n,hn with
   | 0,_=>decide
   | 1,_=>decide
   | 2,_=>decide
   | 3,_=>decide
   | 4,_=>decide
 have EY:(1:Int)<=(b:Int):=by subst hb;split<;>lia
 have mono:∀ d k:Nat,(b:Int) ^ k<=(b:Int) ^ (k+d):=by
   intro d k
   induction d with
   | zero=>exact anq _
   | succ d ih =>
     refine apL ih ?_
     rw [← Nat.add_assoc,Int.pow_succ]
     have bp:0<=(b:Int) ^ (k+d):=Int.pow_nonneg (by lia)
     have:=am3 EY bp
     lia
 have:=mono (n - rs.length) rs.length
 rw [show rs.length+(n - rs.length)=n by lia] at this
 lia
theorem AK (ok:tm.scale.Ok) (h:oq l):rB (tm.row l)=true:=by
 unfold rB
 rw [anX]
 intro b hb
 obtain ⟨i,hi⟩:=List.mem_iff_getElem?.mp hb
 rw [apJ] at hi
 unfold aw.row at hi
 rw [aoS,RS,RS] at hi
 cases e1:l[i]? with
 | none=>rw [e1] at hi;simp at hi
 | some x =>
   cases e2:l[i+1]? with
   | none=>rw [e1,e2] at hi;simp at hi
   | some y =>
     rw [e1,e2] at hi
     have hi:bE (aZ x 1 tm.scale) (aZ y 1 tm.scale)=b:=by simpa using hi
     rw [← hi,ki ok (by decide)]
     exact abY (h i x y e1 e2)
theorem NJ {n:Nat} (ok:tm.scale.Ok) (h:vk n l):∀ f∈tm.row l,eA 100 f:=by
 intro f hf
 obtain ⟨x,hx,rfl⟩:=List.mem_map.mp hf
 have:=h.bd x hx
 exact (rf (n:=8) ok (by decide) (show x.natAbs<2 ^ 8 by lia) mT).mono (by decide)
theorem mL.keep {K:W.Frag} {C:Addr} {H0 H':Hp} {a:Addr} {fp pd:List Addr} {m':ap} (S:aB H0 H) (n:∀ b∈fp,H0 b=none) (D:mL K C H a fp m' H' pd):aB H0 H'/\∀ b∈pd,H0 b=none:=by
 refine ⟨λ b o h=>D.but b o (S b o h) λ q=>?_,λ b hb=>?_⟩
 . rw [n b q] at h;cases h
 . rcases D.own b hb with q|q
   . exact n b q
   . exact S.free q
structure Kp (m m':ap):Prop where
 rows:m'.rows=m.rows
 most:m'.most=m.most
 iU:m'.iU=m.iU
 load:m'.load=m.load
theorem Kp.refl (m:ap):Kp m m:=⟨rfl,rfl,rfl,rfl⟩
theorem Kp.trans {m m1 m2:ap} (a:Kp m m1) (b:Kp m1 m2):Kp m m2:=⟨b.rows.trans a.rows,b.most.trans a.most,b.iU.trans a.iU,b.load.trans a.load⟩
theorem vE {α:Type} {f:ap->α->ap} (h:∀ m x,Kp m (f m x)):∀ (l:List α) (m:ap),Kp m (l.foldl f m)
 | [],m => .refl m
 | x::l,m=>(h m x).trans (vE h l (f m x))
theorem MM (tm:aw) (m:ap) (i:Nat):Kp m (tm.gi m i):=by
 unfold aw.gi
 split
 . exact ⟨rfl,rfl,rfl,rfl⟩
 . exact .refl m
theorem Fv (tm:aw) (m:ap) (i:Nat):Kp m (tm.b8 m i):=by
 unfold aw.b8
 split
 . exact ⟨rfl,rfl,rfl,rfl⟩
 . exact .refl m
theorem Jn (tm:aw) (i:Nat) (m:ap) (j:Nat):Kp m (tm.gA i m j):=by
 unfold aw.gA
 split
 . exact .refl m
 . split
   . exact ⟨rfl,rfl,rfl,rfl⟩
   . exact .refl m
theorem IJ (tm:aw) (n:Nat) (m:ap) (i:Nat):Kp m (tm.oW n m i) :=
 ((MM tm m i).trans (Fv tm _ i)).trans (vE (Jn tm i) _ _)
theorem QQ (tm:aw) (n k:Nat):Kp (tm.m1 n) (tm.m2 n k):=vE (IJ tm n) _ _
theorem zP:∀ (rs:List (List cg)) (m:ap),(rs.foldl ap.ce m).rows=m.rows++rs/\(rs.foldl ap.ce m).most=m.most/\(rs.foldl ap.ce m).iU=m.iU/\(rs.foldl ap.ce m).load=m.load
 | [],m=>⟨by simp,rfl,rfl,rfl⟩
 | r::rs,m=>by
   obtain ⟨a,b,c,d⟩:=zP rs (m.ce r)
   refine ⟨?_,b,c,d⟩
   show (rs.foldl ap.ce (m.ce r)).rows=_
   rw [a]
   show (m.rows++[r])++rs=_
   simp
theorem dh (tm:aw) (n k:Nat):(tm.m2 n k).rows=(tm.marks.take n).map tm.row/\(tm.m2 n k).most=tm.bounds.1/\(tm.m2 n k).iU=tm.bounds.2.1/\(tm.m2 n k).load=tm.bounds.2.2:=by
 have q:=QQ tm n k
 obtain ⟨a,b,c,d⟩:=zP ((tm.marks.take n).map tm.row) (ap.new tm.bounds.1 tm.bounds.2.1 tm.bounds.2.2)
 exact ⟨q.rows.trans a,q.most.trans b,q.iU.trans c,q.load.trans d⟩
theorem c9 {K:W.Frag}:∀ {l:List Int} {ws:List V},cf K H (l.map PyData.int) ws->ws=l.map V.int
 | [],_,h=>h
 | x::l,_,h=>by
   obtain ⟨y,r,rfl,e,t⟩:=h
   have e:y = .int x:=e
   rw [e,c9 t];rfl
theorem mE {α:Type} (l:List α) (g:α->cg):∀ d∈l.map (λ x=>ek (g x)),fu d=true:=λ d hd=>by
 obtain ⟨x,_,rfl⟩:=List.mem_map.mp hd
 exact gT _
theorem KP {n:Nat} (ok:tm.Ok n n):∀ r∈tm.marks.map tm.row,1<=r.length/\r.length<=(if n<=2 then 6 else 4)+1:=by
 intro r hr
 obtain ⟨l,hl,rfl⟩:=List.mem_map.mp hr
 have:=ok.rows l hl
 have h1:=this.two
 have h2:=this.most
 unfold aw.row
 rw [At]
 split at h2<;>rename_i hc<;>simp only [hc,anK,aoe]<;>lia
theorem Ov.nonneg {W k:Int} {f:cg} (hW:0<W) (h:Ov W k f) (hk:0<=k):0<=f.1:=by
 have e:=h.1
 have:0<=f.1 * W:=by rw [e];exact aon hk (ajz h.2)
 exact Int.nonneg_of_mul_nonneg_left this hW
theorem Fj {t b:Int} (hb:0<b) (h1:Bd 100 t) (h2:Bd 100 b):eA 100 (nf t b):=by
 have F:=ip (t:=t) hb
 exact ⟨F.YE h1,F.Ys h2,F.pos⟩
theorem HN {u:Addr} {t b q r:Int} {K:W.Frag} (hb:0<b) (F:Fr t b q r) (hu:H u=some (.tup [.int q,.int r])):Dn K H (ek (nf t b)) (.ref u):=by
 have e:=F.nf hb
 have e1:q=(nf t b).1:=amX Prod.fst e
 have e2:r=(nf t b).2:=amX Prod.snd e
 rw [e1,e2] at hu
 exact hV (bS.of hu)
theorem Mp {W:Int} {tm:aw}:∀ (ls:List (List cg)) (m:ap),gQ W (λ _=>0) (λ _ _=>0) m->gQ W (λ _=>0) (λ _ _=>0) (ls.foldl ap.ce m)
 | [],_,h=>h
 | _::ls,_,h=>Mp (tm:=tm) ls _ (h.ce λ _ _=>rfl)
theorem aw.WB {W:Int} (tm:aw) (k:Nat):gQ W (λ _=>0) (λ _ _=>0) (tm.m1 k):=Mp (tm:=tm) _ _ gQ.new
structure SF (sk:Nat->Int) (fl:Nat->Nat->Int):Prop where
 Ia:∀ a,0<=sk a/\sk a<=3
 Cv:∀ a b,0<=fl a b/\fl a b<=3
 Ko:∀ a,fl a a=0
def Tw (m:ap):Prop:=∃ sk fl,gQ 12 sk fl m/\SF sk fl
theorem Tw.dE {m:ap} {z:cg×cg×cg} {k:Int} (h:Tw m) (hi:i<m.bw.length) (hf:Ov 12 k z.1) (k0:0<=k) (k3:k<=3):Tw (m.e8 i z):=by
 obtain ⟨sk,fl,S,F⟩:=h
 refine ⟨_,_,S.e8 hi hf,⟨λ a=>?_,F.Cv,F.Ko⟩⟩
 show 0<=(if a=i then k else sk a)/\(if a=i then k else sk a)<=3
 split
 . exact ⟨k0,k3⟩
 . exact F.Ia a
theorem Tw.fo {m:ap} {j:Nat} {f:cg} {k:Int} (h:Tw m) (uW:i≠j) (hf:Ov 12 k f) (k0:0<=k) (k3:k<=3):Tw (m.dH i j f):=by
 obtain ⟨sk,fl,S,F⟩:=h
 refine ⟨_,_,S.dH hf,⟨F.Ia,λ a b=>?_,λ a=>?_⟩⟩
 .
  show 0<=(if a=i/\b=j then k else fl a b)/\(if a=i/\b=j then k else fl a b)<=3
  split
  . exact ⟨k0,k3⟩
  . exact F.Cv a b
 . show (if a=i/\a=j then k else fl a a)=0
   rw [aa8 (by lia)]
   exact F.Ko a
theorem Tw.i3 {m:ap} {z:cg×Int×Int×Int} (h:Tw m):Tw (m.eU i z):=by
 obtain ⟨sk,fl,S,F⟩:=h
 exact ⟨sk,fl,S.eU,F⟩
theorem Tw.rq {m:ap} {f:cg} {k:Int} (h:Tw m) (hi:i<m.rows.length) (h4:m.rows.length<=4) (hf:Ov 12 k f) (k3:k<=3):bE (lq (m.own i) (m.eV i)) f=false:=by
 obtain ⟨sk,fl,S,F⟩:=h
 have:=Jw h4 (t:=3) (by decide) (F.Cv i) (F.Ko i) hi
 exact S.rq (by decide) hf (by lia)
theorem FV {fl:Nat->Nat->Int} {j n:Nat} (hn:n<=4) (h:∀ b,0<=fl i b/\fl i b<=3) (h0:fl i i=0) (hi:i<n) (hj:j<n) (uW:i≠j):sumF fl i n - fl i j<=6:=by
 have a0:=h 0
 have a1:=h 1
 have a2:=h 2
 have a3:=h 3
 have ci:i=0∨i=1∨i=2∨i=3:=by lia
 have cj:j=0∨j=1∨j=2∨j=3:=by lia
 match n,hn with
 | 0,_=>lia
 | 1,_=>lia
 | 2,_=>rcases ci with rfl|rfl|rfl|rfl<;>rcases cj with rfl|rfl|rfl|rfl<;>simp only [sumF]<;>lia
 | 3,_=>rcases ci with rfl|rfl|rfl|rfl<;>rcases cj with rfl|rfl|rfl|rfl<;>simp only [sumF]<;>lia
 | 4,_=>rcases ci with rfl|rfl|rfl|rfl<;>rcases cj with rfl|rfl|rfl|rfl<;>simp only [sumF]<;>lia
theorem Tw.lB {m:ap} {j:Nat} {f:cg} {k:Int} (h:Tw m) (hi:i<m.rows.length) (hj:j<m.rows.length) (uW:i≠j) (h4:m.rows.length<=4) (hf:Ov 12 k f) (k3:k<=3):bE (lq (m.own i) (m.fo i j)) f=false:=by
 obtain ⟨sk,fl,S,F⟩:=h
 have:=FV h4 (F.Cv i) (F.Ko i) hi hj uW
 have:=F.Ia i
 exact S.lB (by decide) hf (by lia)
theorem Si {x:Int} (h:x.natAbs<2 ^ 100):eA 100 (x,1):=⟨h,MS.b,MS.p⟩
inductive Fy (K:W.Frag) (C:Addr) (vs:List V) (H:Hp) (Q:VK) (_E:XK):Prop
 | mk (p:_) (tm:aw) (n:Nat) (_:vs=[.ref p]) (_:fA K H p tm) (_:tm.Ok n n) (_:1<=n) (_:n<=4) (_:∀ a H' fp,aB H H'->aR K C H' a fp (tm.m2 n n)->(∀ b∈fp,H b=none)->(tm.m2 n n).rows.length=n->Tw (tm.m2 n n)->Q (.ref a) H')
def Ef:Nat->PyData->Prop
 | _,.none=>True
 | _,.bool _=>True
 | _,.int _=>True
 | n+1,.list ds=>∀ d∈ds,Ef n d
 | n+1,.tuple ds=>∀ d∈ds,Ef n d
 | _,_=>False
theorem we {n:Nat} (h:∀ d,Ef n d->PyData.eqv d d=true/\d.canLay0=true/\d.depth<=n):∀ ds:List PyData,(∀ d∈ds,Ef n d)->PyData.eqvAll ds ds=true/\PyData.canLayAll0 ds=true/\PyData.depthAll ds<=n
 | [],_=>by simp [PyData.eqvAll,PyData.canLayAll0,PyData.depthAll]
 | d::ds,k=>by
   obtain ⟨a,b,c⟩:=h d (k d adY)
   obtain ⟨a',b',c'⟩:=we h ds (λ e he=>k e (abO _ he))
   simp only [PyData.eqvAll,PyData.canLayAll0,PyData.depthAll,a,b,a',b',Bool.and_self,apW]
   lia
theorem oC:∀ (n:Nat) (d:PyData),Ef n d->PyData.eqv d d=true/\d.canLay0=true/\d.depth<=n
 | n,.none,_=>by simp [PyData.eqv,PyData.canLay0,PyData.depth]
 | n,.bool b,_=>by simp [PyData.eqv,PyData.canLay0,PyData.depth]
 | n,.int i,_=>by simp [PyData.eqv,PyData.canLay0,PyData.depth]
 | n+1,.list ds,h=>by
   obtain ⟨a,b,c⟩:=we (oC n) ds h
   simp only [PyData.eqv,PyData.canLay0,PyData.depth,a,b,apW]
   lia
 | n+1,.tuple ds,h=>by
   obtain ⟨a,b,c⟩:=we (oC n) ds h
   simp only [PyData.eqv,PyData.canLay0,PyData.depth,a,b,apW]
   lia
 | 0,.list _,h=>h.elim
 | 0,.tuple _,h=>h.elim
 | 0,.str _,h=>h.elim
 | _+1,.str _,h=>h.elim
 | 0,.dict _,h=>h.elim
 | _+1,.dict _,h=>h.elim
theorem gJ {n:Nat} {d:PyData} (h:Ef n d) (hn:n<=64):SeqAt.shaped d=true:=by
 obtain ⟨_,b,c⟩:=oC n d h
 unfold SeqAt.shaped
 rw [b,abY (afY c hn)];rfl
theorem FQ {n:Nat} {d:PyData} (h:Ef n d):PyData.eqv d d=true:=(oC n d h).1
theorem Gw {K:W.Frag} {x y:V} {d:PyData} {n:Nat} {Q:VK} (hx:Dn K H d x) (hy:Dn K H d y) (p:Ef n d) (hn:n<=64) (q:Q (.bl false) H):MT K x y H Q :=
 ⟨d,d,hx,hy,gJ p hn,gJ p hn,by rw [FQ p];exact q⟩
theorem fe {X:Cx} {K:W.Frag} (h:X.K=K):Wr X (TH K):=by
 subst h
 exact au
section
variable {K:W.Frag} {C:Addr} {H H1 H':Hp} {a b:Addr} {fp pd OO L M:List Addr} {m m' mb:ap}
theorem mL.other (D:mL K C H a fp m' H' pd) (h:aR K C H b OO mb) (OQ:∀ c∈OO,c∉fp):aR K C H' b OO mb:=by
 obtain ⟨⟨dx,pm,pf,ps,pt,vm,vs,vt,aN,rfl,ha,iM,dI,gX,ft,c8,n1,n2,n3,dm,ds,dt,df,fk⟩,q1,q2,q3,q4⟩:=h
 have g:∀ {c o},H c=some o->c∈[b,dx,pm,pf,ps,pt]->H' c=some o:=λ e hc=>D.but _ _ e (OQ _ hc)
 exact ⟨⟨dx,pm,pf,ps,pt,vm,vs,vt,aN,rfl,g ha (by simp),g iM (by simp),g dI (by simp),g gX (by simp),g ft (by simp),g c8 (by simp),n1,n2,n3,jf D.ts dm,h9 D.ts ds,gb D.ts dt,λ i j=>(df i j).ts D.ts,fk⟩,q1,q2,q3,q4⟩
end
theorem rL:∀ {ns:List Int} {bG:List Value},Vals (ns.map V.int) bG->∃ ys:List (Int×Tok),bG=ys.map (λ p=>Value.int p.1 p.2)/\ys.map (·.1)=ns
 | [],bG,r=>by cases r;exact ⟨[],rfl,rfl⟩
 | n::ns,bG,r=>by
   cases r with
   | cons a b =>
     obtain ⟨t,rfl⟩:=a
     obtain ⟨ys,rfl,e⟩:=rL b
     exact ⟨(n,t)::ys,rfl,by rw [aeC,e]⟩
section
variable {X:Cx}
theorem Dv (hc:X.calm=true):hZ X (.builtin "sum") (λ xs H Q=>∃ (p:Addr) (ns:List Int),xs=[.ref p]/\bg X.K H p (ns.map V.int)/\∀ r:Int,r=ns.sum->Q (.int r) H):=by
 intro pins s U H xs us Q I r h
 obtain ⟨p,ns,rfl,hq,q⟩:=h
 obtain ⟨u,rfl,r1⟩:=vals1 r
 obtain rfl:u=Value.ref p:=r1
 obtain ⟨bG,rv,pl,_⟩:=I.list hq
 obtain ⟨ys,rfl,e⟩:=rL rv
 have hl:s.heap.IsList p (intItems ys.toArray):=by have:=pl.isList;simpa [intItems] using this
 refine sum_intListG (I.ok.hd hc) hl λ h' tk t' hk=>?_
 refine ⟨.int _,H,I.kept hk,⟨t',rfl⟩,q _ ?_⟩
 rw [preSum_eq,List.take_of_length_le (by simp),← e]
end
theorem Nz:bootBuiltins "min" = some (.builtin "min"):=by decide +kernel
theorem Gp:bootBuiltins "max" = some (.builtin "max"):=by decide +kernel
theorem OH:bootBuiltins "sum" = some (.builtin "sum"):=by decide +kernel
theorem j9:bootBuiltins "enumerate" = some (.type "enumerate"):=by decide +kernel
def mf (r:List cg) (f g:cg) (b:Nat):Bool:=(!bE g (r.getD b (0,1))) && !bE (r.getD (b+1) (0,1)) f
def kS (r:List cg) (f g:cg) (n:Nat):List Nat:=(List.range n).filter (mf r f g)
def fV (r:List cg) (f g:cg):List Nat:=kS r f g (r.length - 1)
theorem ka (r:List cg) (f g:cg) (n:Nat):kS r f g (n+1)=kS r f g n++if mf r f g n then [n] else []:=by
 unfold kS
 rw [aeA,ag3]
 cases h:mf r f g n<;>simp [List.filter,h]
theorem zl (r:List cg) (f g:cg) (n:Nat):(kS r f g n).length<=n:=by
 have:=ae9 (mf r f g) (List.range n)
 rw [acT] at this
 exact this
inductive AC (K:W.Frag) (C:Addr) (vs:List V) (H:Hp) (Q:VK) (_E:XK):Prop
 | mk (a fp m:_) (i:Nat) (r v1 v2 f g:_) (_:vs=[.ref a,aq i,v1,v2]) (_:aR K C H a fp m) (_:m.rows[i]?=some r) (_:Dn K H (ek f) v1) (_:Dn K H (ek g) v2) (_:eA 1000 f) (_:eA 1000 g) (_:∀ p H',aB H H'->H' p=some (.lst ((fV r f g).map aq))->Q (.ref p) H')
theorem p6 {x y p q:Int} {s:vY} (h:s.Ok) (hp:0<p) (hq:0<q):bE (aZ x p s) (aZ y q s)=decide (x * q<y * p):=by
 have F:=ip (t:=cF x p s) (d7 h hp)
 have G:=ip (t:=cF y q s) (d7 h hq)
 have hB:=d7 h hp
 have hC:=d7 h hq
 have c1:(aZ x p s).1 * ck p s=cF x p s * (aZ x p s).2:=F.jT
 have c2:(aZ y q s).1 * ck q s=cF y q s * (aZ y q s).2:=G.jT
 have p1:0<(aZ x p s).2:=F.pos
 have p2:0<(aZ y q s).2:=G.pos
 unfold bE
 rw [decide_eq_decide]
 generalize (aZ x p s).1=q1 at c1 ⊢
 generalize (aZ x p s).2=r1 at c1 p1 ⊢
 generalize (aZ y q s).1=q2 at c2 ⊢
 generalize (aZ y q s).2=r2 at c2 p2 ⊢
 have hu:0<ck p s * ck q s:=ae7 hB hC
 have hv:0<r1 * r2:=ae7 p1 p2
 have e1:(q1 * r2) * (ck p s * ck q s)=(cF x p s * ck q s) * (r1 * r2):=by
   have:(q1 * r2) * (ck p s * ck q s)=(q1 * ck p s) * (r2 * ck q s):=by grind
   rw [this,c1];grind
 have e2:(q2 * r1) * (ck p s * ck q s)=(cF y q s * ck p s) * (r1 * r2):=by
   have:(q2 * r1) * (ck p s * ck q s)=(q2 * ck q s) * (r1 * ck p s):=by grind
   rw [this,c2];grind
 have s1:q1 * r2<q2 * r1↔cF x p s * ck q s<cF y q s * ck p s:=by
   rw [← aoI hu,e1,e2,aoI hv]
 rw [s1]
 have a0:=h.a0
 have b0:=h.b0
 have d0:=h.d0
 have hw:0<s.a * s.d * s.b * s.d:=ae7 (ae7 (ae7 (by lia) (by lia)) (by lia)) (by lia)
 have e3:cF x p s * ck q s=(x * q) * (s.a * s.d * s.b * s.d)+p * q * s.t * s.b * s.b * s.d:=by unfold cF ck;grind
 have e4:cF y q s * ck p s=(y * p) * (s.a * s.d * s.b * s.d)+p * q * s.t * s.b * s.b * s.d:=by unfold cF ck;grind
 rw [e3,e4,Int.add_lt_add_iff_right,aoI hw]
def pH (n:Nat):PyData:=.int (n:Int)
theorem lT {K:W.Frag}:∀ l:List Nat,cf K H (l.map pH) (l.map aq)
 | []=>ic
 | n::l=>bU rfl (lT l)
theorem Cu {K:W.Frag} {p:Addr} {l:List Nat} (h:bg K H p (l.map aq)):Dn K H (.list (l.map pH)) (.ref p):=BB h (lT l)
theorem Db {n:Nat} {l:List Nat}:Ef (n+1) (.list (l.map pH)):=by
 intro d hd
 obtain ⟨i,_,rfl⟩:=List.mem_map.mp hd
 cases n<;>exact trivial
theorem NL:([]:List V).length<=sizeLine:=afh _
def JZ (ns:List Int) (lo hi:Option Int):List Int:=(ns.drop (HT.t9 ns.length 0 lo)).take (HT.t9 ns.length ns.length hi - HT.t9 ns.length 0 lo)
theorem Ed (ns:List Int) (lo hi:Option Int):pR (ns.map V.int) lo hi=(JZ ns lo hi).map V.int:=by
 unfold pR JZ
 rw [At,← List.map_drop,← List.map_take]
theorem uL:∀ (rs:List (List cg)) (m:ap),(rs.foldl ap.ce m).bw=m.bw++List.replicate rs.length ((0,1),(0,1),(0,1))/\(rs.foldl ap.ce m).aF=m.aF++List.replicate rs.length none/\(rs.foldl ap.ce m).bI=m.bI
 | [],m=>⟨by simp,by simp,rfl⟩
 | r::rs,m=>by
   obtain ⟨a,b,c⟩:=uL rs (m.ce r)
   refine ⟨?_,?_,c⟩
   . show (rs.foldl ap.ce (m.ce r)).bw=_
     rw [a]
     show (m.bw++[((0,1),(0,1),(0,1))])++_=_
     rw [aoU,acq,apT];rfl
   . show (rs.foldl ap.ce (m.ce r)).aF=_
     rw [b]
     show (m.aF++[none])++_=_
     rw [aoU,acq,apT];rfl
theorem nU (tm:aw) (i:Nat) (m:ap):∀ j,(tm.eJ i m j).bw=m.bw/\(tm.eJ i m j).aF=m.aF/\∀ a b:Int,(tm.eJ i m j).bI a b=if a=(i:Int)/\0<=b/\b<j/\b≠i then (match tm.bI i b.toNat with|some k=>some (nf k 12)|none=>m.bI a b) else m.bI a b
 | 0=>by
   refine ⟨rfl,rfl,λ a b=>?_⟩
   rw [aa8 (by lia)];rfl
 | j+1=>by
   obtain ⟨h1,h2,h3⟩:=nU tm i m j
   rw [aw.oO]
   unfold aw.gA
   by_cases e:j=i
   .
    rw [abl e]
    refine ⟨h1,h2,λ a b=>?_⟩
    rw [h3]
    by_cases c:a=(i:Int)/\0<=b/\b<(j:Int)/\b≠i
    . rw [abl c,abl (by lia)]
    . rw [aa8 c,aa8 (by lia)]
   .
    rw [aa8 e]
    cases hf:tm.bI i j with
    | none =>
      refine ⟨h1,h2,λ a b=>?_⟩
      show (tm.eJ i m j).bI a b=_
      rw [h3]
      by_cases c:a=(i:Int)/\0<=b/\b<(j:Int)/\b≠i
      . rw [abl c,abl (by lia)]
      . rw [aa8 c]
        by_cases d:a=(i:Int)/\0<=b/\b<((j+1:Nat):Int)/\b≠i
        . rw [abl d]
          have:b.toNat=j:=by lia
          rw [this,hf]
        . rw [aa8 d]
    | some k =>
      refine ⟨h1,h2,λ a b=>?_⟩
      show (if a=(i:Int)/\b=(j:Int) then some (nf k 12) else (tm.eJ i m j).bI a b)=_
      by_cases c:a=(i:Int)/\b=(j:Int)
      . rw [abl c,abl (by lia)]
        have:b.toNat=j:=by lia
        rw [this,hf]
      . rw [aa8 c,h3]
        by_cases d:a=(i:Int)/\0<=b/\b<(j:Int)/\b≠i
        . rw [abl d,abl (by lia)]
        . rw [aa8 d,aa8 (by lia)]
theorem jV {n:Nat} (ok:tm.Ok n n):∀ k,k<=n ->
   (∀ i,i<k->(tm.m2 n k).bw[i]?=(tm.dE[i]?).map tm.nT)/\(tm.m2 n k).bw.length=n /\
   (∀ i,i<k->(tm.m2 n k).aF[i]?=(tm.aF[i]?).map λ z=>z.map tm.jw)/\(∀ i,k<=i->i<n->(tm.m2 n k).aF[i]?=some none)/\(tm.m2 n k).aF.length=n /\
   (∀ a b:Nat,a<k->b<n->a≠b->(tm.m2 n k).bI a b=(tm.bI a b).map λ x=>nf x 12) /\
   (∀ a:Nat,(tm.m2 n k).bI a a=none):=by
 intro k
 induction k with
 | zero =>
   intro _
   obtain ⟨a,b,c⟩:=uL ((tm.marks.take n).map tm.row) (ap.new tm.bounds.1 tm.bounds.2.1 tm.bounds.2.2)
   have hl:((tm.marks.take n).map tm.row).length=n:=by rw [At,abX,ok.lm];lia
   rw [hl] at a b
   have a':(tm.m2 n 0).bw=List.replicate n ((0,1),(0,1),(0,1)):=a
   have b':(tm.m2 n 0).aF=List.replicate n none:=b
   have c':(tm.m2 n 0).bI=λ _ _=>none:=c
   refine ⟨nofun,by rw [a',amv],nofun,λ i _ hi=>?_,by rw [b',amv],nofun,λ _=>by rw [c']⟩
   rw [b',aos,abl hi]
 | succ k ih =>
   intro hk
   obtain ⟨s1,s2,t1,t2,t3,f1,f2⟩:=ih (by lia)
   have hks:k<tm.dE.length:=by rw [ok.ls];lia
   have Yh:k<tm.aF.length:=by rw [ok.lt];lia
   rw [aw.CI]
   generalize tm.m2 n k=m at s1 s2 t1 t2 t3 f1 f2
   have e1:tm.gi m k=m.e8 k (tm.nT tm.dE[k]):=by unfold aw.gi;rw [av hks]
   unfold aw.oW
   rw [e1]
   obtain ⟨g1,g2,g3⟩:=nU tm k (tm.b8 (m.e8 k (tm.nT tm.dE[k])) k) n
   have Ia:(tm.b8 (m.e8 k (tm.nT tm.dE[k])) k).bw=m.bw.set k (tm.nT tm.dE[k]):=by
     unfold aw.b8
     split<;>rfl
   have Cv:(tm.b8 (m.e8 k (tm.nT tm.dE[k])) k).bI=m.bI:=by
     unfold aw.b8
     split<;>rfl
   have gE:(tm.b8 (m.e8 k (tm.nT tm.dE[k])) k).aF=m.aF.set k (tm.aF[k].map tm.jw):=by
     unfold aw.b8
     rw [av Yh]
     cases tm.aF[k] with
     | some z=>rfl
     | none =>
       show m.aF=m.aF.set k none
       have h0:=t2 k (aar _) (by lia)
       obtain ⟨hl,he⟩:=List.getElem?_eq_some_iff.mp h0
       rw [← he,List.set_getElem_self]
   rw [g1,g2,Ia,gE]
   refine ⟨λ i hi=>?_,by rw [ah1];exact s2,λ i hi=>?_,λ i hi hn=>?_,by rw [ah1];exact t3,λ a b ha hb EZ=>?_,λ a=>?_⟩
   . by_cases e:i=k
     . subst e
       rw [aiM (by lia),av hks];rfl
     . rw [agM (by lia)];exact s1 i (by lia)
   . by_cases e:i=k
     . subst e
       rw [aiM (by lia),av Yh];rfl
     . rw [agM (by lia)];exact t1 i (by lia)
   . rw [agM (by lia)];exact t2 i (by lia) hn
   .
    rw [g3,Cv]
    by_cases e:a=k
    . subst e
      rw [abl (by lia)]
      obtain ⟨x,hx,_⟩:=ok.bI a b (by lia) hb EZ
      have:((b:Int)).toNat=b:=by lia
      rw [this,hx];rfl
    . rw [aa8 (by lia)]
      exact f1 a b (by lia) hb EZ
   . rw [g3,Cv]
     rw [aa8 (by lia)]
     exact f2 a
section
variable {P:Program} {w:World} {A:Around} {E:Value->Shared->Prop} {s:Shared}
theorem BO {j a:Addr} {bG:Array Value} {x:Value} {Q:Value->Shared->Prop} (hj:s.heap.IsTupleIter j a i) (ha:s.heap.IsTuple a bG) (hx:bG[i]?=some x) (k:∀ h',h'.IsTupleIter j a (i+1)->Heap.SameBut j s.heap h'->Q x { s with heap:=h' }):wpAny (model P w) A (Builtin.SmallTypes.nextOf (.ref j)) Q E s:=by
 obtain ⟨oj,ej,cj,dj⟩:=id hj
 obtain ⟨oa,ea,_,na,da⟩:=ha
 unfold Builtin.SmallTypes.nextOf
 refine T1 (wpAny_callSpecial?_slot (name:=Str.ofString "__next__") hj.typeIs an3 (wpAny_call_entry an3 hj.typeIs apM ?_ (apD _)))
 refine T1 (m:=field (.ref j) 0) (apF ej dj (x:=.ref a) rfl ?_)
 have nn:¬ ((Value.ref a == Value.none)=true):=aaR
 show wpAny _ _ (if (Value.ref a == Value.none)=true then _ else _) _ _ s
 rw [aa8 nn]
 refine T1 (m:=field (.ref j) 1) (apF ej dj (x:=.int i 0) rfl ?_)
 refine T1 (m:=seqItems? (.ref a)) (wpAny_seqItems ea da ?_)
 simp only [aff,hx]
 refine T1 (wpAny_setField ej dj (by simp) (abF ⟨x,rfl,abF (k _ ⟨_,anU _ ej (Obj.isFreed_of_fields (Obj.data_mapFields dj _)),(Obj.cls_mapFields ..).trans cj,?_⟩ (ao5 ..))⟩))
 rw [Obj.data_mapFields dj]
 simp [rawInt]
theorem DL {j a:Addr} {bG:Array Value} {Q:Value->Shared->Prop} (hh:A.handled=none) (hj:s.heap.IsTupleIter j a i) (ha:s.heap.IsTuple a bG) (hx:bG[i]?=none) (k:∀ h' e,Heap.ExtBut j s.heap h'->(∃ o,h'.get? e=some o/\o.cls = .type "StopIteration")->E (.ref e) { s with heap:=h' }):wpAny (model P w) A (Builtin.SmallTypes.nextOf (.ref j)) Q E s:=by
 obtain ⟨oj,ej,cj,dj⟩:=id hj
 obtain ⟨oa,ea,_,na,da⟩:=ha
 unfold Builtin.SmallTypes.nextOf
 refine T1 (wpAny_callSpecial?_slot (name:=Str.ofString "__next__") hj.typeIs an3 (wpAny_call_entry an3 hj.typeIs apM ?_ (apD _)))
 refine T1 (m:=field (.ref j) 0) (apF ej dj (x:=.ref a) rfl ?_)
 have nn:¬ ((Value.ref a == Value.none)=true):=aaR
 show wpAny _ _ (if (Value.ref a == Value.none)=true then _ else _) _ _ s
 rw [aa8 nn]
 refine T1 (m:=field (.ref j) 1) (apF ej dj (x:=.int i 0) rfl ?_)
 refine T1 (m:=seqItems? (.ref a)) (wpAny_seqItems ea da ?_)
 simp only [aff,hx]
 refine T1 (wpAny_rule (T1 (wpAny_setField ej dj (by simp) (T1 (m:=newExc (.type "StopIteration") []) ?_))))
 simp only [newExc,newTuple]
 refine T1 (apj (T1 (m:=firstArgMember _ _) (aoa (a:=Value.none) (by first|rfl|(simp only [firstArgMember];rfl)) (apj ?_ (by size_fits)))) (by size_fits))
 simp only [raiseNew]
 refine T1 (wpAny_handled ?_)
 have h1:A.in1.handled=none:=hh
 first|rw [h1]|rw [hh]
 exact T1 (abF (wpAny_throw (k _ _ (((ao5 ..).extBut.push _).push _) ⟨_,adt _ rfl,rfl⟩)))
end
theorem Fq {P:Program} {w:World} {A:Around} (hh:A.handled=none) (j a:Addr) (ne:a≠j) (bG:Array Value):Draws P w A j [j,a] bG.size (λ i v=>bG[i]?=some v) (λ i h=>h.IsTupleIter j a i/\h.IsTuple a bG) where
 live:=λ _ _ st=>by
   obtain ⟨⟨o,e,_⟩,_⟩:=st
   exact ⟨o,e⟩
 frame:=λ _ _ _ st k=>by
   obtain ⟨h1,oa,ea,r⟩:=st
   exact ⟨h1.at λ o e=>k j (by simp) o e,oa,k a (by simp) oa ea,r⟩
 item:=λ i s Q E hi st q=>BO st.1 st.2 (x:=bG[i]) (by simp [hi]) λ h' h1 sb=>q _ h' s.toks (by simp [hi]) ⟨h1,st.2.extBut sb.extBut ne⟩ sb
 done:=λ s Q E st q=>DL hh st.1 st.2 (by simp) q
set_option maxHeartbeats 1000000 in
theorem EL (a:Addr) (ob:Obj) (bG:Array Value) (n:Nat) (hc:ob.cls = .type "tuple") (hd:ob.data = .seq bG n) :
   Meets (Builtin.«enumerate.__new__» ⟨[.type "enumerate",.ref a],[]⟩) (λ _ R s=>s.heap.get? a=some ob/\R (.ok (.ret (.ref (s.heap.push { cls:=.type "tuple_iterator",data:=.fields #[.ref a,.int 0 0]}).objs.size)))
     { s with heap:=(s.heap.push { cls:=.type "tuple_iterator",data:=.fields #[.ref a,.int 0 0]}).push { cls:=.type "enumerate",data:=.fields #[.none,.bool false,.ref s.heap.objs.size,rawInt 0,.none,.none]}}):=by
 obtain ⟨cl,dc,dt,sl⟩:=ob
 obtain rfl:cl = .type "tuple":=hc
 obtain rfl:dt = .seq bG n:=hd
 refine .of_wp λ P w A R s q=>?_
 obtain ⟨hh,gg,dd,tt,oo⟩:=s
 obtain ⟨hl,q⟩:=q
 have DQ:=sub_enumerate
 have hT:Heap.IsTuple (Shared.heap ⟨hh,gg,dd,tt,oo⟩) a bG:=⟨_,hl,rfl,n,rfl⟩
 wp_walk using aoH hl
 refine wpAny_stack_any λ st=>abF ?_
 split
 . rename_i c _ _ _ _ _
   cases (c == Value.type "enumerate")<;>(wp_walk using aoH hl,wpAny_pyIter_tuple hT;exact ⟨_,rfl,q⟩)
 . wp_walk using aoH hl,wpAny_pyIter_tuple hT
   exact ⟨_,rfl,q⟩
section
variable {P:Program} {w:World} {A:Around} {E:Value->Shared->Prop} {s:Shared}
theorem sM {a:Addr} {bG:Array Value} {Q:Value->Shared->Prop} (hT:s.heap.IsTuple a bG) (k:∀ h',IsEnum h' (s.heap.objs.size+1) s.heap.objs.size 0 .none->h'.IsTupleIter s.heap.objs.size a 0->(∀ b o,s.heap.get? b=some o->h'.get? b=some o)->Q (.ref (s.heap.objs.size+1)) { s with heap:=h' }) :
   wpAny (model P w) A (call (.type "enumerate") [.ref a]) Q E s:=by
 obtain ⟨ob,e,hc,n,hd⟩:=hT
 refine callType_new F.called_enumerate (by decide) (F.typeCall_enumerate_1 _) (F.newCall_enumerate_1 _) (λ obj=>F.args_object_init_2 obj _) F.entry_enumerate_new (EL a ob bG n hc hd) ⟨e,?_⟩
 have hz:(s.heap.push { cls:=.type "tuple_iterator",data:=.fields #[.ref a,.int 0 0]}).objs.size=s.heap.objs.size+1:=ao0 ..
 have hn:=adt (s.heap.push { cls:=.type "tuple_iterator",data:=.fields #[.ref a,.int 0 0]}) (o:={ cls:=.type "enumerate",data:=.fields #[.none,.bool false,.ref s.heap.objs.size,rawInt 0,.none,.none]}) rfl
 rw [hz] at hn
 show _/\_
 rw [hz]
 exact ⟨⟨_,hn,rfl⟩,k _ hn ⟨_,YM _ (adt _ rfl),rfl,rfl⟩ λ b o x=>YM _ (YM _ x)⟩
end
def KB (sq:Hp->Addr->List V->Prop) (a:Addr):It :=
 ⟨λ i H=>∃ xs x,sq H a xs/\xs[i]?=some x,
  λ i H v H'=>∃ p x,H p=none/\v = .ref p/\H'=upd H p (.tup [aq i,x])/\∀ xs,sq H a xs->xs[i]?=some x,
  λ i H=>∃ xs,sq H a xs/\xs.length=i⟩
def EnL (e j a:Addr) (i:Nat) (h:Heap):Prop:=(∃ old,IsEnum h e j i old)/\h.IsListIter j a i
def EnT (e j a:Addr) (i:Nat) (h:Heap):Prop:=(∃ old,IsEnum h e j i old)/\h.IsTupleIter j a i
theorem xV {P:Program} {w:World} {K:W.Frag} {e j a:Addr} (ej:e≠j) (ae:a≠e) (aj:a≠j):Turn P w K (.Tuple elts x1 qy) (KB (bg K) a) [e,j] e (EnL e j a) where
 mem:=by simp
 obj:=λ i h st c hc=>by
   obtain ⟨⟨old,h1⟩,oj,e2,_,d2⟩:=st
   simp only [abj,aay,ae5] at hc
   rcases hc with rfl|rfl
   . exact ⟨_,h1,λ v q=>by cases q⟩
   . exact ⟨oj,e2,λ v q=>by rw [d2] at q;cases q⟩
 keep:=λ i h h' st k=>by
   obtain ⟨⟨old,h1⟩,h2⟩:=st
   exact ⟨⟨old,k e (by simp) _ h1⟩,h2.at λ o q=>k j (by simp) o q⟩
 item:=by
   intro X hP hw hK hc i pins s U H E I hf st hg
   subst hP hw hK
   obtain ⟨xs,x,hq,hx⟩:=hg
   obtain ⟨bG,rv,p,hz⟩:=I.list hq
   obtain ⟨u,hu,ru⟩:=rv.get hx
   obtain ⟨⟨old,h1⟩,h2⟩:=st
   have le:e<s.heap.objs.size:=abh h1
   have lj:j<s.heap.objs.size:=by obtain ⟨o,q,_⟩:=h2;exact abh q
   have hi:i<bG.toArray.size:=by
     have:=(List.getElem?_eq_some_iff.mp hu).1
     simpa using this
   refine wpAny_pyNext_enum_itemD (Draws.list (A:=X.A.in1) (I.ok.hd hc) j a aj bG.toArray) h1 ⟨h2,p.isList⟩ hi ej (by simp [ej,ae.symm]) λ v h' tk hv eo Lb ht WA kk=>?_
   obtain rfl:v=u:=by
     have hv:bG.toArray[i]?=some v:=hv
     rw [apK,hu] at hv
     exact (aaU hv).symm
   refine ⟨.ref s.heap.objs.size,rfl,apO (s:={ s with heap:=h',toks:=tk+1 }) eo λ g he sb=>?_⟩
   have Gs:∀ c o,c∉[e,j]->s.heap.get? c=some o->g.get? c=some o:=λ c o hn q=>by
     simp only [abj,aay,ae5,aoA] at hn
     exact sb.extBut _ _ hn.1 (kk c o hn.1 hn.2 q)
   have n5:=sb.extBut _ _ (aoF le) ht
   refine ⟨.ref s.heap.objs.size,upd H s.heap.objs.size (.tup [aq i,x]),I.wj (t':=tk+1) Gs hf (aar _) ⟨by show 2<=sizeLine;decide,[.int i tk,v],.cons ⟨tk,rfl⟩ (.cons ru .nil),⟨_,n5,rfl,_,rfl⟩⟩,rfl,
     ⟨_,x,I.cq.fresh (aar _),rfl,rfl,λ xs' h=>by rw [I.oM h hq];exact hx⟩,⟨⟨_,by simpa using he⟩,Lb.1.extBut sb.extBut ej.symm⟩,λ c w9=>?_⟩
   have lc:c<s.heap.objs.size:=by
     simp only [abj,aay,ae5] at w9
     rcases w9 with rfl|rfl
     . exact le
     . exact lj
   rw [aD (acN lc)]
   exact (hf c w9).1
 done:=by
   intro X hP hw hK hc i pins s U H E I hf st hg
   subst hP hw hK
   obtain ⟨xs,hq,hl⟩:=hg
   obtain ⟨bG,rv,p,hz⟩:=I.list hq
   obtain ⟨⟨old,h1⟩,h2⟩:=st
   have hn:i=bG.toArray.size:=by rw [abR,← rv.length];exact hl.symm
   subst hn
   refine wpAny_pyNext_enum_endD (Draws.list (A:=X.A.in1) (I.ok.hd hc) j a aj bG.toArray) h1 ⟨h2,p.isList⟩ λ h' eb=>⟨rfl,I.wr (ch:=[e,j]) (t':=s.toks) (λ c o hn q=>?_) hf⟩
   simp only [abj,aay,ae5,aoA] at hn
   exact eb c o hn.2 q
 self:=λ _ _ _ _ _ st h=>by
   obtain ⟨⟨old,h1⟩,_⟩:=st
   exact anY h1 h
theorem zH {P:Program} {w:World} {K:W.Frag} {e j a:Addr} (ej:e≠j) (ae:a≠e) (aj:a≠j):Turn P w K (.Tuple elts x1 qy) (KB (bS K) a) [e,j] e (EnT e j a) where
 mem:=by simp
 obj:=λ i h st c hc=>by
   obtain ⟨⟨old,h1⟩,oj,e2,_,d2⟩:=st
   simp only [abj,aay,ae5] at hc
   rcases hc with rfl|rfl
   . exact ⟨_,h1,λ v q=>by cases q⟩
   . exact ⟨oj,e2,λ v q=>by rw [d2] at q;cases q⟩
 keep:=λ i h h' st k=>by
   obtain ⟨⟨old,h1⟩,h2⟩:=st
   exact ⟨⟨old,k e (by simp) _ h1⟩,h2.at λ o q=>k j (by simp) o q⟩
 item:=by
   intro X hP hw hK hc i pins s U H E I hf st hg
   subst hP hw hK
   obtain ⟨xs,x,hq,hx⟩:=hg
   obtain ⟨bG,rv,p,hz⟩:=I.tuple hq
   obtain ⟨u,hu,ru⟩:=rv.get hx
   obtain ⟨⟨old,h1⟩,h2⟩:=st
   have le:e<s.heap.objs.size:=abh h1
   have lj:j<s.heap.objs.size:=by obtain ⟨o,q,_⟩:=h2;exact abh q
   have hi:i<bG.toArray.size:=by
     have:=(List.getElem?_eq_some_iff.mp hu).1
     simpa using this
   refine wpAny_pyNext_enum_itemD (Fq (A:=X.A.in1) (I.ok.hd hc) j a aj bG.toArray) h1 ⟨h2,p⟩ hi ej (by simp [ej,ae.symm]) λ v h' tk hv eo Lb ht WA kk=>?_
   obtain rfl:v=u:=by
     have hv:bG.toArray[i]?=some v:=hv
     rw [apK,hu] at hv
     exact (aaU hv).symm
   refine ⟨.ref s.heap.objs.size,rfl,apO (s:={ s with heap:=h',toks:=tk+1 }) eo λ g he sb=>?_⟩
   have Gs:∀ c o,c∉[e,j]->s.heap.get? c=some o->g.get? c=some o:=λ c o hn q=>by
     simp only [abj,aay,ae5,aoA] at hn
     exact sb.extBut _ _ hn.1 (kk c o hn.1 hn.2 q)
   have n5:=sb.extBut _ _ (aoF le) ht
   refine ⟨.ref s.heap.objs.size,upd H s.heap.objs.size (.tup [aq i,x]),I.wj (t':=tk+1) Gs hf (aar _) ⟨by show 2<=sizeLine;decide,[.int i tk,v],.cons ⟨tk,rfl⟩ (.cons ru .nil),⟨_,n5,rfl,_,rfl⟩⟩,rfl,
     ⟨_,x,I.cq.fresh (aar _),rfl,rfl,λ xs' h=>by rw [I.EN h hq];exact hx⟩,⟨⟨_,by simpa using he⟩,Lb.1.extBut sb.extBut ej.symm⟩,λ c w9=>?_⟩
   have lc:c<s.heap.objs.size:=by
     simp only [abj,aay,ae5] at w9
     rcases w9 with rfl|rfl
     . exact le
     . exact lj
   rw [aD (acN lc)]
   exact (hf c w9).1
 done:=by
   intro X hP hw hK hc i pins s U H E I hf st hg
   subst hP hw hK
   obtain ⟨xs,hq,hl⟩:=hg
   obtain ⟨bG,rv,p,hz⟩:=I.tuple hq
   obtain ⟨⟨old,h1⟩,h2⟩:=st
   have hn:i=bG.toArray.size:=by rw [abR,← rv.length];exact hl.symm
   subst hn
   refine wpAny_pyNext_enum_endD (Fq (A:=X.A.in1) (I.ok.hd hc) j a aj bG.toArray) h1 ⟨h2,p⟩ λ h' eb=>⟨rfl,I.wr (ch:=[e,j]) (t':=s.toks) (λ c o hn q=>?_) hf⟩
   simp only [abj,aay,ae5,aoA] at hn
   exact eb c o hn.2 q
 self:=λ _ _ _ _ _ st h=>by
   obtain ⟨⟨old,h1⟩,_⟩:=st
   exact anY h1 h
section
variable {X:Cx}
def ak2 (K:W.Frag) (ta:TA):TI:=λ U H R=>ta U H λ vs H1=>∃ a,vs=[.ref a]/\(∃ xs,bg K H1 a xs)/\R (KB (bg K) a) H1
def anM (K:W.Frag) (ta:TA):TI:=λ U H R=>ta U H λ vs H1=>∃ a,vs=[.ref a]/\(∃ xs,bS K H1 a xs)/\R (KB (bS K) a) H1
theorem ML:("enumerate" : Str) ≠ "__name__":=by decide +kernel
theorem MG:(("enumerate" : Str) == ("__debug__" : Str))=false:=by decide +kernel
theorem MK {a:Expr} {p pos:Pos} (hg:Gl X "enumerate") (hm:X.mg "enumerate" = none) (ha:PA X [a] ta) (hs:starEach [a] X.env=[(false,eval a X.env)]:=by rfl) :
   PI X (.Tuple elts x1 qy) (.Call (.Name "enumerate" p) [a] [] pos) (ak2 X.K ta):=by
 intro pins s U H R I h
 refine Call_ ?_
 refine lN I hg hm j9 ?_ ML MG
 refine ahZ ?_ hs rfl
 refine cX (ha pos pins s U H _ I h) λ us s1 ⟨vs,H1,I1,r1,q1⟩=>?_
 obtain ⟨a,e,⟨xs,hq⟩,q⟩:=q1
 subst e
 cases r1 with
 | cons r rr =>
   cases rr
   obtain rfl:_=Value.ref a:=r
   obtain ⟨bG,rv,p1,Lz⟩:=I1.list hq
   have la:a<s1.heap.objs.size:=by obtain ⟨_,e,_⟩:=p1.isList;exact abh e
   refine call_enumerate_list p1.isList λ h' z1 z2 z3 kk=>anY z1 ?_
   refine ⟨s1.heap.objs.size+1,[s1.heap.objs.size+1,s1.heap.objs.size],_,_,H1,rfl,I1.kept (t':=s1.toks) kk,xV (aox _) (acN (aor la)) (acN la),⟨⟨_,z1⟩,z2⟩,λ c hc=>?_,q⟩
   have hle:s1.heap.objs.size<=c:=by
     simp only [abj,aay,ae5] at hc
     rcases hc with rfl|rfl
     . exact anZ _
     . exact aar _
   exact I1.xx hle (I1.cq.fresh hle)
theorem N1 {a:Expr} {p pos:Pos} (hg:Gl X "enumerate") (hm:X.mg "enumerate" = none) (ha:PA X [a] ta) (hs:starEach [a] X.env=[(false,eval a X.env)]:=by rfl) :
   PI X (.Tuple elts x1 qy) (.Call (.Name "enumerate" p) [a] [] pos) (anM X.K ta):=by
 intro pins s U H R I h
 refine Call_ ?_
 refine lN I hg hm j9 ?_ ML MG
 refine ahZ ?_ hs rfl
 refine cX (ha pos pins s U H _ I h) λ us s1 ⟨vs,H1,I1,r1,q1⟩=>?_
 obtain ⟨a,e,⟨xs,hq⟩,q⟩:=q1
 subst e
 cases r1 with
 | cons r rr =>
   cases rr
   obtain rfl:_=Value.ref a:=r
   obtain ⟨bG,rv,p1,Lz⟩:=I1.tuple hq
   have la:a<s1.heap.objs.size:=p1.lt
   refine sM p1 λ h' z1 z2 kk=>anY z1 ?_
   refine ⟨s1.heap.objs.size+1,[s1.heap.objs.size+1,s1.heap.objs.size],_,_,H1,rfl,I1.kept (t':=s1.toks) kk,zH (aox _) (acN (aor la)) (acN la),⟨⟨_,z1⟩,z2⟩,λ c hc=>?_,q⟩
   have hle:s1.heap.objs.size<=c:=by
     simp only [abj,aay,ae5] at hc
     rcases hc with rfl|rfl
     . exact anZ _
     . exact aar _
   exact I1.xx hle (I1.cq.fresh hle)
end
theorem mD {sq:Hp->Addr->List V->Prop} {a:Addr} {xs:List V} {g:TG} {tt:TT} {te:TE} {D:Addr} {Q:Hp->Prop} {U:St} (Pv:Nat->List V->St->Hp->Prop) (h0:Pv 0 [] U H) (hl:∀ i acc U H,i<=xs.length->Pv i acc U H->sq H a xs) (hs:∀ i x p acc U H,xs[i]?=some x->H p=none->Pv i acc U H->g (.ref p) U (upd H p (.tup [aq i,x])) λ σ2 H3=>tt σ2 H3 λ k H4 =>
     if k=true then te σ2 H4 λ v H5=>H5 D=some (.lst acc)/\acc.length<sizeLine/\Pv (i+1) (acc++[v]) σ2 (upd H5 D (.lst (acc++[v]))) else Pv (i+1) acc σ2 H4) (hd:∀ acc U H,Pv xs.length acc U H->Q H) :
   ∃ W:Nat->Nat->List V->St->Hp->Prop,(∃ m,W 0 m [] U H)/\∀ i m acc σ' H',W i m acc σ' H'->((KB sq a).stop i H'/\Q H') ∨
     ((KB sq a).go i H'/\∃ N:List V->St->Hp->Prop,(∀ jc σ2 H4,N jc σ2 H4->∃ m',m'<m/\W (i+1) m' jc σ2 H4)/\∀ x H2,(KB sq a).FP i H' x H2->g x σ' H2 λ σ2 H3=>tt σ2 H3 λ k H4 =>
       if k=true then te σ2 H4 λ y H5=>H5 D=some (.lst acc)/\acc.length<sizeLine/\N (acc++[y]) σ2 (upd H5 D (.lst (acc++[y]))) else N acc σ2 H4):=by
 refine ⟨λ i m acc U H=>m=xs.length - i/\i<=xs.length/\Pv i acc U H,⟨_,rfl,afh _,h0⟩,?_⟩
 rintro i m acc U H ⟨rfl,hi,p⟩
 have q:=hl i acc U H hi p
 by_cases mK:i<xs.length
 . refine .inr ⟨⟨xs,xs[i],q,by simp [mK]⟩,Pv (i+1),λ jc σ' H' p'=>⟨xs.length - (i+1),by lia,rfl,mK,p'⟩,λ v H' y=>?_⟩
   obtain ⟨pp,x,hn,rfl,rfl,e1⟩:=y
   exact hs i x pp acc U H (e1 xs q) hn p
 . have e:i=xs.length:=by lia
   subst e
   exact .inl ⟨⟨xs,q,rfl⟩,hd acc U H p⟩
end L2
namespace Tx
open PySem PySem.Builtin PySem.Builtin.Str
theorem len (a:Str):a.cps.toList.length=a.length:=aoQ
def sl:Str:=⟨#[47]⟩
theorem cases (x:Str):47∉x.cps.toList∨∃ a b:Str,47∉a.cps.toList/\x.cps.toList=a.cps.toList++47::b.cps.toList:=by
 by_cases h:47∈x.cps.toList
 . obtain ⟨as,bs,e,n⟩:=List.eq_append_cons_of_mem h
   exact .inr ⟨⟨as.toArray⟩,⟨bs.toArray⟩,by simpa using n,by simpa using e⟩
 . exact .inl h
def strN (n:Nat):Str:=Str.ofString (toString ((n:Nat):Int))
def Good (z:Str):Prop:=1<=z.length/\z.length<=30/\NumText.AllDigits z.cps.toList/\¬ (z.cps.toList.head?=some 48/\1<z.length)
def valOf (z:Str):Int:=((NumText.digitsVal z.cps.toList:Nat):Int)
def mi:Str:=⟨#[45]⟩
def Hc (z:Str):Bool:=decide (z.cps.toList.head?=some 45)
def bodyOf (z:Str):Str:=if Hc z=true then Txt.slice z (some 1) none else z
def ahg (z:Str):Int:=if Hc z=true then -1 else 1
def Rd (z:Str) (f:Int×Int):Prop :=
 Good (Txt.partition (bodyOf z) sl).1/\(Hc z=true->valOf (Txt.partition (bodyOf z) sl).1≠0)/\f.1=ahg z * valOf (Txt.partition (bodyOf z) sl).1 /\
 (((Txt.partition (bodyOf z) sl).2.1=sl/\Good (Txt.partition (bodyOf z) sl).2.2/\2<=valOf (Txt.partition (bodyOf z) sl).2.2 /\
     Int.gcd (valOf (Txt.partition (bodyOf z) sl).1) (valOf (Txt.partition (bodyOf z) sl).2.2)=1/\f.2=valOf (Txt.partition (bodyOf z) sl).2.2) ∨
   ((Txt.partition (bodyOf z) sl).2.1≠sl/\f.2=1))
def SN (t:Int):Str:=if t<0 then mi++strN t.natAbs else strN t.natAbs
def arR (t b:Int):Str:=if b=1 then SN t else SN t++sl++strN b.natAbs
end Tx
namespace L2
open PySem PySem.Spec PyProof.Rows Mth
variable {C:Addr} {E:XK} {H H1:Hp} {pos':Pos} {tv:TE} {u:Value} {value:Expr}
section
variable {X:Cx}
def isStr (k:Str):Value->Bool
 | .str x _=>x == k
 | _=>false
end
section
variable {P:Program} {w:World} {K:W.Frag} {mg:Str->Option Value} {base:Heap} {x qual m:Str} {st:Stmt} {dV:Value} {f C:Addr} {fd:FuncData} {N ps:List Str} {k:Nat} {sp:Sp} {ds:List Value} {gd:List V}
theorem nE.okX (F:nE K x qual st dV f fd) (S:aA N ps (ao st)) (len:∀ vs H Q E,sp vs H Q E->vs.length=ps.length) (dZ:∀ (bB:Value) (A:Around) (outer:List Env) (s:Shared) (H:Hp) (vs:List V) (Q:VK) (E:XK),cR k (A.deeper (envOfC qual (ao st) s.heap.objs.size f bB))->sp vs H Q E ->
     ∃ t,qg (fi (zA P w) P w K mg base N qual (ao st) f bB A outer s H E) (bx st) t/\t { nx:=λ _ H'=>Q .bT H',rt:=Q } (start N vs) H):ja P w K mg base (zA P w) (k+1) f fd ps sp:=by
 obtain ⟨oc,od,kV,doc,pm,an,bB,ct,xn,rfl,lk,mR⟩:=F.ex
 exact Gq lk mR S len λ A outer s H vs Q E hr HQ=>dZ bB A outer s H vs Q E hr HQ
def u8 (P:Program) (w:World) (K:W.Frag) (mg:Str->Option Value) (base:Heap) (C:Addr) (m:Str) (k:Nat) (ps:List Str) (ds:List Value) (sp:Sp):Prop :=
 ∃ f fd,Meth K C m f/\Binds K fd ps ds/\ja P w K mg base (zA P w) k f fd ps sp
theorem fU.LL (h:fU K C m qual st .none) (S:aA N ps (ao st)) (len:∀ vs H Q E,sp vs H Q E->vs.length=ps.length) (hb:∀ (kV doc pm:Value) (an:Option Addr) (bB ct:Value) (us:List Value),us.length=ps.length->bindArgs (W.fnOf m qual (cm st) (bx st) (ao st) .none kV doc pm an bB ct) ⟨us,[]⟩=pure (ps.zip us)) (dZ:∀ (f:Addr) (bB:Value) (A:Around) (outer:List Env) (s:Shared) (H:Hp) (vs:List V) (Q:VK) (E:XK),cR k (A.deeper (envOfC qual (ao st) s.heap.objs.size f bB))->sp vs H Q E ->
     ∃ t,qg (fi (zA P w) P w K mg base N qual (ao st) f bB A outer s H E) (bx st) t/\t { nx:=λ _ H'=>Q .bT H',rt:=Q } (start N vs) H):u8 P w K mg base C m (k+1) ps [] sp:=by
 obtain ⟨f,fd,M,F⟩:=h
 exact ⟨f,fd,M,F.Ai hb,F.okX S len λ bB A outer s H vs Q E hr hs=>dZ f bB A outer s H vs Q E hr hs⟩
end
section
variable {P:Program} {w:World} {K:W.Frag} {mg:Str->Option Value} {base:Heap} {x qual m:Str} {st:Stmt} {dV:Value} {f C:Addr} {fd:FuncData} {N ps:List Str} {k:Nat} {sp:Sp} {ds:List Value} {gd:List V}
def KW (P:Program) (w:World) (K:W.Frag) (mg:Str->Option Value) (base:Heap) (C:Addr) (m qual:Str) (st:Stmt) (dV:Value) (k:Nat) (ps:List Str) (sp:Sp):Prop :=
 ∃ f fd,Meth K C m f/\nE K m qual st dV f fd/\ja P w K mg base (zA P w) k f fd ps sp
def vd (P:Program) (w:World) (K:W.Frag) (mg:Str->Option Value) (base:Heap) (C:Addr) (m:Str) (k:Nat) (ps:List Str) (gd:List V) (sp:Sp):Prop :=
 ∃ ds,Vals gd ds/\u8 P w K mg base C m k ps ds sp
theorem fU.amW (h:fU K C m qual st dV) (S:aA N ps (ao st)) (len:∀ vs H Q E,sp vs H Q E->vs.length=ps.length) (dZ:∀ (f:Addr) (bB:Value) (A:Around) (outer:List Env) (s:Shared) (H:Hp) (vs:List V) (Q:VK) (E:XK),cR k (A.deeper (envOfC qual (ao st) s.heap.objs.size f bB))->sp vs H Q E ->
     ∃ t,qg (fi (zA P w) P w K mg base N qual (ao st) f bB A outer s H E) (bx st) t/\t { nx:=λ _ H'=>Q .bT H',rt:=Q } (start N vs) H):KW P w K mg base C m qual st dV (k+1) ps sp:=by
 obtain ⟨f,fd,M,F⟩:=h
 exact ⟨f,fd,M,F,F.okX S len λ bB A outer s H vs Q E hr hs=>dZ f bB A outer s H vs Q E hr hs⟩
theorem KW.LV {T:Addr} {BI:List V} (h:KW P w K mg base C m qual st (.ref T) k ps sp) (hT:BU K T BI) (hb:∀ items:Array Value,Vals BI items.toList->∃ ds,Vals gd ds/\∀ (kV doc pm:Value) (an:Option Addr) (bB ct:Value) (us:List Value),(us++ds).length=ps.length->∃ k,bindArgs (W.fnOf m qual (cm st) (bx st) (ao st) (.ref T) kV doc pm an bB ct) ⟨us,[]⟩=seqItems? (.ref T) >>= k/\k (some items)=pure (ps.zip (us++ds))) :
   vd P w K mg base C m k ps gd sp:=by
 obtain ⟨f,fd,M,F,O⟩:=h
 obtain ⟨o,n,items,hT,ho,hv⟩:=hT
 obtain ⟨ds,hd,hb⟩:=hb items hv
 exact ⟨ds,hd,f,fd,M,F.binds hT ho hb,O⟩
theorem u8.y (D:u8 P w K mg base C m k ps [] sp):vd P w K mg base C m k ps [] sp:=⟨[],.nil,D⟩
abbrev ID:List Value:=[.type "ValueError",.type "Exception",.type "BaseException",.type "object"]
def Iv (K:W.Frag) (C:Addr) (qual:Str) (st:Stmt):Prop:=∃ f fd,IX K C f ID "ValueError.__new__"/\nE K "__init__" qual st .none f fd
def J9 (P:Program) (w:World) (K:W.Frag) (mg:Str->Option Value) (base:Heap) (C:Addr) (k:Nat) (ps:List Str) (sp:Sp):Prop :=
 ∃ f fd,IX K C f ID "ValueError.__new__"/\Binds K fd ps []/\ja P w K mg base tL k f fd ps sp
theorem Iv.Up (h:Iv K C qual st) (S:aA N ps (ao st)) (len:∀ vs H Q E,sp vs H Q E->vs.length=ps.length) (hb:∀ (kV doc pm:Value) (an:Option Addr) (bB ct:Value) (us:List Value),us.length=ps.length->bindArgs (W.fnOf "__init__" qual (cm st) (bx st) (ao st) .none kV doc pm an bB ct) ⟨us,[]⟩=pure (ps.zip us)) (dZ:∀ (f:Addr) (bB:Value) (A:Around) (outer:List Env) (s:Shared) (H:Hp) (vs:List V) (Q:VK) (E:XK),cR k (A.deeper (envOfC qual (ao st) s.heap.objs.size f bB))->sp vs H Q E ->
     ∃ t,qg (fi tL P w K mg base N qual (ao st) f bB A outer s H E).zV (bx st) t/\t { nx:=λ _ H'=>Q .bT H',rt:=Q } (start N vs) H):J9 P w K mg base C (k+1) ps sp:=by
 obtain ⟨f,fd,M,F⟩:=h
 exact ⟨f,fd,M,F.Ai hb,F.ok S len λ bB A outer s H vs Q E hr hs=>dZ f bB A outer s H vs Q E hr hs⟩
end
section
variable {X:Cx} {C:Addr} {m x c:Str} {p pos apos np eC:Pos} {e o e₀:Expr} {es rest:List Expr} {ta:TE} {t:TA} {k:Nat} {ps:List Str} {sp:Sp} {ds:List Value} {gd:List V} {E:XK}
theorem uU (hc:X.calm=true) (hm:X.mg c=some (.ref C)) (D:J9 X.prog X.w X.K X.mg X.base C k ps sp) (hr:cR (k+1) X.A) (th:Nn X E) (ha:PA X (e₀::rest) t) (hg:Gl X c:=by rfl) (hd:(c == ("__debug__" : Str))=false:=by decide) (he:starEach (e₀::rest) X.env=(false,eval e₀ X.env)::starEach rest X.env:=by rfl) (kN:(backTo eC (starEach rest X.env)).any (·.1)=false:=by rfl) :
   PS X (.Raise (some (.Call (.Name c np) (e₀::rest) [] eC)) none pos) (CV C E sp t):=by
 obtain ⟨f,fd,q,hb,F⟩:=D
 exact Ex hc anA hm q F hr hb th ha hg hd he kN
theorem zx {pl:Sem Bool} (he:PE X o ta) (c:xr X.K C) (D:vd X.prog X.w X.K X.mg X.base C m k ps gd sp) (hr:cR k X.A) (hx:Passes (zA X.prog X.w) X E) (ha:PA X (e::es) t) (gE:starEach (e::es) X.env=(false,eval e X.env)::starEach es X.env:=by rfl) (lA:(backTo pos (starEach es X.env)).any (·.1)=false:=by rfl) (ht:eval (.Call (.Attribute o m apos) (e::es) [] pos) X.env=(do
     let ov ← eval o X.env
     standAt apos.atName
     let (f,first) ← holding [ov] (getMethod ov m pl)
     callWith pos f first (backTo pos (starEach (e::es) X.env)) (backToKw pos (keywordEach [] X.env))):=by rfl) :
   PE X (.Call (.Attribute o m apos) (e::es) [] pos) (sO C m sp gd E ta t):=by
 obtain ⟨ds,hd,f,fd,hm,hb,F⟩:=D
 exact C7 (pl:=pl) he c hm F hr hb hd hx ha gE lA ht
theorem Cz {pl:Sem Bool} (he:PE X.zV o ta) (c:xr X.K C) (D:vd X.prog X.w X.K X.mg X.base C m k ps gd sp) (hr:cR k X.A) (ha:PA X.zV (e::es) t) (gE:starEach (e::es) X.env=(false,eval e X.env)::starEach es X.env:=by rfl) (lA:(backTo pos (starEach es X.env)).any (·.1)=false:=by rfl) (ht:eval (.Call (.Attribute o m apos) (e::es) [] pos) X.env=(do
     let ov ← eval o X.env
     standAt apos.atName
     let (f,first) ← holding [ov] (getMethod ov m pl)
     callWith pos f first (backTo pos (starEach (e::es) X.env)) (backToKw pos (keywordEach [] X.env))):=by rfl) :
   PX X (.Call (.Attribute o m apos) (e::es) [] pos) (λ U H Q E=>sO C m sp gd E ta t U H Q):=by
 obtain ⟨ds,hd,f,fd,hm,hb,F⟩:=D
 intro pins s U H Q E I h
 refine apG (pl:=pl) (acV (he pins s U H _ (I.mj _) h) (λ u s1 ⟨x,H1,I1,rx,a,dx,fs,ex,ea,l,q⟩=>?_) λ _ _ z=>False.elim z) ht
 subst ex
 obtain rfl:u=Value.ref a:=rx
 refine nB I1.i8 ea c hm l ?_
 refine apo (first:=[.ref a]) (h₀:=X.base) I.ok.mod.Il hm.kp (acV (ha pos pins s1 U H1 _ I1 q) (λ us s2 ⟨vs,H2,I2,r,q2⟩=>⟨I2.lJ,?_⟩) λ _ _ z=>False.elim z) gE lA
 have YH:Inv X pins U H2 s2:=I2.i8
 have r2:Vals (V.ref a::(vs++gd)) (Value.ref a::us++ds):=.cons rfl (r.append hd)
 have hl:(Value.ref a::us++ds).length=ps.length:=by rw [← r2.length];exact F.len _ _ _ _ q2
 refine aoo (aow (F.run X.A X.stack s2 H2 ⟨Value.ref a::us,[]⟩ (Value.ref a::us++ds) _ Q E hr YH.Km (hb s2 (Value.ref a::us) YH.lJ hl) r2 q2) λ r s' hq=>?_)
 cases r with
 | error e=>exact ⟨H2,s2,YH,hq⟩
 | ok fl =>
   cases fl with
   | ret u=>exact YH.after hq
   | next=>exact False.elim hq
   | brk=>exact False.elim hq
   | cont=>exact False.elim hq
def akN (K:W.Frag) (cls:Value) (d:Option Addr) (ea:Addr) (ta:TE) (f:Str):TE:=λ U H Q=>ta U H λ x H1=>∃ C dx fs v,x = .ref ea/\cls = .ref C/\d=some dx/\H1 dx=some (.xd fs)/\ExcAt K C f/\fs.lookup f=some v/\Q v H1
theorem vS {en:Expr} {f:Str} {ea:Addr} {oe:Obj} {cls:Value} {d:Option Addr} (K:W.Frag) (hK:X.K=K) (hp:(ea,oe)∈X.pn) (hc:oe.cls=cls) (hd:oe.dict=d) (hn:W.notCls oe=true) (he:PE X en ta) (hb:attributeBase en f X.env (eval en X.env)=eval en X.env:=by rfl) :
   PE X (.Attribute en f pos) (akN K cls d ea ta f):=by
 subst hK
 intro pins s U H Q I h
 refine Cy hb (cX (he pins s U H _ I h) λ u s1 ⟨x,H1,I1,rx,C,dx,fs,v,ex,ec,ed,hx,hE,l,q⟩=>?_)
 subst ex
 obtain rfl:u=Value.ref ea:=rx
 exact Le I1 hp (hc.trans ec) hn (hd.trans ed) hx hE l λ u' s2 I2 ru=>⟨v,H1,I2,ru,q⟩
end
def pi (C:Addr) (r:Option V) (H:Hp) (E:XK):Prop:=match r with
 | none=>∀ H',aB H H'->E (.ref C) none H'
 | some v=>∀ d H',aB H H'->H' d=some (.xd [("room",v)])->E (.ref C) (some d) H'
theorem pi.plain (h:pi C none H E) (s:aB H H1):E (.ref C) none H1:=h H1 s
open PySem.Builtin PySem.Builtin.ObjectAttr
section
variable {K:W.Frag} {prog:Program} {w:World} {A:Around} {E:Value->Shared->Prop} {s:Shared} {x C dx:Addr} {name:Str} {v:Value} {mA:Str->Option Value}
theorem GN {t:Addr} {ns:List Str} {Q:Unit->Shared->Prop} (X:K.In s.heap) (he:s.heap.get? x=some (EW C t (some dx))) (hN:s.heap.Ns1 dx mA) (nx:dx≠x) (hs:W.findIn K (.ref C) "__setattr__" = some (some (.builtin "object.__setattr__"))) (hp:jr K C=true) (ht:W.findIn K (.ref C) name=some none) (hh:W.hasDictIn K C=true) (hw:PySem.Within mA ns) (hsz:ns.length<=1000) (h:∀ h',h'.get? x=some (EW C t (some dx))->h'.Ns1 dx (λ y=>if y=name then some v else mA y)->(∀ b o,b≠dx->s.heap.get? b=some o->h'.get? b=some o)->Q () { s with heap:=h',toks:=s.toks+2 }) :
   wpAny (model prog w) A (setAttr (.ref x) name v) Q E s:=by
 obtain ⟨od,Bf,hl⟩:=pJ hN
 have J:W.InstAt s.heap x (EW C t (some dx)) C (some od):=⟨he,rfl,rfl,Bf⟩
 refine W.set_plain X J hs (Cw (s:={ s with toks:=s.toks+1 }) X J hp ht ?_)
 obtain ⟨cd,hc,EX⟩:=apY hh
 refine T1 (abF (T1 (T1 (aoV he (T1 (W.Looks.here (s:={ s with toks:=s.toks+1 }) (ao9 X hc) ?_))))))
 rw [EX]
 refine abF (a:=some dx) (T1 (abF (T1 ?_)))
 refine wpAny_nsSet1 (s:={ s with toks:=s.toks+1 }) hN λ h' Dj GF=>?_
 obtain ⟨oD,esD,epD,Rp,VJ,PU⟩:=Dj.count (aoq name v hw)
 refine T1 (apq Rp (by rw [VJ];exact apr (afY PU (by rw [acq,ao1];lia))) ?_)
 exact abF (h h' ((GF.2 _ (alt nx)).trans he) Dj λ b o hb q=>(GF.2 b hb).trans q)
end
def DX (dx:Addr) (f:Str) (y:V):HO:=.ext λ h=>∃ u,RelV y u/\h.Ns1 dx (λ z=>if z=f then some u else none)
section
variable {X:Cx} {pins:List (Addr×Obj)} {U:St} {H:Hp} {s:Shared} {A:Around} {E:Value->Shared->Prop}
theorem Gg {a t:Addr} {f:Str} {y:V} {Q:Unit->Shared->Prop} (I:Inv X pins U H s) (e:H a=some (XO a C t none)) (c:ExcAt X.K C f) (ry:RelV y u) (h:∀ s' dx,H dx=none->dx≠a->Inv X pins U (upd (upd H dx (DX dx f y)) a (XO a C t (some dx))) s'->Q () s'):wpAny (model X.prog X.w) A (setAttr (.ref a) f u) Q E s:=by
 have he:s.heap.get? a=some (EW C t none):=(I.cq a _ e).1
 have mK:=abh he
 refine J1 I.lJ he c.sa c.po c.no c.hd λ h' hx FW keep=>?_
 obtain ⟨od,es,ep,Bf,zT,sk,uk,hf⟩:=FW
 have nf:od.isFreed=false:=(Heap.get?_some_iff.mp Bf).2
 have e1:(s.heap.push od).get? s.heap.objs.size=some od:=adt _ nf
 have ne:s.heap.objs.size≠a:=aoF mK
 have I1:=I.laid (a:=s.heap.objs.size) (o:=DX s.heap.objs.size f y) (h':=s.heap.push od) (t':=s.toks+2) (λ b q z=>YM _ z) (aar _)
   ⟨⟨u,ry,od,es,ep,e1,zT,sk,uk,hf⟩,⟨_,e1⟩,λ h1 h2 p k=>by
     obtain ⟨u,r,o,q1,q2,q3,q4⟩:=p
     exact ⟨u,r,o,q1,q2,k _ q3,q4⟩⟩
 have ea:upd H s.heap.objs.size (DX s.heap.objs.size f y) a=some (XO a C t none):=by rw [aD (alt ne)];exact e
 have I2:=I1.write (x:=a) (e:=a) (o:=XO a C t (some s.heap.objs.size)) (h':=h') (t':=s.toks+2) (by rw [ea];exact True.intro) (.inl rfl) (λ b q hb z=>by
   by_cases w:b=s.heap.objs.size
   . subst w
     have z:(s.heap.push od).get? s.heap.objs.size=some q:=z
     rw [e1] at z
     cases z
     exact Bf
   . refine keep b q hb ?_
     have z:(s.heap.push od).get? b=some q:=z
     rw [Heap.get?_push_ne _ _ _ w] at z
     exact z) ⟨_,hx⟩ ⟨hx,⟨_,hx⟩,λ h1 h2 p k=>k _ p⟩
 exact h _ _ (I.cq.fresh (aar _)) ne I2
theorem Fz {a t dx:Addr} {f g:Str} {y z:V} {Q:Unit->Shared->Prop} (I:Inv X pins U H s) (e:H a=some (XO a C t (some dx))) (ed:H dx=some (DX dx g z)) (n:dx≠a) (c:ExcAt X.K C f) (ry:RelV y u) (h:∀ s',Inv X pins U (upd H dx (.xd [(f,y),(g,z)])) s'->Q () s'):wpAny (model X.prog X.w) A (setAttr (.ref a) f u) Q E s:=by
 have he:s.heap.get? a=some (EW C t (some dx)):=(I.cq a _ e).1
 obtain ⟨uz,rz,hN⟩:=(I.cq dx _ ed).1
 refine GN (ns:=[g]) I.lJ he hN n c.sa c.po c.no c.hd (aoq g uz (ns:=[]) (λ y hy=>absurd rfl hy)) (by show 1<=1000;decide) λ h' hx FW keep=>?_
 have there:∃ o,h'.get? dx=some o:=by obtain ⟨od,es,ep,Bf,_⟩:=FW;exact ⟨od,Bf⟩
 refine h _ (I.write (x:=dx) (e:=dx) (o:=.xd [(f,y),(g,z)]) (h':=h') (t':=s.toks+2) (by rw [ed];exact True.intro) (.inl rfl) keep there ⟨_,FW,λ q=>?_⟩)
 show jO (([(f,y),(g,z)]:List (Str×V)).lookup q) (if q=f then some u else if q=g then some uz else none)
 by_cases q1:q=f
 .
  subst q1
  rw [abl rfl]
  simp only [List.lookup,ao2]
  exact ry
 .
  rw [aa8 q1]
  have b1:(q == f)=false:=by simpa using q1
  by_cases q2:q=g
  . subst q2
    rw [abl rfl]
    simp only [List.lookup,b1,ao2]
    exact rz
  . rw [aa8 q2]
    have b2:(q == g)=false:=by simpa using q2
    simp only [List.lookup,b1,b2]
    exact trivial
def Op (K:W.Frag) (ta tv:TE) (f:Str):TS:=λ D U H=>tv U H λ y H1=>ta U H1 λ x H2=>∃ a C t,x = .ref a/\H2 a=some (XO a C t none)/\ExcAt K C f/\∀ dx,H2 dx=none->dx≠a->D.nx U (upd (upd H2 dx (DX dx f y)) a (XO a C t (some dx)))
theorem zG {o:Expr} {f:Str} {pos:Pos} {ta:TE} (ha:PE X o ta) (hv:PE X value tv) (hs:swapsWith value (some (.Attribute o f pos')) pos.line X.env=pure false):PS X (.Assign [.Attribute o f pos'] value pos) (Op X.K ta tv f):=by
 intro pins s U H D I h
 refine aod (cX (hv pins s U H _ I h) λ u s1 ⟨y,H1,I1,ry,q⟩=>cX (ha pins s1 U H1 _ I1 q) λ ov s2 ⟨x,H2,I2,rx,a,C,t,ex,ea,c,q2⟩=>?_) hs
 subst ex
 obtain rfl:ov=Value.ref a:=rx
 exact Gg I2 ea c ry λ s3 dx n1 n2 I3=>⟨U,_,I3,q2 dx n1 n2⟩
def MA (K:W.Frag) (ta tv:TE) (f:Str):TS:=λ D U H=>tv U H λ y H1=>ta U H1 λ x H2=>∃ a C t dx g z,x = .ref a/\H2 a=some (XO a C t (some dx))/\H2 dx=some (DX dx g z)/\dx≠a/\ExcAt K C f/\D.nx U (upd H2 dx (.xd [(f,y),(g,z)]))
theorem yK {o:Expr} {f:Str} {pos:Pos} {ta:TE} (ha:PE X o ta) (hv:PE X value tv) (hs:swapsWith value (some (.Attribute o f pos')) pos.line X.env=pure false):PS X (.Assign [.Attribute o f pos'] value pos) (MA X.K ta tv f):=by
 intro pins s U H D I h
 refine aod (cX (hv pins s U H _ I h) λ u s1 ⟨y,H1,I1,ry,q⟩=>cX (ha pins s1 U H1 _ I1 q) λ ov s2 ⟨x,H2,I2,rx,a,C,t,dx,g,z,ex,ea,ed,n,c,q2⟩=>?_) hs
 subst ex
 obtain rfl:ov=Value.ref a:=rx
 exact Fz I2 ea ed n c ry λ s3 I3=>⟨U,_,I3,q2⟩
end
inductive pV (C:Addr) (f g:Str) (vs:List V) (H:Hp) (Q:VK) (_E:XK):Prop
 | mk (x t v u:_) (_:vs=[.ref x,v,u]) (_:H x=some (XO x C t none)) (_:∀ dx,H dx=none->dx≠x->Q .bT (upd (upd (upd H dx (DX dx f v)) x (XO x C t (some dx))) dx (.xd [(g,u),(f,v)])))
def hG (C:Addr) (r u:V) (H:Hp) (E:XK):Prop:=∀ d H',aB H H'->H' d=some (.xd [("turn",u),("room",r)])->E (.ref C) (some d) H'
theorem hG.same {r u:V} (h:hG C r u H E) (s:aB H H1):hG C r u H1 E:=λ d H' s'=>h d H' (s.trans s')
theorem hG.raised {r u:V} (h:hG C r u H E) (s:aB H H1):[r,u].length<=sizeLine/\∀ x t,H1 x=none->pV C "room" "turn" (.ref x::[r,u]) (upd H1 x (XO x C t none)) (λ v H2=>v = .bT/\∃ d,H2 x=some (XO x C t d)/\E (.ref C) d (i0 H2 x)) E0:=by
 refine ⟨by show 2<=sizeLine;decide,λ x t hx=>⟨x,t,r,u,rfl,ah,λ dx hd hn=>⟨rfl,some dx,by rw [aD (alt hn)];exact ah,h dx _ ?_ ?_⟩⟩⟩
 .
  intro b o hb
  have nb:b≠x:=λ z=>by have:=s b o hb;rw [z,hx] at this;cases this
  have e1:(upd H1 x (XO x C t none)) b=some o:=by rw [aD nb];exact s b o hb
  have nd:b≠dx:=λ z=>by rw [z] at e1;rw [e1] at hd;cases hd
  rw [gc nb,aD nd,aD nb,aD nd]
  exact e1
 . rw [gc hn]
   exact ah
end L2
namespace Ord
open Bit
theorem wU:∀ W,W<16->parts (rooms W)=(List.range 16).filter (λ o=>decide (o &&& W=o)):=by decide +kernel
structure CU (n:Nat) (has:Nat->Bool) (wd:Nat->Int) (wt:Nat->Bool) (b:Nat) (most heap:Int) (o:Nat):Prop where
 has:∀ r∈rooms o,r<n/\has r=true
 fB:∀ r,r<n->wt r=true->o.testBit r=b.testBit r
 most:((rooms o).length:Int)<=most
 mZ:((rooms o).map wd).sum<=heap
def setOf (n:Nat) (p:Nat->Bool):Nat:=sumOf ((List.range n).filter p)
theorem iy (n:Nat) (p:Nat->Bool) (k:Nat):(setOf n p).testBit k=(decide (k<n) && p k):=by
 unfold setOf
 rw [mq]
 by_cases h:k<n<;>cases e:p k<;>simp [h,e]
theorem vC (n:Nat) (p:Nat->Bool):setOf n p<2 ^ n:=Gx λ r hr=>List.mem_range.mp (List.mem_filter.mp hr).1
theorem Ey {n:Nat} (p:Nat->Bool) (hn:n<=61):rooms (setOf n p)=(List.range n).filter p :=
 xQ (λ r hr=>by have:=List.mem_range.mp (List.mem_filter.mp hr).1;lia) ((apB).filter _)
theorem KA {o k:Nat} (h:o<16) (hk:4<=k):o.testBit k=false:=iR (m:=4) h hk
structure Gk (n:Nat) (has:Nat->Bool) (wd:Nat->Int) (wt:Nat->Bool) (b:Nat) (most heap:Int) (o:Nat):Prop where
 fB:o &&& setOf n wt=b &&& setOf n wt
 most:((rooms o).length:Int)<=most
 mZ:((rooms (o &&& setOf n has)).map wd).sum<=heap
section
variable {n:Nat} {has:Nat->Bool} {wd:Nat->Int} {wt:Nat->Bool} {b:Nat} {most heap:Int} {o:Nat}
theorem Dd (ho:o<2 ^ 61):o &&& setOf n has=o↔∀ r∈rooms o,r<n/\has r=true:=by
 constructor
 .
  intro e r hr
  have h2:=(dJ.mp hr).2
  rw [← e,afj,iy] at h2
  simp only [ac5,ae2] at h2
  exact h2.2
 .
  intro h
  refine aim λ k=>?_
  rw [afj,iy]
  by_cases hk:k<61
  .
   cases e:o.testBit k with
   | false=>rfl
   | true =>
     obtain ⟨h1,h2⟩:=h k (dJ.mpr ⟨hk,e⟩)
     rw [abY h1,h2];rfl
  . rw [iR ho (by lia)];rfl
theorem ym:o &&& setOf n wt=b &&& setOf n wt↔∀ r,r<n->wt r=true->o.testBit r=b.testBit r:=by
 constructor
 .
  intro e r hr hw
  have h:=amX (λ x=>Nat.testBit x r) e
  simp only [afj,iy,abY hr,hw,Bool.and_true] at h
  exact h
 .
  intro h
  refine aim λ k=>?_
  rw [afj,afj,iy]
  by_cases hk:k<n
  . cases e:wt k with
    | false=>simp
    | true=>rw [h k hk e]
  . rw [abC hk];simp
theorem FG (ho:o<2 ^ 61):CU n has wd wt b most heap o↔(o &&& setOf n has=o/\Gk n has wd wt b most heap o):=by
 constructor
 . rintro ⟨h1,h2,h3,h4⟩
   have e:=(Dd ho).mpr h1
   exact ⟨e,⟨ym.mpr h2,h3,by rw [e];exact h4⟩⟩
 . rintro ⟨e,h2,h3,h4⟩
   rw [e] at h4
   exact ⟨(Dd ho).mp e,ym.mp h2,h3,h4⟩
end
open Classical in
theorem Dp {n:Nat} (hn:n<=4) (has:Nat->Bool) (wd:Nat->Int) (wt:Nat->Bool) (b:Nat) (most heap:Int) (P L:Nat->Bool)
   (hP:∀ o,o<16->(P o=true↔Gk n has wd wt b most heap o)) (hL:∀ o,o<16->(L o=true↔CU n has wd wt b most heap o)) :
   (parts (rooms (setOf n has))).filter P=(List.range 16).filter L:=by
 have hW:setOf n has<16:=abE (vC n has) (aib (by decide) hn:2 ^ n<=2 ^ 4)
 rw [wU _ hW,List.filter_filter]
 refine List.filter_congr λ o ho=>?_
 have ho:o<16:=List.mem_range.mp ho
 have h61:o<2 ^ 61:=aoh ho (by decide)
 have:=(hL o ho).trans ((FG h61).trans (ao7 λ _=>(hP o ho).symm))
 rw [alm,ac5,ae2,this]
 exact And.comm
theorem sg (o k:Nat):(List.range (k+1)).filter o.testBit=(List.range k).filter o.testBit++if o.testBit k then [k] else []:=by
 rw [aeA,ag3]
 cases h:o.testBit k<;>simp [h]
end Ord
namespace L2
open PySem PySem.Spec PyProof.Rows Mth
variable {H:Hp} {i:Nat} {tm:aw}
section
variable {X:Cx}
inductive aei (K:W.Frag) (x:V) (lo:Option Int) (hi:Option Int) (H:Hp) (Q:VK):Prop
 | mk (a xs:_) (i:Nat) (_:x = .ref a) (_:bS K H a xs) (_:lo=some (i:Int)) (_:hi=none) (_:1<=i) (_:i<=xs.length) (_:∀ p,H p=none->Q (.ref p) (upd H p (.tup (xs.drop i))))
theorem Cj:SlR X (aei X.K):=by
 intro pins s U H x v vl vu lo hi sl Q I rx hs pl pu h
 obtain ⟨a,xs,i,rfl,hx,rfl,rfl,i1,i2,q⟩:=h
 cases rx
 cases pu
 cases pl
 obtain ⟨bG,r,ht,hz⟩:=I.tuple hx
 have hlen:=r.length
 refine ⟨"tuple",_,slot_tuple_getitem.lookup,ht.typeIs,getItem_tuple_from ht hs i1 (by rw [abR];lia) ?_ (by rw [abR];lia)⟩
 refine ⟨.ref s.heap.objs.size,_,I.laid (t':=s.toks) (o:=.tup (xs.drop i)) (λ b ob q=>YM _ q) (aar _) ?_,rfl,q _ (I.cq.fresh (aar _))⟩
 refine ⟨by rw [List.length_drop];lia,bG.drop i,r.drop i,⟨_,adt _ rfl,rfl,_,rfl⟩⟩
end
structure dY where
 bA:List Nat
 cT:Nat
 gG:List Nat
 failed:List Nat
 heap:Nat
def fz (K:W.Frag) (H:Hp) (p:Addr) (s:dY):Prop :=
 ∃ pb pw pf,bS K H p [.ref pb,aq s.cT,.ref pw,.ref pf,aq s.heap]/\bS K H pb (s.bA.map aq)/\bS K H pw (s.gG.map aq)/\bS K H pf (s.failed.map aq)
theorem fz.same {K:W.Frag} {H':Hp} {p:Addr} {s:dY} (h:fz K H p s) (q:aB H H'):fz K H' p s:=by
 obtain ⟨pb,pw,pf,a,b,c,d⟩:=h
 exact ⟨pb,pw,pf,q.tup a,q.tup b,q.tup c,q.tup d⟩
abbrev Stv:=cg×Int×Int×Int
def ap.tH (m:ap) (i:Nat):Option Stv:=(m.aF[i]?).getD none
def ap.has (m:ap) (i:Nat):Bool:=(m.tH i).isSome
def ap.wd (m:ap) (i:Nat):Int:=((m.tH i).map λ z=>z.2.1).getD 0
def ap.fB (m:ap) (i:Nat):Int:=((m.tH i).map λ z=>z.2.2.1).getD 0
def ap.fails (m:ap) (i:Nat):Int:=((m.tH i).map λ z=>z.2.2.2).getD 0
theorem mm {m:ap} (h:i<m.aF.length):m.aF[i]?=some (m.tH i):=by
 unfold ap.tH
 rw [av h];rfl
def sF:Option Stv->Bool->Nat->Nat->Prop
 | none,f,w,b=>f=false/\w=0/\b=0
 | some z,f,w,b=>(w:Int)<=z.2.2.1/\(b:Int)<=z.2.2.2/\(b=0∨(f=false/\w=0))
def gN (l:List Nat) (i:Nat):Nat:=(l[i]?).getD 0
theorem MX {l:List Nat} (h:i<l.length):l[i]?=some (gN l i):=by
 unfold gN
 rw [av h];rfl
theorem qi {l:List Nat} (h:i<l.length):tE (l.map aq) (i:Int)=some (aq (gN l i)):=bh (by rw [RS,MX h];rfl)
structure gD (m:ap) (s:dY):Prop where
 lb:s.bA.length=m.rows.length
 lw:s.gG.length=m.rows.length
 lf:s.failed.length=m.rows.length
 cT:s.cT<2 ^ m.rows.length
 most:((Bit.rooms s.cT).length:Int)<=m.most
 heap:(s.heap:Int)<=m.iU
 band:∀ i,i<m.rows.length->gN s.bA i+1<(m.rows.getD i []).length
 i3:∀ i,i<m.rows.length->sF (m.tH i) (s.cT.testBit i) (gN s.gG i) (gN s.failed i)
def ap.ws (m:ap):Nat:=Ord.setOf m.rows.length m.has
def dY.wt (s:dY) (i:Nat):Bool:=decide (0<gN s.gG i)
def dY.held (s:dY):Nat:=Ord.setOf s.gG.length s.wt
def ap.mZ (m:ap) (b:Nat):Int:=((Bit.rooms (b &&& m.ws)).map m.wd).sum
def ap.GX (m:ap) (o:Nat) (heap:Int):Bool:=decide (((Bit.rooms o).length:Int)<=m.most) && decide (m.mZ o<=heap)
def dY.EU (m:ap) (s:dY) (o:Nat):Bool:=decide (o &&& s.held=s.cT &&& s.held) && m.GX o s.heap
def dY.orders (m:ap) (s:dY):List Nat:=(Bit.parts (Bit.rooms m.ws)).filter (s.EU m)
theorem Ck {m:ap} (h:m.rows.length<=4):m.ws<16:=abE (Ord.vC _ _) (aib (by decide) h:2 ^ m.rows.length<=2 ^ 4)
section
variable (K:W.Frag) (C:Addr)
inductive xE  (vs:List V) (H:Hp) (Q:VK) (_E:XK):Prop
 | mk (n:Nat) (_:vs=[aq n]) (_:n<2 ^ 61) (_:∀ H',aB H H'->Q (aq (Bit.rooms n).length) H')
inductive Ek  (vs:List V) (H:Hp) (Q:VK) (_E:XK):Prop
 | mk (p l:_) (_:vs=[.ref p]) (_:bg K H p (l.map aq)) (_:(∀ r∈l,r<=1000)) (_:Q (aq (Bit.sumOf l)) H)
inductive tT  (vs:List V) (H:Hp) (Q:VK) (_E:XK):Prop
 | mk (v z f w b:_) (_:vs=[v,.bl f,aq w,aq b]) (_:Dn K H (ij z) v) (_:sF z f w b) (_:∀ H',aB H H'->Q (.bl true) H')
inductive w6  (vs:List V) (H:Hp) (Q:VK) (_E:XK):Prop
 | mk (a fp m p s:_) (i:Nat) (_:vs=[.ref a,.ref p,aq i]) (_:aR K C H a fp m) (_:fz K H p s) (_:gD m s) (_:i<m.rows.length) (_:∀ H',aB H H'->Q (.bl true) H')
inductive zv  (vs:List V) (H:Hp) (Q:VK) (_E:XK):Prop
 | mk (a fp m p s:_) (_:vs=[.ref a,.ref p]) (_:aR K C H a fp m) (_:fz K H p s) (_:gD m s) (_:∀ H',aB H H'->Q (.bl true) H')
inductive tV  (vs:List V) (H:Hp) (Q:VK) (_E:XK):Prop
 | mk (a fp m p s:_) (_:vs=[.ref a,.ref p]) (_:aR K C H a fp m) (_:fz K H p s) (_:gD m s) (_:∀ H',aB H H'->Q .bT H')
inductive um  (vs:List V) (H:Hp) (Q:VK) (_E:XK):Prop
 | mk (a fp m:_) (_:vs=[.ref a]) (_:aR K C H a fp m) (_:∀ H',aB H H'->Q (aq m.ws) H')
inductive Al  (vs:List V) (H:Hp) (Q:VK) (_E:XK):Prop
 | mk (a fp m:_) (b:Nat) (_:vs=[.ref a,aq b]) (_:aR K C H a fp m) (_:∀ H',aB H H'->Q (.int (m.mZ b)) H')
inductive wN  (vs:List V) (H:Hp) (Q:VK) (_E:XK):Prop
 | mk (p s:_) (_:vs=[.ref p]) (_:fz K H p s) (_:s.gG.length<=4) (_:∀ H',aB H H'->Q (aq s.held) H')
inductive yp  (vs:List V) (H:Hp) (Q:VK) (_E:XK):Prop
 | mk (a fp m:_) (o:Nat) (hp:Int) (_:vs=[.ref a,aq o,.int hp]) (_:aR K C H a fp m) (_:o<2 ^ 61) (_:∀ H',aB H H'->Q (.bl (m.GX o hp)) H')
inductive wK  (vs:List V) (H:Hp) (Q:VK) (_E:XK):Prop
 | mk (a fp m p s:_) (_:vs=[.ref a,.ref p]) (_:aR K C H a fp m) (_:fz K H p s) (_:gD m s) (_:∀ q H',H q=none->aB H H'->H' q=some (.lst ((s.orders m).map aq))->Q (.ref q) H')
end
theorem Dn.i3 {K:W.Frag} {v:V} {z:Stv} (h:Dn K H (ij (some z)) v):∃ p v1,v = .ref p/\bS K H p [v1,.int z.2.1,.int z.2.2.1,.int z.2.2.2]/\Dn K H (ek z.1) v1:=by
 obtain ⟨p,xs,rfl,hp,t1,r1,rfl,e1,t2,r2,rfl,e2,t3,r3,rfl,e3,t4,r4,rfl,e4,e5⟩:=h
 have e5:r4=[]:=e5
 have e2:t2 = .int z.2.1:=e2
 have e3:t3 = .int z.2.2.1:=e3
 have e4:t4 = .int z.2.2.2:=e4
 subst e2 e3 e4 e5
 exact ⟨p,t1,rfl,hp,e1⟩
theorem rV {n:Nat} (ok:tm.Ok n n) (hi:i<n):(tm.m2 n n).tH i=((tm.aF[i]?).getD none).map tm.jw:=by
 unfold ap.tH
 rw [(jV ok n (aar n)).2.2.1 i hi]
 cases tm.aF[i]? <;> rfl
structure Part (tm:aw) (n i:Nat) (bs ws fs:List Nat) (b:Nat):Prop where
 lb:bs.length=i
 lw:ws.length=i
 lf:fs.length=i
 cT:b<2 ^ i
 most:((Bit.rooms b).length:Int)<=tm.bounds.1
 band:∀ j,j<i->gN bs j+1<(tm.marks.getD j []).length
 i3:∀ j,j<i->sF ((tm.m2 n n).tH j) (b.testBit j) (gN ws j) (gN fs j)
theorem Part.zero {n:Nat} (ok:tm.Ok n n):Part tm n 0 [] [] [] 0:=by
 refine ⟨rfl,rfl,rfl,by decide,?_,nofun,nofun⟩
 have e:(Bit.rooms 0).length=0:=by decide
 rw [e]
 exact ok.bounds.1.1
theorem Ao {l:List Nat} {x j:Nat} (h:j<l.length):gN (l++[x]) j=gN l j:=by
 unfold gN
 rw [aeF h]
theorem Bo {l:List Nat} {x:Nat}:gN (l++[x]) l.length=x:=by
 unfold gN
 rw [aea (aar _),Nat.sub_self];rfl
theorem Part.next {n:Nat} {bs ws fs:List Nat} {b x w f:Nat} {lit:Bool} (h:Part tm n i bs ws fs b) (hi:i<61) (hx:x+1<(tm.marks.getD i []).length) (hf:sF ((tm.m2 n n).tH i) lit w f) (hm:lit=true->((Bit.rooms b).length:Int)<tm.bounds.1):Part tm n (i+1) (bs++[x]) (ws++[w]) (fs++[f]) (if lit then b+2 ^ i else b)/\(Bit.rooms (if lit then b+2 ^ i else b)).length=(Bit.rooms b).length+(if lit then 1 else 0):=by
 have hbi:b.testBit i=false:=Bit.iR h.cT (aar _)
 have hor:b+2 ^ i=b ||| 2 ^ i:=by
   have:=apb h.cT 1
   rw [apS] at this
   rw [aoi,this,Nat.or_comm]
 have mK:(if lit then b+2 ^ i else b)<2 ^ (i+1):=by
   have:=h.cT
   rw [apI]
   split<;>lia
 have hlen:(Bit.rooms (if lit then b+2 ^ i else b)).length=(Bit.rooms b).length+(if lit then 1 else 0):=by
   cases lit with
   | false=>rfl
   | true =>
     show (Bit.rooms (b+2 ^ i)).length=_+1
     rw [hor,Bit.Gn hi hbi]
 have hold:∀ j,j<i->(if lit then b+2 ^ i else b).testBit j=b.testBit j:=λ j hj=>by
   cases lit with
   | false=>rfl
   | true =>
     show (b+2 ^ i).testBit j=_
     rw [aoi]
     exact Nat.testBit_two_pow_add_gt hj b
 have AT:(if lit then b+2 ^ i else b).testBit i=lit:=by
   cases lit with
   | false=>exact hbi
   | true =>
     show (b+2 ^ i).testBit i=_
     rw [aoi,Nat.testBit_two_pow_add_eq,hbi];rfl
 refine ⟨⟨by rw [aas,h.lb];rfl,by rw [aas,h.lw];rfl,by rw [aas,h.lf];rfl,mK,?_,λ j hj=>?_,λ j hj=>?_⟩,hlen⟩
 .
  rw [hlen]
  have:=h.most
  cases lit with
  | false=>exact this
  | true =>
    have:=hm rfl
    show (((Bit.rooms b).length+1:Nat):Int)<=_
    lia
 .
  by_cases e:j<i
  . rw [Ao (by rw [h.lb];exact e)];exact h.band j e
  . obtain rfl:j=i:=by lia
    have:gN (bs++[x]) j=x:=by rw [← h.lb];exact Bo
    rw [this];exact hx
 .
  by_cases e:j<i
  . rw [Ao (by rw [h.lw];exact e),Ao (by rw [h.lf];exact e),hold j e];exact h.i3 j e
  . obtain rfl:j=i:=by lia
    have e1:gN (ws++[w]) j=w:=by rw [← h.lw];exact Bo
    have e2:gN (fs++[f]) j=f:=by rw [← h.lf];exact Bo
    rw [e1,e2,AT];exact hf
theorem Part.ok {n:Nat} {bs ws fs:List Nat} {b:Nat} {hp:Nat} (ok:tm.Ok n n) (h:Part tm n n bs ws fs b) (hh:(hp:Int)<=tm.bounds.2.1):gD (tm.m2 n n) ⟨bs,b,ws,fs,hp⟩:=by
 obtain ⟨f1,f2,f3,f4⟩:=dh tm n n
 have hl:(tm.m2 n n).rows.length=n:=by rw [f1,At,abX,ok.lm];lia
 refine ⟨by rw [hl];exact h.lb,by rw [hl];exact h.lw,by rw [hl];exact h.lf,by rw [hl];exact h.cT,by rw [f2];exact h.most,by rw [f3];exact hh,λ i hi=>?_,λ i hi=>?_⟩
 .
  rw [hl] at hi
  have hb:=h.band i hi
  have sW:i<tm.marks.length:=by rw [ok.lm];exact hi
  rw [f1,Nv,RS,an0 hi,av sW]
  rw [Nv,av sW] at hb
  show _<(tm.row tm.marks[i]).length
  unfold aw.row
  rw [At]
  exact hb
 . rw [hl] at hi
   exact h.i3 i hi
def tG (tm:aw) (n:Nat) (s:dY) (o:Nat):Prop:=Ord.CU n (tm.m2 n n).has (tm.m2 n n).wd s.wt s.cT tm.bounds.1 s.heap o
inductive zj (K:W.Frag) (vs:List V) (H:Hp) (Q:VK) (_E:XK):Prop
 | mk (p tm:_) (n:Nat) (c:Int) (k:Nat) (_:vs=[.ref p,.int c,aq k]) (_:fA K H p tm) (_:tm.Ok n n) (_:n<=4) (_:k<=900) (_:∀ q s H',aB H H'->fz K H' q s->gD (tm.m2 n n) s->Q (.ref q) H')
inductive Dt (K:W.Frag) (vs:List V) (H:Hp) (Q:VK) (_E:XK):Prop
 | mk (p tm:_) (n:Nat) (q s:_) (o:Nat) (_:vs=[.ref p,.ref q,aq o]) (_:fA K H p tm) (_:tm.Ok n n) (_:n<=4) (_:fz K H q s) (_:s.gG.length=n) (_:(tG tm n s o->Q (.bl true) H)) (_:(¬ tG tm n s o->Q (.bl false) H))
end L2
namespace Ord
open Bit
theorem TU:∀ x,x<16->∀ y,y<16->x - (x &&& y)=x ^^^ (x &&& y):=by decide +kernel
def off (x y:Nat):Nat:=x - (x &&& y)
theorem oS {x y:Nat} (hx:x<16) (hy:y<16) (k:Nat):(off x y).testBit k=(x.testBit k && !y.testBit k):=by
 unfold off
 rw [TU x hx y hy,Nat.testBit_xor,afj]
 cases x.testBit k<;>cases y.testBit k<;>rfl
theorem NN {x y n:Nat} (hx:x<2 ^ n):off x y<2 ^ n:=afX (Nat.sub_le _ _) hx
theorem L4 {n x:Nat} (hn:n<=4) (h:x<2 ^ n):x<16:=abE h (aib (by decide) hn:2 ^ n<=2 ^ 4)
theorem less {wd:Nat->Int} (h0:∀ r,0<=wd r) {p q:Nat->Bool} (h:∀ x,p x=true->q x=true):∀ l:List Nat,(l.filter p).length<=(l.filter q).length/\((l.filter p).map wd).sum<=((l.filter q).map wd).sum
 | []=>⟨aar _,anq _⟩
 | x::l=>by
   obtain ⟨a,b⟩:=less h0 h l
   have:=h0 x
   by_cases hp:p x=true
   . rw [aot hp,aot (h x hp)]
     simp only [acq,aeC,apv]
     lia
   .
    by_cases hq:q x=true
    . rw [aou hp,aot hq]
      simp only [acq,aeC,apv]
      lia
    . rw [aou hp,aou hq]
      exact ⟨a,b⟩
theorem Bg {wd:Nat->Int} (h0:∀ r,0<=wd r) {a b:Nat} (h:∀ x,a.testBit x=true->b.testBit x=true):(rooms a).length<=(rooms b).length/\((rooms a).map wd).sum<=((rooms b).map wd).sum:=less h0 h _
structure Hd where
 n:Nat
 has:Nat->Bool
 wd:Nat->Int
 wt:Nat->Bool
 b:Nat
 most:Int
 heap:Int
def Hd.ws (h:Hd):Nat:=setOf h.n h.has
def Hd.held (h:Hd):Nat:=setOf h.n h.wt
def Hd.mZ (h:Hd) (o:Nat):Int:=((rooms (o &&& h.ws)).map h.wd).sum
def Hd.GX (h:Hd) (o:Nat):Bool:=decide (((rooms o).length:Int)<=h.most) && decide (h.mZ o<=h.heap)
def Hd.step (h:Hd) (o r:Nat):Nat:=if h.GX (o ||| 2 ^ r) then o ||| 2 ^ r else o
def Hd.first (h:Hd):Nat:=h.b &&& h.held
def Hd.go (h:Hd) (mj:Nat):Nat:=(rooms (off (mj &&& h.ws) h.held)).foldl h.step h.first
def Hd.may (h:Hd) (mj r:Nat):Bool:=mj.testBit r && h.has r && !h.wt r
structure Hd.Ok (h:Hd):Prop where
 n4:h.n<=4
 cT:h.b<2 ^ h.n
 sub:∀ r,h.b.testBit r=true->h.has r=true
 most:((rooms h.b).length:Int)<=h.most
 wd0:∀ r,0<=h.wd r
section
variable {h:Hd} {mj i r o:Nat}
structure Hd.In (h:Hd) (i o:Nat):Prop where
 sub:∀ r,o.testBit r=true->r<h.n/\h.has r=true
 held:∀ r,r<h.n->h.wt r=true->o.testBit r=h.b.testBit r
 as2:∀ r,i<=r->h.wt r=false->o.testBit r=false
def Hd.Law (h:Hd) (o:Nat):Prop:=CU h.n h.has h.wd h.wt h.b h.most h.heap o
end
end Ord
namespace L2
open PySem PySem.Spec PyProof.Rows Mth
variable {B R xw:Int} {C:Addr} {D:L2.Ends} {H H' H0:Hp} {YI a2 a3 a4 a5 a6 a7 a8 a9:TS} {fp xo Kf kd:List Addr} {g:TG} {i:Nat} {l zs:List Int} {ma:ap} {tm:aw} {v:V}
theorem kR (x y:Nat):Builtin.bitAnd (x:Int) (Builtin.bitNot (y:Int))=((Ord.off x y:Nat):Int):=by
 have e:Builtin.bitNot (Builtin.bitNot (y:Int))=(y:Int):=by unfold Builtin.bitNot;lia
 have n:¬ (0:Int)<=Builtin.bitNot (y:Int):=by unfold Builtin.bitNot;lia
 have p:(0:Int)<=(x:Int):=amz _
 unfold Builtin.bitAnd
 rw [abY p,abC n]
 show (x:Int) - _=_
 rw [e,aff,aff]
 have:=apc (n:=x) (m:=y)
 unfold Ord.off
 lia
def Mv (m:ap) (s:dY):Ord.Hd:=⟨m.rows.length,m.has,m.wd,s.wt,s.cT,m.most,s.heap⟩
theorem IL {n o:Nat} {s:dY} (ok:tm.Ok n n) (so:gD (tm.m2 n n) s):tG tm n s o↔(Mv (tm.m2 n n) s).Law o:=by
 obtain ⟨f1,f2,f3,f4⟩:=dh tm n n
 have hl:(tm.m2 n n).rows.length=n:=by rw [f1,At,abX,ok.lm];lia
 unfold tG Ord.Hd.Law Mv
 rw [hl,f2]
def dY.may (m:ap) (s:dY) (o:Nat):Nat:=Ord.setOf m.rows.length λ r=>o.testBit r && !s.cT.testBit r && decide ((gN s.failed r:Int)<m.fails r)
def dY.iV (m:ap) (s:dY) (b i:Nat):Nat:=if s.cT.testBit i=b.testBit i then gN s.gG i - 1 else (m.fB i).toNat
def dY.jS (s:dY) (b out i:Nat):Nat:=if out.testBit i then gN s.failed i+1 else if b.testBit i then 0 else gN s.failed i
def dY.gF (m:ap) (s:dY) (b:Nat):Int:=min m.iU ((s.heap:Int) - m.mZ b+m.load)
def dY.behind (m:ap) (s:dY) (bA:List Nat) (o out:Nat):dY :=
 ⟨bA,Ord.off o out,(List.range m.rows.length).map (s.iV m (Ord.off o out)),(List.range m.rows.length).map (s.jS (Ord.off o out) out),(s.gF m (Ord.off o out)).toNat⟩
section
variable (K:W.Frag) (C:Addr)
inductive rG  (vs:List V) (H:Hp) (Q:VK) (_E:XK):Prop
 | mk (a fp m p s:_) (o:Nat) (_:vs=[.ref a,.ref p,aq o]) (_:aR K C H a fp m) (_:fz K H p s) (_:gD m s) (_:o &&& m.ws=o) (_:∀ H',aB H H'->Q (aq (s.may m o)) H')
inductive sQ  (vs:List V) (H:Hp) (Q:VK) (_E:XK):Prop
 | mk (a fp m p s:_) (b i:Nat) (_:vs=[.ref a,.ref p,aq b,aq i]) (_:aR K C H a fp m) (_:fz K H p s) (_:gD m s) (_:i<m.rows.length) (_:(s.cT.testBit i≠b.testBit i->m.has i=true)) (_:0<=m.fB i) (_:Q (aq (s.iV m b i)) H)
inductive pZ  (vs:List V) (H:Hp) (Q:VK) (_E:XK):Prop
 | mk (p s:_) (b out i:Nat) (_:vs=[.ref p,aq b,aq out,aq i]) (_:fz K H p s) (_:i<s.failed.length) (_:Q (aq (s.jS b out i)) H)
inductive uy  (vs:List V) (H:Hp) (Q:VK) (_E:XK):Prop
 | mk (a fp m p s:_) (o out:Nat) (_:vs=[.ref a,.ref p,aq o,aq out]) (_:aR K C H a fp m) (_:fz K H p s) (_:gD m s) (_:(∀ i,s.cT.testBit i≠(Ord.off o out).testBit i->m.has i=true)) (_:(∀ i,0<=m.fB i)) (_:0<=s.gF m (Ord.off o out)) (_:∀ q pw pf H',aB H H'->H' q=some (.tup [aq (Ord.off o out),.ref pw,.ref pf,aq (s.gF m (Ord.off o out)).toNat])->H' pw=some (.tup (((List.range m.rows.length).map (s.iV m (Ord.off o out))).map aq))->H' pf=some (.tup (((List.range m.rows.length).map (s.jS (Ord.off o out) out)).map aq))->Q (.ref q) H')
end
theorem Nf {m:ap} {s:dY} {o:Nat} (h4:m.rows.length<=4) (ok:gD m s) (ho:o &&& m.ws=o) :
   Bit.sumOf ((Bit.rooms (Ord.off o s.cT)).filter λ r=>decide ((gN s.failed r:Int)<m.fails r))=s.may m o:=by
 have pX:o<16:=by rw [← ho];exact afX aoy (Ck h4)
 have b16:s.cT<16:=Ord.L4 h4 ok.cT
 have mK:o<2 ^ m.rows.length:=by rw [← ho];exact afX aoy (Ord.vC _ _)
 refine aim λ k=>?_
 rw [Bit.mq,dY.may,Ord.iy]
 rw [alm,ae2,aof,Bit.dJ,Ord.oS pX b16]
 simp only [ac5,ae2]
 constructor
 .
  rintro ⟨⟨_,h1,h2⟩,h3⟩
  refine ⟨?_,⟨h1,h2⟩,h3⟩
  by_cases q:k<m.rows.length
  . exact q
  . rw [Bit.iR mK (by lia)] at h1;cases h1
 . rintro ⟨h0,⟨h1,h2⟩,h3⟩
   exact ⟨⟨by lia,h1,h2⟩,h3⟩
theorem DF {m:ap} {o r:Nat} (ho:o &&& m.ws=o) (hr:o.testBit r=true):r<m.rows.length/\m.has r=true:=by
 rw [← ho,afj,ap.ws,Ord.iy] at hr
 simp only [ac5,ae2] at hr
 exact hr.2
theorem rP {m:ap} {r:Nat} (h:m.has r=true):∃ z,m.tH r=some z:=Option.isSome_iff_exists.mp h
theorem ye {f:Nat->Nat} {n:Nat} (h:i<n):gN ((List.range n).map f) i=f i:=by
 unfold gN
 rw [RS,apU h];rfl
structure cp (m:ap) (s:dY) (o out:Nat):Prop where
 h4:m.rows.length<=4
 ok:gD m s
 Yb:(Mv m s).Law o
 pX:o<16
 iX:out<16
 sub:∀ r,out.testBit r=true->o.testBit r=true/\s.cT.testBit r=false/\(gN s.failed r:Int)<m.fails r
 wd0:∀ r,0<=m.wd r
 GU:∀ r,0<=m.fB r
 acf:0<=m.iU
 UY:0<=m.load
section
variable {m:ap} {s:dY} {o out r:Nat}
theorem cp.bit (t:cp m s o out) (r:Nat):(Ord.off o out).testBit r=(o.testBit r && !out.testBit r):=Ord.oS t.pX t.iX r
theorem cp.Ic (t:cp m s o out) (h:o.testBit r=true):r<m.rows.length/\m.has r=true:=by
 have hr:r<61:=by
   by_cases q:r<61
   . exact q
   . rw [Ord.KA t.pX (by lia)] at h;cases h
 exact t.Yb.has r (Bit.dJ.mpr ⟨hr,h⟩)
theorem cp.Lp (t:cp m s o out) (h:(Ord.off o out).testBit r=true):o.testBit r=true/\out.testBit r=false:=by
 rw [t.bit] at h
 simp only [ac5,aob] at h
 exact h
theorem cp.has (t:cp m s o out) (h:s.cT.testBit r≠(Ord.off o out).testBit r):m.has r=true:=by
 cases hb:(Ord.off o out).testBit r with
 | true=>exact (t.Ic (t.Lp hb).1).2
 | false =>
   rw [hb] at h
   have hs:s.cT.testBit r=true:=by cases q:s.cT.testBit r with|true=>rfl|false=>exact absurd q h
   have hr:r<m.rows.length:=by
     by_cases q:r<m.rows.length
     . exact q
     . rw [Bit.iR t.ok.cT (by lia)] at hs;cases hs
   have:=t.ok.i3 r hr
   unfold ap.has
   cases e:m.tH r with
   | some z=>rfl
   | none=>rw [e] at this;rw [this.1] at hs;cases hs
theorem cp.lit (t:cp m s o out) (h:out.testBit r=true):gN s.gG r=0/\(Ord.off o out).testBit r=false:=by
 obtain ⟨h1,h2,h3⟩:=t.sub r h
 have hr:=(t.Ic h1).1
 constructor
 .
  by_cases w:gN s.gG r=0
  . exact w
  . have hw:s.wt r=true:=abY (by lia)
    have e:o.testBit r=s.cT.testBit r:=t.Yb.fB r hr hw
    rw [h1,h2] at e;cases e
 . rw [t.bit,h];simp
theorem cp.fits (t:cp m s o out) (hr:r<m.rows.length):sF (m.tH r) ((Ord.off o out).testBit r) (s.iV m (Ord.off o out) r) (s.jS (Ord.off o out) out r):=by
 have old:=t.ok.i3 r hr
 have aic:=t.GU r
 cases e:m.tH r with
 | none =>
   rw [e] at old
   obtain ⟨o1,o2,o3⟩:=old
   have nh:m.has r=false:=by unfold ap.has;rw [e];rfl
   have hb:(Ord.off o out).testBit r=false:=by
     cases q:(Ord.off o out).testBit r with
     | false=>rfl
     | true=>rw [(t.Ic (t.Lp q).1).2] at nh;cases nh
   have ho:out.testBit r=false:=by
     cases q:out.testBit r with
     | false=>rfl
     | true=>rw [(t.Ic (t.sub r q).1).2] at nh;cases nh
   refine ⟨hb,?_,?_⟩
   . unfold dY.iV
     rw [o1,hb,abl rfl,o2]
   . unfold dY.jS
     rw [ho,hb,o3];rfl
 | some z =>
   rw [e] at old
   obtain ⟨o1,o2,o3⟩:=old
   have es:m.fB r=z.2.2.1:=by unfold ap.fB;rw [e];rfl
   have ef:m.fails r=z.2.2.2:=by unfold ap.fails;rw [e];rfl
   refine ⟨?_,?_,?_⟩
   . unfold dY.iV
     split
     . lia
     . rw [ahT aic,es];exact anq _
   .
    unfold dY.jS
    split
    . rename_i ho
      have:=(t.sub r ho).2.2
      rw [ef] at this
      lia
    . split<;>lia
   .
    cases ho:out.testBit r with
    | true =>
      obtain ⟨l1,l2⟩:=t.lit ho
      refine .inr ⟨l2,?_⟩
      unfold dY.iV
      rw [l2,(t.sub r ho).2.1,abl rfl,l1]
    | false =>
      cases hb:(Ord.off o out).testBit r with
      | true=>exact .inl (by unfold dY.jS;rw [ho,hb];rfl)
      | false =>
        have ef2:s.jS (Ord.off o out) out r=gN s.failed r:=by unfold dY.jS;rw [ho,hb];rfl
        rw [ef2]
        rcases o3 with q|⟨q1,q2⟩
        . exact .inl q
        . refine .inr ⟨rfl,?_⟩
          unfold dY.iV
          rw [q1,hb,abl rfl,q2]
theorem cp.less (t:cp m s o out):(Bit.rooms (Ord.off o out)).length<=(Bit.rooms o).length/\((Bit.rooms (Ord.off o out)).map m.wd).sum<=((Bit.rooms o).map m.wd).sum :=
 Ord.Bg t.wd0 λ _ hx=>(t.Lp hx).1
theorem cp.and (t:cp m s o out):Ord.off o out &&& m.ws=Ord.off o out:=by
 refine aim λ k=>?_
 rw [afj,ap.ws,Ord.iy]
 cases e:(Ord.off o out).testBit k with
 | false=>rfl
 | true =>
   obtain ⟨a,b⟩:=t.Ic (t.Lp e).1
   rw [abY a,b];rfl
theorem cp.mZ (t:cp m s o out):m.mZ (Ord.off o out)=((Bit.rooms (Ord.off o out)).map m.wd).sum:=by
 unfold ap.mZ
 rw [t.and]
theorem cp.KL (t:cp m s o out):((Bit.rooms (Ord.off o out)).map m.wd).sum<=(s.heap:Int):=by
 have:=t.less.2
 have q:((Bit.rooms o).map m.wd).sum<=(s.heap:Int):=t.Yb.mZ
 lia
theorem cp.G5 (t:cp m s o out):0<=s.gF m (Ord.off o out):=by
 have:=t.KL
 have:=t.acf
 have:=t.UY
 unfold dY.gF
 rw [t.mZ]
 lia
theorem cp.lt (t:cp m s o out):Ord.off o out<2 ^ m.rows.length:=aom _ λ k hk=>by
 cases e:(Ord.off o out).testBit k with
 | false=>rfl
 | true=>have:=(t.Ic (t.Lp e).1).1;lia
theorem cp.next (t:cp m s o out) {bA:List Nat} (lb:bA.length=m.rows.length) (hb:∀ i,i<m.rows.length->gN bA i+1<(m.rows.getD i []).length):gD m (s.behind m bA o out):=by
 have h0:=t.G5
 refine ⟨lb,by simp [dY.behind],by simp [dY.behind],t.lt,?_,?_,hb,λ i hi=>?_⟩
 .
  have a:=t.less.1
  have b:((Bit.rooms o).length:Int)<=m.most:=t.Yb.most
  show ((Bit.rooms (Ord.off o out)).length:Int)<=m.most
  lia
 .
  show (((s.gF m (Ord.off o out)).toNat:Nat):Int)<=m.iU
  rw [ahT h0]
  unfold dY.gF
  lia
 . show sF (m.tH i) ((Ord.off o out).testBit i) (gN ((List.range m.rows.length).map (s.iV m (Ord.off o out))) i) (gN ((List.range m.rows.length).map (s.jS (Ord.off o out) out)) i)
   rw [ye hi,ye hi]
   exact t.fits hi
end
theorem LN {n:Nat} (ok:tm.Ok n n) (r:Nat):0<=(tm.m2 n n).fB r/\0<=(tm.m2 n n).wd r/\(0<=(tm.m2 n n).fails r):=by
 unfold ap.fB ap.wd ap.fails
 by_cases h:r<n
 .
  rw [rV ok h]
  have nR:r<tm.aF.length:=by rw [ok.lt];exact h
  rw [av nR]
  cases e:tm.aF[r] with
  | none=>exact ⟨anq _,anq _,anq _⟩
  | some z =>
    have q:=ok.aF z (by rw [← e];exact aaA nR)
    exact ⟨q.s.1,q.w.1,q.f.1⟩
 .
  have:(tm.m2 n n).tH r=none:=by
    unfold ap.tH
    rw [List.getElem?_eq_none (by rw [(jV ok n (aar n)).2.2.2.2.1];lia)];rfl
  rw [this]
  exact ⟨anq _,anq _,anq _⟩
abbrev Pr:=cg×cg
def fb (ds:List Pr):Int×Int:=ds.foldl (λ s d=>(s.1 * (d.1.2 * d.2.2)+d.1.1 * d.2.1 * s.2,s.2 * (d.1.2 * d.2.2))) (0,1)
theorem oT (ds:List Pr) (d:Pr):fb (ds++[d])=((fb ds).1 * (d.1.2 * d.2.2)+d.1.1 * d.2.1 * (fb ds).2,(fb ds).2 * (d.1.2 * d.2.2)):=by
 unfold fb
 rw [ai6];rfl
structure A8 (n k:Nat) (d:Pr):Prop where
 a:eA n d.1
 b:eA k d.2
theorem Av (ds:List Pr) (h:∀ d∈ds,A8 900 900 d):∀ j,j<=ds.length->Bd (1802 * j+2) (fb (ds.take j)).1/\Bd (1800 * j+1) (fb (ds.take j)).2/\0<(fb (ds.take j)).2
 | 0,_=>⟨by show Int.natAbs 0<_;decide,by show Int.natAbs 1<_;decide,by show (0:Int)<1;decide⟩
 | j+1,hj=>by
   obtain ⟨a,b,c⟩:=Av ds h j (by lia)
   have hd:=h ds[j] (aaA (by lia))
   have et:ds.take (j+1)=ds.take j++[ds[j]]:=by rw [amE,av (by lia)];rfl
   rw [et,oT]
   generalize ds[j]=d at hd
   generalize fb (ds.take j)=s at a b c
   have bb:Bd 1800 (d.1.2 * d.2.2):=(hd.a.b.mul hd.b.b).mono (by decide)
   have bt:Bd 1800 (d.1.1 * d.2.1):=(hd.a.t.mul hd.b.t).mono (by decide)
   refine ⟨?_,(b.mul bb).mono (by lia),ae7 c (ae7 hd.a.p hd.b.p)⟩
   have x1:Bd (1802 * j+2+1800) (s.1 * (d.1.2 * d.2.2)):=a.mul bb
   have x2:Bd (1802 * j+2+1800) (d.1.1 * d.2.1 * s.2):=(bt.mul b).mono (by lia)
   exact (x1.add x2).mono (by lia)
theorem Ch {ds:List Pr} (h:∀ d∈ds,A8 900 900 d):0<(fb ds).2:=by
 have:=(Av ds h ds.length (aar _)).2.2
 rw [agc] at this
 exact this
theorem qU {n:Nat}:∀ (es ds:List Pr) {k:Nat},(∀ d∈es,Bd n (d.1.2 * d.2.2))->Bd k (fb ds).2->Bd (k+n * es.length) (fb (ds++es)).2
 | [],ds,k,_,h=>by rw [aji];exact h.mono (by lia)
 | e::es,ds,k,he,h=>by
   have e1:ds++e::es=(ds++[e])++es:=by rw [aoU];rfl
   rw [e1]
   have h2:Bd (k+n) (fb (ds++[e])).2:=by
     rw [oT]
     exact h.mul (he e adY)
   have:=qU es (ds++[e]) (λ d hd=>he d (abO _ hd)) h2
   refine this.mono ?_
   rw [acq,Nat.mul_succ]
   lia
theorem V1 {t b t' b':Int} (hb:0<b) (Yi:0<b') (h:t * b'=t' * b):nf t b=nf t' b':=by
 have F:=ip (t:=t) hb
 have G:=ip (t:=t') Yi
 have c1:(nf t b).1 * b=t * (nf t b).2:=F.jT
 have c2:(nf t' b').1 * b'=t' * (nf t' b').2:=G.jT
 have p1:=F.pos
 have p2:=G.pos
 have k1:=F.Ye
 have k2:=G.Ye
 generalize nf t b=u at c1 p1 k1 ⊢
 generalize nf t' b'=v at c2 p2 k2 ⊢
 have e:u.1 * v.2=v.1 * u.2:=by
   have hz:b * b'≠0:=ann (ae7 hb Yi)
   refine aiK hz ?_
   grind
 have d1:u.2 ∣ v.2:=rn (q:=u.1) ⟨v.1,by rw [e,an2]⟩ k1
 have d2:v.2 ∣ u.2:=rn (q:=v.1) ⟨u.1,by rw [← e,an2]⟩ k2
 have er:u.2=v.2:=Int.dvd_antisymm (ajz p1) (ajz p2) d1 d2
 rw [← er] at e
 exact Prod.ext (aiK (ann p1) e) er
abbrev FH (d:Pr):PyData:=.tuple [ek d.1,ek d.2]
theorem qX (d:Pr):fu (FH d)=true:=by simp [FH,ek,fu]
theorem ss (ds:List Pr):∀ e∈ds.map FH,fu e=true:=λ e he=>by
 obtain ⟨d,_,rfl⟩:=List.mem_map.mp he
 exact qX d
inductive Mu (K:W.Frag) (vs:List V) (H:Hp) (Q:VK) (_E:XK):Prop
 | mk (p xs ds:_) (_:vs=[.ref p]) (_:bg K H p xs) (_:cf K H (ds.map FH) xs) (_:(∀ d∈ds,A8 900 900 d)) (_:ds.length<=10) (_:Bd 4000 (fb ds).2) (_:∀ q H',aB H H'->H' q=some (.tup [.int (nf (fb ds).1 (fb ds).2).1,.int (nf (fb ds).1 (fb ds).2).2])->Q (.ref q) H')
def dG (m:ap) (i:Nat) (airs:List cg):List Pr:=(List.range airs.length).map λ j=>(m.share i j,airs.getD j (0,1))
def gh (m:ap) (i:Nat) (airs:List cg) (w:cg) (fired:Bool):List Pr:=dG m i airs++[(m.eV i,w)]++(if fired then [((1,1),((m.aF[i]?).getD none).map (·.1) |>.getD (0,1))] else [])
def kz (m:ap) (i:Nat) (airs:List cg) (w:cg) (fired:Bool):cg:=nf (fb (gh m i airs w fired)).1 (fb (gh m i airs w fired)).2
inductive Eb (K:W.Frag) (C:Addr) (vs:List V) (H:Hp) (Q:VK) (_E:XK):Prop
 | mk (a fp m:_) (i:Nat) (pa Pk airs wv w fired:_) (_:vs=[.ref a,aq i,.ref pa,wv,.bl fired]) (_:aR K C H a fp m) (_:i<m.rows.length) (_:bg K H pa Pk) (_:cf K H (airs.map ek) Pk) (_:airs.length=m.rows.length) (_:(∀ f∈airs,eA 120 f)) (_:Dn K H (ek w) wv) (_:eA 120 w) (_:(fired=true->∃ z,m.aF[i]?=some (some z))) (_:∀ q H',aB H H'->H' q=some (.tup [.int (kz m i airs w fired).1,.int (kz m i airs w fired).2])->Q (.ref q) H')
theorem FY {m:ap} (w:m.Wf) (h4:m.rows.length<=4) (i j:Nat):eA 605 (m.share i j):=by
 unfold ap.share
 split
 . exact (w.gj i _).mono (by lia)
 . exact (w.fo i j).mono (by decide)
theorem qm {m:ap} {airs:List cg} {w:cg} {fired:Bool} (wf:m.Wf) (h4:m.rows.length<=4) (la:airs.length=m.rows.length) (ha:∀ f∈airs,eA 120 f) (hw:eA 120 w) (hz:fired=true->∃ z,m.aF[i]?=some (some z)) :
   (∀ d∈gh m i airs w fired,A8 900 900 d)/\(gh m i airs w fired).length<=10/\Bd 4000 (fb (gh m i airs w fired)).2:=by
 have r1:∀ d∈dG m i airs,A8 605 120 d:=λ d hd=>by
   obtain ⟨j,hj,rfl⟩:=List.mem_map.mp hd
   have hj:=List.mem_range.mp hj
   refine ⟨FY wf h4 i j,?_⟩
   show eA 120 (airs.getD j (0,1))
   rw [Nv,av hj]
   exact ha _ (aaA hj)
 have lr:(dG m i airs).length<=4:=by unfold dG;rw [At,acT];lia
 have s1:A8 100 120 (m.eV i,w):=⟨wf.eV i,hw⟩
 have h0:Bd 1 (fb []).2:=by show Int.natAbs 1<2 ^ 1;decide
 have b1:Bd (1+725 * (dG m i airs).length) (fb (dG m i airs)).2:=qU (n:=725) (dG m i airs) [] (λ d hd=>(r1 d hd).a.b.mul (r1 d hd).b.b) h0
 have b2:Bd (2901+220 * 1) (fb (dG m i airs++[(m.eV i,w)])).2:=qU (n:=220) [(m.eV i,w)] (dG m i airs) (λ d hd=>by rw [List.mem_singleton.mp hd];exact s1.a.b.mul s1.b.b) (b1.mono (by lia))
 unfold gh
 cases fired with
 | false =>
   rw [aa8 aaR,aji]
   refine ⟨λ d hd=>?_,by rw [aas];simp only [acq,am8];lia,b2.mono (by decide)⟩
   rcases List.mem_append.mp hd with h|h
   . exact ⟨(r1 d h).a.mono (by decide),(r1 d h).b.mono (by decide)⟩
   . rw [List.mem_singleton.mp h];exact ⟨s1.a.mono (by decide),s1.b.mono (by decide)⟩
 | true =>
   obtain ⟨z,ez⟩:=hz rfl
   rw [abl rfl,ez]
   have oz:eA 100 z.1:=wf.aF z (ac8 ez)
   have s2:A8 2 100 (((1,1),z.1):Pr):=⟨⟨by show Int.natAbs 1<2 ^ 2;decide,by show Int.natAbs 1<2 ^ 2;decide,by show (0:Int)<1;decide⟩,oz⟩
   have b3:Bd (3121+102 * 1) (fb ((dG m i airs++[(m.eV i,w)])++[((1,1),z.1)])).2:=qU (n:=102) [((1,1),z.1)] _ (λ d hd=>by rw [List.mem_singleton.mp hd];exact s2.a.b.mul s2.b.b) b2
   refine ⟨λ d hd=>?_,by rw [aas,aas];simp only [acq,am8];lia,b3.mono (by decide)⟩
   rcases List.mem_append.mp hd with h|h
   . rcases List.mem_append.mp h with h|h
     . exact ⟨(r1 d h).a.mono (by decide),(r1 d h).b.mono (by decide)⟩
     . rw [List.mem_singleton.mp h];exact ⟨s1.a.mono (by decide),s1.b.mono (by decide)⟩
   . rw [List.mem_singleton.mp h];exact ⟨s2.a.mono (by decide),s2.b.mono (by decide)⟩
def OI (W C:Int) (s:Int×Int):Prop:=s.1 * W=C * s.2
theorem OI.next {W C c:Int} {ds:List Pr} {d:Pr} (h:OI W C (fb ds)) (hd:d.1.1 * d.2.1 * W=c * (d.1.2 * d.2.2)):OI W (C+c) (fb (ds++[d])):=by
 unfold OI at *
 rw [oT]
 generalize fb ds=s at h
 generalize d.1.2 * d.2.2=B at hd
 generalize d.1.1 * d.2.1=A at hd
 show (s.1 * B+A * s.2) * W=(C+c) * (s.2 * B)
 grind
def bL (f:Nat->Int):Nat->Int
 | 0=>0
 | t+1=>bL f t+f t
theorem sD {f g:Nat->Int}:∀ n,(∀ j,j<n->f j=g j)->bL f n=bL g n
 | 0,_=>rfl
 | n+1,h=>by
   show bL f n+f n=bL g n+g n
   rw [sD n λ j hj=>h j (by lia),h n (by lia)]
theorem yu {f:Nat->Int} {a b:Int} {k:Nat->Int}:∀ n,bL (λ j=>k j * (f j * a+b)) n=bL (λ j=>k j * f j) n * a+bL k n * b
 | 0=>by show (0:Int)=0 * a+0 * b;lia
 | n+1=>by
   show bL (λ j=>k j * (f j * a+b)) n+k n * (f n * a+b)=(bL (λ j=>k j * f j) n+k n * f n) * a+(bL k n+k n) * b
   rw [yu n]
   grind
theorem zu {fl x:Nat->Int}:∀ n,bL (λ j=>(if j=i then R else fl j) * x j) n=bL (λ j=>if j=i then 0 else fl j * x j) n+(if i<n then R * x i else 0)
 | 0=>by rw [aa8 (by lia)];rfl
 | n+1=>by
   show bL (λ j=>(if j=i then R else fl j) * x j) n+(if n=i then R else fl n) * x n=bL (λ j=>if j=i then 0 else fl j * x j) n+(if n=i then 0 else fl n * x n)+(if i<n+1 then R * x i else 0)
   rw [zu n]
   by_cases e:n=i
   . subst e
     rw [abl rfl,abl rfl,aa8 (by lia),abl (by lia)]
     skip
   . rw [aa8 e,aa8 e]
     by_cases l:i<n
     . rw [abl l,abl (by lia)];lia
     . rw [aa8 l,aa8 (by lia)];lia
theorem AN {fl:Nat->Int} (h0:fl i=0):∀ n,bL (λ j=>if j=i then R else fl j) n=bL fl n+(if i<n then R else 0)
 | 0=>by rw [aa8 (by lia)];rfl
 | n+1=>by
   show bL (λ j=>if j=i then R else fl j) n+(if n=i then R else fl n)=bL fl n+fl n+_
   rw [AN h0 n]
   by_cases e:n=i
   . subst e
     rw [abl rfl,aa8 (by lia),abl (by lia),h0]
   . rw [aa8 e]
     by_cases l:i<n
     . rw [abl l,abl (by lia)];lia
     . rw [aa8 l,aa8 (by lia)];lia
def aw.iL (tm:aw) (i:Nat):Int:=((tm.dE[i]?).map (·.1)).getD 0
def aw.eG (tm:aw) (i j:Nat):Int:=if i=j then 0 else (tm.bI i j).getD 0
theorem Jy {n:Nat} (ok:tm.Ok n n) (i:Nat) (hi:i<n):Ov 12 (tm.iL i) ((tm.m2 n n).eV i)/\(∀ j,j<n->j≠i->Ov 12 (tm.eG i j) ((tm.m2 n n).fo i j))/\Ov 12 (12 - tm.iL i - bL (tm.eG i) n) ((tm.m2 n n).own i):=by
 obtain ⟨g1,g2,g3,g4,g5,g6,g7⟩:=jV ok n (aar n)
 have yf:i<tm.dE.length:=by rw [ok.ls];exact hi
 have e1:(tm.m2 n n).eV i=nf tm.dE[i].1 12:=by unfold ap.eV;rw [g1 i hi,av yf];rfl
 have e2:tm.iL i=tm.dE[i].1:=by unfold aw.iL;rw [av yf];rfl
 have hs:Ov 12 (tm.iL i) ((tm.m2 n n).eV i):=by rw [e1,e2];exact Ov.nf (by decide)
 have hf:∀ j,j<n->j≠i->Ov 12 (tm.eG i j) ((tm.m2 n n).fo i j):=λ j hj hji=>by
   obtain ⟨kk,hk,_⟩:=ok.bI i j hi hj (alt hji)
   unfold ap.fo aw.eG
   rw [g6 i j hi hj (alt hji),hk,aa8 (alt hji)]
   exact Ov.nf (by decide)
 have hii:Ov 12 (tm.eG i i) ((tm.m2 n n).fo i i):=by
   unfold ap.fo aw.eG
   rw [g7 i,abl rfl]
   exact qW
 have hl:(tm.m2 n n).rows.length=n:=by rw [(dh tm n n).1,At,abX,ok.lm];lia
 have key:∀ t,t<=n->Ov 12 (12 - tm.iL i - bL (tm.eG i) t) ((tm.m2 n n).gj i t):=by
   intro t
   induction t with
   | zero =>
     intro _
     have:=(Ho (W:=12)).minus hs
     have e:12 - tm.iL i - bL (tm.eG i) 0=12 - tm.iL i:=by show 12 - tm.iL i - 0=_;lia
     rw [e]
     exact this
   | succ t ih =>
     intro ht
     rw [ap.ku]
     have hft:Ov 12 (tm.eG i t) ((tm.m2 n n).fo i t):=by
       by_cases e:t=i
       . subst e;exact hii
       . exact hf t (by lia) e
     have:=(ih (by lia)).minus hft
     have e:12 - tm.iL i - bL (tm.eG i) (t+1)=12 - tm.iL i - bL (tm.eG i) t - tm.eG i t:=by show 12 - tm.iL i - (bL (tm.eG i) t+tm.eG i t)=_;lia
     rw [e]
     exact this
 refine ⟨hs,hf,?_⟩
 unfold ap.own
 rw [hl]
 exact key n (aar _)
theorem LQ {k W T:Int} {f g:cg} (hf:Ov 12 k f) (hg:g.1 * B=T * g.2) (e:W=12 * B):f.1 * g.1 * W=(k * T) * (f.2 * g.2):=by
 have:=hf.1
 subst e
 grind
theorem Et {n:Nat} {parts:Int} {x:Nat->Int} {h:Int} {airs:List cg} {fired:Bool} (wf:(tm.m2 n n).Wf) (ok:tm.Ok n n) (n4:n<=4) (hi:i<n) (hp:0<parts) (la:airs.length=n) (ha:∀ j,j<n->airs.getD j (0,1)=aZ (x j) parts tm.scale) (oa:∀ f∈airs,eA 120 f) (ow:eA 120 (aZ xw parts tm.scale)) (hz:fired=true->∃ z,tm.aF[i]?=some (some z)/\z.1=h) :
   kz (tm.m2 n n) i airs (aZ xw parts tm.scale) fired=aZ (bL (λ j=>(if j=i then 12 - tm.iL i - bL (tm.eG i) n else tm.eG i j) * x j) n+tm.iL i * xw+(if fired then 12 * parts * h else 0)) (12 * parts) tm.scale:=by
 obtain ⟨hs,hf,Nh⟩:=Jy ok i hi
 have hl:(tm.m2 n n).rows.length=n:=by rw [(dh tm n n).1,At,abX,ok.lm];lia
 obtain ⟨g1,g2,g3,g4,g5,g6,g7⟩:=jV ok n (aar n)
 have hB:=d7 ok.scale hp
 have hW:ck (12 * parts) tm.scale=12 * ck parts tm.scale:=by unfold ck;grind
 have hsh:∀ j,j<n->Ov 12 (if j=i then 12 - tm.iL i - bL (tm.eG i) n else tm.eG i j) ((tm.m2 n n).share i j):=λ j hj=>by
   unfold ap.share
   by_cases e:i=j
   . subst e;rw [abl rfl,abl rfl];exact Nh
   . rw [aa8 e,aa8 (alt e)];exact hf j hj (alt e)
 have cr:∀ z,(aZ z parts tm.scale).1 * ck parts tm.scale=cF z parts tm.scale * (aZ z parts tm.scale).2:=λ z=>(ip (t:=cF z parts tm.scale) hB).jT
 have rooms:∀ t,t<=n->OI (ck (12 * parts) tm.scale) (bL (λ j=>(if j=i then 12 - tm.iL i - bL (tm.eG i) n else tm.eG i j) * cF (x j) parts tm.scale) t) (fb ((List.range t).map λ j=>(((tm.m2 n n).share i j,airs.getD j (0,1)):Pr))):=by
   intro t
   induction t with
   | zero=>intro _;show (0:Int) * _=0 * 1;lia
   | succ t ih =>
     intro ht
     rw [aeA,YC]
     refine (ih (by lia)).next ?_
     show ((tm.m2 n n).share i t).1 * (airs.getD t (0,1)).1 * _=_ * (((tm.m2 n n).share i t).2 * (airs.getD t (0,1)).2)
     rw [ha t (by lia)]
     exact LQ (hsh t (by lia)) (cr _) hW
 have r1:=rooms n (aar _)
 have er:dG (tm.m2 n n) i airs=(List.range n).map λ j=>(((tm.m2 n n).share i j,airs.getD j (0,1)):Pr):=by unfold dG;rw [la]
 rw [← er] at r1
 have r2:OI (ck (12 * parts) tm.scale) _ (fb (dG (tm.m2 n n) i airs++[((tm.m2 n n).eV i,aZ xw parts tm.scale)])):=r1.next (LQ hs (cr xw) hW)
 have XB:bL (λ j=>(if j=i then 12 - tm.iL i - bL (tm.eG i) n else tm.eG i j) * cF (x j) parts tm.scale) n+tm.iL i * cF xw parts tm.scale
     = (bL (λ j=>(if j=i then 12 - tm.iL i - bL (tm.eG i) n else tm.eG i j) * x j) n+tm.iL i * xw) * (tm.scale.a * tm.scale.d)+12 * (parts * tm.scale.t * tm.scale.b):=by
   have e1:bL (λ j=>(if j=i then 12 - tm.iL i - bL (tm.eG i) n else tm.eG i j) * cF (x j) parts tm.scale) n=bL (λ j=>(if j=i then 12 - tm.iL i - bL (tm.eG i) n else tm.eG i j) * (x j * (tm.scale.a * tm.scale.d)+parts * tm.scale.t * tm.scale.b)) n:=sD n λ j _=>by unfold cF;rw [ahp (x j)]
   have z0:tm.eG i i=0:=by unfold aw.eG;rw [abl rfl]
   rw [e1,yu,AN z0,abl hi]
   unfold cF
   grind
 have hzi:fired=true->∃ z,(tm.m2 n n).aF[i]?=some (some z):=λ q=>by
   obtain ⟨z,ez,_⟩:=hz q
   exact ⟨tm.jw z,by rw [g3 i hi,ez];rfl⟩
 have pok:=(qm (i:=i) (fired:=fired) (w:=aZ xw parts tm.scale) (airs:=airs) (m:=tm.m2 n n) wf (by lia) (by lia) oa ow hzi).1
 have Hi:=Ch pok
 have hWp:0<ck (12 * parts) tm.scale:=by rw [hW];lia
 have fin:OI (ck (12 * parts) tm.scale) (cF (bL (λ j=>(if j=i then 12 - tm.iL i - bL (tm.eG i) n else tm.eG i j) * x j) n+tm.iL i * xw+(if fired then 12 * parts * h else 0)) (12 * parts) tm.scale) (fb (gh (tm.m2 n n) i airs (aZ xw parts tm.scale) fired)):=by
   unfold gh
   cases fired with
   | false =>
     simp only [an9,aoe,aji,amP]
     rw [XB] at r2
     have e2:cF (bL (λ j=>(if j=i then 12 - tm.iL i - bL (tm.eG i) n else tm.eG i j) * x j) n+tm.iL i * xw) (12 * parts) tm.scale=(bL (λ j=>(if j=i then 12 - tm.iL i - bL (tm.eG i) n else tm.eG i j) * x j) n+tm.iL i * xw) * (tm.scale.a * tm.scale.d)+12 * (parts * tm.scale.t * tm.scale.b):=by
       unfold cF;grind
     rw [e2]
     exact r2
   | true =>
     obtain ⟨z,ez,eh⟩:=hz rfl
     have yA:(tm.m2 n n).aF[i]?=some (some (tm.jw z)):=by rw [g3 i hi,ez];rfl
     simp only [anK]
     rw [yA]
     have hb:0<tm.scale.b:=by have:=ok.scale.b0;lia
     have cz:(nf (z.1 * tm.scale.a) tm.scale.b).1 * tm.scale.b=z.1 * tm.scale.a * (nf (z.1 * tm.scale.a) tm.scale.b).2:=(ip (t:=z.1 * tm.scale.a) hb).jT
     have r3:=r2.next (d:=((1,1),nf (z.1 * tm.scale.a) tm.scale.b)) (c:=12 * parts * h * (tm.scale.a * tm.scale.d)) (by
       show 1 * (nf (z.1 * tm.scale.a) tm.scale.b).1 * ck (12 * parts) tm.scale=_ * (1 * (nf (z.1 * tm.scale.a) tm.scale.b).2)
       generalize nf (z.1 * tm.scale.a) tm.scale.b=g at cz
       unfold ck
       rw [← eh]
       grind)
     rw [XB] at r3
     have e2:cF (bL (λ j=>(if j=i then 12 - tm.iL i - bL (tm.eG i) n else tm.eG i j) * x j) n+tm.iL i * xw+12 * parts * h) (12 * parts) tm.scale=(bL (λ j=>(if j=i then 12 - tm.iL i - bL (tm.eG i) n else tm.eG i j) * x j) n+tm.iL i * xw) * (tm.scale.a * tm.scale.d)+12 * (parts * tm.scale.t * tm.scale.b)+12 * parts * h * (tm.scale.a * tm.scale.d):=by
       unfold cF;grind
     rw [e2]
     exact r3
 unfold kz
 rw [aZ]
 exact V1 Hi hWp fin
section
variable {X:Cx}
def aaS (K:W.Frag) (ta:TA):TI:=λ U H R=>ta U H λ vs H1=>∃ a,vs=[.ref a]/\(((∃ xs,bg K H1 a xs)/\R (KB (bg K) a) H1)∨((∃ xs,bS K H1 a xs)/\R (KB (bS K) a) H1))
theorem GK {a:Expr} {ta:TA} {p pos qy:Pos} {elts:List Expr} {x1:Nat} (hg:Gl X "enumerate") (hm:X.mg "enumerate" = none) (ha:PA X [a] ta) (hs:starEach [a] X.env=[(false,eval a X.env)]:=by rfl) :
   PI X (.Tuple elts x1 qy) (.Call (.Name "enumerate" p) [a] [] pos) (aaS X.K ta):=by
 intro pins s U H R I h
 refine Call_ ?_
 refine lN I hg hm j9 ?_ ML MG
 refine ahZ ?_ hs rfl
 refine cX (ha pos pins s U H _ I h) λ us s1 ⟨vs,H1,I1,r1,q1⟩=>?_
 obtain ⟨a,e,q⟩:=q1
 subst e
 cases r1 with
 | cons r rr =>
   cases rr
   obtain rfl:_=Value.ref a:=r
   have fr:∀ c∈[s1.heap.objs.size+1,s1.heap.objs.size],s1.heap.objs.size<=c:=λ c hc=>by
     simp only [abj,aay,ae5] at hc
     rcases hc with rfl|rfl
     . exact anZ _
     . exact aar _
   rcases q with ⟨⟨xs,hq⟩,q⟩|⟨⟨xs,hq⟩,q⟩
   . obtain ⟨bG,rv,p1,Lz⟩:=I1.list hq
     have la:a<s1.heap.objs.size:=by obtain ⟨_,e,_⟩:=p1.isList;exact abh e
     refine call_enumerate_list p1.isList λ h' z1 z2 z3 kk=>anY z1 ?_
     exact ⟨s1.heap.objs.size+1,[s1.heap.objs.size+1,s1.heap.objs.size],_,_,H1,rfl,I1.kept (t':=s1.toks) kk,xV (aox _) (acN (aor la)) (acN la),⟨⟨_,z1⟩,z2⟩,λ c hc=>I1.xx (fr c hc) (I1.cq.fresh (fr c hc)),q⟩
   . obtain ⟨bG,rv,p1,Lz⟩:=I1.tuple hq
     have la:a<s1.heap.objs.size:=p1.lt
     refine sM p1 λ h' z1 z2 kk=>anY z1 ?_
     exact ⟨s1.heap.objs.size+1,[s1.heap.objs.size+1,s1.heap.objs.size],_,_,H1,rfl,I1.kept (t':=s1.toks) kk,zH (aox _) (acN (aor la)) (acN la),⟨⟨_,z1⟩,z2⟩,λ c hc=>I1.xx (fr c hc) (I1.cq.fresh (fr c hc)),q⟩
end
def gm (m:ap) (bs:List Nat) (d:Nat):List cg:=(List.range bs.length).map λ j=>(m.rows.getD j []).getD (bs.getD j 0+d) (0,1)
def lK (m:ap) (i:Nat):cg×cg×cg:=(m.bw[i]?).getD ((0,1),(0,1),(0,1))
def jD (m:ap) (i:Nat) (bs:List Nat) (fired:Bool):cg:=kz m i (gm m bs 0) (lK m i).2.1 fired
def je (m:ap) (i:Nat) (bs:List Nat) (fired:Bool):cg:=kz m i (gm m bs 1) (lK m i).2.2 fired
inductive KD (K:W.Frag) (C:Addr) (vs:List V) (H:Hp) (Q:VK) (_E:XK):Prop
 | mk (a fp m:_) (i:Nat) (pb bs fired:_) (_:vs=[.ref a,aq i,.ref pb,.bl fired]) (_:aR K C H a fp m) (_:i<m.rows.length) (_:(bg K H pb (bs.map aq)∨bS K H pb (bs.map aq))) (_:bs.length=m.rows.length) (_:(∀ j,j<m.rows.length->bs.getD j 0+1<(m.rows.getD j []).length)) (_:(fired=true->∃ z,m.aF[i]?=some (some z))) (_:∀ q q1 q2 H',aB H H'->H' q=some (.tup [.ref q1,.ref q2])->H' q1=some (.tup [.int (jD m i bs fired).1,.int (jD m i bs fired).2])->H' q2=some (.tup [.int (je m i bs fired).1,.int (je m i bs fired).2])->Q (.ref q) H')
theorem om {m:ap} {bs:List Nat} (wf:m.Wf) (lb:bs.length=m.rows.length) (hb:∀ j,j<m.rows.length->bs.getD j 0+1<(m.rows.getD j []).length) {d:Nat} (hd:d<=1):∀ f∈gm m bs d,eA 120 f:=λ f hf=>by
 obtain ⟨j,hj,rfl⟩:=List.mem_map.mp hf
 have hj:=List.mem_range.mp hj
 have q:=hb j (by lia)
 have hr:j<m.rows.length:=by lia
 rw [Nv (l:=m.rows),av hr] at q ⊢
 have q:bs.getD j 0+1<m.rows[j].length:=q
 show eA 120 (m.rows[j].getD (bs.getD j 0+d) (0,1))
 rw [Nv,av (by lia)]
 exact (wf.rows m.rows[j] (aaA hr) _ (aaA _)).mono (by decide)
def aw.kT (tm:aw) (n i j:Nat):Int:=if j=i then 12 - tm.iL i - bL (tm.eG i) n else tm.eG i j
theorem Br {n:Nat} (ok:tm.Ok n n) (hi:i<n):0<=tm.iL i/\tm.iL i<=3:=by
 have yf:i<tm.dE.length:=by rw [ok.ls];exact hi
 unfold aw.iL
 rw [av yf]
 exact (ok.dE tm.dE[i] (aaA yf)).1
theorem AX {n j:Nat} (ok:tm.Ok n n) (hi:i<n) (hj:j<n):0<=tm.eG i j/\tm.eG i j<=3:=by
 unfold aw.eG
 by_cases e:i=j
 . rw [abl e];lia
 . obtain ⟨k,hk,h0,h3⟩:=ok.bI i j hi hj e
   rw [aa8 e,hk]
   exact ⟨h0,h3⟩
theorem Fh {n:Nat} (ok:tm.Ok n n) (hi:i<n):∀ t,t<=n->0<=bL (tm.eG i) t/\bL (tm.eG i) t<=3 * t
 | 0,_=>by show (0:Int)<=0/\(0:Int)<=_;lia
 | t+1,ht=>by
   have a:=Fh ok hi t (by lia)
   have b:=AX (j:=t) ok hi (by lia)
   show 0<=bL (tm.eG i) t+tm.eG i t/\bL (tm.eG i) t+tm.eG i t<=_
   lia
theorem FK {n:Nat} (ok:tm.Ok n n) (n4:n<=4) (hi:i<n):bL (tm.eG i) n<=9:=by
 have h:∀ j,j<n->0<=tm.eG i j/\tm.eG i j<=3:=λ j hj=>AX ok hi hj
 have h0:tm.eG i i=0:=by unfold aw.eG;rw [abl rfl]
 have s:∀ t,t<=n->bL (tm.eG i) t+(if i<t then 3 else 0)<=3 * t:=by
   intro t
   induction t with
   | zero=>intro _;show (0:Int)+(if i<0 then 3 else 0)<=_;rw [aa8 (by lia)];lia
   | succ t ih =>
     intro ht
     have a:=ih (by lia)
     have b:=h t (by lia)
     show bL (tm.eG i) t+tm.eG i t+(if i<t+1 then 3 else 0)<=_
     by_cases e:t=i
     . subst e
       rw [aa8 (by lia)] at a
       rw [abl (by lia),h0]
       lia
     . by_cases l:i<t
       . rw [abl l] at a;rw [abl (by lia)];lia
       . rw [aa8 l] at a;rw [aa8 (by lia)];lia
 have:=s n (aar _)
 rw [abl hi] at this
 lia
theorem Dg {n j:Nat} (ok:tm.Ok n n) (n4:n<=4) (hi:i<n) (hj:j<n):0<=tm.kT n i j:=by
 unfold aw.kT
 have a:=Br ok hi
 have b:=FK ok n4 hi
 have c:=AX (j:=j) ok hi hj
 split<;>lia
def aw.X (tm:aw) (n i:Nat) (x:Nat->Int) (xw:Int):Int:=bL (λ j=>tm.kT n i j * x j) n+tm.iL i * xw
theorem uR {k x y:Nat->Int}:∀ n,(∀ j,j<n->0<=k j/\x j<=y j)->bL (λ j=>k j * x j) n<=bL (λ j=>k j * y j) n
 | 0,_=>anq _
 | n+1,h=>by
   have a:=uR n λ j hj=>h j (by lia)
   have b:=h n (by lia)
   have c:=am3 b.2 b.1
   show bL (λ j=>k j * x j) n+k n * x n<=bL (λ j=>k j * y j) n+k n * y n
   lia
theorem BE {n:Nat} {x y:Nat->Int} {yw:Int} (ok:tm.Ok n n) (n4:n<=4) (hi:i<n) (h:∀ j,j<n->x j<=y j) (hw:xw<=yw):tm.X n i x xw<=tm.X n i y yw:=by
 have a:=uR (k:=tm.kT n i) (x:=x) (y:=y) n λ j hj=>⟨Dg ok n4 hi hj,h j hj⟩
 have b:=am3 hw (Br ok hi).1
 unfold aw.X
 lia
def aw.BW (tm:aw) (j b:Nat):Int:=(tm.marks.getD j []).getD b 0
def aw.xl (tm:aw) (bs:List Nat) (d j:Nat):Int:=tm.BW j (bs.getD j 0+d)
def aw.kJ (tm:aw) (i:Nat):Int×Int×Int:=(tm.dE[i]?).getD (0,0,0)
def aw.yc (tm:aw) (i:Nat):Int:=(((tm.aF[i]?).getD none).map (·.1)).getD 0
def aw.sX (tm:aw) (n i:Nat) (bs:List Nat) (d:Nat) (xw:Int) (fired:Bool):Int:=tm.X n i (tm.xl bs d) xw+(if fired then 12 * tm.yc i else 0)
structure rW (tm:aw) (n:Nat) (bs:List Nat):Prop where
 len:bs.length=n
 lt:∀ j,j<n->bs.getD j 0+1<(tm.marks.getD j []).length
theorem iC {n j b:Nat} (ok:tm.Ok n n) (hj:j<n) (hb:b<(tm.marks.getD j []).length):∃ h:j<tm.marks.length,∃ h2:b<tm.marks[j].length,tm.BW j b=tm.marks[j][b]/\-200<=tm.BW j b/\tm.BW j b<=200:=by
 have h:j<tm.marks.length:=by rw [ok.lm];exact hj
 have e:tm.marks.getD j []=tm.marks[j]:=by rw [Nv,av h];rfl
 rw [e] at hb
 have e2:tm.BW j b=tm.marks[j][b]:=by unfold aw.BW;rw [e,Nv,av hb];rfl
 refine ⟨h,hb,e2,?_⟩
 rw [e2]
 exact (ok.rows tm.marks[j] (aaA h)).bd _ (aaA hb)
theorem uO {n d:Nat} {bs:List Nat} {fired:Bool} (wf:(tm.m2 n n).Wf) (ok:tm.Ok n n) (n4:n<=4) (hi:i<n) (hb:rW tm n bs) (hd:d<=1) (Cc : -200<=xw/\xw<=200) (hz:fired=true->∃ z,tm.aF[i]?=some (some z)) :
   kz (tm.m2 n n) i (gm (tm.m2 n n) bs d) (aZ xw 1 tm.scale) fired=aZ (tm.sX n i bs d xw fired) 12 tm.scale:=by
 have hl:(tm.m2 n n).rows.length=n:=by rw [(dh tm n n).1,At,abX,ok.lm];lia
 have row:∀ j,j<n->(tm.m2 n n).rows.getD j []=tm.row (tm.marks.getD j []):=λ j hj=>by
   have sW:j<tm.marks.length:=by rw [ok.lm];exact hj
   rw [(dh tm n n).1,Nv,RS,an0 hj,Nv,av sW];rfl
 have ala:∀ j,j<n->bs.getD j 0+1<((tm.m2 n n).rows.getD j []).length:=λ j hj=>by
   rw [row j hj];unfold aw.row;rw [At];exact hb.lt j hj
 have ea:∀ j,j<n->(gm (tm.m2 n n) bs d).getD j (0,1)=aZ (tm.xl bs d j) 1 tm.scale:=λ j hj=>by
   have mK:=hb.lt j hj
   unfold gm
   rw [Nv,RS,apU (by rw [hb.len];exact hj)]
   show ((tm.m2 n n).rows.getD j []).getD (bs.getD j 0+d) (0,1)=_
   rw [row j hj]
   unfold aw.row aw.xl aw.BW
   generalize tm.marks.getD j []=l at mK
   have h2:bs.getD j 0+d<l.length:=by lia
   generalize bs.getD j 0+d=b at h2
   rw [Nv,Nv,RS,av h2];rfl
 have oa:=om (m:=tm.m2 n n) (bs:=bs) wf (by rw [hb.len,hl]) (λ j hj=>ala j (by lia)) hd
 have ow:eA 120 (aZ xw 1 tm.scale):=(rf (n:=8) ok.scale (by decide) (show xw.natAbs<2 ^ 8 by lia) mT).mono (by decide)
 have nR:i<tm.aF.length:=by rw [ok.lt];exact hi
 have:=Et (h:=tm.yc i) (x:=tm.xl bs d) wf ok n4 hi (by decide:(0:Int)<1) (by unfold gm;rw [At,acT,hb.len]) ea oa ow (λ q=>by
   obtain ⟨z,ez⟩:=hz q
   refine ⟨z,ez,?_⟩
   unfold aw.yc
   rw [ez];rfl)
 rw [this]
 have e12:(12:Int) * 1=12:=rfl
 rw [e12]
 rfl
def aw.yl (tm:aw) (j b l:Nat):Int:=(2 - (l:Int)) * tm.BW j b+l * tm.BW j (b+1)
theorem FO {k:Nat->Int} {c:Int}:∀ n,bL (λ j=>k j * c) n=bL k n * c
 | 0=>by show (0:Int)=0 * c;lia
 | n+1=>by
   show bL (λ j=>k j * c) n+k n * c=(bL k n+k n) * c
   rw [FO n];grind
theorem Kw {n:Nat} {c:Int} (hi:i<n):tm.X n i (λ _=>c) c=12 * c:=by
 unfold aw.X
 have z0:tm.eG i i=0:=by unfold aw.eG;rw [abl rfl]
 have e:bL (λ j=>tm.kT n i j * c) n=bL (tm.kT n i) n * c:=FO n
 have e2:bL (tm.kT n i) n=bL (tm.eG i) n+(12 - tm.iL i - bL (tm.eG i) n):=by
   have:=AN (fl:=tm.eG i) (R:=12 - tm.iL i - bL (tm.eG i) n) (i:=i) z0 n
   rw [abl hi] at this
   exact this
 rw [e,e2]
 grind
theorem Ze {n:Nat} {x:Nat->Int} {c:Int} (ok:tm.Ok n n) (n4:n<=4) (hi:i<n) (h:∀ j,j<n->-c<=x j/\x j<=c) (hw : -c<=xw/\xw<=c) : -(12 * c)<=tm.X n i x xw/\tm.X n i x xw<=12 * c:=by
 have a:=BE (x:=λ _ => -c) (y:=x) (xw:=-c) ok n4 hi (λ j hj=>(h j hj).1) hw.1
 have b:=BE (x:=x) (y:=λ _=>c) (yw:=c) ok n4 hi (λ j hj=>(h j hj).2) hw.2
 rw [Kw hi] at a b
 lia
theorem Jx {n:Nat} (ok:tm.Ok n n) (hi:i<n):0<=tm.yc i/\tm.yc i<=25:=by
 have nR:i<tm.aF.length:=by rw [ok.lt];exact hi
 unfold aw.yc
 rw [av nR]
 cases e:tm.aF[i] with
 | none=>show (0:Int)<=0/\(0:Int)<=25;lia
 | some z=>exact (ok.aF z (by rw [← e];exact aaA nR)).h
theorem WP {n d j:Nat} {bs:List Nat} (ok:tm.Ok n n) (hb:rW tm n bs) (hd:d<=1) (hj:j<n) : -200<=tm.xl bs d j/\tm.xl bs d j<=200:=by
 obtain ⟨_,_,_,a,b⟩:=iC (b:=bs.getD j 0+d) ok hj (by have:=hb.lt j hj;lia)
 exact ⟨a,b⟩
theorem LM {n d:Nat} {bs:List Nat} {fired:Bool} (ok:tm.Ok n n) (n4:n<=4) (hi:i<n) (hb:rW tm n bs) (hd:d<=1) (hw : -200<=xw/\xw<=200) : -3000<=tm.sX n i bs d xw fired/\tm.sX n i bs d xw fired<=3000:=by
 have a:=Ze (x:=tm.xl bs d) (c:=200) ok n4 hi (λ j hj=>WP ok hb hd hj) hw
 have b:=Jx ok hi
 unfold aw.sX
 split<;>lia
theorem fF {a1:TS} {U:L2.St} (h:let d:L2.Ends:=D;let z:L2.St:=U;let r2:TS:=a3;let r1:TS:=aP a2 r2;aP a1 r1 d z H):(aP a1 (aP a2 (a3))) D U H:=h
theorem d5 {a1:TS} {U:L2.St} (h:let d:L2.Ends:=D;let z:L2.St:=U;let r3:TS:=a4;let r2:TS:=aP a3 r3;let r1:TS:=aP a2 r2;aP a1 r1 d z H):(aP a1 (aP a2 (aP a3 (a4)))) D U H:=h
theorem jM {a1:TS} {U:L2.St} (h:let d:L2.Ends:=D;let z:L2.St:=U;let r4:TS:=a5;let r3:TS:=aP a4 r4;let r2:TS:=aP a3 r3;let r1:TS:=aP a2 r2;aP a1 r1 d z H):(aP a1 (aP a2 (aP a3 (aP a4 (a5))))) D U H:=h
theorem jN {a1:TS} {U:L2.St} (h:let d:L2.Ends:=D;let z:L2.St:=U;let r5:TS:=a6;let r4:TS:=aP a5 r5;let r3:TS:=aP a4 r4;let r2:TS:=aP a3 r3;let r1:TS:=aP a2 r2;aP a1 r1 d z H):(aP a1 (aP a2 (aP a3 (aP a4 (aP a5 (a6)))))) D U H:=h
theorem FM {a1:TS} {U:L2.St} (h:let d:L2.Ends:=D;let z:L2.St:=U;let r6:TS:=a7;let r5:TS:=aP a6 r6;let r4:TS:=aP a5 r5;let r3:TS:=aP a4 r4;let r2:TS:=aP a3 r3;let r1:TS:=aP a2 r2;aP a1 r1 d z H):(aP a1 (aP a2 (aP a3 (aP a4 (aP a5 (aP a6 (a7))))))) D U H:=h
theorem GY {a1:TS} {U:L2.St} (h:let d:L2.Ends:=D;let z:L2.St:=U;let r7:TS:=a8;let r6:TS:=aP a7 r7;let r5:TS:=aP a6 r6;let r4:TS:=aP a5 r5;let r3:TS:=aP a4 r4;let r2:TS:=aP a3 r3;let r1:TS:=aP a2 r2;aP a1 r1 d z H):(aP a1 (aP a2 (aP a3 (aP a4 (aP a5 (aP a6 (aP a7 (a8)))))))) D U H:=h
theorem rS {a1:TS} {U:L2.St} (h:let d:L2.Ends:=D;let z:L2.St:=U;let r8:TS:=a9;let r7:TS:=aP a8 r8;let r6:TS:=aP a7 r7;let r5:TS:=aP a6 r6;let r4:TS:=aP a5 r5;let r3:TS:=aP a4 r4;let r2:TS:=aP a3 r3;let r1:TS:=aP a2 r2;aP a1 r1 d z H):(aP a1 (aP a2 (aP a3 (aP a4 (aP a5 (aP a6 (aP a7 (aP a8 (a9))))))))) D U H:=h
theorem D3 {a1:TS} {U:L2.St} (h:let d:L2.Ends:=D;let z:L2.St:=U;let r9:TS:=YI;let r8:TS:=aP a9 r9;let r7:TS:=aP a8 r8;let r6:TS:=aP a7 r7;let r5:TS:=aP a6 r6;let r4:TS:=aP a5 r5;let r3:TS:=aP a4 r4;let r2:TS:=aP a3 r3;let r1:TS:=aP a2 r2;aP a1 r1 d z H):(aP a1 (aP a2 (aP a3 (aP a4 (aP a5 (aP a6 (aP a7 (aP a8 (aP a9 (YI)))))))))) D U H:=h
theorem Dy {a1 a11:TS} {U:L2.St} (h:let d:L2.Ends:=D;let z:L2.St:=U;let r10:TS:=a11;let r9:TS:=aP YI r10;let r8:TS:=aP a9 r9;let r7:TS:=aP a8 r8;let r6:TS:=aP a7 r7;let r5:TS:=aP a6 r6;let r4:TS:=aP a5 r5;let r3:TS:=aP a4 r4;let r2:TS:=aP a3 r3;let r1:TS:=aP a2 r2;aP a1 r1 d z H):(aP a1 (aP a2 (aP a3 (aP a4 (aP a5 (aP a6 (aP a7 (aP a8 (aP a9 (aP YI (a11))))))))))) D U H:=h
theorem zM {a1:TS} {x:V} {U:L2.St} (h:let d:L2.Ends:=D;let z:L2.St:=U;let r4:TS:=a5;let r3:TS:=aP a4 r4;let r2:TS:=aP a3 r3;let r1:TS:=aP a2 r2;g x z H λ σ2 H2=>aP a1 r1 d σ2 H2):g x U H λ σ2 H2=>(aP a1 (aP a2 (aP a3 (aP a4 (a5))))) D σ2 H2:=h
theorem Gm {a1:TS} {x:V} {U:L2.St} (h:let d:L2.Ends:=D;let z:L2.St:=U;let r7:TS:=a8;let r6:TS:=aP a7 r7;let r5:TS:=aP a6 r6;let r4:TS:=aP a5 r5;let r3:TS:=aP a4 r4;let r2:TS:=aP a3 r3;let r1:TS:=aP a2 r2;g x z H λ σ2 H2=>aP a1 r1 d σ2 H2):g x U H λ σ2 H2=>(aP a1 (aP a2 (aP a3 (aP a4 (aP a5 (aP a6 (aP a7 (a8)))))))) D σ2 H2:=h
theorem Fw {a1:TS} {x:V} {U:L2.St} (h:let d:L2.Ends:=D;let z:L2.St:=U;let r:TS:=a1;g x z H λ σ2 H2=>r d σ2 H2):g x U H λ σ2 H2=>a1 D σ2 H2:=h
@[elab_as_elim] theorem L8 {α:Type} {motive:List α->Prop} {us:List α} (h:us.length=1) (k:∀ a,motive [a]):motive us :=
 dg h λ a _ h=>afo h ▸ k a
@[elab_as_elim] theorem Ma {α:Type} {motive:List α->Prop} {us:List α} (h:us.length=2) (k:∀ a b,motive [a,b]):motive us :=
 dg h λ a _ h=>dg h λ b _ h=>afo h ▸ k a b
@[elab_as_elim] theorem yO {α:Type} {motive:List α->Prop} {us:List α} (h:us.length=3) (k:∀ a b c,motive [a,b,c]):motive us :=
 dg h λ a _ h=>dg h λ b _ h=>dg h λ c _ h=>afo h ▸ k a b c
@[elab_as_elim] theorem Mf {α:Type} {motive:List α->Prop} {us:List α} (h:us.length=4) (k:∀ a b c d,motive [a,b,c,d]):motive us :=
 dg h λ a _ h=>dg h λ b _ h=>dg h λ c _ h=>dg h λ d _ h=>afo h ▸ k a b c d
@[elab_as_elim] theorem Gi {α:Type} {motive:List α->Prop} {us:List α} (h:us.length=5) (k:∀ a b c d e,motive [a,b,c,d,e]):motive us :=
 dg h λ a _ h=>dg h λ b _ h=>dg h λ c _ h=>dg h λ d _ h=>dg h λ e _ h=>afo h ▸ k a b c d e
@[elab_as_elim] theorem L9 {α:Type} {motive:List α->Prop} {us:List α} (h:us.length=6) (k:∀ a b c d e f,motive [a,b,c,d,e,f]):motive us :=
 dg h λ a _ h=>dg h λ b _ h=>dg h λ c _ h=>dg h λ d _ h=>dg h λ e _ h=>dg h λ f _ h=>afo h ▸ k a b c d e f
@[elab_as_elim] theorem LZ {α:Type} {motive:List α->Prop} {us:List α} (h:us.length=7) (k:∀ a b c d e f g,motive [a,b,c,d,e,f,g]):motive us :=
 dg h λ a _ h=>dg h λ b _ h=>dg h λ c _ h=>dg h λ d _ h=>dg h λ e _ h=>dg h λ f _ h=>dg h λ g _ h=>afo h ▸ k a b c d e f g
theorem lc {sc:Scope} {x:Str} (h:(match sc.names.lookup x with|some .local=>true|some .cell=>true|_=>false)=true):Loc sc x:=by
 unfold Loc
 split at h
 . rename_i e;exact .inl e
 . rename_i e;exact .inr e
 . cases h
theorem cR.m {j k:Nat} {A:Around} (r:cR k A) (h:j<=k:=by decide):cR j A:=r.mono h
section
variable {P:Program} {w:World} {K:W.Frag} {mg:Str->Option Value} {base:Heap} {x qual:Str} {st:Stmt} {N ps:List Str} {k:Nat} {sp:Sp} {C:Addr}
theorem gC.cM (h:gC K mg x st) (S:aA N ps (ao st)) (dZ:∀ (f:Addr) (bB:Value) (A:Around) (outer:List Env) (s:Shared) (H:Hp) (vs:List V) (Q:VK) (E:XK),cR k (A.deeper (envOfC x (ao st) s.heap.objs.size f bB))->sp vs H Q E ->
     ∃ t,qg (fi tL P w K mg base N x (ao st) f bB A outer s H E).zV (bx st) t/\t { nx:=λ _ H'=>Q .bT H',rt:=Q } (start N vs) H) (len:∀ vs H Q E,sp vs H Q E->vs.length=ps.length:=by intro _ _ _ _ h;first|(cases h;subst_vars;rfl)|(obtain ⟨_,rfl,_⟩:=h;rfl)|(obtain ⟨_,_,rfl,_⟩:=h;rfl)|(obtain ⟨_,_,_,rfl,_⟩:=h;rfl)|(obtain ⟨_,_,_,_,rfl,_⟩:=h;rfl)|(obtain ⟨_,_,_,_,_,rfl,_⟩:=h;rfl)) (hb:∀ (kV doc pm:Value) (an:Option Addr) (bB ct:Value) (us:List Value),us.length=ps.length->bindArgs (W.fnOf x x (cm st) (bx st) (ao st) .none kV doc pm an bB ct) ⟨us,[]⟩=pure (ps.zip us):=by intro _ _ _ _ _ _ us hl;first|exact L8 hl λ _=>rfl|exact Ma hl λ _ _=>rfl|exact yO hl λ _ _ _=>rfl|exact Mf hl λ _ _ _ _=>rfl|exact Gi hl λ _ _ _ _ _=>rfl|exact L9 hl λ _ _ _ _ _ _=>rfl|exact LZ hl λ _ _ _ _ _ _ _=>rfl):Def P w K mg base x (k+1) ps sp:=h.def S len hb dZ
theorem fU.iq {m:Str} (h:fU K C m qual st .none) (S:aA N ps (ao st)) (dZ:∀ (f:Addr) (bB:Value) (A:Around) (outer:List Env) (s:Shared) (H:Hp) (vs:List V) (Q:VK) (E:XK),cR k (A.deeper (envOfC qual (ao st) s.heap.objs.size f bB))->sp vs H Q E ->
     ∃ t,qg (fi tL P w K mg base N qual (ao st) f bB A outer s H E).zV (bx st) t/\t { nx:=λ _ H'=>Q .bT H',rt:=Q } (start N vs) H) (len:∀ vs H Q E,sp vs H Q E->vs.length=ps.length:=by intro _ _ _ _ h;first|(cases h;subst_vars;rfl)|(obtain ⟨_,rfl,_⟩:=h;rfl)|(obtain ⟨_,_,rfl,_⟩:=h;rfl)|(obtain ⟨_,_,_,rfl,_⟩:=h;rfl)|(obtain ⟨_,_,_,_,rfl,_⟩:=h;rfl)|(obtain ⟨_,_,_,_,_,rfl,_⟩:=h;rfl)) (hb:∀ (kV doc pm:Value) (an:Option Addr) (bB ct:Value) (us:List Value),us.length=ps.length->bindArgs (W.fnOf m qual (cm st) (bx st) (ao st) .none kV doc pm an bB ct) ⟨us,[]⟩=pure (ps.zip us):=by intro _ _ _ _ _ _ us hl;first|exact L8 hl λ _=>rfl|exact Ma hl λ _ _=>rfl|exact yO hl λ _ _ _=>rfl|exact Mf hl λ _ _ _ _=>rfl|exact Gi hl λ _ _ _ _ _=>rfl|exact L9 hl λ _ _ _ _ _ _=>rfl|exact LZ hl λ _ _ _ _ _ _ _=>rfl):jb P w K mg base C m (k+1) ps [] sp:=h.Kx S len hb dZ
end
inductive A3 (a b c:Prop):Prop|mk (_:a) (_:b) (_:c)
inductive A4 (a b c d:Prop):Prop|mk (_:a) (_:b) (_:c) (_:d)
inductive A5 (a b c d e:Prop):Prop|mk (_:a) (_:b) (_:c) (_:d) (_:e)
inductive A6 (a b c d e f:Prop):Prop|mk (_:a) (_:b) (_:c) (_:d) (_:e) (_:f)
inductive E2 {a b:Type} (p:a->b->Prop):Prop|mk (x:a) (y:b) (_:p x y)
inductive E3 {a b c:Type} (p:a->b->c->Prop):Prop|mk (x:a) (y:b) (z:c) (_:p x y z)
inductive E4 {a b c d:Type} (p:a->b->c->d->Prop):Prop|mk (x:a) (y:b) (z:c) (u:d) (_:p x y z u)
inductive E5 {a b c d e:Type} (p:a->b->c->d->e->Prop):Prop|mk (x:a) (y:b) (z:c) (u:d) (v:e) (_:p x y z u v)
inductive E6 {a b c d e f:Type} (p:a->b->c->d->e->f->Prop):Prop|mk (x:a) (y:b) (z:c) (u:d) (v:e) (w:f) (_:p x y z u v w)
abbrev NG (h q:Addr) (g:Int):List (Str×V):=[("hold",.ref h),("place",.ref q),("gone",.int g),("ended",.bl false)]
def iJ (K:W.Frag) (C CW:Addr) (H:Hp) (x:Addr) (fp:List Addr) (m:ap) (s:dY) (g:Int):Prop :=
 ∃ dx h q,H x=some (.ins CW dx (NG h q g))/\aR K C H h fp m/\fz K H q s/\x∉fp
section
variable {K:W.Frag} {C CW:Addr} {H H':Hp} {x:Addr} {fp:List Addr} {m:ap} {s:dY} {g:Int}
theorem iJ.same (h:iJ K C CW H x fp m s g) (S:aB H H'):iJ K C CW H' x fp m s g:=by
 obtain ⟨dx,hd,q,a,b,c,d⟩:=h
 exact ⟨dx,hd,q,S _ _ a,b.same S,c.same S,d⟩
theorem fz.ts {p:Addr} (h:fz K H p s) (t:cu K H H'):fz K H' p s:=by
 obtain ⟨pb,pw,pf,a,b,c,d⟩:=h
 exact ⟨pb,pw,pf,t _ _ a,t _ _ b,t _ _ c,t _ _ d⟩
theorem iJ.other {a:Addr} (h:iJ K C CW H x fp m s g) (D:mL K C H a xo ma H' Kf) (nx:x∉xo) (OQ:∀ c∈fp,c∉xo):iJ K C CW H' x fp m s g:=by
 obtain ⟨dx,hd,q,e,b,c,d⟩:=h
 exact ⟨dx,hd,q,D.but _ _ e nx,D.other b OQ,c.ts D.ts,d⟩
end
def roomF (m:ap) (s:dY) (b:Nat) (zs:List Int):Option (List cg)->Nat->Option Bool
 | none,i=>if zs.getD i 0∈(fV (m.rows.getD i []) (jD m i s.bA (b.testBit i)) (je m i s.bA (b.testBit i))).map (λ n:Nat=>(n:Int)) then none else some false
 | some l,i=>if (bE (l.getD i (0,1)) (jD m i s.bA (b.testBit i)) || bE (je m i s.bA (b.testBit i)) (l.getD i (0,1)))=true then some true
   else if zs.getD i 0∈(fV (m.rows.getD i []) (l.getD i (0,1)) (l.getD i (0,1))).map (λ n:Nat=>(n:Int)) then none else some false
def DH (K:W.Frag) (H:Hp) (n:Nat) (v:V):Option (List cg)->Prop
 | none=>v = .bT
 | some l=>∃ p ys,v = .ref p/\bg K H p ys/\cf K H (l.map ek) ys/\l.length=n/\∀ f∈l,eA 1000 f
theorem DH.same {K:W.Frag} {n:Nat} {ws:Option (List cg)} (h:DH K H n v ws) (s:aB H H'):DH K H' n v ws:=by
 cases ws with
 | none=>exact h
 | some l =>
   obtain ⟨p,ys,a,b,c,d⟩:=h
   exact ⟨p,ys,a,s.seq b,cf.same s _ c,d⟩
section
variable (K:W.Frag) (C CW NO NF NT NB:Addr)
inductive GV  (vs:List V) (H:Hp) (Q:VK) (_E:XK):Prop
 | mk (x dx a fp m p s:_) (_:vs=[.ref x,.ref a,.ref p]) (_:H x=some (.ins CW dx [])) (_:aR K C H a fp m) (_:fz K H p s) (_:gD m s) (_:m.Yf) (_:∀ pd H',qE [x] H H'->cu K H H'->iJ K C CW H' x pd m s 0->(∀ c∈pd,H c=none)->Q .bT H')
inductive Gy  (vs:List V) (H:Hp) (Q:VK) (E:XK):Prop
 | mk (x fp m s g:_) (o out:Nat) (_:vs=[.ref x,aq o,aq out]) (_:iJ K C CW H x fp m s g) (_:gD m s) (_:out<16) (_:(o∉s.orders m->pi NO none H E)) (_:(o∈s.orders m->out &&& s.may m o≠out->pi NF none H E)) (_:(o∈s.orders m->out &&& s.may m o=out->∀ H',aB H H'->Q .bT H'))
inductive Gf  (vs:List V) (H:Hp) (Q:VK) (_E:XK):Prop
 | mk (x fp m s g:_) (i b:Nat) (_:vs=[.ref x,aq i,aq b]) (_:iJ K C CW H x fp m s g) (_:gD m s) (_:i<m.rows.length) (_:(b.testBit i=true->m.has i=true)) (_:∀ q q1 q2 H',aB H H'->H' q=some (.tup [.ref q1,.ref q2])->H' q1=some (.tup [.int (jD m i s.bA (b.testBit i)).1,.int (jD m i s.bA (b.testBit i)).2])->H' q2=some (.tup [.int (je m i s.bA (b.testBit i)).1,.int (je m i s.bA (b.testBit i)).2])->Q (.ref q) H')
inductive Oc  (vs:List V) (H:Hp) (Q:VK) (E:XK):Prop
 | mk (x fp m s g:_) (i:Nat) (v1 v2 v3 f1 f2 f3:_) (_:vs=[.ref x,aq i,v1,v2,v3]) (_:iJ K C CW H x fp m s g) (_:Dn K H (ek f1) v1) (_:Dn K H (ek f2) v2) (_:Dn K H (ek f3) v3) (_:eA 1000 f1) (_:eA 1000 f2) (_:eA 1000 f3) (_:((bE f3 f1 || bE f2 f3)=true->hG NT (aq i) (.int g) H E)) (_:((bE f3 f1 || bE f2 f3)=false->∀ H',aB H H'->Q .bT H'))
inductive vL  (vs:List V) (H:Hp) (Q:VK) (E:XK):Prop
 | mk (x fp m s g:_) (o out:Nat) (pb:_) (zs:List Int) (vw ws:_) (_:vs=[.ref x,aq o,aq out,.ref pb,vw]) (_:iJ K C CW H x fp m s g) (_:gD m s) (_:out<16) (_:(bg K H pb (zs.map V.int)∨bS K H pb (zs.map V.int))) (_:zs.length=m.rows.length) (_:DH K H m.rows.length vw ws) (_:(∀ i b,i<m.rows.length->(b=true->m.has i=true)->eA 1000 (jD m i s.bA b)/\eA 1000 (je m i s.bA b))) (_:(o∈s.orders m->out &&& s.may m o=out->cp m s o out)) (_:(o∉s.orders m->pi NO none H E)) (_:(o∈s.orders m->out &&& s.may m o≠out->pi NF none H E)) (_:(o∈s.orders m->out &&& s.may m o=out->(∀ i b,i<m.rows.length->roomF m s (Ord.off o out) zs ws i=some b->(∀ j,j<i->roomF m s (Ord.off o out) zs ws j=none)->hG (if b=true then NT else NB) (aq i) (.int g) H E)/\((∀ i,i<m.rows.length->roomF m s (Ord.off o out) zs ws i=none)->∀ H',qE [x] H H'->cu K H H'->iJ K C CW H' x fp m (s.behind m (zs.map Int.toNat) o out) (g+1)->Q .bT H')))
end
theorem Hb {a b:Nat} (ha:a<16) (hb:b<16):Ord.off a b=0↔a &&& b=a:=by
 constructor
 .
  intro h
  refine aim λ k=>?_
  have e:=Ord.oS ha hb k
  rw [h,Nat.zero_testBit] at e
  rw [afj]
  cases x:a.testBit k<;>cases y:b.testBit k<;>rw [x,y] at e<;>first|rfl|cases e
 .
  intro h
  refine aim λ k=>?_
  rw [Ord.oS ha hb,Nat.zero_testBit]
  have e:(a &&& b).testBit k=a.testBit k:=by rw [h]
  rw [afj] at e
  cases x:a.testBit k<;>cases y:b.testBit k<;>rw [x,y] at e<;>first|rfl|cases e
theorem Fc {m:ap} {s:dY} {o:Nat} (h4:m.rows.length<=4):s.may m o<16:=abE (Ord.vC _ _) (aib (by decide) h4:2 ^ m.rows.length<=2 ^ 4)
theorem AO {m:ap} {s:dY} {o:Nat} (h:o∈s.orders m):o &&& m.ws=o:=by
 have h:=(List.mem_filter.mp h).1
 exact Bit.GL h
theorem uK (l:List Nat):(l.map aq).all or=true:=by
 rw [anX]
 intro x hx
 obtain ⟨n,_,rfl⟩:=List.mem_map.mp hx
 rfl
theorem Kt (o:Nat) (l:List Nat):Ii (aq o) (l.map aq)=decide (o∈l):=by
 unfold Ii
 induction l with
 | nil=>simp
 | cons x l ih =>
   rw [aeC,an8,ih]
   show (((x:Int) == (o:Int)) || decide (o∈l))=_
   rw [alm]
   simp only [aph,beq_iff_eq,ae2,abj]
   have:((x:Int)=(o:Int))↔o=x:=by lia
   rw [this]
theorem Fs (z:Int) (l:List Nat):Ii (V.int z) (l.map aq)=decide (z∈l.map (λ n:Nat=>(n:Int))):=by
 unfold Ii
 induction l with
 | nil=>simp
 | cons x l ih =>
   rw [aeC,an8,ih]
   show (((x:Int) == z) || decide (z∈l.map _))=_
   rw [alm]
   simp only [aph,beq_iff_eq,ae2,aeC,abj]
   have:((x:Int)=z)↔z=(x:Int):=⟨Eq.symm,Eq.symm⟩
   rw [this]
theorem aR.Wc {K:W.Frag} {a x:Addr} {m:ap} (h:aR K C H a fp m) (st:∀ b o,H b=some o->b≠x->H' b=some o) (ts:cu K H H') (nx:x∉fp):aR K C H' a fp m:=by
 obtain ⟨⟨OY,pm,pf,ps,pt,vm,vs,vt,aN,rfl,ha,iM,dI,gX,ft,c8,n1,n2,n3,dm,ds,dt,df,fk⟩,q1,q2,q3,q4⟩:=h
 have g:∀ {c o},H c=some o->c∈[a,OY,pm,pf,ps,pt]->H' c=some o:=λ {c o} e hc=>st c o e (λ z=>nx (z ▸ hc))
 exact ⟨⟨OY,pm,pf,ps,pt,vm,vs,vt,aN,rfl,g ha (by simp),g iM (by simp),g dI (by simp),g gX (by simp),g ft (by simp),g c8 (by simp),n1,n2,n3,jf ts dm,h9 ts ds,gb ts dt,λ i j=>(df i j).ts ts,fk⟩,q1,q2,q3,q4⟩
theorem lV {X:Cx}:hZ X (.type "tuple") (λ xs H Q=>∃ p ys,xs=[.ref p]/\(bg X.K H p ys∨bS X.K H p ys)/\∀ q H',aB H H'->bS X.K H' q ys->Q (.ref q) H'):=by
 intro pins s U H xs us Q I r h
 obtain ⟨p,ys,e,hz,h⟩:=h
 refine dC pins s U H xs us Q I r ⟨p,ys,e,?_⟩
 rcases hz with z|z
 . exact .inl ⟨z,λ q hq=>h q _ (ai hq) (bS.of ah)⟩
 . exact .inr ⟨z,h p H (aB.refl _) z⟩
theorem uX (h:∀ z∈zs,0<=z):zs.map V.int=(zs.map Int.toNat).map aq:=by
 rw [aoj]
 refine List.map_congr_left λ z hz=>?_
 show V.int z=V.int ((z.toNat:Nat):Int)
 rw [ahT (h z hz)]
theorem LB (h:i<zs.length):zs[i]?=some (zs.getD i 0):=by rw [Nv,ad6 h];rfl
theorem vV {m:ap} {s:dY} {b:Nat}:roomF m s b zs none i=if zs.getD i 0∈(fV (m.rows.getD i []) (jD m i s.bA (b.testBit i)) (je m i s.bA (b.testBit i))).map (λ n:Nat=>(n:Int)) then none else some false:=rfl
theorem qT {m:ap} {s:dY} {b:Nat} {l:List cg}:roomF m s b zs (some l) i=if (bE (l.getD i (0,1)) (jD m i s.bA (b.testBit i)) || bE (je m i s.bA (b.testBit i)) (l.getD i (0,1)))=true then some true
   else if zs.getD i 0∈(fV (m.rows.getD i []) (l.getD i (0,1)) (l.getD i (0,1))).map (λ n:Nat=>(n:Int)) then none else some false:=rfl
theorem Af {m:ap} {s:dY} {b:Nat} {ws:Option (List cg)} (h:roomF m s b zs ws i=none):0<=zs.getD i 0/\(zs.getD i 0).toNat+1<(m.rows.getD i []).length:=by
 have key:∀ {r f g},zs.getD i 0∈(fV r f g).map (λ n:Nat=>(n:Int))->0<=zs.getD i 0/\(zs.getD i 0).toNat+1<r.length:=λ {r f g} hm=>by
   obtain ⟨n,hn,e⟩:=List.mem_map.mp hm
   have:=List.mem_range.mp (List.mem_filter.mp hn).1
   lia
 cases ws with
 | none =>
   rw [vV] at h
   by_cases hm:zs.getD i 0∈(fV (m.rows.getD i []) (jD m i s.bA (b.testBit i)) (je m i s.bA (b.testBit i))).map (λ n:Nat=>(n:Int))
   . exact key hm
   . rw [aa8 hm] at h;cases h
 | some l =>
   rw [qT] at h
   by_cases hc:(bE (l.getD i (0,1)) (jD m i s.bA (b.testBit i)) || bE (je m i s.bA (b.testBit i)) (l.getD i (0,1)))=true
   . rw [abl hc] at h;cases h
   . rw [aa8 hc] at h
     by_cases hm:zs.getD i 0∈(fV (m.rows.getD i []) (l.getD i (0,1)) (l.getD i (0,1))).map (λ n:Nat=>(n:Int))
     . exact key hm
     . rw [aa8 hm] at h;cases h
def Cg (K:W.Frag) (rs:List (Addr×List Value)) (no:List Value) (se:Addr):Bool :=
 rs.zipIdx.all λ ci=>(rs.zipIdx.all λ dj=>decide (W.kitOne K (.ref ci.1.1) (.ref dj.1.1)=some (ci.2 == dj.2))) && decide (W.kitAny K (.ref ci.1.1) ci.1.2=some false) && decide (W.kitAny K (.ref ci.1.1) no=some false) && decide (W.kitOne K (.ref ci.1.1) (.type "ValueError")=some true) && decide (W.exmOne K (.ref ci.1.1) (.ref se)=some true)
structure XE (K:W.Frag) (rs:List (Addr×List Value)) (no:List Value) (se:Addr) (c:Addr) (l:List Value) (i:Nat):Prop where
 one:∀ j d,rs[j]?=some d->W.kitOne K (.ref c) (.ref d.1)=some (i == j)
 ot:W.kitAny K (.ref c) l=some false
 no:W.kitAny K (.ref c) no=some false
 ve:W.kitOne K (.ref c) (.type "ValueError")=some true
 ex:W.exmOne K (.ref c) (.ref se)=some true
theorem FZ {K:W.Frag} {rs:List (Addr×List Value)} {no l:List Value} {se c:Addr} (h:Cg K rs no se=true) (hi:rs[i]?=some (c,l)):XE K rs no se c l i:=by
 unfold Cg at h
 have h1:=List.all_eq_true.mp h ((c,l),i) (List.mem_zipIdx_iff_getElem?.mpr hi)
 simp only [ac5,ae2] at h1
 obtain ⟨⟨⟨⟨h1,h2⟩,h3⟩,h4⟩,h5⟩:=h1
 refine ⟨λ j d hd=>?_,h2,h3,h4,h5⟩
 exact aop (List.all_eq_true.mp h1 (d,j) (List.mem_zipIdx_iff_getElem?.mpr hd))
def qR (H0 H:Hp) (L:List Addr) (vm:List V) (ms:List (List Int)):Prop :=
 ∃ kd:List Addr,vm=kd.map V.ref/\kd.length=ms.length/\kd.Nodup/\∀ (j:Nat) pk l,kd[j]?=some pk->ms[j]?=some l->H pk=some (.lst (List.map V.int l))/\pk∉L/\H0 pk=none/\∀ x∈l,-30<=x/\x<=150
section
variable {K:W.Frag} {H0 H H1 H':Hp} {L:List Addr} {vm:List V} {ms:List (List Int)}
theorem qR.nil:qR H0 H L [] []:=⟨[],rfl,rfl,aoK,λ j pk l h=>by simp at h⟩
theorem qR.step (h:qR H0 H L vm ms) (s:qE L H H'):qR H0 H' L vm ms:=by
 obtain ⟨kd,e,l,nd,f⟩:=h
 exact ⟨kd,e,l,nd,λ j pk l h1 h2=>⟨s _ _ (f j pk l h1 h2).1 (f j pk l h1 h2).2.1,(f j pk l h1 h2).2⟩⟩
theorem lC (s:aB H H'):qE L H H':=λ b o h _=>s b o h
theorem rh {a:Addr} {o:HO} (h:a∈L):qE L H (upd H a o):=λ b u e n=>by
 have nb:b≠a:=λ z=>n (by rw [z];exact h)
 rw [aD nb];exact e
theorem iT {H2:Hp} (a:qE L H H1) (b:qE L H1 H2):qE L H H2:=λ c o h n=>b c o (a c o h n) n
theorem qR.snoc {pk:Addr} (h:qR H0 H1 L vm ms) (hn:H1 pk=none) (s:qE L H1 H) (hk:H pk=some (.lst (l.map V.int))) (kL:pk∉L) (k0:H0 pk=none) (kb:∀ x∈l,-30<=x/\x<=150):qR H0 H L (vm++[.ref pk]) (ms++[l]):=by
 obtain ⟨kd,e,le,nd,f⟩:=h
 have nw:pk∉kd:=λ z=>by
   obtain ⟨j,hj,e⟩:=aiR z
   have IT:j<ms.length:=by lia
   have:=(f j pk ms[j] (by rw [ad6 hj,e]) (ad6 IT)).1
   rw [hn] at this
   cases this
 refine ⟨kd++[pk],by rw [e,YC];rfl,by rw [aas,aas,le];rfl,?_,λ j q r h1 h2=>?_⟩
 . rw [List.nodup_append]
   exact ⟨nd,by simp,λ a ha b hb z=>nw (by rw [List.mem_singleton.mp hb] at z;rw [← z];exact ha)⟩
 .
  by_cases c:j<kd.length
  . rw [aeF c] at h1
    rw [aeF (by lia)] at h2
    have:=f j q r h1 h2
    exact ⟨s _ _ this.1 this.2.1,this.2⟩
  .
   rw [aea (by lia)] at h1
   rw [aea (by lia)] at h2
   have c0:j - kd.length=0:=by
     have:=(List.getElem?_eq_some_iff.mp h1).1
     simp at this
     lia
   have c1:j - ms.length=0:=by lia
   rw [c0] at h1
   rw [c1] at h2
   obtain rfl:pk=q:=aaU h1
   obtain rfl:l=r:=aaU h2
   exact ⟨hk,kL,k0,kb⟩
end
def LY (K:W.Frag) (H0 H:Hp) (p:Addr) (m:aw):Prop:=∃ pm ps pt pf fm pb vm vs vt aN,TC K H p pm ps pt pf fm pb vm vs vt aN m/\qR H0 H [p,pm,ps,pt,pf] vm m.marks
inductive Bj (K:W.Frag) (vs:List V) (H:Hp) (Q:VK) (_E:XK):Prop
 | mk (a:_) (ns:List Int) (_:vs=[.ref a]) (_:bg K H a (ns.map V.int)) (_:∀ p H' m n,1<=n->n<=4->aw.Ok n n m->aB H H'->LY K H H' p m->Q (.ref p) H')
inductive Ka (K:W.Frag) (vs:List V) (H:Hp) (Q:VK) (_E:XK):Prop
 | mk (p m H0:_) (n:Nat) (c:Int) (_:vs=[.ref p,.int c]) (_:aw.Ok n n m) (_:aB H0 H) (_:LY K H0 H p m) (_:∀ H' m',aw.Ok n n m'->aB H0 H'->fA K H' p m'->Q (.ref p) H')
def ik (l:List Int):List Int:=(l.set 0 (-40)).set (l.length - 1) 200
theorem KR {n:Nat} (h:vk n l) (hb:∀ x∈l,-30<=x/\x<=150):vk n (ik l):=by
 have el:(ik l).length=l.length:=by unfold ik;rw [ah1,ah1]
 have l2:=h.two
 have at_:∀ (i:Nat) (x:Int),(ik l)[i]?=some x->i<l.length/\((i=l.length - 1/\x=200)∨(i≠l.length - 1/\i=0/\x = -40)∨(i≠l.length - 1/\i≠0/\l[i]?=some x)):=λ i x e=>by
   have hi:i<l.length:=by rw [← el];exact (List.getElem?_eq_some_iff.mp e).1
   refine ⟨hi,?_⟩
   unfold ik at e
   by_cases c:i=l.length - 1
   . rw [← c,aiM (by rw [ah1];exact hi)] at e
     exact .inl ⟨c,(aaU e).symm⟩
   .
    rw [agM (by lia)] at e
    by_cases d:i=0
    . subst d
      rw [aiM hi] at e
      exact .inr (.inl ⟨c,rfl,(aaU e).symm⟩)
    . rw [agM (by lia)] at e
      exact .inr (.inr ⟨c,d,e⟩)
 refine ⟨by rw [el];exact l2,by rw [el];exact h.most,λ i x y h1 h2=>?_,λ x hx=>?_⟩
 .
  obtain ⟨i1,c1⟩:=at_ i x h1
  obtain ⟨i2,c2⟩:=at_ (i+1) y h2
  rcases c1 with ⟨a,b⟩|⟨a,b,c⟩|⟨a,b,c⟩
  . lia
  . rcases c2 with ⟨a2,b2⟩|⟨a2,b2,c2⟩|⟨a2,b2,c2⟩
    . lia
    . lia
    . have:=hb y (ac8 c2);lia
  . rcases c2 with ⟨a2,b2⟩|⟨a2,b2,c2⟩|⟨a2,b2,c2⟩
    . have:=hb x (ac8 c);lia
    . lia
    . exact h.OU i x y c c2
 .
  obtain ⟨i,hi,e⟩:=aiR hx
  obtain ⟨_,c⟩:=at_ i x (by rw [ad6 hi,e])
  rcases c with ⟨a,b⟩|⟨a,b,c⟩|⟨a,b,c⟩
  . lia
  . lia
  . have:=hb x (ac8 c);lia
structure EM (K:W.Frag) (H0 H:Hp) (L kd:List Addr) (ms:List (List Int)) (i:Nat) (H':Hp):Prop where
 same:aB H0 H'
 ts:cu K (dU H L) (dU H' L)
 but:qE kd H H'
 rows:∀ (j:Nat) pk l,kd[j]?=some pk->ms[j]?=some l->H' pk=some (.lst ((if j<i then ik l else l).map V.int))
theorem EM.put {K:W.Frag} {L:List Addr} {ms:List (List Int)} {pk:Addr} (h:EM K H0 H L kd ms i H') (nd:kd.Nodup) (hp:kd[i]?=some pk) (hl:ms[i]?=some l) (h0:H0 pk=none) (nL:pk∉L) :
   EM K H0 H L kd ms (i+1) (upd (upd H' pk (.lst ((l.map V.int).set 0 (.int (-40))))) pk (.lst (((l.map V.int).set 0 (.int (-40))).set (((l.map V.int).set 0 (.int (-40))).length - 1) (.int 200)))):=by
 have e:∀ o o',upd (upd H' pk o) pk o'=upd H' pk o':=λ o o'=>by
   funext b
   by_cases z:b=pk
   . rw [z,ah,ah]
   . rw [aD z,aD z,aD z]
 rw [e]
 have ev:(((l.map V.int).set 0 (.int (-40))).set (((l.map V.int).set 0 (.int (-40))).length - 1) (.int 200))=(ik l).map V.int:=by
   unfold ik
   rw [ah1,At,aoX,aoX]
 rw [ev]
 have o9:=h.rows i pk l hp hl
 refine ⟨h.same.put h0,h.ts.trans ?_,λ b o hb n=>?_,λ j q r h1 h2=>?_⟩
 .
  have ec:dU (upd H' pk (.lst ((ik l).map V.int))) L=upd (dU H' L) pk (.lst ((ik l).map V.int)):=by
    funext b
    unfold dU
    by_cases z:b=pk
    . rw [z,ah,aa8 nL];exact ah.symm
    . rw [aD z,aD z]
  rw [ec]
  exact eS (jG o9 nL) rfl
 . rw [aD (λ z=>n (by rw [z];exact ac8 hp))]
   exact h.but b o hb n
 .
  by_cases z:j=i
  . subst z
    obtain rfl:pk=q:=aaU (hp.symm.trans h1)
    obtain rfl:l=r:=aaU (hl.symm.trans h2)
    rw [ah,abl (ao3 _)]
  .
   have nq:q≠pk:=λ y=>by
     have hj:=(List.getElem?_eq_some_iff.mp h1)
     have hi:=(List.getElem?_eq_some_iff.mp hp)
     obtain ⟨hj,ej⟩:=hj
     obtain ⟨hi,ei⟩:=hi
     exact z (by
       exact (List.getElem?_inj hj nd).mp (h1.trans (by rw [y];exact hp.symm)))
   rw [aD nq,h.rows j q r h1 h2]
   by_cases c:j<i
   . rw [abl c,abl (by lia)]
   . rw [aa8 c,aa8 (by lia)]
theorem Dx (z:Int×Int×Int):fu (DW z)=true:=by simp [fu]
theorem G7 (z:Option (Int×Int×Int×Int)):fu (stI z)=true:=by cases z<;>simp [stI,fu]
theorem Cr {K:W.Frag}:∀ {kd:List Addr} {ms:List (List Int)},kd.length=ms.length->(∀ (j:Nat) pk l,kd[j]?=some pk->ms[j]?=some l->H pk=some (.lst (List.map V.int l)))->cf K H (ms.map qG) (kd.map V.ref)
 | [],[],_,_=>rfl
 | pk::kd,l::ms,h,f=>⟨.ref pk,kd.map V.ref,rfl,⟨pk,_,rfl,bg.of (f 0 pk l rfl rfl),xg l⟩,Cr (by simpa using h) λ j q r h1 h2=>f (j+1) q r h1 h2⟩
theorem EM.told {K:W.Frag} {p pm ps pt pf fm pb:Addr} {vs vt:List V} {aN:List (List Key×V)} {m:aw} {n:Nat} (h:EM K H0 H [p,pm,ps,pt,pf] kd m.marks n H') (C:TC K H p pm ps pt pf fm pb (kd.map V.ref) vs vt aN m) (ok:m.Ok n n) (lp:kd.length=n) (f:∀ (j:Nat) pk l,kd[j]?=some pk->m.marks[j]?=some l->pk∉[p,pm,ps,pt,pf]/\∀ x∈l,-30<=x/\x<=150) :
   TC K H' p pm ps pt pf fm pb (kd.map V.ref) vs vt aN { m with marks:=m.marks.map ik }/\aw.Ok n n { m with marks:=m.marks.map ik }:=by
 have nl:∀ b∈[p,pm,ps,pt,pf],b∉kd:=λ b hb z=>by
   obtain ⟨j,hj,e⟩:=aiR z
   have IT:j<m.marks.length:=by rw [ok.lm];lia
   exact (f j b m.marks[j] (by rw [ad6 hj,e]) (ad6 IT)).1 hb
 have g:∀ {b o},H b=some o->b∈[p,pm,ps,pt,pf]->H' b=some o:=λ {b o} e hb=>h.but b o e (nl b hb)
 refine ⟨⟨g C.hp (by simp),g C.dI (by simp),g C.ft (by simp),g C.c8 (by simp),g C.gX (by simp),C.n1,C.n2,C.n3,?_,?_,?_,C.df,C.fk,h.ts _ _ C.sc,h.ts _ _ C.bo⟩,?_⟩
 .
  refine Cr (by rw [At,ok.lm];exact lp) λ j pk l h1 h2=>?_
  have hj:j<n:=by rw [← lp];exact (List.getElem?_eq_some_iff.mp h1).1
  have IT:j<m.marks.length:=by rw [ok.lm];exact hj
  have h2:(m.marks.map ik)[j]?=some l:=h2
  rw [RS,av IT] at h2
  obtain rfl:ik m.marks[j]=l:=aaU h2
  have:=h.rows j pk _ h1 (av IT)
  rw [abl hj] at this
  exact jG this (f j pk _ h1 (av IT)).1
 . exact cf.ts h.ts _ (λ d hd=>by obtain ⟨z,_,rfl⟩:=List.mem_map.mp hd;exact Dx z) C.ds
 . exact cf.ts h.ts _ (λ d hd=>by obtain ⟨z,_,rfl⟩:=List.mem_map.mp hd;exact G7 z) C.dt
 .
  refine ⟨by show (m.marks.map ik).length=n;rw [At];exact ok.lm,ok.ls,ok.lt,λ l hl=>?_,ok.dE,ok.aF,ok.bI,ok.scale,ok.bounds⟩
  obtain ⟨r,hr,rfl⟩:=List.mem_map.mp (show l∈m.marks.map ik from hl)
  obtain ⟨j,hj,e⟩:=aiR hr
  have hjn:j<kd.length:=by rw [lp,← ok.lm];exact hj
  exact KR (ok.rows r hr) (f j kd[j] r (av hjn) (by rw [av hj,e])).2
theorem MO {n:Nat} (h:0<n):Du n (-1)=some (n - 1):=by
 unfold Du
 rw [aa8 (by lia),abl (by lia)]
 congr 1
 lia
theorem UE {n:Nat} (h:0<n):Du n 0=some 0:=by
 unfold Du
 rw [abl (by lia),abl (by lia)]
 rfl
def aw.ue (tm:aw) (i:Nat) (z lo hi:Int):Prop:=0<=z/\z<((tm.marks.getD i []).length:Int) - 1/\12 * tm.BW i z.toNat<=hi/\lo<=12 * tm.BW i (z.toNat+1)
instance {tm:aw} {i:Nat} {z lo hi:Int}:Decidable (tm.ue i z lo hi):=by unfold aw.ue;infer_instance
def aw.s0 (tm:aw) (n i:Nat) (bs:List Nat) (f:Bool):Int:=tm.sX n i bs 0 (tm.kJ i).2.1 f
def aw.s1 (tm:aw) (n i:Nat) (bs:List Nat) (f:Bool):Int:=tm.sX n i bs 1 (tm.kJ i).2.2 f
def aw.tF (tm:aw) (n:Nat) (bs:List Nat) (b:Nat) (zs:List Int):Option (List Int)->Nat->Option Bool
 | none,i=>if tm.ue i (zs.getD i 0) (tm.s0 n i bs (b.testBit i)) (tm.s1 n i bs (b.testBit i)) then none else some false
 | some l,i=>if l.getD i 0<tm.s0 n i bs (b.testBit i)∨tm.s1 n i bs (b.testBit i)<l.getD i 0 then some true else if tm.ue i (zs.getD i 0) (l.getD i 0) (l.getD i 0) then none else some false
theorem Dw {r:List cg} {f g:cg} {z:Int}:z∈(fV r f g).map (λ n:Nat=>(n:Int))↔0<=z/\z.toNat<r.length - 1/\mf r f g z.toNat=true:=by
 unfold fV kS
 rw [List.mem_map]
 constructor
 . rintro ⟨n,hn,rfl⟩
   obtain ⟨h1,h2⟩:=List.mem_filter.mp hn
   exact ⟨by lia,by simpa using List.mem_range.mp h1,by simpa using h2⟩
 . rintro ⟨h0,h1,h2⟩
   exact ⟨z.toNat,List.mem_filter.mpr ⟨List.mem_range.mpr h1,h2⟩,by lia⟩
section
variable {tm:aw} {n i:Nat}
theorem lO (ok:tm.Ok n n) (hi:i<n):(tm.m2 n n).rows.getD i []=tm.row (tm.marks.getD i []):=by
 have sW:i<tm.marks.length:=by rw [ok.lm];exact hi
 rw [(dh tm n n).1,Nv,RS,an0 hi,Nv,av sW];rfl
theorem xW {b:Nat} (h:b<l.length):(tm.row l).getD b (0,1)=aZ (l.getD b 0) 1 tm.scale:=by
 unfold aw.row
 rw [Nv,RS,av h,Nv,av h];rfl
theorem kD {A z:Int} (ok:tm.Ok n n) (hi:i<n):z∈(fV ((tm.m2 n n).rows.getD i []) (aZ A 12 tm.scale) (aZ B 12 tm.scale)).map (λ n:Nat=>(n:Int))↔tm.ue i z A B:=by
 rw [Dw,lO ok hi]
 unfold aw.ue aw.BW mf
 generalize tm.marks.getD i []=l
 have el:(tm.row l).length=l.length:=by unfold aw.row;rw [At]
 rw [el]
 refine ao7 λ h0=>?_
 have e1:(z.toNat<l.length - 1)↔(z<(l.length:Int) - 1):=by lia
 rw [e1]
 refine ao7 λ h1=>?_
 rw [xW (by lia),xW (by lia),p6 ok.scale (by decide) (by decide),p6 ok.scale (by decide) (by decide)]
 simp only [ac5,aob,decide_eq_false_iff_not]
 lia
theorem zk (ok:tm.Ok n n) (hi:i<n):(lK (tm.m2 n n) i).2.1=aZ (tm.kJ i).2.1 1 tm.scale/\(lK (tm.m2 n n) i).2.2=aZ (tm.kJ i).2.2 1 tm.scale/\(-200<=(tm.kJ i).2.1/\(tm.kJ i).2.1<=200)/\(-200<=(tm.kJ i).2.2/\(tm.kJ i).2.2<=200)/\(tm.kJ i).2.1<=(tm.kJ i).2.2:=by
 have yf:i<tm.dE.length:=by rw [ok.ls];exact hi
 have J0:=ok.dE tm.dE[i] (aaA yf)
 unfold lK aw.kJ
 rw [(jV ok n (aar n)).1 i hi,av yf]
 refine ⟨rfl,rfl,?_⟩
 show (-200<=tm.dE[i].2.1/\tm.dE[i].2.1<=200)/\(-200<=tm.dE[i].2.2/\tm.dE[i].2.2<=200)/\tm.dE[i].2.1<=tm.dE[i].2.2
 lia
theorem nY (ok:tm.Ok n n) (hi:i<n) (h:(tm.m2 n n).has i=true):∃ z,tm.aF[i]?=some (some z):=by
 unfold ap.has at h
 rw [rV ok hi] at h
 cases e:tm.aF[i]? with
 | none=>rw [e] at h;cases h
 | some o =>
   cases o with
   | none=>rw [e] at h;cases h
   | some z=>exact ⟨z,rfl⟩
section
variable {bs:List Nat} {f:Bool}
theorem sJ (wf:(tm.m2 n n).Wf) (ok:tm.Ok n n) (n4:n<=4) (hi:i<n) (hb:rW tm n bs) (hz:f=true->(tm.m2 n n).has i=true):jD (tm.m2 n n) i bs f=aZ (tm.s0 n i bs f) 12 tm.scale/\je (tm.m2 n n) i bs f=aZ (tm.s1 n i bs f) 12 tm.scale:=by
 obtain ⟨e1,e2,b1,b2,_⟩:=zk ok hi
 unfold jD je aw.s0 aw.s1
 rw [e1,e2]
 exact ⟨uO wf ok n4 hi hb (by decide) b1 λ q=>nY ok hi (hz q),uO wf ok n4 hi hb (by decide) b2 λ q=>nY ok hi (hz q)⟩
theorem OD (ok:tm.Ok n n) (n4:n<=4) (hi:i<n) (hb:rW tm n bs):(-3000<=tm.s0 n i bs f/\tm.s0 n i bs f<=3000)/\(-3000<=tm.s1 n i bs f/\tm.s1 n i bs f<=3000)/\tm.s0 n i bs f<=tm.s1 n i bs f:=by
 obtain ⟨_,_,b1,b2,le⟩:=zk ok hi
 refine ⟨LM ok n4 hi hb (by decide) b1,LM ok n4 hi hb (by decide) b2,?_⟩
 have:=BE (x:=tm.xl bs 0) (y:=tm.xl bs 1) ok n4 hi (λ j hj=>?_) le
 . unfold aw.s0 aw.s1 aw.sX
   lia
 .
  obtain ⟨h1,h2,e0,_⟩:=iC (b:=bs.getD j 0) ok hj (by have:=hb.lt j hj;lia)
  obtain ⟨_,h3,e1,_⟩:=iC (b:=bs.getD j 0+1) ok hj (hb.lt j hj)
  have OU:=(ok.rows tm.marks[j] (aaA h1)).OU _ _ _ (av h2) (av h3)
  rw [← e0,← e1] at OU
  exact ajz OU
theorem sI {x:Int} (ok:tm.Ok n n) (h1 : -5000<=x) (h2:x<=5000):eA 1000 (aZ x 12 tm.scale):=(rf (n:=16) ok.scale (by decide) (show x.natAbs<2 ^ 16 by lia) (show Int.natAbs 12<2 ^ 16 by decide)).mono (by decide)
theorem FU (wf:(tm.m2 n n).Wf) (ok:tm.Ok n n) (n4:n<=4) (hi:i<n) (hb:rW tm n bs) (hz:f=true->(tm.m2 n n).has i=true):eA 1000 (jD (tm.m2 n n) i bs f)/\eA 1000 (je (tm.m2 n n) i bs f):=by
 obtain ⟨e1,e2⟩:=sJ wf ok n4 hi hb hz
 obtain ⟨b1,b2,_⟩:=OD (f:=f) ok n4 hi hb
 rw [e1,e2]
 exact ⟨sI ok (by lia) (by lia),sI ok (by lia) (by lia)⟩
end
theorem nM {s:dY} {b:Nat} {wl:Option (List Int)} (wf:(tm.m2 n n).Wf) (ok:tm.Ok n n) (n4:n<=4) (hi:i<n) (hb:rW tm n s.bA) (hz:b.testBit i=true->(tm.m2 n n).has i=true) (hl:∀ l,wl=some l->l.length=n) :
   roomF (tm.m2 n n) s b zs (wl.map λ l=>l.map λ x=>aZ x 12 tm.scale) i=tm.tF n s.bA b zs wl i:=by
 obtain ⟨e1,e2⟩:=sJ wf ok n4 hi hb hz
 cases wl with
 | none =>
   show roomF (tm.m2 n n) s b zs none i=if tm.ue i (zs.getD i 0) (tm.s0 n i s.bA (b.testBit i)) (tm.s1 n i s.bA (b.testBit i)) then none else some false
   rw [vV,e1,e2]
   by_cases c:tm.ue i (zs.getD i 0) (tm.s0 n i s.bA (b.testBit i)) (tm.s1 n i s.bA (b.testBit i))
   . rw [abl c,abl ((kD ok hi).mpr c)]
   . rw [aa8 c,aa8 (λ q=>c ((kD ok hi).mp q))]
 | some l =>
   have hl:=hl l rfl
   have el:(l.map λ x=>aZ x 12 tm.scale).getD i (0,1)=aZ (l.getD i 0) 12 tm.scale:=by
     rw [Nv,RS,av (by lia),Nv,av (by lia)];rfl
   show roomF (tm.m2 n n) s b zs (some (l.map λ x=>aZ x 12 tm.scale)) i=if l.getD i 0<tm.s0 n i s.bA (b.testBit i)∨tm.s1 n i s.bA (b.testBit i)<l.getD i 0 then some true else if tm.ue i (zs.getD i 0) (l.getD i 0) (l.getD i 0) then none else some false
   rw [qT,e1,e2,el,ki ok.scale (by decide),ki ok.scale (by decide)]
   by_cases c:l.getD i 0<tm.s0 n i s.bA (b.testBit i)∨tm.s1 n i s.bA (b.testBit i)<l.getD i 0
   . rw [abl c,abl (by simpa using c)]
   . rw [aa8 c,aa8 (by simpa using c)]
     by_cases d:tm.ue i (zs.getD i 0) (l.getD i 0) (l.getD i 0)
     . rw [abl d,abl ((kD ok hi).mpr d)]
     . rw [aa8 d,aa8 (λ q=>d ((kD ok hi).mp q))]
end
def i5 (F:Nat->Option Bool):Nat->Option (Nat×Bool)
 | 0=>none
 | n+1=>match i5 F n with|some r=>some r|none=>(F n).map λ b=>(n,b)
section
variable {F G:Nat->Option Bool}
theorem lD:∀ {n:Nat},(∀ i,i<n->F i=none)->i5 F n=none
 | 0,_=>rfl
 | n+1,h=>by
   unfold i5
   rw [lD λ i hi=>h i (by lia),h n (by lia)];rfl
theorem ux:∀ {n i:Nat} {b:Bool},i<n->F i=some b->(∀ j,j<i->F j=none)->i5 F n=some (i,b)
 | n+1,i,b,hi,e,hj=>by
   unfold i5
   by_cases c:i<n
   . rw [ux c e hj]
   . obtain rfl:i=n:=by lia
     rw [lD hj,e];rfl
theorem uS:∀ {n:Nat},(i5 F n=none/\∀ i,i<n->F i=none)∨∃ i b,i5 F n=some (i,b)/\i<n/\F i=some b/\∀ j,j<i->F j=none
 | 0 => .inl ⟨rfl,λ i h=>absurd h (an6 _)⟩
 | n+1=>by
   rcases uS (n:=n) with ⟨e,h⟩|⟨i,b,e,hi,h1,h2⟩
   .
    cases c:F n with
    | none =>
      refine .inl ⟨by unfold i5;rw [e,c];rfl,λ i hi=>?_⟩
      by_cases z:i<n
      . exact h i z
      . obtain rfl:i=n:=by lia
        exact c
    | some b=>exact .inr ⟨n,b,by unfold i5;rw [e,c];rfl,by lia,c,h⟩
   . exact .inr ⟨i,b,by unfold i5;rw [e],by lia,h1,h2⟩
end
def Xs (ho hf:Bool) (r:Option (Nat×Bool)):Str×V :=
 if ho then (if hf then (match r with|none=>("",.bT)|some (i,b)=>((if b then ("turn" : Str) else "band"),aq i)) else ("failing",.bT)) else ("order",.bT)
def iA (tm:aw) (n:Nat) (s:dY) (o out:Nat) (zs:List Int) (wl:Option (List Int)):Str×V :=
 Xs (decide (o∈s.orders (tm.m2 n n))) (decide (out &&& s.may (tm.m2 n n) o=out)) (i5 (tm.tF n s.bA (Ord.off o out) zs wl) n)
section
variable {tm:aw} {n o out:Nat} {s:dY} {zs:List Int} {wl:Option (List Int)}
theorem mF (h:o∉s.orders (tm.m2 n n)):iA tm n s o out zs wl=(("order" : Str),V.bT):=by unfold iA;rw [abC h];rfl
theorem jd (h:o∈s.orders (tm.m2 n n)) (f:out &&& s.may (tm.m2 n n) o≠out):iA tm n s o out zs wl=(("failing" : Str),V.bT):=by unfold iA;rw [abY h,abC f];rfl
theorem oJ {b:Bool} (h:o∈s.orders (tm.m2 n n)) (f:out &&& s.may (tm.m2 n n) o=out) (hi:i<n) (e:tm.tF n s.bA (Ord.off o out) zs wl i=some b) (hj:∀ j,j<i->tm.tF n s.bA (Ord.off o out) zs wl j=none):iA tm n s o out zs wl=((if b then ("turn" : Str) else "band"),aq i):=by
 unfold iA;rw [abY h,abY f,ux hi e hj];rfl
theorem Bt (h:o∈s.orders (tm.m2 n n)) (f:out &&& s.may (tm.m2 n n) o=out) (hj:∀ j,j<n->tm.tF n s.bA (Ord.off o out) zs wl j=none):iA tm n s o out zs wl=(("" : Str),V.bT):=by
 unfold iA;rw [abY h,abY f,lD hj];rfl
end
def Bz (K:W.Frag) (H:Hp) (n:Nat) (v:V):Option (List Int)->Prop
 | none=>v = .bT
 | some l=>∃ p,v = .ref p/\bg K H p (l.map V.int)/\l.length=n/\∀ x∈l,-5000<=x/\x<=5000
theorem Bz.same {K:W.Frag} {n:Nat} {wl:Option (List Int)} (h:Bz K H n v wl) (s:aB H H'):Bz K H' n v wl:=by
 cases wl with
 | none=>exact h
 | some l =>
   obtain ⟨p,a,b,c⟩:=h
   exact ⟨p,a,s.seq b,c⟩
theorem Bz.len {K:W.Frag} {n:Nat} {wl:Option (List Int)} (h:Bz K H n v wl):∀ l,wl=some l->l.length=n:=λ l e=>by
 subst e
 obtain ⟨p,a,b,c,d⟩:=h
 exact c
def Dm (K:W.Frag) (H:Hp) (t:Addr) (n o out:Nat) (zs:List Int) (wl:Option (List Int)):Prop:=∃ pb vw,bS K H t [aq o,aq out,.ref pb,vw]/\bg K H pb (zs.map V.int)/\zs.length=n/\Bz K H n vw wl
theorem Dm.same {K:W.Frag} {t:Addr} {n o out:Nat} {wl:Option (List Int)} (h:Dm K H t n o out zs wl) (s:aB H H'):Dm K H' t n o out zs wl:=by
 obtain ⟨pb,vw,a,b,c,d⟩:=h
 exact ⟨pb,vw,s.tup a,s.seq b,c,d.same s⟩
section
variable (K:W.Frag) (C CW:Addr)
inductive Bl  (vs:List V) (H:Hp) (Q:VK) (_E:XK):Prop
 | mk (p tm:_) (n i:Nat) (pb bs fired:_) (_:vs=[.ref p,aq i,.ref pb,.bl fired]) (_:fA K H p tm) (_:tm.Ok n n) (_:n<=4) (_:i<n) (_:(bg K H pb (bs.map aq)∨bS K H pb (bs.map aq))) (_:rW tm n bs) (_:(fired=true->∃ z,tm.aF[i]?=some (some z))) (_:∀ q H',aB H H'->H' q=some (.tup [.int (tm.s0 n i bs fired),.int (tm.s1 n i bs fired)])->Q (.ref q) H')
inductive AJ  (vs:List V) (H:Hp) (Q:VK) (_E:XK):Prop
 | mk (p tm:_) (n:Nat) (q s:_) (c:Int) (k:Nat) (_:vs=[.ref p,.ref q,.int c,aq k]) (_:fA K H p tm) (_:tm.Ok n n) (_:n<=4) (_:fz K H q s) (_:s.gG.length=n) (_:k<=900) (_:∀ H',aB H H'->∀ o:Nat,o<16->Q (aq o) H')
inductive A0  (vs:List V) (H:Hp) (Q:VK) (_E:XK):Prop
 | mk (a fp p tm:_) (n:Nat) (q s t:_) (o out:Nat) (zs wl:_) (_:vs=[.ref a,.ref p,.ref q,.ref t]) (_:aR K C H a fp (tm.m2 n n)) (_:fA K H p tm) (_:tm.Ok n n) (_:n<=4) (_:fz K H q s) (_:gD (tm.m2 n n) s) (_:Dm K H t n o out zs wl) (_:o<16) (_:out<16) (_:∀ r H',aB H H'->H' r=some (.tup [.str (iA tm n s o out zs wl).1,(iA tm n s o out zs wl).2])->Q (.ref r) H')
inductive zn  (vs:List V) (H:Hp) (Q:VK) (_E:XK):Prop
 | mk (pk pe:_) (l:List Int) (A B z c k:Int) (_:vs=[.ref pk,.ref pe,.int z,.int c,.int k]) (_:bg K H pk (l.map V.int)) (_:bS K H pe [.int A,.int B]) (_:(-3000<=A/\A<=3000)) (_:(-3000<=B/\B<=3000)) (_:A<=B) (_:(∀ x∈l,-200<=x/\x<=200)) (_:0<=k) (_:k<=900) (_:∀ H',aB H H'->∀ x:Int,-5000<=x->x<=5000->Q (.int x) H')
inductive Em  (vs:List V) (H:Hp) (Q:VK) (_E:XK):Prop
 | mk (a fp p tm:_) (n:Nat) (q s pt cs:_) (k:Nat) (_:vs=[.ref a,.ref p,.ref q,.ref pt,aq k]) (_:aR K C H a fp (tm.m2 n n)) (_:fA K H p tm) (_:tm.Ok n n) (_:n<=4) (_:fz K H q s) (_:gD (tm.m2 n n) s) (_:bg K H pt ((cs:List Int).map V.int)) (_:k<=800) (_:∀ H',aB H H'->∀ (t o out:Nat) zs wl,o<16->out<16->Dm K H' t n o out zs wl->Q (.ref t) H')
def nextK (x:Addr) (fp:List Addr) (tm:aw) (n:Nat) (s:dY) (o out:Nat) (zs:List Int) (g:Int) (H H':Hp):Prop:=qE [x] H H'/\cu K H H'/\iJ K C CW H' x fp (tm.m2 n n) (s.behind (tm.m2 n n) (zs.map Int.toNat) o out) (g+1)
inductive DR  (vs:List V) (H:Hp) (Q:VK) (_E:XK):Prop
 | mk (p tm:_) (n:Nat) (x fp s g t:_) (o out:Nat) (zs wl:_) (k:Nat) (_:vs=[.ref p,.ref x,.ref t,aq k]) (_:fA K H p tm) (_:tm.Ok n n) (_:n<=4) (_:iJ K C CW H x fp (tm.m2 n n) s g) (_:gD (tm.m2 n n) s) (_:Dm K H t n o out zs wl) (_:o<16) (_:out<16) (_:(o∈s.orders (tm.m2 n n)->out &&& s.may (tm.m2 n n) o=out->cp (tm.m2 n n) s o out)) (_:((iA tm n s o out zs wl).1 ≠ ""->∀ r H',aB H H'->H' r=some (.tup [.str (iA tm n s o out zs wl).1,(iA tm n s o out zs wl).2,if (iA tm n s o out zs wl).2 = .bT then .bT else .int g])->Q (.ref r) H')) (_:(iA tm n s o out zs wl=(("" : Str),V.bT)->∀ r H',nextK K C CW x fp tm n s o out zs g H H'->H' r=some (.tup [.str "",.bT,.bT])->Q (.ref r) H'))
inductive uA  (vs:List V) (H:Hp) (Q:VK) (_E:XK):Prop
 | mk (a xo p tm:_) (n:Nat) (x fp q s g pt cs:_) (k:Nat) (_:vs=[.ref a,.ref p,.ref x,.ref q,.ref pt,aq k,.int g]) (_:aR K C H a xo (tm.m2 n n)) (_:x∉xo) (_:fA K (dU H [x]) p tm) (_:tm.Ok n n) (_:n<=4) (_:iJ K C CW H x fp (tm.m2 n n) s g) (_:fz K H q s) (_:gD (tm.m2 n n) s) (_:bg K H pt ((cs:List Int).map V.int)) (_:k<=800) (_:(∀ r H',aB H H'->H' r=some (.tup [.int 0,.ref q])->Q (.ref r) H')) (_:(∀ r q' s' H',qE [x] H H'->cu K H H'->iJ K C CW H' x fp (tm.m2 n n) s' (g+1)->gD (tm.m2 n n) s'->fz K H' q' s'->H' r=some (.tup [.int 1,.ref q'])->Q (.ref r) H'))
end
theorem aR.some {K:W.Frag} {a:Addr} {m:ap} (h:aR K C H a fp m):∀ c∈fp,∃ o,H c=some o:=by
 obtain ⟨⟨OY,pm,pf,ps,pt,vm,vs,vt,aN,rfl,ha,iM,dI,gX,ft,c8,_⟩,_⟩:=h
 intro c hc
 simp only [abj,aay,ae5] at hc
 rcases hc with rfl|rfl|rfl|rfl|rfl|rfl
 . exact ⟨_,ha⟩
 . exact ⟨_,iM⟩
 . exact ⟨_,dI⟩
 . exact ⟨_,gX⟩
 . exact ⟨_,ft⟩
 . exact ⟨_,c8⟩
theorem iJ.Jt {K:W.Frag} {CW:Addr} {x a:Addr} {m:ap} {s:dY} {g:Int} (h:iJ K C CW H x fp m s g) (D:mL K C H a xo ma H' Kf) (nx:x∉xo) (OQ:∀ c∈fp,c∉xo):iJ K C CW H' x fp m s g/\x∉Kf/\∀ c∈fp,c∉Kf:=by
 refine ⟨h.other D nx OQ,λ z=>?_,λ c hc z=>?_⟩
 .
  obtain ⟨dx,hd,q,e,_⟩:=h
  rcases D.own x z with y|y
  . exact nx y
  . rw [e] at y;cases y
 .
  obtain ⟨dx,hd,q,e,hh,_⟩:=h
  obtain ⟨o,ho⟩:=hh.some c hc
  rcases D.own c z with y|y
  . exact OQ c hc y
  . rw [ho] at y;cases y
def stD (s:dY):PyData:=.tuple [.tuple (s.bA.map pH),pH s.cT,.tuple (s.gG.map pH),.tuple (s.failed.map pH),pH s.heap]
theorem fz.dn {K:W.Frag} {p:Addr} {s:dY} (h:fz K H p s):Dn K H (stD s) (.ref p):=by
 obtain ⟨pb,pw,pf,a,b,c,d⟩:=h
 exact gO a (bU (gO b (lT _)) (bU rfl (bU (gO c (lT _)) (bU (gO d (lT _)) (bU rfl ic)))))
theorem Sl (s:dY):Ef 2 (stD s):=by
 have key:∀ l:List Nat,Ef 1 (.tuple (l.map pH)):=λ l d hd=>by
   obtain ⟨x,_,rfl⟩:=List.mem_map.mp hd
   exact trivial
 intro d hd
 simp only [abj,aay,ae5] at hd
 rcases hd with rfl|rfl|rfl|rfl|rfl
 . exact key _
 . exact trivial
 . exact key _
 . exact key _
 . exact trivial
theorem Hk {X:Cx}:hZ X (.builtin "isinstance") (λ xs H Q=>∃ a ys cv b,∃ n:String,xs=[.ref a,.ty n]/\bS X.K H a ys/\RelV (.ty n) cv/\W.kitOne X.K (.type "tuple") cv=some b/\Q (.bl b) H):=by
 intro pins s U H xs us Q I r h
 obtain ⟨a,ys,cv,b,n,rfl,hq,rc,e,q⟩:=h
 obtain ⟨u,w',rfl,r1,r2⟩:=vals2 r
 have:w'=cv:=by cases r2;cases rc;rfl
 subst this
 cases (show u=Value.ref a from r1)
 obtain ⟨bG,_,⟨o,h1,h2,_⟩,_⟩:=I.tuple hq
 exact anT W.kitx_tuple I.lJ ⟨o,h1,h2⟩ e (λ z=>nomatch z) λ tk=>⟨.bl b,H,I.tok _,rfl,q⟩
theorem Nb {X:Cx}:jz X (compareOp .Is) (λ x y H Q=>∃ a b,x = .bl a/\y = .bl b/\Q (.bl (a == b)) H):=by
 intro pins s U H x y v u Q I rx ry h
 obtain ⟨a,b,rfl,rfl,q⟩:=h
 cases rx
 cases ry
 cases a<;>cases b<;>exact abF (b7 I q rfl)
end L2
namespace K19
open PySem PySem.Spec PyProof.Rows L2 Mth
seal PE PS qg R1 PA PG OS PT LF PI
def top (i:Nat):Stmt:=PySem.Challenge.pw_stoke_k19_walks_gone.main.body.getD i (.Pass ⟨0,0,0,0⟩)
abbrev ZV:Stmt:=top 0
abbrev kH:Stmt:=top 2
theorem za:aA ["bits","room"] ["bits","room"] (ao kH):=⟨rfl,rfl,rfl,by decide +kernel,rfl,by decide +kernel,by decide +kernel⟩
abbrev jq:Stmt:=top 3
theorem wI:aA ["bits","room"] ["bits","room"] (ao jq):=⟨rfl,rfl,rfl,by decide +kernel,rfl,by decide +kernel,by decide +kernel⟩
abbrev kn:Stmt:=top 4
theorem zc:aA ["bits"] ["bits"] (ao kn):=⟨rfl,rfl,rfl,by decide +kernel,rfl,by decide +kernel,by decide +kernel⟩
abbrev mJ:Stmt:=top 5
theorem Ag:aA ["bits"] ["bits"] (ao mJ):=⟨rfl,rfl,rfl,by decide +kernel,rfl,by decide +kernel,by decide +kernel⟩
abbrev mr:Stmt:=top 6
theorem kh:aA ["bits","parts","room"] ["bits"] (ao mr):=⟨rfl,rfl,rfl,by decide +kernel,rfl,by decide +kernel,by decide +kernel⟩
abbrev mB:Stmt:=top 7
theorem j3:aA ["rooms","bits","room"] ["rooms"] (ao mB):=⟨rfl,rfl,rfl,by decide +kernel,rfl,by decide +kernel,by decide +kernel⟩
abbrev CK:Stmt:=inClass (top 22) 0
abbrev zX:Stmt:=inClass (top 23) 0
abbrev eL:Stmt:=inClass (top 24) 0
theorem nJ:aA ["self","room","turn"] ["self","room","turn"] (ao eL):=⟨rfl,rfl,rfl,by decide +kernel,rfl,by decide +kernel,by decide +kernel⟩
abbrev eO:Stmt:=inClass (top 25) 0
theorem nH:aA ["self","room","turn"] ["self","room","turn"] (ao eO):=⟨rfl,rfl,rfl,by decide +kernel,rfl,by decide +kernel,by decide +kernel⟩
abbrev mz:Stmt:=top 29
theorem gI:aA ["one","other","greater","lesser","rest"] ["one","other"] (ao mz):=⟨rfl,rfl,rfl,by decide +kernel,rfl,by decide +kernel,by decide +kernel⟩
abbrev kU:Stmt:=top 30
theorem lP:aA ["top","bottom","common"] ["top","bottom"] (ao kU):=⟨rfl,rfl,rfl,by decide +kernel,rfl,by decide +kernel,by decide +kernel⟩
abbrev wc:Stmt:=top 31
theorem Kj:aA ["one","other"] ["one","other"] (ao wc):=⟨rfl,rfl,rfl,by decide +kernel,rfl,by decide +kernel,by decide +kernel⟩
abbrev qY:Stmt:=top 32
theorem FI:aA ["one","other"] ["one","other"] (ao qY):=⟨rfl,rfl,rfl,by decide +kernel,rfl,by decide +kernel,by decide +kernel⟩
abbrev rl:Stmt:=top 33
theorem GB:aA ["one","other"] ["one","other"] (ao rl):=⟨rfl,rfl,rfl,by decide +kernel,rfl,by decide +kernel,by decide +kernel⟩
abbrev fK:Stmt:=top 45
theorem pK:aA ["thing","greatest"] ["thing","greatest"] (ao fK):=⟨rfl,rfl,rfl,by decide +kernel,rfl,by decide +kernel,by decide +kernel⟩
abbrev jl:Stmt:=top 46
theorem wV:aA ["marks"] ["marks"] (ao jl):=⟨rfl,rfl,rfl,by decide +kernel,rfl,by decide +kernel,by decide +kernel⟩
abbrev fj:Stmt:=top 47
theorem eM:aA ["rows","product","marks"] ["rows"] (ao fj):=⟨rfl,rfl,rfl,by decide +kernel,rfl,by decide +kernel,by decide +kernel⟩
abbrev cQ:Stmt:=inClass (top 48) 0
theorem pE:aA ["self","most","cap","load"] ["self","most","cap","load"] (ao cQ):=⟨rfl,rfl,rfl,by decide +kernel,rfl,by decide +kernel,by decide +kernel⟩
abbrev fJ:Stmt:=inClass (top 48) 1
theorem jR:aA ["self","marks","rows"] ["self","marks"] (ao fJ):=⟨rfl,rfl,rfl,by decide +kernel,rfl,by decide +kernel,by decide +kernel⟩
abbrev fS:Stmt:=inClass (top 48) 2
theorem pD:aA ["self","into","of","share"] ["self","into","of","share"] (ao fS):=⟨rfl,rfl,rfl,by decide +kernel,rfl,by decide +kernel,by decide +kernel⟩
abbrev gf:Stmt:=inClass (top 48) 3
theorem qF:aA ["self","room","share","low","high"] ["self","room","share","low","high"] (ao gf):=⟨rfl,rfl,rfl,by decide +kernel,rfl,by decide +kernel,by decide +kernel⟩
abbrev cG:Stmt:=inClass (top 48) 4
theorem n6:aA ["self","room","heat","wood","stay","fails"] ["self","room","heat","wood","stay","fails"] (ao cG):=⟨rfl,rfl,rfl,by decide +kernel,rfl,by decide +kernel,by decide +kernel⟩
abbrev jm:Stmt:=inClass (top 48) 5
theorem vv:aA ["self"] ["self"] (ao jm):=⟨rfl,rfl,rfl,by decide +kernel,rfl,by decide +kernel,by decide +kernel⟩
abbrev iI:Stmt:=inClass (top 48) 6
theorem ut:aA ["self","room"] ["self","room"] (ao iI):=⟨rfl,rfl,rfl,by decide +kernel,rfl,by decide +kernel,by decide +kernel⟩
abbrev iE:Stmt:=inClass (top 48) 7
theorem tU:aA ["self","into","of"] ["self","into","of"] (ao iE):=⟨rfl,rfl,rfl,by decide +kernel,rfl,by decide +kernel,by decide +kernel⟩
abbrev kQ:Stmt:=inClass (top 48) 8
theorem yV:aA ["self","room"] ["self","room"] (ao kQ):=⟨rfl,rfl,rfl,by decide +kernel,rfl,by decide +kernel,by decide +kernel⟩
abbrev iz:Stmt:=inClass (top 48) 9
theorem tM:aA ["self","room"] ["self","room"] (ao iz):=⟨rfl,rfl,rfl,by decide +kernel,rfl,by decide +kernel,by decide +kernel⟩
abbrev fg:Stmt:=inClass (top 48) 10
theorem eI:aA ["self","room","rest","other"] ["self","room"] (ao fg):=⟨rfl,rfl,rfl,by decide +kernel,rfl,by decide +kernel,by decide +kernel⟩
abbrev fQ:Stmt:=inClass (top 48) 11
theorem pG:aA ["self","room"] ["self","room"] (ao fQ):=⟨rfl,rfl,rfl,by decide +kernel,rfl,by decide +kernel,by decide +kernel⟩
abbrev de:Stmt:=inClass (top 48) 12
theorem gH:aA ["self","room","share","former","free"] ["self","room","share","former"] (ao de):=⟨rfl,rfl,rfl,by decide +kernel,rfl,by decide +kernel,by decide +kernel⟩
abbrev eY:Stmt:=top 49
theorem oH:aA ["hold","most","cap","load","like"] ["hold","most","cap","load"] (ao eY):=⟨rfl,rfl,rfl,by decide +kernel,rfl,by decide +kernel,by decide +kernel⟩
abbrev eE:Stmt:=top 51
theorem bV:aA ["pairs","top","bottom","one","other","below"] ["pairs"] (ao eE):=⟨rfl,rfl,rfl,by decide +kernel,rfl,by decide +kernel,by decide +kernel⟩
abbrev ji:Stmt:=top 52
theorem ou:aA ["hold","room","airs","weather","fired","pairs"] ["hold","room","airs","weather","fired"] (ao ji):=⟨rfl,rfl,rfl,by decide +kernel,rfl,by decide +kernel,by decide +kernel⟩
abbrev mw:Stmt:=top 53
theorem iZ:aA ["hold","room","bands","fired","low","high","lows","highs"] ["hold","room","bands","fired"] (ao mw):=⟨rfl,rfl,rfl,by decide +kernel,rfl,by decide +kernel,by decide +kernel⟩
abbrev mG:Stmt:=top 54
theorem sy:aA ["hold","room","least","greatest","marks"] ["hold","room","least","greatest"] (ao mG):=⟨rfl,rfl,rfl,by decide +kernel,rfl,by decide +kernel,by decide +kernel⟩
abbrev kZ:Stmt:=top 56
theorem eW:aA ["hold","state","bands","burning","waits","failed","heap","many"] ["hold","state"] (ao kZ):=⟨rfl,rfl,rfl,by decide +kernel,rfl,by decide +kernel,by decide +kernel⟩
abbrev jn:Stmt:=top 57
theorem fq:aA ["hold","state","room","bands","burning","waits","failed","heap"] ["hold","state","room"] (ao jn):=⟨rfl,rfl,rfl,by decide +kernel,rfl,by decide +kernel,by decide +kernel⟩
abbrev iw:Stmt:=top 58
theorem jL:aA ["stove","fired","wait","failed","stay","fails"] ["stove","fired","wait","failed"] (ao iw):=⟨rfl,rfl,rfl,by decide +kernel,rfl,by decide +kernel,by decide +kernel⟩
abbrev fH:Stmt:=top 59
theorem pS:aA ["hold","state"] ["hold","state"] (ao fH):=⟨rfl,rfl,rfl,by decide +kernel,rfl,by decide +kernel,by decide +kernel⟩
abbrev iD:Stmt:=top 60
theorem tP:aA ["hold"] ["hold"] (ao iD):=⟨rfl,rfl,rfl,by decide +kernel,rfl,by decide +kernel,by decide +kernel⟩
abbrev mI:Stmt:=top 61
theorem zW:aA ["hold","bits"] ["hold","bits"] (ao mI):=⟨rfl,rfl,rfl,by decide +kernel,rfl,by decide +kernel,by decide +kernel⟩
abbrev jE:Stmt:=top 62
theorem xc:aA ["state"] ["state"] (ao jE):=⟨rfl,rfl,rfl,by decide +kernel,rfl,by decide +kernel,by decide +kernel⟩
abbrev kI:Stmt:=top 63
theorem yY:aA ["hold","order","heap"] ["hold","order","heap"] (ao kI):=⟨rfl,rfl,rfl,by decide +kernel,rfl,by decide +kernel,by decide +kernel⟩
abbrev jp:Stmt:=top 64
theorem kB:aA ["hold","state","held","going_on"] ["hold","state"] (ao jp):=⟨rfl,rfl,rfl,by decide +kernel,rfl,by decide +kernel,by decide +kernel⟩
abbrev ko:Stmt:=top 65
theorem xA:aA ["hold","state","order"] ["hold","state","order"] (ao ko):=⟨rfl,rfl,rfl,by decide +kernel,rfl,by decide +kernel,by decide +kernel⟩
abbrev mv:Stmt:=top 66
theorem sS:aA ["hold","state","order","lit"] ["hold","state","order"] (ao mv):=⟨rfl,rfl,rfl,by decide +kernel,rfl,by decide +kernel,by decide +kernel⟩
abbrev gZ:Stmt:=top 67
theorem sE:aA ["hold","state","order","out"] ["hold","state","order","out"] (ao gZ):=⟨rfl,rfl,rfl,by decide +kernel,rfl,by decide +kernel,by decide +kernel⟩
abbrev fT:Stmt:=top 68
theorem dP:aA ["hold","state","order","out","burning","waits","failed","heap"] ["hold","state","order","out"] (ao fT):=⟨rfl,rfl,rfl,by decide +kernel,rfl,by decide +kernel,by decide +kernel⟩
abbrev gY:Stmt:=top 69
theorem rK:aA ["hold","state","burning","room"] ["hold","state","burning","room"] (ao gY):=⟨rfl,rfl,rfl,by decide +kernel,rfl,by decide +kernel,by decide +kernel⟩
abbrev fN:Stmt:=top 70
theorem pM:aA ["state","burning","out","room"] ["state","burning","out","room"] (ao fN):=⟨rfl,rfl,rfl,by decide +kernel,rfl,by decide +kernel,by decide +kernel⟩
abbrev fO:Stmt:=inClass (top 72) 0
theorem pW:aA ["self","hold","state"] ["self","hold","state"] (ao fO):=⟨rfl,rfl,rfl,by decide +kernel,rfl,by decide +kernel,by decide +kernel⟩
abbrev gK:Stmt:=inClass (top 72) 1
theorem gL:aA ["self","order","out","bands","warmths","room","least","greatest"] ["self","order","out","bands","warmths"] (ao gK):=⟨rfl,rfl,rfl,by decide +kernel,rfl,by decide +kernel,by decide +kernel⟩
abbrev Kq:Stmt:=inClass (top 72) 2
abbrev iG:Stmt:=inClass (top 72) 3
theorem uh:aA ["self"] ["self"] (ao iG):=⟨rfl,rfl,rfl,by decide +kernel,rfl,by decide +kernel,by decide +kernel⟩
abbrev iN:Stmt:=inClass (top 72) 4
theorem ua:aA ["self"] ["self"] (ao iN):=⟨rfl,rfl,rfl,by decide +kernel,rfl,by decide +kernel,by decide +kernel⟩
abbrev gy:Stmt:=inClass (top 72) 5
theorem qx:aA ["self"] ["self"] (ao gy):=⟨rfl,rfl,rfl,by decide +kernel,rfl,by decide +kernel,by decide +kernel⟩
abbrev jy:Stmt:=inClass (top 72) 6
theorem wD:aA ["self","room","burning"] ["self","room","burning"] (ao jy):=⟨rfl,rfl,rfl,by decide +kernel,rfl,by decide +kernel,by decide +kernel⟩
abbrev db:Stmt:=inClass (top 72) 7
theorem lh:aA ["self","order","out"] ["self","order","out"] (ao db):=⟨rfl,rfl,rfl,by decide +kernel,rfl,by decide +kernel,by decide +kernel⟩
abbrev c6:Stmt:=inClass (top 72) 8
theorem kP:aA ["self","room","least","greatest","warmth"] ["self","room","least","greatest","warmth"] (ao c6):=⟨rfl,rfl,rfl,by decide +kernel,rfl,by decide +kernel,by decide +kernel⟩
abbrev gU:Stmt:=top 74
theorem sL:aA ["_law_script","_law_k"] ["_law_script","_law_k"] (ao gU):=⟨rfl,rfl,rfl,by decide +kernel,rfl,by decide +kernel,by decide +kernel⟩
abbrev kW:Stmt:=top 75
theorem yU:aA ["_law_cell","_law_k","_law_many"] ["_law_cell","_law_k","_law_many"] (ao kW):=⟨rfl,rfl,rfl,by decide +kernel,rfl,by decide +kernel,by decide +kernel⟩
abbrev jt:Stmt:=top 76
theorem fh:aA ["_law_top","_law_bottom","_law_one","_law_other","_law_rest"] ["_law_top","_law_bottom"] (ao jt):=⟨rfl,rfl,rfl,by decide +kernel,rfl,by decide +kernel,by decide +kernel⟩
abbrev jg:Stmt:=top 77
theorem ky:aA ["_law_cell","_law_far","_law_some"] ["_law_cell"] (ao jg):=⟨rfl,rfl,rfl,by decide +kernel,rfl,by decide +kernel,by decide +kernel⟩
abbrev kO:Stmt:=top 78
theorem lE:aA ["_law_num","_law_parts","_law_scale_here","_law_whole"] ["_law_num","_law_parts","_law_scale_here"] (ao kO):=⟨rfl,rfl,rfl,by decide +kernel,rfl,by decide +kernel,by decide +kernel⟩
abbrev gv:Stmt:=top 79
theorem ii:aA ["_law_a","_law_b","_law_c","_law_room","_law_wood","_law_stay"] ["_law_a","_law_b","_law_c","_law_room"] (ao gv):=⟨rfl,rfl,rfl,by decide +kernel,rfl,by decide +kernel,by decide +kernel⟩
abbrev ju:Stmt:=top 80
theorem cB:aA ["_law_script","_law_a","_law_b","_law_c","_law_many","_law_told","_law_room","_law_marks","_law_j","_law_low","_law_of"] ["_law_script"] (ao ju):=⟨rfl,rfl,rfl,by decide +kernel,rfl,by decide +kernel,by decide +kernel⟩
abbrev jv:Stmt:=top 81
theorem cU:aA ["_law_told","_law_bounds","_law_scale_here","_law_hold","_law_marks","_law_room","_law_sky","_law_stove","_law_of"] ["_law_told"] (ao jv):=⟨rfl,rfl,rfl,by decide +kernel,rfl,by decide +kernel,by decide +kernel⟩
abbrev gq:Stmt:=top 82
theorem bq:aA ["_law_told","_law_cell","_law_k","_law_bands","_law_waits","_law_failed","_law_burning","_law_lit","_law_room","_law_stove","_law_wait","_law_fails"] ["_law_told","_law_cell","_law_k"] (ao gq):=⟨rfl,rfl,rfl,by decide +kernel,rfl,by decide +kernel,by decide +kernel⟩
abbrev j7:Stmt:=top 83
theorem cD:aA ["_law_told","_law_room","_law_bands","_law_fired","_law_sky","_law_rest","_law_low","_law_high","_law_of","_law_part"] ["_law_told","_law_room","_law_bands","_law_fired"] (ao j7):=⟨rfl,rfl,rfl,by decide +kernel,rfl,by decide +kernel,by decide +kernel⟩
abbrev kj:Stmt:=top 84
theorem qh:aA ["_law_told","_law_cell","_law_marks"] ["_law_told","_law_cell"] (ao kj):=⟨rfl,rfl,rfl,by decide +kernel,rfl,by decide +kernel,by decide +kernel⟩
abbrev n9:Stmt:=top 85
theorem EQ:aA ["_law_bits","_law_room"] ["_law_bits","_law_room"] (ao n9):=⟨rfl,rfl,rfl,by decide +kernel,rfl,by decide +kernel,by decide +kernel⟩
abbrev iF:Stmt:=top 86
theorem dD:aA ["_law_told","_law_state","_law_order_here","_law_many","_law_wood","_law_room"] ["_law_told","_law_state","_law_order_here"] (ao iF):=⟨rfl,rfl,rfl,by decide +kernel,rfl,by decide +kernel,by decide +kernel⟩
abbrev jo:Stmt:=top 87
theorem nW:aA ["_law_told","_law_state","_law_cell","_law_k","_law_some"] ["_law_told","_law_state","_law_cell","_law_k"] (ao jo):=⟨rfl,rfl,rfl,by decide +kernel,rfl,by decide +kernel,by decide +kernel⟩
abbrev jh:Stmt:=top 88
theorem cV:aA ["_law_hold","_law_told","_law_state","_law_turn_here","_law_order_here","_law_out","_law_bands","_law_warmths","_law_room","_law_marks","_law_ends"] ["_law_hold","_law_told","_law_state","_law_turn_here"] (ao jh):=⟨rfl,rfl,rfl,by decide +kernel,rfl,by decide +kernel,by decide +kernel⟩
abbrev iB:Stmt:=top 89
theorem mW:aA ["_law_marks","_law_ends","_law_band","_law_cell","_law_k","_law_way"] ["_law_marks","_law_ends","_law_band","_law_cell","_law_k"] (ao iB):=⟨rfl,rfl,rfl,by decide +kernel,rfl,by decide +kernel,by decide +kernel⟩
abbrev kY:Stmt:=top 90
theorem bW:aA ["_law_hold","_law_told","_law_state","_law_three","_law_k","_law_order_here","_law_out","_law_bands","_law_warmths","_law_room","_law_marks","_law_fired","_law_ends","_law_some","_law_band"] ["_law_hold","_law_told","_law_state","_law_three","_law_k"] (ao kY):=⟨rfl,rfl,rfl,by decide +kernel,rfl,by decide +kernel,by decide +kernel⟩
abbrev j4:Stmt:=top 91
theorem cK:aA ["_law_told","_law_walk","_law_turn_here","_law_k","_law_warmths","_law_sort","e"] ["_law_told","_law_walk","_law_turn_here","_law_k"] (ao j4):=⟨rfl,rfl,rfl,by decide +kernel,rfl,by decide +kernel,by decide +kernel⟩
abbrev kc:Stmt:=top 92
theorem jj:aA ["_law_hold","_law_told","_law_walk","_law_state","_law_three","_law_k","_law_turns","_law_turn_here","_law_due","_law_told_sort"] ["_law_hold","_law_told","_law_walk","_law_state","_law_three","_law_k","_law_turns"] (ao kc):=⟨rfl,rfl,rfl,by decide +kernel,rfl,by decide +kernel,by decide +kernel⟩
abbrev xO:Stmt:=top 93
theorem iW:aA ["_law_script","_law_told","_law_hold","_law_other","_law_state","_law_walk","_law_turns","_law_k","_law_behind"] ["_law_script"] (ao xO):=⟨rfl,rfl,rfl,by decide +kernel,rfl,by decide +kernel,by decide +kernel⟩
structure YG where
 aY:Addr
 Walk:Addr
 rO:Addr
 vy:Addr
 qZ:Addr
 cy:Addr
 bF:Addr
 wY:Addr
 bR:Addr
 bX:Addr
 yI:Addr
 wu:Addr
 kK:Addr
 u0:Addr
 ie:Addr
 gP:Addr
 pr:Addr
 l5:Addr
structure Txt (K:W.Frag) (mg:Str->Option Value) (A:YG):Prop where
 Hn:mg "Hold" = some (.ref A.aY)
 OE:mg "Walk" = some (.ref A.Walk)
 vP:mg "StokeError" = some (.ref A.rO)
 Hv:mg "NoHold" = some (.ref A.vy)
 DK:mg "NoState" = some (.ref A.qZ)
 jX:mg "NoOrder" = some (.ref A.cy)
 hJ:mg "NoFailing" = some (.ref A.bF)
 E7:mg "NoRoom" = some (.ref A.wY)
 lI:mg "NoTurn" = some (.ref A.bR)
 lZ:mg "NoBand" = some (.ref A.bX)
 Cn:mg "Ended" = some (.ref A.yI)
 HF:mg "NotOut" = some (.ref A.wu)
 i7:mg "NOUGHT" = some (.ref A.kK)
 Cb:mg "WHOLE" = some (.ref A.u0)
 EA:W.excIn K A.cy [.type "ValueError",.type "Exception",.type "BaseException",.type "object"] "ValueError.__new__" = true
 zr:W.findIn K (.ref A.cy) "__getattribute__" = some (some (.builtin "BaseException.__getattribute__"))
 yQ:W.findIn K (.ref A.cy) "__getattr__" = some none
 yF:W.findIn K (.ref A.cy) "__class__" = some (some (.builtin "object.__class__"))
 yt:W.mroIn K A.cy (.type "object")=some true
 xB:W.mroIn K A.cy (.type "BaseException")=some true
 zg:W.isClsIn K A.cy=true
 yg:W.excIn K A.bF [.type "ValueError",.type "Exception",.type "BaseException",.type "object"] "ValueError.__new__" = true
 uo:W.findIn K (.ref A.bF) "__getattribute__" = some (some (.builtin "BaseException.__getattribute__"))
 tN:W.findIn K (.ref A.bF) "__getattr__" = some none
 uf:W.findIn K (.ref A.bF) "__class__" = some (some (.builtin "object.__class__"))
 ud:W.mroIn K A.bF (.type "object")=some true
 ul:W.mroIn K A.bF (.type "BaseException")=some true
 tO:W.isClsIn K A.bF=true
 Kz:W.excIn K A.yI [.type "ValueError",.type "Exception",.type "BaseException",.type "object"] "ValueError.__new__" = true
 xt:W.findIn K (.ref A.bR) "turn" = some none
 rM:W.hasDictIn K A.bR=true
 A2:W.findIn K (.ref A.bR) "room" = some none
 sV:W.findIn K (.ref A.bR) "__setattr__" = some (some (.builtin "object.__setattr__"))
 o7:jr K A.bR=true
 Aa:W.findIn K (.ref A.bR) "__getattribute__" = some (some (.builtin "BaseException.__getattribute__"))
 Aq:W.findIn K (.ref A.bR) "__getattr__" = some none
 Ac:W.findIn K (.ref A.bR) "__class__" = some (some (.builtin "object.__class__"))
 Ay:W.mroIn K A.bR (.type "object")=some true
 BL:W.mroIn K A.bR (.type "BaseException")=some true
 Au:W.isClsIn K A.bR=true
 xJ:W.findIn K (.ref A.bX) "turn" = some none
 rX:W.hasDictIn K A.bX=true
 A7:W.findIn K (.ref A.bX) "room" = some none
 tu:W.findIn K (.ref A.bX) "__setattr__" = some (some (.builtin "object.__setattr__"))
 oX:jr K A.bX=true
 BH:W.findIn K (.ref A.bX) "__getattribute__" = some (some (.builtin "BaseException.__getattribute__"))
 AG:W.findIn K (.ref A.bX) "__getattr__" = some none
 Bw:W.findIn K (.ref A.bX) "__class__" = some (some (.builtin "object.__class__"))
 AM:W.mroIn K A.bX (.type "object")=some true
 Bu:W.mroIn K A.bX (.type "BaseException")=some true
 AF:W.isClsIn K A.bX=true
 gs:W.specialIn K (.builtin "object.__class__") "__get__" = some (some (.builtin "getset_descriptor.__get__"))
 tk:W.takesIn K (.builtin "object.__class__")=some true
 alB:Cg K [(A.bR,[.ref A.bX,.ref A.cy,.ref A.bF]),(A.bX,[.ref A.bR,.ref A.cy,.ref A.bF]),(A.cy,[.ref A.bF,.ref A.bR,.ref A.bX]),(A.bF,[.ref A.cy,.ref A.bR,.ref A.bX])] [.ref A.qZ,.ref A.yI,.ref A.wu,.ref A.wY,.ref A.vy] A.rO=true
 tQ:∃ t,mg "LEAST_MARKS" = some (.int 2 t)
 xh:∃ t,mg "MOST_BANDS" = some (.int 400 t)
 tj:∃ t,mg "MOST_BURNING" = some (.int 4 t)
 AY:∃ t,mg "MOST_CAP" = some (.int 30 t)
 ww:∃ t,mg "MOST_FAILS" = some (.int 3 t)
 zf:∃ t,mg "MOST_LOAD" = some (.int 30 t)
 vQ:∃ t,mg "MOST_MARKS" = some (.int 7 t)
 wA:∃ t,mg "MOST_ROOMS" = some (.int 4 t)
 yJ:∃ t,mg "MOST_STAY" = some (.int 3 t)
 xZ:∃ t,mg "MOST_WOOD" = some (.int 9 t)
 lH:BK K A.kK [.int 0,.int 1]
 C8:BK K A.u0 [.int 1,.int 1]
 aE:xr K A.aY
 C9:Kg K A.aY
 ix:eB K A.aY "most"
 jk:eB K A.aY "cap"
 kM:eB K A.aY "load"
 cA:eB K A.aY "mark_rows"
 d8:eB K A.aY "flows"
 cW:eB K A.aY "skies"
 dQ:eB K A.aY "stoves"
 qH:fU K A.aY "__init__" "Hold.__init__" cQ (.ref A.ie)
 qv:BU K A.ie [.int 4,.int 0,.int 0]
 qN:fU K A.aY "put_room" "Hold.put_room" fJ .none
 qI:fU K A.aY "put_flow" "Hold.put_flow" fS .none
 sG:fU K A.aY "put_sky" "Hold.put_sky" gf .none
 ph:fU K A.aY "put_stove" "Hold.put_stove" cG (.ref A.gP)
 pO:BU K A.gP [.int 0,.int 0,.int 0]
 zb:fU K A.aY "many" "Hold.many" jm .none
 wB:fU K A.aY "marks" "Hold.marks" iI .none
 v6:fU K A.aY "share" "Hold.share" iE .none
 Ba:fU K A.aY "sky" "Hold.sky" kQ .none
 wH:fU K A.aY "stove" "Hold.stove" iz .none
 pY:fU K A.aY "own_share" "Hold.own_share" fg .none
 qM:fU K A.aY "look_for" "Hold.look_for" fQ .none
 ly:fU K A.aY "look_at_share" "Hold.look_at_share" de .none
 bJ:xr K A.Walk
 Kh:Kg K A.Walk
 dX:eB K A.Walk "hold"
 dA:eB K A.Walk "place"
 fc:eB K A.Walk "gone"
 jI:eB K A.Walk "ended"
 qD:fU K A.Walk "__init__" "Walk.__init__" fO .none
 EH:fU K A.Walk "go" "Walk.go" gK (.ref A.pr)
 vb:BU K A.pr [.bT]
 vW:fU K A.Walk "state" "Walk.state" iG .none
 xf:fU K A.Walk "turns" "Walk.turns" iN .none
 rD:fU K A.Walk "is_left" "Walk.is_left" gy .none
 yR:fU K A.Walk "span" "Walk.span" jy .none
 md:fU K A.Walk "look_at_order" "Walk.look_at_order" db .none
 li:fU K A.Walk "look_at_warmth" "Walk.look_at_warmth" c6 .none
 G0:Iv K A.bR "NoTurn.__init__" eL
 Fx:Iv K A.bX "NoBand.__init__" eO
 AH:gC K mg "has_room" kH
 yd:gC K mg "with_room" jq
 AW:gC K mg "how_many" kn
 Do:gC K mg "members" mJ
 EK:gC K mg "subsets" mr
 DP:gC K mg "bits_of" mB
 Dz:gC K mg "divisor" mz
 AD:gC K mg "fraction" kU
 Nt:gC K mg "plus" wc
 JG:gC K mg "minus" qY
 Lo:gC K mg "under" rl
 qB:gC K mg "is_whole_upto" fK
 xS:gC K mg "is_rising" jl
 pC:gC K mg "bands_together" fj
 zL:Oo K mg "hold_like" eY (.ref A.l5)
 yZ:BU K A.l5 [.bT,.bT,.bT]
 o8:gC K mg "sum_of_products" eE
 zw:gC K mg "warmth_of" ji
 Er:gC K mg "span_of" mw
 Ec:gC K mg "touched" mG
 BC:gC K mg "is_state" kZ
 xK:gC K mg "fits_room" jn
 wg:gC K mg "fits_stove" iw
 qQ:gC K mg "look_at_state" fH
 wy:gC K mg "with_stove" iD
 De:gC K mg "wood_of" mI
 yL:gC K mg "must_stay" jE
 Ak:gC K mg "can_burn" kI
 zo:gC K mg "orders_of" jp
 BG:gC K mg "may_fail" ko
 Ei:gC K mg "failing" mv
 t8:gC K mg "behind_turn" gZ
 qK:gC K mg "stoves_behind" fT
 tW:gC K mg "wait_behind" gY
 qz:gC K mg "failed_behind" fN
 uq:gC K mg "_law_cell_at" gU
 BS:gC K mg "_law_pick" kW
 y0:gC K mg "_law_ratio" jt
 xU:gC K mg "_law_scale" jg
 Ah:gC K mg "_law_warm" kO
 sK:gC K mg "_law_stove_by" gv
 zO:gC K mg "_law_drawn" ju
 yP:gC K mg "_law_built" jv
 sj:gC K mg "_law_state_by" gq
 AV:gC K mg "_law_span" j7
 Ar:gC K mg "_law_mild" kj
 GP:gC K mg "_law_in" n9
 wE:gC K mg "_law_allows" iF
 zJ:gC K mg "_law_order" jo
 xI:gC K mg "_law_fault" jh
 xk:gC K mg "_law_warmth" iB
 Am:gC K mg "_law_turn" kY
 Bq:gC K mg "_law_gone" j4
 Bn:gC K mg "_law_step" kc
 SJ:gC K mg "law" xO
 wJ:mg "ValueError" = none
 Gj:mg "abs" = none
 LH:mg "all" = none
 NW:mg "bool" = none
 MD:mg "dict" = none
 jx:mg "enumerate" = none
 Us:mg "int" = none
 bY:mg "isinstance" = none
 dS:mg "len" = none
 tf:mg "list" = none
 L6:mg "max" = none
 Ux:mg "min" = none
 cC:mg "range" = none
 QK:mg "sum" = none
 gW:mg "tuple" = none
 U7:mg "zip" = none
abbrev kq_ (K:W.Frag) (a:Addr):Prop:=W.keepIn K (.ref a)=true
abbrev kc_ (K:W.Frag) (a:Value) (x:Str):Prop:=W.codeIn K a x=true
abbrev kf_ (K:W.Frag) (a:Addr) (b:Value) (c:Option Addr) (x y:Str) (s:Stmt) (d e f:Value) (g:Option Addr) (h i:Value) (n:Array (Option Value)):Prop:=K.lookup a=some ⟨b,c,.func (W.fnOf x y (cm s) (bx s) (ao s) .none d e f g h i),n⟩
abbrev kn_ (K:W.Frag) (x:Str) (a:Addr):Prop:=W.nsIn K mainGlobals x=some (some (.ref a))
abbrev kg_ (K:W.Frag) (a:Addr) (x:Str) (b:Addr):Prop:=W.findIn K (.ref a) x=some (some (.ref b))
theorem txt_mk {K:W.Frag} {h:Heap} {mg:Str->Option Value} (X:K.In h) (G:h.Ns mainGlobals mg)
 {z0 z1 z2 z3 z4 z5 z6 z7 z8 z9 X6 z11 z12 z13 Qy z44 SS Ry Xp Tc z92 FN GW Hu Fm Fb Ht Fu Ha E8 Fe Nm FD E9 Fa HK Gr Gh Eo DN Ln Iz JE JR Ju JI JP Lj JF Ll Kr Kd KG JK Jb Ni IE KS IZ Io Lm IM IC Lf Jl J2 Jh Jp JV Kn IG JU Kb JT Jf IK Jo Jr K0 IY IQ Js JQ JM KM Lu JH Kv Ku K6 IS IV JS KJ Je:Addr}
 {z14 z15 Yj z17 z18 z19 z20 z21 z22 z23 z27 z28 z32 z33 z45 z46 z47 z93 z94 z95:Tok}
 {z24 z29 z35 z36 z49 z53 z54 z63 z64 z73 z74 z83 z84 z97 akX abA alG ajf ags agZ afS acY aaP ahG ahb ahX ajX aig alb aef ajb akr adV ajO ad8 amY ame ahW amx acO agO ami aa0 ag9 adb amI agU ans YY am5 acX ant aeq Zc aih anm adI aeo aiQ acm ajd aka aj9 al8 am0 aiE acP amd adU af9 amF ahL agn ahF af5 ajF abQ akn afz anO Zq afT alq aiJ alK ais ajJ aa4 abi adl afk agA al9 ZH ad5 aew ak1 ZX aeO akF agF aev akg af6 abd aeQ aeg ahi aa7 ade agr anD Zd ajp ajT alj amZ ah4 ajP ah6 aaT anN aiB Zn Zs Zf aiw al3 ajD aht amK aif ahY amn alO ak9 Y6 abp aec adE ahc aaY aiI amy aaL ak5 aeR Z6 afI aje afN alU ak4 anf ZE aaG abN aju Z1 aaO:Option Addr}
 {z25 z30 z50 z98 aa3 anl:Nat}
 {z26 z31 z37 z51 z55 z65 z75 z85 z99 alr alN acr ale Zr akm anj aks amb ZB aer amH acb ady amf alR ana aaB Zy acA adp aak ahQ aik ako aee agp anp aiF agq agW ak8 afq adO amV akZ anb akb ah9 ajw aco adr adg adK ahU abo af0 ae3 aej aaF anP acC akW akP ab4 ZJ ad2 aeX agQ acw amo Zk aaD anB amt aii af4 ajZ afC al2 afV agX agm abe:Array (Option Value)}
 {z38 z39 z40 z41 z42 z43 z48 z56 z57 z58 z59 z60 z61 z66 z67 z68 z69 z70 z71 z76 z77 z78 z79 z80 z81 z86 z87 z88 z89 z90 z91 z96 aiY ZO Z5 ahz WX ad1 adQ Y4 agz aen Rb ado adu ae8 adw ZR VZ adn abG alI acu ahD QE ajH anr YX ZG ank T2 aaa aip alX ahe aba VT ahn alJ akU aca agw WM aml ake alM afr afd SX abB alC afZ afH abt Ws ad9 aeZ aj5 amD Zz Xc anu Zv anQ Za aiO aky Ww aab abm ahl anx adR RG aae ahS ai1 aag ah7 Qu ahN akz aao ahJ amq Tf abb ahK acJ ak7 ac0 Xl acs akV Y9 ahA aaC Qe adj ajx aiu ad7 al7 U9 acM adx ad0 aaM ag0 QI ajG al4 aiP afE afG U6 Zx acz ZZ afF ajN VW afx abq ajI aeU acv P6 adf agE aaH ama ahR PN ahI ahk ah8 agP afe VO agC Z9 air am4 amp WO akv adT alw Y2 aby Vj afw aav anG abz agD QT anc abn Z2 acH abS UA alD aho al5 ad3 akQ Q2 agV afl aeE ah2 aiD V0 aa5 adF ait akt alE Xr adC anL ahy al6 agt TN amQ abc alx aeJ aaV VQ aie ahV adJ ab7 Z0 VA ahd ac4 aaQ abU aha ajL TZ ahm amj alu afc ail Xb agl adG aj1 alQ akM QY aex agh acR ZC ZD UJ aeD akL akj aaf aja PL alZ aa6 amT agx ak3 Sk aep agR YZ aeT acL R7 afA agK afK afP aft XS ae1 abJ amk am7 agT WF ace aiU abu abf agB Py ah3 agk ano acx ai8 XA agd aga ZK acg ae6 Su ZL ag1 ajt af3 ab8 Vo ahf ahx aek abx ajE WL akq adN ain ajs aai Sx amO akR aaX abD acd U2 ai0 ZW acG ae4 alV QS adh anv aaZ akB aly Uf afW ZQ aap akI ahO Xv akp alW YW Y0 abL TK Z8 ai4 aki agN acj WH afB akC acn ahr Y3 Rr aa2 acF afM acl anw Vb ajV akK ac1 ab2 alL Vi adB abZ ab1 ajg amc SY akd aiZ adP amm ahs QX agH afi amg aio ab3 Wx abH ajv afU acU acK PZ acI aan ajK ajc aiL UF acB aj6 akD anI adi Wt Zp ali aaJ YV aeP RC ajW ac2 abM ag4 Z3 Q0 ajr agI agb aj3 alg Qq amB adA aix acE ajQ PH ahw aiH act aj7 alk WV am9 ZM alT Z7 amw Uh ZA afQ agi Zo ac9 Wb aez al1 anF aj8 ahE Pz aia aaq ael aj0 ZI RD aeW:Value}
 (aam:kn_ K "Hold" z0)
 (adm:kn_ K "Walk" z1)
 (aac:kn_ K "StokeError" z2)
 (akE:kn_ K "NoHold" z3)
 (ajM:kn_ K "NoState" z4)
 (ach:kn_ K "NoOrder" z5)
 (adz:kn_ K "NoFailing" z6)
 (akH:kn_ K "NoRoom" z7)
 (Z4:kn_ K "NoTurn" z8)
 (aci:kn_ K "NoBand" z9)
 (af1:kn_ K "Ended" X6)
 (ajU:kn_ K "NotOut" z11)
 (agv:kn_ K "NOUGHT" z12)
 (amS:kn_ K "WHOLE" z13)
 (ajR:W.excIn K z5 [.type "ValueError",.type "Exception",.type "BaseException",.type "object"] "ValueError.__new__" = true)
 (alz:W.findIn K (.ref z5) "__getattribute__" = some (some (.builtin "BaseException.__getattribute__")))
 (ago:W.findIn K (.ref z5) "__getattr__" = some none)
 (ahH:W.findIn K (.ref z5) "__class__" = some (some (.builtin "object.__class__")))
 (aiq:W.mroIn K z5 (.type "object")=some true)
 (am2:W.mroIn K z5 (.type "BaseException")=some true)
 (aiT:W.isClsIn K z5=true)
 (akY:W.excIn K z6 [.type "ValueError",.type "Exception",.type "BaseException",.type "object"] "ValueError.__new__" = true)
 (adM:W.findIn K (.ref z6) "__getattribute__" = some (some (.builtin "BaseException.__getattribute__")))
 (alf:W.findIn K (.ref z6) "__getattr__" = some none)
 (aaW:W.findIn K (.ref z6) "__class__" = some (some (.builtin "object.__class__")))
 (agJ:W.mroIn K z6 (.type "object")=some true)
 (aj2:W.mroIn K z6 (.type "BaseException")=some true)
 (ab0:W.isClsIn K z6=true)
 (aiX:W.excIn K X6 [.type "ValueError",.type "Exception",.type "BaseException",.type "object"] "ValueError.__new__" = true)
 (amh:W.findIn K (.ref z8) "turn" = some none)
 (al0:W.hasDictIn K z8=true)
 (aaj:W.findIn K (.ref z8) "room" = some none)
 (ams:W.findIn K (.ref z8) "__setattr__" = some (some (.builtin "object.__setattr__")))
 (abw:jr K z8=true)
 (ahq:W.findIn K (.ref z8) "__getattribute__" = some (some (.builtin "BaseException.__getattribute__")))
 (ai7:W.findIn K (.ref z8) "__getattr__" = some none)
 (agf:W.findIn K (.ref z8) "__class__" = some (some (.builtin "object.__class__")))
 (aiC:W.mroIn K z8 (.type "object")=some true)
 (amC:W.mroIn K z8 (.type "BaseException")=some true)
 (Y7:W.isClsIn K z8=true)
 (aeB:W.findIn K (.ref z9) "turn" = some none)
 (akJ:W.hasDictIn K z9=true)
 (aet:W.findIn K (.ref z9) "room" = some none)
 (ald:W.findIn K (.ref z9) "__setattr__" = some (some (.builtin "object.__setattr__")))
 (akc:jr K z9=true)
 (adZ:W.findIn K (.ref z9) "__getattribute__" = some (some (.builtin "BaseException.__getattribute__")))
 (akO:W.findIn K (.ref z9) "__getattr__" = some none)
 (aax:W.findIn K (.ref z9) "__class__" = some (some (.builtin "object.__class__")))
 (afg:W.mroIn K z9 (.type "object")=some true)
 (abk:W.mroIn K z9 (.type "BaseException")=some true)
 (akT:W.isClsIn K z9=true)
 (ZT:W.specialIn K (.builtin "object.__class__") "__get__" = some (some (.builtin "getset_descriptor.__get__")))
 (ads:W.takesIn K (.builtin "object.__class__")=some true)
 (ajn:Cg K [(z8,[.ref z9,.ref z5,.ref z6]),(z9,[.ref z8,.ref z5,.ref z6]),(z5,[.ref z6,.ref z8,.ref z9]),(z6,[.ref z5,.ref z8,.ref z9])] [.ref z4,.ref X6,.ref z11,.ref z7,.ref z3] z2=true)
 (akx:W.nsIn K mainGlobals "LEAST_MARKS" = some (some (.int 2 z14)))
 (aaE:W.nsIn K mainGlobals "MOST_BANDS" = some (some (.int 400 z15)))
 (ahv:W.nsIn K mainGlobals "MOST_BURNING" = some (some (.int 4 Yj)))
 (ai5:W.nsIn K mainGlobals "MOST_CAP" = some (some (.int 30 z17)))
 (afR:W.nsIn K mainGlobals "MOST_FAILS" = some (some (.int 3 z18)))
 (adS:W.nsIn K mainGlobals "MOST_LOAD" = some (some (.int 30 z19)))
 (abv:W.nsIn K mainGlobals "MOST_MARKS" = some (some (.int 7 z20)))
 (ahC:W.nsIn K mainGlobals "MOST_ROOMS" = some (some (.int 4 z21)))
 (ag2:W.nsIn K mainGlobals "MOST_STAY" = some (some (.int 3 z22)))
 (aiv:W.nsIn K mainGlobals "MOST_WOOD" = some (some (.int 9 z23)))
 (aln:K.lookup z12=some ⟨.type "tuple",z24,.seq #[.int 0 z27,.int 1 z28] z25,z26⟩)
 (ag8:K.lookup z13=some ⟨.type "tuple",z29,.seq #[.int 1 z32,.int 1 z33] z30,z31⟩)
 (ac6:W.plainGet K z0 Str.empty=true)
 (aeN:W.hasDictIn K z0=true)
 (ah0:W.plainOver K z0=true)
 (agL:W.findIn K (.ref z0) "__setattr__" = some (some (.builtin "object.__setattr__")))
 (Zw:W.makesIn K z0=true)
 (aiz:kq_ K z0)
 (aku:W.findIn K (.ref z0) "most" = some none)
 (ahM:W.findIn K (.ref z0) "cap" = some none)
 (Zj:W.findIn K (.ref z0) "load" = some none)
 (aid:W.findIn K (.ref z0) "mark_rows" = some none)
 (alY:W.findIn K (.ref z0) "flows" = some none)
 (ag5:W.findIn K (.ref z0) "skies" = some none)
 (ani:W.findIn K (.ref z0) "stoves" = some none)
 (aeM:kg_ K z0 "__init__" Qy)
 (afp:W.isFn K (.ref Qy)=true)
 (aeK:K.lookup Qy=some ⟨z38,z35,.func (W.fnOf "__init__" "Hold.__init__" (cm cQ) (bx cQ) (ao cQ) (.ref z44) z39 z40 z41 z36 z42 z43),z37⟩)
 (alF:kc_ K z42 "Hold.__init__")
 (Tl:kq_ K Qy)
 (aah:K.lookup z44=some ⟨z48,z49,.seq #[.int 4 z45,.int 0 z46,.int 0 z47] z50,z51⟩)
 (amu:kg_ K z0 "put_room" SS)
 (ak0:W.isFn K (.ref SS)=true)
 (ai9:kf_ K SS z56 z53 "put_room" "Hold.put_room" fJ z57 z58 z59 z54 z60 z61 z55)
 (aeV:kc_ K z60 "Hold.put_room")
 (Tk:kq_ K SS)
 (aau:kg_ K z0 "put_flow" Ry)
 (aaI:W.isFn K (.ref Ry)=true)
 (aey:kf_ K Ry z66 z63 "put_flow" "Hold.put_flow" fS z67 z68 z69 z64 z70 z71 z65)
 (agS:kc_ K z70 "Hold.put_flow")
 (QR:kq_ K Ry)
 (afn:kg_ K z0 "put_sky" Xp)
 (afD:W.isFn K (.ref Xp)=true)
 (am6:kf_ K Xp z76 z73 "put_sky" "Hold.put_sky" gf z77 z78 z79 z74 z80 z81 z75)
 (abP:kc_ K z80 "Hold.put_sky")
 (XF:kq_ K Xp)
 (ajq:kg_ K z0 "put_stove" Tc)
 (aed:W.isFn K (.ref Tc)=true)
 (Y1:K.lookup Tc=some ⟨z86,z83,.func (W.fnOf "put_stove" "Hold.put_stove" (cm cG) (bx cG) (ao cG) (.ref z92) z87 z88 z89 z84 z90 z91),z85⟩)
 (aiW:kc_ K z90 "Hold.put_stove")
 (PP:kq_ K Tc)
 (agy:K.lookup z92=some ⟨z96,z97,.seq #[.int 0 z93,.int 0 z94,.int 0 z95] z98,z99⟩)
 (agY:kg_ K z0 "many" FN)
 (aiy:W.isFn K (.ref FN)=true)
 (ahu:kf_ K FN aiY akX "many" "Hold.many" jm ZO Z5 ahz abA WX ad1 alr)
 (ac7:kc_ K WX "Hold.many")
 (T4:kq_ K FN)
 (afy:kg_ K z0 "marks" GW)
 (ang:W.isFn K (.ref GW)=true)
 (am1:kf_ K GW adQ alG "marks" "Hold.marks" iI Y4 agz aen ajf Rb ado alN)
 (alc:kc_ K Rb "Hold.marks")
 (Xf:kq_ K GW)
 (aat:kg_ K z0 "share" Hu)
 (ajS:W.isFn K (.ref Hu)=true)
 (acD:kf_ K Hu adu ags "share" "Hold.share" iE ae8 adw ZR agZ VZ adn acr)
 (aeu:kc_ K VZ "Hold.share")
 (VP:kq_ K Hu)
 (acZ:kg_ K z0 "sky" Fm)
 (aiV:W.isFn K (.ref Fm)=true)
 (ai2:kf_ K Fm abG afS "sky" "Hold.sky" kQ alI acu ahD acY QE ajH ale)
 (aij:kc_ K QE "Hold.sky")
 (QJ:kq_ K Fm)
 (ane:kg_ K z0 "stove" Fb)
 (ak6:W.isFn K (.ref Fb)=true)
 (ajk:kf_ K Fb anr aaP "stove" "Hold.stove" iz YX ZG ank ahG T2 aaa Zr)
 (Zl:kc_ K T2 "Hold.stove")
 (R6:kq_ K Fb)
 (amM:kg_ K z0 "own_share" Ht)
 (ajB:W.isFn K (.ref Ht)=true)
 (agg:kf_ K Ht aip ahb "own_share" "Hold.own_share" fg alX ahe aba ahX VT ahn akm)
 (ajA:kc_ K VT "Hold.own_share")
 (Qh:kq_ K Ht)
 (aeh:kg_ K z0 "look_for" Fu)
 (aem:W.isFn K (.ref Fu)=true)
 (aeY:kf_ K Fu alJ ajX "look_for" "Hold.look_for" fQ akU aca agw aig WM aml anj)
 (adW:kc_ K WM "Hold.look_for")
 (Rh:kq_ K Fu)
 (af8:kg_ K z0 "look_at_share" Ha)
 (aiN:W.isFn K (.ref Ha)=true)
 (ZY:kf_ K Ha ake alb "look_at_share" "Hold.look_at_share" de alM afr afd aef SX abB aks)
 (aiA:kc_ K SX "Hold.look_at_share")
 (WQ:kq_ K Ha)
 (adH:W.plainGet K z1 Str.empty=true)
 (aeG:W.hasDictIn K z1=true)
 (ahB:W.plainOver K z1=true)
 (alv:W.findIn K (.ref z1) "__setattr__" = some (some (.builtin "object.__setattr__")))
 (afb:W.makesIn K z1=true)
 (ajl:kq_ K z1)
 (ah5:W.findIn K (.ref z1) "hold" = some none)
 (Zu:W.findIn K (.ref z1) "place" = some none)
 (alA:W.findIn K (.ref z1) "gone" = some none)
 (amL:W.findIn K (.ref z1) "ended" = some none)
 (ag6:kg_ K z1 "__init__" E8)
 (af2:W.isFn K (.ref E8)=true)
 (akS:kf_ K E8 alC ajb "__init__" "Walk.__init__" fO afZ afH abt akr Ws ad9 amb)
 (aad:kc_ K Ws "Walk.__init__")
 (Sn:kq_ K E8)
 (akl:kg_ K z1 "go" Fe)
 (aeI:W.isFn K (.ref Fe)=true)
 (aj4:K.lookup Fe=some ⟨aeZ,adV,.func (W.fnOf "go" "Walk.go" (cm gK) (bx gK) (ao gK) (.ref Nm) aj5 amD Zz ajO Xc anu),ZB⟩)
 (abW:kc_ K Xc "Walk.go")
 (UU:kq_ K Fe)
 (afu:K.lookup Nm=some ⟨Zv,ad8,.seq #[.none] aa3,aer⟩)
 (ajy:kg_ K z1 "state" FD)
 (amA:W.isFn K (.ref FD)=true)
 (akA:kf_ K FD anQ amY "state" "Walk.state" iG Za aiO aky ame Ww aab amH)
 (U5:kc_ K Ww "Walk.state")
 (LS:kq_ K FD)
 (RN:kg_ K z1 "turns" E9)
 (UC:W.isFn K (.ref E9)=true)
 (Tz:kf_ K E9 abm ahW "turns" "Walk.turns" iN ahl anx adR amx RG aae acb)
 (Xq:kc_ K RG "Walk.turns")
 (L7:kq_ K E9)
 (Qb:kg_ K z1 "is_left" Fa)
 (UX:W.isFn K (.ref Fa)=true)
 (RA:kf_ K Fa ahS acO "is_left" "Walk.is_left" gy ai1 aag ah7 agO Qu ahN ady)
 (V9:kc_ K Qu "Walk.is_left")
 (LD:kq_ K Fa)
 (Uk:kg_ K z1 "span" HK)
 (TB:W.isFn K (.ref HK)=true)
 (SU:kf_ K HK akz ami "span" "Walk.span" jy aao ahJ amq aa0 Tf abb amf)
 (Sz:kc_ K Tf "Walk.span")
 (LA:kq_ K HK)
 (R0:kg_ K z1 "look_at_order" Gr)
 (Xz:W.isFn K (.ref Gr)=true)
 (Sa:kf_ K Gr ahK ag9 "look_at_order" "Walk.look_at_order" db acJ ak7 ac0 adb Xl acs alR)
 (VY:kc_ K Xl "Walk.look_at_order")
 (LO:kq_ K Gr)
 (QO:kg_ K z1 "look_at_warmth" Gh)
 (Q9:W.isFn K (.ref Gh)=true)
 (TL:kf_ K Gh akV amI "look_at_warmth" "Walk.look_at_warmth" c6 Y9 ahA aaC agU Qe adj ana)
 (Wa:kc_ K Qe "Walk.look_at_warmth")
 (LX:kq_ K Gh)
 (aoD:kg_ K z8 "__init__" Eo)
 (WR:kf_ K Eo ajx ans "__init__" "NoTurn.__init__" eL aiu ad7 al7 YY U9 acM aaB)
 (Vs:kc_ K U9 "NoTurn.__init__")
 (UQ:kq_ K Eo)
 (Rq:W.typeIn K (.ref Eo)=some (.type "function"))
 (Sg:qV K z8 Eo ID "ValueError.__new__" = true)
 (ap0:kg_ K z9 "__init__" DN)
 (Rj:kf_ K DN adx am5 "__init__" "NoBand.__init__" eO ad0 aaM ag0 acX QI ajG Zy)
 (Ra:kc_ K QI "NoBand.__init__")
 (Sm:kq_ K DN)
 (Pt:W.typeIn K (.ref DN)=some (.type "function"))
 (Ta:qV K z9 DN ID "ValueError.__new__" = true)
 (SK:kn_ K "has_room" Ln)
 (P4:kf_ K Ln al4 ant "has_room" "has_room" kH aiP afE afG aeq U6 Zx acA)
 (TD:kc_ K U6 "has_room")
 (SR:kq_ K Ln)
 (XC:kn_ K "with_room" Iz)
 (Xj:kf_ K Iz acz Zc "with_room" "with_room" jq ZZ afF ajN aih VW afx adp)
 (V7:kc_ K VW "with_room")
 (Ue:kq_ K Iz)
 (Xk:kn_ K "how_many" JE)
 (RM:kf_ K JE abq anm "how_many" "how_many" kn ajI aeU acv adI P6 adf aak)
 (WU:kc_ K P6 "how_many")
 (WN:kq_ K JE)
 (Uq:kn_ K "members" JR)
 (V3:kf_ K JR agE aeo "members" "members" mJ aaH ama ahR aiQ PN ahI ahQ)
 (Rc:kc_ K PN "members")
 (WD:kq_ K JR)
 (Qk:kn_ K "subsets" Ju)
 (Sj:kf_ K Ju ahk acm "subsets" "subsets" mr ah8 agP afe ajd VO agC aik)
 (Um:kc_ K VO "subsets")
 (U3:kq_ K Ju)
 (Xe:kn_ K "bits_of" JI)
 (Vx:kf_ K JI Z9 aka "bits_of" "bits_of" mB air am4 amp aj9 WO akv ako)
 (Ul:kc_ K WO "bits_of")
 (Qx:kq_ K JI)
 (Sh:kn_ K "divisor" JP)
 (TY:kf_ K JP adT al8 "divisor" "divisor" mz alw Y2 aby am0 Vj afw aee)
 (Vy:kc_ K Vj "divisor")
 (Rk:kq_ K JP)
 (Wy:kn_ K "fraction" Lj)
 (SA:kf_ K Lj aav aiE "fraction" "fraction" kU anG abz agD acP QT anc agp)
 (PQ:kc_ K QT "fraction")
 (Uw:kq_ K Lj)
 (SI:kn_ K "plus" JF)
 (W4:kf_ K JF abn amd "plus" "plus" wc Z2 acH abS adU UA alD anp)
 (Sv:kc_ K UA "plus")
 (TQ:kq_ K JF)
 (PK:kn_ K "minus" Ll)
 (Pg:kf_ K Ll aho af9 "minus" "minus" qY al5 ad3 akQ amF Q2 agV aiF)
 (Qo:kc_ K Q2 "minus")
 (RU:kq_ K Ll)
 (R3:kn_ K "under" Kr)
 (Uz:kf_ K Kr afl ahL "under" "under" rl aeE ah2 aiD agn V0 aa5 agq)
 (Sb:kc_ K V0 "under")
 (XR:kq_ K Kr)
 (SG:kn_ K "is_whole_upto" Kd)
 (VN:kf_ K Kd adF ahF "is_whole_upto" "is_whole_upto" fK ait akt alE af5 Xr adC agW)
 (Sr:kc_ K Xr "is_whole_upto")
 (Se:kq_ K Kd)
 (VL:kn_ K "is_rising" KG)
 (UB:kf_ K KG anL ajF "is_rising" "is_rising" jl ahy al6 agt abQ TN amQ ak8)
 (W6:kc_ K TN "is_rising")
 (W0:kq_ K KG)
 (TJ:kn_ K "bands_together" JK)
 (Vu:kf_ K JK abc akn "bands_together" "bands_together" fj alx aeJ aaV afz VQ aie afq)
 (Px:kc_ K VQ "bands_together")
 (Qj:kq_ K JK)
 (QL:kn_ K "hold_like" Jb)
 (Tg:K.lookup Jb=some ⟨ahV,anO,.func (W.fnOf "hold_like" "hold_like" (cm eY) (bx eY) (ao eY) (.ref Ni) adJ ab7 Z0 Zq VA ahd),adO⟩)
 (Ru:kc_ K VA "hold_like")
 (QG:kq_ K Jb)
 (Ss:K.lookup Ni=some ⟨ac4,afT,.seq #[.none,.none,.none] anl,amV⟩)
 (U4:kn_ K "sum_of_products" IE)
 (VB:kf_ K IE aaQ alq "sum_of_products" "sum_of_products" eE abU aha ajL aiJ TZ ahm akZ)
 (Va:kc_ K TZ "sum_of_products")
 (PC:kq_ K IE)
 (P0:kn_ K "warmth_of" KS)
 (WC:kf_ K KS amj alK "warmth_of" "warmth_of" ji alu afc ail ais Xb agl anb)
 (Rt:kc_ K Xb "warmth_of")
 (UM:kq_ K KS)
 (Te:kn_ K "span_of" IZ)
 (VU:kf_ K IZ adG ajJ "span_of" "span_of" mw aj1 alQ akM aa4 QY aex akb)
 (T6:kc_ K QY "span_of")
 (WK:kq_ K IZ)
 (Rf:kn_ K "touched" Io)
 (Ug:kf_ K Io agh abi "touched" "touched" mG acR ZC ZD adl UJ aeD ah9)
 (UW:kc_ K UJ "touched")
 (V4:kq_ K Io)
 (WY:kn_ K "is_state" Lm)
 (SL:kf_ K Lm akL afk "is_state" "is_state" kZ akj aaf aja agA PL alZ ajw)
 (Uv:kc_ K PL "is_state")
 (Wv:kq_ K Lm)
 (Tq:kn_ K "fits_room" IM)
 (Uo:kf_ K IM aa6 al9 "fits_room" "fits_room" jn amT agx ak3 ZH Sk aep aco)
 (Vn:kc_ K Sk "fits_room")
 (Ps:kq_ K IM)
 (UR:kn_ K "fits_stove" IC)
 (UO:kf_ K IC agR ad5 "fits_stove" "fits_stove" iw YZ aeT acL aew R7 afA adr)
 (Q4:kc_ K R7 "fits_stove")
 (QM:kq_ K IC)
 (P1:kn_ K "look_at_state" Lf)
 (RE:kf_ K Lf agK ak1 "look_at_state" "look_at_state" fH afK afP aft ZX XS ae1 adg)
 (Wd:kc_ K XS "look_at_state")
 (Pq:kq_ K Lf)
 (Re:kn_ K "with_stove" Jl)
 (T8:kf_ K Jl abJ aeO "with_stove" "with_stove" iD amk am7 agT akF WF ace adK)
 (Xt:kc_ K WF "with_stove")
 (WE:kq_ K Jl)
 (VD:kn_ K "wood_of" J2)
 (RR:kf_ K J2 aiU agF "wood_of" "wood_of" mI abu abf agB aev Py ah3 ahU)
 (RO:kc_ K Py "wood_of")
 (QF:kq_ K J2)
 (RV:kn_ K "must_stay" Jh)
 (Vl:kf_ K Jh agk akg "must_stay" "must_stay" jE ano acx ai8 af6 XA agd abo)
 (SM:kc_ K XA "must_stay")
 (Pf:kq_ K Jh)
 (RZ:kn_ K "can_burn" Jp)
 (SD:kf_ K Jp aga abd "can_burn" "can_burn" kI ZK acg ae6 aeQ Su ZL af0)
 (TF:kc_ K Su "can_burn")
 (WJ:kq_ K Jp)
 (PV:kn_ K "orders_of" JV)
 (SE:kf_ K JV ag1 aeg "orders_of" "orders_of" jp ajt af3 ab8 ahi Vo ahf ae3)
 (P9:kc_ K Vo "orders_of")
 (PF:kq_ K JV)
 (UV:kn_ K "may_fail" Kn)
 (RY:kf_ K Kn ahx aa7 "may_fail" "may_fail" ko aek abx ajE ade WL akq aej)
 (W8:kc_ K WL "may_fail")
 (Qa:kq_ K Kn)
 (RF:kn_ K "failing" IG)
 (P2:kf_ K IG adN agr "failing" "failing" mv ain ajs aai anD Sx amO aaF)
 (UH:kc_ K Sx "failing")
 (US:kq_ K IG)
 (Sd:kn_ K "behind_turn" JU)
 (P7:kf_ K JU akR Zd "behind_turn" "behind_turn" gZ aaX abD acd ajp U2 ai0 anP)
 (V2:kc_ K U2 "behind_turn")
 (QU:kq_ K JU)
 (P3:kn_ K "stoves_behind" Kb)
 (Qf:kf_ K Kb ZW ajT "stoves_behind" "stoves_behind" fT acG ae4 alV alj QS adh acC)
 (Rs:kc_ K QS "stoves_behind")
 (Ri:kq_ K Kb)
 (Ua:kn_ K "wait_behind" JT)
 (Xx:kf_ K JT anv amZ "wait_behind" "wait_behind" gY aaZ akB aly ah4 Uf afW akW)
 (Q6:kc_ K Uf "wait_behind")
 (RL:kq_ K JT)
 (XG:kn_ K "failed_behind" Jf)
 (Tu:kf_ K Jf ZQ ajP "failed_behind" "failed_behind" fN aap akI ahO ah6 Xv akp akP)
 (Wu:kc_ K Xv "failed_behind")
 (Xg:kq_ K Jf)
 (Sy:kn_ K "_law_cell_at" IK)
 (RB:kf_ K IK alW aaT "_law_cell_at" "_law_cell_at" gU YW Y0 abL anN TK Z8 ab4)
 (Xd:kc_ K TK "_law_cell_at")
 (Tv:kq_ K IK)
 (SB:kn_ K "_law_pick" Jo)
 (PD:kf_ K Jo ai4 aiB "_law_pick" "_law_pick" kW aki agN acj Zn WH afB ZJ)
 (Rw:kc_ K WH "_law_pick")
 (Q8:kq_ K Jo)
 (VX:kn_ K "_law_ratio" Jr)
 (Wz:kf_ K Jr akC Zs "_law_ratio" "_law_ratio" jt acn ahr Y3 Zf Rr aa2 ad2)
 (VG:kc_ K Rr "_law_ratio")
 (Vf:kq_ K Jr)
 (Xn:kn_ K "_law_scale" K0)
 (Th:kf_ K K0 acF aiw "_law_scale" "_law_scale" jg afM acl anw al3 Vb ajV aeX)
 (V6:kc_ K Vb "_law_scale")
 (UL:kq_ K K0)
 (RI:kn_ K "_law_warm" IY)
 (Vw:kf_ K IY akK ajD "_law_warm" "_law_warm" kO ac1 ab2 alL aht Vi adB agQ)
 (SV:kc_ K Vi "_law_warm")
 (RW:kq_ K IY)
 (Ts:kn_ K "_law_stove_by" IQ)
 (Q5:kf_ K IQ abZ amK "_law_stove_by" "_law_stove_by" gv ab1 ajg amc aif SY akd acw)
 (UI:kc_ K SY "_law_stove_by")
 (PY:kq_ K IQ)
 (Uj:kn_ K "_law_drawn" Js)
 (W1:kf_ K Js aiZ ahY "_law_drawn" "_law_drawn" ju adP amm ahs amn QX agH amo)
 (RQ:kc_ K QX "_law_drawn")
 (Ti:kq_ K Js)
 (PR:kn_ K "_law_built" JQ)
 (Wl:kf_ K JQ afi alO "_law_built" "_law_built" jv amg aio ab3 ak9 Wx abH Zk)
 (Qv:kc_ K Wx "_law_built")
 (SC:kq_ K JQ)
 (PJ:kn_ K "_law_state_by" JM)
 (XX:kf_ K JM ajv Y6 "_law_state_by" "_law_state_by" gq afU acU acK abp PZ acI aaD)
 (Ui:kc_ K PZ "_law_state_by")
 (Wg:kq_ K JM)
 (Vc:kn_ K "_law_span" KM)
 (VC:kf_ K KM aan aec "_law_span" "_law_span" j7 ajK ajc aiL adE UF acB anB)
 (P5:kc_ K UF "_law_span")
 (Vk:kq_ K KM)
 (XU:kn_ K "_law_mild" Lu)
 (Tp:kf_ K Lu aj6 ahc "_law_mild" "_law_mild" kj akD anI adi aaY Wt Zp amt)
 (To:kc_ K Wt "_law_mild")
 (Pm:kq_ K Lu)
 (XQ:kn_ K "_law_in" JH)
 (W3:kf_ K JH ali aiI "_law_in" "_law_in" n9 aaJ YV aeP amy RC ajW aii)
 (QP:kc_ K RC "_law_in")
 (WI:kq_ K JH)
 (Tr:kn_ K "_law_allows" Kv)
 (VH:kf_ K Kv ac2 aaL "_law_allows" "_law_allows" iF abM ag4 Z3 ak5 Q0 ajr af4)
 (XW:kc_ K Q0 "_law_allows")
 (Rx:kq_ K Kv)
 (WT:kn_ K "_law_order" Ku)
 (Rm:kf_ K Ku agI aeR "_law_order" "_law_order" jo agb aj3 alg Z6 Qq amB ajZ)
 (Xu:kc_ K Qq "_law_order")
 (Wo:kq_ K Ku)
 (UG:kn_ K "_law_fault" K6)
 (T0:kf_ K K6 adA afI "_law_fault" "_law_fault" jh aix acE ajQ aje PH ahw afC)
 (Qs:kc_ K PH "_law_fault")
 (QH:kq_ K K6)
 (Sw:kn_ K "_law_warmth" IS)
 (TR:kf_ K IS aiH afN "_law_warmth" "_law_warmth" iB act aj7 alk alU WV am9 al2)
 (Wn:kc_ K WV "_law_warmth")
 (Sf:kq_ K IS)
 (Vh:kn_ K "_law_turn" IV)
 (QC:kf_ K IV ZM ak4 "_law_turn" "_law_turn" kY alT Z7 amw anf Uh ZA afV)
 (Ve:kc_ K Uh "_law_turn")
 (UK:kq_ K IV)
 (Tn:kn_ K "_law_gone" JS)
 (Ro:kf_ K JS afQ ZE "_law_gone" "_law_gone" j4 agi Zo ac9 aaG Wb aez agX)
 (QZ:kc_ K Wb "_law_gone")
 (XY:kq_ K JS)
 (V8:kn_ K "_law_step" KJ)
 (Qn:kf_ K KJ al1 abN "_law_step" "_law_step" kc anF aj8 ahE aju Pz aia agm)
 (RH:kc_ K Pz "_law_step")
 (Qd:kq_ K KJ)
 (Vv:kn_ K "law" Je)
 (XV:kf_ K Je aaq Z1 "law" "law" xO ael aj0 ZI aaO RD aeW abe)
 (Pw:kc_ K RD "law")
 (WS:kq_ K Je)
 (Ud:W.nsIn K mainGlobals "ValueError" = some none)
 (WG:W.nsIn K mainGlobals "abs" = some none)
 (Qw:W.nsIn K mainGlobals "all" = some none)
 (Ql:W.nsIn K mainGlobals "bool" = some none)
 (Ut:W.nsIn K mainGlobals "dict" = some none)
 (Xm:W.nsIn K mainGlobals "enumerate" = some none)
 (Tb:W.nsIn K mainGlobals "int" = some none)
 (W5:W.nsIn K mainGlobals "isinstance" = some none)
 (RT:W.nsIn K mainGlobals "len" = some none)
 (Xh:W.nsIn K mainGlobals "list" = some none)
 (UD:W.nsIn K mainGlobals "max" = some none)
 (Vp:W.nsIn K mainGlobals "min" = some none)
 (T3:W.nsIn K mainGlobals "range" = some none)
 (TW:W.nsIn K mainGlobals "sum" = some none)
 (XH:W.nsIn K mainGlobals "tuple" = some none)
 (Xy:W.nsIn K mainGlobals "zip" = some none)
 : Txt K mg ⟨z0,z1,z2,z3,z4,z5,z6,z7,z8,z9,X6,z11,z12,z13,z44,z92,Nm,Ni⟩ :=
⟨acp X G aam,
acp X G adm,
acp X G aac,
acp X G akE,
acp X G ajM,
acp X G ach,
acp X G adz,
acp X G akH,
acp X G Z4,
acp X G aci,
acp X G af1,
acp X G ajU,
acp X G agv,
acp X G amS,
ajR,
alz,
ago,
ahH,
aiq,
am2,
aiT,
akY,
adM,
alf,
aaW,
agJ,
aj2,
ab0,
aiX,
amh,
al0,
aaj,
ams,
abw,
ahq,
ai7,
agf,
aiC,
amC,
Y7,
aeB,
akJ,
aet,
ald,
akc,
adZ,
akO,
aax,
afg,
abk,
akT,
ZT,
ads,
ajn,
⟨_,acp X G akx⟩,
⟨_,acp X G aaE⟩,
⟨_,acp X G ahv⟩,
⟨_,acp X G ai5⟩,
⟨_,acp X G afR⟩,
⟨_,acp X G adS⟩,
⟨_,acp X G abv⟩,
⟨_,acp X G ahC⟩,
⟨_,acp X G ag2⟩,
⟨_,acp X G aiv⟩,
L0 aln,
L0 ag8,
⟨ac6,aeN,ah0,agL⟩,
⟨Zw,aiz⟩,
aku,
ahM,
Zj,
aid,
alY,
ag5,
ani,
⟨Qy,_,⟨aeM,afp,Tl⟩,cn (st:=cQ) aeK alF Tl⟩,
⟨_,_,_,aah,rfl,(.cons ⟨_,rfl⟩ (.cons ⟨_,rfl⟩ (.cons ⟨_,rfl⟩ .nil)))⟩,
⟨SS,_,⟨amu,ak0,Tk⟩,cn (st:=fJ) ai9 aeV Tk⟩,
⟨Ry,_,⟨aau,aaI,QR⟩,cn (st:=fS) aey agS QR⟩,
⟨Xp,_,⟨afn,afD,XF⟩,cn (st:=gf) am6 abP XF⟩,
⟨Tc,_,⟨ajq,aed,PP⟩,cn (st:=cG) Y1 aiW PP⟩,
⟨_,_,_,agy,rfl,(.cons ⟨_,rfl⟩ (.cons ⟨_,rfl⟩ (.cons ⟨_,rfl⟩ .nil)))⟩,
⟨FN,_,⟨agY,aiy,T4⟩,cn (st:=jm) ahu ac7 T4⟩,
⟨GW,_,⟨afy,ang,Xf⟩,cn (st:=iI) am1 alc Xf⟩,
⟨Hu,_,⟨aat,ajS,VP⟩,cn (st:=iE) acD aeu VP⟩,
⟨Fm,_,⟨acZ,aiV,QJ⟩,cn (st:=kQ) ai2 aij QJ⟩,
⟨Fb,_,⟨ane,ak6,R6⟩,cn (st:=iz) ajk Zl R6⟩,
⟨Ht,_,⟨amM,ajB,Qh⟩,cn (st:=fg) agg ajA Qh⟩,
⟨Fu,_,⟨aeh,aem,Rh⟩,cn (st:=fQ) aeY adW Rh⟩,
⟨Ha,_,⟨af8,aiN,WQ⟩,cn (st:=de) ZY aiA WQ⟩,
⟨adH,aeG,ahB,alv⟩,
⟨afb,ajl⟩,
ah5,
Zu,
alA,
amL,
⟨E8,_,⟨ag6,af2,Sn⟩,cn (st:=fO) akS aad Sn⟩,
⟨Fe,_,⟨akl,aeI,UU⟩,cn (st:=gK) aj4 abW UU⟩,
⟨_,_,_,afu,rfl,(.cons rfl .nil)⟩,
⟨FD,_,⟨ajy,amA,LS⟩,cn (st:=iG) akA U5 LS⟩,
⟨E9,_,⟨RN,UC,L7⟩,cn (st:=iN) Tz Xq L7⟩,
⟨Fa,_,⟨Qb,UX,LD⟩,cn (st:=gy) RA V9 LD⟩,
⟨HK,_,⟨Uk,TB,LA⟩,cn (st:=jy) SU Sz LA⟩,
⟨Gr,_,⟨R0,Xz,LO⟩,cn (st:=db) Sa VY LO⟩,
⟨Gh,_,⟨QO,Q9,LX⟩,cn (st:=c6) TL Wa LX⟩,
⟨Eo,_,Ca Sg Rq,cn (st:=eL) WR Vs UQ⟩,
⟨DN,_,Ca Ta Pt,cn (st:=eO) Rj Ra Sm⟩,
⟨Ln,_,acp X G SK,aW (st:=kH) P4 TD SR⟩,
⟨Iz,_,acp X G XC,aW (st:=jq) Xj V7 Ue⟩,
⟨JE,_,acp X G Xk,aW (st:=kn) RM WU WN⟩,
⟨JR,_,acp X G Uq,aW (st:=mJ) V3 Rc WD⟩,
⟨Ju,_,acp X G Qk,aW (st:=mr) Sj Um U3⟩,
⟨JI,_,acp X G Xe,aW (st:=mB) Vx Ul Qx⟩,
⟨JP,_,acp X G Sh,aW (st:=mz) TY Vy Rk⟩,
⟨Lj,_,acp X G Wy,aW (st:=kU) SA PQ Uw⟩,
⟨JF,_,acp X G SI,aW (st:=wc) W4 Sv TQ⟩,
⟨Ll,_,acp X G PK,aW (st:=qY) Pg Qo RU⟩,
⟨Kr,_,acp X G R3,aW (st:=rl) Uz Sb XR⟩,
⟨Kd,_,acp X G SG,aW (st:=fK) VN Sr Se⟩,
⟨KG,_,acp X G VL,aW (st:=jl) UB W6 W0⟩,
⟨JK,_,acp X G TJ,aW (st:=fj) Vu Px Qj⟩,
⟨Jb,_,acp X G QL,cn (st:=eY) Tg Ru QG⟩,
⟨_,_,_,Ss,rfl,(.cons rfl (.cons rfl (.cons rfl .nil)))⟩,
⟨IE,_,acp X G U4,aW (st:=eE) VB Va PC⟩,
⟨KS,_,acp X G P0,aW (st:=ji) WC Rt UM⟩,
⟨IZ,_,acp X G Te,aW (st:=mw) VU T6 WK⟩,
⟨Io,_,acp X G Rf,aW (st:=mG) Ug UW V4⟩,
⟨Lm,_,acp X G WY,aW (st:=kZ) SL Uv Wv⟩,
⟨IM,_,acp X G Tq,aW (st:=jn) Uo Vn Ps⟩,
⟨IC,_,acp X G UR,aW (st:=iw) UO Q4 QM⟩,
⟨Lf,_,acp X G P1,aW (st:=fH) RE Wd Pq⟩,
⟨Jl,_,acp X G Re,aW (st:=iD) T8 Xt WE⟩,
⟨J2,_,acp X G VD,aW (st:=mI) RR RO QF⟩,
⟨Jh,_,acp X G RV,aW (st:=jE) Vl SM Pf⟩,
⟨Jp,_,acp X G RZ,aW (st:=kI) SD TF WJ⟩,
⟨JV,_,acp X G PV,aW (st:=jp) SE P9 PF⟩,
⟨Kn,_,acp X G UV,aW (st:=ko) RY W8 Qa⟩,
⟨IG,_,acp X G RF,aW (st:=mv) P2 UH US⟩,
⟨JU,_,acp X G Sd,aW (st:=gZ) P7 V2 QU⟩,
⟨Kb,_,acp X G P3,aW (st:=fT) Qf Rs Ri⟩,
⟨JT,_,acp X G Ua,aW (st:=gY) Xx Q6 RL⟩,
⟨Jf,_,acp X G XG,aW (st:=fN) Tu Wu Xg⟩,
⟨IK,_,acp X G Sy,aW (st:=gU) RB Xd Tv⟩,
⟨Jo,_,acp X G SB,aW (st:=kW) PD Rw Q8⟩,
⟨Jr,_,acp X G VX,aW (st:=jt) Wz VG Vf⟩,
⟨K0,_,acp X G Xn,aW (st:=jg) Th V6 UL⟩,
⟨IY,_,acp X G RI,aW (st:=kO) Vw SV RW⟩,
⟨IQ,_,acp X G Ts,aW (st:=gv) Q5 UI PY⟩,
⟨Js,_,acp X G Uj,aW (st:=ju) W1 RQ Ti⟩,
⟨JQ,_,acp X G PR,aW (st:=jv) Wl Qv SC⟩,
⟨JM,_,acp X G PJ,aW (st:=gq) XX Ui Wg⟩,
⟨KM,_,acp X G Vc,aW (st:=j7) VC P5 Vk⟩,
⟨Lu,_,acp X G XU,aW (st:=kj) Tp To Pm⟩,
⟨JH,_,acp X G XQ,aW (st:=n9) W3 QP WI⟩,
⟨Kv,_,acp X G Tr,aW (st:=iF) VH XW Rx⟩,
⟨Ku,_,acp X G WT,aW (st:=jo) Rm Xu Wo⟩,
⟨K6,_,acp X G UG,aW (st:=jh) T0 Qs QH⟩,
⟨IS,_,acp X G Sw,aW (st:=iB) TR Wn Sf⟩,
⟨IV,_,acp X G Vh,aW (st:=kY) QC Ve UK⟩,
⟨JS,_,acp X G Tn,aW (st:=j4) Ro QZ XY⟩,
⟨KJ,_,acp X G V8,aW (st:=kc) Qn RH Qd⟩,
⟨Je,_,acp X G Vv,aW (st:=xO) XV Pw WS⟩,
ahP X G Ud,
ahP X G WG,
ahP X G Qw,
ahP X G Ql,
ahP X G Ut,
ahP X G Xm,
ahP X G Tb,
ahP X G W5,
ahP X G RT,
ahP X G Xh,
ahP X G UD,
ahP X G Vp,
ahP X G T3,
ahP X G TW,
ahP X G XH,
ahP X G Xy⟩
section
variable {P:Program} {w:World} {K:W.Frag} {mg:Str->Option Value} {base:Heap} {Ad:YG}
theorem AB {lo:Int} {n:Nat} {g:TG} {tb:TS} {D:Ends} {U:L2.St} {H:Hp} (Pv:Nat->L2.St->Hp->Prop) (h0:Pv 0 U H)
   (hs:∀ (bk:L2.St->Hp->Prop) (rt:VK) (i:Nat) (U:L2.St) (H:Hp),i<n->Pv i U H->g (.int (lo+i)) U H λ σ2 H2=>tb ⟨Pv (i+1),rt,bk,Pv (i+1)⟩ σ2 H2) (hd:∀ U H,Pv n U H->D.nx U H) :
   ∃ W:Nat->Nat->L2.St->Hp->Prop,(∃ m,W 0 m U H)/\∀ i m U H,W i m U H ->
     ((ET lo n).stop i H/\D.nx U H)∨((ET lo n).go i H/\∃ N:L2.St->Hp->Prop,(∀ σ' H',N σ' H'->∃ m',m'<m/\W (i+1) m' σ' H')/\∀ x H',(ET lo n).FP i H x H'->g x U H' λ σ2 H2=>tb { D with nx:=N,ct:=N,bk:=D.nx } σ2 H2) :=
 jZ Pv h0 (λ i U H hi p=>hs D.nx D.rt i U H hi p) hd
theorem u9 {K:W.Frag} {a:Addr} {xs:List V} {g:TG} {tb:TS} {D:Ends} {U:L2.St} {H:Hp} (Pv:Nat->L2.St->Hp->Prop) (h0:Pv 0 U H) (hl:∀ i U H,i<=xs.length->Pv i U H->bg K H a xs)
   (hs:∀ (bk:L2.St->Hp->Prop) (rt:VK) (i:Nat) (x:V) (U:L2.St) (H:Hp),xs[i]?=some x->Pv i U H->g x U H λ σ2 H2=>tb ⟨Pv (i+1),rt,bk,Pv (i+1)⟩ σ2 H2) (hd:∀ U H,Pv xs.length U H->D.nx U H) :
   ∃ W:Nat->Nat->L2.St->Hp->Prop,(∃ m,W 0 m U H)/\∀ i m U H,W i m U H ->
     ((FS K a).stop i H/\D.nx U H)∨((FS K a).go i H/\∃ N:L2.St->Hp->Prop,(∀ σ' H',N σ' H'->∃ m',m'<m/\W (i+1) m' σ' H')/\∀ x H',(FS K a).FP i H x H'->g x U H' λ σ2 H2=>tb { D with nx:=N,ct:=N,bk:=D.nx } σ2 H2) :=
 lW Pv h0 hl (λ i x U H hx p=>hs D.nx D.rt i x U H hx p) hd
def iY {lo:Int} {n:Nat} {g:TG} {tb:TS} {D:Ends} {U:L2.St} {H:Hp} (Pv:Nat->L2.St->Hp->Prop) (h0:Pv 0 U H) (hs:let G:Nat->L2.St->Hp->Prop:=λ i U H=>g (.int (lo+i)) U H λ σ2 H2=>tb { D with nx:=Pv (i+1),ct:=Pv (i+1),bk:=D.nx } σ2 H2
   ∀ (i:Nat) (U:L2.St) (H:Hp),i<n->Pv i U H->G i U H) (hd:∀ U H,Pv n U H->D.nx U H):=jZ (lo:=lo) (n:=n) (g:=g) (tb:=tb) (D:=D) (U:=U) (H:=H) Pv h0 hs hd
def vg {K:W.Frag} {a:Addr} {xs:List V} {g:TG} {tb:TS} {D:Ends} {U:L2.St} {H:Hp} (Pv:Nat->L2.St->Hp->Prop) (h0:Pv 0 U H) (hl:∀ i U H,i<=xs.length->Pv i U H->bg K H a xs) (hs:let G:Nat->V->L2.St->Hp->Prop:=λ i x U H=>g x U H λ σ2 H2=>tb { D with nx:=Pv (i+1),ct:=Pv (i+1),bk:=D.nx } σ2 H2
   ∀ (i:Nat) (x:V) (U:L2.St) (H:Hp),xs[i]?=some x->Pv i U H->G i x U H) (hd:∀ U H,Pv xs.length U H->D.nx U H):=lW (K:=K) (a:=a) (xs:=xs) (g:=g) (tb:=tb) (D:=D) (U:=U) (H:=H) Pv h0 hl hs hd
def fZ {lo:Int} {n:Nat} {g:TG} {tb:TS} {D:Ends} {U:L2.St} {H:Hp} (Pv:Nat->L2.St->Hp->Prop) (h0:Pv 0 U H) (hs:let G:(L2.St->Hp->Prop)->VK->Nat->L2.St->Hp->Prop:=λ bk rt i U H=>g (.int (lo+i)) U H λ σ2 H2=>tb ⟨Pv (i+1),rt,bk,Pv (i+1)⟩ σ2 H2
   ∀ (bk:L2.St->Hp->Prop) (rt:VK) (i:Nat) (U:L2.St) (H:Hp),i<n->Pv i U H->G bk rt i U H) (hd:∀ U H,Pv n U H->D.nx U H):=AB (lo:=lo) (n:=n) (g:=g) (tb:=tb) (D:=D) (U:=U) (H:=H) Pv h0 hs hd
def MV {K:W.Frag} {a:Addr} {xs:List V} {g:TG} {tb:TS} {D:Ends} {U:L2.St} {H:Hp} (Pv:Nat->L2.St->Hp->Prop) (h0:Pv 0 U H) (hl:∀ i U H,i<=xs.length->Pv i U H->bg K H a xs) (hs:let G:(L2.St->Hp->Prop)->VK->Nat->V->L2.St->Hp->Prop:=λ bk rt i x U H=>g x U H λ σ2 H2=>tb ⟨Pv (i+1),rt,bk,Pv (i+1)⟩ σ2 H2
   ∀ (bk:L2.St->Hp->Prop) (rt:VK) (i:Nat) (x:V) (U:L2.St) (H:Hp),xs[i]?=some x->Pv i U H->G bk rt i x U H) (hd:∀ U H,Pv xs.length U H->D.nx U H):=u9 (K:=K) (a:=a) (xs:=xs) (g:=g) (tb:=tb) (D:=D) (U:=U) (H:=H) Pv h0 hl hs hd
theorem AS (T:Txt K mg Ad):Def P w K mg base "divisor" 1 ["one","other"] No:=by
 refine T.Dz.cM gI λ f bB A outer s H vs Q E hr h=>?_
 obtain ⟨a,b,rfl,k⟩:=h
 refine ⟨_,(ag (az (i:=2) gI.nd rfl (lc rfl) (aO pU (by rfl) T.Gj Bm (aa (pv 0) ac)))
     (ag (az (i:=3) gI.nd rfl (lc rfl) (aO pU (by rfl) T.Gj Bm (aa (pv 1) ac)))
     (ag (zB ad4 (aJ hU (pv 3) af (aL _)) (ag (az (i:=4) gI.nd rfl (lc rfl) (ax gz (pv 2) (pv 3)))
     (ag (az (i:=2) gI.nd rfl (lc rfl) (pv 3))
     (am (az (i:=3) gI.nd rfl (lc rfl) (pv 4))))))
     (am (aH (pv 2)))))),?_⟩
 try dsimp only [d9,aT]
 first|(refine d5 ?_;intro _ _ _ _ _)|skip
 refine ⟨_,rfl,_,rfl,λ g0 eg=>⟨_,rfl,_,rfl,λ l0 el=>?_⟩⟩
 refine ⟨λ m U H'=>H'=H/\E3 λ (g l:Int) (r:Option V)=>A5 (U=[some (.int a),some (.int b),some (.int g),some (.int l),r]) (0<=g) (0<=l) (m=l.toNat) (Int.gcd g l=Int.gcd a b),
   ⟨_,rfl,g0,l0,none,rfl,by lia,by lia,rfl,by rw [eg,el];rfl⟩,?_⟩
 rintro m U H' ⟨rfl,g,l,r,rfl,hg,hl,rfl,e⟩
 refine ⟨_,rfl,rfl,_,rfl,?_⟩
 refine mO (λ h=>?_) (λ h=>?_)
 .
  have l1:0<l:=by rw [eK] at h;lia
  refine ⟨λ σ' T7=>T7=H'/\σ'=[some (.int a),some (.int b),some (.int l),some (.int (g % l)),some (.int (g % l))],λ σ' T7 ⟨e1,e2⟩=>?_,?_⟩
  . have m0:=ape g (by lia:l≠0)
    have m1:=aoT g l1
    exact ⟨(g % l).toNat,by lia,e1,l,g % l,_,e2,hl,m0,rfl,(LG hg l1).trans e⟩
  . refine ⟨_,rfl,_,rfl,_,_,rfl,rfl,l1,λ r _ _ er=>?_⟩
    subst er
    exact ⟨_,rfl,_,rfl,rfl,rfl⟩
 .
  have l1:l=0:=eK.mp h
  subst l1
  refine ⟨_,rfl,k g ?_⟩
  rw [← e,Xw hg]
theorem lM (T:Txt K mg Ad):Def P w K mg base "fraction" 2 ["top","bottom"] yS:=by
 refine T.AD.cM lP λ f bB A outer s H vs Q E hr h=>?_
 obtain ⟨t,b,rfl,hb,bb,k⟩:=h
 refine ⟨_,(ag (aU (aJ gB (pv 1) af (aL _)) (am cL) aI)
     (ag (az (i:=2) lP.nd rfl (lc rfl) (ak (AS (K:=K) T) hr.m (aa (pv 0) (aa (pv 1) ac))))
     (ag (gp (aU (aJ lQ (pv 1) af (aL _)) (am (az (i:=2) lP.nd rfl (lc rfl) (p9 vZ (pv 2)))) aI))
     (am (aH (aV (aa (ax hX (pv 0) (pv 2)) (aa (ax hX (pv 1) (pv 2)) ac)))))))),?_⟩
 try dsimp only [d9,aT]
 first|(refine d5 ?_;intro _ _ _ _ _)|skip
 refine ⟨_,rfl,rfl,_,rfl,?_⟩
 refine ny (λ e=>hb (eK.mp e)) ?_
 refine ⟨_,rfl,_,rfl,t,b,rfl,λ c ec=>?_⟩
 obtain ⟨c0,cl,fp,fn⟩:=G2 hb ec
 have bc:Bd 8999 c:=(bb.le (by lia)).mono (by decide)
 refine ⟨λ σ' H'=>H'=H/\∃ c',A4 (c'≠0) (Bd 8999 c') (Fr t b (t.fdiv c') (b.fdiv c')) (σ'=[some (.int t),some (.int b),some (.int c')]),?_,?_⟩
 .
  refine ⟨_,rfl,_,_,rfl,rfl,_,rfl,?_⟩
  refine d6 (λ h=>?_) (λ h=>?_)
  . exact ⟨_,rfl,_,rfl,rfl,-c,by lia,bc.neg,fn h,rfl⟩
  . exact ⟨rfl,c,by lia,bc,fp (by lia),rfl⟩
 .
  rintro σ' H' ⟨rfl,c',h1,h2,h3,rfl⟩
  refine ⟨_,rfl,_,rfl,_,_,rfl,rfl,⟨h1,h2⟩,λ q eq=>⟨_,rfl,_,rfl,_,_,rfl,rfl,⟨h1,h2⟩,λ r er=>⟨mS,λ p hp=>?_⟩⟩⟩
  subst eq er
  exact k _ _ p _ h3 (ai hp) ah
theorem J3 (T:Txt K mg Ad):Def P w K mg base "plus" 3 ["one","other"] (xH (λ a b c d=>a * d+c * b) K):=by
 refine T.Nt.cM Kj λ f bB A outer s H vs Q E hr h=>?_
 obtain ⟨p1,p2,a,b,c,d,rfl,h1,h2,b0,d0,ba,bb,bc,bd,k⟩:=h
 refine ⟨_,(am (aH (ak (lM (K:=K) T) hr.m (aa (ax aG (ax bf (ay au (pv 0) af (λ _ _=>rfl)) (ay au (pv 1) af (λ _ _=>rfl))) (ax bf (ay au (pv 1) af (λ _ _=>rfl)) (ay au (pv 0) af (λ _ _=>rfl)))) (aa (ax bf (ay au (pv 0) af (λ _ _=>rfl)) (ay au (pv 1) af (λ _ _=>rfl))) ac))))),?_⟩
 try dsimp only [d9,aT]
 refine ⟨_,rfl,_,_,_,_,rfl,rfl,.inr h1,rfl,_,rfl,_,_,_,_,rfl,rfl,.inr h2,rfl,_,_,rfl,rfl,⟨_,_,ba,bd,by decide⟩,λ x1 e1=>?_⟩
 refine ⟨_,rfl,_,_,_,_,rfl,rfl,.inr h2,rfl,_,rfl,_,_,_,_,rfl,rfl,.inr h1,rfl,_,_,rfl,rfl,⟨_,_,bc,bb,by decide⟩,λ x2 e2=>⟨_,_,rfl,rfl,λ t et=>?_⟩⟩
 refine ⟨_,rfl,_,_,_,_,rfl,rfl,.inr h1,rfl,_,rfl,_,_,_,_,rfl,rfl,.inr h2,rfl,_,_,rfl,rfl,⟨_,_,bb,bd,by decide⟩,λ u eu=>?_⟩
 subst e1 e2 et eu
 exact ⟨_,_,rfl,ann (ae7 b0 d0),(bb.mul bd).mono (by decide),k⟩
theorem zS (T:Txt K mg Ad):Def P w K mg base "minus" 3 ["one","other"] (xH (λ a b c d=>a * d - c * b) K):=by
 refine T.JG.cM FI λ f bB A outer s H vs Q E hr h=>?_
 obtain ⟨p1,p2,a,b,c,d,rfl,h1,h2,b0,d0,ba,bb,bc,bd,k⟩:=h
 refine ⟨_,(am (aH (ak (lM (K:=K) T) hr.m (aa (ax cO (ax bf (ay au (pv 0) af (λ _ _=>rfl)) (ay au (pv 1) af (λ _ _=>rfl))) (ax bf (ay au (pv 1) af (λ _ _=>rfl)) (ay au (pv 0) af (λ _ _=>rfl)))) (aa (ax bf (ay au (pv 0) af (λ _ _=>rfl)) (ay au (pv 1) af (λ _ _=>rfl))) ac))))),?_⟩
 try dsimp only [d9,aT]
 refine ⟨_,rfl,_,_,_,_,rfl,rfl,.inr h1,rfl,_,rfl,_,_,_,_,rfl,rfl,.inr h2,rfl,_,_,rfl,rfl,⟨_,_,ba,bd,by decide⟩,λ x1 e1=>?_⟩
 refine ⟨_,rfl,_,_,_,_,rfl,rfl,.inr h2,rfl,_,rfl,_,_,_,_,rfl,rfl,.inr h1,rfl,_,_,rfl,rfl,⟨_,_,bc,bb,by decide⟩,λ x2 e2=>⟨_,_,rfl,rfl,λ t et=>?_⟩⟩
 refine ⟨_,rfl,_,_,_,_,rfl,rfl,.inr h1,rfl,_,rfl,_,_,_,_,rfl,rfl,.inr h2,rfl,_,_,rfl,rfl,⟨_,_,bb,bd,by decide⟩,λ u eu=>?_⟩
 subst e1 e2 et eu
 exact ⟨_,_,rfl,ann (ae7 b0 d0),(bb.mul bd).mono (by decide),k⟩
theorem gr (T:Txt K mg Ad):Def P w K mg base "under" 1 ["one","other"] (Gv K):=by
 refine T.Lo.cM GB λ f bB A outer s H vs Q E hr h=>?_
 obtain ⟨p1,p2,a,b,c,d,rfl,h1,h2,ba,bb,bc,bd,k⟩:=h
 refine ⟨_,(am (aH (e9 lQ (ax bf (ay au (pv 0) af (λ _ _=>rfl)) (ay au (pv 1) af (λ _ _=>rfl))) (ax bf (ay au (pv 1) af (λ _ _=>rfl)) (ay au (pv 0) af (λ _ _=>rfl))) (aL _)))),?_⟩
 try dsimp only [d9,aT]
 refine ⟨_,rfl,_,_,_,_,rfl,rfl,.inr h1,rfl,_,rfl,_,_,_,_,rfl,rfl,.inr h2,rfl,_,_,rfl,rfl,⟨_,_,ba,bd,by decide⟩,λ x1 e1=>?_⟩
 refine ⟨_,rfl,_,_,_,_,rfl,rfl,.inr h2,rfl,_,rfl,_,_,_,_,rfl,rfl,.inr h1,rfl,_,_,rfl,rfl,⟨_,_,bc,bb,by decide⟩,λ x2 e2=>⟨_,_,rfl,rfl,?_⟩⟩
 subst e1 e2
 exact k
theorem cZ (T:Txt K mg Ad):Def P w K mg base "is_whole_upto" 1 ["thing","greatest"] IN:=by
 refine T.qB.cM pK λ f bB A outer s H vs Q E hr h=>?_
 obtain ⟨n,g,rfl,k⟩:=h
 refine ⟨_,(ag (aU (PW.pt (io (bK (aO qj (by rfl) T.bY bO (aa (pv 0) (aa (rg (v:=V.ty "bool") rfl T.NW Lh rfl) ac)))) (gR (cS (bK (aO qj (by rfl) T.bY bO (aa (pv 0) (aa (rg (v:=V.ty "int") rfl T.Us NY rfl) ac)))))))) (am (aH lg)) aI)
     (am (aH (GM fX fX af (pv 0) (pv 1))))),?_⟩
 try dsimp only [d9,aT]
 refine ⟨_,rfl,_,_,_,_,_,rfl,.int n,rfl,vx K,_,rfl,dF ⟨_,rfl,_,_,_,_,_,rfl,.int n,rfl,rfl,_,rfl,dF ?_⟩⟩
 refine ⟨_,rfl,_,_,rfl,rfl,_,rfl,?_⟩
 by_cases h0:(0:Int)<=n
 .
  refine oP h0 ⟨_,rfl,_,_,rfl,rfl,?_⟩
  have:decide (n<=g)=decide (0<=n/\n<=g):=decide_eq_decide.mpr ⟨λ h=>⟨h0,h⟩,λ h=>h.2⟩
  show Q (V.bl (decide (n<=g))) H
  rw [this]
  exact k
 .
  refine ny h0 ?_
  have:decide (0<=n/\n<=g)=false:=abC λ h=>h0 h.1
  rw [this] at k
  exact k
theorem cw (T:Txt K mg Ad):jb P w K mg base Ad.aY "many" 1 ["self"] [] (K5 K Ad.aY):=by
 refine T.zb.iq vv λ f bB A outer s H vs Q E hr h=>?_
 obtain ⟨a,fp,m,rfl,hh,k⟩:=h
 refine ⟨_,(am (aH (aO bv (by rfl) T.dS cJ (aa (bC (pv 0) rfl) ac)))),?_⟩
 try dsimp only [d9,aT]
 obtain ⟨⟨dx,pm,pf,ps,pt,vm,vs,vt,aN,rfl,ha,iM,dI,gX,ft,c8,n1,n2,n3,dm,ds,dt,df,fk⟩,q1,q2,q3,q4⟩:=hh
 refine ⟨_,rfl,a,_,dx,_,_,rfl,ha,T.aE,T.cA,oZ ..,_,_,rfl,.inl (bg.of dI),λ n en=>?_⟩
 have e:n=(m.rows.length:Int):=by rw [en,dm.length,At]
 rw [e]
 exact k
theorem bQ (T:Txt K mg Ad):jb P w K mg base Ad.aY "look_for" 3 ["self","room"] [] (yN K Ad.aY):=by
 refine T.qM.iq pG λ f bB A outer s H vs Q E hr h=>?_
 obtain ⟨a,fp,m,i,rfl,hh,hi,k⟩:=h
 refine ⟨_,(am (aU (cS (hR fX lQ af (pv 1) (cP (pv 0) T.aE (cw (K:=K) T) .nil hr.m))) (am cL) aI)),?_⟩
 try dsimp only [d9,aT]
 obtain ⟨⟨dx,pm,pf,ps,pt,vm,vs,vt,aN,pP,ha,_⟩,_⟩:=id hh
 refine ⟨_,rfl,_,_,rfl,rfl,_,rfl,oP (by lia) ⟨_,rfl,a,dx,_,rfl,ha,rfl,a,fp,m,rfl,hh,_,_,rfl,rfl,_,rfl,?_⟩⟩
 exact cY (by lia) k
theorem oi (T:Txt K mg Ad):jb P w K mg base Ad.aY "sky" 4 ["self","room"] [] (OF K Ad.aY):=by
 refine T.Ba.iq yV λ f bB A outer s H vs Q E hr h=>?_
 obtain ⟨a,fp,m,i,z,rfl,hh,hz,k⟩:=h
 refine ⟨_,(ag (br (aX (pv 0) T.aE (bQ (K:=K) T) .nil hr.m (aa (pv 1) ac)))
     (am (aH (ay au (bC (pv 0) rfl) (pv 1) (λ _ _=>rfl))))),?_⟩
 try dsimp only [d9,aT]
 obtain ⟨⟨dx,pm,pf,ps,pt,vm,vs,vt,aN,pP,ha,iM,dI,gX,ft,c8,n1,n2,n3,dm,ds,dt,df,fk⟩,q1,q2,q3,q4⟩:=id hh
 have hi:i<m.rows.length:=by rw [← q1];exact (List.getElem?_eq_some_iff.mp hz).1
 obtain ⟨v,ev,dv⟩:=ds.get (i:=i) (d:=o5 z) (by rw [RS,hz];rfl)
 refine ⟨_,rfl,a,dx,_,rfl,ha,rfl,_,rfl,a,fp,m,i,rfl,hh,hi,?_⟩
 exact ⟨_,rfl,a,_,dx,_,_,rfl,ha,T.aE,T.cW,iP ..,_,rfl,_,_,_,_,rfl,rfl,.inl (bg.of ft),gx ev,k v dv⟩
theorem dM (T:Txt K mg Ad):jb P w K mg base Ad.aY "stove" 4 ["self","room"] [] (HE K Ad.aY):=by
 refine T.wH.iq tM λ f bB A outer s H vs Q E hr h=>?_
 obtain ⟨a,fp,m,i,z,rfl,hh,hz,k⟩:=h
 refine ⟨_,(ag (br (aX (pv 0) T.aE (bQ (K:=K) T) .nil hr.m (aa (pv 1) ac)))
     (am (aH (ay au (bC (pv 0) rfl) (pv 1) (λ _ _=>rfl))))),?_⟩
 try dsimp only [d9,aT]
 obtain ⟨⟨dx,pm,pf,ps,pt,vm,vs,vt,aN,pP,ha,iM,dI,gX,ft,c8,n1,n2,n3,dm,ds,dt,df,fk⟩,q1,q2,q3,q4⟩:=id hh
 have hi:i<m.rows.length:=by rw [← q2];exact (List.getElem?_eq_some_iff.mp hz).1
 obtain ⟨v,ev,dv⟩:=dt.get (i:=i) (d:=ij z) (by rw [RS,hz];rfl)
 refine ⟨_,rfl,a,dx,_,rfl,ha,rfl,_,rfl,a,fp,m,i,rfl,hh,hi,?_⟩
 exact ⟨_,rfl,a,_,dx,_,_,rfl,ha,T.aE,T.dQ,k7 ..,_,rfl,_,_,_,_,rfl,rfl,.inl (bg.of c8),gx ev,k v dv⟩
theorem gl (T:Txt K mg Ad):jb P w K mg base Ad.aY "marks" 4 ["self","room"] [] (Hl K Ad.aY):=by
 refine T.wB.iq ut λ f bB A outer s H vs Q E hr h=>?_
 obtain ⟨a,fp,m,i,r,rfl,hh,hz,k⟩:=h
 refine ⟨_,(ag (br (aX (pv 0) T.aE (bQ (K:=K) T) .nil hr.m (aa (pv 1) ac)))
     (am (aH (cH gk (by rfl) T.tf nS (aa (ay au (bC (pv 0) rfl) (pv 1) (λ _ _=>rfl)) ac))))),?_⟩
 try dsimp only [d9,aT]
 obtain ⟨⟨dx,pm,pf,ps,pt,vm,vs,vt,aN,pP,ha,iM,dI,gX,ft,c8,n1,n2,n3,dm,ds,dt,df,fk⟩,q1,q2,q3,q4⟩:=id hh
 have hi:i<m.rows.length:=(List.getElem?_eq_some_iff.mp hz).1
 obtain ⟨v,ev,b,xs,rfl,hq,dv⟩:=dm.get (i:=i) (d:=tZ r) (by rw [RS,hz];rfl)
 refine ⟨_,rfl,a,dx,_,rfl,ha,rfl,_,rfl,a,fp,m,i,rfl,hh,hi,?_⟩
 exact ⟨_,rfl,a,_,dx,_,_,rfl,ha,T.aE,T.cA,oZ ..,_,rfl,_,_,_,_,rfl,rfl,.inl (bg.of dI),gx ev,b,xs,rfl,.inr hq,λ p hp=>k p xs hp dv⟩
theorem i4 (T:Txt K mg Ad):jb P w K mg base Ad.aY "own_share" 4 ["self","room"] [] (MI K Ad.aY):=by
 refine T.pY.iq eI λ f bB A outer s H vs Q E hr h=>?_
 obtain ⟨a,fp,m,i,rfl,hh,hi,k⟩:=h
 refine ⟨_,(ag (az (i:=2) eI.nd rfl (lc rfl) (ak (zS (K:=K) T) hr.m (aa (bM (v:=V.ref _) rfl T.Cb rfl) (aa (ay au (ay au (bC (pv 0) rfl) (pv 1) (λ _ _=>rfl)) af (λ _ _=>rfl)) ac))))
     (ag (dO ad4 rfl (bH rfl T.cC (aa (cP (pv 0) T.aE (cw (K:=K) T) .nil hr.m) ac)) (aK (i:=3) eI.nd rfl (lc rfl)) (am (az (i:=2) eI.nd rfl (lc rfl) (ak (zS (K:=K) T) hr.m (aa (pv 2) (aa (zK (b5 hr) (bC (pv 0) rfl) (aV (aa (pv 1) (aa (pv 3) ac))) (bM (v:=V.ref _) rfl T.i7 rfl) ⟨rfl,rfl,rfl,rfl⟩) ac))))))
     (am (aH (pv 2))))),?_⟩
 try dsimp only [d9,aT]
 first|(refine fF ?_;intro _ _ _ _)|skip
 obtain ⟨⟨dx,pm,pf,ps,pt,vm,vs,vt,aN,pP,ha,iM,dI,gX,ft,c8,n1,n2,n3,dm,ds,dt,df,fk⟩,q1,q2,q3,q4⟩:=id hh
 have hi1:i<m.bw.length:=by rw [q1];exact hi
 have hz:=av hi1
 obtain ⟨v,ev,dv⟩:=ds.get (i:=i) (d:=o5 m.bw[i]) (by rw [RS,hz];rfl)
 obtain ⟨p0,v1,v2,v3,rfl,Dq,d1,d2,d3⟩:=dv.dE
 obtain ⟨p1,rfl,HX⟩:=d1.fr
 have es:m.bw[i].1=m.eV i:=by unfold ap.eV;rw [hz];rfl
 have o1:eA 100 m.bw[i].1:=es ▸ q4.eV i
 refine ⟨_,rfl,a,_,dx,_,_,rfl,ha,T.aE,T.cW,iP ..,_,rfl,_,_,_,_,rfl,rfl,.inl (bg.of ft),gx ev,_,_,_,_,rfl,rfl,.inr Dq,rfl,?_⟩
 refine ⟨Ad.u0,p1,1,1,_,_,rfl,T.C8.at H,HX,by decide,o1.p,mT,mT,o1.t.mono (by decide),o1.b.mono (by decide),λ q r u H1 F s1 hu=>?_⟩
 have e0:(q,r)=m.gj i 0:=by
   have:=F.nf (ae7 (by decide) o1.p)
   rw [this]
   unfold ap.gj nN
   rw [← es];rfl
 refine ⟨_,rfl,a,dx,_,rfl,s1 _ _ ha,rfl,a,fp,m,rfl,aR.same s1 hh,_,rfl,by lia,by lia,?_⟩
 refine iY (lo:=0) (n:=m.rows.length) (λ j U H'=>aB H H'/\E2 λ (u:Addr) (x:Option V)=>H' u=some (.tup [.int (m.gj i j).1,.int (m.gj i j).2])/\U=[some (.ref a),some (aq i),some (.ref u),x])
   ⟨s1,u,none,by rw [← e0];exact hu,rfl⟩ ?_ ?_
 .
  rintro _ j U H2 hj ⟨s2,u,x,hu,rfl⟩
  have oj:=(q4.gj i j).mono (show 201+101 * j<=1000 by lia)
  obtain ⟨of,ot⟩:True/\True:=⟨trivial,trivial⟩
  refine ⟨_,rfl,_,rfl,a,_,dx,_,_,rfl,s2 _ _ ha,T.aE,T.d8,my ..,_,rfl,.inr ⟨_,.inl (s2 _ _ gX)⟩,_,rfl,_,rfl,mS,λ kp zd=>?_⟩
  have s3:=ai (o:=.tup [aq i,.int (0+(j:Int))]) zd
  have pj:(upd H2 kp (.tup [aq i,.int (0+(j:Int))])) kp=some (.tup ((fW i j).map kV)):=by rw [ah,aaz];rfl
  refine ⟨_,gS.t (s3 _ _ (s2 _ _ gX)) pj,?_⟩
  have dfl:Dn K (upd H2 kp (.tup [aq i,.int (0+(j:Int))])) (ek (m.fo i j)) ((ge aN (fW i j)).getD (.ref Ad.kK)):=by
    have:=(aR.same (s2.trans s3) hh).ex
    have q:=df i j
    refine Dn.same (s2.trans s3) _ (Dc q (T.lH.fr (f:=(0,1))))
  obtain ⟨pf1,ef1,hf1⟩:=dfl.fr
  have LC:=q4.fo i j
  rw [ef1]
  refine ⟨u,pf1,_,_,_,_,rfl,bS.of (s3 _ _ hu),hf1,oj.p,LC.p,oj.t,oj.b,LC.t.mono (by decide),LC.b.mono (by decide),λ q r u' H4 F s4 MZ=>?_⟩
  refine ⟨s2.trans (s3.trans s4),u',_,?_,rfl⟩
  have:=F.nf (ae7 oj.p LC.p)
  rw [MZ,ap.ku]
  unfold nN
  rw [← this]
 . rintro U H2 ⟨s2,u,x,hu,rfl⟩
   exact ⟨_,rfl,k _ H2 s2 (hV (bS.of hu))⟩
theorem lF (T:Txt K mg Ad):jb P w K mg base Ad.aY "share" 5 ["self","into","of"] [] (GR K Ad.aY):=by
 refine T.v6.iq tU λ f bB A outer s H vs Q E hr h=>?_
 obtain ⟨a,fp,m,i,j,rfl,hh,hi,hj,k⟩:=h
 refine ⟨_,(ag (br (aX (pv 0) T.aE (bQ (K:=K) T) .nil hr.m (aa (pv 1) ac)))
     (ag (br (aX (pv 0) T.aE (bQ (K:=K) T) .nil hr.m (aa (pv 2) ac)))
     (ag (aU (aJ gB (pv 1) (pv 2) (aL _)) (am (aH (aX (pv 0) T.aE (i4 (K:=K) T) .nil hr.m (aa (pv 1) ac)))) aI)
     (am (aH (zK (b5 hr) (bC (pv 0) rfl) (aV (aa (pv 1) (aa (pv 2) ac))) (bM (v:=V.ref _) rfl T.i7 rfl) ⟨rfl,rfl,rfl,rfl⟩)))))),?_⟩
 try dsimp only [d9,aT]
 first|(refine d5 ?_;intro _ _ _ _ _)|skip
 obtain ⟨⟨dx,pm,pf,ps,pt,vm,vs,vt,aN,pP,ha,iM,dI,gX,ft,c8,n1,n2,n3,dm,ds,dt,df,fk⟩,q1,q2,q3,q4⟩:=id hh
 refine ⟨_,rfl,a,dx,_,rfl,ha,rfl,_,rfl,a,fp,m,i,rfl,hh,hi,⟨_,rfl,a,dx,_,rfl,ha,rfl,_,rfl,a,fp,m,j,rfl,hh,hj,?_⟩⟩
 refine ⟨_,rfl,_,rfl,rfl,_,rfl,?_⟩
 by_cases uW:i=j
 . subst uW
   refine oP rfl ⟨_,rfl,a,dx,_,rfl,ha,rfl,_,rfl,a,fp,m,i,rfl,hh,hi,λ v H' s' dv=>k v H' s' ?_⟩
   rw [ap.share,abl rfl];exact dv
 .
  refine ny (λ e=>uW (by have:=eK.mp e;lia)) ?_
  refine ⟨_,rfl,a,_,dx,_,_,rfl,ha,T.aE,T.d8,my ..,_,rfl,.inr ⟨_,.inl gX⟩,_,rfl,_,rfl,mS,λ kp zd=>?_⟩
  have s3:=ai (o:=.tup [aq i,aq j]) zd
  have pj:(upd H kp (.tup [aq i,aq j])) kp=some (.tup ((fW i j).map kV)):=by rw [ah];rfl
  refine ⟨_,gS.t (s3 _ _ gX) pj,k _ _ s3 ?_⟩
  rw [ap.share,aa8 uW]
  exact Dn.same s3 _ (Dc (df i j) (T.lH.fr (f:=(0,1))))
theorem gw (T:Txt K mg Ad):jb P w K mg base Ad.aY "look_at_share" 5 ["self","room","share","former"] [] (Ji K Ad.aY):=by
 refine T.ly.iq gH λ f bB A outer s H vs Q E hr h=>?_
 obtain ⟨a,fp,m,i,v1,v2,f,g,rfl,hh,hi,d1,d2,o1,o2,hf,hu,k⟩:=h
 refine ⟨_,(ag (az (i:=4) gH.nd rfl (lc rfl) (ak (J3 (K:=K) T) hr.m (aa (aX (pv 0) T.aE (i4 (K:=K) T) .nil hr.m (aa (pv 1) ac)) (aa (pv 3) ac))))
     (am (aU (PW.pt (io (bK (ak (gr (K:=K) T) hr.m (aa (pv 2) (aa (bM (v:=V.ref _) rfl T.i7 rfl) ac)))) (gR (bK (ak (gr (K:=K) T) hr.m (aa (pv 4) (aa (pv 2) ac))))))) (am cL) aI))),?_⟩
 try dsimp only [d9,aT]
 obtain ⟨⟨dx,pm,pf,ps,pt,vm,vs,vt,aN,pP,ha,iM,dI,gX,ft,c8,n1,n2,n3,dm,ds,dt,df,fk⟩,q1,q2,q3,q4⟩:=id hh
 obtain ⟨p1,rfl,hp1⟩:=d1.fr
 obtain ⟨p2,rfl,KY⟩:=d2.fr
 refine ⟨_,rfl,a,dx,_,rfl,ha,rfl,_,rfl,a,fp,m,i,rfl,hh,hi,λ v H1 s1 dv=>⟨_,rfl,?_⟩⟩
 obtain ⟨p3,rfl,KZ⟩:=dv.fr
 have oo:eA 800 (m.own i):=(q4.gj i _).mono (by lia)
 refine ⟨p3,p2,_,_,_,_,rfl,KZ,s1.tup KY,oo.p,o2.p,oo.t.mono (by decide),oo.b.mono (by decide),o2.t.mono (by decide),o2.b.mono (by decide),λ q r u H2 F s2 W2=>?_⟩
 have e0:(q,r)=lq (m.own i) g:=F.nf (ae7 oo.p o2.p)
 have op:eA 950 (lq (m.own i) g):=(oo.plus o2).mono (by decide)
 rw [← e0] at op hu
 refine ⟨_,rfl,p1,Ad.kK,_,_,_,_,rfl,s2.tup (s1.tup hp1),T.lH.at _,o1.t.mono (by decide),o1.b.mono (by decide),mT,mT,_,rfl,ny (by lia) ?_⟩
 refine ⟨_,rfl,_,rfl,u,p1,_,_,_,_,rfl,bS.of W2,s2.tup (s1.tup hp1),op.t.mono (by decide),op.b.mono (by decide),o1.t.mono (by decide),o1.b.mono (by decide),_,rfl,ny (apX hu) (k _ (s1.trans s2))⟩
theorem gu (T:Txt K mg Ad):jb P w K mg base Ad.aY "put_flow" 6 ["self","into","of","share"] [] (yn K Ad.aY):=by
 refine T.qI.iq pD λ f bB A outer s H vs Q E hr h=>?_
 obtain ⟨a,fp,m,i,j,v,f,rfl,hh,hi,hj,uW,dv,o1,hf,hu,k⟩:=h
 refine ⟨_,(ag (br (aX (pv 0) T.aE (bQ (K:=K) T) .nil hr.m (aa (pv 1) ac)))
     (ag (br (aX (pv 0) T.aE (bQ (K:=K) T) .nil hr.m (aa (pv 2) ac)))
     (ag (aU (aJ gB (pv 1) (pv 2) (aL _)) (am cL) aI)
     (ag (br (aX (pv 0) T.aE (gw (K:=K) T) .nil hr.m (aa (pv 1) (aa (pv 3) (aa (aX (pv 0) T.aE (lF (K:=K) T) .nil hr.m (aa (pv 1) (aa (pv 2) ac))) ac)))))
     (am (vI (b5 hr) (bC (pv 0) rfl) (aV (aa (pv 1) (aa (pv 2) ac))) (pv 3) rfl)))))),?_⟩
 try dsimp only [d9,aT]
 first|(refine jM ?_;intro _ _ _ _ _ _)|skip
 obtain ⟨⟨dx,pm,pf,ps,pt,vm,vs,vt,aN,pP,ha,iM,dI,gX,ft,c8,n1,n2,n3,dm,ds,dt,df,fk⟩,q1,q2,q3,q4⟩:=id hh
 refine ⟨_,rfl,a,dx,_,rfl,ha,rfl,_,rfl,a,fp,m,i,rfl,hh,hi,⟨_,rfl,a,dx,_,rfl,ha,rfl,_,rfl,a,fp,m,j,rfl,hh,hj,?_⟩⟩
 refine ⟨_,rfl,_,rfl,rfl,_,rfl,ny (λ e=>uW (by have:=eK.mp e;lia)) ?_⟩
 refine ⟨_,rfl,a,dx,_,rfl,ha,rfl,_,rfl,_,rfl,_,rfl,a,dx,_,rfl,ha,rfl,_,rfl,_,rfl,a,fp,m,i,j,rfl,hh,hi,hj,λ z H1 s1 dz=>?_⟩
 rw [ap.share,aa8 uW] at dz
 refine ⟨a,fp,m,i,v,z,f,_,rfl,hh.same s1,hi,Dn.same s1 _ dv,dz,o1,q4.fo i j,hf,hu,λ H2 s2=>?_⟩
 have s12:=s1.trans s2
 refine ⟨_,rfl,_,rfl,a,_,dx,_,_,rfl,s12 _ _ ha,T.aE,T.d8,my ..,_,rfl,_,rfl,mS,λ kp zd=>?_⟩
 have s3:=ai (o:=.tup [aq i,aq j]) zd
 have pj:(upd H2 kp (.tup [aq i,aq j])) kp=some (.tup ((fW i j).map kV)):=by rw [ah];rfl
 have sA:=s12.trans s3
 refine ⟨_,_,rfl,xa.t (sA _ _ gX) pj (afX fk.len (by decide)),k _ fp (DJ hh sA ha gX (by lia) (by lia) (Dn.same sA _ dv) o1)⟩
theorem jY (T:Txt K mg Ad):jb P w K mg base Ad.aY "put_sky" 6 ["self","room","share","low","high"] [] (BR K Ad.aY):=by
 refine T.sG.iq qF λ f bB A outer s H vs Q E hr h=>?_
 obtain ⟨a,fp,m,i,v1,v2,v3,f,lo,hi,rfl,hh,JC,d1,d2,d3,o1,o2,o3,hlh,hf,hu,k⟩:=h
 refine ⟨_,(ag (br (aX (pv 0) T.aE (bQ (K:=K) T) .nil hr.m (aa (pv 1) ac)))
     (ag (aU (bK (ak (gr (K:=K) T) hr.m (aa (pv 4) (aa (pv 3) ac)))) (am cL) aI)
     (ag (br (aX (pv 0) T.aE (gw (K:=K) T) .nil hr.m (aa (pv 1) (aa (pv 2) (aa (ay au (ay au (bC (pv 0) rfl) (pv 1) (λ _ _=>rfl)) af (λ _ _=>rfl)) ac)))))
     (am (jF (aV (aa (pv 2) (aa (pv 3) (aa (pv 4) ac)))) (wL (bC (pv 0) rfl) (pv 1) set_list)))))),?_⟩
 try dsimp only [d9,aT]
 first|(refine d5 ?_;intro _ _ _ _ _)|skip
 obtain ⟨⟨dx,pm,pf,ps,pt,vm,vs,vt,aN,pP,ha,iM,dI,gX,ft,c8,n1,n2,n3,dm,ds,dt,df,fk⟩,q1,q2,q3,q4⟩:=id hh
 obtain ⟨p2,rfl,KY⟩:=d2.fr
 obtain ⟨p3,rfl,KZ⟩:=d3.fr
 have hi1:i<m.bw.length:=by rw [q1];exact JC
 have hz:=av hi1
 obtain ⟨v,ev,dv⟩:=ds.get (i:=i) (d:=o5 m.bw[i]) (by rw [RS,hz];rfl)
 obtain ⟨p0,w1,w2,w3,rfl,Dq,e1,e2,e3⟩:=dv.dE
 have es:m.bw[i].1=m.eV i:=by unfold ap.eV;rw [hz];rfl
 rw [es] at e1
 refine ⟨_,rfl,a,dx,_,rfl,ha,rfl,_,rfl,a,fp,m,i,rfl,hh,JC,?_⟩
 refine ⟨_,rfl,_,rfl,p3,p2,_,_,_,_,rfl,KZ,KY,o3.t.mono (by decide),o3.b.mono (by decide),o2.t.mono (by decide),o2.b.mono (by decide),_,rfl,ny (apX hlh) ?_⟩
 refine ⟨_,rfl,a,dx,_,rfl,ha,rfl,_,rfl,_,rfl,_,rfl,a,_,dx,_,_,rfl,ha,T.aE,T.cW,iP ..,_,rfl,_,_,_,_,rfl,rfl,.inl (bg.of ft),gx ev,_,_,_,_,rfl,rfl,.inr Dq,rfl,?_⟩
 refine ⟨a,fp,m,i,v1,w1,f,_,rfl,hh,JC,d1,e1,o1,q4.eV i,hf,hu,λ H2 s2=>?_⟩
 refine ⟨_,rfl,_,rfl,_,rfl,CO,λ kp zd=>?_⟩
 have s3:=ai (o:=.tup [v1,.ref p2,.ref p3]) zd
 have sA:=s2.trans s3
 have hl:vs.length=m.bw.length:=by rw [ds.length,At]
 refine ⟨_,rfl,a,_,dx,_,_,rfl,sA _ _ ha,T.aE,T.cW,iP ..,_,rfl,ps,vs,_,i,rfl,rfl,sA _ _ ft,CH (by lia),k _ fp (G8 hh sA ha ft (G6 (bS.of ah) (Dn.same sA _ d1) (Dn.same sA _ d2) (Dn.same sA _ d3)) ⟨o1,o2,o3⟩)⟩
theorem nX (T:Txt K mg Ad):Wk P w K mg base Ad.aY "put_stove" "Hold.put_stove" cG (.ref Ad.gP) 4 ["self","room","heat","wood","stay","fails"] (oE K Ad.aY):=by
 refine T.ph.mok n6 (λ vs H Q E h=>?_) (λ f _ _ _ s H vs Q E hr h=>?_)
 . obtain ⟨a,fp,m,i,v,f,w1,st,fl,rfl,_⟩:=h
   rfl
 .
  obtain ⟨a,fp,m,i,v,f,w1,st,fl,rfl,hh,hi,dv,o1,hf,hw,gE,Cv,k⟩:=h
  refine ⟨_,(ag (br (aX (pv 0) T.aE (bQ (K:=K) T) .nil hr.m (aa (pv 1) ac)))
    (ag (aU (bK (ak (gr (K:=K) T) hr.m (aa (pv 2) (aa (bM (v:=V.ref _) rfl T.i7 rfl) ac)))) (am cL) aI)
    (ag (aU (cS (bK (ak (cZ (K:=K) T) hr.m (aa (pv 3) (aa (fD rfl T.xZ) ac))))) (am cL) aI)
    (ag (aU (cS (bK (ak (cZ (K:=K) T) hr.m (aa (pv 4) (aa (fD rfl T.yJ) ac))))) (am cL) aI)
    (ag (aU (cS (bK (ak (cZ (K:=K) T) hr.m (aa (pv 5) (aa (fD rfl T.ww) ac))))) (am cL) aI)
    (am (jF (aV (aa (pv 2) (aa (pv 3) (aa (pv 4) (aa (pv 5) ac))))) (wL (bC (pv 0) rfl) (pv 1) set_list)))))))),?_⟩
  try dsimp only [d9,aT]
  first|(refine jN ?_;intro _ _ _ _ _ _ _)|skip
  obtain ⟨⟨dx,pm,pf,ps,pt,vm,vs,vt,aN,pP,ha,iM,dI,gX,ft,c8,n1,n2,n3,dm,ds,dt,df,fk⟩,q1,q2,q3,q4⟩:=id hh
  obtain ⟨p,rfl,hp⟩:=dv.fr
  refine ⟨_,rfl,a,dx,_,rfl,ha,rfl,_,rfl,a,fp,m,i,rfl,hh,hi,?_⟩
  refine ⟨_,rfl,p,Ad.kK,_,_,_,_,rfl,hp,T.lH.at _,o1.t.mono (by decide),o1.b.mono (by decide),mT,mT,_,rfl,ny (by lia) ?_⟩
  refine ⟨_,rfl,w1,9,rfl,_,rfl,cY hw ⟨_,rfl,st,3,rfl,_,rfl,cY gE ⟨_,rfl,fl,3,rfl,_,rfl,cY Cv ?_⟩⟩⟩
  refine ⟨_,rfl,_,rfl,_,rfl,_,rfl,Ob,λ kp zd=>?_⟩
  have sA:=ai (o:=.tup [.ref p,.int w1,.int st,.int fl]) zd
  have hl:vt.length=m.aF.length:=by rw [dt.length,At]
  exact ⟨_,rfl,a,_,dx,_,_,rfl,sA _ _ ha,T.aE,T.dQ,k7 ..,_,rfl,pt,vt,_,i,rfl,rfl,sA _ _ c8,CH (by lia),k _ fp (BD (z:=(f,w1,st,fl)) hh sA ha c8 (gO (bS.of ah) (bU (Dn.same sA _ dv) (bU rfl (bU rfl (bU rfl ic))))) o1)⟩
theorem ia (T:Txt K mg Ad):xP P w K mg base Ad.aY "put_stove" 4 ["self","room","heat","wood","stay","fails"] [] (oE K Ad.aY) :=
 (nX T).Kx T.pO λ items hv=>by
   obtain ⟨u1,u2,u3,rfl,r1,r2,r3⟩:=vals3 hv
   exact ⟨[],.nil,λ _ _ _ _ _ _ us hl=>match us,hl with | [_,_,_,_,_,_],_=>⟨_,rfl,rfl⟩⟩
theorem oK (T:Txt K mg Ad):Def P w K mg base "bands_together" 1 ["rows"] (Fn K):=by
 refine T.pC.cM eM λ f bB A outer s H vs Q E hr h=>?_
 obtain ⟨p,xs,rs,rfl,hq,hd,hl,zY,k⟩:=h
 refine ⟨_,(ag (az (i:=1) eM.nd rfl (lc rfl) af)
     (ag (dO ad4 rfl (fL (pv 0)) (aK (i:=2) eM.nd rfl (lc rfl)) (am (az (i:=1) eM.nd rfl (lc rfl) (ax bf (pv 1) (ax cO (aO bv (by rfl) T.dS cJ (aa (pv 2) ac)) af)))))
     (am (aH (pv 1))))),?_⟩
 try dsimp only [d9,aT]
 first|(refine fF ?_;intro _ _ _ _)|skip
 have O4:xs.length=rs.length:=by rw [hd.length,At]
 refine ⟨_,rfl,p,rfl,⟨xs,hq⟩,?_⟩
 refine vg (xs:=xs) (λ i U H'=>H'=H/\∃ (x:Option V),Bd (1+3 * i) (kG (rs.take i))/\U=[some (.ref p),some (.int (kG (rs.take i))),x]) ⟨rfl,none,(by show Bd 1 (kG []);exact mT),rfl⟩ (λ i U H' _ e=>by rw [e.1];exact hq) ?_ ?_
 .
  rintro _ i x U H' hx ⟨rfl,y,hb,rfl⟩
  have hi:i<rs.length:=by rw [← O4];exact (List.getElem?_eq_some_iff.mp hx).1
  obtain ⟨v,ev,b,ys,rfl,Ig,dv⟩:=hd.get (i:=i) (d:=tZ rs[i]) (by rw [RS,av hi];rfl)
  obtain rfl:x = .ref b:=aaU (hx.symm.trans ev)
  have hlen:=zY rs[i] (aaA hi)
  have el:ys.length=rs[i].length:=by rw [dv.length,At]
  refine ⟨_,rfl,_,rfl,_,_,rfl,.inr Ig,λ n en=>⟨_,_,rfl,rfl,λ u eu=>⟨_,_,rfl,rfl,?_,λ z ez=>?_⟩⟩⟩
  . exact ⟨_,3,hb,(show u.natAbs<2 ^ 3 by lia),(show 1+3 * i+3<=_ by lia)⟩
  .
   have e1:z=kG (rs.take (i+1)):=by
     rw [ez,eu,en,el]
     unfold kG
     rw [amE,av hi,ai6];rfl
   refine ⟨rfl,_,?_,by rw [← e1];rfl⟩
   rw [← e1,ez]
   exact (hb.mul (show u.natAbs<2 ^ 3 by lia)).mono (by lia)
 .
  rintro U H' ⟨rfl,y,hb,rfl⟩
  refine ⟨_,rfl,?_⟩
  rw [O4,agc]
  exact k
theorem vB (T:Txt K mg Ad):Def P w K mg base "is_rising" 2 ["marks"] (DS K):=by
 refine T.xS.cM wV λ f bB A outer s H vs Q E hr h=>?_
 obtain ⟨p,xs,r,rfl,hq,hd,ho,hl,k⟩:=h
 refine ⟨_,(am (aH (aO (vf rfl) (by rfl) T.LH Ft (aa (lS ["low","high"] [] [] .nil rfl (N2 rfl T.U7 (aa (pv 0) (aa (mh vU (pv 0) (kX af) vJ) ac))) (λ _ _ _ _ _=>(fP (K:=K) (n:=2) rfl rfl (bj (aK (i:=0) (show (["low","high"]:List Str).Nodup by decide +kernel) rfl (lc rfl)) (bj (aK (i:=1) (show (["low","high"]:List Str).Nodup by decide +kernel) rfl (lc rfl)) fG)))) (λ _ _ _ _ _=>fM) (λ _ _ _ _ _=>(ak (gr (K:=K) T) hr.m (aa (pv 0) (aa (pv 1) ac)))) rfl (by decide +kernel) (by decide +kernel) (by decide +kernel)) ac)))),?_⟩
 try dsimp only [d9,aT]
 refine ⟨_,rfl,_,rfl,1,rfl,p,xs,rfl,hq,λ p2 KY=>?_⟩
 have s2:=ai (o:=.lst (pR xs (some 1) none)) KY
 rw [HB] at s2 ⊢
 have O4:xs.length=r.length:=by rw [hd.length,At]
 refine ⟨p,p2,rfl,⟨xs,s2.seq hq⟩,⟨xs.tail,bg.of ah⟩,λ D hD=>?_⟩
 have hml:min xs.length xs.tail.length=(List.zipWith bE r r.tail).length:=by rw [List.length_zipWith,List.length_tail,List.length_tail,O4]
 refine Gz (K:=K) (a:=p) (b:=p2) (xs:=xs) (ys:=xs.tail) (λ i acc U H'=>A4 (aB (upd H p2 (.lst xs.tail)) H') (H' D=some (.lst acc)) (acc=((List.zipWith bE r r.tail).take i).map V.bl) (E2 λ v0 v1=>U=[v0,v1]))
   ⟨ai hD,ah,rfl,none,none,rfl⟩ (λ i acc U H' _ e=>⟨e.1.seq (s2.seq hq),e.1.seq (bg.of ah)⟩) ?_ ?_
 .
  rintro i x y pp acc U H' hx hy xi ⟨s3,i9,rfl,v0,v1,rfl⟩
  rw [aoS] at hy
  have h1:i+1<r.length:=by rw [← O4];exact (List.getElem?_eq_some_iff.mp hy).1
  obtain ⟨u,eu,du⟩:=hd.get (i:=i) (d:=ek r[i]) (by rw [RS,av (by lia)];rfl)
  obtain rfl:x=u:=aaU (hx.symm.trans eu)
  obtain ⟨v,ev,dv⟩:=hd.get (i:=i+1) (d:=ek r[i+1]) (by rw [RS,av h1];rfl)
  obtain rfl:y=v:=aaU (hy.symm.trans ev)
  obtain ⟨a1,rfl,g1⟩:=du.fr
  obtain ⟨a2,rfl,g2⟩:=dv.fr
  have o1:=ho r[i] (aaA _)
  have o2:=ho r[i+1] (aaA _)
  have s4:aB H' (upd H' pp (.tup [.ref a1,.ref a2])):=ai xi
  have s5:=s2.trans (s3.trans s4)
  have nD:D≠pp:=aC i9 xi
  refine ⟨pp,_,rfl,bS.of ah,rfl,_,_,rfl,_,_,rfl,rfl,?_⟩
  refine ⟨_,rfl,_,rfl,a1,a2,_,_,_,_,rfl,s5.tup g1,s5.tup g2,o1.t.mono (by decide),o1.b.mono (by decide),o2.t.mono (by decide),o2.b.mono (by decide),?_⟩
  have hb:=Aw (av (show i<r.length by lia)) (av h1)
  refine ⟨by rw [aD nD];exact i9,?_,aB.put (s3.trans s4) hD,ah,?_,_,_,rfl⟩
  . rw [At,abX]
    have:(7:Nat)<sizeLine:=by decide
    rw [← hml]
    lia
  . rw [amE,hb,YC]
    rfl
 . rintro acc U H' ⟨s3,i9,rfl,v0,v1,rfl⟩
   rw [hml,agc] at i9
   exact ⟨D,_,rfl,bg.of i9,k _ (s2.trans s3)⟩
theorem oA (T:Txt K mg Ad):jb P w K mg base Ad.aY "put_room" 3 ["self","marks"] [] (xL K Ad.aY):=by
 refine T.qN.iq jR λ f bB A outer s H vs Q E hr h=>?_
 obtain ⟨a,fp,m,p,xs,r,rfl,hh,h4,hq,hd,ho,hl2,YO,RP,hb,k⟩:=h
 refine ⟨_,(ag (aU (aJ Me (cP (pv 0) T.aE (cw (K:=K) T) .nil hr.m) (fD rfl T.wA) (aL _)) (am cL) aI)
     (ag (aU (cS (hR fX fX (fD rfl T.tQ) (aO bv (by rfl) T.dS cJ (aa (pv 1) ac)) (fD rfl T.vQ))) (am cL) aI)
     (ag (aU (cS (bK (ak (vB (K:=K) T) hr.m (aa (pv 1) ac)))) (am cL) aI)
     (ag (az (i:=2) jR.nd rfl (lc rfl) (ax FX (bC (pv 0) rfl) (dB (aa (cH dC (by rfl) T.gW fC (aa (pv 1) ac)) ac))))
     (ag (aU (aJ lY (ak (oK (K:=K) T) hr.m (aa (pv 2) ac)) (fD rfl T.xh) (aL _)) (am cL) aI)
     (ag (eR (pv 0) (pv 2) rfl)
     (ag (br (j1 adL adq adc cN (bC (pv 0) rfl) (aa (aV (aa (bM (v:=V.ref _) rfl T.i7 rfl) (aa (bM (v:=V.ref _) rfl T.i7 rfl) (aa (bM (v:=V.ref _) rfl T.i7 rfl) ac)))) ac)))
     (ag (br (j1 adL adq adc cN (bC (pv 0) rfl) (aa b9 ac)))
     (am (aH (ax cO (cP (pv 0) T.aE (cw (K:=K) T) .nil hr.m) af))))))))))),?_⟩
 try dsimp only [d9,aT]
 first|(refine rS ?_;intro _ _ _ _ _ _ _ _ _ _)|skip
 obtain ⟨⟨dx,pm,pf,ps,pt,vm,vs,vt,aN,pP,ha,iM,dI,gX,ft,c8,n1,n2,n3,dm,ds,dt,df,fk⟩,q1,q2,q3,q4⟩:=id hh
 have O4:xs.length=r.length:=by rw [hd.length,At]
 have lm:vm.length=m.rows.length:=by rw [dm.length,At]
 have ls:vs.length=m.bw.length:=by rw [ds.length,At]
 have lt:vt.length=m.aF.length:=by rw [dt.length,At]
 have szl:(7:Nat)<sizeLine:=by decide
 refine ⟨_,rfl,a,dx,_,rfl,ha,rfl,a,fp,m,rfl,hh,_,_,rfl,rfl,_,rfl,ny (by lia) ?_⟩
 refine ⟨_,rfl,_,_,rfl,.inl hq,λ n en=>⟨_,_,rfl,rfl,_,rfl,oP (by lia) ⟨_,_,rfl,rfl,_,rfl,cY (by lia) ?_⟩⟩⟩
 refine ⟨_,rfl,p,xs,r,rfl,hq,hd,ho,YO,λ H1 s1=>⟨_,rfl,?_⟩⟩
 rw [RP]
 refine dF ?_
 refine ⟨_,rfl,a,_,dx,_,_,rfl,s1 _ _ ha,T.aE,T.cA,oZ ..,_,rfl,p,xs,rfl,.inl ⟨s1.seq hq,λ kt Yh=>⟨OR,λ kl hkl=>?_⟩⟩⟩
 have s2:=s1.trans (ai (o:=.tup xs) Yh)
 have s3:=s2.trans (ai (o:=.lst [.ref kt]) hkl)
 refine ⟨pm,kl,vm,[.ref kt],rfl,rfl,s3 _ _ dI,ah,by rw [alS];lia,λ p3 KZ=>?_⟩
 have s3':aB (upd H1 kt (.tup xs)) _:=(ai (o:=.lst [.ref kt]) hkl).trans (ai (o:=.lst (vm++[.ref kt])) KZ)
 have s4:=s3.trans (ai (o:=.lst (vm++[.ref kt])) KZ)
 have dr:Dn K (upd (upd (upd H1 kt (.tup xs)) kl (.lst [.ref kt])) p3 (.lst (vm++[.ref kt]))) (tZ r) (.ref kt):=gO (bS.of (s3' _ _ ah)) (cf.same s4 _ hd)
 refine ⟨_,rfl,p3,_,m.rows++[r],rfl,bg.of ah,?_,by rw [aas,alS];lia,?_,_,_,rfl,rfl,_,rfl,ny (by lia) ?_⟩
 . rw [YC]
   exact (cf.same s4 _ dm).snoc dr
 .
  intro x hx
  rcases List.mem_append.mp hx with h|h
  . have:=q4.len x h;lia
  . rw [List.mem_singleton.mp h];lia
 refine ⟨_,rfl,_,rfl,a,_,dx,_,rfl,s4 _ _ ha,T.aE,T.cA,lt1000 rfl,?_⟩
 have O8:H p3=none:=s3.free KZ
 have x3a:p3≠a:=(aC ha O8).symm
 refine ⟨_,rfl,a,_,dx,_,_,rfl,ah,T.aE,T.cW,iP ..,?_⟩
 have T5:=bD ft ha nofun
 have Yp:=bD c8 ha nofun
 have g1:=(aD (H:=upd (upd (upd H1 kt (.tup xs)) kl (.lst [.ref kt])) p3 (.lst (vm++[.ref kt]))) (o:=.ins Ad.aY dx (bN "mark_rows" (.ref p3) (l6 m pm pf ps pt))) T5).trans (s4 _ _ ft)
 have g2:=(aD (H:=upd (upd (upd H1 kt (.tup xs)) kl (.lst [.ref kt])) p3 (.lst (vm++[.ref kt]))) (o:=.ins Ad.aY dx (bN "mark_rows" (.ref p3) (l6 m pm pf ps pt))) Yp).trans (s4 _ _ c8)
 refine ⟨.inl ⟨rfl,vs,bg.of g1⟩,CO,λ q0 Dq=>?_⟩
 have s5:=ai (o:=.tup [.ref Ad.kK,.ref Ad.kK,.ref Ad.kK]) Dq
 refine ⟨ps,vs,_,rfl,rfl,s5 _ _ g1,by lia,?_⟩
 have g3:=(aD (o:=.lst (vs++[.ref q0])) n3.symm).trans (s5 _ _ g2)
 have g4:=(aD (o:=.lst (vs++[.ref q0])) T5.symm).trans (s5 _ _ ah)
 refine ⟨_,rfl,a,_,dx,_,_,rfl,g4,T.aE,T.dQ,k7 ..,.inl ⟨rfl,vt,bg.of g3⟩,pt,vt,_,rfl,rfl,g3,by lia,?_⟩
 obtain ⟨pd,D⟩:=D0 (N:=Ad.kK) (r:=r) hh s4 ha dI ft c8 O8 ah dr h4 ho ⟨hl2,YO⟩ (λ H'=>T.lH.fr (f:=(0,1))) Dq
 obtain ⟨⟨uZ,EI,xq,qA,rj,_,_,_,_,_,ha5,_⟩,_⟩:=id D.at_
 refine ⟨_,rfl,a,uZ,_,rfl,ha5,rfl,a,pd,_,rfl,D.at_,_,_,rfl,rfl,λ z ez=>?_⟩
 have e:z=(m.rows.length:Int):=by
   rw [ez]
   show (((m.rows++[r]).length:Nat):Int) - 1=_
   rw [aas,alS];lia
 rw [e]
 exact k _ pd D
theorem pL (T:Txt K mg Ad):Wk P w K mg base Ad.aY "__init__" "Hold.__init__" cQ (.ref Ad.ie) 2 ["self","most","cap","load"] (CM K Ad.aY):=by
 refine T.qH.mok pE (λ vs H Q E h=>?_) (λ f _ _ _ s H vs Q E hr h=>?_)
 . obtain ⟨x,dx,most,iU,load,rfl,_⟩:=h
   rfl
 .
  obtain ⟨x,dx,most,iU,load,rfl,hx,iM,hm,hc,hl,k⟩:=h
  refine ⟨_,(ag (aU (cS (bK (ak (cZ (K:=K) T) hr.m (aa (pv 1) (aa (fD rfl T.tj) ac))))) (am cL) aI)
    (ag (aU (cS (bK (ak (cZ (K:=K) T) hr.m (aa (pv 2) (aa (fD rfl T.AY) ac))))) (am cL) aI)
    (ag (aU (cS (bK (ak (cZ (K:=K) T) hr.m (aa (pv 3) (aa (fD rfl T.zf) ac))))) (am cL) aI)
    (ag (eR (pv 0) (pv 1) rfl)
    (ag (eR (pv 0) (pv 2) rfl)
    (ag (eR (pv 0) (pv 3) rfl)
    (ag (eR (pv 0) (dB ac) rfl)
    (ag (eR (pv 0) xF rfl)
    (ag (eR (pv 0) (dB ac) rfl)
    (am (eR (pv 0) (dB ac) rfl))))))))))),?_⟩
  try dsimp only [d9,aT]
  first|(refine D3 ?_;intro _ _ _ _ _ _ _ _ _ _ _)|skip
  refine ⟨_,rfl,most,4,rfl,_,rfl,cY hm ⟨_,rfl,iU,30,rfl,_,rfl,cY hc ⟨_,rfl,load,30,rfl,_,rfl,cY hl ?_⟩⟩⟩
  have B0:jW K Ad.aY x dx H H []:=.start hx
  refine ⟨_,rfl,_,rfl,x,_,dx,_,rfl,B0.at_,T.aE,T.ix,lt1000 rfl,?_⟩
  have B1:=B0.put (fs':=bN "most" (.int most) [])
  refine ⟨_,rfl,_,rfl,x,_,dx,_,rfl,B1.at_,T.aE,T.jk,lt1000 rfl,?_⟩
  have B2:=B1.put (fs':=bN "cap" (.int iU) (bN "most" (.int most) []))
  refine ⟨_,rfl,_,rfl,x,_,dx,_,rfl,B2.at_,T.aE,T.kM,lt1000 rfl,?_⟩
  have B3:=B2.put (fs':=bN "load" (.int load) (bN "cap" (.int iU) (bN "most" (.int most) [])))
  refine ⟨afh _,λ p1 f1=>?_⟩
  have B4:=B3.new (o:=.lst []) f1
  refine ⟨_,rfl,x,_,dx,_,rfl,B4.at_,T.aE,T.cA,lt1000 rfl,λ p2 f2=>?_⟩
  have B5:=B4.put (fs':=bN "mark_rows" (.ref p1) (bN "load" (.int load) (bN "cap" (.int iU) (bN "most" (.int most) []))))
  have B6:=B5.new (o:=.dT []) f2
  refine ⟨_,rfl,x,_,dx,_,rfl,B6.at_,T.aE,T.d8,lt1000 rfl,afh _,λ p3 f3=>?_⟩
  have B7:=B6.put (fs':=bN "flows" (.ref p2) (bN "mark_rows" (.ref p1) (bN "load" (.int load) (bN "cap" (.int iU) (bN "most" (.int most) [])))))
  have B8:=B7.new (o:=.lst []) f3
  refine ⟨_,rfl,x,_,dx,_,rfl,B8.at_,T.aE,T.cW,lt1000 rfl,afh _,λ p4 f4=>?_⟩
  have B9:=B8.put (fs':=bN "skies" (.ref p3) (bN "flows" (.ref p2) (bN "mark_rows" (.ref p1) (bN "load" (.int load) (bN "cap" (.int iU) (bN "most" (.int most) []))))))
  have B10:=B9.new (o:=.lst []) f4
  refine ⟨_,rfl,x,_,dx,_,rfl,B10.at_,T.aE,T.dQ,lt1000 rfl,?_⟩
  have B11:=B10.put (fs':=l6 (ap.new most iU load) p1 p2 p3 p4)
  have h1:=B4.keep (u:=.ins Ad.aY dx (bN "mark_rows" (.ref p1) (bN "load" (.int load) (bN "cap" (.int iU) (bN "most" (.int most) []))))) ah (B3.ne f1)
  have h1a:=B6.keep (u:=.ins Ad.aY dx (bN "flows" (.ref p2) (bN "mark_rows" (.ref p1) (bN "load" (.int load) (bN "cap" (.int iU) (bN "most" (.int most) [])))))) (ai (o:=.dT []) f2 _ _ h1) (B3.ne f1)
  have h2a:=B6.keep (u:=.ins Ad.aY dx (bN "flows" (.ref p2) (bN "mark_rows" (.ref p1) (bN "load" (.int load) (bN "cap" (.int iU) (bN "most" (.int most) [])))))) ah (B5.ne f2)
  have kk:=λ b o (h:_=some o) (n:b≠x)=>B8.keep (b:=b) (u:=.ins Ad.aY dx (bN "skies" (.ref p3) (bN "flows" (.ref p2) (bN "mark_rows" (.ref p1) (bN "load" (.int load) (bN "cap" (.int iU) (bN "most" (.int most) []))))))) h n
  have h1b:=kk _ _ (ai (o:=.lst []) f3 _ _ h1a) (B3.ne f1)
  have h2b:=kk _ _ (ai (o:=.lst []) f3 _ _ h2a) (B5.ne f2)
  have h3b:=kk _ _ ah (B7.ne f3)
  have kl:=λ b o (h:_=some o) (n:b≠x)=>B10.keep (b:=b) (u:=.ins Ad.aY dx (l6 (ap.new most iU load) p1 p2 p3 p4)) h n
  have h1c:=kl _ _ (ai (o:=.lst []) f4 _ _ h1b) (B3.ne f1)
  have h2c:=kl _ _ (ai (o:=.lst []) f4 _ _ h2b) (B5.ne f2)
  have h3c:=kl _ _ (ai (o:=.lst []) f4 _ _ h3b) (B7.ne f3)
  have h4c:=kl _ _ ah (B9.ne f4)
  exact k _ _ (Ga B11 hx iM h1c h2c h3c h4c (B3.none f1) (B5.none f2) (B7.none f3) (B9.none f4) (aC h1a f3) (aC h1b f4) (aC h3b f4))
theorem iu (T:Txt K mg Ad):xP P w K mg base Ad.aY "__init__" 2 ["self","most","cap","load"] [] (CM K Ad.aY) :=
 (pL T).Kx T.qv λ items hv=>by
   obtain ⟨u1,u2,u3,rfl,r1,r2,r3⟩:=vals3 hv
   exact ⟨[],.nil,λ _ _ _ _ _ _ us hl=>match us,hl with | [_,_,_,_],_=>⟨_,rfl,rfl⟩⟩
theorem wG (T:Txt K mg Ad):YK P w K mg base "hold_like" eY (.ref Ad.l5) 4 ["hold","most","cap","load"] (Cq K Ad.aY):=by
 refine T.zL.dok oH (λ vs H Q E h=>?_) (λ f _ _ _ s H vs Q E hr h=>?_)
 . obtain ⟨a,fp,m,x,y,z,rfl,_⟩:=h
   rfl
 .
  obtain ⟨a,fp,m,o1,o2,o3,rfl,hh,hb,k⟩:=h
  refine ⟨_,(ag (az (i:=4) oH.nd rfl (lc rfl) (yX T.C9 (iu (K:=K) T) hr.m T.Hn (aa (sZ (aJ nK (pv 1) b9 (aL _)) (bC (pv 0) rfl) (pv 1)) (aa (sZ (aJ nK (pv 2) b9 (aL _)) (bC (pv 0) rfl) (pv 2)) (aa (sZ (aJ nK (pv 3) b9 (aL _)) (bC (pv 0) rfl) (pv 3)) ac)))))
    (ag (eR (pv 4) (cH gk (by rfl) T.tf nS (aa (bC (pv 0) rfl) ac)) rfl)
    (ag (eR (pv 4) (cH tY (by rfl) T.MD IW (aa (bC (pv 0) rfl) ac)) rfl)
    (ag (eR (pv 4) (cH gk (by rfl) T.tf nS (aa (bC (pv 0) rfl) ac)) rfl)
    (ag (eR (pv 4) (cH gk (by rfl) T.tf nS (aa (bC (pv 0) rfl) ac)) rfl)
    (am (aH (pv 4)))))))),?_⟩
  try dsimp only [d9,aT]
  first|(refine jN ?_;intro _ _ _ _ _ _ _)|skip
  obtain ⟨⟨CN,pm,pf,ps,pt,vm,vs,vt,aN,pP,ha,iM,dI,gX,ft,c8,n1,n2,n3,dm,ds,dt,df,fk⟩,q1,q2,q3,q4⟩:=id hh
  refine BM (o:=o1) (d:=m.most) rfl (λ Q' h=>⟨_,rfl,a,_,CN,_,_,rfl,ha,T.aE,T.ix,rJ ..,h⟩) ?_
  refine BM (o:=o2) (d:=m.iU) rfl (λ Q' h=>⟨_,rfl,a,_,CN,_,_,rfl,ha,T.aE,T.jk,xj ..,h⟩) ?_
  refine BM (o:=o3) (d:=m.load) rfl (λ Q' h=>⟨_,rfl,a,_,CN,_,_,rfl,ha,T.aE,T.kM,zp ..,h⟩) ?_
  intro x dx fx OW R8
  have fx':upd H dx (.own x) x=none:=by rw [aD R8.symm];exact fx
  have s0:aB H (upd (upd H dx (.own x)) x (.ins Ad.aY dx [])):=(ai OW).trans (ai fx')
  refine ⟨x,dx,_,_,_,rfl,ah,by rw [aD R8];exact ah,hb.1,hb.2.1,hb.2.2,λ H1 Y5 D=>⟨rfl,?_⟩⟩
  have s1:aB H H1:=λ b o e=>D.but b o (s0 b o e) λ q=>by
    simp only [abj,aay,ae5] at q
    rcases q with rfl|rfl
    . rw [fx] at e;cases e
    . rw [OW] at e;cases e
  have Nh:∀ b∈Y5,H b=none:=λ b hb=>by
    rcases D.own b hb with q|q
    . simp only [abj,aay,ae5] at q
      rcases q with rfl|rfl
      . exact fx
      . exact OW
    . exact s0.free q
  obtain ⟨⟨Ci,g1,g2,g3,g4,_,_,_,_,anC,NU,R4,_⟩,_⟩:=D.at_
  have agj:H Ci=none:=Nh Ci (by rw [anC];simp)
  have ndx:Ci≠x:=bD R4 NU nofun
  have B0:jW K Ad.aY x Ci H1 H1 (l6 (m.with o1 o2 o3) g1 g2 g3 g4):=.start NU
  refine ⟨_,rfl,a,_,CN,_,_,rfl,s1 _ _ ha,T.aE,T.cA,oZ ..,pm,vm,rfl,.inl (bg.of (s1 _ _ dI)),λ l1 f1=>?_⟩
  have B1:=B0.new (o:=.lst vm) f1
  refine ⟨_,rfl,x,_,Ci,_,rfl,B1.at_,T.aE,T.cA,lt1000 rfl,?_⟩
  have B2:=B1.put (fs':=l6 (m.with o1 o2 o3) l1 g2 g3 g4)
  have k2:∀ b o,H b=some o->_=some o:=λ b o h=>B2.st b o (s1 b o h) (aC h fx)
  have e1:=B1.keep (u:=.ins Ad.aY Ci (l6 (m.with o1 o2 o3) l1 g2 g3 g4)) ah (B0.ne f1)
  refine ⟨_,rfl,a,_,CN,_,_,rfl,k2 _ _ ha,T.aE,T.d8,my ..,pf,aN,rfl,k2 _ _ gX,fk.hash,λ l2 f2=>?_⟩
  have B3:=B2.new (o:=.dT aN) f2
  refine ⟨_,rfl,x,_,Ci,_,rfl,B3.at_,T.aE,T.d8,lt1000 rfl,?_⟩
  have B4:=B3.put (fs':=l6 (m.with o1 o2 o3) l1 l2 g3 g4)
  have k4:∀ b o,H b=some o->_=some o:=λ b o h=>B4.st b o (s1 b o h) (aC h fx)
  have kk4:=λ b o (h:_=some o) (n:b≠x)=>B3.keep (b:=b) (u:=.ins Ad.aY Ci (l6 (m.with o1 o2 o3) l1 l2 g3 g4)) h n
  have e1b:=kk4 _ _ (ai (o:=.dT aN) f2 _ _ e1) (B0.ne f1)
  have e2b:=kk4 _ _ ah (B2.ne f2)
  refine ⟨_,rfl,a,_,CN,_,_,rfl,k4 _ _ ha,T.aE,T.cW,iP ..,ps,vs,rfl,.inl (bg.of (k4 _ _ ft)),λ l3 f3=>?_⟩
  have B5:=B4.new (o:=.lst vs) f3
  refine ⟨_,rfl,x,_,Ci,_,rfl,B5.at_,T.aE,T.cW,lt1000 rfl,?_⟩
  have B6:=B5.put (fs':=l6 (m.with o1 o2 o3) l1 l2 l3 g4)
  have k6:∀ b o,H b=some o->_=some o:=λ b o h=>B6.st b o (s1 b o h) (aC h fx)
  have kk6:=λ b o (h:_=some o) (n:b≠x)=>B5.keep (b:=b) (u:=.ins Ad.aY Ci (l6 (m.with o1 o2 o3) l1 l2 l3 g4)) h n
  have e1c:=kk6 _ _ (ai (o:=.lst vs) f3 _ _ e1b) (B0.ne f1)
  have e2c:=kk6 _ _ (ai (o:=.lst vs) f3 _ _ e2b) (B2.ne f2)
  have e3c:=kk6 _ _ ah (B4.ne f3)
  refine ⟨_,rfl,a,_,CN,_,_,rfl,k6 _ _ ha,T.aE,T.dQ,k7 ..,pt,vt,rfl,.inl (bg.of (k6 _ _ c8)),λ l4 f4=>?_⟩
  have B7:=B6.new (o:=.lst vt) f4
  refine ⟨_,rfl,x,_,Ci,_,rfl,B7.at_,T.aE,T.dQ,lt1000 rfl,?_⟩
  have B8:=B7.put (fs':=l6 (m.with o1 o2 o3) l1 l2 l3 l4)
  have k8:∀ b o,H b=some o->_=some o:=λ b o h=>B8.st b o (s1 b o h) (aC h fx)
  have YD:=λ b o (h:_=some o) (n:b≠x)=>B7.keep (b:=b) (u:=.ins Ad.aY Ci (l6 (m.with o1 o2 o3) l1 l2 l3 l4)) h n
  have e1d:=YD _ _ (ai (o:=.lst vt) f4 _ _ e1c) (B0.ne f1)
  have e2d:=YD _ _ (ai (o:=.lst vt) f4 _ _ e2c) (B2.ne f2)
  have e3d:=YD _ _ (ai (o:=.lst vt) f4 _ _ e3c) (B4.ne f3)
  have e4d:=YD _ _ ah (B6.ne f4)
  have L:=Iw (m':=m.with o1 o2 o3) hh ha dI gX ft c8 s1 ⟨rfl,rfl,rfl,rfl⟩ B8 (B8.st _ _ R4 ndx) e1d e2d e3d e4d (aC e1b f3) (aC e1c f4) (aC e3c f4)
  refine ⟨_,rfl,k x _ _ k8 L λ c hc=>?_⟩
  simp only [abj,aay,ae5] at hc
  rcases hc with rfl|rfl|rfl|rfl|rfl|rfl
  . exact fx
  . exact agj
  . exact s1.free f1
  . exact s1.free (B2.none f2)
  . exact s1.free (B4.none f3)
  . exact s1.free (B6.none f4)
theorem rC (T:Txt K mg Ad):OJ P w K mg base "hold_like" 4 ["hold","most","cap","load"] [.bT,.bT,.bT] (Cq K Ad.aY) :=
 (wG T).anh T.yZ λ items hv=>by
   obtain ⟨u1,u2,u3,rfl,r1,r2,r3⟩:=vals3 hv
   exact ⟨[u1,u2,u3],.cons r1 (.cons r2 (.cons r3 .nil)),λ _ _ _ _ _ _ us hl=>match us,(by simpa using hl:us.length=1) with | [_],_=>⟨_,rfl,rfl⟩⟩
theorem bu (T:Txt K mg Ad):Def P w K mg base "_law_cell_at" 1 ["_law_script","_law_k"] (zZ K):=by
 refine T.uq.cM sL λ f bB A outer s H vs Q E hr h=>?_
 obtain ⟨a,ns,z,rfl,hS,hz,k⟩:=h
 refine ⟨_,(ag (aU (aJ lQ (pv 1) (aO bv (by rfl) T.dS cJ (aa (pv 0) ac)) (aL _)) (am (aH (ay au (pv 0) (pv 1) (λ _ _=>rfl)))) aI)
     (am (aH af))),?_⟩
 try dsimp only [d9,aT]
 refine ⟨_,rfl,_,rfl,_,_,rfl,.inl hS,λ n en=>⟨_,_,rfl,rfl,_,rfl,?_⟩⟩
 rw [At] at en
 refine d6 (λ h=>?_) (λ h=>?_)
 .
  have hl:z.toNat<ns.length:=by lia
  have e:(ns.map V.int)[z.toNat]?=some (.int (ns[z.toNat]'hl)):=by simp [hl]
  have e2:=bh e
  rw [ahT hz] at e2
  refine ⟨_,rfl,_,rfl,_,_,_,_,rfl,rfl,.inl hS,e2,k _ (.inl (aaA hl))⟩
 . exact k 0 (.inr rfl)
theorem aM (T:Txt K mg Ad):Def P w K mg base "_law_pick" 1 ["_law_cell","_law_k","_law_many"] Ky:=by
 refine T.BS.cM yU λ f bB A outer s H vs Q E hr h=>?_
 obtain ⟨c,k,n,rfl,k0,k1,n0,kk⟩:=h
 refine ⟨_,(am (aH (ax gz (ax gz (ax bf (ax aG (ax gz (pv 0) af) af) (ax aG (ax bf (pv 1) (pv 1)) af)) af) (pv 2)))),?_⟩
 try dsimp only [d9,aT]
 refine ⟨_,rfl,_,_,rfl,rfl,by decide,λ x1 a1 b1 e1=>⟨_,_,rfl,rfl,λ x2 e2=>?_⟩⟩
 refine ⟨_,rfl,_,rfl,_,_,rfl,rfl,⟨10,10,(show k.natAbs<2 ^ 10 by lia),(show k.natAbs<2 ^ 10 by lia),by decide⟩,λ x3 e3=>⟨_,_,rfl,rfl,λ x4 e4=>?_⟩⟩
 have kk2:k * k<=1000 * 1000:=Int.mul_le_mul k1 k1 k0 (by decide)
 have kk0:0<=k * k:=aon k0 k0
 refine ⟨_,_,rfl,rfl,⟨22,22,(show x2.natAbs<2 ^ 22 by lia),(show x4.natAbs<2 ^ 22 by lia),by decide⟩,λ x5 e5=>⟨_,_,rfl,rfl,by decide,λ x6 a6 b6 e6=>?_⟩⟩
 exact ⟨_,rfl,_,_,rfl,rfl,n0,λ r a b _=>kk r a b⟩
theorem iH (T:Txt K mg Ad):Def P w K mg base "_law_ratio" 1 ["_law_top","_law_bottom"] FF:=by
 refine T.y0.cM fh λ f bB A outer s H vs Q E hr h=>?_
 obtain ⟨t,b,rfl,hb,bb,k⟩:=h
 refine ⟨_,(ag (az (i:=2) fh.nd rfl (lc rfl) (aO pU (by rfl) T.Gj Bm (aa (pv 0) ac)))
     (ag (az (i:=3) fh.nd rfl (lc rfl) (pv 1))
     (ag (zB ad4 (aJ lY (pv 3) af (aL _)) (ag (az (i:=4) fh.nd rfl (lc rfl) (ax gz (pv 2) (pv 3)))
     (ag (az (i:=2) fh.nd rfl (lc rfl) (pv 3))
     (am (az (i:=3) fh.nd rfl (lc rfl) (pv 4))))))
     (am (aH (aV (aa (ax hX (pv 0) (pv 2)) (aa (ax hX (pv 1) (pv 2)) ac)))))))),?_⟩
 try dsimp only [d9,aT]
 first|(refine d5 ?_;intro _ _ _ _ _)|skip
 refine ⟨_,rfl,_,rfl,λ g0 eg=>⟨_,rfl,?_⟩⟩
 refine ⟨λ m U H'=>H'=H/\E3 λ (g l:Int) (r:Option V)=>A5 (U=[some (.int t),some (.int b),some (.int g),some (.int l),r]) (0<=g) (0<=l) (m=l.toNat) (Int.gcd g l=Int.gcd t b),
   ⟨_,rfl,g0,b,none,rfl,by lia,by lia,rfl,by rw [eg];rfl⟩,?_⟩
 rintro m U H' ⟨rfl,g,l,r,rfl,hg,hl,rfl,e⟩
 refine ⟨_,rfl,_,_,rfl,rfl,_,rfl,?_⟩
 refine d6 (λ h=>?_) (λ h=>?_)
 .
  have l1:0<l:=h
  refine ⟨λ σ' T7=>T7=H'/\σ'=[some (.int t),some (.int b),some (.int l),some (.int (g % l)),some (.int (g % l))],λ σ' T7 ⟨e1,e2⟩=>?_,?_⟩
  . have m0:=ape g (by lia:l≠0)
    have m1:=aoT g l1
    exact ⟨(g % l).toNat,by lia,e1,l,g % l,_,e2,hl,m0,rfl,(LG hg l1).trans e⟩
  . refine ⟨_,rfl,_,rfl,_,_,rfl,rfl,l1,λ r _ _ er=>?_⟩
    subst er
    exact ⟨_,rfl,_,rfl,rfl,rfl⟩
 .
  have l1:l=0:=by lia
  subst l1
  have ec:g=((Int.gcd t b:Nat):Int):=by rw [← e,Xw hg]
  obtain ⟨c0,cl,fp,fn⟩:=G2 (by lia:b≠0) ec
  have bc:Bd 8999 g:=(bb.le (by lia)).mono (by decide)
  refine ⟨_,rfl,_,rfl,_,_,rfl,rfl,⟨by lia,bc⟩,λ q eq=>⟨_,rfl,_,rfl,_,_,rfl,rfl,⟨by lia,bc⟩,λ r er=>⟨mS,λ p hp=>?_⟩⟩⟩
  subst eq er
  exact k _ _ p _ (fp hb) (ai hp) ah
theorem jB (T:Txt K mg Ad):Def P w K mg base "_law_warm" 2 ["_law_num","_law_parts","_law_scale_here"] (K7 K):=by
 refine T.Ah.cM lE λ f bB A outer s H vs Q E hr h=>?_
 obtain ⟨num,parts,p,z,rfl,hq,ok,bn,p0,bp,k⟩:=h
 refine ⟨_,(ag (az (i:=3) lE.nd rfl (lc rfl) (ax bf (ax bf (pv 0) (ay au (pv 2) af (λ _ _=>rfl))) (ay au (pv 2) af (λ _ _=>rfl))))
     (ag (az (i:=3) lE.nd rfl (lc rfl) (ax aG (pv 3) (ax bf (ax bf (pv 1) (ay au (pv 2) af (λ _ _=>rfl))) (ay au (pv 2) af (λ _ _=>rfl)))))
     (am (aH (ak (iH (K:=K) T) hr.m (aa (pv 3) (aa (ax bf (ax bf (pv 1) (ay au (pv 2) af (λ _ _=>rfl))) (ay au (pv 2) af (λ _ _=>rfl))) ac))))))),?_⟩
 try dsimp only [d9,aT]
 first|(refine fF ?_;intro _ _ _ _)|skip
 refine ⟨_,rfl,_,rfl,_,_,_,_,rfl,rfl,.inr hq,rfl,_,_,rfl,rfl,⟨_,_,bn,ok.ba,by decide⟩,λ x1 e1=>⟨_,rfl,_,_,_,_,rfl,rfl,.inr hq,rfl,_,_,rfl,rfl,⟨60,_,by rw [e1];exact bn.mul ok.ba,ok.bd,by decide⟩,λ x2 e2=>?_⟩⟩
 refine ⟨_,rfl,_,rfl,_,rfl,_,_,_,_,rfl,rfl,.inr hq,rfl,_,_,rfl,rfl,⟨_,_,bp,ok.bt,by decide⟩,λ x3 e3=>⟨_,rfl,_,_,_,_,rfl,rfl,.inr hq,rfl,_,_,rfl,rfl,⟨60,_,by rw [e3];exact bp.mul ok.bt,ok.bb,by decide⟩,λ x4 e4=>⟨_,_,rfl,rfl,λ x5 e5=>?_⟩⟩⟩
 refine ⟨_,rfl,_,rfl,_,rfl,_,_,_,_,rfl,rfl,.inr hq,rfl,_,_,rfl,rfl,⟨_,_,bp,ok.bb,by decide⟩,λ x6 e6=>⟨_,rfl,_,_,_,_,rfl,rfl,.inr hq,rfl,_,_,rfl,rfl,⟨60,_,by rw [e6];exact bp.mul ok.bb,ok.bd,by decide⟩,λ x7 e7=>?_⟩⟩
 have h5:x5=cF num parts z:=by rw [e5,e2,e1,e4,e3];rfl
 have h7:x7=ck parts z:=by rw [e7,e6];rfl
 subst h5 h7
 have hB:=d7 ok p0
 refine ⟨_,_,rfl,hB,?_,λ q r u H' F s' hu=>k u H' s' ?_⟩
 . exact ((bp.mul ok.bb).mul ok.bd).mono (by decide)
 .
  have:=F.nf hB
  rw [hu]
  unfold aZ
  rw [← this]
theorem qO (T:Txt K mg Ad):Def P w K mg base "_law_stove_by" 2 ["_law_a","_law_b","_law_c","_law_room"] qp:=by
 refine T.sK.cM ii λ f bB A outer s H vs Q E hr h=>?_
 obtain ⟨a,b,c,i,rfl,hi,k0,k⟩:=h
 refine ⟨_,(ag (aU (aJ gB (ak (aM (K:=K) T) hr.m (aa (pv 1) (aa (ax aG af (pv 3)) (aa af ac)))) af (aL _)) (am (aH b9)) aI)
     (ag (az (i:=4) ii.nd rfl (lc rfl) (ak (aM (K:=K) T) hr.m (aa (pv 0) (aa (ax aG af (pv 3)) (aa af ac)))))
     (ag (az (i:=5) ii.nd rfl (lc rfl) (ak (aM (K:=K) T) hr.m (aa (pv 0) (aa (ax aG af (pv 3)) (aa af ac)))))
     (am (aH (aV (aa (ak (aM (K:=K) T) hr.m (aa (pv 2) (aa (ax aG af (pv 3)) (aa af ac)))) (aa (pv 4) (aa (pv 5) (aa (ak (aM (K:=K) T) hr.m (aa (pv 1) (aa (ax aG af (pv 3)) (aa af ac)))) ac)))))))))),?_⟩
 try dsimp only [d9,aT]
 first|(refine d5 ?_;intro _ _ _ _ _)|skip
 refine ⟨_,rfl,_,rfl,_,_,rfl,rfl,λ x1 e1=>⟨_,_,_,rfl,by lia,by lia,by decide,λ r a0 a1=>⟨rfl,_,rfl,?_⟩⟩⟩
 refine d6 (λ h=>k0) (λ h=>?_)
 refine ⟨_,rfl,_,rfl,_,_,rfl,rfl,λ x2 e2=>⟨_,_,_,rfl,by lia,by lia,by decide,λ w0 b0 b1=>?_⟩⟩
 refine ⟨_,rfl,_,rfl,_,_,rfl,rfl,λ x3 e3=>⟨_,_,_,rfl,by lia,by lia,by decide,λ w1 c0 c1=>?_⟩⟩
 refine ⟨_,rfl,_,rfl,_,_,rfl,rfl,λ x4 e4=>⟨_,_,_,rfl,by lia,by lia,by decide,λ w2 d0 d1=>?_⟩⟩
 refine ⟨_,rfl,_,rfl,_,rfl,_,rfl,_,_,rfl,rfl,λ x5 e5=>⟨_,_,_,rfl,by lia,by lia,by decide,λ w3 g0 g1=>⟨Ob,λ p hp=>?_⟩⟩⟩
 exact k p (w2,w0,w1,w3) ⟨⟨d0,by show w2<=25;lia⟩,⟨b0,by show w0<=9;lia⟩,⟨c0,by show w1<=3;lia⟩,⟨g0,by show w3<=3;lia⟩⟩ hp
set_option maxHeartbeats 0 in
theorem wS (T:Txt K mg Ad):Def P w K mg base "_law_scale" 2 ["_law_cell"] HI:=by
 refine T.xU.cM ky λ f bB A outer s H vs Q E hr h=>?_
 obtain ⟨c,rfl,k⟩:=h
 refine ⟨_,(ag (az (i:=1) ky.nd rfl (lc rfl) (ay au (dB (aa af (aa af (aa (ax rA af af) (aa (ax rA af af) (aa (ax rA af af) (aa (ax rA af af) ac))))))) (ak (aM (K:=K) T) hr.m (aa (pv 0) (aa af (aa af ac)))) (λ _ _=>rfl)))
     (ag (nZ (yi:=2) ["_law_k"] ["_law_far","_law_cell"] [1,0] (.cons ⟨rfl,rfl,.inl rfl⟩ (.cons ⟨rfl,rfl,.inl rfl⟩ .nil)) rfl (bH rfl T.cC (aa af ac)) (λ _ _ _ _ _=>(aK (i:=0) (show (["_law_k","_law_far","_law_cell"]:List Str).Nodup by decide +kernel) rfl (lc rfl))) (λ _ _ _ _ _=>fM) (λ _ _ _ _ _=>(ax aG af (ax gz (ax hX (ax aG (pv 2) (pv 0)) (ax aG (pv 0) af)) (pv 1)))) rfl (by decide +kernel) (by decide +kernel) (by decide +kernel) ky.nd rfl (lc rfl) rfl)
     (am (aH (aV (aa (ay au (pv 2) af (λ _ _=>rfl)) (aa (ay au (pv 2) af (λ _ _=>rfl)) (aa (ax cO (ax gz (ax hX (pv 0) af) (ax aG (ax bf af (pv 1)) af)) (pv 1)) (aa (ay au (pv 2) af (λ _ _=>rfl)) ac))))))))),?_⟩
 try dsimp only [d9,aT]
 first|(refine fF ?_;intro _ _ _ _)|skip
 refine ⟨_,_,rfl,rfl,⟨by decide,by decide,by decide⟩,λ r1 e1=>⟨_,_,rfl,rfl,⟨by decide,by decide,by decide⟩,λ r2 e2=>⟨_,_,rfl,rfl,⟨by decide,by decide,by decide⟩,λ r3 e3=>⟨_,_,rfl,rfl,⟨by decide,by decide,by decide⟩,λ r4 e4=>⟨(by show 6<=sizeLine;decide),λ p0 tD=>?_⟩⟩⟩⟩⟩
 refine ⟨_,rfl,_,_,_,rfl,by decide,by decide,by decide,λ r a0 a1=>?_⟩
 obtain ⟨TM,hm,ea⟩:=yD (ns:=[1,12,r1,r2,r3,r4]) a0 a1
 have asz:1<=TM/\TM<=10 ^ 9:=by
   have z1:r1=10000:=e1
   have z2:r2=10000:=e2
   have z3:r3=10000:=e3
   have z4:r4=1000000000:=e4
   simp only [abj,aay,ae5] at hm
   lia
 refine ⟨p0,_,_,_,rfl,rfl,.inl (bg.of ah),ea,?_⟩
 refine ⟨_,rfl,by decide,by decide,λ D hD=>?_⟩
 have s0:aB H (upd H p0 (.lst [.int 1,.int 12,.int r1,.int r2,.int r3,.int r4])):=ai tD
 refine dW (lo:=0) (n:=3) (λ i acc U H'=>A4 (aB (upd H p0 (.lst [.int 1,.int 12,.int r1,.int r2,.int r3,.int r4])) H') (H' D=some (.lst acc)) (∃ (zs:List Int),A3 (acc=zs.map V.int) (zs.length=i) (∀ z∈zs,1<=z/\z<=TM)) (∃ v,U=[v,some (.int TM),some (.int c)]))
   ⟨ai hD,ah,⟨[],rfl,rfl,nofun⟩,none,rfl⟩ ?_ ?_
 .
  rintro i acc U H' hi ⟨s1,j5,⟨zs,rfl,hzl,hz⟩,v,rfl⟩
  refine ⟨_,rfl,_,rfl,_,_,rfl,rfl,λ x1 e1=>⟨_,rfl,_,_,rfl,rfl,λ x2 e2=>⟨_,_,rfl,rfl,⟨by lia,(bdS 8999 (by lia) (by lia))⟩,λ x3 e3=>⟨_,rfl,_,_,rfl,rfl,by lia,λ x4 a4 b4 e4=>⟨_,_,rfl,rfl,λ x5 e5=>?_⟩⟩⟩⟩⟩
  refine ⟨j5,aS (by rw [At];lia),s1.put hD,ah,⟨zs++[x5],by rw [YC];rfl,by rw [aas,hzl];rfl,λ z hm=>?_⟩,_,rfl⟩
  rcases List.mem_append.mp hm with q|q
  . exact hz z q
  . rw [List.mem_singleton.mp q];lia
 .
  rintro acc U H' ⟨s1,j5,⟨zs,rfl,hzl,hz⟩,v,rfl⟩
  match zs,hzl,hz,j5 with
  | [z0,z1,z2],_,hz,j5 =>
    have g0:=hz z0 (by simp)
    have g1:=hz z1 (by simp)
    have g2:=hz z2 (by simp)
    refine ⟨_,rfl,_,_,_,_,rfl,rfl,.inl (bg.of j5),rfl,_,rfl,_,_,_,_,rfl,rfl,.inl (bg.of j5),rfl,?_⟩
    refine ⟨_,rfl,_,_,rfl,rfl,⟨by decide,bdS 8999 (by decide) (by decide)⟩,λ y1 f1=>⟨_,rfl,_,_,rfl,rfl,⟨2,31,mT,(show TM.natAbs<2 ^ 31 by lia),by decide⟩,λ y2 f2=>⟨_,_,rfl,rfl,λ y3 f3=>⟨_,_,rfl,rfl,by lia,λ y4 a4 b4 f4=>⟨_,rfl,_,_,rfl,rfl,λ y5 f5=>?_⟩⟩⟩⟩⟩
    refine ⟨_,rfl,_,_,_,_,rfl,rfl,.inl (bg.of j5),rfl,Ob,λ p hp=>?_⟩
    exact k p _ ⟨z0,z1,y5,z2⟩ ⟨g0.1,by show z0<=_;lia,g1.1,by show z1<=_;lia,by show _<=y5;lia,by show y5<=_;lia,g2.1,by show z2<=_;lia⟩ (s0.trans (s1.trans (ai hp))) ah
theorem vT (T:Txt K mg Ad):Def P w K mg base "_law_drawn" 3 ["_law_script"] (Bj K):=by
 refine T.zO.cM cB λ f bB A outer s H vs Q E hr h=>?_
 obtain ⟨sa,ns,rfl,hS,k⟩:=h
 refine ⟨_,(ag (az (i:=1) cB.nd rfl (lc rfl) (ak (bu (K:=K) T) hr.m (aa (pv 0) (aa af ac))))
     (ag (az (i:=2) cB.nd rfl (lc rfl) (ak (bu (K:=K) T) hr.m (aa (pv 0) (aa af ac))))
     (ag (az (i:=3) cB.nd rfl (lc rfl) (ak (bu (K:=K) T) hr.m (aa (pv 0) (aa af ac))))
     (ag (az (i:=4) cB.nd rfl (lc rfl) (ay au (dB (aa af (aa af (aa af (aa af (aa af (aa af ac))))))) (ak (aM (K:=K) T) hr.m (aa (pv 1) (aa af (aa af ac)))) (λ _ _=>rfl)))
     (ag (az (i:=5) cB.nd rfl (lc rfl) (@IR _ _ _ _ _ (@lG _ _ _ _ _ _ _ _ _ aQ (dB ac) (@lG _ _ _ _ _ _ _ _ _ aQ (dB ac) (@lG _ _ _ _ _ _ _ _ _ aQ (dB ac) (@lG _ _ _ _ _ _ _ _ _ aQ xF (@lG _ _ _ _ _ _ _ _ _ aQ (ak (wS (K:=K) T) hr.m (aa (ak (bu (K:=K) T) hr.m (aa (pv 0) (aa af ac))) ac)) Ke))))) rfl rfl (List.cons_ne_nil _ _) (aoG rfl)))
     (ag (vI (b5 hr) (pv 5) aQ (aV (aa (ak (aM (K:=K) T) hr.m (aa (pv 1) (aa af (aa af ac)))) (aa (ak (aM (K:=K) T) hr.m (aa (pv 1) (aa af (aa af ac)))) (aa (ak (aM (K:=K) T) hr.m (aa (pv 1) (aa af (aa af ac)))) ac)))) rfl)
     (ag (dO ad4 rfl (bH rfl T.cC (aa (pv 4) ac)) (aK (i:=6) cB.nd rfl (lc rfl)) (ag (az (i:=7) cB.nd rfl (lc rfl) (dB (aa (ax cO (ak (aM (K:=K) T) hr.m (aa (pv 2) (aa (pv 6) (aa af ac)))) af) ac)))
     (ag (dO ad4 rfl (bH rfl T.cC (aa (ax aG af (ak (aM (K:=K) T) hr.m (aa (pv 1) (aa (ax aG af (pv 6)) (aa (ay au (dB (aa af (aa af (aa af (aa af ac))))) (ax cO (pv 4) af) (λ _ _=>rfl)) ac))))) ac)) (aK (i:=8) cB.nd rfl (lc rfl)) (am (br (j1 adL adq adc cN (pv 7) (aa (ax aG (ax aG (ay au (pv 7) (pv 8) (λ _ _=>rfl)) af) (ak (aM (K:=K) T) hr.m (aa (pv 2) (aa (ax aG (ax aG af (ax bf af (pv 6))) (pv 8)) (aa af ac))))) ac)))))
     (ag (br (j1 adL adq adc cN (bi (b5 hr) (pv 5) aQ (λ _ _=>rfl)) (aa (pv 7) ac)))
     (ag (az (i:=9) cB.nd rfl (lc rfl) (ax cO (ak (aM (K:=K) T) hr.m (aa (pv 3) (aa (pv 6) (aa af ac)))) af))
     (ag (br (j1 adL adq adc cN (bi (b5 hr) (pv 5) aQ (λ _ _=>rfl)) (aa (aV (aa (ak (aM (K:=K) T) hr.m (aa (pv 3) (aa (ax aG af (pv 6)) (aa af ac)))) (aa (pv 9) (aa (ax aG (pv 9) (ak (aM (K:=K) T) hr.m (aa (pv 3) (aa (ax aG af (pv 6)) (aa af ac))))) ac)))) ac)))
     (ag (br (j1 adL adq adc cN (bi (b5 hr) (pv 5) aQ (λ _ _=>rfl)) (aa (ak (qO (K:=K) T) hr.m (aa (pv 1) (aa (pv 2) (aa (pv 3) (aa (pv 6) ac))))) ac)))
     (am (dO ad4 rfl (bH rfl T.cC (aa (pv 4) ac)) (aK (i:=10) cB.nd rfl (lc rfl)) (am (aU (aJ hU (pv 10) (pv 6) (aL _)) (am (vI (b5 hr) (bi (b5 hr) (pv 5) aQ (λ _ _=>rfl)) (aV (aa (pv 6) (aa (pv 10) ac))) (ak (aM (K:=K) T) hr.m (aa (pv 2) (aa (ax aG (ax aG af (ax bf af (pv 6))) (pv 10)) (aa af ac)))) rfl)) aI)))))))))))
     (am (aH (pv 5)))))))))),?_⟩
 try dsimp only [d9,aT]
 first|(refine GY ?_;intro _ _ _ _ _ _ _ _ _)|skip
 refine ⟨_,rfl,sa,ns,0,rfl,hS,by decide,λ ca _=>⟨_,rfl,sa,ns,1,rfl,hS,by decide,λ cb _=>⟨_,rfl,sa,ns,2,rfl,hS,by decide,λ cc _=>?_⟩⟩⟩
 refine ⟨(by show 6<=sizeLine;decide),λ l0 hl0=>⟨_,rfl,ca,1,6,rfl,by decide,by decide,by decide,λ r a0 a1=>?_⟩⟩
 obtain ⟨nI,hmn,ea⟩:=yD (ns:=[1,1,2,2,3,4]) a0 a1
 refine ⟨l0,_,_,_,rfl,rfl,.inl (bg.of ah),ea,?_⟩
 have hn:1<=nI/\nI<=4:=by
   simp only [abj,aay,ae5] at hmn
   lia
 obtain ⟨n,rfl⟩:∃ n:Nat,nI=(n:Int):=⟨nI.toNat,by lia⟩
 have OK:aB H (upd H l0 (.lst [.int 1,.int 1,.int 2,.int 2,.int 3,.int 4])):=ai hl0
 intro p hp
 refine ⟨afh _,λ pm dI=>⟨afh _,λ ps ft=>⟨afh _,λ pt c8=>λ pf gX=>?_⟩⟩⟩
 have So:=ai (o:=.dK []) hp
 have R5:=ai (o:=.lst []) dI
 have OL:=ai (o:=.lst []) ft
 have Qt:=ai (o:=.lst []) c8
 have W9:=ai (o:=.dT []) gX
 have Vr:=So.trans (R5.trans (OL.trans (Qt.trans W9)))
 refine ⟨_,rfl,sa,ns,3,rfl,(OK.trans Vr).seq hS,by decide,λ cd _=>⟨cd,rfl,λ fm H2 sc L5 s2 Ev=>?_⟩⟩
 have O7:H2 p=some (.dK []):=s2 _ _ (W9 _ _ (Qt _ _ (OL _ _ (R5 _ _ ah))))
 have IA:H2 pm=some (.lst []):=s2 _ _ (W9 _ _ (Qt _ _ (OL _ _ ah)))
 have IU:H2 ps=some (.lst []):=s2 _ _ (W9 _ _ (Qt _ _ ah))
 have Iu:H2 pt=some (.lst []):=s2 _ _ (W9 _ _ ah)
 have II:H2 pf=some (.dT []):=s2 _ _ ah
 have nms:pm≠ps:=aC ah ft
 have nmt:pm≠pt:=aC (OL _ _ ah) c8
 have nst:ps≠pt:=aC ah c8
 refine ⟨O7,[(.inr "marks",.ref pm),(.inr "sky",.ref ps),(.inr "stoves",.ref pt),(.inr "flows",.ref pf),(.inr "scale",.ref fm)],rfl,aoG rfl,?_⟩
 have nH2:aB H H2:=(OK.trans Vr).trans s2
 have pn:H p=none:=OK.free hp
 refine ⟨_,rfl,ca,2,5,rfl,by decide,by decide,by decide,λ w0 w00 w01=>⟨_,rfl,ca,3,31,rfl,by decide,by decide,by decide,λ w1 w10 w11=>⟨_,rfl,ca,4,10,rfl,by decide,by decide,by decide,λ w2 w20 w21=>⟨CO,λ pb KO=>?_⟩⟩⟩⟩
 refine ⟨_,rfl,_,_,rfl,xa.k (k:=.inr "bounds") (ai KO _ _ ah) (afX (jK _ _) (by show 0+5<sizeLine;decide)),?_⟩
 have npm:pm≠p:=bD IA O7 nofun
 have nps:ps≠p:=bD IU O7 nofun
 have npt:pt≠p:=bD Iu O7 nofun
 have npf:pf≠p:=bD II O7 (λ z=>nomatch z)
 have Uu:fm≠p:=bD Ev O7 nofun
 have bup:∀ {b o o'},H2 b=some o->b≠p->(upd H2 p o') b=some o:=λ h n=>by rw [aD n];exact h
 have bn:∀ {b o},H2 b=some o->b≠p->b≠pb:=λ h n=>aC (bup h n) KO
 have npb:p≠pb:=aC ah KO
 have b3:∀ {b o o1 o2 o3},H2 b=some o->b≠p->(upd (upd (upd H2 p o1) pb o2) p o3) b=some o:=λ h n=>by rw [aD n,aD (bn h n)];exact bup h n
 have C0:TC K (upd (upd (upd H2 p (.dK (kC [] [(.inr "marks",.ref pm),(.inr "sky",.ref ps),(.inr "stoves",.ref pt),(.inr "flows",.ref pf),(.inr "scale",.ref fm)]))) pb (.tup [.int w0,.int w1,.int w2])) p
     (.dK (putK (kC [] [(.inr "marks",.ref pm),(.inr "sky",.ref ps),(.inr "stoves",.ref pt),(.inr "flows",.ref pf),(.inr "scale",.ref fm)]) (.inr "bounds") (.ref pb)))) p pm ps pt pf fm pb [] [] [] [] ⟨[],[],[],λ _ _=>none,sc,(w0,w1,w2)⟩:=by
   refine ⟨ah,b3 IA npm,b3 IU nps,b3 Iu npt,b3 II npf,nms,nmt,nst,rfl,rfl,rfl,λ _ _ _ _=>rfl,⟨aoK,nofun⟩,bS.of (jG (b3 Ev Uu) ?_),bS.of (jG (by rw [aD npb.symm];exact ah) ?_)⟩
   . simp only [abj,aay,ae5,aoA]
     exact ⟨Uu,bD Ev IA nofun,bD Ev IU nofun,bD Ev Iu nofun,bD Ev II nofun⟩
   . simp only [abj,aay,ae5,aoA]
     exact ⟨npb.symm,(bn IA npm).symm,(bn IU nps).symm,(bn Iu npt).symm,(bn II npf).symm⟩
 have S0:aB H (upd (upd (upd H2 p (.dK (kC [] [(.inr "marks",.ref pm),(.inr "sky",.ref ps),(.inr "stoves",.ref pt),(.inr "flows",.ref pf),(.inr "scale",.ref fm)]))) pb (.tup [.int w0,.int w1,.int w2])) p
     (.dK (putK (kC [] [(.inr "marks",.ref pm),(.inr "sky",.ref ps),(.inr "stoves",.ref pt),(.inr "flows",.ref pf),(.inr "scale",.ref fm)]) (.inr "bounds") (.ref pb)))):=((nH2.put pn).trans (ai KO)).put pn
 refine ⟨_,rfl,_,rfl,by lia,by lia,?_⟩
 refine fZ (lo:=0) (n:=n) (λ i U H'=>A3 (aB H H') (E5 λ vm vs vt aN m=>A3 (TC K H' p pm ps pt pf fm pb vm vs vt aN m) (qR H H' [p,pm,ps,pt,pf] vm m.marks) (aw.Ok n i m)) (E5 λ x6 x7 x8 x9 KN=>U=[some (.ref sa),some (.int ca),some (.int cb),some (.int cc),some (aq n),some (.ref p),x6,x7,x8,x9,KN]))
   ⟨S0,⟨_,_,_,_,_,C0,qR.nil,⟨rfl,rfl,rfl,nofun,nofun,nofun,λ a b h=>absurd h (an6 a),L5,⟨w00,by show w0<=4;lia⟩,⟨w10,by show w1<=30;lia⟩,⟨w20,by show w2<=30;lia⟩⟩⟩,none,none,none,none,none,rfl⟩ ?_ ?_
 .
  rintro _ _ _ i U H' hi ⟨S1,⟨vm,vs,vt,aN,m,C1,M1,O1⟩,x6,x7,x8,x9,KN,rfl⟩
  refine ⟨_,rfl,_,rfl,cb,_,61,rfl,by lia,by lia,by decide,λ r0 c0 c1=>⟨_,_,rfl,rfl,λ x0 e0=>⟨OR,λ pk o9=>?_⟩⟩⟩
  refine ⟨_,rfl,_,rfl,_,_,rfl,rfl,λ y1 f1=>⟨Ob,λ l1 hl1=>⟨_,rfl,_,_,rfl,rfl,λ y2 f2=>⟨l1,_,_,_,rfl,rfl,.inl (bg.of ah),Jz (by lia) (by lia) f2,?_⟩⟩⟩⟩
  refine ⟨ca,y1,_,rfl,by lia,by lia,(by split<;>decide),λ r1 b0 b1=>⟨_,_,rfl,rfl,λ y3 f3=>?_⟩⟩
  obtain ⟨q,rfl⟩:∃ q:Nat,y3=(q:Int):=⟨y3.toNat,by lia⟩
  have hq:1<=q/\q<=if n<=2 then 6 else 4:=by
    split at b1<;>rename_i hc<;>simp only [hc,anK,aoe]<;>lia
  have hq6:q<=6:=by have:=hq.2;split at this<;>lia
  refine ⟨_,rfl,by lia,by lia,?_⟩
  have sk:aB H' (upd H' pk (.lst [.int x0])):=ai o9
  have nl1:pk≠l1:=aC ah hl1
  refine fZ (lo:=0) (n:=q) (λ j U Yx=>A3 (aB H' Yx) (∃ (l:List Int),A4 (Yx pk=some (.lst (l.map V.int))) (l.length=j+1) (oq l) (∀ x∈l,-30<=x/\x<=30+20 * (j:Int))) (∃ x8,U=[some (.ref sa),some (.int ca),some (.int cb),some (.int cc),some (aq n),some (.ref p),some (.int (0+(i:Int))),some (.ref pk),x8,x9,KN]))
    ⟨sk.trans (ai hl1),⟨[x0],by rw [aD nl1];exact ah,rfl,λ a x y h1 h2=>by simp at h2,λ x hx=>by rw [List.mem_singleton.mp hx];lia⟩,x8,rfl⟩ ?_ ?_
  .
   rintro _ _ _ j U Yx hj ⟨S2,⟨l,hk,hl,OA,xp⟩,x8,rfl⟩
   have HW:j<l.length:=by lia
   refine ⟨_,rfl,.inl ⟨rfl,_,bg.of hk⟩,_,rfl,_,rfl,pk,_,_,_,rfl,rfl,.inl (bg.of hk),Cf HW,_,_,rfl,rfl,λ u1 g1=>⟨_,rfl,_,rfl,_,_,rfl,rfl,⟨10,10,mT,(show (0+(i:Int)).natAbs<2 ^ 10 by lia),by decide⟩,λ u2 g2=>⟨_,_,rfl,rfl,λ u3 g3=>⟨_,rfl,_,_,rfl,rfl,λ u4 g4=>?_⟩⟩⟩⟩
   refine ⟨cb,u4,20,rfl,by lia,by lia,by decide,λ r2 d0 d1=>⟨_,_,rfl,rfl,λ u5 g5=>⟨pk,_,_,rfl,rfl,hk,aS (by rw [At];lia),?_⟩⟩⟩
   have hlj:=xp l[j] (aaA HW)
   refine ⟨S2.put o9,⟨l++[u5],by rw [ah,YC];rfl,by rw [aas,hl];rfl,xy OA hl (by lia),λ x hx=>?_⟩,_,rfl⟩
   rcases List.mem_append.mp hx with z|z
   . have:=xp x z;lia
   . rw [List.mem_singleton.mp z];lia
  .
   rintro U Yx ⟨S2,⟨l,hk,hl,OA,xp⟩,x8,rfl⟩
   have C2:=C1.same S2
   have tz:vk n l:=⟨by lia,by have:=hq.2;split at this<;>rename_i hc<;>simp only [hc,anK,aoe]<;>lia,OA,λ x hx=>by have:=xp x hx;lia⟩
   have kL:pk∉[p,pm,ps,pt,pf]:=by
     simp only [abj,aay,ae5,aoA]
     exact ⟨(aC C1.hp o9).symm,(aC C1.dI o9).symm,(aC C1.ft o9).symm,(aC C1.c8 o9).symm,(aC C1.gX o9).symm⟩
   have Ae:vm.length=i:=by rw [C1.dm.length,At,O1.lm]
   have lvs:vs.length=i:=by rw [C1.ds.length,At,O1.ls]
   have lvt:vt.length=i:=by rw [C1.dt.length,At,O1.lt]
   refine ⟨_,rfl,p,_,rfl,bP C2.hp,.inl ⟨rfl,_,bg.of C2.dI⟩,_,rfl,pm,vm,_,rfl,rfl,C2.dI,aS (by lia),?_⟩
   have C3:=C2.Ge (l:=l) (x:=.ref pk) ⟨pk,_,rfl,bg.of (jG hk kL),xg l⟩
   refine ⟨_,rfl,_,rfl,cc,_,61,rfl,by lia,by lia,by decide,λ r3 m0 m1=>⟨_,_,rfl,rfl,λ lo Yq=>?_⟩⟩
   refine ⟨_,rfl,p,_,rfl,sR C3.hp,.inl ⟨rfl,_,bg.of C3.ft⟩,_,rfl,_,rfl,_,_,rfl,rfl,λ v1 h1=>⟨cc,v1,4,rfl,by lia,by lia,by decide,λ sh sh0 sh1=>⟨_,rfl,_,rfl,_,rfl,_,rfl,_,_,rfl,rfl,λ v2 h2=>⟨cc,v2,31,rfl,by lia,by lia,by decide,λ r4 n0 n1=>⟨_,_,rfl,rfl,λ JY ehi=>⟨CO,λ pz zN=>?_⟩⟩⟩⟩⟩⟩
   have C3':=C3.same (ai (o:=.tup [.int sh,.int lo,.int JY]) zN)
   refine ⟨ps,vs,_,rfl,rfl,C3'.ft,aS (by lia),?_⟩
   have C4:=C3'.N0 (l:=(sh,lo,JY)) (x:=.ref pz) (gO (bS.of (jG ah (C3.Mb zN))) (bU rfl (bU rfl (bU rfl ic))))
   refine ⟨_,rfl,p,_,rfl,dR C4.hp,.inl ⟨rfl,_,bg.of C4.c8⟩,_,rfl,_,rfl,_,rfl,_,rfl,?_⟩
   dsimp only [vD,anW,amN,aji]
   refine yo (a:=ca) (b:=cb) (c:=cc) (i:=i) (by simp only [aaz];rfl) (by lia) λ zt vq H5 gE=>?_
   have C5':=C4.same gE.same
   have hk5:(upd H5 pt (.lst (vt++[vq]))) pk=some (.lst (l.map V.int)):=by
     simp only [abj,aay,ae5,aoA] at kL
     rw [aD kL.2.2.2.1]
     refine gE.same _ _ ?_
     rw [aD kL.2.2.1]
     refine ai zN _ _ ?_
     rw [aD kL.2.1]
     exact hk
   refine ⟨pt,vt,_,rfl,rfl,C5'.c8,aS (by lia),?_⟩
   have C5:=C5'.FL (l:=zt) (x:=vq) (gE.dn λ b hb=>C4.Mb hb)
   have pmn:H pm=none:=(OK.trans So).free dI
   have psn:H ps=none:=((OK.trans So).trans R5).free ft
   have ptn:H pt=none:=(((OK.trans So).trans R5).trans OL).free c8
   have pfn:H pf=none:=((((OK.trans So).trans R5).trans OL).trans Qt).free gX
   have S5:aB H _:=(((((S1.trans S2).put pmn).trans (ai (o:=.tup [.int sh,.int lo,.int JY]) zN)).put (o:=.lst (vs++[.ref pz])) psn).trans gE.same).put (o:=.lst (vt++[vq])) ptn
   have M5:=M1.snoc o9 (iT (iT (iT (iT (iT (lC S2) (rh (by simp))) (lC (ai (o:=.tup [.int sh,.int lo,.int JY]) zN))) (rh (a:=ps) (o:=.lst (vs++[.ref pz])) (by simp))) (lC gE.same)) (rh (a:=pt) (o:=.lst (vt++[vq])) (by simp))) hk5 kL (S1.free o9) (λ x hx=>by have:=xp x hx;lia)
   refine ⟨_,rfl,_,rfl,by lia,by lia,?_⟩
   refine fZ (lo:=0) (n:=n) (λ j U H6=>A4 (aB H H6) (E2 λ aN fl=>A3 (TC K H6 p pm ps pt pf fm pb (vm++[.ref pk]) (vs++[.ref pz]) (vt++[vq]) aN { m with marks:=m.marks++[l],dE:=m.dE++[(sh,lo,JY)],aF:=m.aF++[zt],bI:=fl }) (∀ a b,a<i->b<n->a≠b->∃ k,fl a b=some k/\0<=k/\k<=3) (∀ b,b<j->i≠b->∃ k,fl i b=some k/\0<=k/\k<=3)) (qR H H6 [p,pm,ps,pt,pf] (vm++[.ref pk]) (m.marks++[l])) (∃ KN,U=[some (.ref sa),some (.int ca),some (.int cb),some (.int cc),some (aq n),some (.ref p),some (.int (0+(i:Int))),some (.ref pk),x8,some (.int lo),KN]))
     ⟨S5,⟨aN,m.bI,C5,O1.bI,λ b h=>absurd h (an6 b)⟩,M5,KN,rfl⟩ ?_ ?_
   .
    rintro _ _ _ j U H6 hj ⟨S6,⟨NI,fl,C6,Lw,Jv⟩,M6,KN,rfl⟩
    refine ⟨_,rfl,_,rfl,rfl,_,rfl,?_⟩
    refine mO (λ h=>?_) (λ h=>?_)
    .
     have uW:i≠j:=λ e=>h (by rw [e])
     refine ⟨_,rfl,_,rfl,_,_,rfl,rfl,⟨10,10,mT,(show (0+(i:Int)).natAbs<2 ^ 10 by lia),by decide⟩,λ u1 g1=>⟨_,_,rfl,rfl,λ u2 g2=>⟨_,rfl,_,_,rfl,rfl,λ u3 g3=>⟨cb,u3,4,rfl,by lia,by lia,by decide,λ kk k0 k1=>?_⟩⟩⟩⟩
     refine ⟨_,rfl,p,_,rfl,nO C6.hp,_,rfl,_,rfl,mS,λ kp zd=>?_⟩
     have C6':=C6.same (ai (o:=.tup [.int (0+(i:Int)),.int (0+(j:Int))]) zd)
     have pj:(upd H6 kp (.tup [.int (0+(i:Int)),.int (0+(j:Int))])) kp=some (.tup ((fW i j).map kV)):=by rw [ah,aaz,aaz];rfl
     refine ⟨pf,_,rfl,xa.t C6'.gX pj (afX C6.fk.len (by decide)),(S6.trans (ai zd)).put pfn,⟨_,_,C6'.dH (k:=kk) (by lia) (by lia),λ a b ha hb EZ=>?_,λ b hb EZ=>?_⟩,M6.step (iT (lC (ai zd)) (rh (by simp))),_,rfl⟩
     . by_cases e:a=i/\b=j
       . exact ⟨kk,abl e,k0,by lia⟩
       . obtain ⟨z,h1,h2⟩:=Lw a b ha hb EZ
         exact ⟨z,(aa8 e).trans h1,h2⟩
     . by_cases e:b=j
       . exact ⟨kk,abl ⟨rfl,e⟩,k0,by lia⟩
       . obtain ⟨z,h1,h2⟩:=Jv b (by lia) EZ
         exact ⟨z,(aa8 (λ y=>e y.2)).trans h1,h2⟩
    . have uW:i=j:=by have:=eK.mp h;lia
      exact ⟨S6,⟨NI,fl,C6,Lw,λ b hb EZ=>Jv b (by lia) EZ⟩,M6,_,rfl⟩
   . rintro U H6 ⟨S6,⟨NI,fl,C6,Lw,Jv⟩,M6,KN,rfl⟩
     refine ⟨S6,⟨_,_,_,NI,_,C6,M6,O1.marks tz ⟨⟨sh0,by show sh<=3;lia⟩,⟨by show -30<=lo;lia,by show lo<=30;lia⟩,by show lo<=JY;lia,by show JY<=lo+30;lia⟩ gE.ok λ a b ha hb EZ=>?_⟩,_,_,_,_,_,rfl⟩
     by_cases e:a=i
     . subst e;exact Jv b hb EZ
     . exact Lw a b (by lia) hb EZ
 . rintro U H' ⟨S1,⟨vm,vs,vt,aN,m,C1,M1,O1⟩,x6,x7,x8,x9,KN,rfl⟩
   exact ⟨_,rfl,k p H' m n (by lia) (by lia) O1 S1 ⟨pm,ps,pt,pf,fm,pb,vm,vs,vt,aN,C1,M1⟩⟩
theorem oy (T:Txt K mg Ad):Def P w K mg base "_law_built" 7 ["_law_told"] (Fy K Ad.aY):=by
 refine T.yP.cM cU λ f bB A outer s H vs Q E hr h=>?_
 obtain ⟨p,tm,n,rfl,hT,ok,n1,n4,k⟩:=h
 refine ⟨_,(ag (az (i:=1) cU.nd rfl (lc rfl) (bi (b5 hr) (pv 0) aQ (λ _ _=>rfl)))
     (ag (az (i:=2) cU.nd rfl (lc rfl) (bi (b5 hr) (pv 0) aQ (λ _ _=>rfl)))
     (ag (az (i:=3) cU.nd rfl (lc rfl) (yX T.C9 (iu (K:=K) T) hr.m T.Hn (aa (ay au (pv 1) af (λ _ _=>rfl)) (aa (ay au (pv 1) af (λ _ _=>rfl)) (aa (ay au (pv 1) af (λ _ _=>rfl)) ac)))))
     (ag (dO ad4 rfl (fL (bi (b5 hr) (pv 0) aQ (λ _ _=>rfl))) (aK (i:=4) cU.nd rfl (lc rfl)) (am (br (aX (pv 3) T.aE (oA (K:=K) T) .nil hr.m (aa (lS ["_law_num"] ["_law_scale_here"] [2] (.cons ⟨rfl,rfl,.inl rfl⟩ .nil) rfl (fL (pv 4)) (λ _ _ _ _ _=>(aK (i:=0) (show (["_law_num","_law_scale_here"]:List Str).Nodup by decide +kernel) rfl (lc rfl))) (λ _ _ _ _ _=>fM) (λ _ _ _ _ _=>(ak (jB (K:=K) T) hr.m (aa (pv 0) (aa af (aa (pv 1) ac))))) rfl (by decide +kernel) (by decide +kernel) (by decide +kernel)) ac)))))
     (ag (dO ad4 rfl (bH rfl T.cC (aa (aO bv (by rfl) T.dS cJ (aa (bi (b5 hr) (pv 0) aQ (λ _ _=>rfl)) ac)) ac)) (aK (i:=5) cU.nd rfl (lc rfl)) (ag (az (i:=6) cU.nd rfl (lc rfl) (ay au (bi (b5 hr) (pv 0) aQ (λ _ _=>rfl)) (pv 5) (λ _ _=>rfl)))
     (ag (br (aX (pv 3) T.aE (jY (K:=K) T) .nil hr.m (aa (pv 5) (aa (ak (iH (K:=K) T) hr.m (aa (ay au (pv 6) af (λ _ _=>rfl)) (aa af ac))) (aa (ak (jB (K:=K) T) hr.m (aa (ay au (pv 6) af (λ _ _=>rfl)) (aa af (aa (pv 2) ac)))) (aa (ak (jB (K:=K) T) hr.m (aa (ay au (pv 6) af (λ _ _=>rfl)) (aa af (aa (pv 2) ac)))) ac))))))
     (ag (az (i:=7) cU.nd rfl (lc rfl) (ay au (bi (b5 hr) (pv 0) aQ (λ _ _=>rfl)) (pv 5) (λ _ _=>rfl)))
     (ag (gp (aU (aJ js (pv 7) b9 (aL _)) (am (br (yh (pv 3) T.aE (ia (K:=K) T) hr.m (aa (pv 5) (aa (ak (iH (K:=K) T) hr.m (aa (ax bf (ay au (pv 7) af (λ _ _=>rfl)) (ay au (pv 2) af (λ _ _=>rfl))) (aa (ay au (pv 2) af (λ _ _=>rfl)) ac))) (aa (ay au (pv 7) af (λ _ _=>rfl)) (aa (ay au (pv 7) af (λ _ _=>rfl)) (aa (ay au (pv 7) af (λ _ _=>rfl)) ac)))))))) aI))
     (am (dO ad4 rfl (bH rfl T.cC (aa (aO bv (by rfl) T.dS cJ (aa (bi (b5 hr) (pv 0) aQ (λ _ _=>rfl)) ac)) ac)) (aK (i:=8) cU.nd rfl (lc rfl)) (am (aU (aJ hU (pv 8) (pv 5) (aL _)) (am (br (aX (pv 3) T.aE (gu (K:=K) T) .nil hr.m (aa (pv 5) (aa (pv 8) (aa (ak (iH (K:=K) T) hr.m (aa (bi (b5 hr) (bi (b5 hr) (pv 0) aQ (λ _ _=>rfl)) (aV (aa (pv 5) (aa (pv 8) ac))) (λ _ _=>rfl)) (aa af ac))) ac)))))) aI)))))))))
     (am (aH (pv 3)))))))),?_⟩
 try dsimp only [d9,aT]
 first|(refine jN ?_;intro _ _ _ _ _ _ _)|skip
 obtain ⟨pm,ps,pt,pf,fm,pb,vm,vs,vt,aN,C0⟩:=id hT
 have hb:bS K H pb [.int tm.bounds.1,.int tm.bounds.2.1,.int tm.bounds.2.2]:=bZ.tup C0.bo
 have L5:bS K H fm tm.scale.vs:=bZ.tup C0.sc
 refine ⟨_,rfl,p,_,rfl,jC C0.hp,⟨_,rfl,p,_,rfl,su C0.hp,?_⟩⟩
 refine ⟨_,rfl,_,_,_,_,rfl,rfl,.inr hb,rfl,_,rfl,_,_,_,_,rfl,rfl,.inr hb,rfl,_,rfl,_,_,_,_,rfl,rfl,.inr hb,rfl,?_⟩
 intro a CN fa OW R8
 have fa':upd H CN (.own a) a=none:=by rw [aD R8.symm];exact fa
 have s0:aB H (upd (upd H CN (.own a)) a (.ins Ad.aY CN [])):=(ai OW).trans (ai fa')
 refine ⟨a,CN,_,_,_,rfl,ah,by rw [aD R8];exact ah,ok.bounds.1,ok.bounds.2.1,ok.bounds.2.2,λ H1 Y5 D=>⟨rfl,?_⟩⟩
 obtain ⟨S1,F1⟩:=D.keep s0 (λ b hb=>by
   simp only [abj,aay,ae5] at hb
   rcases hb with rfl|rfl
   . exact fa
   . exact OW)
 have C1:=C0.same S1
 refine ⟨_,rfl,p,_,rfl,bP C1.hp,pm,rfl,⟨vm,bg.of C1.dI⟩,?_⟩
 have Ae:vm.length=n:=by rw [C0.dm.length,At,ok.lm]
 refine u9 (xs:=vm) (λ i U H'=>A4 (aB H H') (∃ fp,aR K Ad.aY H' a fp (tm.m1 i)/\∀ b∈fp,H b=none) ((tm.m1 i).rows=(tm.marks.take i).map tm.row) (E5 λ x4 x5 x6 x7 x8=>U=[some (.ref p),some (.ref pb),some (.ref fm),some (.ref a),x4,x5,x6,x7,x8]))
   ⟨S1,⟨Y5,D.at_,F1⟩,rfl,none,none,none,none,none,rfl⟩ (λ i U H' _ e=>bg.of (e.1 _ _ C0.dI)) ?_ ?_
 .
  rintro _ _ i x U H' hx ⟨S2,⟨fp,hh,hF⟩,uM,x4,x5,x6,x7,x8,rfl⟩
  refine Fw ?_;intro _ _ _
  have hi:i<tm.marks.length:=by rw [ok.lm,← Ae];exact (List.getElem?_eq_some_iff.mp hx).1
  have C2:=C0.same S2
  obtain ⟨v,ev,pk,ws,rfl,o9,Df⟩:=C2.dm.get (i:=i) (d:=qG tm.marks[i]) (by rw [RS,av hi];rfl)
  obtain rfl:x = .ref pk:=aaU (hx.symm.trans ev)
  obtain rfl:=c9 Df
  have tz:=ok.rows tm.marks[i] (aaA hi)
  have CQ:bg K H' pk (tm.marks[i].map V.int):=bZ.seq o9
  obtain ⟨⟨dx,_,_,_,_,_,_,_,_,_,ha,_⟩,_⟩:=id hh
  have UP:(tm.m1 i).rows.length=i:=by rw [uM,At,abX];lia
  refine ⟨_,rfl,a,dx,_,rfl,ha,rfl,_,rfl,pk,rfl,⟨_,CQ⟩,λ Dl hD=>?_⟩
  refine iO (K:=K) (a:=pk) (xs:=tm.marks[i].map V.int) (λ j acc U H3=>A4 (aB H' H3) (H3 Dl=some (.lst acc)) (cf K H3 ((tm.marks[i].take j).map λ x=>ek (aZ x 1 tm.scale)) acc) (∃ v,U=[v,some (.ref fm)]))
    ⟨ai hD,ah,rfl,none,rfl⟩ (λ j acc U H3 _ e=>e.1.seq CQ) ?_ ?_
  .
   rintro j x acc U H3 N9 ⟨s3,i9,d3,v,rfl⟩
   have HW:j<tm.marks[i].length:=by have:=(List.getElem?_eq_some_iff.mp N9).1;rw [At] at this;exact this
   have ex:x = .int tm.marks[i][j]:=by
     rw [RS,av HW] at N9
     exact (aaU N9).symm
   subst ex
   have bdj:=tz.bd tm.marks[i][j] (aaA HW)
   refine ⟨_,rfl,_,rfl,_,1,fm,tm.scale,rfl,(S2.trans s3).tup L5,ok.scale,(show (tm.marks[i][j]).natAbs<2 ^ 30 by lia),by decide,mT,λ q H4 s4 hq=>?_⟩
   have la:acc.length=j:=by rw [d3.length,At,abX];lia
   have ND:cu K H4 (upd H4 Dl (.lst (acc++[.ref q]))):=eS (s4 _ _ i9) rfl
   refine ⟨s4 _ _ i9,aS (by have:=tz.most;split at this<;>lia),(s3.trans s4).put hD,ah,?_,_,rfl⟩
   rw [amE,av HW,YC]
   exact (cf.ts ((aB.ts s4).trans ND) _ (mE _ _) d3).snoc (Dn.ts ND _ (gT _) (hV (bS.of hq)))
  .
   rintro acc U H3 ⟨s3,i9,d3,v,rfl⟩
   rw [At,agc] at d3
   have YO:tm.marks[i].length<=7:=by have:=tz.most;split at this<;>lia
   refine ⟨a,fp,tm.m1 i,Dl,acc,tm.row tm.marks[i],rfl,hh.same s3,by have:=ok.lm;lia,bg.of i9,by unfold aw.row;rw [aoj];exact d3,NJ ok.scale tz,by unfold aw.row;rw [At];exact tz.two,by unfold aw.row;rw [At];exact YO,AK ok.scale tz.OU,?_,λ H4 Ub D4=>?_⟩
   .
    have e:(tm.m1 i).rows++[tm.row tm.marks[i]]=(tm.marks.take (i+1)).map tm.row:=by rw [uM,amE,av hi,YC];rfl
    rw [e]
    refine (GD (n:=n) rfl n4 (λ r hr=>?_) ?_).2
    . refine KP ok r ?_
      obtain ⟨l,hl,rfl⟩:=List.mem_map.mp hr
      exact List.mem_map.mpr ⟨l,List.mem_of_mem_take hl,rfl⟩
    . rw [At,abX,ok.lm];lia
   .
    obtain ⟨S4,F4⟩:=D4.keep (S2.trans s3) hF
    have em:=aw.JA (av hi)
    refine ⟨S4,⟨Ub,by rw [em];exact D4.at_,F4⟩,?_,_,_,_,_,_,rfl⟩
    rw [em]
    show (tm.m1 i).rows++[tm.row tm.marks[i]]=_
    rw [uM,amE,av hi,YC];rfl
 .
  rintro U H' ⟨S2,⟨fp,hh,hF⟩,uM,x4,x5,x6,x7,x8,rfl⟩
  rw [Ae] at hh uM
  have C2:=C0.same S2
  have UP:(tm.m1 n).rows.length=n:=by rw [uM,At,abX,ok.lm];lia
  refine ⟨_,rfl,p,_,rfl,bP C2.hp,pm,vm,rfl,.inl (bg.of C2.dI),λ r er=>?_⟩
  obtain rfl:r=(n:Int):=by rw [er,Ae]
  refine ⟨_,rfl,by lia,by lia,?_⟩
  refine fZ (lo:=0) (n:=n) (λ i U H'=>A5 (aB H H') (∃ fp,aR K Ad.aY H' a fp (tm.m2 n i)/\∀ b∈fp,H b=none) ((tm.m2 n i).rows.length=n) (Tw (tm.m2 n i)) (E5 λ x4 x5 x6 x7 x8=>U=[some (.ref p),some (.ref pb),some (.ref fm),some (.ref a),x4,x5,x6,x7,x8]))
    ⟨S2,⟨fp,hh,hF⟩,UP,⟨_,_,tm.WB n,⟨λ _=>by decide,λ _ _=>by decide,λ _=>rfl⟩⟩,x4,x5,x6,x7,x8,rfl⟩ ?_ ?_
  .
   rintro _ _ _ i U H3 hi ⟨S3,⟨fp3,Pa,hF3⟩,O8,tw,y4,y5,y6,y7,y8,rfl⟩
   have C3:=C0.same S3
   have yf:i<tm.dE.length:=by rw [ok.ls];exact hi
   have nR:i<tm.aF.length:=by rw [ok.lt];exact hi
   obtain ⟨vz,evz,pz,wz,rfl,zN,dz⟩:=C3.ds.get (i:=i) (d:=DW tm.dE[i]) (by rw [RS,av yf];rfl)
   obtain ⟨z1,r1,rfl,e1,z2,r2,rfl,e2,z3,r3,rfl,e3,e4⟩:=dz
   have e4:r3=[]:=e4
   have e1:z1 = .int tm.dE[i].1:=e1
   have e2:z2 = .int tm.dE[i].2.1:=e2
   have e3:z3 = .int tm.dE[i].2.2:=e3
   subst e1 e2 e3 e4
   have hz:bS K H3 pz [.int tm.dE[i].1,.int tm.dE[i].2.1,.int tm.dE[i].2.2]:=bZ.tup zN
   have J0:=ok.dE tm.dE[i] (aaA yf)
   obtain ⟨⟨dx,_,_,_,_,_,_,_,_,_,ha,_⟩,lsk,lst,_⟩:=id Pa
   refine ⟨_,rfl,p,_,rfl,sR C3.hp,_,rfl,ps,vs,_,_,rfl,rfl,.inl (bg.of C3.ft),by rw [aaz];exact bh evz,?_⟩
   refine ⟨_,rfl,a,dx,_,rfl,ha,rfl,_,rfl,_,rfl,pz,_,_,_,rfl,rfl,.inr hz,rfl,_,12,rfl,by decide,mT,λ q r u Hr F sr hu=>?_⟩
   refine ⟨_,rfl,pz,_,_,_,rfl,rfl,.inr (sr.tup hz),rfl,_,rfl,_,1,fm,tm.scale,rfl,(S3.trans sr).tup L5,ok.scale,(show (tm.dE[i].2.1).natAbs<2 ^ 30 by lia),by decide,mT,λ q1 Hw sw HX=>?_⟩
   refine ⟨_,rfl,pz,_,_,_,rfl,rfl,.inr (sw.tup (sr.tup hz)),rfl,_,rfl,_,1,fm,tm.scale,rfl,((S3.trans sr).trans sw).tup L5,ok.scale,(show (tm.dE[i].2.2).natAbs<2 ^ 30 by lia),by decide,mT,λ q2 Hx sx Ig=>?_⟩
   have s3x:=(sr.trans sw).trans sx
   have f12:Ov 12 tm.dE[i].1 (nf tm.dE[i].1 12):=Ov.nf (by decide)
   have okw:∀ x:Int,-200<=x->x<=200->eA 100 (aZ x 1 tm.scale):=λ x h1 h2=>(rf (n:=8) ok.scale (by decide) (show x.natAbs<2 ^ 8 by lia) mT).mono (by decide)
   refine ⟨a,fp3,_,i,.ref u,.ref q1,.ref q2,nf tm.dE[i].1 12,aZ tm.dE[i].2.1 1 tm.scale,aZ tm.dE[i].2.2 1 tm.scale,by rw [aaz];rfl,Pa.same s3x,by lia,Dn.same (sw.trans sx) _ (HN (by decide) F hu),Dn.same sx _ (hV (bS.of HX)),hV (bS.of Ig),
     Fj (by decide) (show (tm.dE[i].1).natAbs<2 ^ 100 by lia) mT,okw _ (by lia) (by lia),okw _ (by lia) (by lia),?_,L2.Ov.nonneg (by decide) f12 J0.1.1,tw.rq (by lia) (by lia) f12 J0.1.2,λ H4 Ub D4=>?_⟩
   . rw [ki ok.scale (by decide)]
     exact abC (by lia)
   .
    obtain ⟨S4,F4⟩:=D4.keep (S3.trans s3x) hF3
    have C4:=C0.same S4
    have NK:tm.gi (tm.m2 n i) i=(tm.m2 n i).e8 i (tm.nT tm.dE[i]):=by unfold aw.gi;rw [av yf]
    have tw4:Tw (tm.gi (tm.m2 n i) i):=by rw [NK];exact tw.dE (by lia) f12 J0.1.1 J0.1.2
    have rw4:(tm.gi (tm.m2 n i) i).rows.length=n:=by rw [NK];exact O8
    have Yy:aR K Ad.aY H4 a Ub (tm.gi (tm.m2 n i) i):=by rw [NK];exact D4.at_
    generalize hm4:tm.gi (tm.m2 n i) i=m4 at tw4 rw4 Yy
    obtain ⟨vq,HP,dq⟩:=C4.dt.get (i:=i) (d:=stI tm.aF[i]) (by rw [RS,av nR];rfl)
    refine ⟨_,rfl,p,_,rfl,dR C4.hp,_,rfl,pt,vt,_,_,rfl,rfl,.inl (bg.of C4.c8),by rw [aaz];exact bh HP,?_⟩
    refine ⟨λ σ' H5=>A5 (aB H H5) (∃ fp,aR K Ad.aY H5 a fp (tm.b8 m4 i)/\∀ b∈fp,H b=none) ((tm.b8 m4 i).rows.length=n) (Tw (tm.b8 m4 i)) (E2 λ y6 y7=>σ'=[some (.ref p),some (.ref pb),some (.ref fm),some (.ref a),y4,some (.int (0+(i:Int))),y6,y7,y8]),?_,?_⟩
    .
     refine ⟨_,rfl,rfl,_,rfl,?_⟩
     cases yA:tm.aF[i] with
     | none =>
       rw [yA] at dq
       have dq:vq = .bT:=dq
       subst dq
       have es:tm.b8 m4 i=m4:=by unfold aw.b8;rw [av nR,yA]
       rw [es]
       refine cY rfl ⟨S4,⟨Ub,Yy,F4⟩,rw4,tw4,_,_,rfl⟩
     | some z =>
       rw [yA] at dq
       obtain ⟨pq,wq,rfl,Ij,t1,r1,rfl,e1,t2,r2,rfl,e2,t3,r3,rfl,e3,t4,r4,rfl,e4,e5⟩:=dq
       have e5:r4=[]:=e5
       have e1:t1 = .int z.1:=e1
       have e2:t2 = .int z.2.1:=e2
       have e3:t3 = .int z.2.2.1:=e3
       have e4:t4 = .int z.2.2.2:=e4
       subst e1 e2 e3 e4 e5
       have HY:bS K H4 pq [.int z.1,.int z.2.1,.int z.2.2.1,.int z.2.2.2]:=bZ.tup Ij
       have HZ:=ok.aF z (by rw [← yA];exact aaA nR)
       have Td:bS K H4 fm tm.scale.vs:=S4.tup L5
       obtain ⟨⟨dx4,_,_,_,_,_,_,_,_,_,ha4,_⟩,_⟩:=id Yy
       refine Fo nofun ⟨_,rfl,a,dx4,_,rfl,ha4,rfl,_,rfl,_,rfl,pq,_,_,_,rfl,rfl,.inr HY,rfl,_,rfl,fm,_,_,_,rfl,rfl,.inr Td,rfl,_,_,rfl,rfl,⟨10,30,(show (z.1).natAbs<2 ^ 10 by have:=HZ.h;lia),ok.scale.ba,by decide⟩,λ yy ey=>?_⟩
       have hB:0<tm.scale.b:=by have:=ok.scale.b0;lia
       refine ⟨_,rfl,fm,_,_,_,rfl,rfl,.inr Td,rfl,yy,tm.scale.b,rfl,hB,ok.scale.bb.mono (by decide),λ q' r' u' Hr' F' MY MZ=>?_⟩
       refine ⟨_,rfl,pq,_,_,_,rfl,rfl,.inr (MY.tup HY),rfl,_,rfl,pq,_,_,_,rfl,rfl,.inr (MY.tup HY),rfl,_,rfl,pq,_,_,_,rfl,rfl,.inr (MY.tup HY),rfl,?_⟩
       subst ey
       have bz:Bd 40 (z.1 * tm.scale.a):=Bd.mul (m:=10) (n:=30) (show (z.1).natAbs<2 ^ 10 by have:=HZ.h;lia) ok.scale.ba
       have ob:Ov tm.scale.b (z.1 * tm.scale.a) (nf (z.1 * tm.scale.a) tm.scale.b):=Ov.nf hB
       have es:tm.b8 m4 i=m4.eU i (tm.jw z):=by unfold aw.b8;rw [av nR,yA]
       refine ⟨a,Ub,m4,i,.ref u',nf (z.1 * tm.scale.a) tm.scale.b,z.2.1,z.2.2.1,z.2.2.2,by rw [aaz];rfl,Yy.same MY,by lia,HN hB F' MZ,Fj hB (bz.mono (by decide)) (ok.scale.bb.mono (by decide)),L2.Ov.nonneg hB ob (aon HZ.h.1 (by have:=ok.scale.a0;lia)),HZ.w,HZ.s,HZ.f,λ H5 fp5 D5=>?_⟩
       obtain ⟨S5,F5⟩:=D5.keep (S4.trans MY) F4
       rw [es]
       exact ⟨S5,⟨fp5,D5.at_,F5⟩,rw4,tw4.i3,_,_,rfl⟩
    .
     rintro σ' H5 ⟨S5,⟨fp5,hh5,F5⟩,rw5,tw5,y6,y7,rfl⟩
     have C5:=C0.same S5
     refine ⟨_,rfl,p,_,rfl,bP C5.hp,pm,vm,rfl,.inl (bg.of C5.dI),λ r' er'=>?_⟩
     obtain rfl:r'=(n:Int):=by rw [er',Ae]
     refine ⟨_,rfl,by lia,by lia,?_⟩
     generalize hm5:tm.b8 m4 i=m5 at hh5 rw5 tw5
     refine fZ (lo:=0) (n:=n) (λ j U H6=>A5 (aB H H6) (∃ fp,aR K Ad.aY H6 a fp (tm.eJ i m5 j)/\∀ b∈fp,H b=none) ((tm.eJ i m5 j).rows.length=n) (Tw (tm.eJ i m5 j)) (∃ x8,U=[some (.ref p),some (.ref pb),some (.ref fm),some (.ref a),y4,some (.int (0+(i:Int))),y6,y7,x8]))
       ⟨S5,⟨fp5,hh5,F5⟩,rw5,tw5,_,rfl⟩ ?_ ?_
     .
      rintro _ _ _ j U H6 hj ⟨S6,⟨Yz,Pc,F6⟩,Vq,tw6,x8,rfl⟩
      refine ⟨_,rfl,_,rfl,rfl,_,rfl,?_⟩
      rw [aw.oO]
      generalize tm.eJ i m5 j=m6 at Pc Vq tw6
      refine mO (λ h=>?_) (λ h=>?_)
      .
       have uW:i≠j:=λ e=>h (by rw [e])
       obtain ⟨kk,hk,k0,k3⟩:=ok.bI i j hi hj uW
       have C6:=C0.same S6
       obtain ⟨⟨dx6,_,_,_,_,_,_,_,_,_,ha6,_⟩,_⟩:=id Pc
       refine ⟨_,rfl,a,dx6,_,rfl,ha6,rfl,_,rfl,_,rfl,_,rfl,p,_,rfl,nO C6.hp,_,rfl,_,rfl,mS,λ kp zd=>?_⟩
       have sk:=ai (o:=.tup [.int (0+(i:Int)),.int (0+(j:Int))]) zd
       have pj:(upd H6 kp (.tup [.int (0+(i:Int)),.int (0+(j:Int))])) kp=some (.tup ((fW i j).map kV)):=by rw [ah,aaz,aaz];rfl
       have Dk:gS (upd H6 kp (.tup [.int (0+(i:Int)),.int (0+(j:Int))])) pf (.ref kp) (some (.int kk)):=by
         have:=gS.t (k:=fW i j) (sk _ _ C6.gX) pj
         rw [C6.df i j (by lia) (by lia),hk] at this
         exact this
       refine ⟨pf,.int kk,rfl,Dk,kk,12,rfl,by decide,mT,λ q' r' u' Hr' F' MY MZ=>?_⟩
       have OG:Ov 12 kk (nf kk 12):=Ov.nf (by decide)
       have sA:=sk.trans MY
       refine ⟨a,Yz,m6,i,j,.ref u',nf kk 12,by rw [aaz,aaz];rfl,Pc.same sA,by lia,by lia,uW,HN (by decide) F' MZ,Fj (by decide) (show kk.natAbs<2 ^ 100 by lia) mT,L2.Ov.nonneg (by decide) OG k0,tw6.lB (by lia) (by lia) uW (by lia) OG k3,λ H7 fp7 D7=>?_⟩
       obtain ⟨S7,F7⟩:=D7.keep (S6.trans sA) F6
       have ef:tm.gA i m6 j=m6.dH i j (nf kk 12):=by unfold aw.gA;rw [aa8 uW.symm,hk]
       rw [ef]
       exact ⟨S7,⟨fp7,D7.at_,F7⟩,Vq,tw6.fo uW OG k0 k3,_,rfl⟩
      . have uW:i=j:=by have:=eK.mp h;lia
        have ef:tm.gA i m6 j=m6:=by unfold aw.gA;rw [abl uW.symm]
        rw [ef]
        exact ⟨S6,⟨Yz,Pc,F6⟩,Vq,tw6,_,rfl⟩
     . rintro U H6 ⟨S6,⟨Yz,Pc,F6⟩,Vq,tw6,x8,rfl⟩
       have e2:tm.m2 n (i+1)=tm.eJ i m5 n:=by rw [aw.CI,← hm5,← hm4];rfl
       rw [e2]
       exact ⟨S6,⟨Yz,Pc,F6⟩,Vq,tw6,_,_,_,_,_,rfl⟩
  . rintro U H3 ⟨S3,⟨fp3,Pa,hF3⟩,O8,tw,y4,y5,y6,y7,y8,rfl⟩
    exact ⟨_,rfl,k a H3 fp3 S3 Pa hF3 O8 tw⟩
theorem eT (T:Txt K mg Ad):Def P w K mg base "has_room" 1 ["bits","room"] yq:=by
 refine T.AH.cM za λ f bB A outer s H vs Q E hr h=>?_
 obtain ⟨n,r,rfl,k⟩:=h
 refine ⟨_,(am (aH (e9 gB (ax gz (ax wa (pv 0) (pv 1)) af) af (aL _)))),?_⟩
 try dsimp only [d9,aT]
 refine ⟨_,rfl,_,rfl,_,_,rfl,rfl,amz _,λ s es=>⟨_,_,rfl,rfl,by decide,λ m _ _ em=>⟨rfl,?_⟩⟩⟩
 rw [CB n r es em]
 exact k
theorem nV (T:Txt K mg Ad):Def P w K mg base "with_room" 1 ["bits","room"] xb:=by
 refine T.yd.cM wI λ f bB A outer s H vs Q E hr h=>?_
 obtain ⟨n,r,rfl,JC,k⟩:=h
 refine ⟨_,(am (aH (ax Nj (pv 0) (ax JD af (pv 1))))),?_⟩
 try dsimp only [d9,aT]
 refine ⟨_,rfl,_,rfl,_,_,rfl,rfl,⟨amz _,by lia,by decide⟩,λ s es=>⟨_,_,rfl,rfl,λ m em=>?_⟩⟩
 have e1:s=((2 ^ r:Nat):Int):=by rw [es,aff,Int.one_mul,Int.natCast_pow];rfl
 rw [em,e1,ED]
 exact k
theorem kr (T:Txt K mg Ad):Def P w K mg base "members" 2 ["bits"] Ax:=by
 refine T.Do.cM Ag λ f bB A outer s H vs Q E hr h=>?_
 obtain ⟨n,rfl,hn,k⟩:=h
 refine ⟨_,(am (aH (lS ["room"] ["bits"] [0] (.cons ⟨rfl,rfl,.inl rfl⟩ .nil) rfl (bH rfl T.cC (aa (MR PySem.F.plainAttrs_int PySem.F.slot_int_bit_length PySem.F.type_int_bit_length D6 (pv 0)) ac)) (λ _ _ _ _ _=>(aK (i:=0) (show (["room","bits"]:List Str).Nodup by decide +kernel) rfl (lc rfl))) (λ _ _ _ _ _=>(jA (bK (ak (eT (K:=K) T) hr.m (aa (pv 1) (aa (pv 0) ac)))))) (λ _ _ _ _ _=>(pv 0)) rfl (by decide +kernel) (by decide +kernel) (by decide +kernel)))),?_⟩
 try dsimp only [d9,aT]
 refine ⟨_,rfl,rfl,_,rfl,rfl,λ b eb=>?_⟩
 have hb:Builtin.Int.intBits (n:Int)<=61:=PySem.intBits_le_iff.mpr (by simpa using hn)
 have Mz:n<2 ^ Builtin.Int.intBits (n:Int):=by
   have:=PySem.intBits_le_iff.mp (aar (Builtin.Int.intBits (n:Int)))
   simpa using this
 have eN:b.toNat=Builtin.Int.intBits (n:Int):=by lia
 refine ⟨b,rfl,by lia,by lia,λ D hD=>?_⟩
 refine dW (λ i acc U H'=>A3 (H'=upd H D (.lst acc)) (acc=((List.range i).filter n.testBit).map aq) (∃ v,U=[v,some (aq n)])) ⟨rfl,rfl,none,rfl⟩ ?_ ?_
 .
  rintro i acc U H' hi ⟨rfl,rfl,v,rfl⟩
  refine ⟨_,rfl,_,rfl,n,i,(by show [_,_]=[_,_];rw [aaz];rfl),_,rfl,?_⟩
  have er:((List.range (i+1)).filter n.testBit).map aq=((List.range i).filter n.testBit).map aq++(if n.testBit i=true then [aq i] else []):=by
    rw [aeA,ag3,YC]
    by_cases q:n.testBit i=true<;>simp [q]
  by_cases q:n.testBit i=true
  .
   rw [q]
   refine fw ⟨_,rfl,ah,?_,?_,?_,_,rfl⟩
   . have:=ae9 n.testBit (List.range i)
     rw [acT] at this
     rw [At]
     exact aS (by lia)
   . rw [CS]
   . rw [er,abl q,aaz];rfl
  . rw [Bool.not_eq_true] at q
    rw [q]
    refine dF ⟨rfl,?_,_,rfl⟩
    rw [er,q];simp
 . rintro acc U H' ⟨rfl,rfl,v,rfl⟩
   refine k D _ hD (ai hD) ?_
   rw [ah,eN,Bit.A9 Mz hb]
theorem AQ (T:Txt K mg Ad):Def P w K mg base "subsets" 3 ["bits"] Aj:=by
 refine T.EK.cM kh λ f bB A outer s H vs Q E hr h=>?_
 obtain ⟨n,rfl,hn,h8,k⟩:=h
 refine ⟨_,(ag (az (i:=1) kh.nd rfl (lc rfl) (dB (aa af ac)))
     (ag (dO ad4 rfl (fL (ak (kr (K:=K) T) hr.m (aa (pv 0) ac))) (aK (i:=2) kh.nd rfl (lc rfl)) (am (az (i:=1) kh.nd rfl (lc rfl) (ax FX (pv 1) (lS ["part"] ["room"] [2] (.cons ⟨rfl,rfl,.inl rfl⟩ .nil) rfl (fL (pv 1)) (λ _ _ _ _ _=>(aK (i:=0) (show (["part","room"]:List Str).Nodup by decide +kernel) rfl (lc rfl))) (λ _ _ _ _ _=>fM) (λ _ _ _ _ _=>(ak (nV (K:=K) T) hr.m (aa (pv 0) (aa (pv 1) ac)))) rfl (by decide +kernel) (by decide +kernel) (by decide +kernel))))))
     (am (aH (pv 1))))),?_⟩
 try dsimp only [d9,aT]
 first|(refine fF ?_;intro _ _ _ _)|skip
 refine ⟨(by show 1<=sizeLine;decide),λ p0 tD=>⟨_,rfl,n,rfl,hn,λ pm Hm dI sm km=>⟨pm,rfl,⟨_,bg.of km⟩,?_⟩⟩⟩
 have s0:=(ai (o:=.lst [.int 0]) tD).trans sm
 refine lW (K:=K) (a:=pm) (xs:=(Bit.rooms n).map aq) (λ i U H'=>aB Hm H'/\E2 λ (pp:Addr) (v:Option V)=>A3 (H pp=none) (U=[some (aq n),some (.ref pp),v]) (H' pp=some (.lst ((Bit.parts ((Bit.rooms n).take i)).map aq))))
   ⟨aB.refl _,p0,none,tD,rfl,sm _ _ ah⟩ (λ i U H' _ ⟨s1,_⟩=>bg.of (s1 _ _ km)) ?_ ?_
 .
  rintro i x U H' hx ⟨s1,pp,v,xi,rfl,kp⟩
  obtain ⟨r,er,rfl⟩:=eP hx
  have LI:i<(Bit.rooms n).length:=(List.getElem?_eq_some_iff.mp er).1
  have aqo:r<61:=(Bit.dJ.mp (ac8 er)).1
  have aut:(Bit.parts ((Bit.rooms n).take i)).length<=256:=by
    rw [(K2 n i).len,abX]
    exact afY (aib (by decide) (by lia:min i (Bit.rooms n).length<=8)) (by decide)
  have next:Bit.parts ((Bit.rooms n).take (i+1))=Bit.parts ((Bit.rooms n).take i)++(Bit.parts ((Bit.rooms n).take i)).map (· ||| 2 ^ r):=by
    rw [iS er,AE]
  generalize Bit.parts ((Bit.rooms n).take i)=ps at *
  refine ⟨_,rfl,_,rfl,pp,rfl,⟨_,bg.of kp⟩,λ D hD=>?_⟩
  have nD:pp≠D:=aC kp hD
  refine iO (K:=K) (a:=pp) (xs:=ps.map aq) (λ j acc σ' H2=>A3 (H2=upd H' D (.lst acc)) (acc=(ps.take j).map (λ p=>aq (p ||| 2 ^ r))) (∃ v,σ'=[v,some (aq r)])) ⟨rfl,rfl,none,rfl⟩
    (λ j acc σ' H2 _ ⟨e,_,_⟩=>by subst e;exact bg.of (by rw [aD nD];exact kp)) ?_ ?_
  .
   rintro j y acc σ' H2 hy ⟨rfl,rfl,v2,rfl⟩
   obtain ⟨p,ep,rfl⟩:=eP hy
   refine ⟨_,rfl,_,rfl,p,r,rfl,by lia,ah,?_,?_,?_,_,rfl⟩
   . rw [At,abX];exact aS (by lia)
   . rw [CS]
   . rw [iS ep,YC];rfl
  .
   rintro acc σ' H2 ⟨rfl,rfl,v2,rfl⟩
   rw [At,agc]
   refine ⟨pp,D,_,_,rfl,rfl,(by rw [aD nD];exact kp),ah,?_,λ q hq=>?_⟩
   . rw [At,At];exact aoW (aS (by lia))
   . have s2:=ai (o:=.lst (ps.map λ p=>aq (p ||| 2 ^ r))) hD
     have s3:=ai (o:=.lst (ps.map aq++ps.map λ p=>aq (p ||| 2 ^ r))) hq
     refine ⟨s1.trans (s2.trans s3),q,_,s0.free (s1.free (s2.free hq)),rfl,?_⟩
     rw [ah,next,YC,aoj];rfl
 . rintro U H' ⟨s1,pp,v,xi,rfl,kp⟩
   rw [At,agc] at kp
   exact ⟨_,rfl,k pp H' xi (s0.trans s1) kp⟩
theorem qa (T:Txt K mg Ad):Def P w K mg base "how_many" 3 ["bits"] xE:=by
 refine T.AW.cM zc λ f bB A outer s H vs Q E hr h=>?_
 obtain ⟨n,rfl,hn,k⟩:=h
 refine ⟨_,(am (aH (aO bv (by rfl) T.dS cJ (aa (ak (kr (K:=K) T) hr.m (aa (pv 0) ac)) ac)))),?_⟩
 try dsimp only [d9,aT]
 refine ⟨_,rfl,n,rfl,hn,λ pm Hm dI sm km=>⟨pm,_,rfl,.inl (bg.of km),λ y ey=>?_⟩⟩
 rw [At] at ey
 rw [ey]
 exact k Hm sm
theorem ni (T:Txt K mg Ad):Def P w K mg base "bits_of" 2 ["rooms"] (Ek K):=by
 refine T.DP.cM j3 λ f bB A outer s H vs Q E hr h=>?_
 obtain ⟨p,l,rfl,hp,hl,k⟩:=h
 refine ⟨_,(ag (az (i:=1) j3.nd rfl (lc rfl) af)
     (ag (dO ad4 rfl (fL (pv 0)) (aK (i:=2) j3.nd rfl (lc rfl)) (am (az (i:=1) j3.nd rfl (lc rfl) (ak (nV (K:=K) T) hr.m (aa (pv 1) (aa (pv 2) ac))))))
     (am (aH (pv 1))))),?_⟩
 try dsimp only [d9,aT]
 first|(refine fF ?_;intro _ _ _ _)|skip
 refine ⟨_,rfl,p,rfl,⟨_,hp⟩,?_⟩
 refine lW (K:=K) (a:=p) (xs:=l.map aq) (λ i U H'=>H'=H/\∃ v,U=[some (.ref p),some (aq (Bit.sumOf (l.take i))),v]) ⟨rfl,none,rfl⟩ (λ i U H' _ e=>by rw [e.1];exact hp) ?_ ?_
 .
  rintro i x U H' hx ⟨rfl,v,rfl⟩
  obtain ⟨r,er,rfl⟩:=eP hx
  have en:Bit.sumOf (l.take (i+1))=Bit.sumOf (l.take i) ||| 2 ^ r:=by
    rw [iS er]
    unfold Bit.sumOf
    rw [ai6]
    rfl
  exact ⟨_,rfl,_,rfl,_,r,rfl,hl r (ac8 er),rfl,_,by rw [en];rfl⟩
 . rintro U H' ⟨rfl,v,rfl⟩
   rw [At,agc]
   exact ⟨_,rfl,k⟩
theorem tR (T:Txt K mg Ad):Def P w K mg base "fits_stove" 1 ["stove","fired","wait","failed"] (tT K):=by
 refine T.wg.cM jL λ f bB A outer s H vs Q E hr h=>?_
 obtain ⟨v,z,f,w',b,rfl,hd,hf,k⟩:=h
 refine ⟨_,(ag (aU (aJ nK (pv 0) b9 (aL _)) (am (aH (ng (Bx (pv 1)) (ng (e9 gB (pv 2) af (aL _)) (pF (e9 gB (pv 3) af (aL _))))))) aI)
     (ag (jF (mh Cj (pv 0) (kX af) vJ) (fP (K:=K) (n:=2) rfl rfl (bj (aK (i:=4) jL.nd rfl (lc rfl)) (bj (aK (i:=5) jL.nd rfl (lc rfl)) fG))))
     (ag (aU (PW.pt (io (cS (hR fX fX af (pv 2) (pv 4))) (gR (cS (hR fX fX af (pv 3) (pv 5)))))) (am (aH lg)) aI)
     (am (aH (Rn (e9 gB (pv 3) af (aL _)) (pF (ng (Bx (pv 1)) (pF (e9 gB (pv 2) af (aL _))))))))))),?_⟩
 try dsimp only [d9,aT]
 first|(refine d5 ?_;intro _ _ _ _ _)|skip
 cases z with
 | none =>
   obtain ⟨rfl,rfl,rfl⟩:=hf
   have hd:v = .bT:=hd
   subst hd
   exact ⟨_,rfl,rfl,_,rfl,oP rfl ⟨_,rfl,_,rfl,_,rfl,fw ⟨_,rfl,rfl,_,rfl,oP rfl ⟨_,rfl,rfl,blT rfl (k H (aB.refl _))⟩⟩⟩⟩
 | some z =>
   obtain ⟨p,v1,rfl,hp,_⟩:=hd.i3
   refine ⟨_,rfl,rfl,_,rfl,ny nofun ?_⟩
   refine ⟨_,rfl,2,rfl,p,_,2,rfl,hp,rfl,rfl,by decide,(by show 2<=4;decide),λ q hq=>?_⟩
   refine ⟨q,_,rfl,bS.of ah,rfl,_,_,rfl,_,_,rfl,rfl,?_⟩
   have s1:=ai (o:=.tup [V.int z.2.2.1,V.int z.2.2.2]) hq
   obtain ⟨f1,f2,f3⟩:=hf
   refine ⟨_,rfl,_,_,rfl,rfl,_,rfl,oP (by lia) ⟨_,rfl,_,_,rfl,rfl,_,rfl,cY f1 ?_⟩⟩
   refine ⟨_,rfl,_,_,rfl,rfl,_,rfl,oP (by lia) ⟨_,rfl,_,_,rfl,rfl,_,rfl,cY f2 ?_⟩⟩
   refine ⟨_,rfl,rfl,_,rfl,?_⟩
   rcases f3 with rfl|⟨rfl,rfl⟩
   . exact oP rfl (k _ s1)
   . refine d6 (λ _=>k _ s1) (λ _=>⟨_,rfl,_,rfl,_,rfl,fw ⟨_,rfl,rfl,blT rfl (k _ s1)⟩⟩)
theorem vH (T:Txt K mg Ad):Def P w K mg base "fits_room" 5 ["hold","state","room"] (w6 K Ad.aY):=by
 refine T.xK.cM fq λ f bB A outer s H vs Q E hr h=>?_
 obtain ⟨a,fp,m,p,st,i,rfl,hh,hs,ok,hi,k⟩:=h
 refine ⟨_,(ag (jF (pv 1) (fP (K:=K) (n:=5) rfl rfl (bj (aK (i:=3) fq.nd rfl (lc rfl)) (bj (aK (i:=4) fq.nd rfl (lc rfl)) (bj (aK (i:=5) fq.nd rfl (lc rfl)) (bj (aK (i:=6) fq.nd rfl (lc rfl)) (bj (aK (i:=7) fq.nd rfl (lc rfl)) fG)))))))
     (ag (aU (cS (hR fX lQ af (ay au (pv 3) (pv 2) (λ _ _=>rfl)) (ax cO (aO bv (by rfl) T.dS cJ (aa (aX (pv 0) T.aE (gl (K:=K) T) .nil hr.m (aa (pv 2) ac)) ac)) af))) (am (aH lg)) aI)
     (am (aH (ak (tR (K:=K) T) hr.m (aa (aX (pv 0) T.aE (dM (K:=K) T) .nil hr.m (aa (pv 2) ac)) (aa (ak (eT (K:=K) T) hr.m (aa (pv 4) (aa (pv 2) ac))) (aa (ay au (pv 5) (pv 2) (λ _ _=>rfl)) (aa (ay au (pv 6) (pv 2) (λ _ _=>rfl)) ac))))))))),?_⟩
 try dsimp only [d9,aT]
 first|(refine fF ?_;intro _ _ _ _)|skip
 obtain ⟨pb,pw,pf,e0,eb,ew,ef⟩:=id hs
 obtain ⟨⟨dx,_,_,_,_,_,_,_,_,_,ha,_⟩,q1,q2,q3,q4⟩:=id hh
 have Fp:=av hi
 have NH:m.rows.getD i []=m.rows[i]:=by rw [Nv,Fp];rfl
 have hb:=ok.band i hi
 rw [NH] at hb
 have l7:=q4.len m.rows[i] (aaA hi)
 have hz:=mm (m:=m) (i:=i) (by lia)
 refine ⟨_,rfl,p,_,rfl,e0,rfl,_,_,rfl,_,_,rfl,_,_,rfl,_,_,rfl,_,_,rfl,rfl,?_⟩
 refine ⟨_,rfl,_,rfl,_,_,_,_,rfl,rfl,.inr eb,qi (by rw [ok.lb];exact hi),_,_,rfl,rfl,_,rfl,oP (by lia) ?_⟩
 refine ⟨_,rfl,a,dx,_,rfl,ha,rfl,_,rfl,a,fp,m,i,_,rfl,hh,Fp,λ pm xs dI dx1=>⟨pm,xs,rfl,.inl (bg.of ah),λ y ey=>⟨_,_,rfl,rfl,λ z ez=>⟨_,_,rfl,rfl,_,rfl,cY ?_ ?_⟩⟩⟩⟩
 . have:=dx1.length
   rw [At] at this
   lia
 have s1:=ai (o:=.lst xs) dI
 refine ⟨_,rfl,a,dx,_,rfl,s1 _ _ ha,rfl,_,rfl,a,fp,m,i,_,rfl,hh.same s1,hz,λ v dv=>?_⟩
 refine ⟨_,rfl,_,rfl,st.cT,i,rfl,?_⟩
 refine ⟨_,rfl,_,rfl,_,_,_,_,rfl,rfl,.inr (s1.tup ew),qi (by rw [ok.lw];exact hi),?_⟩
 refine ⟨_,rfl,_,rfl,_,_,_,_,rfl,rfl,.inr (s1.tup ef),qi (by rw [ok.lf];exact hi),?_⟩
 exact ⟨v,m.tH i,_,_,_,rfl,dv,ok.i3 i hi,λ H' s'=>k H' (s1.trans s')⟩
theorem yk (T:Txt K mg Ad):Def P w K mg base "is_state" 6 ["hold","state"] (zv K Ad.aY):=by
 refine T.BC.cM eW λ f bB A outer s H vs Q E hr h=>?_
 obtain ⟨a,fp,m,p,st,rfl,hh,hs,ok,k⟩:=h
 refine ⟨_,(ag (jF (pv 1) (fP (K:=K) (n:=5) rfl rfl (bj (aK (i:=2) eW.nd rfl (lc rfl)) (bj (aK (i:=3) eW.nd rfl (lc rfl)) (bj (aK (i:=4) eW.nd rfl (lc rfl)) (bj (aK (i:=5) eW.nd rfl (lc rfl)) (bj (aK (i:=6) eW.nd rfl (lc rfl)) fG)))))))
     (ag (az (i:=7) eW.nd rfl (lc rfl) (cP (pv 0) T.aE (cw (K:=K) T) .nil hr.m))
     (ag (aU (PW.pt (io (aJ hU (aO bv (by rfl) T.dS cJ (aa (pv 2) ac)) (pv 7) (aL _)) (io (aJ hU (aO bv (by rfl) T.dS cJ (aa (pv 4) ac)) (pv 7) (aL _)) (gR (aJ hU (aO bv (by rfl) T.dS cJ (aa (pv 5) ac)) (pv 7) (aL _)))))) (am (aH lg)) aI)
     (ag (aU (PW.pt (io (aJ hU (ax wa (pv 3) (pv 7)) af (aL _)) (gR (aJ lY (ak (qa (K:=K) T) hr.m (aa (pv 3) ac)) (bC (pv 0) rfl) (aL _))))) (am (aH lg)) aI)
     (ag (aU (cS (hR fX fX af (pv 6) (bC (pv 0) rfl))) (am (aH lg)) aI)
     (am (aH (aO (vf rfl) (by rfl) T.LH Ft (aa (lS ["room"] ["hold","state"] [0,1] (.cons ⟨rfl,rfl,.inl rfl⟩ (.cons ⟨rfl,rfl,.inl rfl⟩ .nil)) rfl (bH rfl T.cC (aa (pv 7) ac)) (λ _ _ _ _ _=>(aK (i:=0) (show (["room","hold","state"]:List Str).Nodup by decide +kernel) rfl (lc rfl))) (λ _ _ _ _ _=>fM) (λ _ _ _ _ _=>(ak (vH (K:=K) T) hr.m (aa (pv 1) (aa (pv 2) (aa (pv 0) ac))))) rfl (by decide +kernel) (by decide +kernel) (by decide +kernel)) ac))))))))),?_⟩
 try dsimp only [d9,aT]
 first|(refine jN ?_;intro _ _ _ _ _ _ _)|skip
 obtain ⟨pb,pw,pf,e0,eb,ew,ef⟩:=id hs
 obtain ⟨⟨dx,pm,Lr,JN,Kc,vm,vs,vt,aN,_,ha,_⟩,q1,q2,q3,q4⟩:=id hh
 have acQ:st.cT<2 ^ 61:=abE ok.cT (aib (by decide) (by lia))
 refine ⟨_,rfl,p,_,rfl,e0,rfl,_,_,rfl,_,_,rfl,_,_,rfl,_,_,rfl,_,_,rfl,rfl,?_⟩
 refine ⟨_,rfl,a,dx,_,rfl,ha,rfl,a,fp,m,rfl,hh,?_⟩
 refine ⟨_,rfl,pb,_,rfl,.inr eb,λ y ey=>⟨_,rfl,rfl,_,rfl,cY (by rw [ey,At,ok.lb];rfl) ?_⟩⟩
 refine ⟨_,rfl,pw,_,rfl,.inr ew,λ y ey=>⟨_,rfl,rfl,_,rfl,cY (by rw [ey,At,ok.lw];rfl) ?_⟩⟩
 refine ⟨_,rfl,pf,_,rfl,.inr ef,λ y ey=>⟨_,rfl,rfl,_,rfl,cY (by rw [ey,At,ok.lf];rfl) ?_⟩⟩
 refine ⟨_,rfl,_,rfl,_,_,rfl,rfl,amz _,λ s es=>⟨rfl,_,rfl,cY ?_ ?_⟩⟩
 . rw [es,aff]
   have:((st.cT:Nat):Int) / 2 ^ m.rows.length=0:=Int.ediv_eq_zero_of_lt (amz _) (by exact_mod_cast ok.cT)
   rw [this]
 refine ⟨_,rfl,st.cT,rfl,acQ,λ H1 s1=>⟨_,rfl,a,_,dx,_,_,rfl,s1 _ _ ha,T.aE,T.ix,rJ ..,_,_,rfl,rfl,_,rfl,ny (by have:=ok.most;lia) ?_⟩⟩
 refine ⟨_,rfl,_,_,rfl,rfl,_,rfl,oP (by lia) ⟨_,rfl,a,_,dx,_,_,rfl,s1 _ _ ha,T.aE,T.jk,xj ..,_,_,rfl,rfl,_,rfl,cY ok.heap ?_⟩⟩
 refine ⟨_,rfl,_,rfl,by lia,by lia,λ D hD=>?_⟩
 refine dW (lo:=0) (n:=m.rows.length) (λ i acc U H'=>A4 (aB H1 H') (H' D=some (.lst acc)) (acc=(List.replicate i true).map V.bl) (∃ v,U=[v,some (.ref a),some (.ref p)])) ⟨ai hD,ah,rfl,none,rfl⟩ ?_ ?_
 . rintro i acc U H' hi ⟨s2,ln,rfl,v,rfl⟩
   refine ⟨_,rfl,_,rfl,_,rfl,a,fp,m,p,st,i,(by rw [aaz];rfl),hh.same (s1.trans s2),hs.same (s1.trans s2),ok,hi,λ H3 s3=>⟨s3 _ _ ln,aS (by rw [At,amv];lia),(s2.trans s3).put hD,ah,?_,_,rfl⟩⟩
   rw [List.replicate_succ',YC];rfl
 .
  rintro acc U H' ⟨s2,ln,rfl,v,rfl⟩
  refine ⟨D,_,rfl,bg.of ln,?_⟩
  have:(List.replicate m.rows.length true).all id=true:=by
    rw [anX]
    intro x hx
    exact (List.mem_replicate.mp hx).2
  rw [this]
  exact k H' (s1.trans s2)
theorem ff (T:Txt K mg Ad):Def P w K mg base "look_at_state" 7 ["hold","state"] (tV K Ad.aY):=by
 refine T.qQ.cM pS λ f bB A outer s H vs Q E hr h=>?_
 obtain ⟨a,fp,m,p,st,rfl,hh,hs,ok,k⟩:=h
 refine ⟨_,(am (aU (cS (bK (ak (yk (K:=K) T) hr.m (aa (pv 0) (aa (pv 1) ac))))) (am cL) aI)),?_⟩
 try dsimp only [d9,aT]
 exact ⟨_,rfl,_,rfl,a,fp,m,p,st,rfl,hh,hs,ok,λ H' s'=>⟨_,rfl,dF (k H' s')⟩⟩
theorem mV (T:Txt K mg Ad):Def P w K mg base "with_stove" 5 ["hold"] (um K Ad.aY):=by
 refine T.wy.cM tP λ f bB A outer s H vs Q E hr h=>?_
 obtain ⟨a,fp,m,rfl,hh,k⟩:=h
 refine ⟨_,(am (aH (ak (ni (K:=K) T) hr.m (aa (lS ["room"] ["hold"] [0] (.cons ⟨rfl,rfl,.inl rfl⟩ .nil) rfl (bH rfl T.cC (aa (cP (pv 0) T.aE (cw (K:=K) T) .nil hr.m) ac)) (λ _ _ _ _ _=>(aK (i:=0) (show (["room","hold"]:List Str).Nodup by decide +kernel) rfl (lc rfl))) (λ _ _ _ _ _=>(jA (aJ js (aX (pv 1) T.aE (dM (K:=K) T) .nil hr.m (aa (pv 0) ac)) b9 (aL _)))) (λ _ _ _ _ _=>(pv 0)) rfl (by decide +kernel) (by decide +kernel) (by decide +kernel)) ac)))),?_⟩
 try dsimp only [d9,aT]
 obtain ⟨⟨dx,pm,Lr,JN,Kc,vm,vs,vt,aN,_,ha,_⟩,q1,q2,q3,q4⟩:=id hh
 refine ⟨_,rfl,a,dx,_,rfl,ha,rfl,a,fp,m,rfl,hh,_,rfl,by lia,by lia,λ D hD=>?_⟩
 refine dW (lo:=0) (n:=m.rows.length) (λ i acc U H'=>A4 (aB H H') (H' D=some (.lst acc)) (acc=((List.range i).filter m.has).map aq) (∃ v,U=[v,some (.ref a)])) ⟨ai hD,ah,rfl,none,rfl⟩ ?_ ?_
 .
  rintro i acc U H' hi ⟨s1,j5,rfl,v,rfl⟩
  have hz:=mm (m:=m) (i:=i) (by lia)
  have er:((List.range (i+1)).filter m.has).map aq=((List.range i).filter m.has).map aq++(if m.has i=true then [aq i] else []):=by
    rw [aeA,ag3,YC]
    by_cases q:m.has i=true<;>simp [q]
  have la:=ae9 m.has (List.range i)
  rw [acT] at la
  refine ⟨_,rfl,a,dx,_,rfl,s1 _ _ ha,rfl,_,rfl,a,fp,m,i,_,(by rw [aaz];rfl),hh.same s1,hz,λ v dv=>⟨rfl,_,rfl,?_⟩⟩
  cases e:m.tH i with
  | none =>
    rw [e] at dv
    have dv:v = .bT:=dv
    have hn:m.has i=false:=by unfold ap.has;rw [e];rfl
    refine cY dv ⟨s1,j5,?_,_,rfl⟩
    rw [er,hn];simp
  | some z =>
    rw [e] at dv
    obtain ⟨pz,_,rfl,_⟩:=dv.i3
    have hn:m.has i=true:=by unfold ap.has;rw [e];rfl
    refine Fo nofun ⟨_,rfl,j5,aS (by rw [At];lia),s1.put hD,ah,?_,_,rfl⟩
    rw [er,hn,aaz];rfl
 . rintro acc U H' ⟨s1,j5,rfl,v,rfl⟩
   exact ⟨D,(List.range m.rows.length).filter m.has,rfl,bg.of j5,λ r hr=>by have:=List.mem_range.mp (List.mem_filter.mp hr).1;lia,k H' s1⟩
theorem rT (T:Txt K mg Ad):Def P w K mg base "wood_of" 6 ["hold","bits"] (Al K Ad.aY):=by
 refine T.De.cM zW λ f bB A outer s H vs Q E hr h=>?_
 obtain ⟨a,fp,m,b,rfl,hh,k⟩:=h
 refine ⟨_,(am (aH (aO (Dv rfl) (by rfl) T.QK OH (aa (lS ["room"] ["hold"] [0] (.cons ⟨rfl,rfl,.inl rfl⟩ .nil) rfl (fL (ak (kr (K:=K) T) hr.m (aa (ax iK (pv 1) (ak (mV (K:=K) T) hr.m (aa (pv 0) ac))) ac))) (λ _ _ _ _ _=>(aK (i:=0) (show (["room","hold"]:List Str).Nodup by decide +kernel) rfl (lc rfl))) (λ _ _ _ _ _=>fM) (λ _ _ _ _ _=>(ay (fe (K:=K) rfl) (aX (pv 1) T.aE (dM (K:=K) T) .nil hr.m (aa (pv 0) ac)) af (λ _ _=>rfl))) rfl (by decide +kernel) (by decide +kernel) (by decide +kernel)) ac)))),?_⟩
 try dsimp only [d9,aT]
 obtain ⟨⟨dx,pm,Lr,JN,Kc,vm,vs,vt,aN,_,ha,_⟩,q1,q2,q3,q4⟩:=id hh
 refine ⟨_,rfl,_,rfl,a,fp,m,rfl,hh,λ H1 s1=>⟨_,_,rfl,rfl,λ y ey=>⟨b &&& m.ws,(by rw [ey,kE];rfl),?_,λ pl Hm lA sm km=>⟨pl,rfl,⟨_,bg.of km⟩,λ D hD=>?_⟩⟩⟩⟩
 . exact afX aoy (aoh (Ck q3) (by decide))
 have S1:=s1.trans sm
 have lr:=uI (b &&& m.ws)
 have nD:pl≠D:=aC km hD
 refine iO (K:=K) (a:=pl) (xs:=(Bit.rooms (b &&& m.ws)).map aq) (λ j acc U H'=>A4 (aB Hm H') (H' D=some (.lst acc)) (acc=(((Bit.rooms (b &&& m.ws)).take j).map m.wd).map V.int) (∃ v,U=[v,some (.ref a)]))
   ⟨ai hD,ah,rfl,none,rfl⟩ (λ j acc U H' _ e=>bg.of (e.1 _ _ km)) ?_ ?_
 .
  rintro j x acc U H' hx ⟨s2,ln,rfl,v,rfl⟩
  obtain ⟨r,er,rfl⟩:=eP hx
  have hm:=(Bit.dJ.mp (ac8 er)).2
  rw [afj,ap.ws,Ord.iy,ac5,ac5,ae2] at hm
  obtain ⟨_,JC,zY⟩:=hm
  obtain ⟨z,ez⟩:=Option.isSome_iff_exists.mp zY
  have hz:=mm (m:=m) (i:=r) (by lia)
  have hj:j<(Bit.rooms (b &&& m.ws)).length:=(List.getElem?_eq_some_iff.mp er).1
  refine ⟨_,rfl,a,dx,_,rfl,(S1.trans s2) _ _ ha,rfl,_,rfl,a,fp,m,r,_,rfl,hh.same (S1.trans s2),hz,λ u du=>?_⟩
  rw [ez] at du
  obtain ⟨pz,v1,rfl,zN,_⟩:=du.i3
  refine ⟨pz,_,_,_,rfl,rfl,.inr zN,rfl,ln,aS (by rw [At,At,abX];lia),s2.put hD,ah,?_,_,rfl⟩
  rw [iS er,YC,YC]
  have:m.wd r=z.2.1:=by unfold ap.wd;rw [ez];rfl
  show _=_++[V.int (m.wd r)]
  rw [this]
 .
  rintro acc U H' ⟨s2,ln,rfl,v,rfl⟩
  rw [At,agc] at ln
  refine ⟨D,_,rfl,bg.of ln,λ r er=>?_⟩
  rw [er]
  exact k H' (S1.trans s2)
theorem wP (T:Txt K mg Ad):Def P w K mg base "must_stay" 3 ["state"] (wN K):=by
 refine T.yL.cM xc λ f bB A outer s H vs Q E hr h=>?_
 obtain ⟨p,st,rfl,hs,l4,k⟩:=h
 refine ⟨_,(am (aH (ak (ni (K:=K) T) hr.m (aa (lS ["room","wait"] [] [] .nil rfl (N1 rfl T.jx (aa (ay au (pv 0) af (λ _ _=>rfl)) ac)) (λ _ _ _ _ _=>(fP (K:=K) (n:=2) rfl rfl (bj (aK (i:=0) (show (["room","wait"]:List Str).Nodup by decide +kernel) rfl (lc rfl)) (bj (aK (i:=1) (show (["room","wait"]:List Str).Nodup by decide +kernel) rfl (lc rfl)) fG)))) (λ _ _ _ _ _=>(jA (aJ lY (pv 1) af (aL _)))) (λ _ _ _ _ _=>(pv 0)) rfl (by decide +kernel) (by decide +kernel) (by decide +kernel)) ac)))),?_⟩
 try dsimp only [d9,aT]
 obtain ⟨pb,pw,pf,e0,eb,ew,ef⟩:=id hs
 refine ⟨_,rfl,p,_,_,_,rfl,rfl,.inr e0,rfl,pw,rfl,⟨_,ew⟩,λ D hD=>?_⟩
 refine mD (sq:=bS K) (a:=pw) (xs:=st.gG.map aq) (λ i acc U H'=>A4 (aB H H') (H' D=some (.lst acc)) (acc=((List.range i).filter st.wt).map aq) (E2 λ v0 v1=>U=[v0,v1]))
   ⟨ai hD,ah,rfl,none,none,rfl⟩ (λ i acc U H' _ e=>e.1.tup ew) ?_ ?_
 .
  rintro i x pp acc U H' hx xi ⟨s1,j5,rfl,v0,v1,rfl⟩
  obtain ⟨wv,ewv,rfl⟩:=eP hx
  have hi:i<st.gG.length:=(List.getElem?_eq_some_iff.mp ewv).1
  have eg:gN st.gG i=wv:=by unfold gN;rw [ewv];rfl
  have s2:aB H' (upd H' pp (.tup [aq i,aq wv])):=ai xi
  have nD:D≠pp:=aC j5 xi
  have ln:=s2 _ _ j5
  have la:=ae9 st.wt (List.range i)
  rw [acT] at la
  refine ⟨pp,_,rfl,bS.of ah,rfl,_,_,rfl,_,_,rfl,rfl,?_⟩
  refine ⟨_,rfl,_,_,rfl,rfl,_,rfl,d6 (λ h=>?_) (λ h=>?_)⟩
  . have hw:st.wt i=true:=by unfold dY.wt;rw [eg];exact abY (by lia)
    refine ⟨_,rfl,ln,aS (by rw [At];lia),(s1.trans s2).put hD,ah,?_,_,_,rfl⟩
    rw [aeA,ag3,YC]
    simp [hw]
  . have hw:st.wt i=false:=by unfold dY.wt;rw [eg];exact abC (by lia)
    refine ⟨s1.trans s2,ln,?_,_,_,rfl⟩
    rw [aeA,ag3,YC]
    simp [hw]
 . rintro acc U H' ⟨s1,j5,rfl,v0,v1,rfl⟩
   rw [At] at j5
   exact ⟨D,(List.range st.gG.length).filter st.wt,rfl,bg.of j5,λ r hr=>by have:=List.mem_range.mp (List.mem_filter.mp hr).1;lia,k H' s1⟩
theorem yE (T:Txt K mg Ad):Def P w K mg base "can_burn" 7 ["hold","order","heap"] (yp K Ad.aY):=by
 refine T.Ak.cM yY λ f bB A outer s H vs Q E hr h=>?_
 obtain ⟨a,fp,m,o,hp,rfl,hh,ho,k⟩:=h
 refine ⟨_,(am (aH (ng (e9 fX (ak (qa (K:=K) T) hr.m (aa (pv 1) ac)) (bC (pv 0) rfl) (aL _)) (pF (e9 fX (ak (rT (K:=K) T) hr.m (aa (pv 0) (aa (pv 1) ac))) (pv 2) (aL _)))))),?_⟩
 try dsimp only [d9,aT]
 obtain ⟨⟨dx,pm,Lr,JN,Kc,vm,vs,vt,aN,_,ha,_⟩,q1,q2,q3,q4⟩:=id hh
 refine ⟨_,rfl,o,rfl,ho,λ H1 s1=>⟨_,rfl,a,_,dx,_,_,rfl,s1 _ _ ha,T.aE,T.ix,rJ ..,_,_,rfl,rfl,_,rfl,d6 (λ h=>?_) (λ h=>?_)⟩⟩
 .
  refine ⟨_,rfl,_,rfl,a,fp,m,o,rfl,hh.same s1,λ H2 s2=>⟨_,rfl,_,_,rfl,rfl,?_⟩⟩
  have e:m.GX o hp=decide (m.mZ o<=hp):=by unfold ap.GX;rw [abY h,Bool.true_and]
  have:=k H2 (s1.trans s2)
  rw [e] at this
  exact this
 .
  have e:m.GX o hp=false:=by unfold ap.GX;rw [abC h,apn]
  have:=k H1 s1
  rw [e] at this
  exact this
theorem vA (T:Txt K mg Ad):Def P w K mg base "orders_of" 8 ["hold","state"] (wK K Ad.aY):=by
 refine T.zo.cM kB λ f bB A outer s H vs Q E hr h=>?_
 obtain ⟨a,fp,m,p,st,rfl,hh,hs,ok,k⟩:=h
 refine ⟨_,(ag (br (ak (ff (K:=K) T) hr.m (aa (pv 0) (aa (pv 1) ac))))
     (ag (az (i:=2) kB.nd rfl (lc rfl) (ak (wP (K:=K) T) hr.m (aa (pv 1) ac)))
     (ag (az (i:=3) kB.nd rfl (lc rfl) (ax iK (ay au (pv 1) af (λ _ _=>rfl)) (pv 2)))
     (am (aH (lS ["order"] ["going_on","hold","held","state"] [3,0,2,1] (.cons ⟨rfl,rfl,.inl rfl⟩ (.cons ⟨rfl,rfl,.inl rfl⟩ (.cons ⟨rfl,rfl,.inl rfl⟩ (.cons ⟨rfl,rfl,.inl rfl⟩ .nil)))) rfl (fL (ak (AQ (K:=K) T) hr.m (aa (ak (mV (K:=K) T) hr.m (aa (pv 0) ac)) ac))) (λ _ _ _ _ _=>(aK (i:=0) (show (["order","going_on","hold","held","state"]:List Str).Nodup by decide +kernel) rfl (lc rfl))) (λ _ _ _ _ _=>(jA (PW.pt (ig (aJ gB (ax iK (pv 0) (pv 3)) (pv 1) (aL _)) (fR (bK (ak (yE (K:=K) T) hr.m (aa (pv 2) (aa (pv 0) (aa (ay (fe (K:=K) rfl) (pv 4) af (λ _ _=>rfl)) ac)))))))))) (λ _ _ _ _ _=>(pv 0)) rfl (by decide +kernel) (by decide +kernel) (by decide +kernel))))))),?_⟩
 try dsimp only [d9,aT]
 first|(refine d5 ?_;intro _ _ _ _ _)|skip
 obtain ⟨pb,pw,pf,e0,eb,ew,ef⟩:=id hs
 obtain ⟨⟨dx,pm,Lr,JN,Kc,vm,vs,vt,aN,_,ha,_⟩,q1,q2,q3,q4⟩:=id hh
 refine ⟨_,rfl,_,rfl,a,fp,m,p,st,rfl,hh,hs,ok,λ H1 s1=>?_⟩
 refine ⟨_,rfl,p,st,rfl,hs.same s1,by rw [ok.lw];exact q3,λ H2 s2=>?_⟩
 have S2:=s1.trans s2
 refine ⟨_,rfl,p,_,_,_,rfl,rfl,.inr (S2.tup e0),rfl,_,rfl,_,_,rfl,rfl,λ go ego=>?_⟩
 obtain rfl:go=((st.cT &&& st.held:Nat):Int):=by rw [ego,kE]
 have MN:=Ck q3
 have HS:(Bit.rooms m.ws).length<=8:=by
   rw [ap.ws,Ord.Ey _ (by lia)]
   have:=ae9 m.has (List.range m.rows.length)
   rw [acT] at this
   lia
 refine ⟨_,rfl,a,fp,m,rfl,hh.same S2,λ H3 s3=>⟨m.ws,rfl,aoh MN (by decide),HS,λ pl Hm lA sm km=>⟨pl,rfl,⟨_,bg.of km⟩,λ D hD=>?_⟩⟩⟩
 have S3:=(S2.trans s3).trans sm
 have lp:(Bit.parts (Bit.rooms m.ws)).length<=16:=by
   rw [Ord.wU _ MN]
   exact afY (ae9 _ _) (by rw [acT];decide)
 have VE:∀ o∈Bit.parts (Bit.rooms m.ws),o<16:=λ o h=>by
   rw [Ord.wU _ MN] at h
   exact List.mem_range.mp (List.mem_filter.mp h).1
 generalize ft:Bit.parts (Bit.rooms m.ws)=ps at lp VE km
 refine iO (K:=K) (a:=pl) (xs:=ps.map aq) (λ j acc U H'=>A4 (aB Hm H') (H' D=some (.lst acc)) (acc=((ps.take j).filter (st.EU m)).map aq) (∃ v,U=[v,some (aq (st.cT &&& st.held)),some (.ref a),some (aq st.held),some (.ref p)]))
   ⟨ai hD,ah,rfl,none,rfl⟩ (λ j acc U H' _ e=>bg.of (e.1 _ _ km)) ?_ ?_
 .
  rintro j x acc U H' hx ⟨s4,CA,rfl,v,rfl⟩
  obtain ⟨o,eo,rfl⟩:=eP hx
  have ho:=VE o (ac8 eo)
  have la:=ae9 (st.EU m) (ps.take j)
  rw [abX] at la
  refine ⟨_,rfl,_,rfl,_,_,rfl,rfl,λ y ey=>⟨_,rfl,rfl,_,rfl,?_⟩⟩
  obtain rfl:y=((o &&& st.held:Nat):Int):=by rw [ey,kE]
  have er:((ps.take (j+1)).filter (st.EU m)).map aq=((ps.take j).filter (st.EU m)).map aq++(if st.EU m o=true then [aq o] else []):=by
    rw [iS eo,ag3,YC]
    cases q:st.EU m o<;>simp [q]
  refine d6 (λ h=>?_) (λ h=>?_)
  .
   have h:o &&& st.held=st.cT &&& st.held:=by have:=eK.mp h;lia
   have ep:st.EU m o=m.GX o st.heap:=by unfold dY.EU;rw [abY h,Bool.true_and]
   refine ⟨_,rfl,_,rfl,_,rfl,p,_,_,_,rfl,rfl,.inr ((S3.trans s4).tup e0),rfl,a,fp,m,o,_,rfl,hh.same (S3.trans s4),aoh ho (by decide),λ H5 s5=>⟨_,rfl,?_⟩⟩
   cases q:m.GX o st.heap with
   | true =>
     refine fw ⟨_,rfl,s5 _ _ CA,aS (by rw [At];lia),(s4.trans s5).put hD,ah,?_,_,rfl⟩
     rw [er,ep,q];rfl
   | false =>
     refine dF ⟨s4.trans s5,s5 _ _ CA,?_,_,rfl⟩
     rw [er,ep,q];simp
  . have h:¬ (o &&& st.held=st.cT &&& st.held):=λ e=>h (by rw [e];rfl)
    have ep:st.EU m o=false:=by unfold dY.EU;rw [abC h,apn]
    refine dF ⟨s4,CA,?_,_,rfl⟩
    rw [er,ep];simp
 .
  rintro acc U H' ⟨s4,CA,rfl,v,rfl⟩
  rw [At,agc] at CA
  refine k D H' (S3.free hD) (S3.trans s4) ?_
  rw [CA,← ft]
  rfl
inductive Rg  (vs:List V) (H:Hp) (Q:VK) (_E:XK):Prop
 | mk (n r:Nat) (_:vs=[aq n,aq r]) (_:Q (.bl (n.testBit r)) H)
theorem iQ (T:Txt K mg Ad):Def P w K mg base "_law_in" 1 ["_law_bits","_law_room"] Rg:=by
 refine T.GP.cM EQ λ f bB A outer s H vs Q E hr h=>?_
 obtain ⟨n,r,rfl,k⟩:=h
 refine ⟨_,(am (aH (e9 gB (ax gz (ax wa (pv 0) (pv 1)) af) af (aL _)))),?_⟩
 try dsimp only [d9,aT]
 refine ⟨_,rfl,_,rfl,_,_,rfl,rfl,amz _,λ s es=>⟨_,_,rfl,rfl,by decide,λ m _ _ em=>⟨rfl,?_⟩⟩⟩
 rw [CB n r es em]
 exact k
theorem qC (T:Txt K mg Ad):Def P w K mg base "_law_state_by" 2 ["_law_told","_law_cell","_law_k"] (zj K):=by
 refine T.sj.cM bq λ f bB A outer s H vs Q E hr h=>?_
 obtain ⟨p,tm,n,c,kk,rfl,hT,ok,n4,hk,k⟩:=h
 refine ⟨_,(ag (az (i:=3) bq.nd rfl (lc rfl) (dB ac))
     (ag (az (i:=4) bq.nd rfl (lc rfl) (dB ac))
     (ag (az (i:=5) bq.nd rfl (lc rfl) (dB ac))
     (ag (az (i:=6) bq.nd rfl (lc rfl) af)
     (ag (az (i:=7) bq.nd rfl (lc rfl) af)
     (ag (dO ad4 rfl (bH rfl T.cC (aa (aO bv (by rfl) T.dS cJ (aa (bi (b5 hr) (pv 0) aQ (λ _ _=>rfl)) ac)) ac)) (aK (i:=8) bq.nd rfl (lc rfl)) (ag (az (i:=9) bq.nd rfl (lc rfl) (ay au (bi (b5 hr) (pv 0) aQ (λ _ _=>rfl)) (pv 8) (λ _ _=>rfl)))
     (ag (az (i:=10) bq.nd rfl (lc rfl) af)
     (ag (az (i:=11) bq.nd rfl (lc rfl) af)
     (ag (gp (aU (aJ js (pv 9) b9 (aL _)) (ag (az (i:=10) bq.nd rfl (lc rfl) (ak (aM (K:=K) T) hr.m (aa (pv 1) (aa (ax aG (ax aG (pv 2) af) (pv 8)) (aa (ax aG (ay au (pv 9) af (λ _ _=>rfl)) af) ac)))))
     (am (aU (PW.pt (ig (aJ gB (ak (aM (K:=K) T) hr.m (aa (pv 1) (aa (ax aG (ax aG (pv 2) af) (pv 8)) (aa af ac)))) af (aL _)) (fR (aJ lQ (pv 7) (ay au (bi (b5 hr) (pv 0) aQ (λ _ _=>rfl)) af (λ _ _=>rfl)) (aL _))))) (ag (az (i:=6) bq.nd rfl (lc rfl) (ax aG (pv 6) (ay au (dB (aa af (aa af (aa af (aa af ac))))) (pv 8) (λ _ _=>rfl))))
     (am (az (i:=7) bq.nd rfl (lc rfl) (ax aG (pv 7) af)))) (am (aU (aJ gB (pv 10) af (aL _)) (am (az (i:=11) bq.nd rfl (lc rfl) (ak (aM (K:=K) T) hr.m (aa (pv 1) (aa (ax aG (ax aG (pv 2) af) (pv 8)) (aa (ax aG (ay au (pv 9) af (λ _ _=>rfl)) af) ac)))))) aI))))) aI))
     (ag (br (j1 adL adq adc cN (pv 3) (aa (ak (aM (K:=K) T) hr.m (aa (pv 1) (aa (ax aG (pv 2) (pv 8)) (aa (ax cO (aO bv (by rfl) T.dS cJ (aa (ay au (bi (b5 hr) (pv 0) aQ (λ _ _=>rfl)) (pv 8) (λ _ _=>rfl)) ac)) af) ac)))) ac)))
     (ag (br (j1 adL adq adc cN (pv 4) (aa (pv 10) ac)))
     (am (br (j1 adL adq adc cN (pv 5) (aa (pv 11) ac)))))))))))
     (am (aH (aV (aa (cH dC (by rfl) T.gW fC (aa (pv 3) ac)) (aa (pv 6) (aa (cH dC (by rfl) T.gW fC (aa (pv 4) ac)) (aa (cH dC (by rfl) T.gW fC (aa (pv 5) ac)) (aa (ak (aM (K:=K) T) hr.m (aa (pv 1) (aa (ax aG (pv 2) af) (aa (ax aG (ay au (bi (b5 hr) (pv 0) aQ (λ _ _=>rfl)) af (λ _ _=>rfl)) af) ac)))) ac)))))))))))))),?_⟩
 try dsimp only [d9,aT]
 first|(refine FM ?_;intro _ _ _ _ _ _ _ _)|skip
 obtain ⟨pm,ps,pt,pf,fm,pb,vm,vs,vt,aN,C0⟩:=id hT
 have Ae:vm.length=n:=by rw [C0.dm.length,At,ok.lm]
 have Ym:bS K H pb [.int tm.bounds.1,.int tm.bounds.2.1,.int tm.bounds.2.2]:=bZ.tup C0.bo
 refine ⟨NL,λ lb OZ=>⟨NL,λ lw Lx=>⟨NL,λ lf X5=>?_⟩⟩⟩
 have sb:=ai (o:=.lst []) OZ
 have sw:=ai (o:=.lst []) Lx
 have sf:=ai (o:=.lst []) X5
 have S0:=sb.trans (sw.trans sf)
 have C1:=C0.same S0
 have Uy:lb≠lw:=aC ah Lx
 have nbf:lb≠lf:=aC (sw _ _ ah) X5
 have nwf:lw≠lf:=aC ah X5
 have ew0:H lw=none:=sb.free Lx
 have ef0:H lf=none:=sb.free (sw.free X5)
 refine ⟨_,rfl,p,_,rfl,bP C1.hp,pm,vm,rfl,.inl (bg.of C1.dI),λ r er=>?_⟩
 obtain rfl:r=(n:Int):=by rw [er,Ae]
 refine ⟨_,rfl,by lia,by lia,?_⟩
 refine fZ (lo:=0) (n:=n) (λ i U H'=>aB H H'/\E3 λ (bs ws fs:List Nat)=>∃ (b:Nat),A5 (H' lb=some (.lst (bs.map aq))) (H' lw=some (.lst (ws.map aq))) (H' lf=some (.lst (fs.map aq))) (Part tm n i bs ws fs b) (E4 λ (v8 v9 v10 v11:Option V)=>U=[some (.ref p),some (.int c),some (aq kk),some (.ref lb),some (.ref lw),some (.ref lf),some (aq b),some (aq (Bit.rooms b).length),v8,v9,v10,v11]))
   ⟨S0,[],[],[],0,sf _ _ (sw _ _ ah),sf _ _ ah,ah,Part.zero ok,none,none,none,none,rfl⟩ ?_ ?_
 .
  rintro _ _ _ i U H1 hi ⟨S1,bs,ws,fs,b,eb,ew,ef,Ix,v8,v9,v10,v11,rfl⟩
  have C1:=C0.same S1
  have nR:i<tm.aF.length:=by rw [ok.lt];exact hi
  have sW:i<tm.marks.length:=by rw [ok.lm];exact hi
  have zU:=rV ok hi
  rw [av nR] at zU
  obtain ⟨vq,HP,dq⟩:=C1.dt.get (i:=i) (d:=stI tm.aF[i]) (by rw [RS,av nR];rfl)
  refine ⟨_,rfl,p,_,rfl,dR C1.hp,_,rfl,pt,vt,_,_,rfl,rfl,.inl (bg.of C1.c8),by rw [aaz];exact bh HP,?_⟩
  refine ⟨λ σ' H'=>A5 (aB H H') (H' lb=some (.lst (bs.map aq))) (H' lw=some (.lst (ws.map aq))) (H' lf=some (.lst (fs.map aq))) (E3 λ (lit:Bool) (w' f':Nat)=>A3 (sF ((tm.m2 n n).tH i) lit w' f') (lit=true->((Bit.rooms b).length:Int)<tm.bounds.1) (σ'=[some (.ref p),some (.int c),some (aq kk),some (.ref lb),some (.ref lw),some (.ref lf),some (aq (if lit then b+2 ^ i else b)),some (aq ((Bit.rooms b).length+if lit then 1 else 0)),some (.int (0+(i:Int))),some vq,some (aq w'),some (aq f')])),?_,?_⟩
  .
   refine ⟨_,rfl,rfl,_,rfl,?_⟩
   cases yA:tm.aF[i] with
   | none =>
     rw [yA] at dq zU
     have dq:vq = .bT:=dq
     subst dq
     exact cY rfl ⟨S1,eb,ew,ef,false,0,0,by rw [zU];exact ⟨rfl,rfl,rfl⟩,nofun,rfl⟩
   | some z =>
     rw [yA] at dq zU
     obtain ⟨pq,wq,rfl,Ij,t1,r1,rfl,e1,t2,r2,rfl,e2,t3,r3,rfl,e3,t4,r4,rfl,e4,e5⟩:=dq
     have e5:r4=[]:=e5
     have e1:t1 = .int z.1:=e1
     have e2:t2 = .int z.2.1:=e2
     have e3:t3 = .int z.2.2.1:=e3
     have e4:t4 = .int z.2.2.2:=e4
     subst e1 e2 e3 e4 e5
     have HY:bS K H1 pq [.int z.1,.int z.2.1,.int z.2.2.1,.int z.2.2.2]:=bZ.tup Ij
     have HZ:=ok.aF z (by rw [← yA];exact aaA nR)
     have J0:=HZ.s
     have LC:=HZ.f
     refine Fo nofun ⟨_,rfl,_,rfl,_,_,rfl,rfl,λ x1 g1=>⟨_,rfl,_,_,rfl,rfl,λ x2 g2=>⟨_,rfl,pq,_,_,_,rfl,rfl,.inr HY,rfl,_,_,rfl,rfl,λ x3 g3=>⟨_,x2,x3,rfl,by lia,by lia,by lia,λ w0 w00 w01=>?_⟩⟩⟩⟩
     obtain ⟨wn,rfl⟩:∃ wn:Nat,w0=(wn:Int):=⟨w0.toNat,by lia⟩
     refine ⟨_,rfl,_,rfl,_,_,rfl,rfl,λ x4 g4=>⟨_,rfl,_,_,rfl,rfl,λ x5 g5=>⟨_,x5,2,rfl,by lia,by lia,by decide,λ r0 r00 r01=>⟨rfl,_,rfl,?_⟩⟩⟩⟩
     have HH:(wn:Int)<=(tm.jw z).2.2.1:=by show (wn:Int)<=z.2.2.1;lia
     refine d6 (λ h1=>?_) (λ h1=>dF ?_)
     .
      refine ⟨_,rfl,_,rfl,p,_,rfl,jC C1.hp,pb,_,_,_,rfl,rfl,.inr (S1.tup Ym),rfl,_,_,rfl,rfl,_,rfl,d6 (λ h2=>?_) (λ h2=>?_)⟩
      .
       refine ⟨_,rfl,Ob,λ q hq=>?_⟩
       have sq:=ai (o:=.lst [V.int 1,V.int 2,V.int 4,V.int 8]) hq
       have pw2:tE [V.int 1,V.int 2,V.int 4,V.int 8] (0+(i:Int))=some (.int ((2 ^ i:Nat):Int)):=by
         have:i=0∨i=1∨i=2∨i=3:=by lia
         rcases this with rfl|rfl|rfl|rfl<;>rfl
       refine ⟨_,rfl,q,_,_,_,rfl,rfl,.inl (bg.of ah),pw2,_,_,rfl,rfl,λ y1 f1=>⟨_,rfl,_,_,rfl,rfl,λ y2 f2=>?_⟩⟩
       obtain rfl:y1=((b+2 ^ i:Nat):Int):=by rw [f1];push_cast;rfl
       obtain rfl:y2=(((Bit.rooms b).length+1:Nat):Int):=by rw [f2];push_cast;rfl
       exact ⟨S1.trans sq,sq _ _ eb,sq _ _ ew,sq _ _ ef,true,wn,0,by rw [zU];exact ⟨HH,LC.1,.inl rfl⟩,λ _=>h2,rfl⟩
      . refine ⟨_,rfl,rfl,_,rfl,d6 (λ hw=>⟨_,rfl,_,rfl,_,_,rfl,rfl,λ x6 g6=>⟨_,rfl,_,_,rfl,rfl,λ x7 g7=>⟨_,rfl,pq,_,_,_,rfl,rfl,.inr HY,rfl,_,_,rfl,rfl,λ x8 g8=>⟨_,x7,x8,rfl,by lia,by lia,by lia,λ fv f0 f1=>?_⟩⟩⟩⟩) (λ hw=>⟨S1,eb,ew,ef,false,wn,0,by rw [zU];exact ⟨HH,LC.1,.inl rfl⟩,nofun,rfl⟩)⟩
        obtain ⟨fn,rfl⟩:∃ fn:Nat,fv=(fn:Int):=⟨fv.toNat,by lia⟩
        have hw0:wn=0:=by have:=eK.mp hw;lia
        exact ⟨S1,eb,ew,ef,false,wn,fn,by rw [zU];exact ⟨HH,(by show (fn:Int)<=z.2.2.2;lia),.inr ⟨rfl,hw0⟩⟩,nofun,rfl⟩
     . refine ⟨_,rfl,rfl,_,rfl,d6 (λ hw=>⟨_,rfl,_,rfl,_,_,rfl,rfl,λ x6 g6=>⟨_,rfl,_,_,rfl,rfl,λ x7 g7=>⟨_,rfl,pq,_,_,_,rfl,rfl,.inr HY,rfl,_,_,rfl,rfl,λ x8 g8=>⟨_,x7,x8,rfl,by lia,by lia,by lia,λ fv f0 f1=>?_⟩⟩⟩⟩) (λ hw=>⟨S1,eb,ew,ef,false,wn,0,by rw [zU];exact ⟨HH,LC.1,.inl rfl⟩,nofun,rfl⟩)⟩
       obtain ⟨fn,rfl⟩:∃ fn:Nat,fv=(fn:Int):=⟨fv.toNat,by lia⟩
       have hw0:wn=0:=by have:=eK.mp hw;lia
       exact ⟨S1,eb,ew,ef,false,wn,fn,by rw [zU];exact ⟨HH,(by show (fn:Int)<=z.2.2.2;lia),.inr ⟨rfl,hw0⟩⟩,nofun,rfl⟩
  .
   rintro σ' H2 ⟨S2,eb2,ew2,ef2,lit,w',f',fit,lim,rfl⟩
   have C2:=C0.same S2
   have tz:=ok.rows tm.marks[i] (aaA sW)
   have l2:=tz.two
   have l7:tm.marks[i].length<=7:=by have:=tz.most;split at this<;>lia
   have b63:i<61:=by lia
   have lb':=Ix.lb
   have AI:=Ix.lw
   have lf':=Ix.lf
   obtain ⟨v,ev,pk,X3,rfl,o9,Df⟩:=C2.dm.get (i:=i) (d:=qG tm.marks[i]) (by rw [RS,av sW];rfl)
   obtain rfl:=c9 Df
   have CQ:bg K H2 pk (tm.marks[i].map V.int):=bZ.seq o9
   refine ⟨_,rfl,.inl ⟨rfl,_,bg.of eb2⟩,_,rfl,_,rfl,_,rfl,_,_,rfl,rfl,λ x1 g1=>?_⟩
   refine ⟨_,rfl,p,_,rfl,bP C2.hp,_,rfl,pm,vm,_,_,rfl,rfl,.inl (bg.of C2.dI),(by rw [aaz];exact bh ev),pk,_,rfl,.inl CQ,λ y ey=>⟨_,_,rfl,rfl,λ z ez=>?_⟩⟩
   rw [At] at ey
   refine ⟨_,x1,z,rfl,by lia,by lia,by lia,λ r r0 r1=>?_⟩
   obtain ⟨x,rfl⟩:∃ x:Nat,r=(x:Int):=⟨r.toNat,by lia⟩
   refine ⟨lb,_,_,rfl,rfl,eb2,aS (by rw [At];lia),?_⟩
   have s3:upd H2 lb (.lst (bs.map aq++[V.int (x:Int)])) lb=some (.lst ((bs++[x]).map aq)):=by rw [ah,YC];rfl
   have S3:aB H (upd H2 lb (.lst (bs.map aq++[V.int (x:Int)]))):=S2.put OZ
   have ew3:upd H2 lb (.lst (bs.map aq++[V.int (x:Int)])) lw=some (.lst (ws.map aq)):=by rw [aD Uy.symm];exact ew2
   have ef3:upd H2 lb (.lst (bs.map aq++[V.int (x:Int)])) lf=some (.lst (fs.map aq)):=by rw [aD nbf.symm];exact ef2
   generalize upd H2 lb (.lst (bs.map aq++[V.int (x:Int)]))=H3 at s3 S3 ew3 ef3 ⊢
   refine ⟨_,rfl,.inl ⟨rfl,_,bg.of ew3⟩,_,rfl,lw,_,_,rfl,rfl,ew3,aS (by rw [At];lia),?_⟩
   have s4:upd H3 lw (.lst (ws.map aq++[aq w'])) lw=some (.lst ((ws++[w']).map aq)):=by rw [ah,YC];rfl
   have S4:aB H (upd H3 lw (.lst (ws.map aq++[aq w']))):=S3.put ew0
   have eb4:upd H3 lw (.lst (ws.map aq++[aq w'])) lb=some (.lst ((bs++[x]).map aq)):=by rw [aD Uy];exact s3
   have ef4:upd H3 lw (.lst (ws.map aq++[aq w'])) lf=some (.lst (fs.map aq)):=by rw [aD nwf.symm];exact ef3
   generalize upd H3 lw (.lst (ws.map aq++[aq w']))=H4 at s4 S4 eb4 ef4 ⊢
   refine ⟨_,rfl,.inl ⟨rfl,_,bg.of ef4⟩,_,rfl,lf,_,_,rfl,rfl,ef4,aS (by rw [At];lia),?_⟩
   obtain ⟨nx1,nx2⟩:=Ix.next (x:=x) b63 (by rw [Nv,av sW];show x+1<tm.marks[i].length;lia) fit lim
   refine ⟨S4.put ef0,bs++[x],ws++[w'],fs++[f'],_,?_,?_,?_,nx1,_,_,_,_,by rw [nx2]⟩
   . rw [aD nbf];exact eb4
   . rw [aD nwf];exact s4
   . rw [ah,YC];rfl
 .
  rintro U H1 ⟨S1,bs,ws,fs,b,eb,ew,ef,Ix,v8,v9,v10,v11,rfl⟩
  have lb':=Ix.lb
  have AI:=Ix.lw
  have lf':=Ix.lf
  refine ⟨_,rfl,lb,_,rfl,.inl ⟨bg.of eb,λ kb hkb=>?_⟩⟩
  have s1:=ai (o:=.tup (bs.map aq)) hkb
  refine ⟨_,rfl,_,rfl,lw,_,rfl,.inl ⟨bg.of (s1 _ _ ew),λ kw RX=>?_⟩⟩
  have s2:=ai (o:=.tup (ws.map aq)) RX
  refine ⟨_,rfl,lf,_,rfl,.inl ⟨bg.of ((s1.trans s2) _ _ ef),λ kf hkf=>?_⟩⟩
  have s3:=ai (o:=.tup (fs.map aq)) hkf
  have S3:=S1.trans (s1.trans (s2.trans s3))
  have C3:=C0.same S3
  refine ⟨_,rfl,_,rfl,_,_,rfl,rfl,λ x1 g1=>?_⟩
  refine ⟨_,rfl,p,_,rfl,jC C3.hp,pb,_,_,_,rfl,rfl,.inr (S3.tup Ym),rfl,_,_,rfl,rfl,λ y ey=>?_⟩
  have Mz:=ok.bounds.2.1
  refine ⟨_,x1,y,rfl,by lia,by lia,by lia,λ r r0 r1=>⟨(by show 5<=sizeLine;decide),λ q hq=>?_⟩⟩
  obtain ⟨hp,rfl⟩:∃ hp:Nat,r=(hp:Int):=⟨r.toNat,by lia⟩
  have s4:aB _ _:=ai (o:=.tup [.ref kb,aq b,.ref kw,.ref kf,aq hp]) hq
  exact k q ⟨bs,b,ws,fs,hp⟩ _ (S3.trans s4) ⟨kb,kw,kf,bS.of ah,bS.of (s4 _ _ (s3 _ _ (s2 _ _ ah))),bS.of (s4 _ _ (s3 _ _ ah)),bS.of (s4 _ _ ah)⟩ (Ix.ok ok (by lia))
theorem jH (T:Txt K mg Ad):Def P w K mg base "_law_allows" 2 ["_law_told","_law_state","_law_order_here"] (Dt K):=by
 refine T.wE.cM dD λ f bB A outer s H vs Q E hr h=>?_
 obtain ⟨p,tm,n,q,st,o,rfl,hT,ok,n4,hs,lw,k1,k0⟩:=h
 refine ⟨_,(ag (az (i:=3) dD.nd rfl (lc rfl) af)
     (ag (az (i:=4) dD.nd rfl (lc rfl) af)
     (ag (dO ad4 rfl (bH rfl T.cC (aa af ac)) (aK (i:=5) dD.nd rfl (lc rfl)) (am (aU (bK (ak (iQ (K:=K) T) hr.m (aa (pv 2) (aa (pv 5) ac)))) (ag (aU (PW.pt (io (aJ Me (pv 5) (aO bv (by rfl) T.dS cJ (aa (bi (b5 hr) (pv 0) aQ (λ _ _=>rfl)) ac)) (aL _)) (gR (aJ nK (ay au (bi (b5 hr) (pv 0) aQ (λ _ _=>rfl)) (pv 5) (λ _ _=>rfl)) b9 (aL _))))) (am (aH lg)) aI)
     (ag (az (i:=3) dD.nd rfl (lc rfl) (ax aG (pv 3) af))
     (am (az (i:=4) dD.nd rfl (lc rfl) (ax aG (pv 4) (ay au (ay au (bi (b5 hr) (pv 0) aQ (λ _ _=>rfl)) (pv 5) (λ _ _=>rfl)) af (λ _ _=>rfl))))))) aI)))
     (ag (dO ad4 rfl (bH rfl T.cC (aa (aO bv (by rfl) T.dS cJ (aa (bi (b5 hr) (pv 0) aQ (λ _ _=>rfl)) ac)) ac)) (aK (i:=5) dD.nd rfl (lc rfl)) (am (aU (PW.pt (ig (aJ lY (ay au (ay au (pv 1) af (λ _ _=>rfl)) (pv 5) (λ _ _=>rfl)) af (aL _)) (fR (aJ hU (ak (iQ (K:=K) T) hr.m (aa (pv 2) (aa (pv 5) ac))) (ak (iQ (K:=K) T) hr.m (aa (ay au (pv 1) af (λ _ _=>rfl)) (aa (pv 5) ac))) (aL _))))) (am (aH lg)) aI)))
     (am (aH (ng (e9 fX (pv 3) (ay au (bi (b5 hr) (pv 0) aQ (λ _ _=>rfl)) af (λ _ _=>rfl)) (aL _)) (pF (e9 fX (pv 4) (ay au (pv 1) af (λ _ _=>rfl)) (aL _)))))))))),?_⟩
 try dsimp only [d9,aT]
 first|(refine jM ?_;intro _ _ _ _ _ _)|skip
 obtain ⟨pm,ps,pt,pf,fm,pb,vm,vs,vt,aN,C0⟩:=id hT
 have Ae:vm.length=n:=by rw [C0.dm.length,At,ok.lm]
 have lvt:vt.length=n:=by rw [C0.dt.length,At,ok.lt]
 obtain ⟨qb,qw,qf,e0,eb,ew,ef⟩:=id hs
 have Ym:bS K H pb [.int tm.bounds.1,.int tm.bounds.2.1,.int tm.bounds.2.2]:=bZ.tup C0.bo
 refine ⟨_,rfl,by decide,by decide,?_⟩
 refine iY (lo:=0) (n:=61) (λ i U H'=>A3 (H'=H) (∀ r,r<i->o.testBit r=true->r<n/\(tm.m2 n n).has r=true) (∃ (v5:Option V),U=[some (.ref p),some (.ref q),some (aq o),some (aq ((List.range i).filter o.testBit).length),some (.int (((List.range i).filter o.testBit).map (tm.m2 n n).wd).sum),v5]))
   ⟨rfl,nofun,none,rfl⟩ ?_ ?_
 .
  rintro _ i U H' hi ⟨rfl,xv,v5,rfl⟩
  refine ⟨_,rfl,_,rfl,o,i,(by rw [aaz];rfl),_,rfl,?_⟩
  cases hb:o.testBit i with
  | false =>
    refine dF ⟨rfl,λ r hr Vm=>?_,some (.int (0+(i:Int))),?_⟩
    . by_cases e:r<i
      . exact xv r e Vm
      . obtain rfl:r=i:=by lia
        rw [hb] at Vm;cases Vm
    . rw [Ord.sg,hb];simp
  | true =>
    have Vz:i∈Bit.rooms o:=Bit.dJ.mpr ⟨hi,hb⟩
    refine fw ⟨_,rfl,_,rfl,p,_,rfl,bP C0.hp,pm,vm,rfl,.inl (bg.of C0.dI),λ y ey=>⟨_,_,rfl,rfl,_,rfl,d6 (λ h=>?_) (λ h=>?_)⟩⟩
    . exact fw (k0 λ L=>by have:=(L.has i Vz).1;lia)
    have Ow:i<n:=by lia
    have nR:i<tm.aF.length:=by rw [ok.lt];exact Ow
    have zU:=rV ok Ow
    rw [av nR] at zU
    obtain ⟨vq,HP,dq⟩:=C0.dt.get (i:=i) (d:=stI tm.aF[i]) (by rw [RS,av nR];rfl)
    have evi:tE vt (0+(i:Int))=some vq:=by rw [aaz];exact bh HP
    refine ⟨_,rfl,p,_,rfl,dR C0.hp,_,rfl,pt,vt,_,_,rfl,rfl,.inl (bg.of C0.c8),evi,rfl,_,rfl,?_⟩
    cases yA:tm.aF[i] with
    | none =>
      rw [yA] at dq zU
      have dq:vq = .bT:=dq
      refine oP dq (k0 λ L=>?_)
      have:=(L.has i Vz).2
      unfold ap.has at this
      rw [zU] at this
      cases this
    | some z =>
      rw [yA] at dq zU
      obtain ⟨pq,wq,rfl,Ij,t1,r1,rfl,e1,t2,r2,rfl,e2,t3,r3,rfl,e3,t4,r4,rfl,e4,e5⟩:=dq
      have e5:r4=[]:=e5
      have e1:t1 = .int z.1:=e1
      have e2:t2 = .int z.2.1:=e2
      have e3:t3 = .int z.2.2.1:=e3
      have e4:t4 = .int z.2.2.2:=e4
      subst e1 e2 e3 e4 e5
      have HY:bS K H' pq [.int z.1,.int z.2.1,.int z.2.2.1,.int z.2.2.2]:=bZ.tup Ij
      have ab5:(tm.m2 n n).has i=true:=by unfold ap.has;rw [zU];rfl
      have hwd:(tm.m2 n n).wd i=z.2.1:=by unfold ap.wd;rw [zU];rfl
      refine ny nofun ⟨_,rfl,_,_,rfl,rfl,λ y1 f1=>⟨_,rfl,_,rfl,p,_,rfl,dR C0.hp,_,rfl,pt,vt,_,_,rfl,rfl,.inl (bg.of C0.c8),evi,pq,_,_,_,rfl,rfl,.inr HY,rfl,_,_,rfl,rfl,λ y2 f2=>⟨rfl,λ r hr Vm=>?_,some (.int (0+(i:Int))),?_⟩⟩⟩
      . by_cases e:r<i
        . exact xv r e Vm
        . obtain rfl:r=i:=by lia
          exact ⟨Ow,ab5⟩
      . rw [Ord.sg,hb,f1,f2]
        simp only [anK,aas,YC,List.sum_append,aeC,aoY,apv,List.sum_nil,acq,am8,hwd]
        unfold aq
        push_cast
        rw [amP]
        rfl
 .
  rintro U H' ⟨rfl,xv,v5,rfl⟩
  have amJ:(List.range 61).filter o.testBit=Bit.rooms o:=rfl
  rw [amJ]
  refine ⟨_,rfl,p,_,rfl,bP C0.hp,pm,vm,rfl,.inl (bg.of C0.dI),λ r er=>?_⟩
  obtain rfl:r=(n:Int):=by rw [er,Ae]
  refine ⟨_,rfl,by lia,by lia,?_⟩
  refine iY (lo:=0) (n:=n) (λ i U H2=>A3 (H2=H') (∀ r,r<i->st.wt r=true->o.testBit r=st.cT.testBit r) (∃ (v5:Option V),U=[some (.ref p),some (.ref q),some (aq o),some (aq (Bit.rooms o).length),some (.int ((Bit.rooms o).map (tm.m2 n n).wd).sum),v5]))
    ⟨rfl,nofun,v5,rfl⟩ ?_ ?_
  .
   rintro _ i U H2 hi ⟨rfl,gE,v5,rfl⟩
   refine ⟨_,rfl,q,_,_,_,rfl,rfl,.inr e0,rfl,_,rfl,qw,_,_,_,rfl,rfl,.inr ew,(by rw [aaz];exact qi (by rw [lw];exact hi)),_,_,rfl,rfl,_,rfl,d6 (λ h=>?_) (λ h=>?_)⟩
   .
    have hw:st.wt i=true:=abY (by lia)
    refine ⟨_,rfl,_,rfl,o,i,(by rw [aaz];rfl),?_⟩
    refine ⟨_,rfl,q,_,_,_,rfl,rfl,.inr e0,rfl,_,rfl,st.cT,i,(by rw [aaz];rfl),rfl,_,rfl,mO (λ CG=>?_) (λ heq=>?_)⟩
    . exact k0 λ L=>CG (by rw [L.fB i hi hw])
    . refine ⟨rfl,λ r hr R9=>?_,_,rfl⟩
      by_cases e:r<i
      . exact gE r e R9
      . obtain rfl:r=i:=by lia
        injection heq
   .
    have hw:st.wt i=false:=abC (by lia)
    refine dF ⟨rfl,λ r hr R9=>?_,_,rfl⟩
    by_cases e:r<i
    . exact gE r e R9
    . obtain rfl:r=i:=by lia
      rw [hw] at R9;cases R9
  .
   rintro U H2 ⟨rfl,gE,v5,rfl⟩
   refine ⟨_,rfl,_,rfl,p,_,rfl,jC C0.hp,pb,_,_,_,rfl,rfl,.inr Ym,rfl,_,_,rfl,rfl,_,rfl,d6 (λ h1=>?_) (λ h1=>?_)⟩
   .
    refine ⟨_,rfl,_,rfl,q,_,_,_,rfl,rfl,.inr e0,rfl,_,_,rfl,rfl,?_⟩
    by_cases h2:((Bit.rooms o).map (tm.m2 n n).wd).sum<=(st.heap:Int)
    . refine blT h2 (k1 ⟨λ r hr=>?_,gE,h1,h2⟩)
      have:=Bit.dJ.mp hr
      exact xv r this.1 this.2
    . show Q (V.bl (decide _)) _
      rw [abC h2]
      exact k0 λ L=>h2 L.mZ
   . exact k0 λ L=>h1 L.most
theorem As (T:Txt K mg Ad):Def P w K mg base "failing" 5 ["hold","state","order"] (rG K Ad.aY):=by
 refine T.Ei.cM sS λ f bB A outer s H vs Q E hr h=>?_
 obtain ⟨a,fp,m,p,st,o,rfl,hh,hs,ok,ho,k⟩:=h
 refine ⟨_,(ag (az (i:=3) sS.nd rfl (lc rfl) (ax iK (pv 2) (p9 vX (ay au (pv 1) af (λ _ _=>rfl)))))
     (am (aH (ak (ni (K:=K) T) hr.m (aa (lS ["room"] ["state","hold"] [1,0] (.cons ⟨rfl,rfl,.inl rfl⟩ (.cons ⟨rfl,rfl,.inl rfl⟩ .nil)) rfl (fL (ak (kr (K:=K) T) hr.m (aa (pv 3) ac))) (λ _ _ _ _ _=>(aK (i:=0) (show (["room","state","hold"]:List Str).Nodup by decide +kernel) rfl (lc rfl))) (λ _ _ _ _ _=>(jA (aJ lQ (ay (fe (K:=K) rfl) (ay (fe (K:=K) rfl) (pv 1) af (λ _ _=>rfl)) (pv 0) (λ _ _=>rfl)) (ay (fe (K:=K) rfl) (aX (pv 2) T.aE (dM (K:=K) T) .nil hr.m (aa (pv 0) ac)) af (λ _ _=>rfl)) (aL _)))) (λ _ _ _ _ _=>(pv 0)) rfl (by decide +kernel) (by decide +kernel) (by decide +kernel)) ac))))),?_⟩
 try dsimp only [d9,aT]
 obtain ⟨pb,pw,pf,e0,eb,ew,ef⟩:=id hs
 obtain ⟨⟨dx,pm,Lr,JN,Kc,vm,vs,vt,aN,_,ha,_⟩,q1,q2,q3,q4⟩:=id hh
 have pX:o<16:=by rw [← ho];exact afX aoy (Ck q3)
 have b16:st.cT<16:=Ord.L4 q3 ok.cT
 refine ⟨_,rfl,_,rfl,p,_,_,_,rfl,rfl,.inr e0,rfl,_,rfl,_,_,rfl,rfl,λ y ey=>?_⟩
 obtain rfl:y=((Ord.off o st.cT:Nat):Int):=by rw [ey];exact kR _ _
 have Yj:Ord.off o st.cT<2 ^ 4:=Ord.NN (n:=4) pX
 have em:=Nf q3 ok ho
 have DQ:∀ r∈Bit.rooms (Ord.off o st.cT),r<m.rows.length/\m.has r=true:=λ r hr=>by
   have:=(Bit.dJ.mp hr).2
   rw [Ord.oS pX b16,ac5] at this
   exact DF ho this.1
 generalize Ord.off o st.cT=z at Yj em DQ ⊢
 refine ⟨_,rfl,z,rfl,aoh Yj (by decide),λ pl Hm lA sm km=>⟨pl,rfl,⟨_,bg.of km⟩,λ D hD=>?_⟩⟩
 refine iO (K:=K) (a:=pl) (xs:=(Bit.rooms z).map aq) (λ j acc U H'=>A4 (aB Hm H') (H' D=some (.lst acc)) (acc=(((Bit.rooms z).take j).filter λ r=>decide ((gN st.failed r:Int)<m.fails r)).map aq) (∃ v,U=[v,some (.ref p),some (.ref a)]))
   ⟨ai hD,ah,rfl,none,rfl⟩ (λ j acc U H' _ e=>bg.of (e.1 _ _ km)) ?_ ?_
 .
  rintro j x acc U H' hx ⟨s2,ln,rfl,v,rfl⟩
  obtain ⟨r,er,rfl⟩:=eP hx
  obtain ⟨JC,zY⟩:=DQ r (ac8 er)
  obtain ⟨zz,ez⟩:=rP zY
  have hz:=mm (m:=m) (i:=r) (by lia)
  have S2:=sm.trans s2
  have la:=ae9 (λ r=>decide ((gN st.failed r:Int)<m.fails r)) ((Bit.rooms z).take j)
  have lr:=uI z
  rw [abX] at la
  have Cv:m.fails r=zz.2.2.2:=by unfold ap.fails;rw [ez];rfl
  refine ⟨_,rfl,p,_,_,_,rfl,rfl,.inr (S2.tup e0),rfl,_,rfl,pf,_,_,_,rfl,rfl,.inr (S2.tup ef),qi (by rw [ok.lf];exact JC),?_⟩
  refine ⟨_,rfl,a,dx,_,rfl,S2 _ _ ha,rfl,_,rfl,a,fp,m,r,_,rfl,hh.same S2,hz,λ u du=>?_⟩
  rw [ez] at du
  obtain ⟨pz,v1,rfl,zN,_⟩:=du.i3
  have er2:(((Bit.rooms z).take (j+1)).filter λ r=>decide ((gN st.failed r:Int)<m.fails r)).map aq=(((Bit.rooms z).take j).filter λ r=>decide ((gN st.failed r:Int)<m.fails r)).map aq++(if decide ((gN st.failed r:Int)<m.fails r)=true then [aq r] else []):=by
    rw [iS er,ag3,YC]
    by_cases q:(gN st.failed r:Int)<m.fails r<;>simp [q]
  refine ⟨pz,_,_,_,rfl,rfl,.inr zN,rfl,_,_,rfl,rfl,_,rfl,d6 (λ h=>?_) (λ h=>?_)⟩
  . refine ⟨_,rfl,ln,aS (by rw [At];lia),s2.put hD,ah,?_,_,rfl⟩
    rw [er2,abY (by rw [Cv];exact h)];rfl
  . refine ⟨s2,ln,?_,_,rfl⟩
    rw [er2,abC (by rw [Cv];exact h)];simp
 .
  rintro acc U H' ⟨s2,ln,rfl,v,rfl⟩
  rw [At,agc] at ln
  have:=k H' (sm.trans s2)
  rw [← em] at this
  exact ⟨D,_,rfl,bg.of ln,λ r hr=>by have:=(DQ r (List.mem_filter.mp hr).1).1;lia,this⟩
theorem lX (T:Txt K mg Ad):Def P w K mg base "may_fail" 8 ["hold","state","order"] (rG K Ad.aY):=by
 refine T.BG.cM xA λ f bB A outer s H vs Q E hr h=>?_
 obtain ⟨a,fp,m,p,st,o,rfl,hh,hs,ok,ho,k⟩:=h
 refine ⟨_,(ag (br (ak (ff (K:=K) T) hr.m (aa (pv 0) (aa (pv 1) ac))))
     (am (aH (ak (As (K:=K) T) hr.m (aa (pv 0) (aa (pv 1) (aa (pv 2) ac))))))),?_⟩
 try dsimp only [d9,aT]
 refine ⟨_,rfl,_,rfl,a,fp,m,p,st,rfl,hh,hs,ok,λ H1 s1=>?_⟩
 exact ⟨_,rfl,_,rfl,_,rfl,a,fp,m,p,st,o,rfl,hh.same s1,hs.same s1,ok,ho,λ H2 s2=>k H2 (s1.trans s2)⟩
theorem sT (T:Txt K mg Ad):Def P w K mg base "wait_behind" 5 ["hold","state","burning","room"] (sQ K Ad.aY):=by
 refine T.tW.cM rK λ f bB A outer s H vs Q E hr h=>?_
 obtain ⟨a,fp,m,p,st,b,i,rfl,hh,hs,ok,hi,hz,h0,k⟩:=h
 refine ⟨_,(ag (aU (aJ hU (ak (eT (K:=K) T) hr.m (aa (ay au (pv 1) af (λ _ _=>rfl)) (aa (pv 3) ac))) (ak (eT (K:=K) T) hr.m (aa (pv 2) (aa (pv 3) ac))) (aL _)) (am (aH (ay au (aX (pv 0) T.aE (dM (K:=K) T) .nil hr.m (aa (pv 3) ac)) af (λ _ _=>rfl)))) aI)
     (am (aH (aO (vh rfl) (by rfl) T.L6 Gp (aa af (aa (ax cO (ay au (ay au (pv 1) af (λ _ _=>rfl)) (pv 3) (λ _ _=>rfl)) af) ac)))))),?_⟩
 try dsimp only [d9,aT]
 obtain ⟨pb,pw,pf,e0,eb,ew,ef⟩:=id hs
 obtain ⟨⟨dx,pm,Lr,JN,Kc,vm,vs,vt,aN,_,ha,_⟩,q1,q2,q3,q4⟩:=id hh
 refine ⟨_,rfl,p,_,_,_,rfl,rfl,.inr e0,rfl,_,rfl,st.cT,i,rfl,?_⟩
 refine ⟨_,rfl,_,rfl,b,i,rfl,rfl,_,rfl,mO (λ CG=>?_) (λ heq=>?_)⟩
 .
  have CG:¬ st.cT.testBit i=b.testBit i:=λ e=>CG (by rw [e])
  obtain ⟨z,ez⟩:=rP (hz CG)
  have gE:=mm (m:=m) (i:=i) (by lia)
  refine ⟨_,rfl,a,dx,_,rfl,ha,rfl,_,rfl,a,fp,m,i,_,rfl,hh,gE,λ u du=>?_⟩
  rw [ez] at du
  obtain ⟨pz,v1,rfl,zN,_⟩:=du.i3
  have e1:m.fB i=z.2.2.1:=by unfold ap.fB;rw [ez];rfl
  have e2:aq (st.iV m b i) = .int z.2.2.1:=by
    unfold dY.iV
    rw [aa8 CG,← e1]
    show V.int _=_
    rw [ahT h0]
  rw [e2] at k
  exact ⟨pz,_,_,_,rfl,rfl,.inr zN,rfl,k⟩
 .
  have heq:st.cT.testBit i=b.testBit i:=by injection heq
  refine ⟨_,rfl,p,_,_,_,rfl,rfl,.inr e0,rfl,_,rfl,pw,_,_,_,rfl,rfl,.inr ew,qi (by rw [ok.lw];exact hi),_,_,rfl,rfl,λ y ey=>?_⟩
  refine ⟨0,y,rfl,?_⟩
  have e2:(if y > 0 then y else 0)=((st.iV m b i:Nat):Int):=by
    unfold dY.iV
    rw [abl heq]
    split<;>lia
  rw [e2]
  exact k
theorem pN (T:Txt K mg Ad):Def P w K mg base "failed_behind" 2 ["state","burning","out","room"] (pZ K):=by
 refine T.qz.cM pM λ f bB A outer s H vs Q E hr h=>?_
 obtain ⟨p,st,b,out,i,rfl,hs,hi,k⟩:=h
 refine ⟨_,(ag (aU (bK (ak (eT (K:=K) T) hr.m (aa (pv 2) (aa (pv 3) ac)))) (am (aH (ax aG (ay au (ay au (pv 0) af (λ _ _=>rfl)) (pv 3) (λ _ _=>rfl)) af))) aI)
     (ag (aU (bK (ak (eT (K:=K) T) hr.m (aa (pv 1) (aa (pv 3) ac)))) (am (aH af)) aI)
     (am (aH (ay au (ay au (pv 0) af (λ _ _=>rfl)) (pv 3) (λ _ _=>rfl)))))),?_⟩
 try dsimp only [d9,aT]
 first|(refine fF ?_;intro _ _ _ _)|skip
 obtain ⟨pb,pw,pf,e0,eb,ew,ef⟩:=id hs
 unfold dY.jS at k
 refine ⟨_,rfl,_,rfl,out,i,rfl,_,rfl,?_⟩
 cases h1:out.testBit i with
 | true =>
   rw [h1] at k
   refine fw ⟨_,rfl,p,_,_,_,rfl,rfl,.inr e0,rfl,_,rfl,pf,_,_,_,rfl,rfl,.inr ef,qi hi,_,_,rfl,rfl,λ y ey=>?_⟩
   rw [ey]
   exact k
 | false =>
   rw [h1] at k
   refine dF ⟨_,rfl,_,rfl,b,i,rfl,_,rfl,?_⟩
   cases h2:b.testBit i with
   | true =>
     rw [h2] at k
     exact fw k
   | false =>
     rw [h2] at k
     exact dF ⟨_,rfl,p,_,_,_,rfl,rfl,.inr e0,rfl,_,rfl,pf,_,_,_,rfl,rfl,.inr ef,qi hi,k⟩
theorem pA (T:Txt K mg Ad):Def P w K mg base "stoves_behind" 7 ["hold","state","order","out"] (uy K Ad.aY):=by
 refine T.qK.cM dP λ f bB A outer s H vs Q E hr h=>?_
 obtain ⟨a,fp,m,p,st,o,out,rfl,hh,hs,ok,hz,h0,tD,k⟩:=h
 refine ⟨_,(ag (az (i:=4) dP.nd rfl (lc rfl) (ax iK (pv 2) (p9 vX (pv 3))))
     (ag (nZ (yi:=5) ["room"] ["hold","state","burning"] [0,1,4] (.cons ⟨rfl,rfl,.inl rfl⟩ (.cons ⟨rfl,rfl,.inl rfl⟩ (.cons ⟨rfl,rfl,.inl rfl⟩ .nil))) rfl (bH rfl T.cC (aa (cP (pv 0) T.aE (cw (K:=K) T) .nil hr.m) ac)) (λ _ _ _ _ _=>(aK (i:=0) (show (["room","hold","state","burning"]:List Str).Nodup by decide +kernel) rfl (lc rfl))) (λ _ _ _ _ _=>fM) (λ _ _ _ _ _=>(ak (sT (K:=K) T) hr.m (aa (pv 1) (aa (pv 2) (aa (pv 3) (aa (pv 0) ac)))))) rfl (by decide +kernel) (by decide +kernel) (by decide +kernel) dP.nd rfl (lc rfl) rfl)
     (ag (nZ (yi:=6) ["room"] ["state","burning","out"] [1,4,3] (.cons ⟨rfl,rfl,.inl rfl⟩ (.cons ⟨rfl,rfl,.inl rfl⟩ (.cons ⟨rfl,rfl,.inl rfl⟩ .nil))) rfl (bH rfl T.cC (aa (cP (pv 0) T.aE (cw (K:=K) T) .nil hr.m) ac)) (λ _ _ _ _ _=>(aK (i:=0) (show (["room","state","burning","out"]:List Str).Nodup by decide +kernel) rfl (lc rfl))) (λ _ _ _ _ _=>fM) (λ _ _ _ _ _=>(ak (pN (K:=K) T) hr.m (aa (pv 1) (aa (pv 2) (aa (pv 3) (aa (pv 0) ac)))))) rfl (by decide +kernel) (by decide +kernel) (by decide +kernel) dP.nd rfl (lc rfl) rfl)
     (ag (az (i:=7) dP.nd rfl (lc rfl) (aO (DE rfl) (by rfl) T.Ux Nz (aa (bC (pv 0) rfl) (aa (ax aG (ax cO (ay au (pv 1) af (λ _ _=>rfl)) (ak (rT (K:=K) T) hr.m (aa (pv 0) (aa (pv 4) ac)))) (bC (pv 0) rfl)) ac))))
     (am (aH (aV (aa (pv 4) (aa (cH dC (by rfl) T.gW fC (aa (pv 5) ac)) (aa (cH dC (by rfl) T.gW fC (aa (pv 6) ac)) (aa (pv 7) ac))))))))))),?_⟩
 try dsimp only [d9,aT]
 first|(refine jM ?_;intro _ _ _ _ _ _)|skip
 obtain ⟨pb,pw,pf,e0,eb,ew,ef⟩:=id hs
 obtain ⟨⟨dx,pm,Lr,JN,Kc,vm,vs,vt,aN,_,ha,_⟩,q1,q2,q3,q4⟩:=id hh
 refine ⟨_,rfl,_,rfl,_,rfl,_,_,rfl,rfl,λ y ey=>?_⟩
 obtain rfl:y=((Ord.off o out:Nat):Int):=by rw [ey];exact kR _ _
 generalize Ord.off o out=b at hz tD k ⊢
 refine ⟨_,rfl,a,dx,_,rfl,ha,rfl,a,fp,m,rfl,hh,_,rfl,by lia,by lia,λ D hD=>?_⟩
 refine dW (lo:=0) (n:=m.rows.length) (λ j acc U H'=>A4 (aB H H') (H' D=some (.lst acc)) (acc=((List.range j).map (st.iV m b)).map aq) (∃ v,U=[v,some (.ref a),some (.ref p),some (aq b)])) ⟨ai hD,ah,rfl,none,rfl⟩ ?_ ?_
 . rintro j acc U H' hj ⟨s1,j5,rfl,v,rfl⟩
   refine ⟨_,rfl,_,rfl,_,rfl,_,rfl,a,fp,m,p,st,b,j,(by rw [aaz];rfl),hh.same s1,hs.same s1,ok,hj,hz j,h0 j,j5,aS (by rw [At,At,acT];lia),s1.put hD,ah,?_,_,rfl⟩
   rw [aeA,YC,YC];rfl
 rintro acc U H1 ⟨s1,j5,rfl,v,rfl⟩
 refine ⟨_,rfl,a,dx,_,rfl,s1 _ _ ha,rfl,a,fp,m,rfl,hh.same s1,_,rfl,by lia,by lia,λ D2 ln=>?_⟩
 refine dW (lo:=0) (n:=m.rows.length) (λ j acc U H'=>A4 (aB H1 H') (H' D2=some (.lst acc)) (acc=((List.range j).map (st.jS b out)).map aq) (∃ v,U=[v,some (.ref p),some (aq b),some (aq out)])) ⟨ai ln,ah,rfl,none,rfl⟩ ?_ ?_
 . rintro j acc U H' hj ⟨s2,i9,rfl,v,rfl⟩
   refine ⟨_,rfl,_,rfl,_,rfl,_,rfl,p,st,b,out,j,(by rw [aaz];rfl),hs.same (s1.trans s2),by rw [ok.lf];exact hj,i9,aS (by rw [At,At,acT];lia),s2.put ln,ah,?_,_,rfl⟩
   rw [aeA,YC,YC];rfl
 rintro acc U H2 ⟨s2,i9,rfl,v,rfl⟩
 have S2:=s1.trans s2
 refine ⟨_,rfl,a,_,dx,_,_,rfl,S2 _ _ ha,T.aE,T.jk,xj ..,?_⟩
 refine ⟨_,rfl,p,_,_,_,rfl,rfl,.inr (S2.tup e0),rfl,?_⟩
 refine ⟨_,rfl,_,rfl,a,fp,m,b,rfl,hh.same S2,λ H3 s3=>?_⟩
 have S3:=S2.trans s3
 refine ⟨_,_,rfl,rfl,λ x1 g1=>⟨_,rfl,a,_,dx,_,_,rfl,S3 _ _ ha,T.aE,T.kM,zp ..,_,_,rfl,rfl,λ x2 g2=>⟨_,x2,rfl,?_⟩⟩⟩
 have e2:(if x2<m.iU then x2 else m.iU)=(((st.gF m b).toNat:Nat):Int):=by
   rw [ahT tD]
   unfold dY.gF
   split<;>lia
 rw [e2]
 refine ⟨_,rfl,_,rfl,D,_,rfl,.inl ⟨bg.of ((s2.trans s3) _ _ j5),λ kw RX=>?_⟩⟩
 have u1:aB _ _:=ai (o:=.tup (((List.range m.rows.length).map (st.iV m b)).map aq)) RX
 refine ⟨_,rfl,D2,_,rfl,.inl ⟨bg.of (u1 _ _ (s3 _ _ i9)),λ kf hkf=>?_⟩⟩
 have u2:aB _ _:=ai (o:=.tup (((List.range m.rows.length).map (st.jS b out)).map aq)) hkf
 refine ⟨_,rfl,Ob,λ q hq=>?_⟩
 have u3:aB _ _:=ai (o:=.tup [aq b,.ref kw,.ref kf,aq (st.gF m b).toNat]) hq
 exact k q kw kf _ (((S3.trans u1).trans u2).trans u3) ah (u3 _ _ (u2 _ _ ah)) (u3 _ _ ah)
theorem lR (T:Txt K mg Ad):Def P w K mg base "behind_turn" 8 ["hold","state","order","out"] (uy K Ad.aY):=by
 refine T.t8.cM sE λ f bB A outer s H vs Q E hr h=>?_
 obtain ⟨a,fp,m,p,st,o,out,rfl,hh,hs,ok,hz,h0,tD,k⟩:=h
 refine ⟨_,(ag (br (ak (ff (K:=K) T) hr.m (aa (pv 0) (aa (pv 1) ac))))
     (am (aH (ak (pA (K:=K) T) hr.m (aa (pv 0) (aa (pv 1) (aa (pv 2) (aa (pv 3) ac)))))))),?_⟩
 try dsimp only [d9,aT]
 refine ⟨_,rfl,_,rfl,a,fp,m,p,st,rfl,hh,hs,ok,λ H1 s1=>?_⟩
 exact ⟨_,rfl,_,rfl,_,rfl,_,rfl,a,fp,m,p,st,o,out,rfl,hh.same s1,hs.same s1,ok,hz,h0,tD,λ q pw pf H2 s2 x y z=>k q pw pf H2 (s1.trans s2) x y z⟩
open Classical in
noncomputable def qJ (tm:aw) (n:Nat) (s:dY) (o:Nat):Bool:=decide (tG tm n s o)
open Classical in
theorem Eg {tm:aw} {n o:Nat} {s:dY} (h:tG tm n s o):qJ tm n s o=true:=by unfold qJ;exact abY h
open Classical in
theorem AZ {tm:aw} {n o:Nat} {s:dY} (h:¬ tG tm n s o):qJ tm n s o=false:=by unfold qJ;exact abC h
open Classical in
theorem oU {tm:aw} {n o:Nat} {s:dY}:qJ tm n s o=true↔tG tm n s o:=by unfold qJ;exact decide_eq_true_iff
theorem nF {tm:aw} {n:Nat} {s:dY} (ok:tm.Ok n n) (n4:n<=4) (so:gD (tm.m2 n n) s):s.orders (tm.m2 n n)=(List.range 16).filter (qJ tm n s):=by
 obtain ⟨f1,f2,f3,f4⟩:=dh tm n n
 have hl:(tm.m2 n n).rows.length=n:=by rw [f1,At,abX,ok.lm];lia
 have hw:s.gG.length=n:=by rw [so.lw,hl]
 unfold dY.orders ap.ws
 rw [hl]
 refine Ord.Dp n4 (tm.m2 n n).has (tm.m2 n n).wd s.wt s.cT tm.bounds.1 s.heap _ _ (λ o _=>?_) (λ o _=>oU)
 unfold dY.EU ap.GX dY.held ap.mZ ap.ws
 rw [hw,hl,f2,ac5,ac5,ae2,ae2,ae2]
 exact ⟨λ ⟨a,b,c⟩=>⟨a,b,c⟩,λ ⟨a,b,c⟩=>⟨a,b,c⟩⟩
theorem xX (L:Nat->Bool) (j:Nat):(List.range (j+1)).filter L=(List.range j).filter L++if L j then [j] else []:=by
 rw [aeA,ag3]
 cases h:L j<;>simp [h]
theorem uJ {t u:L2.TE} {a b:Bool} {U:L2.St} {H:Hp} {Q:VK} (ht:∀ Q:VK,Q (.bl a) H->t U H Q) (hu:∀ Q:VK,Q (.bl b) H->u U H Q) (h:Q (.bl (a && b)) H):Gc t u U H Q:=by
 refine ht _ ⟨a,rfl,?_⟩
 cases a with
 | true=>exact fw (hu Q h)
 | false=>exact dF h
theorem Ew {i:Nat} {v:V} {U:L2.St} {H:Hp} {t u:L2.TE} {g:TG} {R:TS} {D:Ends} {a b:Bool} (ht:∀ Q:VK,Q (.bl a) H->t (U.set i (some v)) H Q) (hu:∀ Q:VK,Q (.bl b) H->u (U.set i (some v)) H Q)
   (h:g (.bl (a && b)) (U.set i (some v)) H (R D)):uv i v U H (aP (FE (Gc t u) g) R D):=uJ ht hu h
theorem nG (T:Txt K mg Ad):Def P w K mg base "sum_of_products" 3 ["pairs"] (Mu K):=by
 refine T.o8.cM bV λ f bB A outer s H vs Q E hr h=>?_
 obtain ⟨p,xs,ds,rfl,hp,hd,ho,hl,hB,k⟩:=h
 refine ⟨_,(ag (az (i:=1) bV.nd rfl (lc rfl) af)
     (ag (az (i:=2) bV.nd rfl (lc rfl) af)
     (ag (dO ad4 rfl (fL (pv 0)) (fP (K:=K) (n:=2) rfl rfl (bj (aK (i:=3) bV.nd rfl (lc rfl)) (bj (aK (i:=4) bV.nd rfl (lc rfl)) fG))) (ag (az (i:=5) bV.nd rfl (lc rfl) (ax bf (ay au (pv 3) af (λ _ _=>rfl)) (ay au (pv 4) af (λ _ _=>rfl))))
     (ag (az (i:=1) bV.nd rfl (lc rfl) (ax aG (ax bf (pv 1) (pv 5)) (ax bf (ax bf (ay au (pv 3) af (λ _ _=>rfl)) (ay au (pv 4) af (λ _ _=>rfl))) (pv 2))))
     (am (az (i:=2) bV.nd rfl (lc rfl) (ax bf (pv 2) (pv 5)))))))
     (am (aH (ak (lM (K:=K) T) hr.m (aa (pv 1) (aa (pv 2) ac)))))))),?_⟩
 try dsimp only [d9,aT]
 first|(refine d5 ?_;intro _ _ _ _ _)|skip
 have lx:xs.length=ds.length:=by rw [hd.length,At]
 refine ⟨_,rfl,p,rfl,⟨_,hp⟩,?_⟩
 refine lW (K:=K) (a:=p) (xs:=xs) (λ i U H'=>H'=H/\E3 λ (v3 v4 v5:Option V)=>U=[some (.ref p),some (.int (fb (ds.take i)).1),some (.int (fb (ds.take i)).2),v3,v4,v5]) ⟨rfl,none,none,none,rfl⟩ (λ i U H' _ e=>by rw [e.1];exact hp) ?_ ?_
 .
  rintro i x U H' hx ⟨rfl,v3,v4,v5,rfl⟩
  have hi:i<ds.length:=by rw [← lx];exact (List.getElem?_eq_some_iff.mp hx).1
  obtain ⟨b1,b2,b3⟩:=Av ds ho i (by lia)
  have et:ds.take (i+1)=ds.take i++[ds[i]]:=by rw [amE,av hi];rfl
  obtain ⟨y,ey,pq,ws,rfl,Ij,Df⟩:=hd.get (i:=i) (d:=FH ds[i]) (by rw [RS,av hi];rfl)
  obtain rfl:x = .ref pq:=aaU (hx.symm.trans ey)
  have hd:=ho ds[i] (aaA hi)
  obtain ⟨w1,r1,rfl,d1,w2,r2,rfl,d2,e3⟩:=Df
  have e3:r2=[]:=e3
  subst e3
  obtain ⟨p1,rfl,h1⟩:=Dn.fr d1
  obtain ⟨p2,rfl,h2⟩:=Dn.fr d2
  rw [et,oT]
  generalize ds[i]=d at hd h1 h2 ⊢
  generalize fb (ds.take i)=s at b1 b2 b3 ⊢
  refine ⟨pq,_,rfl,Ij,rfl,_,_,rfl,_,_,rfl,rfl,?_⟩
  refine ⟨_,rfl,p1,_,_,_,rfl,rfl,.inr h1,rfl,_,rfl,p2,_,_,_,rfl,rfl,.inr h2,rfl,_,_,rfl,rfl,⟨900,900,hd.a.b,hd.b.b,by decide⟩,λ be Y8=>?_⟩
  have Y8:be=d.1.2 * d.2.2:=Y8
  have bb:Bd 1800 (d.1.2 * d.2.2):=hd.a.b.mul hd.b.b
  subst Y8
  have sm:1802 * i+2+1800<=100000:=by lia
  refine ⟨_,rfl,_,rfl,_,_,rfl,rfl,⟨1802 * i+2,1800,b1,bb,by lia⟩,λ x1 e1=>?_⟩
  refine ⟨_,rfl,p1,_,_,_,rfl,rfl,.inr h1,rfl,_,rfl,p2,_,_,_,rfl,rfl,.inr h2,rfl,_,_,rfl,rfl,⟨900,900,hd.a.t,hd.b.t,by decide⟩,λ x2 e2=>?_⟩
  have bt:Bd 1800 x2:=by rw [e2];exact hd.a.t.mul hd.b.t
  refine ⟨_,rfl,_,_,rfl,rfl,⟨1800,1800 * i+1,bt,b2,by lia⟩,λ x3 e3=>⟨_,_,rfl,rfl,λ x4 e4=>?_⟩⟩
  refine ⟨_,rfl,_,rfl,_,_,rfl,rfl,⟨1800 * i+1,1800,b2,bb,by lia⟩,λ x5 e5=>⟨rfl,some (.ref p1),some (.ref p2),some (.int (d.1.2 * d.2.2)),?_⟩⟩
  have f4:x4=s.1 * (d.1.2 * d.2.2)+d.1.1 * d.2.1 * s.2:=by rw [e4,e1,e3,e2]
  have f5:x5=s.2 * (d.1.2 * d.2.2):=e5
  rw [f4,f5]
  rfl
 .
  rintro U H' ⟨rfl,v3,v4,v5,rfl⟩
  rw [lx,agc]
  have Hi:=Ch ho
  refine ⟨_,rfl,_,rfl,_,_,rfl,by lia,hB,λ q r u H2 F s2 hu=>k u H2 s2 ?_⟩
  have:=F.nf Hi
  rw [hu,← this]
theorem oh (T:Txt K mg Ad):Def P w K mg base "warmth_of" 6 ["hold","room","airs","weather","fired"] (Eb K Ad.aY):=by
 refine T.zw.cM ou λ f bB A outer s H vs Q E hr h=>?_
 obtain ⟨a,fp,m,i,pa,Pk,airs,wv,wf,fired,rfl,hh,hi,hpa,da,la,oa,dw,ow,hz,k⟩:=h
 refine ⟨_,(ag (nZ (yi:=5) ["of","air"] ["room","hold"] [1,0] (.cons ⟨rfl,rfl,.inl rfl⟩ (.cons ⟨rfl,rfl,.inl rfl⟩ .nil)) rfl (MK rfl T.jx (aa (pv 2) ac)) (λ _ _ _ _ _=>(fP (K:=K) (n:=2) rfl rfl (bj (aK (i:=0) (show (["of","air","room","hold"]:List Str).Nodup by decide +kernel) rfl (lc rfl)) (bj (aK (i:=1) (show (["of","air","room","hold"]:List Str).Nodup by decide +kernel) rfl (lc rfl)) fG)))) (λ _ _ _ _ _=>fM) (λ _ _ _ _ _=>(aV (aa (aX (pv 3) T.aE (lF (K:=K) T) .nil hr.m (aa (pv 2) (aa (pv 0) ac))) (aa (pv 1) ac)))) rfl (by decide +kernel) (by decide +kernel) (by decide +kernel) ou.nd rfl (lc rfl) rfl)
     (ag (br (j1 adL adq adc cN (pv 5) (aa (aV (aa (ay au (aX (pv 0) T.aE (oi (K:=K) T) .nil hr.m (aa (pv 1) ac)) af (λ _ _=>rfl)) (aa (pv 3) ac))) ac)))
     (ag (gp (aU (bK (pv 4)) (am (br (j1 adL adq adc cN (pv 5) (aa (aV (aa (bM (v:=V.ref _) rfl T.Cb rfl) (aa (ay au (aX (pv 0) T.aE (dM (K:=K) T) .nil hr.m (aa (pv 1) ac)) af (λ _ _=>rfl)) ac))) ac)))) aI))
     (am (aH (ak (nG (K:=K) T) hr.m (aa (pv 5) ac))))))),?_⟩
 try dsimp only [d9,aT]
 first|(refine d5 ?_;intro _ _ _ _ _)|skip
 obtain ⟨⟨dx,pm,Lr,JN,Kc,vm,vs,vt,aN,pP,ha,_⟩,q1,q2,q3,q4⟩:=id hh
 obtain ⟨pok,ajo,pbd⟩:=qm (i:=i) (fired:=fired) q4 q3 la oa ow hz
 have lav:Pk.length=airs.length:=by rw [da.length,At]
 refine ⟨_,rfl,pa,rfl,⟨_,hpa⟩,λ D hD=>?_⟩
 refine mD (sq:=bg K) (a:=pa) (xs:=Pk) (λ j acc U H'=>A4 (aB H H') (H' D=some (.lst acc)) (cf K H' (((List.range j).map λ j=>((m.share i j,airs.getD j (0,1)):Pr)).map FH) acc) (E2 λ v0 v1=>U=[v0,v1,some (aq i),some (.ref a)]))
   ⟨ai hD,ah,rfl,none,none,rfl⟩ (λ j acc U H' _ e=>e.1.seq hpa) ?_ ?_
 .
  rintro j x pp acc U H' hx xi ⟨s1,j5,d1,v0,v1,rfl⟩
  have hj:j<airs.length:=by rw [← lav];exact (List.getElem?_eq_some_iff.mp hx).1
  obtain ⟨y,ey,dy⟩:=da.get (i:=j) (d:=ek airs[j]) (by rw [RS,av hj];rfl)
  obtain rfl:x=y:=aaU (hx.symm.trans ey)
  have s2:aB H' (upd H' pp (.tup [aq j,x])):=ai xi
  have nD:D≠pp:=aC j5 xi
  have S2:=s1.trans s2
  refine ⟨pp,_,rfl,bS.of ah,rfl,_,_,rfl,_,_,rfl,rfl,?_⟩
  refine ⟨_,rfl,a,dx,_,rfl,S2 _ _ ha,rfl,_,rfl,_,rfl,a,fp,m,i,j,rfl,hh.same S2,hi,by lia,λ v H3 s3 dv=>?_⟩
  have S3:=S2.trans s3
  refine ⟨_,rfl,mS,λ pt c8=>?_⟩
  have s4:aB H3 (upd H3 pt (.tup [v,x])):=ai c8
  have S4:=S3.trans s4
  have CA:=s4 _ _ (s3 _ _ (s2 _ _ j5))
  have ts:cu K (upd H3 pt (.tup [v,x])) (upd (upd H3 pt (.tup [v,x])) D (.lst (acc++[.ref pt]))):=eS CA rfl
  have HL:acc.length=j:=by rw [d1.length,At,At,acT]
  refine ⟨CA,aS (by lia),(S4).put hD,ah,?_,_,_,rfl⟩
  rw [aeA,YC,YC]
  refine (cf.ts ((aB.ts ((s2.trans s3).trans s4)).trans ts) _ (ss _) d1).snoc (Dn.ts ts _ (qX _) ?_)
  have ea:airs.getD j (0,1)=airs[j]:=by rw [Nv,av hj];rfl
  show Dn K _ (FH (m.share i j,airs.getD j (0,1))) _
  rw [ea]
  exact gO (bS.of ah) (bU (Dn.same s4 _ dv) (bU (Dn.same S4 _ dy) ic))
 .
  rintro acc U H1 ⟨s1,j5,d1,v0,v1,rfl⟩
  rw [lav] at d1
  have d1:cf K H1 ((dG m i airs).map FH) acc:=d1
  have HL:acc.length<=4:=by rw [d1.length,At];unfold dG;rw [At,acT];lia
  have Ia:i<m.bw.length:=by lia
  have Wh:=av Ia
  have JB:m.eV i=m.bw[i].1:=by unfold ap.eV;rw [Wh];rfl
  refine ⟨_,rfl,.inl ⟨rfl,_,bg.of j5⟩,_,rfl,a,dx,_,rfl,s1 _ _ ha,rfl,_,rfl,a,fp,m,i,_,rfl,hh.same s1,Wh,λ v dv=>?_⟩
  obtain ⟨p0,Ih,X1,Yd,rfl,Dq,dd1,U0,dd3⟩:=dv.dE
  refine ⟨p0,_,_,_,rfl,rfl,.inr Dq,rfl,_,rfl,mS,λ pt c8=>?_⟩
  have s2:aB H1 (upd H1 pt (.tup [Ih,wv])):=ai c8
  have ln:=s2 _ _ j5
  refine ⟨D,_,_,rfl,rfl,ln,aS (by lia),?_⟩
  have ts:cu K (upd H1 pt (.tup [Ih,wv])) (upd (upd H1 pt (.tup [Ih,wv])) D (.lst (acc++[.ref pt]))):=eS ln rfl
  have i9:(upd (upd H1 pt (.tup [Ih,wv])) D (.lst (acc++[.ref pt]))) D=some (.lst (acc++[.ref pt])):=ah
  have S3:aB H (upd (upd H1 pt (.tup [Ih,wv])) D (.lst (acc++[.ref pt]))):=(s1.trans s2).put hD
  have d3:cf K (upd (upd H1 pt (.tup [Ih,wv])) D (.lst (acc++[.ref pt]))) ((dG m i airs++[(m.eV i,wf)]).map FH) (acc++[.ref pt]):=by
    rw [YC]
    refine (cf.ts ((aB.ts s2).trans ts) _ (ss _) d1).snoc (Dn.ts ts _ (qX _) ?_)
    refine gO (bS.of ah) (bU (Dn.same s2 _ ?_) (bU (Dn.same (s1.trans s2) _ dw) ic))
    rw [JB];exact dd1
  generalize (upd (upd H1 pt (.tup [Ih,wv])) D (.lst (acc++[.ref pt])))=H3 at i9 S3 d3 ⊢
  refine ⟨λ σ' H'=>aB H H'/\∃ xs,A3 (H' D=some (.lst xs)) (cf K H' ((gh m i airs wf fired).map FH) xs) (σ'=[some (.ref a),some (aq i),some (.ref pa),some wv,some (.bl fired),some (.ref D)]),?_,?_⟩
  .
   refine ⟨_,rfl,_,rfl,?_⟩
   cases fired with
   | false =>
     refine dF ⟨S3,_,i9,?_,rfl⟩
     unfold gh
     rw [aa8 aaR,aji]
     exact d3
   | true =>
     obtain ⟨z,ez⟩:=hz rfl
     refine fw ⟨_,rfl,.inl ⟨rfl,_,bg.of i9⟩,?_⟩
     refine ⟨_,rfl,a,dx,_,rfl,S3 _ _ ha,rfl,_,rfl,a,fp,m,i,_,rfl,hh.same S3,ez,λ u du=>?_⟩
     obtain ⟨pz,zs,rfl,zN,t1,r1,rfl,e1,_⟩:=du
     refine ⟨pz,_,_,_,rfl,rfl,.inr zN,bh (j:=0) rfl,mS,λ Yo ack=>?_⟩
     have s4:aB H3 (upd H3 Yo (.tup [.ref Ad.u0,t1])):=ai ack
     have CA:=s4 _ _ i9
     refine ⟨D,_,_,rfl,rfl,CA,aS (by rw [aas];simp only [acq,am8];lia),(S3.trans s4).put hD,_,ah,?_,rfl⟩
     have ts2:cu K (upd H3 Yo (.tup [.ref Ad.u0,t1])) (upd (upd H3 Yo (.tup [.ref Ad.u0,t1])) D (.lst ((acc++[.ref pt])++[.ref Yo]))):=eS CA rfl
     have ez2:(((m.aF[i]?).getD none).map (·.1)).getD (0,1)=z.1:=by rw [ez];rfl
     unfold gh
     rw [abl rfl,YC]
     refine (cf.ts ((aB.ts s4).trans ts2) _ (ss _) d3).snoc (Dn.ts ts2 _ (qX _) ?_)
     show Dn K _ (FH ((1,1),(((m.aF[i]?).getD none).map (·.1)).getD (0,1))) _
     rw [ez2]
     exact gO (bS.of ah) (bU (T.C8.fr (f:=(1,1))) (bU (Dn.same s4 _ e1) ic))
  . rintro σ' H4 ⟨S4,xs,CA,d4,rfl⟩
    exact ⟨_,rfl,D,xs,_,rfl,bg.of CA,d4,pok,ajo,pbd,λ q H5 s5 hq5=>k q H5 (S4.trans s5) hq5⟩
theorem BA (T:Txt K mg Ad):Def P w K mg base "span_of" 7 ["hold","room","bands","fired"] (KD K Ad.aY):=by
 refine T.Er.cM iZ λ f bB A outer s H vs Q E hr h=>?_
 obtain ⟨a,fp,m,i,pb,bs,fired,rfl,hh,hi,hb,lb,xp,hz,k⟩:=h
 refine ⟨_,(ag (jF (mh Cj (aX (pv 0) T.aE (oi (K:=K) T) .nil hr.m (aa (pv 1) ac)) (kX af) vJ) (fP (K:=K) (n:=2) rfl rfl (bj (aK (i:=4) iZ.nd rfl (lc rfl)) (bj (aK (i:=5) iZ.nd rfl (lc rfl)) fG))))
     (ag (nZ (yi:=6) ["of","band"] ["hold"] [0] (.cons ⟨rfl,rfl,.inl rfl⟩ .nil) rfl (GK rfl T.jx (aa (pv 2) ac)) (λ _ _ _ _ _=>(fP (K:=K) (n:=2) rfl rfl (bj (aK (i:=0) (show (["of","band","hold"]:List Str).Nodup by decide +kernel) rfl (lc rfl)) (bj (aK (i:=1) (show (["of","band","hold"]:List Str).Nodup by decide +kernel) rfl (lc rfl)) fG)))) (λ _ _ _ _ _=>fM) (λ _ _ _ _ _=>(ay (fe (K:=K) rfl) (aX (pv 2) T.aE (gl (K:=K) T) .nil hr.m (aa (pv 0) ac)) (pv 1) (λ _ _=>rfl))) rfl (by decide +kernel) (by decide +kernel) (by decide +kernel) iZ.nd rfl (lc rfl) rfl)
     (ag (nZ (yi:=7) ["of","band"] ["hold"] [0] (.cons ⟨rfl,rfl,.inl rfl⟩ .nil) rfl (GK rfl T.jx (aa (pv 2) ac)) (λ _ _ _ _ _=>(fP (K:=K) (n:=2) rfl rfl (bj (aK (i:=0) (show (["of","band","hold"]:List Str).Nodup by decide +kernel) rfl (lc rfl)) (bj (aK (i:=1) (show (["of","band","hold"]:List Str).Nodup by decide +kernel) rfl (lc rfl)) fG)))) (λ _ _ _ _ _=>fM) (λ _ _ _ _ _=>(ay (fe (K:=K) rfl) (aX (pv 2) T.aE (gl (K:=K) T) .nil hr.m (aa (pv 0) ac)) (ax aG (pv 1) af) (λ _ _=>rfl))) rfl (by decide +kernel) (by decide +kernel) (by decide +kernel) iZ.nd rfl (lc rfl) rfl)
     (am (aH (aV (aa (ak (oh (K:=K) T) hr.m (aa (pv 0) (aa (pv 1) (aa (pv 6) (aa (pv 4) (aa (pv 3) ac)))))) (aa (ak (oh (K:=K) T) hr.m (aa (pv 0) (aa (pv 1) (aa (pv 7) (aa (pv 5) (aa (pv 3) ac)))))) ac)))))))),?_⟩
 try dsimp only [d9,aT]
 first|(refine d5 ?_;intro _ _ _ _ _)|skip
 obtain ⟨⟨dx,pm,Lr,JN,Kc,vm,vs,vt,aN,pP,ha,_⟩,q1,q2,q3,q4⟩:=id hh
 have Ia:i<m.bw.length:=by lia
 have Wh:=av Ia
 have JB:lK m i=m.bw[i]:=by unfold lK;rw [Wh];rfl
 have okk:=q4.bw m.bw[i] (aaA Ia)
 have olo:eA 120 (lK m i).2.1:=by rw [JB];exact okk.2.1.mono (by decide)
 have ohi:eA 120 (lK m i).2.2:=by rw [JB];exact okk.2.2.mono (by decide)
 have le0:(gm m bs 0).length=m.rows.length:=by unfold gm;rw [At,acT,lb]
 have le1:(gm m bs 1).length=m.rows.length:=by unfold gm;rw [At,acT,lb]
 refine ⟨_,rfl,a,dx,_,rfl,ha,rfl,_,rfl,a,fp,m,i,_,rfl,hh,Wh,λ v dv=>?_⟩
 obtain ⟨p0,Ih,X1,Yd,rfl,Dq,dd1,U0,dd3⟩:=dv.dE
 refine ⟨1,rfl,p0,_,1,rfl,Dq,rfl,rfl,by decide,(by show 1<=3;decide),λ q0 hq=>?_⟩
 refine ⟨q0,_,rfl,bS.of ah,rfl,_,_,rfl,_,_,rfl,rfl,?_⟩
 have S0:aB H (upd H q0 (.tup ([Ih,X1,Yd].drop 1))):=ai hq
 generalize upd H q0 (.tup ([Ih,X1,Yd].drop 1))=H0 at S0 ⊢
 have dlo:Dn K H0 (ek (lK m i).2.1) X1:=by rw [JB];exact Dn.same S0 _ U0
 have dhi:Dn K H0 (ek (lK m i).2.2) Yd:=by rw [JB];exact Dn.same S0 _ dd3
 rcases hb with hb|hb
 .
  have hb:=S0.seq hb
  refine ⟨_,rfl,pb,rfl,.inl ⟨⟨_,hb⟩,λ D hD=>?_⟩⟩
  refine mD (sq:=bg K) (a:=pb) (xs:=bs.map aq) (λ j acc U H'=>A4 (aB H0 H') (H' D=some (.lst acc)) (cf K H' (((List.range j).map λ j=>(m.rows.getD j []).getD (bs.getD j 0+0) (0,1)).map ek) acc) (E2 λ v0 v1=>U=[v0,v1,some (.ref a)]))
    ⟨ai hD,ah,rfl,none,none,rfl⟩ (λ j acc U H' _ e=>e.1.seq hb) ?_ ?_
  .
   rintro j x pp acc U H' hx xi ⟨s1,j5,d1,v0,v1,rfl⟩
   obtain ⟨b,eb,rfl⟩:=eP hx
   have hj:j<bs.length:=(List.getElem?_eq_some_iff.mp eb).1
   have hr:j<m.rows.length:=by lia
   have eg:bs.getD j 0=b:=by rw [Nv,eb];rfl
   have s2:aB H' (upd H' pp (.tup [aq j,aq b])):=ai xi
   have S2:=S0.trans (s1.trans s2)
   have er:m.rows.getD j []=m.rows[j]:=by rw [Nv,av hr];rfl
   have q:=xp j hr
   rw [er,eg] at q
   refine ⟨pp,_,rfl,bS.of ah,rfl,_,_,rfl,_,_,rfl,rfl,?_⟩
   refine ⟨_,rfl,a,dx,_,rfl,S2 _ _ ha,rfl,_,rfl,a,fp,m,j,_,rfl,hh.same S2,av hr,λ pm xs dI HU=>?_⟩
   have s3:aB (upd H' pp (.tup [aq j,aq b])) (upd (upd H' pp (.tup [aq j,aq b])) pm (.lst xs)):=ai dI
   obtain ⟨y,ey,dy⟩:=HU.get (i:=b) (d:=ek m.rows[j][b]) (by rw [RS,av (by lia)];rfl)
   have i9:=s3 _ _ (s2 _ _ j5)
   have ts:cu K (upd (upd H' pp (.tup [aq j,aq b])) pm (.lst xs)) (upd (upd (upd H' pp (.tup [aq j,aq b])) pm (.lst xs)) D (.lst (acc++[y]))):=eS i9 rfl
   have HL:acc.length=j:=by rw [d1.length,At,At,acT]
   refine ⟨_,rfl,pm,_,_,_,rfl,rfl,.inl (bg.of ah),bh ey,i9,aS (by lia),(s1.trans (s2.trans s3)).put hD,ah,?_,_,_,rfl⟩
   rw [aeA,YC,YC]
   refine (cf.ts ((aB.ts (s2.trans s3)).trans ts) _ (mE _ id) (by simpa using d1)).snoc (Dn.ts ts _ (gT _) ?_)
   show Dn K _ (ek ((m.rows.getD j []).getD (bs.getD j 0+0) (0,1))) y
   rw [er,eg,Nat.add_zero,Nv,av (by lia:b<m.rows[j].length)]
   exact Dn.same s3 _ dy
  rintro acc U H1 ⟨s1,j5,d1,v0,v1,rfl⟩
  rw [At] at d1
  have d1:cf K H1 ((gm m bs 0).map ek) acc:=d1
  have EY:=s1.seq hb
  have S1:=S0.trans s1
  refine ⟨_,rfl,pb,rfl,.inl ⟨⟨_,EY⟩,λ D2 ln=>?_⟩⟩
  refine mD (sq:=bg K) (a:=pb) (xs:=bs.map aq) (λ j acc U H'=>A4 (aB H1 H') (H' D2=some (.lst acc)) (cf K H' (((List.range j).map λ j=>(m.rows.getD j []).getD (bs.getD j 0+1) (0,1)).map ek) acc) (E2 λ v0 v1=>U=[v0,v1,some (.ref a)]))
    ⟨ai ln,ah,rfl,none,none,rfl⟩ (λ j acc U H' _ e=>e.1.seq EY) ?_ ?_
  .
   rintro j x pp tq U H' hx xi ⟨PB,M4,Qm,v0,v1,rfl⟩
   obtain ⟨b,eb,rfl⟩:=eP hx
   have hj:j<bs.length:=(List.getElem?_eq_some_iff.mp eb).1
   have hr:j<m.rows.length:=by lia
   have eg:bs.getD j 0=b:=by rw [Nv,eb];rfl
   have s2:aB H' (upd H' pp (.tup [aq j,aq b])):=ai xi
   have S2:=S1.trans (PB.trans s2)
   have er:m.rows.getD j []=m.rows[j]:=by rw [Nv,av hr];rfl
   have q:=xp j hr
   rw [er,eg] at q
   refine ⟨pp,_,rfl,bS.of ah,rfl,_,_,rfl,_,_,rfl,rfl,?_⟩
   refine ⟨_,rfl,a,dx,_,rfl,S2 _ _ ha,rfl,_,rfl,a,fp,m,j,_,rfl,hh.same S2,av hr,λ pm xs dI HU=>?_⟩
   have s3:aB (upd H' pp (.tup [aq j,aq b])) (upd (upd H' pp (.tup [aq j,aq b])) pm (.lst xs)):=ai dI
   obtain ⟨y,ey,dy⟩:=HU.get (i:=b+1) (d:=ek m.rows[j][b+1]) (by rw [RS,av (by lia)];rfl)
   have i9:=s3 _ _ (s2 _ _ M4)
   have ts:cu K (upd (upd H' pp (.tup [aq j,aq b])) pm (.lst xs)) (upd (upd (upd H' pp (.tup [aq j,aq b])) pm (.lst xs)) D2 (.lst (tq++[y]))):=eS i9 rfl
   have HL:tq.length=j:=by rw [Qm.length,At,At,acT]
   refine ⟨_,rfl,_,_,rfl,rfl,λ z ez=>?_⟩
   obtain rfl:z=((b+1:Nat):Int):=by rw [ez];push_cast;rfl
   refine ⟨pm,_,_,_,rfl,rfl,.inl (bg.of ah),bh ey,i9,aS (by lia),(PB.trans (s2.trans s3)).put ln,ah,?_,_,_,rfl⟩
   rw [aeA,YC,YC]
   refine (cf.ts ((aB.ts (s2.trans s3)).trans ts) _ (mE _ id) (by simpa using Qm)).snoc (Dn.ts ts _ (gT _) ?_)
   show Dn K _ (ek ((m.rows.getD j []).getD (bs.getD j 0+1) (0,1))) y
   rw [er,eg,Nv,av (by lia:b+1<m.rows[j].length)]
   exact Dn.same s3 _ dy
  rintro tq U H2 ⟨s2,i9,d2,v0,v1,rfl⟩
  rw [At] at d2
  have d2:cf K H2 ((gm m bs 1).map ek) tq:=d2
  have S2:=S1.trans s2
  refine ⟨_,rfl,_,rfl,_,rfl,_,rfl,_,rfl,a,fp,m,i,D,acc,gm m bs 0,_,_,fired,rfl,hh.same S2,hi,bg.of (s2 _ _ j5),cf.same s2 _ d1,le0,om q4 lb xp (by decide),Dn.same ((s1.trans s2)) _ dlo,olo,hz,λ w1 H3 s3 hw1=>?_⟩
  have S3:=S2.trans s3
  refine ⟨_,rfl,_,rfl,_,rfl,_,rfl,_,rfl,a,fp,m,i,D2,tq,gm m bs 1,_,_,fired,rfl,hh.same S3,hi,bg.of (s3 _ _ i9),cf.same s3 _ d2,le1,om q4 lb xp (by decide),Dn.same ((s1.trans s2).trans s3) _ dhi,ohi,hz,λ w2 H4 s4 hw2=>⟨mS,λ q hq=>?_⟩⟩
  have s5:aB H4 (upd H4 q (.tup [.ref w1,.ref w2])):=ai hq
  exact k q w1 w2 _ ((S3.trans s4).trans s5) ah (s5 _ _ (s4 _ _ hw1)) (s5 _ _ hw2)
 .
  have hb:=S0.tup hb
  refine ⟨_,rfl,pb,rfl,.inr ⟨⟨_,hb⟩,λ D hD=>?_⟩⟩
  refine mD (sq:=bS K) (a:=pb) (xs:=bs.map aq) (λ j acc U H'=>A4 (aB H0 H') (H' D=some (.lst acc)) (cf K H' (((List.range j).map λ j=>(m.rows.getD j []).getD (bs.getD j 0+0) (0,1)).map ek) acc) (E2 λ v0 v1=>U=[v0,v1,some (.ref a)]))
    ⟨ai hD,ah,rfl,none,none,rfl⟩ (λ j acc U H' _ e=>e.1.tup hb) ?_ ?_
  .
   rintro j x pp acc U H' hx xi ⟨s1,j5,d1,v0,v1,rfl⟩
   obtain ⟨b,eb,rfl⟩:=eP hx
   have hj:j<bs.length:=(List.getElem?_eq_some_iff.mp eb).1
   have hr:j<m.rows.length:=by lia
   have eg:bs.getD j 0=b:=by rw [Nv,eb];rfl
   have s2:aB H' (upd H' pp (.tup [aq j,aq b])):=ai xi
   have S2:=S0.trans (s1.trans s2)
   have er:m.rows.getD j []=m.rows[j]:=by rw [Nv,av hr];rfl
   have q:=xp j hr
   rw [er,eg] at q
   refine ⟨pp,_,rfl,bS.of ah,rfl,_,_,rfl,_,_,rfl,rfl,?_⟩
   refine ⟨_,rfl,a,dx,_,rfl,S2 _ _ ha,rfl,_,rfl,a,fp,m,j,_,rfl,hh.same S2,av hr,λ pm xs dI HU=>?_⟩
   have s3:aB (upd H' pp (.tup [aq j,aq b])) (upd (upd H' pp (.tup [aq j,aq b])) pm (.lst xs)):=ai dI
   obtain ⟨y,ey,dy⟩:=HU.get (i:=b) (d:=ek m.rows[j][b]) (by rw [RS,av (by lia)];rfl)
   have i9:=s3 _ _ (s2 _ _ j5)
   have ts:cu K (upd (upd H' pp (.tup [aq j,aq b])) pm (.lst xs)) (upd (upd (upd H' pp (.tup [aq j,aq b])) pm (.lst xs)) D (.lst (acc++[y]))):=eS i9 rfl
   have HL:acc.length=j:=by rw [d1.length,At,At,acT]
   refine ⟨_,rfl,pm,_,_,_,rfl,rfl,.inl (bg.of ah),bh ey,i9,aS (by lia),(s1.trans (s2.trans s3)).put hD,ah,?_,_,_,rfl⟩
   rw [aeA,YC,YC]
   refine (cf.ts ((aB.ts (s2.trans s3)).trans ts) _ (mE _ id) (by simpa using d1)).snoc (Dn.ts ts _ (gT _) ?_)
   show Dn K _ (ek ((m.rows.getD j []).getD (bs.getD j 0+0) (0,1))) y
   rw [er,eg,Nat.add_zero,Nv,av (by lia:b<m.rows[j].length)]
   exact Dn.same s3 _ dy
  rintro acc U H1 ⟨s1,j5,d1,v0,v1,rfl⟩
  rw [At] at d1
  have d1:cf K H1 ((gm m bs 0).map ek) acc:=d1
  have EY:=s1.tup hb
  have S1:=S0.trans s1
  refine ⟨_,rfl,pb,rfl,.inr ⟨⟨_,EY⟩,λ D2 ln=>?_⟩⟩
  refine mD (sq:=bS K) (a:=pb) (xs:=bs.map aq) (λ j acc U H'=>A4 (aB H1 H') (H' D2=some (.lst acc)) (cf K H' (((List.range j).map λ j=>(m.rows.getD j []).getD (bs.getD j 0+1) (0,1)).map ek) acc) (E2 λ v0 v1=>U=[v0,v1,some (.ref a)]))
    ⟨ai ln,ah,rfl,none,none,rfl⟩ (λ j acc U H' _ e=>e.1.tup EY) ?_ ?_
  .
   rintro j x pp tq U H' hx xi ⟨PB,M4,Qm,v0,v1,rfl⟩
   obtain ⟨b,eb,rfl⟩:=eP hx
   have hj:j<bs.length:=(List.getElem?_eq_some_iff.mp eb).1
   have hr:j<m.rows.length:=by lia
   have eg:bs.getD j 0=b:=by rw [Nv,eb];rfl
   have s2:aB H' (upd H' pp (.tup [aq j,aq b])):=ai xi
   have S2:=S1.trans (PB.trans s2)
   have er:m.rows.getD j []=m.rows[j]:=by rw [Nv,av hr];rfl
   have q:=xp j hr
   rw [er,eg] at q
   refine ⟨pp,_,rfl,bS.of ah,rfl,_,_,rfl,_,_,rfl,rfl,?_⟩
   refine ⟨_,rfl,a,dx,_,rfl,S2 _ _ ha,rfl,_,rfl,a,fp,m,j,_,rfl,hh.same S2,av hr,λ pm xs dI HU=>?_⟩
   have s3:aB (upd H' pp (.tup [aq j,aq b])) (upd (upd H' pp (.tup [aq j,aq b])) pm (.lst xs)):=ai dI
   obtain ⟨y,ey,dy⟩:=HU.get (i:=b+1) (d:=ek m.rows[j][b+1]) (by rw [RS,av (by lia)];rfl)
   have i9:=s3 _ _ (s2 _ _ M4)
   have ts:cu K (upd (upd H' pp (.tup [aq j,aq b])) pm (.lst xs)) (upd (upd (upd H' pp (.tup [aq j,aq b])) pm (.lst xs)) D2 (.lst (tq++[y]))):=eS i9 rfl
   have HL:tq.length=j:=by rw [Qm.length,At,At,acT]
   refine ⟨_,rfl,_,_,rfl,rfl,λ z ez=>?_⟩
   obtain rfl:z=((b+1:Nat):Int):=by rw [ez];push_cast;rfl
   refine ⟨pm,_,_,_,rfl,rfl,.inl (bg.of ah),bh ey,i9,aS (by lia),(PB.trans (s2.trans s3)).put ln,ah,?_,_,_,rfl⟩
   rw [aeA,YC,YC]
   refine (cf.ts ((aB.ts (s2.trans s3)).trans ts) _ (mE _ id) (by simpa using Qm)).snoc (Dn.ts ts _ (gT _) ?_)
   show Dn K _ (ek ((m.rows.getD j []).getD (bs.getD j 0+1) (0,1))) y
   rw [er,eg,Nv,av (by lia:b+1<m.rows[j].length)]
   exact Dn.same s3 _ dy
  rintro tq U H2 ⟨s2,i9,d2,v0,v1,rfl⟩
  rw [At] at d2
  have d2:cf K H2 ((gm m bs 1).map ek) tq:=d2
  have S2:=S1.trans s2
  refine ⟨_,rfl,_,rfl,_,rfl,_,rfl,_,rfl,a,fp,m,i,D,acc,gm m bs 0,_,_,fired,rfl,hh.same S2,hi,bg.of (s2 _ _ j5),cf.same s2 _ d1,le0,om q4 lb xp (by decide),Dn.same ((s1.trans s2)) _ dlo,olo,hz,λ w1 H3 s3 hw1=>?_⟩
  have S3:=S2.trans s3
  refine ⟨_,rfl,_,rfl,_,rfl,_,rfl,_,rfl,a,fp,m,i,D2,tq,gm m bs 1,_,_,fired,rfl,hh.same S3,hi,bg.of (s3 _ _ i9),cf.same s3 _ d2,le1,om q4 lb xp (by decide),Dn.same ((s1.trans s2).trans s3) _ dhi,ohi,hz,λ w2 H4 s4 hw2=>⟨mS,λ q hq=>?_⟩⟩
  have s5:aB H4 (upd H4 q (.tup [.ref w1,.ref w2])):=ai hq
  exact k q w1 w2 _ ((S3.trans s4).trans s5) ah (s5 _ _ (s4 _ _ hw1)) (s5 _ _ hw2)
theorem nj (T:Txt K mg Ad):mU K Ad.bR:=⟨T.Aa,T.Aq,T.Ac,T.gs,T.tk,T.Ay,T.BL,T.Au⟩
theorem nP (T:Txt K mg Ad):mU K Ad.bX:=⟨T.BH,T.AG,T.Bw,T.gs,T.tk,T.AM,T.Bu,T.AF⟩
theorem p8 (T:Txt K mg Ad):ExcAt K Ad.bR "room":=⟨nj T,T.rM,T.A2,T.sV,T.o7⟩
theorem oV (T:Txt K mg Ad):ExcAt K Ad.bR "turn":=⟨nj T,T.rM,T.xt,T.sV,T.o7⟩
theorem qr (T:Txt K mg Ad):ExcAt K Ad.bX "room":=⟨nP T,T.rX,T.A7,T.tu,T.oX⟩
theorem oR (T:Txt K mg Ad):ExcAt K Ad.bX "turn":=⟨nP T,T.rX,T.xJ,T.tu,T.oX⟩
theorem BP (T:Txt K mg Ad):J9 P w K mg base Ad.bR 1 ["self","room","turn"] (pV Ad.bR "room" "turn"):=by
 refine T.G0.Up nJ (λ vs H Q E h=>?_) (λ _ _ _ _ _ _ us hl=>yO hl λ _ _ _=>rfl) (λ f _ _ _ s H vs Q E hr h=>?_)
 . obtain ⟨x,t,v,u,rfl,_⟩:=h
   rfl
 .
  obtain ⟨x,t,v,u,rfl,hx,k⟩:=h
  refine ⟨_,(ag (zG (pv 0) (pv 1) rfl)
    (am (yK (pv 0) (pv 2) rfl))),?_⟩
  try dsimp only [d9,aT]
  exact ⟨_,rfl,_,rfl,x,Ad.bR,t,rfl,hx,p8 T,λ dx hd hn=>⟨_,rfl,_,rfl,x,Ad.bR,t,dx,_,_,rfl,ah,by rw [aD hn];exact ah,hn,oV T,k dx hd hn⟩⟩
theorem Bv (T:Txt K mg Ad):J9 P w K mg base Ad.bX 1 ["self","room","turn"] (pV Ad.bX "room" "turn"):=by
 refine T.Fx.Up nH (λ vs H Q E h=>?_) (λ _ _ _ _ _ _ us hl=>yO hl λ _ _ _=>rfl) (λ f _ _ _ s H vs Q E hr h=>?_)
 . obtain ⟨x,t,v,u,rfl,_⟩:=h
   rfl
 .
  obtain ⟨x,t,v,u,rfl,hx,k⟩:=h
  refine ⟨_,(ag (zG (pv 0) (pv 1) rfl)
    (am (yK (pv 0) (pv 2) rfl))),?_⟩
  try dsimp only [d9,aT]
  exact ⟨_,rfl,_,rfl,x,Ad.bX,t,rfl,hx,qr T,λ dx hd hn=>⟨_,rfl,_,rfl,x,Ad.bX,t,dx,_,_,rfl,ah,by rw [aD hn];exact ah,hn,oR T,k dx hd hn⟩⟩
theorem oB (T:Txt K mg Ad):jb P w K mg base Ad.Walk "__init__" 8 ["self","hold","state"] [] (GV K Ad.aY Ad.Walk):=by
 refine T.qD.iq pW λ f bB A outer s H vs Q E hr h=>?_
 obtain ⟨x,dx,a,fp,m,p,st,rfl,hx,hh,hs,so,xp,k⟩:=h
 refine ⟨_,(ag (br (ak (ff (K:=K) T) hr.m (aa (pv 1) (aa (pv 2) ac))))
     (ag (eR (pv 0) (GQ (rC (K:=K) T) hr.m (aa (pv 1) ac)) rfl)
     (ag (eR (pv 0) (pv 2) rfl)
     (ag (eR (pv 0) af rfl)
     (am (eR (pv 0) lg rfl)))))),?_⟩
 try dsimp only [d9,aT]
 first|(refine jM ?_;intro _ _ _ _ _ _)|skip
 refine ⟨_,rfl,_,rfl,a,fp,m,p,st,rfl,hh,hs,so,λ H1 s1=>?_⟩
 refine ⟨_,rfl,a,fp,m,none,none,none,rfl,hh.same s1,xp,λ b H2 OO s2 Mz fr=>?_⟩
 have S2:=s1.trans s2
 have B0:jW K Ad.Walk x dx H2 H2 []:=.start (S2 _ _ hx)
 refine ⟨_,rfl,x,_,dx,_,rfl,B0.at_,T.bJ,T.dX,lt1000 rfl,?_⟩
 have B1:=B0.put (fs':=bN "hold" (.ref b) [])
 refine ⟨_,rfl,_,rfl,x,_,dx,_,rfl,B1.at_,T.bJ,T.dA,lt1000 rfl,?_⟩
 have B2:=B1.put (fs':=bN "place" (.ref p) (bN "hold" (.ref b) []))
 refine ⟨_,rfl,x,_,dx,_,rfl,B2.at_,T.bJ,T.fc,lt1000 rfl,?_⟩
 have B3:=B2.put (fs':=bN "gone" (.int 0) (bN "place" (.ref p) (bN "hold" (.ref b) [])))
 refine ⟨_,rfl,x,_,dx,_,rfl,B3.at_,T.bJ,T.jI,lt1000 rfl,?_⟩
 have B4:=B3.put (fs':=bN "ended" (.bl false) (bN "gone" (.int 0) (bN "place" (.ref p) (bN "hold" (.ref b) []))))
 have frx:∀ c∈OO,c≠x:=λ c hc z=>by
   have:=fr c hc
   rw [z,s1 _ _ hx] at this
   cases this
 have e:(m.with none none none)=m:=rfl
 rw [e] at Mz
 refine k OO _ (λ c o hc n=>B4.st c o (S2 c o hc) (λ q=>n (by rw [q];exact List.mem_singleton.mpr rfl))) ((aB.ts S2).trans B4.ts) ⟨dx,b,p,B4.at_,?_,(hs.same S2).ts B4.ts,λ z=>frx x z rfl⟩ (λ c hc=>s1.free (fr c hc))
 obtain ⟨⟨OY,pm,pf,ps,pt,vm,vs,vt,aN,rfl,ha,iM,dI,gX,ft,c8,n1,n2,n3,dm,ds,dt,df,fk⟩,q1,q2,q3,q4⟩:=id Mz
 have g:∀ {c o},H2 c=some o->c∈[b,OY,pm,pf,ps,pt]->_=some o:=λ {c o} e hc=>B4.st c o e (frx c hc)
 exact ⟨⟨OY,pm,pf,ps,pt,vm,vs,vt,aN,rfl,g ha (by simp),g iM (by simp),g dI (by simp),g gX (by simp),g ft (by simp),g c8 (by simp),n1,n2,n3,jf B4.ts dm,h9 B4.ts ds,gb B4.ts dt,λ i j=>(df i j).ts B4.ts,fk⟩,q1,q2,q3,q4⟩
theorem lv (T:Txt K mg Ad):jb P w K mg base Ad.Walk "state" 1 ["self"] [] (λ vs H Q _=>∃ x dx h q g,vs=[.ref x]/\H x=some (.ins Ad.Walk dx (NG h q g))/\Q (.ref q) H):=by
 refine T.vW.iq uh λ f bB A outer s H vs Q E hr h=>?_
 obtain ⟨x,dx,hd,q,g,rfl,hx,k⟩:=h
 refine ⟨_,(am (aH (bC (pv 0) rfl))),?_⟩
 try dsimp only [d9,aT]
 exact ⟨_,rfl,x,_,dx,_,_,rfl,hx,T.bJ,T.dA,rfl,k⟩
theorem rZ (T:Txt K mg Ad):jb P w K mg base Ad.Walk "turns" 1 ["self"] [] (λ vs H Q _=>∃ x dx h q g,vs=[.ref x]/\H x=some (.ins Ad.Walk dx (NG h q g))/\Q (.int g) H):=by
 refine T.xf.iq ua λ f bB A outer s H vs Q E hr h=>?_
 obtain ⟨x,dx,hd,q,g,rfl,hx,k⟩:=h
 refine ⟨_,(am (aH (bC (pv 0) rfl))),?_⟩
 try dsimp only [d9,aT]
 exact ⟨_,rfl,x,_,dx,_,_,rfl,hx,T.bJ,T.fc,rfl,k⟩
theorem pI (T:Txt K mg Ad):jb P w K mg base Ad.Walk "is_left" 1 ["self"] [] (λ vs H Q _=>∃ x dx h q g,vs=[.ref x]/\H x=some (.ins Ad.Walk dx (NG h q g))/\Q (.bl false) H):=by
 refine T.rD.iq qx λ f bB A outer s H vs Q E hr h=>?_
 obtain ⟨x,dx,hd,q,g,rfl,hx,k⟩:=h
 refine ⟨_,(am (aH (bC (pv 0) rfl))),?_⟩
 try dsimp only [d9,aT]
 exact ⟨_,rfl,x,_,dx,_,_,rfl,hx,T.bJ,T.jI,rfl,k⟩
theorem t7 (T:Txt K mg Ad):jb P w K mg base Ad.Walk "span" 8 ["self","room","burning"] [] (Gf K Ad.aY Ad.Walk):=by
 refine T.yR.iq wD λ f bB A outer s H vs Q E hr h=>?_
 obtain ⟨x,fp,m,st,g,i,b,rfl,⟨dx,hd,q,hx,hh,hs,nx⟩,so,hi,hb,k⟩:=h
 refine ⟨_,(am (aH (ak (BA (K:=K) T) hr.m (aa (bC (pv 0) rfl) (aa (pv 1) (aa (ay au (bC (pv 0) rfl) af (λ _ _=>rfl)) (aa (ak (eT (K:=K) T) hr.m (aa (pv 2) (aa (pv 1) ac))) ac))))))),?_⟩
 try dsimp only [d9,aT]
 obtain ⟨pb,pw,pf,e0,eb,ew,ef⟩:=id hs
 obtain ⟨_,q1,q2,q3,q4⟩:=id hh
 refine ⟨_,rfl,x,_,dx,_,_,rfl,hx,T.bJ,T.dX,rfl,_,rfl,_,rfl,x,_,dx,_,_,rfl,hx,T.bJ,T.dA,rfl,q,_,_,_,rfl,rfl,.inr e0,rfl,_,rfl,_,rfl,b,i,rfl,?_⟩
 exact ⟨hd,fp,m,i,pb,st.bA,b.testBit i,rfl,hh,hi,.inr eb,so.lb,λ j hj=>by have:=so.band j hj;unfold gN at this;rw [Nv];exact this,λ z=>by
   have:=rP (hb z)
   obtain ⟨z',ez⟩:=this
   exact ⟨z',by rw [mm (by lia),ez]⟩,k⟩
theorem ke (T:Txt K mg Ad):u8 P w K mg base Ad.Walk "look_at_order" 9 ["self","order","out"] [] (Gy K Ad.aY Ad.Walk Ad.cy Ad.bF):=by
 refine T.md.LL lh (λ vs H Q E h=>?_) (λ _ _ _ _ _ _ us hl=>yO hl λ _ _ _=>rfl) (λ f _ _ _ s H vs Q E hr h=>?_)
 . obtain ⟨x,fp,m,st,g,o,out,rfl,_⟩:=h
   rfl
 .
  obtain ⟨x,fp,m,st,g,o,out,rfl,⟨dx,hd,q,hx,hh,hs,nx⟩,so,pX,k1,k2,k3⟩:=h
  refine ⟨_,(ag (aU (bK (bC (pv 0) rfl)) (am (sB rfl anA T.Cn T.Kz (An λ _ _ _ z=>z) (aa aQ ac))) aI)
    (ag (aU (aJ oG (pv 1) (ak (vA (K:=K) T) hr.m (aa (bC (pv 0) rfl) (aa (bC (pv 0) rfl) ac))) (by with_unfolding_all rfl)) (am (sB rfl anA T.jX T.EA (An λ _ _ _ z=>z) (aa aQ ac))) aI)
    (am (aU (aJ hU (ax iK (pv 2) (p9 vX (ak (lX (K:=K) T) hr.m (aa (bC (pv 0) rfl) (aa (bC (pv 0) rfl) (aa (pv 1) ac)))))) af (aL _)) (am (sB rfl anA T.hJ T.yg (An λ _ _ _ z=>z) (aa aQ ac))) aI)))),?_⟩
  try dsimp only [d9,aT]
  first|(refine fF ?_;intro _ _ _ _)|skip
  obtain ⟨_,q1,q2,q3,q4⟩:=id hh
  refine ⟨_,rfl,x,_,dx,_,_,rfl,hx,T.bJ,T.jI,rfl,_,rfl,dF ?_⟩
  refine ⟨_,rfl,_,rfl,x,_,dx,_,_,rfl,hx,T.bJ,T.dX,rfl,_,rfl,x,_,dx,_,_,rfl,hx,T.bJ,T.dA,rfl,hd,fp,m,q,st,rfl,hh,hs,so,λ p1 H1 f1 s1 h1=>?_⟩
  refine ⟨p1,_,rfl,.inl (bg.of h1),rfl,uK _,_,rfl,?_⟩
  have ei:(if true=true then !Ii (aq o) ((st.orders m).map aq) else Ii (aq o) ((st.orders m).map aq)) = !decide (o∈st.orders m):=by rw [abl rfl];exact amX _ (Kt o _)
  rw [ei]
  by_cases ho:o∈st.orders m
  case neg =>
    rw [abC ho]
    exact fw ⟨OR,(k1 ho).plain s1⟩
  rw [abY ho]
  refine dF ?_
  have NU:=s1 _ _ hx
  refine ⟨_,rfl,_,rfl,x,_,dx,_,_,rfl,NU,T.bJ,T.dX,rfl,_,rfl,x,_,dx,_,_,rfl,NU,T.bJ,T.dA,rfl,_,rfl,hd,fp,m,q,st,o,rfl,hh.same s1,hs.same s1,so,AO ho,λ H2 s2=>?_⟩
  refine ⟨_,rfl,_,_,rfl,rfl,λ y ey=>⟨rfl,_,rfl,?_⟩⟩
  obtain rfl:y=((Ord.off out (st.may m o):Nat):Int):=by rw [ey];exact kR _ _
  have z:=Hb pX (Fc (s:=st) (o:=o) q3)
  by_cases hf:out &&& st.may m o=out
  . refine cY (by rw [z.mpr hf];rfl) (k3 ho hf H2 (s1.trans s2))
  . refine mO (λ _=>⟨OR,(k2 ho hf).plain (s1.trans s2)⟩) (λ q=>absurd (z.mp ?_) hf)
    have q:((Ord.off out (st.may m o):Nat):Int)=0:=eK.mp q
    exact_mod_cast q
theorem j0 (T:Txt K mg Ad):u8 P w K mg base Ad.Walk "look_at_warmth" 3 ["self","room","least","greatest","warmth"] [] (Oc K Ad.aY Ad.Walk Ad.bR):=by
 refine T.li.LL kP (λ vs H Q E h=>?_) (λ _ _ _ _ _ _ us hl=>Gi hl λ _ _ _ _ _=>rfl) (λ f _ _ _ s H vs Q E hr h=>?_)
 . obtain ⟨x,fp,m,st,g,i,v1,v2,v3,f1,f2,f3,rfl,_⟩:=h
   rfl
 .
  obtain ⟨x,fp,m,st,g,i,v1,v2,v3,f1,f2,f3,rfl,⟨dx,hd,q,hx,hh,hs,nx⟩,d1,d2,d3,o1,o2,o3,kt,kf⟩:=h
  refine ⟨_,(am (aU (PW.pt (io (bK (ak (gr (K:=K) T) hr.m (aa (pv 4) (aa (pv 2) ac)))) (gR (bK (ak (gr (K:=K) T) hr.m (aa (pv 3) (aa (pv 4) ac))))))) (am (uU rfl T.lI (BP (K:=K) T) hr.m (Ce λ _ _ _ z=>z) (aa (pv 1) (aa (bC (pv 0) rfl) ac)))) aI)),?_⟩
  try dsimp only [d9,aT]
  obtain ⟨p1,rfl,w1⟩:=d1.fr
  obtain ⟨p2,rfl,w2⟩:=d2.fr
  obtain ⟨p3,rfl,w3⟩:=d3.fr
  refine ⟨_,rfl,_,rfl,p3,p1,_,_,_,_,rfl,w3,w1,o3.t,o3.b,o1.t,o1.b,_,rfl,?_⟩
  show if bE f3 f1=true then _ else _
  cases c1:bE f3 f1 with
  | true =>
    have kt:hG Ad.bR (aq i) (.int g) H E:=kt (by rw [c1];rfl)
    exact fw (fw ⟨_,rfl,_,rfl,x,_,dx,_,_,rfl,hx,T.bJ,T.fc,rfl,kt.raised (aB.refl _)⟩)
  | false =>
    refine dF ⟨_,rfl,_,rfl,p2,p3,_,_,_,_,rfl,w2,w3,o2.t,o2.b,o3.t,o3.b,_,rfl,?_⟩
    show if bE f2 f3=true then _ else _
    cases c2:bE f2 f3 with
    | true =>
      have kt:hG Ad.bR (aq i) (.int g) H E:=kt (by rw [c1,c2];rfl)
      exact fw ⟨_,rfl,_,rfl,x,_,dx,_,_,rfl,hx,T.bJ,T.fc,rfl,kt.raised (aB.refl _)⟩
    | false=>exact dF (kf (by rw [c1,c2];rfl) H (aB.refl _))
theorem Az (T:Txt K mg Ad):Def P w K mg base "touched" 5 ["hold","room","least","greatest"] (AC K Ad.aY):=by
 refine T.Ec.cM sy λ f bB A outer s H vs Q E hr h=>?_
 obtain ⟨a,fp,m,i,r,v1,v2,f1,f2,rfl,hh,hr',d1,d2,o1,o2,k⟩:=h
 refine ⟨_,(ag (az (i:=4) sy.nd rfl (lc rfl) (aX (pv 0) T.aE (gl (K:=K) T) .nil hr.m (aa (pv 1) ac)))
     (am (aH (lS ["band"] ["greatest","least","marks"] [3,2,4] (.cons ⟨rfl,rfl,.inl rfl⟩ (.cons ⟨rfl,rfl,.inl rfl⟩ (.cons ⟨rfl,rfl,.inl rfl⟩ .nil))) rfl (bH rfl T.cC (aa (ax cO (aO bv (by rfl) T.dS cJ (aa (pv 4) ac)) af) ac)) (λ _ _ _ _ _=>(aK (i:=0) (show (["band","greatest","least","marks"]:List Str).Nodup by decide +kernel) rfl (lc rfl))) (λ _ _ _ _ _=>(jA (PW.pt (ig (cS (bK (ak (gr (K:=K) T) hr.m (aa (pv 1) (aa (ay (fe (K:=K) rfl) (pv 3) (pv 0) (λ _ _=>rfl)) ac))))) (fR (cS (bK (ak (gr (K:=K) T) hr.m (aa (ay (fe (K:=K) rfl) (pv 3) (ax aG (pv 0) af) (λ _ _=>rfl)) (aa (pv 2) ac)))))))))) (λ _ _ _ _ _=>(pv 0)) rfl (by decide +kernel) (by decide +kernel) (by decide +kernel))))),?_⟩
 try dsimp only [d9,aT]
 obtain ⟨⟨dx,pm,pf,ps,pt,vm,vs,vt,aN,pP,ha,_⟩,lsk,lst,l4,wf⟩:=id hh
 have hrm:r∈m.rows:=ac8 hr'
 have hl:=wf.len r hrm
 have tz:=wf.rows r hrm
 refine ⟨_,rfl,a,dx,_,rfl,ha,rfl,_,rfl,a,fp,m,i,r,rfl,hh,hr',λ p xs hp HU=>?_⟩
 have S1:aB H (upd H p (.lst xs)):=ai hp
 have kp:(upd H p (.lst xs)) p=some (.lst xs):=ah
 have D1:=cf.same S1 _ HU
 have e1:=Dn.same S1 _ d1
 have e2:=Dn.same S1 _ d2
 generalize upd H p (.lst xs)=H1 at S1 kp D1 e1 e2 ⊢
 have lx:xs.length=r.length:=by rw [HU.length,At]
 obtain ⟨p1,rfl,q1⟩:=e1.fr
 obtain ⟨p2,rfl,q2⟩:=e2.fr
 refine ⟨_,rfl,_,_,rfl,.inl (bg.of kp),λ y ey=>?_⟩
 have hn:2<=r.length/\r.length<=7:=hl
 refine ⟨_,_,rfl,rfl,λ z ez=>⟨_,rfl,by lia,by lia,λ D hD=>?_⟩⟩
 obtain ⟨n,en⟩:∃ n:Nat,z=(n:Int)/\n+1=r.length:=⟨r.length - 1,by lia,by lia⟩
 obtain ⟨rfl,en⟩:=en
 refine dW (lo:=0) (n:=n) (λ j acc U H'=>A4 (aB H1 H') (H' D=some (.lst acc)) (acc=(kS r f1 f2 j).map aq) (∃ v,U=[v,some (.ref p2),some (.ref p1),some (.ref p)]))
   ⟨ai hD,ah,rfl,none,rfl⟩ ?_ ?_
 .
  rintro j acc U H' hj ⟨s2,ln,rfl,v,rfl⟩
  have hjr:j<r.length:=by lia
  have MH:j+1<r.length:=by lia
  obtain ⟨x,ex,dx1⟩:=(cf.same s2 _ D1).get (i:=j) (d:=ek r[j]) (by rw [RS,av hjr];rfl)
  obtain ⟨x',ex',Ci⟩:=(cf.same s2 _ D1).get (i:=j+1) (d:=ek r[j+1]) (by rw [RS,av MH];rfl)
  obtain ⟨u1,rfl,w1⟩:=dx1.fr
  obtain ⟨u2,rfl,w2⟩:=Ci.fr
  have OT:=(tz r[j] (aaA hjr)).mono (n:=1000) (by decide)
  have X4:=(tz r[j+1] (aaA MH)).mono (n:=1000) (by decide)
  have q1':=s2.tup q1
  have q2':=s2.tup q2
  have kp':=s2 _ _ kp
  have et:mf r f1 f2 j=((!bE f2 r[j]) && !bE r[j+1] f1):=by
    unfold mf
    rw [Nv,Nv,av hjr,av MH];rfl
  have la:=zl r f1 f2 j
  refine ⟨_,rfl,_,rfl,_,rfl,_,_,_,_,rfl,rfl,.inl (bg.of kp'),by rw [aaz];exact bh ex,p2,u1,_,_,_,_,rfl,q2',w1,o2.t,o2.b,OT.t,OT.b,_,rfl,?_⟩
  show if (!bE f2 r[j])=true then _ else _
  cases c1:bE f2 r[j] with
  | true =>
    refine dF (dF ⟨s2,ln,?_,_,rfl⟩)
    rw [ka,et,c1];simp
  | false =>
    refine fw ⟨_,rfl,_,rfl,_,_,rfl,rfl,λ y1 ey1=>⟨_,_,_,_,rfl,rfl,.inl (bg.of kp'),by rw [ey1,aaz];exact bh (j:=j+1) ex',_,rfl,u2,p1,_,_,_,_,rfl,w2,q1',X4.t,X4.b,o1.t,o1.b,_,rfl,?_⟩⟩
    show if (!bE r[j+1] f1)=true then _ else _
    cases c2:bE r[j+1] f1 with
    | true =>
      refine dF ⟨s2,ln,?_,_,rfl⟩
      rw [ka,et,c1,c2];simp
    | false =>
      refine fw ⟨_,rfl,ln,aS (by rw [At];lia),s2.put hD,ah,?_,_,rfl⟩
      rw [ka,et,c1,c2,YC,aaz];rfl
 .
  rintro acc U H' ⟨s2,ln,rfl,v,rfl⟩
  have e:n=r.length - 1:=by lia
  rw [e] at ln
  exact k D H' (S1.trans s2) ln
set_option maxHeartbeats 0 in
theorem qd (T:Txt K mg Ad):KW P w K mg base Ad.Walk "go" "Walk.go" gK (.ref Ad.pr) 10 ["self","order","out","bands","warmths"] (vL K Ad.aY Ad.Walk Ad.cy Ad.bF Ad.bR Ad.bX):=by
 refine T.EH.amW gL (λ vs H Q E h=>?_) (λ f _ _ _ s H vs Q E hr h=>?_)
 . obtain ⟨x,fp,m,st,g,o,out,pb,zs,vw,ws,rfl,_⟩:=h
   rfl
 .
  obtain ⟨x,fp,m,st,g,o,out,pb,zs,vw,ws,rfl,hw,so,pX,hz,lz,Ml,J0,tn,k1,k2,k3⟩:=h
  refine ⟨_,(ag (br (zx (pv 0) T.bJ (ke (K:=K) T).y hr.m (BX λ _ _ _ z=>z) (aa (pv 1) (aa (pv 2) ac))))
    (ag (dO PassesOwn.leaving rfl (bH rfl T.cC (aa (cP (bC (pv 0) rfl) T.aE (cw (K:=K) T) .nil hr.m) ac)) (aK (i:=5) gL.nd rfl (lc rfl)) (ag (jF (aX (pv 0) T.bJ (t7 (K:=K) T) .nil hr.m (aa (pv 5) (aa (ax iK (pv 1) (p9 vX (pv 2))) ac))) (fP (K:=K) (n:=2) rfl rfl (bj (aK (i:=6) gL.nd rfl (lc rfl)) (bj (aK (i:=7) gL.nd rfl (lc rfl)) fG))))
    (ag (gp (aU (aJ js (pv 4) b9 (aL _)) (ag (br (zx (pv 0) T.bJ (j0 (K:=K) T).y hr.m (BX λ _ _ _ z=>z) (aa (pv 5) (aa (pv 6) (aa (pv 7) (aa (ay au (pv 4) (pv 5) (λ _ _=>rfl)) ac))))))
    (ag (az (i:=6) gL.nd rfl (lc rfl) (ay au (pv 4) (pv 5) (λ _ _=>rfl)))
    (am (az (i:=7) gL.nd rfl (lc rfl) (ay au (pv 4) (pv 5) (λ _ _=>rfl)))))) aI))
    (am (aU (aJ oG (ay au (pv 3) (pv 5) (λ _ _=>rfl)) (ak (Az (K:=K) T) hr.m (aa (bC (pv 0) rfl) (aa (pv 5) (aa (pv 6) (aa (pv 7) ac))))) (by with_unfolding_all rfl)) (am (uU rfl T.lZ (Bv (K:=K) T) hr.m (Ce λ _ _ _ z=>z) (aa (pv 5) (aa (bC (pv 0) rfl) ac)))) aI)))))
    (ag (eR (pv 0) (ax CL (aV (aa (cH lV (by rfl) T.gW fC (aa (pv 3) ac)) ac)) (ak (lR (K:=K) T) hr.m (aa (bC (pv 0) rfl) (aa (bC (pv 0) rfl) (aa (pv 1) (aa (pv 2) ac)))))) rfl)
    (am (DA (pv 0) af Mx))))),?_⟩
  try dsimp only [d9,aT]
  first|(refine d5 ?_;intro _ _ _ _ _)|skip
  obtain ⟨dx,hd,q,hx,hh,hs,nx⟩:=id hw
  obtain ⟨⟨dxh,_,_,_,_,_,_,_,_,_,hah,_⟩,q1,q2,q3,q4⟩:=id hh
  refine ⟨_,rfl,x,dx,_,rfl,hx,rfl,_,rfl,_,rfl,x,fp,m,st,g,o,out,rfl,hw,so,pX,k1,k2,λ ho hf H1 s1=>?_⟩
  obtain ⟨k4,k5⟩:=k3 ho hf
  have tn:=tn ho hf
  have NU:=s1 _ _ hx
  have bits:∀ i,(Ord.off o out).testBit i=true->m.has i=true:=λ i h=>(tn.Ic (tn.Lp h).1).2
  refine ⟨_,rfl,x,_,dx,_,_,rfl,NU,T.bJ,T.dX,rfl,hd,dxh,_,rfl,s1 _ _ hah,rfl,hd,fp,m,rfl,hh.same s1,_,rfl,by lia,by lia,?_⟩
  refine iY (lo:=0) (n:=m.rows.length) (λ i U H'=>A3 (aB H H') (∀ j,j<i->roomF m st (Ord.off o out) zs ws j=none) (E3 λ x5 x6 x7=>U=[some (.ref x),some (aq o),some (aq out),some (.ref pb),some vw,x5,x6,x7]))
    ⟨s1,λ j hj=>absurd hj (an6 _),none,none,none,rfl⟩ ?_ ?_
  .
   rintro _ i U H2 hi ⟨S2,hF,x5,x6,x7,rfl⟩
   have Rv:=S2 _ _ hx
   refine ⟨_,rfl,x,dx,_,rfl,Rv,rfl,_,rfl,_,rfl,_,rfl,_,rfl,_,_,rfl,rfl,λ y ey=>?_⟩
   obtain rfl:y=((Ord.off o out:Nat):Int):=by rw [ey];exact kR _ _
   refine ⟨x,fp,m,st,g,i,Ord.off o out,by rw [aaz];rfl,hw.same S2,so,hi,bits i,λ qq q1 q2 H3 s3 e0 e1 e2=>?_⟩
   refine ⟨qq,_,rfl,bS.of e0,rfl,_,_,rfl,_,_,rfl,rfl,?_⟩
   have S3:=S2.trans s3
   obtain ⟨okL,okU⟩:=J0 i ((Ord.off o out).testBit i) hi (bits i)
   have Fp:=av (show i<m.rows.length by lia)
   have NH:m.rows.getD i []=m.rows[i]:=by rw [Nv,Fp];rfl
   refine ⟨λ σ' H'=>aB H H'/\(E4 λ pl pg f1 f2=>A6 (bS K H' pl [.int (f1:cg).1,.int f1.2]) (bS K H' pg [.int (f2:cg).1,.int f2.2]) (eA 1000 f1) (eA 1000 f2) (roomF m st (Ord.off o out) zs ws i=if zs.getD i 0∈(fV (m.rows.getD i []) f1 f2).map (λ n:Nat=>(n:Int)) then none else some false) (σ'=[some (.ref x),some (aq o),some (aq out),some (.ref pb),some vw,some (.int (0+(i:Int))),some (.ref pl),some (.ref pg)])),?_,?_⟩
   .
    refine ⟨_,rfl,rfl,_,rfl,?_⟩
    cases ws with
    | none =>
      have e:vw = .bT:=Ml
      subst e
      exact cY rfl ⟨S3,q1,q2,_,_,bS.of e1,bS.of e2,okL,okU,vV,rfl⟩
    | some l =>
      obtain ⟨pw,ys,rfl,hp,dl,ll,okl⟩:=Ml
      refine mO (λ _=>?_) (λ q=>nomatch q)
      have LI:i<l.length:=by lia
      obtain ⟨v,ev,dv⟩:=(cf.same S3 _ dl).get (i:=i) (d:=ek (l.getD i (0,1))) (by rw [RS,av LI,Nv,av LI];rfl)
      have okv:eA 1000 (l.getD i (0,1)):=by rw [Nv,av LI];exact okl _ (aaA LI)
      have Mq:tE ys (0+(i:Int))=some v:=by rw [aaz];exact gx ev
      have hx3:=S3 _ _ hx
      refine ⟨_,rfl,x,dx,_,rfl,hx3,rfl,_,rfl,_,rfl,_,rfl,_,rfl,_,rfl,pw,_,_,_,rfl,rfl,.inl (S3.seq hp),Mq,x,fp,m,st,g,i,.ref q1,.ref q2,v,_,_,_,by rw [aaz];rfl,hw.same S3,hV (bS.of e1),hV (bS.of e2),dv,okL,okU,okv,λ c=>?_,λ c H4 s4=>?_⟩
      . have:=k4 i true hi (by rw [qT,abl c]) hF
        exact this.same S3
      . have S4:=S3.trans s4
        obtain ⟨pv,rfl,hpv⟩:=dv.fr
        exact ⟨_,rfl,_,rfl,pw,_,_,_,rfl,rfl,.inl (S4.seq hp),Mq,_,rfl,_,rfl,pw,_,_,_,rfl,rfl,.inl (S4.seq hp),Mq,S4,pv,pv,_,_,s4.tup hpv,s4.tup hpv,okv,okv,by rw [qT,aa8 (by rw [c];exact aaR)],rfl⟩
   rintro σ' H4 ⟨S4,pl,pg,f1,f2,w1,w2,OT,X4,eF,rfl⟩
   have Yr:=S4 _ _ hx
   have NX:bg K H4 pb (zs.map V.int)∨bS K H4 pb (zs.map V.int):=hz.imp S4.seq S4.tup
   refine ⟨_,rfl,_,rfl,pb,_,_,_,rfl,rfl,NX,by rw [aaz];exact gx (by rw [RS,LB (show i<zs.length by lia)];rfl),?_⟩
   refine ⟨_,rfl,x,_,dx,_,_,rfl,Yr,T.bJ,T.dX,rfl,_,rfl,_,rfl,_,rfl,hd,fp,m,i,m.rows[i],.ref pl,.ref pg,f1,f2,by rw [aaz];rfl,hh.same S4,Fp,hV w1,hV w2,OT,X4,λ pt H5 s5 ht=>?_⟩
   refine ⟨pt,_,rfl,.inl (bg.of ht),rfl,uK _,_,rfl,?_⟩
   have ei:(if true=true then !Ii (V.int (zs.getD i 0)) ((fV m.rows[i] f1 f2).map aq) else Ii (V.int (zs.getD i 0)) ((fV m.rows[i] f1 f2).map aq)) = !decide (zs.getD i 0∈(fV m.rows[i] f1 f2).map (λ n:Nat=>(n:Int))):=by rw [abl rfl];exact amX _ (Fs _ _)
   rw [ei]
   rw [NH] at eF
   have S5:=S4.trans s5
   refine mO (λ hn=>?_) (λ hm=>?_)
   . have t2:hG Ad.bX (.int (0+(i:Int))) (.int g) H E:=by
       rw [aaz]
       exact k4 i false hi (by rw [eF,aa8 hn]) hF
     have t3:=t2.raised S5
     exact ⟨_,rfl,_,rfl,x,_,dx,_,_,rfl,S5 _ _ hx,T.bJ,T.fc,rfl,t3⟩
   . refine ⟨S5,λ j hj=>?_,_,_,_,rfl⟩
     by_cases e:j<i
     . exact hF j e
     . obtain rfl:j=i:=by lia
       rw [eF,abl hm]
  rintro U H2 ⟨S2,hF,x5,x6,x7,rfl⟩
  have Rv:=S2 _ _ hx
  have Mh:bg K H2 pb (zs.map V.int)∨bS K H2 pb (zs.map V.int):=hz.imp S2.seq S2.tup
  refine ⟨_,rfl,pb,_,rfl,Mh,λ qb H3 s3 hqb=>⟨OR,λ pt c8=>?_⟩⟩
  have s4:=ai (o:=.tup [.ref qb]) c8
  have e4:(upd H3 pt (.tup [.ref qb])) pt=some (.tup [.ref qb]):=ah
  generalize upd H3 pt (.tup [.ref qb])=H4 at s4 e4 ⊢
  have S4:=(S2.trans s3).trans s4
  have Yr:=S4 _ _ hx
  refine ⟨_,rfl,x,_,dx,_,_,rfl,Yr,T.bJ,T.dX,rfl,_,rfl,x,_,dx,_,_,rfl,Yr,T.bJ,T.dA,rfl,_,rfl,_,rfl,hd,fp,m,q,st,o,out,rfl,hh.same S4,hs.same S4,so,λ i h=>tn.has h,tn.GU,tn.G5,λ qt pw pf H5 s5 e1 e2 e3=>?_⟩
  have S5:=S4.trans s5
  refine ⟨pt,qt,_,_,rfl,rfl,bS.of (s5 _ _ e4),bS.of e1,nofun,(by show 1+4<=sizeLine;decide),nofun,λ _ pn hpn=>?_⟩
  have s6:=ai (o:=.tup ([.ref qb]++[aq (Ord.off o out),.ref pw,.ref pf,aq (st.gF m (Ord.off o out)).toNat])) hpn
  have e6:(upd H5 pn (.tup ([.ref qb]++[aq (Ord.off o out),.ref pw,.ref pf,aq (st.gF m (Ord.off o out)).toNat]))) pn=some (.tup ([.ref qb]++[aq (Ord.off o out),.ref pw,.ref pf,aq (st.gF m (Ord.off o out)).toNat])):=ah
  generalize upd H5 pn (.tup ([.ref qb]++[aq (Ord.off o out),.ref pw,.ref pf,aq (st.gF m (Ord.off o out)).toNat]))=H6 at s6 e6 ⊢
  have S6:=S5.trans s6
  have B0:jW K Ad.Walk x dx H6 H6 (NG hd q g):=.start (S6 _ _ hx)
  refine ⟨_,rfl,x,_,dx,_,rfl,B0.at_,T.bJ,T.dA,lt1000 rfl,?_⟩
  have B1:=B0.put (fs':=bN "place" (.ref pn) (NG hd q g))
  refine ⟨_,rfl,x,_,dx,_,_,rfl,B1.at_,T.bJ,T.fc,rfl,_,_,rfl,rfl,_,_,B1.at_,lt1000 rfl,?_⟩
  have B2:=B1.put (fs':=bN "gone" (.int (g+1)) (bN "place" (.ref pn) (NG hd q g)))
  have nn:∀ z∈zs,0<=z:=λ z WA=>by
    obtain ⟨j,hj,rfl⟩:=aiR WA
    have:=(Af (hF j (by lia))).1
    rw [Nv,av hj] at this
    exact this
  have gE:fz K H6 pn (st.behind m (zs.map Int.toNat) o out):=by
    have s56:=s5.trans s6
    refine ⟨qb,pw,pf,bS.of e6,?_,bS.of (s6 _ _ e2),bS.of (s6 _ _ e3)⟩
    have:=(s4.trans s56).tup hqb
    rw [uX nn] at this
    exact this
  refine k5 (λ i hi=>hF i hi) _ (λ c u hc n=>B2.st c u (S6 c u hc) (λ z=>n (by rw [z];exact List.mem_singleton.mpr rfl))) ((aB.ts S6).trans B2.ts) ⟨dx,hd,pn,B2.at_,(hh.same S6).Wc B2.st B2.ts nx,gE.ts B2.ts,nx⟩
theorem ub (T:Txt K mg Ad):vd P w K mg base Ad.Walk "go" 10 ["self","order","out","bands","warmths"] [] (vL K Ad.aY Ad.Walk Ad.cy Ad.bF Ad.bR Ad.bX) :=
 (qd T).LV T.vb λ items hv=>by
   obtain ⟨u1,e,r1⟩:=vals1 hv
   obtain ⟨l⟩:=items
   have e:l=[u1]:=e
   subst e
   exact ⟨[],.nil,λ _ _ _ _ _ _ us hl=>match us,hl with | [_,_,_,_,_],_=>⟨_,rfl,rfl⟩⟩
theorem uc (T:Txt K mg Ad):vd P w K mg base Ad.Walk "go" 10 ["self","order","out","bands","warmths"] [.bT] (vL K Ad.aY Ad.Walk Ad.cy Ad.bF Ad.bR Ad.bX) :=
 (qd T).LV T.vb λ items hv=>by
   obtain ⟨u1,e,r1⟩:=vals1 hv
   obtain ⟨l⟩:=items
   have e:l=[u1]:=e
   subst e
   exact ⟨[u1],.cons r1 .nil,λ _ _ _ _ _ _ us hl=>match us,(by simpa using hl:us.length=4) with | [_,_,_,_],_=>⟨_,rfl,rfl⟩⟩
theorem qu (T:Txt K mg Ad):Def P w K mg base "_law_span" 1 ["_law_told","_law_room","_law_bands","_law_fired"] (Bl K):=by
 refine T.AV.cM cD λ f bB A outer s H vs Q E hr h=>?_
 obtain ⟨p,tm,n,i,pb,bs,fired,rfl,hT,ok,n4,hi,KO,hb,hz,k⟩:=h
 refine ⟨_,(ag (az (i:=4) cD.nd rfl (lc rfl) (ay au (bi (b5 hr) (pv 0) aQ (λ _ _=>rfl)) (pv 1) (λ _ _=>rfl)))
     (ag (az (i:=5) cD.nd rfl (lc rfl) (ax cO af (ay au (pv 4) af (λ _ _=>rfl))))
     (ag (az (i:=6) cD.nd rfl (lc rfl) (ax bf (ay au (pv 4) af (λ _ _=>rfl)) (ay au (pv 4) af (λ _ _=>rfl))))
     (ag (az (i:=7) cD.nd rfl (lc rfl) (ax bf (ay au (pv 4) af (λ _ _=>rfl)) (ay au (pv 4) af (λ _ _=>rfl))))
     (ag (dO ad4 rfl (bH rfl T.cC (aa (aO bv (by rfl) T.dS cJ (aa (bi (b5 hr) (pv 0) aQ (λ _ _=>rfl)) ac)) ac)) (aK (i:=8) cD.nd rfl (lc rfl)) (am (aU (aJ hU (pv 8) (pv 1) (aL _)) (ag (az (i:=9) cD.nd rfl (lc rfl) (bi (b5 hr) (bi (b5 hr) (pv 0) aQ (λ _ _=>rfl)) (aV (aa (pv 1) (aa (pv 8) ac))) (λ _ _=>rfl)))
     (ag (az (i:=5) cD.nd rfl (lc rfl) (ax cO (pv 5) (pv 9)))
     (ag (az (i:=6) cD.nd rfl (lc rfl) (ax aG (pv 6) (ax bf (pv 9) (ay au (ay au (bi (b5 hr) (pv 0) aQ (λ _ _=>rfl)) (pv 8) (λ _ _=>rfl)) (ay au (pv 2) (pv 8) (λ _ _=>rfl)) (λ _ _=>rfl)))))
     (am (az (i:=7) cD.nd rfl (lc rfl) (ax aG (pv 7) (ax bf (pv 9) (ay au (ay au (bi (b5 hr) (pv 0) aQ (λ _ _=>rfl)) (pv 8) (λ _ _=>rfl)) (ax aG (ay au (pv 2) (pv 8) (λ _ _=>rfl)) af) (λ _ _=>rfl))))))))) aI)))
     (ag (az (i:=6) cD.nd rfl (lc rfl) (ax aG (pv 6) (ax bf (pv 5) (ay au (ay au (bi (b5 hr) (pv 0) aQ (λ _ _=>rfl)) (pv 1) (λ _ _=>rfl)) (ay au (pv 2) (pv 1) (λ _ _=>rfl)) (λ _ _=>rfl)))))
     (ag (az (i:=7) cD.nd rfl (lc rfl) (ax aG (pv 7) (ax bf (pv 5) (ay au (ay au (bi (b5 hr) (pv 0) aQ (λ _ _=>rfl)) (pv 1) (λ _ _=>rfl)) (ax aG (ay au (pv 2) (pv 1) (λ _ _=>rfl)) af) (λ _ _=>rfl)))))
     (ag (aU (bK (pv 3)) (am (aH (aV (aa (ax aG (pv 6) (ax bf af (ay au (ay au (bi (b5 hr) (pv 0) aQ (λ _ _=>rfl)) (pv 1) (λ _ _=>rfl)) af (λ _ _=>rfl)))) (aa (ax aG (pv 7) (ax bf af (ay au (ay au (bi (b5 hr) (pv 0) aQ (λ _ _=>rfl)) (pv 1) (λ _ _=>rfl)) af (λ _ _=>rfl)))) ac))))) aI)
     (am (aH (aV (aa (pv 6) (aa (pv 7) ac))))))))))))),?_⟩
 try dsimp only [d9,aT]
 first|(refine rS ?_;intro _ _ _ _ _ _ _ _ _ _)|skip
 obtain ⟨pm,ps,pt,pf,fm,pbo,vm,vs,vt,aN,C0⟩:=id hT
 have Ae:vm.length=n:=by rw [C0.dm.length,At,ok.lm]
 have yf:i<tm.dE.length:=by rw [ok.ls];exact hi
 have J0:=ok.dE tm.dE[i] (aaA yf)
 have JB:tm.kJ i=tm.dE[i]:=by unfold aw.kJ;rw [av yf];rfl
 have esT:tm.iL i=tm.dE[i].1:=by unfold aw.iL;rw [av yf];rfl
 obtain ⟨vz,evz,pz,wz,rfl,zN,dz⟩:=C0.ds.get (i:=i) (d:=DW tm.dE[i]) (by rw [RS,av yf];rfl)
 obtain ⟨z1,r1,rfl,e1,z2,r2,rfl,e2,z3,r3,rfl,e3,e4⟩:=dz
 have e4:r3=[]:=e4
 have e1:z1 = .int tm.dE[i].1:=e1
 have e2:z2 = .int tm.dE[i].2.1:=e2
 have e3:z3 = .int tm.dE[i].2.2:=e3
 subst e1 e2 e3 e4
 have Nr:bS K H pz [.int tm.dE[i].1,.int tm.dE[i].2.1,.int tm.dE[i].2.2]:=bZ.tup zN
 have bd:∀ {x:Int},-1000<=x->x<=1000->Bd 10 x:=λ h1 h2=>by show Int.natAbs _<2 ^ 10;lia
 refine ⟨_,rfl,p,_,rfl,sR C0.hp,_,rfl,ps,vs,_,_,rfl,rfl,.inl (bg.of C0.ft),bh evz,?_⟩
 refine ⟨_,rfl,pz,_,_,_,rfl,rfl,.inr Nr,rfl,_,_,rfl,rfl,λ re ere=>?_⟩
 refine ⟨_,rfl,pz,_,_,_,rfl,rfl,.inr Nr,rfl,_,rfl,pz,_,_,_,rfl,rfl,.inr Nr,rfl,_,_,rfl,rfl,⟨10,10,bd (by lia) (by lia),bd (by lia) (by lia),by decide⟩,λ lo Yq=>?_⟩
 refine ⟨_,rfl,pz,_,_,_,rfl,rfl,.inr Nr,rfl,_,rfl,pz,_,_,_,rfl,rfl,.inr Nr,rfl,_,_,rfl,rfl,⟨10,10,bd (by lia) (by lia),bd (by lia) (by lia),by decide⟩,λ hg ehg=>?_⟩
 have Yq:lo=tm.iL i * (tm.kJ i).2.1:=by rw [JB,esT];exact Yq
 have ehg:hg=tm.iL i * (tm.kJ i).2.2:=by rw [JB,esT];exact ehg
 have ere:re=12 - tm.iL i:=by rw [esT];exact ere
 refine ⟨_,rfl,p,_,rfl,bP C0.hp,pm,vm,rfl,.inl (bg.of C0.dI),λ r er=>?_⟩
 obtain rfl:r=(n:Int):=by rw [er,Ae]
 refine ⟨_,rfl,by lia,by lia,?_⟩
 refine iY (lo:=0) (n:=n) (λ t U H'=>aB H H'/\E2 λ (v8 v9:Option V)=>U=[some (.ref p),some (aq i),some (.ref pb),some (.bl fired),some (.ref pz),some (.int (12 - tm.iL i - bL (tm.eG i) t)),some (.int (tm.iL i * (tm.kJ i).2.1+bL (λ j=>if j=i then 0 else tm.eG i j * tm.xl bs 0 j) t)),some (.int (tm.iL i * (tm.kJ i).2.2+bL (λ j=>if j=i then 0 else tm.eG i j * tm.xl bs 1 j) t)),v8,v9])
   ⟨aB.refl _,none,none,?_⟩ ?_ ?_
 . rw [Yq,ehg,ere]
   have a0:∀ f:Nat->Int,bL f 0=0:=λ _=>rfl
   rw [a0,a0,a0,amP,amP,Int.sub_zero];rfl
 .
  rintro _ t U H1 ht ⟨s1,v8,v9,rfl⟩
  have C1:=C0.same s1
  have DY:∀ f:Nat->Int,bL f (t+1)=bL f t+f t:=λ _=>rfl
  refine ⟨_,rfl,_,rfl,rfl,_,rfl,mO (λ CG=>?_) (λ heq=>?_)⟩
  .
   have nR:t≠i:=λ e=>CG (by rw [e,aaz];rfl)
   obtain ⟨kk,hk,k0,k3⟩:=ok.bI i t hi ht (alt nR)
   have efl:tm.eG i t=kk:=by unfold aw.eG;rw [aa8 (alt nR),hk];rfl
   refine ⟨_,rfl,p,_,rfl,nO C1.hp,_,rfl,_,rfl,mS,λ kp zd=>?_⟩
   have sk:=ai (o:=.tup [aq i,.int (0+(t:Int))]) zd
   have pj:(upd H1 kp (.tup [aq i,.int (0+(t:Int))])) kp=some (.tup ((fW i t).map kV)):=by rw [ah,aaz];rfl
   have Dk:gS (upd H1 kp (.tup [aq i,.int (0+(t:Int))])) pf (.ref kp) (some (.int kk)):=by
     have:=gS.t (k:=fW i t) (sk _ _ C1.gX) pj
     rw [C1.df i t (by lia) (by lia),hk] at this
     exact this
   refine ⟨pf,.int kk,rfl,Dk,?_⟩
   have S2:=s1.trans sk
   have C2:=C0.same S2
   generalize upd H1 kp (.tup [aq i,.int (0+(t:Int))])=H2 at S2 C2 ⊢
   refine ⟨_,rfl,_,rfl,_,_,rfl,rfl,λ x1 g1=>?_⟩
   obtain ⟨sW,hbl,EV,b00,b01⟩:=iC (b:=bs.getD t 0) ok ht (by have:=hb.lt t ht;lia)
   obtain ⟨_,Om,DG,b10,b11⟩:=iC (b:=bs.getD t 0+1) ok ht (hb.lt t ht)
   obtain ⟨v,ev,pk,X3,rfl,o9,Df⟩:=C2.dm.get (i:=t) (d:=qG tm.marks[t]) (by rw [RS,av sW];rfl)
   obtain rfl:=c9 Df
   have CQ:bg K H2 pk (tm.marks[t].map V.int):=bZ.seq o9
   have evt:tE vm (0+(t:Int))=some (.ref pk):=by rw [aaz];exact bh ev
   have XJ:t<bs.length:=by rw [hb.len];exact ht
   have UZ:tE (bs.map aq) (0+(t:Int))=some (aq (bs.getD t 0)):=by rw [aaz];exact bh (by rw [RS,av XJ,Nv,av XJ];rfl)
   refine ⟨_,rfl,_,rfl,_,rfl,p,_,rfl,bP C2.hp,_,rfl,pm,vm,_,_,rfl,rfl,.inl (bg.of C2.dI),evt,?_⟩
   refine ⟨_,rfl,_,rfl,pb,_,_,_,rfl,rfl,(KO.imp S2.seq S2.tup),UZ,pk,_,_,_,rfl,rfl,.inl CQ,bh (by rw [RS,av hbl];rfl),_,_,rfl,rfl,⟨10,10,bd (by lia) (by lia),bd (by rw [← EV];lia) (by rw [← EV];lia),by decide⟩,λ x2 g2=>⟨_,_,rfl,rfl,λ x3 g3=>?_⟩⟩
   refine ⟨_,rfl,_,rfl,_,rfl,p,_,rfl,bP C2.hp,_,rfl,pm,vm,_,_,rfl,rfl,.inl (bg.of C2.dI),evt,?_⟩
   refine ⟨_,rfl,_,rfl,pb,_,_,_,rfl,rfl,(KO.imp S2.seq S2.tup),UZ,_,_,rfl,rfl,λ y ey=>?_⟩
   obtain rfl:y=((bs.getD t 0+1:Nat):Int):=by rw [ey];push_cast;rfl
   refine ⟨pk,_,_,_,rfl,rfl,.inl CQ,bh (by rw [RS,av Om];rfl),_,_,rfl,rfl,⟨10,10,bd (by lia) (by lia),bd (by rw [← DG];lia) (by rw [← DG];lia),by decide⟩,λ x4 g4=>⟨_,_,rfl,rfl,λ x5 g5=>?_⟩⟩
   refine ⟨S2,some (.int (0+(t:Int))),some (.int kk),?_⟩
   have f0:tm.xl bs 0 t=tm.marks[t][bs.getD t 0]:=EV
   have f1:tm.xl bs 1 t=tm.marks[t][bs.getD t 0+1]:=DG
   rw [DY,DY,DY,aa8 nR,aa8 nR,f0,f1,efl,g3,g5,g1,g2,g4]
   have q1:∀ a b c:Int,a - (b+c)=a - b - c:=λ a b c=>by lia
   rw [q1,← Int.add_assoc,← Int.add_assoc]
   rfl
  .
   have nR:t=i:=by have:=eK.mp heq;lia
   have efl:tm.eG i t=0:=by unfold aw.eG;rw [abl nR.symm]
   refine ⟨s1,some (.int (0+(t:Int))),v9,?_⟩
   rw [DY,DY,DY,abl nR,abl nR,efl,amP,amP,amP]
   rfl
 .
  rintro U H1 ⟨s1,v8,v9,rfl⟩
  have C1:=C0.same s1
  obtain ⟨sW,hbl,EV,b00,b01⟩:=iC (b:=bs.getD i 0) ok hi (by have:=hb.lt i hi;lia)
  obtain ⟨_,Om,DG,b10,b11⟩:=iC (b:=bs.getD i 0+1) ok hi (hb.lt i hi)
  obtain ⟨v,ev,pk,X3,rfl,o9,Df⟩:=C1.dm.get (i:=i) (d:=qG tm.marks[i]) (by rw [RS,av sW];rfl)
  obtain rfl:=c9 Df
  have CQ:bg K H1 pk (tm.marks[i].map V.int):=bZ.seq o9
  have XJ:i<bs.length:=by rw [hb.len];exact hi
  have UZ:tE (bs.map aq) (i:Int)=some (aq (bs.getD i 0)):=bh (by rw [RS,av XJ,Nv,av XJ];rfl)
  have s0:=Br ok hi
  have s9:=FK ok n4 hi
  have s00:=(Fh ok hi n (aar _)).1
  have f0:tm.xl bs 0 i=tm.marks[i][bs.getD i 0]:=EV
  have f1:tm.xl bs 1 i=tm.marks[i][bs.getD i 0+1]:=DG
  refine ⟨_,rfl,_,rfl,_,rfl,p,_,rfl,bP C1.hp,_,rfl,pm,vm,_,_,rfl,rfl,.inl (bg.of C1.dI),bh ev,?_⟩
  refine ⟨_,rfl,_,rfl,pb,_,_,_,rfl,rfl,(KO.imp s1.seq s1.tup),UZ,pk,_,_,_,rfl,rfl,.inl CQ,bh (by rw [RS,av hbl];rfl),_,_,rfl,rfl,⟨10,10,bd (by lia) (by lia),bd (by rw [← EV];lia) (by rw [← EV];lia),by decide⟩,λ x2 g2=>⟨_,_,rfl,rfl,λ x3 g3=>?_⟩⟩
  refine ⟨_,rfl,_,rfl,_,rfl,p,_,rfl,bP C1.hp,_,rfl,pm,vm,_,_,rfl,rfl,.inl (bg.of C1.dI),bh ev,?_⟩
  refine ⟨_,rfl,_,rfl,pb,_,_,_,rfl,rfl,(KO.imp s1.seq s1.tup),UZ,_,_,rfl,rfl,λ y ey=>?_⟩
  obtain rfl:y=((bs.getD i 0+1:Nat):Int):=by rw [ey];push_cast;rfl
  refine ⟨pk,_,_,_,rfl,rfl,.inl CQ,bh (by rw [RS,av Om];rfl),_,_,rfl,rfl,⟨10,10,bd (by lia) (by lia),bd (by rw [← DG];lia) (by rw [← DG];lia),by decide⟩,λ x4 g4=>⟨_,_,rfl,rfl,λ x5 g5=>?_⟩⟩
  have eX:∀ d xw,tm.X n i (tm.xl bs d) xw=tm.iL i * xw+bL (λ j=>if j=i then 0 else tm.eG i j * tm.xl bs d j) n+(12 - tm.iL i - bL (tm.eG i) n) * tm.xl bs d i:=λ d xw=>by
    unfold aw.X aw.kT
    rw [zu,abl hi]
    lia
  have e3:x3=tm.X n i (tm.xl bs 0) (tm.kJ i).2.1:=by rw [eX,g3,g2,f0]
  have e5:x5=tm.X n i (tm.xl bs 1) (tm.kJ i).2.2:=by rw [eX,g5,g4,f1]
  rw [e3,e5]
  refine ⟨_,rfl,_,rfl,?_⟩
  unfold aw.s0 aw.s1 aw.sX at k
  cases fired with
  | false =>
    refine dF ⟨_,rfl,_,rfl,mS,λ q hq=>k q _ (s1.trans (ai hq)) ?_⟩
    rw [ah,aa8 aaR,amP,amP]
  | true =>
    obtain ⟨z,ez⟩:=hz rfl
    obtain ⟨vq,HP,dq⟩:=C1.dt.get (i:=i) (d:=stI (some z)) (by rw [RS,ez];rfl)
    obtain ⟨pq,wq,rfl,Ij,t1,r1,rfl,h1,_⟩:=dq
    have h1:t1 = .int z.1:=h1
    subst h1
    have eh:tm.yc i=z.1:=by unfold aw.yc;rw [ez];rfl
    have HZ:=(ok.aF z (ac8 ez)).h
    refine fw ⟨_,rfl,_,rfl,p,_,rfl,dR C1.hp,_,rfl,pt,vt,_,_,rfl,rfl,.inl (bg.of C1.c8),bh HP,pq,_,_,_,rfl,rfl,.inr (bZ.tup Ij),bh (j:=0) rfl,_,_,rfl,rfl,⟨10,10,mT,bd (by lia) (by lia),by decide⟩,λ x6 g6=>⟨_,_,rfl,rfl,λ x7 g7=>?_⟩⟩
    refine ⟨_,rfl,_,rfl,p,_,rfl,dR C1.hp,_,rfl,pt,vt,_,_,rfl,rfl,.inl (bg.of C1.c8),bh HP,pq,_,_,_,rfl,rfl,.inr (bZ.tup Ij),bh (j:=0) rfl,_,_,rfl,rfl,⟨10,10,mT,bd (by lia) (by lia),by decide⟩,λ x8 g8=>⟨_,_,rfl,rfl,λ x9 g9=>⟨mS,λ q hq=>k q _ (s1.trans (ai hq)) ?_⟩⟩⟩
    rw [ah,abl rfl,eh,g7,g9,g6,g8]
theorem GJ {K:W.Frag} {H:Hp} {p q:Addr} {l:List Nat} {Q:VK} (hx:bg K H p (l.map aq)) (hy:bg K H q []) (k:Q (.bl (decide (l=[]))) H):Qi K (.ref p) (.ref q) H Q:=by
 refine ⟨.list (l.map pH),.list [],Cu hx,BB hy ic,gJ (n:=1) Db (by decide),gJ (n:=1) (show ∀ d∈([]:List PyData),Ef 0 d from nofun) (by decide),?_⟩
 have:PyData.eqv (.list (l.map pH)) (.list [])=decide (l=[]):=by cases l<;>simp [PyData.eqv,PyData.eqvAll]
 rw [this];exact k
theorem En {K:W.Frag} {H:Hp} {p q:Addr} {l:List Nat} {Q:VK} (hx:bg K H p (l.map aq)) (hy:bg K H q []) (k:Q (.bl (!decide (l=[]))) H):MT K (.ref p) (.ref q) H Q:=by
 refine ⟨.list (l.map pH),.list [],Cu hx,BB hy ic,gJ (n:=1) Db (by decide),gJ (n:=1) (show ∀ d∈([]:List PyData),Ef 0 d from nofun) (by decide),?_⟩
 have:PyData.eqv (.list (l.map pH)) (.list [])=decide (l=[]):=by cases l<;>simp [PyData.eqv,PyData.eqvAll]
 rw [this];exact k
theorem xR (T:Txt K mg Ad):Def P w K mg base "_law_mild" 2 ["_law_told","_law_cell"] (Ka K):=by
 refine T.Ar.cM qh λ f bB A outer s H vs Q E hr h=>?_
 obtain ⟨p,m,H0,n,c,rfl,ok,S0,hT,k⟩:=h
 refine ⟨_,(ag (gp (aU (aJ lY (ak (aM (K:=K) T) hr.m (aa (pv 1) (aa af (aa af ac)))) af (aL _)) (am (dO ad4 rfl (fL (bi (b5 hr) (pv 0) aQ (λ _ _=>rfl))) (aK (i:=2) qh.nd rfl (lc rfl)) (ag (jF (p9 vZ af) (wL (pv 2) af set_list))
     (am (jF af (wL (pv 2) (p9 vZ af) set_list)))))) aI))
     (am (aH (pv 0)))),?_⟩
 try dsimp only [d9,aT]
 obtain ⟨pm,ps,pt,pf,fm,pb,vm,vs,vt,aN,C0,kd,rfl,lp,nd,hf⟩:=hT
 refine ⟨λ σ' H'=>(∃ m',A3 (aw.Ok n n m') (aB H0 H') (fA K H' p m'))/\∃ (v2:Option V),σ'=[some (.ref p),some (.int c),v2],?_,?_⟩
 case refine_2 =>
   rintro σ' H' ⟨⟨m',ok',S',hT'⟩,v2,rfl⟩
   exact ⟨_,rfl,k H' m' ok' S' hT'⟩
 refine ⟨_,rfl,c,45,3,rfl,by decide,by decide,by decide,λ r a0 a1=>⟨_,_,rfl,rfl,_,rfl,d6 (λ h=>?_) (λ h=>?_)⟩⟩
 .
  have lpn:kd.length=n:=by rw [lp,ok.lm]
  refine ⟨_,rfl,p,_,rfl,bP C0.hp,pm,rfl,⟨_,bg.of C0.dI⟩,?_⟩
  have nl:pm∉kd:=λ z=>by
    obtain ⟨j,hj,e⟩:=aiR z
    have IT:j<m.marks.length:=by lia
    exact (hf j pm m.marks[j] (by rw [ad6 hj,e]) (ad6 IT)).2.1 (by simp)
  refine vg (K:=K) (a:=pm) (xs:=kd.map V.ref) (λ i U H'=>EM K H0 H [p,pm,ps,pt,pf] kd m.marks i H'/\∃ (v2:Option V),U=[some (.ref p),some (.int c),v2])
    ⟨⟨S0,cu.refl _,λ b o hb _=>hb,λ j pk l h1 h2=>by rw [aa8 (an6 _)];exact (hf j pk l h1 h2).1⟩,none,rfl⟩ (λ i U H' _ e=>bg.of (e.1.but _ _ C0.dI nl)) ?_ ?_
  .
   rintro _ i x U H1 hx ⟨M1,v2,rfl⟩
   rw [RS] at hx
   obtain ⟨pk,o9,rfl⟩:=Option.map_eq_some_iff.mp hx
   have hi:i<kd.length:=(List.getElem?_eq_some_iff.mp o9).1
   have hl:m.marks[i]?=some (m.marks[i]'(by lia)):=ad6 _
   have r1:=M1.rows i pk _ o9 hl
   rw [aa8 (ag7 _)] at r1
   obtain ⟨_,nL,h0,_⟩:=hf i pk _ o9 hl
   have l2:=(ok.rows _ (ac8 hl)).two
   have Lg:0<(List.map V.int (m.marks[i]'(by lia))).length:=by rw [At];lia
   refine ⟨_,rfl,_,rfl,pk,_,0,0,rfl,rfl,r1,UE Lg,?_⟩
   refine ⟨_,rfl,_,rfl,pk,_,-1,_,rfl,rfl,ah,MO (by rw [ah1];exact Lg),?_⟩
   exact ⟨M1.put nd o9 hl h0 nL,_,rfl⟩
  . rintro U H1 ⟨M1,v2,rfl⟩
    rw [At,lpn] at M1
    obtain ⟨C1,OT⟩:=M1.told C0 ok lpn (λ j pk l h1 h2=>⟨(hf j pk l h1 h2).2.1,(hf j pk l h1 h2).2.2.2⟩)
    exact ⟨⟨_,OT,M1.same,⟨pm,ps,pt,pf,fm,pb,_,vs,vt,aN,C1⟩⟩,_,rfl⟩
 . exact ⟨⟨m,ok,S0,⟨pm,ps,pt,pf,fm,pb,_,vs,vt,aN,C0⟩⟩,_,rfl⟩
theorem vO (T:Txt K mg Ad):Def P w K mg base "_law_order" 3 ["_law_told","_law_state","_law_cell","_law_k"] (AJ K):=by
 refine T.zJ.cM nW λ f bB A outer s H vs Q E hr h=>?_
 obtain ⟨p,tm,n,q,st,c,kk,rfl,hT,ok,n4,gE,lw,hk,k⟩:=h
 refine ⟨_,(ag (nZ (yi:=4) ["_law_order_here"] ["_law_told","_law_state"] [0,1] (.cons ⟨rfl,rfl,.inl rfl⟩ (.cons ⟨rfl,rfl,.inl rfl⟩ .nil)) rfl (bH rfl T.cC (aa af ac)) (λ _ _ _ _ _=>(aK (i:=0) (show (["_law_order_here","_law_told","_law_state"]:List Str).Nodup by decide +kernel) rfl (lc rfl))) (λ _ _ _ _ _=>(jA (bK (ak (jH (K:=K) T) hr.m (aa (pv 1) (aa (pv 2) (aa (pv 0) ac))))))) (λ _ _ _ _ _=>(pv 0)) rfl (by decide +kernel) (by decide +kernel) (by decide +kernel) nW.nd rfl (lc rfl) rfl)
     (ag (aU (PW.pt (io (aJ (NZ hr.units) (pv 4) (dB ac) (aL _)) (gR (aJ gB (ak (aM (K:=K) T) hr.m (aa (pv 2) (aa (pv 3) (aa af ac)))) af (aL _))))) (am (aH (ak (aM (K:=K) T) hr.m (aa (pv 2) (aa (ax aG (pv 3) af) (aa af ac)))))) aI)
     (am (aH (ay au (pv 4) (ak (aM (K:=K) T) hr.m (aa (pv 2) (aa (ax aG (pv 3) af) (aa (aO bv (by rfl) T.dS cJ (aa (pv 4) ac)) ac)))) (λ _ _=>rfl)))))),?_⟩
 try dsimp only [d9,aT]
 first|(refine fF ?_;intro _ _ _ _)|skip
 refine ⟨_,rfl,by decide,by decide,λ D hD=>?_⟩
 refine dW (lo:=0) (n:=16) (λ j acc U H'=>A4 (aB H H') (H' D=some (.lst acc)) (acc=((List.range j).filter (qJ tm n st)).map aq) (∃ v,U=[v,some (.ref p),some (.ref q)]))
   ⟨ai hD,ah,rfl,none,rfl⟩ ?_ ?_
 .
  rintro j acc U H7 hj ⟨s7,Mn,rfl,v,rfl⟩
  have la:=ae9 (qJ tm n st) (List.range j)
  rw [acT] at la
  refine ⟨_,rfl,_,rfl,_,rfl,p,tm,n,q,st,j,(by rw [aaz];rfl),hT.same s7,ok,n4,gE.same s7,lw,λ L=>⟨_,rfl,fw ⟨_,rfl,Mn,aS (by rw [At];lia),s7.put hD,ah,?_,_,rfl⟩⟩,λ L=>⟨_,rfl,dF ⟨s7,Mn,?_,_,rfl⟩⟩⟩
  . rw [xX,Eg L,YC,aaz];rfl
  . rw [xX,AZ L];simp
 rintro acc U H1 ⟨s1,j5,rfl,v,rfl⟩
 have lal:((List.range 16).filter (qJ tm n st)).length<=16:=afY (ae9 _ _) (by rw [acT];decide)
 have mal:∀ o,o∈(List.range 16).filter (qJ tm n st)->o<16:=λ o h=>List.mem_range.mp (List.mem_filter.mp h).1
 generalize (List.range 16).filter (qJ tm n st)=al at j5 mal lal
 refine ⟨_,rfl,NL,λ pe ZS=>?_⟩
 have s3:=ai (o:=.lst []) ZS
 have i9:=s3 _ _ j5
 have k3:(upd H1 pe (.lst [])) pe=some (.lst []):=ah
 generalize upd H1 pe (.lst [])=H3 at s3 i9 k3 ⊢
 have S3:=s1.trans s3
 refine GJ (bg.of i9) (bg.of k3) ⟨_,rfl,d6 (λ h=>?_) (λ h=>?_)⟩
 . refine fw ⟨_,rfl,_,rfl,_,_,rfl,rfl,λ x1 e1=>⟨c,x1,16,rfl,by lia,by lia,by decide,λ r a0 a1=>?_⟩⟩
   obtain ⟨o,rfl⟩:∃ o:Nat,r=(o:Int):=⟨r.toNat,by lia⟩
   exact k H3 S3 o (by lia)
 refine ⟨_,rfl,_,rfl,c,kk,6,rfl,by lia,by lia,by decide,λ r a0 a1=>⟨rfl,_,rfl,d6 (λ h0=>?_) (λ h0=>?_)⟩⟩
 . refine ⟨_,rfl,_,rfl,_,_,rfl,rfl,λ x1 e1=>⟨c,x1,16,rfl,by lia,by lia,by decide,λ r a0 a1=>?_⟩⟩
   obtain ⟨o,rfl⟩:∃ o:Nat,r=(o:Int):=⟨r.toNat,by lia⟩
   exact k H3 S3 o (by lia)
 .
  refine ⟨_,rfl,_,rfl,_,rfl,_,_,rfl,rfl,λ x1 e1=>⟨_,rfl,D,_,rfl,.inl (bg.of i9),λ x2 e2=>?_⟩⟩
  rw [At] at e2
  have Lg:0<al.length:=List.length_pos_iff.mpr h
  refine ⟨c,x1,x2,rfl,by lia,by lia,by lia,λ r a0 a1=>?_⟩
  have hr:r.toNat<al.length:=by lia
  refine ⟨D,_,_,_,rfl,rfl,.inl (bg.of i9),?_,k H3 S3 al[r.toNat] (mal _ (aaA hr))⟩
  have:=bh (xs:=al.map aq) (j:=r.toNat) (v:=aq al[r.toNat]) (by rw [RS,av hr];rfl)
  rw [ahT a0] at this
  exact this
theorem By {tm:aw} {n o out:Nat} {s:dY} (ok:tm.Ok n n) (n4:n<=4) (so:gD (tm.m2 n n) s) (pX:out<16) (ho:o∈s.orders (tm.m2 n n)) (hf:out &&& s.may (tm.m2 n n) o=out):cp (tm.m2 n n) s o out:=by
 obtain ⟨f1,f2,f3,f4⟩:=dh tm n n
 have hl:(tm.m2 n n).rows.length=n:=by rw [f1,At,abX,ok.lm];lia
 rw [nF ok n4 so,aof,aoL,oU,IL ok so] at ho
 refine ⟨by lia,so,ho.2,ho.1,pX,λ r h=>?_,λ r=>(LN ok r).2.1,λ r=>(LN ok r).1,by rw [f3];exact ok.bounds.2.1.1,by rw [f4];exact ok.bounds.2.2.1⟩
 have:(out &&& s.may (tm.m2 n n) o).testBit r=true:=by rw [hf];exact h
 rw [afj] at this
 have:=(ac5 _ _ ▸ this:out.testBit r=true/\(s.may (tm.m2 n n) o).testBit r=true).2
 unfold dY.may at this
 rw [Ord.iy] at this
 simp only [ac5,aob,ae2] at this
 exact ⟨this.2.1.1,this.2.1.2,this.2.2⟩
theorem Ik {o out:Nat} (h1:o<16) (h2:out<16) (h:∀ r,out.testBit r=true->o.testBit r=true):(o:Int) - (out:Int)=((Ord.off o out:Nat):Int):=by
 have key:∀ a:Nat,a<16->∀ b:Nat,b<16->b &&& a=b->(a:Int) - (b:Int)=((Ord.off a b:Nat):Int):=by decide
 refine key o h1 out h2 (aim λ r=>?_)
 rw [afj]
 cases c:out.testBit r with
 | false=>rfl
 | true=>rw [h r c];rfl
set_option maxHeartbeats 0 in
theorem vK (T:Txt K mg Ad):Def P w K mg base "_law_fault" 9 ["_law_hold","_law_told","_law_state","_law_turn_here"] (A0 K Ad.aY):=by
 refine T.xI.cM cV λ f bB A outer s H vs Q E hr h=>?_
 obtain ⟨a,fp,p,tm,n,q,st,t,o,out,zs,wl,rfl,hh,hT,ok,n4,gE,so,⟨DU,vw,ht,hz,lz,hw⟩,pX,iX,k⟩:=h
 refine ⟨_,(ag (jF (pv 3) (fP (K:=K) (n:=4) rfl rfl (bj (aK (i:=4) cV.nd rfl (lc rfl)) (bj (aK (i:=5) cV.nd rfl (lc rfl)) (bj (aK (i:=6) cV.nd rfl (lc rfl)) (bj (aK (i:=7) cV.nd rfl (lc rfl)) fG))))))
     (ag (aU (cS (bK (ak (jH (K:=K) T) hr.m (aa (pv 1) (aa (pv 2) (aa (pv 4) ac)))))) (am (aH (aV (aa aQ (aa b9 ac))))) aI)
     (ag (aU (aJ hU (ax iK (pv 5) (ak (lX (K:=K) T) hr.m (aa (pv 0) (aa (pv 2) (aa (pv 4) ac))))) (pv 5) (aL _)) (am (aH (aV (aa aQ (aa b9 ac))))) aI)
     (ag (dO ad4 rfl (bH rfl T.cC (aa (aO bv (by rfl) T.dS cJ (aa (bi (b5 hr) (pv 1) aQ (λ _ _=>rfl)) ac)) ac)) (aK (i:=8) cV.nd rfl (lc rfl)) (ag (az (i:=9) cV.nd rfl (lc rfl) (ay au (bi (b5 hr) (pv 1) aQ (λ _ _=>rfl)) (pv 8) (λ _ _=>rfl)))
     (ag (az (i:=10) cV.nd rfl (lc rfl) (ak (qu (K:=K) T) hr.m (aa (pv 1) (aa (pv 8) (aa (ay au (pv 2) af (λ _ _=>rfl)) (aa (ak (iQ (K:=K) T) hr.m (aa (ax cO (pv 4) (pv 5)) (aa (pv 8) ac))) ac))))))
     (ag (gp (aU (aJ js (pv 7) b9 (aL _)) (ag (aU (PW.pt (io (aJ lQ (ay au (pv 7) (pv 8) (λ _ _=>rfl)) (ay au (pv 10) af (λ _ _=>rfl)) (aL _)) (gR (aJ lY (ay au (pv 7) (pv 8) (λ _ _=>rfl)) (ay au (pv 10) af (λ _ _=>rfl)) (aL _))))) (am (aH (aV (aa aQ (aa (pv 8) ac))))) aI)
     (am (az (i:=10) cV.nd rfl (lc rfl) (aV (aa (ay au (pv 7) (pv 8) (λ _ _=>rfl)) (aa (ay au (pv 7) (pv 8) (λ _ _=>rfl)) ac)))))) aI))
     (ag (aU (cS (hR fX lQ af (ay au (pv 6) (pv 8) (λ _ _=>rfl)) (ax cO (aO bv (by rfl) T.dS cJ (aa (pv 9) ac)) af))) (am (aH (aV (aa aQ (aa (pv 8) ac))))) aI)
     (am (aU (PW.pt (io (aJ lY (ax bf af (ay au (pv 9) (ay au (pv 6) (pv 8) (λ _ _=>rfl)) (λ _ _=>rfl))) (ay au (pv 10) af (λ _ _=>rfl)) (aL _)) (gR (aJ lY (ay au (pv 10) af (λ _ _=>rfl)) (ax bf af (ay au (pv 9) (ax aG (ay au (pv 6) (pv 8) (λ _ _=>rfl)) af) (λ _ _=>rfl))) (aL _))))) (am (aH (aV (aa aQ (aa (pv 8) ac))))) aI)))))))
     (am (aH (aV (aa aQ (aa b9 ac))))))))),?_⟩
 try dsimp only [d9,aT]
 first|(refine jM ?_;intro _ _ _ _ _ _)|skip
 obtain ⟨pm,ps,pt,pf,fm,pb,vm,vs,vt,aN,C0⟩:=id hT
 have Ae:vm.length=n:=by rw [C0.dm.length,At,ok.lm]
 obtain ⟨f1,f2,f3,f4⟩:=dh tm n n
 have hl:(tm.m2 n n).rows.length=n:=by rw [f1,At,abX,ok.lm];lia
 obtain ⟨qb,qw,qf,e0,eb,ew,ef⟩:=id gE
 have Lc:∀ {o},o∈st.orders (tm.m2 n n)↔o<16/\tG tm n st o:=λ {o}=>by rw [nF ok n4 so,aof,aoL,oU]
 refine ⟨_,rfl,t,_,rfl,ht,rfl,_,_,rfl,_,_,rfl,_,_,rfl,_,_,rfl,rfl,?_⟩
 refine ⟨_,rfl,_,rfl,_,rfl,p,tm,n,q,st,o,rfl,hT,ok,n4,gE,by rw [so.lw,hl],λ L=>?_,λ L=>?_⟩
 case refine_2 =>
   have ed:=mF (out:=out) (zs:=zs) (wl:=wl) (tm:=tm) (n:=n) (s:=st) (λ z=>L (Lc.mp z).2)
   rw [ed] at k
   refine ⟨_,rfl,?_⟩
   exact dF (A:=True) ⟨mS,λ r hr=>k r _ (ai hr) ah⟩
 have ho:=Lc.mpr ⟨pX,L⟩
 refine ⟨_,rfl,?_⟩
 refine fw (B:=True) ?_
 refine ⟨_,rfl,_,rfl,_,rfl,_,rfl,a,fp,_,q,st,o,rfl,hh,gE,so,AO ho,λ H1 s1=>?_⟩
 refine ⟨_,_,rfl,rfl,λ y ey=>?_⟩
 obtain rfl:y=((out &&& st.may (tm.m2 n n) o:Nat):Int):=by rw [ey];exact kE _ _
 refine ⟨_,rfl,rfl,_,rfl,mO (λ CG=>?_) (λ heq=>?_)⟩
 . have ed:=jd (out:=out) (zs:=zs) (wl:=wl) ho (λ z=>CG (by rw [z];rfl))
   rw [ed] at k
   exact ⟨mS,λ r hr=>k r _ (s1.trans (ai hr)) ah⟩
 have hf:out &&& st.may (tm.m2 n n) o=out:=by
   have:=eK.mp heq
   lia
 have tn:=By ok n4 so iX ho hf
 have abT:=Ik pX iX (λ r h=>(tn.sub r h).1)
 have hb:rW tm n st.bA:=⟨by rw [so.lb,hl],λ j hj=>by
   have:=so.band j (by lia)
   rw [lO ok hj] at this
   unfold aw.row gN at this
   rw [At] at this
   rw [Nv]
   exact this⟩
 refine ⟨_,rfl,p,_,rfl,bP (s1 _ _ C0.hp),pm,vm,rfl,.inl (bg.of (s1 _ _ C0.dI)),λ r er=>?_⟩
 obtain rfl:r=(n:Int):=by rw [er,Ae]
 refine ⟨_,rfl,by lia,by lia,?_⟩
 refine jZ (lo:=0) (n:=n) (λ i U H'=>A3 (aB H H') (∀ j,j<i->tm.tF n st.bA (Ord.off o out) zs wl j=none) (E3 λ (v8 v9 v10:Option V)=>U=[some (.ref a),some (.ref p),some (.ref q),some (.ref t),some (aq o),some (aq out),some (.ref DU),some vw,v8,v9,v10]))
   ⟨s1,λ j hj=>absurd hj (an6 _),none,none,none,rfl⟩ ?_ ?_
 .
  rintro i U H2 hi ⟨S2,hF,v8,v9,v10,rfl⟩
  refine zM ?_;intro _ _ _ _ _ _
  have C2:=C0.same S2
  have sW:i<tm.marks.length:=by rw [ok.lm];exact hi
  obtain ⟨v,ev,pk,X3,rfl,o9,Df⟩:=C2.dm.get (i:=i) (d:=qG tm.marks[i]) (by rw [RS,av sW];rfl)
  obtain rfl:=c9 Df
  have CQ:bg K H2 pk (tm.marks[i].map V.int):=bZ.seq o9
  refine ⟨_,rfl,p,_,rfl,bP C2.hp,_,rfl,pm,vm,_,_,rfl,rfl,.inl (bg.of C2.dI),by rw [aaz];exact bh ev,?_⟩
  refine ⟨_,rfl,_,rfl,_,rfl,q,_,_,_,rfl,rfl,.inr (S2.tup e0),rfl,_,rfl,_,rfl,_,_,rfl,rfl,λ y ey=>?_⟩
  obtain rfl:y=((Ord.off o out:Nat):Int):=by rw [ey];exact abT
  refine ⟨_,rfl,Ord.off o out,i,by rw [aaz];rfl,?_⟩
  have bits:(Ord.off o out).testBit i=true->(tm.m2 n n).has i=true:=λ h=>(tn.Ic (tn.Lp h).1).2
  refine ⟨p,tm,n,i,qb,st.bA,_,by rw [aaz];rfl,hT.same S2,ok,n4,hi,.inr (S2.tup eb),hb,λ z=>nY ok hi (bits z),λ qe H3 s3 he=>?_⟩
  have S3:=S2.trans s3
  have auO:=s3.seq CQ
  have emk:tm.marks.getD i []=tm.marks[i]:=by rw [Nv,av sW];rfl
  obtain ⟨Zt,bd1,_⟩:=OD (f:=(Ord.off o out).testBit i) ok n4 hi hb
  have tz:=ok.rows tm.marks[i] (aaA sW)
  refine ⟨λ σ' H'=>aB H H'/\E3 λ O3 A B=>A3 (H' O3=some (.tup [.int A,.int B])) (tm.tF n st.bA (Ord.off o out) zs wl i=if tm.ue i (zs.getD i 0) A B then none else some false) (σ'=[some (.ref a),some (.ref p),some (.ref q),some (.ref t),some (aq o),some (aq out),some (.ref DU),some vw,some (.int (0+(i:Int))),some (.ref pk),some (.ref O3)]),?_,?_⟩
  .
   refine ⟨_,rfl,rfl,_,rfl,?_⟩
   cases wl with
   | none =>
     have e:vw = .bT:=hw
     subst e
     exact cY rfl ⟨S3,qe,_,_,he,rfl,rfl⟩
   | some l =>
     obtain ⟨pw,rfl,hp,ll,bl⟩:=hw
     refine mO (λ _=>?_) (λ q=>nomatch q)
     have LI:i<l.length:=by lia
     have Mq:tE (l.map V.int) (0+(i:Int))=some (.int (l.getD i 0)):=by rw [aaz];exact gx (by rw [RS,av LI,Nv,av LI];rfl)
     have eF:tm.tF n st.bA (Ord.off o out) zs (some l) i=if l.getD i 0<tm.s0 n i st.bA ((Ord.off o out).testBit i)∨tm.s1 n i st.bA ((Ord.off o out).testBit i)<l.getD i 0 then some true else if tm.ue i (zs.getD i 0) (l.getD i 0) (l.getD i 0) then none else some false:=rfl
     have kt:l.getD i 0<tm.s0 n i st.bA ((Ord.off o out).testBit i)∨tm.s1 n i st.bA ((Ord.off o out).testBit i)<l.getD i 0->∀ r H',aB H H'->H' r=some (.tup [.str "turn",.int (0+(i:Int))])->Q (.ref r) H':=λ c r H' s' hr=>by
       have ed:=oJ (b:=true) ho hf hi (by rw [eF,abl c]) hF
       rw [ed] at k
       rw [aaz] at hr
       exact k r H' s' hr
     refine ⟨_,rfl,_,rfl,pw,_,_,_,rfl,rfl,.inl (S3.seq hp),Mq,_,rfl,qe,_,_,_,rfl,rfl,.inr (bS.of he),rfl,_,_,rfl,rfl,_,rfl,d6 (λ c1=>?_) (λ c1=>?_)⟩
     . exact fw ⟨_,rfl,mS,λ r hr=>kt (.inl c1) r _ (S3.trans (ai hr)) ah⟩
     refine ⟨_,rfl,_,rfl,pw,_,_,_,rfl,rfl,.inl (S3.seq hp),Mq,_,rfl,qe,_,_,_,rfl,rfl,.inr (bS.of he),rfl,_,_,rfl,rfl,_,rfl,d6 (λ c2=>?_) (λ c2=>?_)⟩
     . exact ⟨_,rfl,mS,λ r hr=>kt (.inr c2) r _ (S3.trans (ai hr)) ah⟩
     refine ⟨_,rfl,_,rfl,pw,_,_,_,rfl,rfl,.inl (S3.seq hp),Mq,_,rfl,_,rfl,pw,_,_,_,rfl,rfl,.inl (S3.seq hp),Mq,mS,λ r hr=>⟨S3.trans (ai hr),r,_,_,ah,?_,rfl⟩⟩
     rw [eF,aa8 (λ z=>z.elim c1 c2)]
  .
   rintro σ' H4 ⟨S4,O3,A',B',he',eF,rfl⟩
   have NX:=S4.seq hz
   have N8:bg K H4 pk (tm.marks[i].map V.int):=by
     have C4:=C0.same S4
     obtain ⟨v',XI,pk',akf,e',NM,Oa⟩:=C4.dm.get (i:=i) (d:=qG tm.marks[i]) (by rw [RS,av sW];rfl)
     rw [ev] at XI
     cases aaU XI
     cases e'
     obtain rfl:=c9 Oa
     exact bZ.seq NM
   have Yv:tE (zs.map V.int) (0+(i:Int))=some (.int (zs.getD i 0)):=by rw [aaz];exact gx (by rw [RS,LB (show i<zs.length by lia)];rfl)
   have kb:¬ tm.ue i (zs.getD i 0) A' B'->∀ r H',aB H H'->H' r=some (.tup [.str "band",.int (0+(i:Int))])->Q (.ref r) H':=λ c r H' s' hr=>by
     have ed:=oJ (b:=false) ho hf hi (by rw [eF,aa8 c]) hF
     rw [ed] at k
     rw [aaz] at hr
     exact k r H' s' hr
   have tc:tm.ue i (zs.getD i 0) A' B'↔0<=zs.getD i 0/\zs.getD i 0<(tm.marks[i].length:Int) - 1/\12 * tm.BW i (zs.getD i 0).toNat<=B'/\A'<=12 * tm.BW i ((zs.getD i 0).toNat+1):=by unfold aw.ue;rw [emk]
   generalize zs.getD i 0=z at tc kb eF Yv
   have fin:∀ c:¬ tm.ue i z A' B',∀ D:Ends,D.rt=Q->Vg (Wi (F2 (tC (.str "band")) (F2 (G1 8) vD))) D [some (.ref a),some (.ref p),some (.ref q),some (.ref t),some (aq o),some (aq out),some (.ref DU),some vw,some (.int (0+(i:Int))),some (.ref pk),some (.ref O3)] H4:=λ c D eD=>⟨_,rfl,mS,λ r hr=>by rw [eD];exact kb c r _ (S4.trans (ai hr)) ah⟩
   refine ⟨_,rfl,_,rfl,DU,_,_,_,rfl,rfl,.inl NX,Yv,_,_,rfl,rfl,_,rfl,d6 (λ c0=>?_) (λ c0=>⟨_,rfl,?_⟩)⟩
   case refine_2=>exact dF (A:=True) (fin (λ q=>c0 (tc.mp q).1) _ rfl)
   refine ⟨_,rfl,pk,_,rfl,.inl N8,λ x1 g1=>⟨_,_,rfl,rfl,λ x2 g2=>⟨_,_,rfl,rfl,_,rfl,?_⟩⟩⟩
   rw [At] at g1
   by_cases c1:z<x2
   case neg =>
     rw [abC c1]
     exact dF (A:=True) (fin (λ q=>c1 (by have:=(tc.mp q).2.1;lia)) _ rfl)
   rw [abY c1]
   refine fw (B:=True) ?_
   obtain ⟨b,rfl⟩:∃ b:Nat,z=(b:Int):=⟨z.toNat,by lia⟩
   rw [aff] at tc
   obtain ⟨_,hb0,EV,m00,m01⟩:=iC (b:=b) ok hi (by rw [emk];lia)
   obtain ⟨_,EY,DG,m10,m11⟩:=iC (b:=b+1) ok hi (by rw [emk];lia)
   have bd:∀ {x:Int},-1000<=x->x<=1000->Bd 10 x:=λ h1 h2=>by show Int.natAbs _<2 ^ 10;lia
   refine ⟨_,rfl,_,rfl,_,rfl,DU,_,_,_,rfl,rfl,.inl NX,Yv,pk,_,_,_,rfl,rfl,.inl N8,bh (by rw [RS,av hb0];rfl),_,_,rfl,rfl,⟨10,10,mT,bd (by rw [← EV];lia) (by rw [← EV];lia),by decide⟩,λ x3 g3=>?_⟩
   refine ⟨_,rfl,O3,_,_,_,rfl,rfl,.inr (bS.of he'),rfl,_,_,rfl,rfl,_,rfl,d6 (λ c2=>?_) (λ c2=>?_)⟩
   . exact fw (B:=True) (fin (λ q=>by have:=(tc.mp q).2.2.1;rw [EV] at this;lia) _ rfl)
   refine ⟨_,rfl,O3,_,_,_,rfl,rfl,.inr (bS.of he'),rfl,_,rfl,_,rfl,_,rfl,DU,_,_,_,rfl,rfl,.inl NX,Yv,_,_,rfl,rfl,λ x4 g4=>?_⟩
   obtain rfl:x4=((b+1:Nat):Int):=by rw [g4];push_cast;rfl
   refine ⟨pk,_,_,_,rfl,rfl,.inl N8,bh (by rw [RS,av EY];rfl),_,_,rfl,rfl,⟨10,10,mT,bd (by rw [← DG];lia) (by rw [← DG];lia),by decide⟩,λ x5 g5=>?_⟩
   refine ⟨_,_,rfl,rfl,_,rfl,d6 (λ c3=>?_) (λ c3=>?_)⟩
   . exact fin (λ q=>by have:=(tc.mp q).2.2.2;rw [DG] at this;lia) _ rfl
   refine ⟨S4,λ j hj=>?_,_,_,_,rfl⟩
   by_cases e:j<i
   . exact hF j e
   . obtain rfl:j=i:=by lia
     rw [eF,abl (tc.mpr ⟨by lia,by lia,by rw [EV];lia,by rw [DG];lia⟩)]
 .
  rintro U H2 ⟨S2,hF,v8,v9,v10,rfl⟩
  have ed:=Bt ho hf hF
  rw [ed] at k
  exact ⟨mS,λ r hr=>k r _ (S2.trans (ai hr)) ah⟩
theorem ug (T:Txt K mg Ad):Def P w K mg base "_law_warmth" 2 ["_law_marks","_law_ends","_law_band","_law_cell","_law_k"] (zn K):=by
 refine T.xk.cM mW λ f bB A outer s H vs Q E hr h=>?_
 obtain ⟨pk,pe,l,A',B',z,c,kk,rfl,hk,he,ba,bb,ab,hl,k0,k9,k⟩:=h
 refine ⟨_,(ag (az (i:=5) mW.nd rfl (lc rfl) (ak (aM (K:=K) T) hr.m (aa (pv 3) (aa (pv 4) (aa af ac)))))
     (ag (aU (aJ lQ (pv 5) af (aL _)) (am (aH (ay au (pv 1) (pv 5) (λ _ _=>rfl)))) aI)
     (ag (aU (aJ gB (pv 5) af (aL _)) (am (aH (ax aG (ay au (pv 1) af (λ _ _=>rfl)) (ak (aM (K:=K) T) hr.m (aa (pv 3) (aa (ax aG (pv 4) af) (aa (ax aG (ax cO (ay au (pv 1) af (λ _ _=>rfl)) (ay au (pv 1) af (λ _ _=>rfl))) af) ac))))))) aI)
     (ag (aU (aJ gB (pv 5) af (aL _)) (am (aH (ax aG (ay au (pv 1) (ak (aM (K:=K) T) hr.m (aa (pv 3) (aa (ax aG (pv 4) af) (aa af ac)))) (λ _ _=>rfl)) (ay au (dB (aa (p9 vZ af) (aa af ac))) (ak (aM (K:=K) T) hr.m (aa (pv 3) (aa (ax aG (pv 4) af) (aa af ac)))) (λ _ _=>rfl))))) aI)
     (ag (aU (hR fX lQ af (pv 2) (ax cO (aO bv (by rfl) T.dS cJ (aa (pv 0) ac)) af)) (am (aH (aO (vh rfl) (by rfl) T.L6 Gp (aa (ay au (pv 1) af (λ _ _=>rfl)) (aa (ax bf af (ay au (pv 0) (pv 2) (λ _ _=>rfl))) ac))))) aI)
     (am (aH (ay au (pv 1) af (λ _ _=>rfl))))))))),?_⟩
 try dsimp only [d9,aT]
 first|(refine jN ?_;intro _ _ _ _ _ _ _)|skip
 refine ⟨_,rfl,_,rfl,c,kk,6,rfl,by lia,by lia,by decide,λ way w0 w1=>?_⟩
 refine ⟨_,rfl,_,_,rfl,rfl,_,rfl,d6 (λ c1=>?_) (λ c1=>?_)⟩
 .
  have:way=0∨way=1:=by lia
  rcases this with rfl|rfl
  . exact ⟨_,rfl,_,rfl,pe,_,_,_,rfl,rfl,.inr he,rfl,k H (aB.refl _) _ (by lia) (by lia)⟩
  . exact ⟨_,rfl,_,rfl,pe,_,_,_,rfl,rfl,.inr he,rfl,k H (aB.refl _) _ (by lia) (by lia)⟩
 refine ⟨_,rfl,rfl,_,rfl,d6 (λ c2=>?_) (λ c2=>?_)⟩
 . refine ⟨_,rfl,pe,_,_,_,rfl,rfl,.inr he,rfl,_,rfl,_,rfl,_,_,rfl,rfl,λ x1 e1=>⟨_,rfl,pe,_,_,_,rfl,rfl,.inr he,rfl,_,rfl,pe,_,_,_,rfl,rfl,.inr he,rfl,_,_,rfl,rfl,λ x2 e2=>⟨_,_,rfl,rfl,λ x3 e3=>?_⟩⟩⟩
   exact ⟨c,x1,x3,rfl,by lia,by lia,by lia,λ r r0 r1=>⟨_,_,rfl,rfl,λ y ey=>k H (aB.refl _) _ (by lia) (by lia)⟩⟩
 refine ⟨_,rfl,rfl,_,rfl,d6 (λ c3=>?_) (λ c3=>?_)⟩
 .
  refine ⟨_,rfl,_,rfl,_,rfl,_,_,rfl,rfl,λ x1 e1=>⟨c,x1,2,rfl,by lia,by lia,by decide,λ r r0 r1=>?_⟩⟩
  obtain ⟨y,ey,by0,by1⟩:∃ y:Int,tE [V.int A',V.int B'] r=some (.int y)/\-3000<=y/\y<=3000:=by
    have:r=0∨r=1:=by lia
    rcases this with rfl|rfl
    . exact ⟨A',rfl,ba.1,ba.2⟩
    . exact ⟨B',rfl,bb.1,bb.2⟩
  refine ⟨pe,_,_,_,rfl,rfl,.inr he,ey,_,rfl,mS,λ pl lA=>⟨_,rfl,_,rfl,_,_,rfl,rfl,λ x2 e2=>⟨c,x2,2,rfl,by lia,by lia,by decide,λ r' q0 q1=>?_⟩⟩⟩
  obtain ⟨v,ev,bv0,bv1⟩:∃ v:Int,tE [V.int (-1),V.int 1] r'=some (.int v)/\-1<=v/\v<=1:=by
    have:r'=0∨r'=1:=by lia
    rcases this with rfl|rfl
    . exact ⟨-1,rfl,by decide,by decide⟩
    . exact ⟨1,rfl,by decide,by decide⟩
  exact ⟨pl,_,_,_,rfl,rfl,.inl (bg.of ah),ev,_,_,rfl,rfl,λ y2 e2=>k _ (ai lA) _ (by lia) (by lia)⟩
 refine ⟨_,rfl,_,_,rfl,rfl,_,rfl,d6 (λ c4=>?_) (λ c4=>⟨_,rfl,?_⟩)⟩
 case refine_2=>exact dF (A:=True) ⟨_,rfl,pe,_,_,_,rfl,rfl,.inr he,rfl,k H (aB.refl _) _ (by lia) (by lia)⟩
 refine ⟨_,rfl,pk,_,rfl,.inl hk,λ x1 g1=>⟨_,_,rfl,rfl,λ x2 g2=>⟨_,_,rfl,rfl,_,rfl,?_⟩⟩⟩
 rw [At] at g1
 refine d6 (λ c5=>?_) (λ c5=>⟨_,rfl,pe,_,_,_,rfl,rfl,.inr he,rfl,k H (aB.refl _) _ (by lia) (by lia)⟩)
 obtain ⟨b,rfl⟩:∃ b:Nat,z=(b:Int):=⟨z.toNat,by lia⟩
 have hb:b<l.length:=by lia
 have bl:=hl l[b] (aaA hb)
 refine ⟨_,rfl,pe,_,_,_,rfl,rfl,.inr he,rfl,_,rfl,_,rfl,pk,_,_,_,rfl,rfl,.inl hk,bh (by rw [RS,av hb];rfl),_,_,rfl,rfl,⟨10,10,mT,(show (l[b]).natAbs<2 ^ 10 by lia),by decide⟩,λ x3 g3=>?_⟩
 exact ⟨_,_,rfl,k H (aB.refl _) _ (by split<;>lia) (by split<;>lia)⟩
theorem Os (a:Nat) (c:Int):∃ y:Nat,Builtin.bitAnd (a:Int) c=(y:Int)/\y<=a:=by
 unfold Builtin.bitAnd
 rw [abY (show (0:Int)<=(a:Int) by lia)]
 by_cases h:0<=c
 . rw [abY h]
   exact ⟨_,rfl,by rw [aff];exact apc⟩
 .
  rw [abC h]
  have:=apc (n:=a) (m:=(Builtin.bitNot c).toNat)
  refine ⟨a - (a &&& (Builtin.bitNot c).toNat),?_,by lia⟩
  show (a:Int) - (((a:Int).toNat &&& (Builtin.bitNot c).toNat:Nat):Int)=_
  rw [aff]
  lia
set_option maxHeartbeats 0 in
theorem yH (T:Txt K mg Ad):Def P w K mg base "_law_turn" 9 ["_law_hold","_law_told","_law_state","_law_three","_law_k"] (Em K Ad.aY):=by
 refine T.Am.cM bW λ f bB A outer s H vs Q E hr h=>?_
 obtain ⟨a,fp,p,tm,n,q,st,pc,cs,kk,rfl,hh,hT,ok,n4,gE,so,hc,hk,k⟩:=h
 refine ⟨_,(ag (az (i:=5) bW.nd rfl (lc rfl) (ak (vO (K:=K) T) hr.m (aa (pv 1) (aa (pv 2) (aa (ak (bu (K:=K) T) hr.m (aa (pv 3) (aa af ac))) (aa (pv 4) ac))))))
     (ag (az (i:=6) bW.nd rfl (lc rfl) af)
     (ag (gp (aU (bK (ak (jH (K:=K) T) hr.m (aa (pv 1) (aa (pv 2) (aa (pv 5) ac))))) (am (az (i:=6) bW.nd rfl (lc rfl) (ax iK (ak (lX (K:=K) T) hr.m (aa (pv 0) (aa (pv 2) (aa (pv 5) ac)))) (ak (bu (K:=K) T) hr.m (aa (pv 3) (aa af ac)))))) aI))
     (ag (gp (aU (aJ gB (ak (aM (K:=K) T) hr.m (aa (ak (bu (K:=K) T) hr.m (aa (pv 3) (aa af ac))) (aa (ax aG (pv 4) af) (aa af ac)))) af (aL _)) (am (az (i:=6) bW.nd rfl (lc rfl) (ax gz (ax hX (ak (bu (K:=K) T) hr.m (aa (pv 3) (aa af ac))) af) af))) aI))
     (ag (az (i:=7) bW.nd rfl (lc rfl) (dB ac))
     (ag (az (i:=8) bW.nd rfl (lc rfl) (dB ac))
     (ag (dO ad4 rfl (bH rfl T.cC (aa (aO bv (by rfl) T.dS cJ (aa (bi (b5 hr) (pv 1) aQ (λ _ _=>rfl)) ac)) ac)) (aK (i:=9) bW.nd rfl (lc rfl)) (ag (az (i:=10) bW.nd rfl (lc rfl) (ay au (bi (b5 hr) (pv 1) aQ (λ _ _=>rfl)) (pv 9) (λ _ _=>rfl)))
     (ag (az (i:=11) bW.nd rfl (lc rfl) (ng (ak (iQ (K:=K) T) hr.m (aa (pv 5) (aa (pv 9) ac))) (ng (Bx (ak (iQ (K:=K) T) hr.m (aa (pv 6) (aa (pv 9) ac)))) (pF (e9 js (ay au (bi (b5 hr) (pv 1) aQ (λ _ _=>rfl)) (pv 9) (λ _ _=>rfl)) b9 (aL _))))))
     (ag (az (i:=12) bW.nd rfl (lc rfl) (ak (qu (K:=K) T) hr.m (aa (pv 1) (aa (pv 9) (aa (ay au (pv 2) af (λ _ _=>rfl)) (aa (pv 11) ac))))))
     (ag (nZ (yi:=13) ["_law_b"] ["_law_ends","_law_marks"] [12,10] (.cons ⟨rfl,rfl,.inl rfl⟩ (.cons ⟨rfl,rfl,.inl rfl⟩ .nil)) rfl (bH rfl T.cC (aa (ax cO (aO bv (by rfl) T.dS cJ (aa (pv 10) ac)) af) ac)) (λ _ _ _ _ _=>(aK (i:=0) (show (["_law_b","_law_ends","_law_marks"]:List Str).Nodup by decide +kernel) rfl (lc rfl))) (λ _ _ _ _ _=>(jA (PW.pt (ig (aJ fX (ax bf af (ay (fe (K:=K) rfl) (pv 2) (pv 0) (λ _ _=>rfl))) (ay (fe (K:=K) rfl) (pv 1) af (λ _ _=>rfl)) (aL _)) (fR (aJ fX (ay (fe (K:=K) rfl) (pv 1) af (λ _ _=>rfl)) (ax bf af (ay (fe (K:=K) rfl) (pv 2) (ax aG (pv 0) af) (λ _ _=>rfl))) (aL _))))))) (λ _ _ _ _ _=>(pv 0)) rfl (by decide +kernel) (by decide +kernel) (by decide +kernel) bW.nd rfl (lc rfl) rfl)
     (ag (az (i:=14) bW.nd rfl (lc rfl) (ax cO (ak (aM (K:=K) T) hr.m (aa (ak (bu (K:=K) T) hr.m (aa (pv 3) (aa af ac))) (aa (ax aG (pv 4) (pv 9)) (aa (ax aG (aO bv (by rfl) T.dS cJ (aa (pv 10) ac)) af) ac)))) af))
     (ag (gp (aU (PW.pt (ig (aJ (G3 hr.units) (pv 13) (dB ac) (aL _)) (fR (aJ lY (ak (aM (K:=K) T) hr.m (aa (ak (bu (K:=K) T) hr.m (aa (pv 3) (aa af ac))) (aa (ax aG (ax aG (pv 4) af) (pv 9)) (aa af ac)))) af (aL _))))) (am (az (i:=14) bW.nd rfl (lc rfl) (ay au (pv 13) (ak (aM (K:=K) T) hr.m (aa (ak (bu (K:=K) T) hr.m (aa (pv 3) (aa af ac))) (aa (ax aG (ax aG (pv 4) af) (pv 9)) (aa (aO bv (by rfl) T.dS cJ (aa (pv 13) ac)) ac)))) (λ _ _=>rfl)))) aI))
     (ag (br (j1 adL adq adc cN (pv 7) (aa (pv 14) ac)))
     (am (br (j1 adL adq adc cN (pv 8) (aa (ak (ug (K:=K) T) hr.m (aa (pv 10) (aa (pv 12) (aa (pv 14) (aa (ak (bu (K:=K) T) hr.m (aa (pv 3) (aa af ac))) (aa (ax aG (ax aG (pv 4) af) (pv 9)) ac)))))) ac))))))))))))
     (ag (gp (aU (aJ gB (ak (aM (K:=K) T) hr.m (aa (ak (bu (K:=K) T) hr.m (aa (pv 3) (aa af ac))) (aa (ax aG (pv 4) af) (aa af ac)))) af (aL _)) (am (az (i:=8) bW.nd rfl (lc rfl) b9)) aI))
     (am (aH (aV (aa (pv 5) (aa (pv 6) (aa (pv 7) (aa (pv 8) ac))))))))))))))),?_⟩
 try dsimp only [d9,aT]
 first|(refine rS ?_;intro _ _ _ _ _ _ _ _ _ _)|skip
 obtain ⟨pm,ps,pt,pf,fm,pb,vm,vs,vt,aN,C0⟩:=id hT
 have Ae:vm.length=n:=by rw [C0.dm.length,At,ok.lm]
 obtain ⟨f1,f2,f3,f4⟩:=dh tm n n
 have hl:(tm.m2 n n).rows.length=n:=by rw [f1,At,abX,ok.lm];lia
 obtain ⟨qb,qw,qf,e0,eb,ew,ef⟩:=id gE
 have lw:st.gG.length=n:=by rw [so.lw,hl]
 have Lc:∀ {o},o∈st.orders (tm.m2 n n)↔o<16/\tG tm n st o:=λ {o}=>by rw [nF ok n4 so,aof,aoL,oU]
 have hb:rW tm n st.bA:=⟨by rw [so.lb,hl],λ j hj=>by
   have:=so.band j (by lia)
   rw [lO ok hj] at this
   unfold aw.row gN at this
   rw [At] at this
   rw [Nv]
   exact this⟩
 refine ⟨_,rfl,_,rfl,_,rfl,pc,cs,0,rfl,hc,by decide,λ c0 _=>⟨_,rfl,p,tm,n,q,st,c0,kk,rfl,hT,ok,n4,gE,lw,by lia,λ H1 s1 o pX=>?_⟩⟩
 refine ⟨λ σ' H'=>aB H H'/\∃ (out:Nat),out<16/\σ'=[some (.ref a),some (.ref p),some (.ref q),some (.ref pc),some (aq kk),some (aq o),some (aq out),none,none,none,none,none,none,none,none],?_,?_⟩
 .
  refine ⟨_,rfl,_,rfl,_,rfl,p,tm,n,q,st,o,rfl,hT.same s1,ok,n4,gE.same s1,lw,λ L=>⟨_,rfl,?_⟩,λ L=>⟨_,rfl,?_⟩⟩
  .
   refine fw (B:=True) ?_
   have ho:=Lc.mpr ⟨pX,L⟩
   refine ⟨_,rfl,_,rfl,_,rfl,a,fp,_,q,st,o,rfl,hh.same s1,gE.same s1,so,AO ho,λ H2 s2=>?_⟩
   have S2:=s1.trans s2
   refine ⟨_,rfl,pc,cs,1,rfl,S2.seq hc,by decide,λ c1 _=>⟨_,_,rfl,rfl,λ y ey=>?_⟩⟩
   obtain ⟨y',ey',yl⟩:=Os (st.may (tm.m2 n n) o) c1
   obtain rfl:y=(y':Int):=by rw [ey];exact ey'
   have:=Fc (s:=st) (o:=o) (m:=tm.m2 n n) (by lia)
   exact ⟨S2,y',by lia,rfl⟩
  . exact dF (A:=True) ⟨s1,0,by decide,rfl⟩
 rintro σ' H2 ⟨S2,aa9,o0,rfl⟩
 refine ⟨λ σ' H'=>H'=H2/\∃ (out:Nat),out<16/\σ'=[some (.ref a),some (.ref p),some (.ref q),some (.ref pc),some (aq kk),some (aq o),some (aq out),none,none,none,none,none,none,none,none],?_,?_⟩
 .
  refine ⟨_,rfl,pc,cs,1,rfl,S2.seq hc,by decide,λ c1 _=>⟨_,rfl,_,_,rfl,rfl,λ x1 g1=>⟨c1,x1,9,rfl,by lia,by lia,by decide,λ r r0 r1=>⟨rfl,_,rfl,d6 (λ h=>?_) (λ h=>⟨rfl,aa9,o0,rfl⟩)⟩⟩⟩⟩
  refine ⟨_,rfl,pc,cs,1,rfl,S2.seq hc,by decide,λ c2 _=>⟨_,_,rfl,rfl,⟨by decide,mT⟩,λ x2 g2=>⟨_,_,rfl,rfl,by decide,λ x3 a3 b3 g3=>?_⟩⟩⟩
  obtain ⟨y,rfl⟩:∃ y:Nat,x3=(y:Int):=⟨x3.toNat,by lia⟩
  exact ⟨rfl,y,by lia,rfl⟩
 rintro σ' H3 ⟨rfl,out,o1,rfl⟩
 refine ⟨NL,λ lb OZ=>⟨NL,λ AI Lx=>?_⟩⟩
 have s3:=(ai (o:=.lst []) OZ).trans (ai (o:=.lst []) Lx)
 have kb:(upd (upd H3 lb (.lst [])) AI (.lst [])) lb=some (.lst []):=ai Lx _ _ ah
 have kw:(upd (upd H3 lb (.lst [])) AI (.lst [])) AI=some (.lst []):=ah
 have Uy:lb≠AI:=aC ah Lx
 have lbn:H lb=none:=S2.free OZ
 have lwn:H AI=none:=(S2.trans (ai (o:=.lst []) OZ)).free Lx
 generalize upd (upd H3 lb (.lst [])) AI (.lst [])=H4 at s3 kb kw ⊢
 have S4:=S2.trans s3
 have C4:=C0.same S4
 refine ⟨_,rfl,p,_,rfl,bP C4.hp,pm,vm,rfl,.inl (bg.of C4.dI),λ r er=>?_⟩
 obtain rfl:r=(n:Int):=by rw [er,Ae]
 refine ⟨_,rfl,by lia,by lia,?_⟩
 refine jZ (lo:=0) (n:=n) (λ i U H'=>A3 (aB H H') (E2 λ (zs ws:List Int)=>A5 (H' lb=some (.lst (zs.map V.int))) (H' AI=some (.lst (ws.map V.int))) (zs.length=i) (ws.length=i) (∀ x∈ws,-5000<=x/\x<=5000)) (E6 λ (v9 v10 v11 OV O0 Pd:Option V)=>U=[some (.ref a),some (.ref p),some (.ref q),some (.ref pc),some (aq kk),some (aq o),some (aq out),some (.ref lb),some (.ref AI),v9,v10,v11,OV,O0,Pd]))
   ⟨S4,⟨[],[],kb,kw,rfl,rfl,nofun⟩,none,none,none,none,none,none,rfl⟩ ?_ ?_
 .
  rintro i U H5 hi ⟨S5,⟨zs,ws,WW,kw5,lz,lws,bws⟩,v9,v10,v11,OV,O0,Pd,rfl⟩
  refine Gm ?_;intro _ _ _ _ _ _ _ _ _
  have C5:=C0.same S5
  have sW:i<tm.marks.length:=by rw [ok.lm];exact hi
  obtain ⟨v,ev,pk,X3,rfl,o9,Df⟩:=C5.dm.get (i:=i) (d:=qG tm.marks[i]) (by rw [RS,av sW];rfl)
  obtain rfl:=c9 Df
  have CQ:bg K H5 pk (tm.marks[i].map V.int):=bZ.seq o9
  refine ⟨_,rfl,p,_,rfl,bP C5.hp,_,rfl,pm,vm,_,_,rfl,rfl,.inl (bg.of C5.dI),by rw [aaz];exact bh ev,?_⟩
  have nR:i<tm.aF.length:=by rw [ok.lt];exact hi
  obtain ⟨vq,HP,dq⟩:=C5.dt.get (i:=i) (d:=stI tm.aF[i]) (by rw [RS,av nR];rfl)
  have hvq:(!decide (vq = .bT))=(tm.m2 n n).has i:=by
    unfold ap.has
    rw [rV ok hi,av nR]
    cases yA:tm.aF[i] with
    | none =>
      rw [yA] at dq
      have dq:vq = .bT:=dq
      subst dq
      rfl
    | some z =>
      rw [yA] at dq
      obtain ⟨pq,wq,rfl,_⟩:=dq
      rfl
  dsimp only
  refine Ew (a:=o.testBit i) (b:=!out.testBit i && (tm.m2 n n).has i) (λ Q h=>⟨_,rfl,_,rfl,o,i,by rw [aaz];rfl,h⟩) (λ Q h=>uJ (a:=!out.testBit i) (b:=(tm.m2 n n).has i) (λ Q h=>⟨_,rfl,_,rfl,out,i,by rw [aaz];rfl,_,rfl,h⟩) (λ Q h=>?_) h) ?_
  . refine ⟨_,rfl,p,_,rfl,dR C5.hp,_,rfl,pt,vt,_,_,rfl,rfl,.inl (bg.of C5.c8),by rw [aaz];exact bh HP,rfl,?_⟩
    rw [hvq]
    exact h
  generalize efd:(o.testBit i && (!out.testBit i && (tm.m2 n n).has i))=fired
  have hfd:fired=true->∃ z,tm.aF[i]?=some (some z):=λ q=>by
    rw [← efd] at q
    simp only [ac5] at q
    exact nY ok hi q.2.2
  refine ⟨_,rfl,_,rfl,_,rfl,q,_,_,_,rfl,rfl,.inr (S5.tup e0),rfl,_,rfl,p,tm,n,i,qb,st.bA,fired,by rw [aaz];rfl,hT.same S5,ok,n4,hi,.inr (S5.tup eb),hb,hfd,λ qe H6 s6 he=>?_⟩
  have S6:=S5.trans s6
  have FR:=s6.seq CQ
  have tz:=ok.rows tm.marks[i] (aaA sW)
  have l2:=tz.two
  have l7:tm.marks[i].length<=7:=by have:=tz.most;split at this<;>lia
  obtain ⟨Zt,bd1,ble⟩:=OD (f:=fired) ok n4 hi hb
  generalize tm.s0 n i st.bA fired=A' at he Zt ble
  generalize tm.s1 n i st.bA fired=B' at he bd1 ble
  have rowAt:∀ H',aB H H'->bg K H' pk (tm.marks[i].map V.int):=λ H' s'=>by
    have C4:=C0.same s'
    obtain ⟨v',XI,pk',akf,e',NM,Oa⟩:=C4.dm.get (i:=i) (d:=qG tm.marks[i]) (by rw [RS,av sW];rfl)
    rw [ev] at XI
    cases aaU XI
    cases e'
    obtain rfl:=c9 Oa
    exact bZ.seq NM
  generalize tm.marks[i]=ml at FR tz l2 l7 rowAt
  refine ⟨_,rfl,pk,_,rfl,.inl FR,λ x1 g1=>⟨_,_,rfl,rfl,λ x2 g2=>⟨_,rfl,?_,?_,λ D hD=>?_⟩⟩⟩
  . rw [At] at g1;lia
  . rw [At] at g1;lia
  rw [At] at g1
  obtain ⟨L,rfl⟩:∃ L:Nat,x2=(L:Int):=⟨x2.toNat,by lia⟩
  have hLl:L+1=ml.length:=by lia
  rw [aff]
  have bd:∀ {x:Int},-1000<=x->x<=1000->Bd 10 x:=λ h1 h2=>by show Int.natAbs _<2 ^ 10;lia
  refine dW (lo:=0) (n:=L) (λ j acc U H'=>A4 (aB H6 H') (H' D=some (.lst acc)) (∃ (ls:List Nat),acc=ls.map aq/\ls.length<=j) (∃ v,U=[v,some (.ref qe),some (.ref pk)]))
    ⟨ai hD,ah,⟨[],rfl,aar _⟩,none,rfl⟩ ?_ ?_
  .
   rintro j acc U H7 hj ⟨s7,Mn,⟨ls,rfl,lls⟩,v,rfl⟩
   have hj0:j<ml.length:=by lia
   have hj1:j+1<ml.length:=by lia
   have b0:=tz.bd ml[j] (aaA hj0)
   have b1:=tz.bd ml[j+1] (aaA hj1)
   refine ⟨_,rfl,_,rfl,pk,_,_,_,rfl,rfl,.inl (s7.seq FR),Cf hj0,_,_,rfl,rfl,⟨10,10,mT,bd (by lia) (by lia),by decide⟩,λ y1 f1=>?_⟩
   refine ⟨_,rfl,qe,_,_,_,rfl,rfl,.inr (bS.of (s7 _ _ he)),rfl,_,_,rfl,rfl,_,rfl,d6 (λ c1=>?_) (λ c1=>?_)⟩
   . refine ⟨_,rfl,qe,_,_,_,rfl,rfl,.inr (bS.of (s7 _ _ he)),rfl,_,rfl,_,rfl,_,_,rfl,rfl,λ y2 f2=>?_⟩
     obtain rfl:y2=((j+1:Nat):Int):=by rw [f2];push_cast;lia
     refine ⟨pk,_,_,_,rfl,rfl,.inl (s7.seq FR),bh (by rw [RS,av hj1];rfl),_,_,rfl,rfl,⟨10,10,mT,bd (by lia) (by lia),by decide⟩,λ y3 f3=>⟨_,_,rfl,rfl,_,rfl,d6 (λ c2=>?_) (λ c2=>?_)⟩⟩
     . exact ⟨_,rfl,Mn,aS (by rw [At];lia),s7.put hD,ah,⟨ls++[j],by rw [YC,aaz];rfl,by rw [aas];simp;lia⟩,_,rfl⟩
     . exact ⟨s7,Mn,⟨ls,rfl,by lia⟩,_,rfl⟩
   . exact ⟨s7,Mn,⟨ls,rfl,by lia⟩,_,rfl⟩
  rintro acc U H7 ⟨s7,Mn,⟨ls,rfl,lls⟩,v,rfl⟩
  have S7:=S6.trans s7
  have ac3:=s7.seq FR
  refine ⟨_,rfl,pc,cs,2,rfl,S7.seq hc,by decide,λ c2 _=>⟨_,rfl,_,rfl,_,_,rfl,rfl,λ y1 f1=>⟨_,rfl,pk,_,rfl,.inl ac3,λ y2 f2=>⟨_,_,rfl,rfl,λ y3 f3=>?_⟩⟩⟩⟩
  rw [At] at f2
  refine ⟨c2,y1,y3,rfl,by lia,by lia,by lia,λ r r0 r1=>⟨_,_,rfl,rfl,λ z0 ez0=>?_⟩⟩
  refine ⟨λ σ' H'=>aB H7 H'/\∃ (z:Int),σ'=[some (.ref a),some (.ref p),some (.ref q),some (.ref pc),some (aq kk),some (aq o),some (aq out),some (.ref lb),some (.ref AI),some (.int (0+(i:Int))),some (.ref pk),some (.bl fired),some (.ref qe),some (.ref D),some (.int z)],?_,?_⟩
  .
   refine ⟨_,rfl,NL,λ pe ZS=>?_⟩
   have s8:=ai (o:=.lst []) ZS
   have YL:=s8 _ _ Mn
   have k8:(upd H7 pe (.lst [])) pe=some (.lst []):=ah
   generalize upd H7 pe (.lst [])=H8 at s8 YL k8 ⊢
   have S8:=S7.trans s8
   refine En (bg.of YL) (bg.of k8) ⟨_,rfl,mO (λ h=>?_) (λ h=>⟨s8,z0,rfl⟩)⟩
   have Lg:0<ls.length:=List.length_pos_iff.mpr h
   refine ⟨_,rfl,pc,cs,2,rfl,S8.seq hc,by decide,λ c3 _=>⟨_,rfl,_,_,rfl,rfl,λ y4 f4=>⟨_,rfl,_,_,rfl,rfl,λ y5 f5=>⟨c3,y5,8,rfl,by lia,by lia,by decide,λ r' q0 q1=>⟨_,_,rfl,rfl,_,rfl,d6 (λ h1=>?_) (λ h1=>⟨s8,z0,rfl⟩)⟩⟩⟩⟩⟩
   refine ⟨_,rfl,_,rfl,pc,cs,2,rfl,S8.seq hc,by decide,λ c4 _=>⟨_,rfl,_,_,rfl,rfl,λ y6 f6=>⟨_,rfl,_,_,rfl,rfl,λ y7 f7=>⟨_,rfl,D,_,rfl,.inl (bg.of YL),λ y8 f8=>?_⟩⟩⟩⟩
   rw [At] at f8
   refine ⟨c4,y7,y8,rfl,by lia,by lia,by lia,λ r2 p0 p1=>?_⟩
   have zY:r2.toNat<ls.length:=by lia
   refine ⟨D,_,_,_,rfl,rfl,.inl (bg.of YL),?_,s8,(ls[r2.toNat]:Nat),rfl⟩
   have:=bh (xs:=ls.map aq) (j:=r2.toNat) (v:=aq ls[r2.toNat]) (by rw [RS,av zY];rfl)
   rw [ahT p0] at this
   exact this
  rintro σ' H8 ⟨s8,z,rfl⟩
  have XZ:=(s6.trans s7).trans s8
  have S8:=S5.trans XZ
  refine ⟨_,rfl,.inl ⟨rfl,_,bg.of (XZ _ _ WW)⟩,_,rfl,lb,_,_,rfl,rfl,XZ _ _ WW,aS (by rw [At];lia),?_⟩
  have S9:aB H (upd H8 lb (.lst (zs.map V.int++[.int z]))):=S8.put lbn
  have kw9:(upd H8 lb (.lst (zs.map V.int++[.int z]))) AI=some (.lst (ws.map V.int)):=by rw [aD Uy.symm];exact XZ _ _ kw5
  have kb9:(upd H8 lb (.lst (zs.map V.int++[.int z]))) lb=some (.lst ((zs++[z]).map V.int)):=by rw [ah,YC];rfl
  have nqe:qe≠lb:=bD he (s6 _ _ WW) nofun
  have he9:(upd H8 lb (.lst (zs.map V.int++[.int z]))) qe=some (.tup [.int A',.int B']):=by rw [aD nqe];exact s8 _ _ (s7 _ _ he)
  generalize upd H8 lb (.lst (zs.map V.int++[.int z]))=H9 at S9 kw9 kb9 he9 ⊢
  have ajC:=rowAt H9 S9
  refine ⟨_,rfl,.inl ⟨rfl,_,bg.of kw9⟩,_,rfl,_,rfl,_,rfl,_,rfl,pc,cs,1,rfl,S9.seq hc,by decide,λ c5 _=>⟨_,rfl,_,_,rfl,rfl,λ y9 f9=>⟨_,rfl,_,_,rfl,rfl,λ y10 f10=>?_⟩⟩⟩
  refine ⟨pk,qe,ml,A',B',z,c5,y10,rfl,ajC,bS.of he9,Zt,bd1,ble,tz.bd,by lia,by lia,λ Mc Qr x x0 x1=>?_⟩
  refine ⟨AI,_,_,rfl,rfl,Qr _ _ kw9,aS (by rw [At];lia),?_⟩
  refine ⟨(S9.trans Qr).put lwn,⟨zs++[z],ws++[x],by rw [aD Uy];exact Qr _ _ kb9,by rw [ah,YC];rfl,by rw [aas,lz];rfl,by rw [aas,lws];rfl,λ y hy=>?_⟩,_,_,_,_,_,_,rfl⟩
  rcases List.mem_append.mp hy with q'|q'
  . exact bws y q'
  . rw [List.mem_singleton.mp q'];exact ⟨x0,x1⟩
 .
  rintro U H5 ⟨S5,⟨zs,ws,WW,kw5,lz,lws,bws⟩,v9,v10,v11,OV,O0,Pd,rfl⟩
  refine ⟨λ σ' H'=>H'=H5/\∃ vw,Bz K H5 n vw (if vw = .bT then none else some ws)/\E6 λ (v9 v10 v11 OV O0 Pd:Option V)=>σ'=[some (.ref a),some (.ref p),some (.ref q),some (.ref pc),some (aq kk),some (aq o),some (aq out),some (.ref lb),some vw,v9,v10,v11,OV,O0,Pd],?_,?_⟩
  . refine ⟨_,rfl,pc,cs,2,rfl,S5.seq hc,by decide,λ c1 _=>⟨_,rfl,_,_,rfl,rfl,λ x1 g1=>⟨c1,x1,2,rfl,by lia,by lia,by decide,λ r r0 r1=>⟨rfl,_,rfl,d6 (λ h=>?_) (λ h=>?_)⟩⟩⟩⟩
    . exact ⟨rfl,.bT,by rw [abl rfl];exact rfl,_,_,_,_,_,_,rfl⟩
    . exact ⟨rfl,.ref AI,by rw [aa8 nofun];exact ⟨AI,rfl,bg.of kw5,lws,bws⟩,_,_,_,_,_,_,rfl⟩
  rintro σ' H6 ⟨rfl,vw,hvw,v9,v10,v11,OV,O0,Pd,rfl⟩
  refine ⟨_,rfl,_,rfl,_,rfl,_,rfl,Ob,λ t ht=>?_⟩
  have st:=ai (o:=.tup [aq o,aq out,.ref lb,vw]) ht
  exact k _ (S5.trans st) t o out zs _ pX o1 ⟨lb,vw,bS.of ah,bg.of (st _ _ WW),lz,hvw.same st⟩
theorem Dr {j:Nat} {v:V} {K:W.Frag} {c:Value} {i:Nat} {t:(L2.St->XK)->TS} {ts:Value->Option Addr->Addr->TS} {R:TS} {D:Ends} {U:L2.St} {H:Hp} (P:L2.St->Value->Option Addr->Hp->Prop)
   (h1:∀ σ1 cls d H1,P σ1 cls d H1->W.exmOne K cls c=some true/\∀ e,H1 e=none->ts cls d e (Ends.unset { D with nx:=R D } i) (σ1.set i (some (.ref e))) H1)
   (h2:∀ E':L2.St->XK,(∀ σ1 cls d H1,P σ1 cls d H1->E' σ1 cls d H1)->t E' { D with nx:=R D } (U.set j (some v)) H):uv j v U H (aP (LP K c i t ts) R D):=h2 _ h1
def abV:Nat->Str|0 => "turn" | 1 => "band" | 2 => "order" | _ => "failing"
def Oi (Ad:YG):List (Addr×List Value):=[(Ad.bR,[.ref Ad.bX,.ref Ad.cy,.ref Ad.bF]),(Ad.bX,[.ref Ad.bR,.ref Ad.cy,.ref Ad.bF]),(Ad.cy,[.ref Ad.bF,.ref Ad.bR,.ref Ad.bX]),(Ad.bF,[.ref Ad.cy,.ref Ad.bR,.ref Ad.bX])]
def G4 (Ad:YG) (du:Str×V) (g:Int) (H:Hp) (cls:Value) (d:Option Addr) (H1:Hp):Prop :=
 ∃ i D l,cls = .ref D/\(Oi Ad)[i]?=some (D,l)/\aB H H1/\du.1=abV i/\(i<2->du.2 ≠ .bT/\∃ dx,d=some dx/\H1 dx=some (.xd [("turn",.int g),("room",du.2)]))/\(¬ i<2->du.2 = .bT)
theorem V5 (T:Txt K mg Ad) {i:Nat} {D:Addr} {l:List Value} (h:(Oi Ad)[i]?=some (D,l)):mU K D:=by
 have hD:=ac8 h
 simp only [Oi,abj,aay,ae5,Prod.mk.injEq] at hD
 rcases hD with ⟨rfl,_⟩|⟨rfl,_⟩|⟨rfl,_⟩|⟨rfl,_⟩
 . exact nj T
 . exact nP T
 . exact ⟨T.zr,T.yQ,T.yF,T.gs,T.tk,T.yt,T.xB,T.zg⟩
 . exact ⟨T.uo,T.tN,T.uf,T.gs,T.tk,T.ud,T.ul,T.tO⟩
theorem wT {C CW:Addr} {H:Hp} {Q:VK} {E:XK} {x pb:Addr} {fp:List Addr} {tm:aw} {n o out:Nat} {s:dY} {g:Int} {zs:List Int} {vw:V} {wl:Option (List Int)} {vs:List V} (hv:vs=[.ref x,aq o,aq out,.ref pb,vw])
   (ok:tm.Ok n n) (n4:n<=4) (hw:iJ K C CW H x fp (tm.m2 n n) s g) (so:gD (tm.m2 n n) s) (pX:o<16) (iX:out<16) (hz:bg K H pb (zs.map V.int)∨bS K H pb (zs.map V.int)) (lz:zs.length=n) (hl:∀ l,wl=some l->l.length=n)
   (Ml:DH K H n vw (wl.map λ l=>l.map λ x=>aZ x 12 tm.scale)) (tn:o∈s.orders (tm.m2 n n)->out &&& s.may (tm.m2 n n) o=out->cp (tm.m2 n n) s o out)
   (hE:∀ cls d H1,G4 Ad (iA tm n s o out zs wl) g H cls d H1->E cls d H1)
   (hQ:iA tm n s o out zs wl=(("" : Str),V.bT)->∀ H',nextK K C CW x fp tm n s o out zs g H H'->Q .bT H'):vL K C CW Ad.cy Ad.bF Ad.bR Ad.bX vs H Q E:=by
 obtain ⟨dx,hd,q,hx,hh,hs,nx⟩:=id hw
 obtain ⟨_,q1,q2,q3,wf⟩:=id hh
 have hr:(tm.m2 n n).rows.length=n:=by rw [(dh tm n n).1,At,abX,ok.lm];lia
 have hb:rW tm n s.bA:=⟨by rw [so.lb,hr],λ j hj=>by
   have:=so.band j (by lia)
   rw [lO ok hj] at this
   unfold aw.row gN at this
   rw [At] at this
   rw [Nv]
   exact this⟩
 refine ⟨x,fp,tm.m2 n n,s,g,o,out,pb,zs,vw,_,hv,hw,so,iX,hz,by lia,by rw [hr];exact Ml,λ i b hi h=>FU wf ok n4 (by lia) hb h,tn,λ ho=>λ H1 s1=>?_,λ ho hf=>λ H1 s1=>?_,λ ho hf=>⟨λ i b hi e hj=>?_,λ hj H' b ts w'=>?_⟩⟩
 . exact hE _ _ _ ⟨2,_,_,rfl,rfl,s1,by rw [mF ho];rfl,λ z=>absurd z (by decide),λ _=>by rw [mF ho]⟩
 . exact hE _ _ _ ⟨3,_,_,rfl,rfl,s1,by rw [jd ho hf];rfl,λ z=>absurd z (by decide),λ _=>by rw [jd ho hf]⟩
 .
  have bits:∀ i,(Ord.off o out).testBit i=true->(tm.m2 n n).has i=true:=λ i h=>((tn ho hf).Ic ((tn ho hf).Lp h).1).2
  rw [hr] at hi
  rw [nM wf ok n4 hi hb (bits i) hl] at e
  have hj:∀ j,j<i->tm.tF n s.bA (Ord.off o out) zs wl j=none:=λ j h=>by
    have:=hj j h
    rw [nM wf ok n4 (by lia) hb (bits j) hl] at this
    exact this
  have ed:=oJ ho hf hi e hj
  intro d H1 s1 hd1
  cases b with
  | true=>exact hE _ _ _ ⟨0,_,_,rfl,rfl,s1,by rw [ed];rfl,λ _=>⟨by rw [ed];exact nofun,d,rfl,by rw [ed];exact hd1⟩,λ z=>absurd (by decide) z⟩
  | false=>exact hE _ _ _ ⟨1,_,_,rfl,rfl,s1,by rw [ed];rfl,λ _=>⟨by rw [ed];exact nofun,d,rfl,by rw [ed];exact hd1⟩,λ z=>absurd (by decide) z⟩
 .
  have bits:∀ i,(Ord.off o out).testBit i=true->(tm.m2 n n).has i=true:=λ i h=>((tn ho hf).Ic ((tn ho hf).Lp h).1).2
  refine hQ (Bt ho hf λ j h=>?_) H' ⟨b,ts,w'⟩
  have:=hj j (by lia)
  rw [nM wf ok n4 h hb (bits j) hl] at this
  exact this
set_option maxHeartbeats 0 in
theorem yM (T:Txt K mg Ad):Def P w K mg base "_law_gone" 11 ["_law_told","_law_walk","_law_turn_here","_law_k"] (DR K Ad.aY Ad.Walk):=by
 refine T.Bq.cM cK λ f bB A outer s H vs Q E hr h=>?_
 obtain ⟨p,tm,n,x,fp,st,g,t,o,out,zs,wl,kk,rfl,hT,ok,n4,hw,so,⟨DU,vw,ht,hz,lz,HS⟩,pX,iX,tn,k1,k2⟩:=h
 refine ⟨_,(ag (az (i:=4) cK.nd rfl (lc rfl) (ay au (pv 2) af (λ _ _=>rfl)))
     (ag (gp (aU (aJ js (pv 4) b9 (aL _)) (am (nZ (yi:=4) ["_law_num"] ["_law_told"] [0] (.cons ⟨rfl,rfl,.inl rfl⟩ .nil) rfl (fL (pv 4)) (λ _ _ _ _ _=>(aK (i:=0) (show (["_law_num","_law_told"]:List Str).Nodup by decide +kernel) rfl (lc rfl))) (λ _ _ _ _ _=>fM) (λ _ _ _ _ _=>(ak (jB (K:=K) T) hr.m (aa (pv 0) (aa af (aa (bi (b5 hr) (pv 1) aQ (λ _ _=>rfl)) ac))))) rfl (by decide +kernel) (by decide +kernel) (by decide +kernel) cK.nd rfl (lc rfl) rfl)) aI))
     (ag (az (i:=5) cK.nd rfl (lc rfl) (aV (aa aQ (aa b9 (aa b9 ac)))))
     (ag (Jm (i:=6) rfl rfl cK.nd rfl rfl T.vP (Ol (PW.pt (ig (aJ nK (pv 4) b9 (aL _)) (fR (aJ gB (ax gz (pv 3) af) af (aL _))))) (yB (Cz (pv 1) T.bJ (uc (K:=K) T) hr.m (aa (ay au (pv 2) af (λ _ _=>rfl)) (aa (ay au (pv 2) af (λ _ _=>rfl)) (aa (cH lV (by rfl) T.gW fC (aa (ay au (pv 2) af (λ _ _=>rfl)) ac)) ac))))) (yB (Cz (pv 1) T.bJ (ub (K:=K) T) hr.m (aa (ay au (pv 2) af (λ _ _=>rfl)) (aa (ay au (pv 2) af (λ _ _=>rfl)) (aa (cH gk (by rfl) T.tf nS (aa (ay au (pv 2) af (λ _ _=>rfl)) ac)) (aa (pv 4) ac))))))) (λ _ _ _ _ uY zT YJ=>(ag (az (i:=5) cK.nd rfl (lc rfl) (aV (aa aQ (aa b9 (aa b9 ac)))))
     (ag (gp (aU (PW.pt (ig (bK (aO (fE K rfl (aaN _ (List.mem_singleton.mpr rfl)) uY) (by rfl) T.bY bO (aa (pv 6) (aa (bM (v:=V.ref _) rfl T.lI rfl) ac)))) (fR (cS (bK (aO (fE K rfl (aaN _ (List.mem_singleton.mpr rfl)) uY) (by rfl) T.bY bO (aa (pv 6) (aa (aV (aa (bM (v:=V.ref _) rfl T.lZ rfl) (aa (bM (v:=V.ref _) rfl T.jX rfl) (aa (bM (v:=V.ref _) rfl T.hJ rfl) ac)))) ac)))))))) (am (az (i:=5) cK.nd rfl (lc rfl) (aV (aa aQ (aa (vS K rfl (aaN _ (List.mem_singleton.mpr rfl)) uY zT YJ (pv 6)) (aa (vS K rfl (aaN _ (List.mem_singleton.mpr rfl)) uY zT YJ (pv 6)) ac)))))) (am (aU (PW.pt (ig (bK (aO (fE K rfl (aaN _ (List.mem_singleton.mpr rfl)) uY) (by rfl) T.bY bO (aa (pv 6) (aa (bM (v:=V.ref _) rfl T.lZ rfl) ac)))) (fR (cS (bK (aO (fE K rfl (aaN _ (List.mem_singleton.mpr rfl)) uY) (by rfl) T.bY bO (aa (pv 6) (aa (aV (aa (bM (v:=V.ref _) rfl T.lI rfl) (aa (bM (v:=V.ref _) rfl T.jX rfl) (aa (bM (v:=V.ref _) rfl T.hJ rfl) ac)))) ac)))))))) (am (az (i:=5) cK.nd rfl (lc rfl) (aV (aa aQ (aa (vS K rfl (aaN _ (List.mem_singleton.mpr rfl)) uY zT YJ (pv 6)) (aa (vS K rfl (aaN _ (List.mem_singleton.mpr rfl)) uY zT YJ (pv 6)) ac)))))) (am (aU (PW.pt (ig (bK (aO (fE K rfl (aaN _ (List.mem_singleton.mpr rfl)) uY) (by rfl) T.bY bO (aa (pv 6) (aa (bM (v:=V.ref _) rfl T.jX rfl) ac)))) (fR (cS (bK (aO (fE K rfl (aaN _ (List.mem_singleton.mpr rfl)) uY) (by rfl) T.bY bO (aa (pv 6) (aa (aV (aa (bM (v:=V.ref _) rfl T.hJ rfl) (aa (bM (v:=V.ref _) rfl T.lI rfl) (aa (bM (v:=V.ref _) rfl T.lZ rfl) ac)))) ac)))))))) (am (az (i:=5) cK.nd rfl (lc rfl) (aV (aa aQ (aa b9 (aa b9 ac)))))) (am (aU (PW.pt (ig (bK (aO (fE K rfl (aaN _ (List.mem_singleton.mpr rfl)) uY) (by rfl) T.bY bO (aa (pv 6) (aa (bM (v:=V.ref _) rfl T.hJ rfl) ac)))) (fR (cS (bK (aO (fE K rfl (aaN _ (List.mem_singleton.mpr rfl)) uY) (by rfl) T.bY bO (aa (pv 6) (aa (aV (aa (bM (v:=V.ref _) rfl T.jX rfl) (aa (bM (v:=V.ref _) rfl T.lI rfl) (aa (bM (v:=V.ref _) rfl T.lZ rfl) ac)))) ac)))))))) (am (az (i:=5) cK.nd rfl (lc rfl) (aV (aa aQ (aa b9 (aa b9 ac)))))) aI))))))))
     (am (aU (PW.pt (io (bK (aO (fE K rfl (aaN _ (List.mem_singleton.mpr rfl)) uY) (by rfl) T.bY bO (aa (pv 6) (aa (aV (aa (bM (v:=V.ref _) rfl T.DK rfl) (aa (bM (v:=V.ref _) rfl T.Cn rfl) (aa (bM (v:=V.ref _) rfl T.HF rfl) (aa (bM (v:=V.ref _) rfl T.E7 rfl) (aa (bM (v:=V.ref _) rfl T.Hv rfl) ac)))))) ac)))) (gR (cS (bK (aO (fE K rfl (aaN _ (List.mem_singleton.mpr rfl)) uY) (by rfl) T.bY bO (aa (pv 6) (aa (rg (v:=V.ty "ValueError") rfl T.wJ tK rfl) ac)))))))) (am (az (i:=5) cK.nd rfl (lc rfl) (aV (aa aQ (aa b9 (aa b9 ac)))))) aI))))))
     (am (aH (pv 5))))))),?_⟩
 try dsimp only [d9,aT]
 first|(refine jM ?_;intro _ _ _ _ _ _)|skip
 obtain ⟨pm,ps,pt,pf,fm,pb,vm,vs,vt,aN,C0⟩:=id hT
 have L5:bS K H fm tm.scale.vs:=bZ.tup C0.sc
 have hll:=HS.len
 obtain ⟨Ib,_,_,Cc,_⟩:=id hw
 refine ⟨_,rfl,t,_,_,_,rfl,rfl,.inr ht,rfl,?_⟩
 refine ⟨λ σ' H'=>aB H H'/\∃ Pb,DH K H' n Pb (wl.map λ l=>l.map λ x=>aZ x 12 tm.scale)/\σ'=[some (.ref p),some (.ref x),some (.ref t),some (aq kk),some Pb,none,none],?_,?_⟩
 .
  refine ⟨_,rfl,rfl,_,rfl,?_⟩
  cases wl with
  | none =>
    have e:vw = .bT:=HS
    subst e
    exact cY rfl ⟨aB.refl _,.bT,rfl,rfl⟩
  | some l =>
    obtain ⟨pw,rfl,hpw,ll,bl⟩:=HS
    refine mO (λ _=>?_) (λ q=>nomatch q)
    refine ⟨_,rfl,pw,rfl,⟨_,hpw⟩,λ Dl hD=>?_⟩
    refine iO (K:=K) (a:=pw) (xs:=l.map V.int) (λ j acc U H3=>A4 (aB H H3) (H3 Dl=some (.lst acc)) (cf K H3 ((l.take j).map λ x=>ek (aZ x 12 tm.scale)) acc) (∃ v,U=[v,some (.ref p)]))
      ⟨ai hD,ah,rfl,none,rfl⟩ (λ j acc U H3 _ e=>e.1.seq hpw) ?_ ?_
    .
     rintro j x' acc U H3 N9 ⟨s3,i9,d3,v,rfl⟩
     have HW:j<l.length:=by have:=(List.getElem?_eq_some_iff.mp N9).1;rw [At] at this;exact this
     have ex:x' = .int l[j]:=by
       rw [RS,av HW] at N9
       exact (aaU N9).symm
     subst ex
     have bdj:=bl l[j] (aaA HW)
     refine ⟨_,rfl,_,rfl,p,_,rfl,su (s3 _ _ C0.hp),l[j],12,fm,tm.scale,rfl,s3.tup L5,ok.scale,(show (l[j]).natAbs<2 ^ 30 by lia),by decide,mT,λ q H4 s4 hq=>?_⟩
     have la:acc.length=j:=by rw [d3.length,At,abX];lia
     have ND:cu K H4 (upd H4 Dl (.lst (acc++[.ref q]))):=eS (s4 _ _ i9) rfl
     refine ⟨s4 _ _ i9,aS (by lia),(s3.trans s4).put hD,ah,?_,_,rfl⟩
     rw [amE,av HW,YC]
     exact (cf.ts ((aB.ts s4).trans ND) _ (mE _ _) d3).snoc (Dn.ts ND _ (gT _) (hV (bS.of hq)))
    . rintro acc U H3 ⟨s3,i9,d3,v,rfl⟩
      rw [At,agc] at d3
      refine ⟨s3,.ref Dl,⟨Dl,acc,rfl,bg.of i9,by rw [aoj];exact d3,by rw [At];exact ll,λ f hf=>?_⟩,rfl⟩
      obtain ⟨y,hy,rfl⟩:=List.mem_map.mp hf
      exact sI ok (bl y hy).1 (bl y hy).2
 rintro σ' H1 ⟨S1,Pb,Ml,rfl⟩
 refine ⟨CO,λ r0 UP=>?_⟩
 have s2:=ai (o:=.tup [.str "",.bT,.bT]) UP
 have k0:(upd H1 r0 (.tup [.str "",.bT,.bT])) r0=some (.tup [.str "",.bT,.bT]):=ah
 generalize upd H1 r0 (.tup [.str "",.bT,.bT])=H2 at s2 k0 ⊢
 have S2:=S1.trans s2
 generalize YA:iA tm n st o out zs wl=du at k1 k2
 dsimp only
 refine Dr (λ σ1 cls d H'=>σ1=[some (.ref p),some (.ref x),some (.ref t),some (aq kk),some Pb,some (.ref r0),none]/\G4 Ad du g H2 cls d H') ?_ ?_
 .
  rintro σ1 cls d H3 ⟨rfl,i,D,l,rfl,hD,s3,en,Rv,Dj⟩
  have tb:=FZ T.alB hD
  have hE:=V5 T hD
  refine ⟨tb.ex,λ e he=>?_⟩
  refine ⟨CO,λ r1 JC=>?_⟩
  have s4:=ai (o:=.tup [.str "other",.bT,.bT]) JC
  generalize upd H3 r1 (.tup [.str "other",.bT,.bT])=H4 at s4 ⊢
  have S4:=S2.trans (s3.trans s4)
  refine ⟨λ σ' H'=>aB H4 H'/\∃ r2,H' r2=some (.tup [.str du.1,du.2,if du.2 = .bT then .bT else .int g])/\σ'=[some (.ref p),some (.ref x),some (.ref t),some (aq kk),some Pb,some (.ref r2),some (.ref e)],?_,?_⟩
  .
   have el:∀ {v:V},v ≠ .bT->(if v = .bT then .bT else V.int g) = .int g:=λ {v} h=>aa8 h
   refine ⟨_,rfl,_,_,D,rfl,rfl,hE,.one rfl (tb.one 0 _ rfl),_,rfl,?_⟩
   cases c0:(i == 0) with
   | true =>
     obtain rfl:i=0:=by simpa using c0
     cases hD
     obtain ⟨nn,dx,rfl,iM⟩:=Rv (by decide)
     refine fw ⟨_,rfl,CO,λ pt c8=>⟨_,_,_,rfl,rfl,hE,.many ah (λ y hy=>?_) tb.ot,_,rfl,?_⟩⟩
     . simp only [abj,aay,ae5] at hy
       rcases hy with rfl|rfl|rfl<;>exact rfl
     have u6:=ai (o:=.tup [.ref Ad.bX,.ref Ad.cy,.ref Ad.bF]) c8
     have TV:=(s4.trans u6) _ _ iM
     refine dF (A:=True) ⟨_,rfl,_,dx,_,_,rfl,rfl,rfl,TV,p8 T,rfl,_,rfl,_,dx,_,_,rfl,rfl,rfl,TV,oV T,rfl,CO,λ r2 zY=>⟨u6.trans (ai zY),r2,?_,rfl⟩⟩
     rw [ah,el nn,en];rfl
   | false =>
     refine dF (A:=True) ?_
     refine ⟨_,rfl,_,_,D,rfl,rfl,hE,.one rfl (tb.one 1 _ rfl),_,rfl,?_⟩
     cases c1:(i == 1) with
     | true =>
       obtain rfl:i=1:=by simpa using c1
       cases hD
       obtain ⟨nn,dx,rfl,iM⟩:=Rv (by decide)
       refine fw ⟨_,rfl,CO,λ pt c8=>⟨_,_,_,rfl,rfl,hE,.many ah (λ y hy=>?_) tb.ot,_,rfl,?_⟩⟩
       . simp only [abj,aay,ae5] at hy
         rcases hy with rfl|rfl|rfl<;>exact rfl
       have u6:=ai (o:=.tup [.ref Ad.bR,.ref Ad.cy,.ref Ad.bF]) c8
       have TV:=(s4.trans u6) _ _ iM
       refine dF (A:=True) ⟨_,rfl,_,dx,_,_,rfl,rfl,rfl,TV,qr T,rfl,_,rfl,_,dx,_,_,rfl,rfl,rfl,TV,oR T,rfl,CO,λ r2 zY=>⟨u6.trans (ai zY),r2,?_,rfl⟩⟩
       rw [ah,el nn,en];rfl
     | false =>
       have nlt:¬ i<2:=by
         have h0:i≠0:=by simpa using c0
         have h1:i≠1:=by simpa using c1
         lia
       have e2:=Dj nlt
       refine dF (A:=True) ?_
       refine ⟨_,rfl,_,_,D,rfl,rfl,hE,.one rfl (tb.one 2 _ rfl),_,rfl,?_⟩
       cases c2:(i == 2) with
       | true =>
         obtain rfl:i=2:=by simpa using c2
         cases hD
         refine fw ⟨_,rfl,CO,λ pt c8=>⟨_,_,_,rfl,rfl,hE,.many ah (λ y hy=>?_) tb.ot,_,rfl,?_⟩⟩
         . simp only [abj,aay,ae5] at hy
           rcases hy with rfl|rfl|rfl<;>exact rfl
         refine dF (A:=True) ⟨CO,λ r2 zY=>⟨(ai c8).trans (ai zY),r2,?_,rfl⟩⟩
         rw [ah,e2,en,abl rfl];rfl
       | false =>
         obtain rfl:i=3:=by
           have h1:i≠2:=by simpa using c2
           have:i<4:=(List.getElem?_eq_some_iff.mp hD).1
           lia
         cases hD
         refine dF (A:=True) ?_
         refine ⟨_,rfl,_,_,_,rfl,rfl,hE,.one rfl (tb.one 3 _ rfl),_,rfl,?_⟩
         refine fw (B:=True) ⟨_,rfl,CO,λ pt c8=>⟨_,_,_,rfl,rfl,hE,.many ah (λ y hy=>?_) tb.ot,_,rfl,?_⟩⟩
         . simp only [abj,aay,ae5] at hy
           rcases hy with rfl|rfl|rfl<;>exact rfl
         refine dF (A:=True) ⟨CO,λ r2 zY=>⟨(ai c8).trans (ai zY),r2,?_,rfl⟩⟩
         rw [ah,e2,en,abl rfl];rfl
  rintro σ' H5 ⟨s5,r2,k5,rfl⟩
  refine ⟨_,rfl,(by show 5<=sizeLine;decide),λ pt c8=>⟨_,_,_,rfl,rfl,hE,.many ah (λ y hy=>?_) tb.no,_,rfl,?_⟩⟩
  . simp only [abj,aay,ae5] at hy
    rcases hy with rfl|rfl|rfl|rfl|rfl<;>exact rfl
  have s6:=ai (o:=.tup [.ref Ad.qZ,.ref Ad.yI,.ref Ad.wu,.ref Ad.wY,.ref Ad.vy]) c8
  generalize upd H5 pt (.tup [.ref Ad.qZ,.ref Ad.yI,.ref Ad.wu,.ref Ad.wY,.ref Ad.vy])=H6 at s6 ⊢
  refine dF (A:=True) ⟨_,rfl,_,_,D,rfl,rfl,hE,.one rfl tb.ve,_,rfl,?_⟩
  refine fw (B:=True) ⟨_,rfl,?_⟩
  refine k1 ?_ r2 H6 (S4.trans (s5.trans s6)) (s6 _ _ k5)
  rw [en]
  have mK:i<4:=(List.getElem?_eq_some_iff.mp hD).1
  match i,mK with
  | 0,_=>decide
  | 1,_=>decide
  | 2,_=>decide
  | 3,_=>decide
 intro E' hE'
 have Jd:=S2 _ _ Cc
 have Hf:=S2.tup ht
 have fin:du=(("" : Str),V.bT)->∀ H',(∃ H3,aB H2 H3/\nextK K Ad.aY Ad.Walk x fp tm n st o out zs g H3 H')->Q (.ref r0) H':=λ e H' ⟨H3,s3,b,ts,w'⟩=>by
   have S3:=S2.trans s3
   have nr:r0≠x:=bD k0 Jd nofun
   exact k2 e r0 H' ⟨λ c u hc nc=>b c u (S3 c u hc) nc,(aB.ts S3).trans ts,w'⟩ (b _ _ (s3 _ _ k0) (by simpa using nr))
 have M7:∀ {H3},aB H2 H3->∀ cls d H',G4 Ad (iA tm n st o out zs wl) g H3 cls d H'->E' [some (.ref p),some (.ref x),some (.ref t),some (aq kk),some Pb,some (.ref r0),none] cls d H':=λ {H3} s3 cls d H' ⟨i,D,l,e1,e2,s4,r⟩=>hE' _ _ _ _ ⟨rfl,by rw [YA] at r;exact ⟨i,D,l,e1,e2,s3.trans s4,r⟩⟩
 refine ⟨_,rfl,rfl,_,rfl,?_⟩
 refine d6 (λ h=>?_) (λ h=>?_)
 .
  refine ⟨_,rfl,_,_,rfl,rfl,by decide,λ y ya yb ey=>⟨rfl,_,rfl,d6 (λ h2=>?_) (λ h2=>?_)⟩⟩
  . subst h
    refine ⟨_,rfl,x,Ib,_,rfl,Jd,rfl,_,rfl,t,_,_,_,rfl,rfl,.inr Hf,rfl,_,rfl,t,_,_,_,rfl,rfl,.inr Hf,rfl,_,rfl,t,_,_,_,rfl,rfl,.inr Hf,rfl,DU,_,rfl,.inl (S2.seq hz),λ qt H3 s3 hq=>?_⟩
    dsimp only [vD,anW,amN]
    exact wT (Ad:=Ad) rfl ok n4 (hw.same (S2.trans s3)) so pX iX (.inr hq) lz hll (Ml.same (s2.trans s3)) tn (M7 s3) (λ e H' hn=>⟨_,rfl,fin (YA ▸ e) H' ⟨H3,s3,hn⟩⟩)
  . refine ⟨_,rfl,x,Ib,_,rfl,Jd,rfl,_,rfl,t,_,_,_,rfl,rfl,.inr Hf,rfl,_,rfl,t,_,_,_,rfl,rfl,.inr Hf,rfl,_,rfl,t,_,_,_,rfl,rfl,.inr Hf,rfl,DU,_,rfl,.inl (S2.seq hz),λ qt hqt=>⟨_,rfl,?_⟩⟩
    have s3:=ai (o:=.lst (zs.map V.int)) hqt
    dsimp only [vD,anW,amN]
    exact wT (Ad:=Ad) rfl ok n4 (hw.same (S2.trans s3)) so pX iX (.inl (bg.of ah)) lz hll (Ml.same (s2.trans s3)) tn (M7 s3) (λ e H' hn=>⟨_,rfl,fin (YA ▸ e) H' ⟨_,s3,hn⟩⟩)
 .
  refine dF (A:=True) ⟨_,rfl,x,Ib,_,rfl,Jd,rfl,_,rfl,t,_,_,_,rfl,rfl,.inr Hf,rfl,_,rfl,t,_,_,_,rfl,rfl,.inr Hf,rfl,_,rfl,t,_,_,_,rfl,rfl,.inr Hf,rfl,DU,_,rfl,.inl (S2.seq hz),λ qt hqt=>⟨_,rfl,?_⟩⟩
  have s3:=ai (o:=.lst (zs.map V.int)) hqt
  dsimp only [vD,anW,amN]
  exact wT (Ad:=Ad) rfl ok n4 (hw.same (S2.trans s3)) so pX iX (.inl (bg.of ah)) lz hll (Ml.same (s2.trans s3)) tn (M7 s3) (λ e H' hn=>⟨_,rfl,fin (YA ▸ e) H' ⟨_,s3,hn⟩⟩)
theorem Gd {H:Hp} {a x:Addr} {xs:List V} {C dx:Addr} {fs:List (Str×V)} (h:bg K H a xs) (hx:H x=some (.ins C dx fs)):bg K (dU H [x]) a xs:=by
 rcases h with (h|⟨o,h⟩)|h
 . exact .inl (.inl (jG h (by rw [apZ];exact bD h hx nofun)))
 . exact .inl (.inr ⟨o,jG h (by rw [apZ];exact bD h hx nofun)⟩)
 . exact .inr h
theorem Co {tm:aw} {n i b:Nat} {bs:List Nat} {zs:List Int} {wl:Option (List Int)} (h:tm.tF n bs b zs wl i=none):0<=zs.getD i 0/\zs.getD i 0<((tm.marks.getD i []).length:Int) - 1:=by
 have key:∀ {lo hi},tm.ue i (zs.getD i 0) lo hi->0<=zs.getD i 0/\zs.getD i 0<((tm.marks.getD i []).length:Int) - 1:=λ h=>⟨h.1,h.2.1⟩
 cases wl with
 | none =>
   have h:(if tm.ue i (zs.getD i 0) (tm.s0 n i bs (b.testBit i)) (tm.s1 n i bs (b.testBit i)) then none else some false)=none:=h
   by_cases c:tm.ue i (zs.getD i 0) (tm.s0 n i bs (b.testBit i)) (tm.s1 n i bs (b.testBit i))
   . exact key c
   . rw [aa8 c] at h;cases h
 | some l =>
   have h:(if l.getD i 0<tm.s0 n i bs (b.testBit i)∨tm.s1 n i bs (b.testBit i)<l.getD i 0 then some true else if tm.ue i (zs.getD i 0) (l.getD i 0) (l.getD i 0) then none else some false)=none:=h
   by_cases c:l.getD i 0<tm.s0 n i bs (b.testBit i)∨tm.s1 n i bs (b.testBit i)<l.getD i 0
   . rw [abl c] at h;cases h
   . rw [aa8 c] at h
     by_cases c:tm.ue i (zs.getD i 0) (l.getD i 0) (l.getD i 0)
     . exact key c
     . rw [aa8 c] at h;cases h
theorem uD {tm:aw} {n o out:Nat} {s:dY} {zs:List Int} {wl:Option (List Int)} :
   (iA tm n s o out zs wl=(("" : Str),V.bT)/\o∈s.orders (tm.m2 n n)/\out &&& s.may (tm.m2 n n) o=out/\∀ j,j<n->tm.tF n s.bA (Ord.off o out) zs wl j=none)∨((iA tm n s o out zs wl).1 ≠ ""/\((iA tm n s o out zs wl).2 = .bT∨∃ i:Nat,(iA tm n s o out zs wl).2=aq i)):=by
 by_cases ho:o∈s.orders (tm.m2 n n)
 case neg=>rw [mF ho];exact .inr ⟨by decide,.inl rfl⟩
 by_cases hf:out &&& s.may (tm.m2 n n) o=out
 case neg=>rw [jd ho hf];exact .inr ⟨by decide,.inl rfl⟩
 rcases uS (F:=tm.tF n s.bA (Ord.off o out) zs wl) (n:=n) with ⟨_,h⟩|⟨i,b,_,hi,h1,h2⟩
 . exact .inl ⟨Bt ho hf h,ho,hf,h⟩
 .
  rw [oJ ho hf hi h1 h2]
  refine .inr ⟨?_,.inr ⟨i,rfl⟩⟩
  show (if b then ("turn" : Str) else "band") ≠ ""
  cases b<;>decide
set_option maxHeartbeats 0 in
theorem yC (T:Txt K mg Ad):Def P w K mg base "_law_step" 12 ["_law_hold","_law_told","_law_walk","_law_state","_law_three","_law_k","_law_turns"] (uA K Ad.aY Ad.Walk):=by
 refine T.Bn.cM jj λ f bB A outer s H vs Q E hr h=>?_
 obtain ⟨a,xo,p,tm,n,x,fp,q,st,g,pc,cs,kk,rfl,hh,nxa,hTc,ok,n4,hw,gE,so,hc,hk,k1,k2⟩:=h
 refine ⟨_,(ag (az (i:=7) jj.nd rfl (lc rfl) (ak (yH (K:=K) T) hr.m (aa (pv 0) (aa (pv 1) (aa (pv 3) (aa (pv 4) (aa (pv 5) ac)))))))
     (ag (az (i:=8) jj.nd rfl (lc rfl) (ak (vK (K:=K) T) hr.m (aa (pv 0) (aa (pv 1) (aa (pv 3) (aa (pv 7) ac))))))
     (ag (az (i:=9) jj.nd rfl (lc rfl) (ak (yM (K:=K) T) hr.m (aa (pv 1) (aa (pv 2) (aa (pv 7) (aa (pv 5) ac))))))
     (ag (aU (PW.pt (io (aJ hU (ay au (pv 9) af (λ _ _=>rfl)) (ay au (pv 8) af (λ _ _=>rfl)) (aL _)) (io (aJ hU (ay au (pv 9) af (λ _ _=>rfl)) (ay au (pv 8) af (λ _ _=>rfl)) (aL _)) (gR (PW.pt (ig (aJ js (ay au (pv 8) af (λ _ _=>rfl)) b9 (aL _)) (fR (aJ hU (ay au (pv 9) af (λ _ _=>rfl)) (pv 6) (aL _))))))))) (am (aH b9)) aI)
     (ag (aU (aJ hU (ay au (pv 8) af (λ _ _=>rfl)) aQ (aL _)) (am (aH (aV (aa af (aa (pv 3) ac))))) aI)
     (am (aH (aV (aa af (aa (ax CL (aV (aa (cH lV (by rfl) T.gW fC (aa (ay au (pv 7) af (λ _ _=>rfl)) ac)) ac)) (ak (lR (K:=K) T) hr.m (aa (pv 0) (aa (pv 3) (aa (ay au (pv 7) af (λ _ _=>rfl)) (aa (ay au (pv 7) af (λ _ _=>rfl)) ac)))))) ac)))))))))),?_⟩
 try dsimp only [d9,aT]
 first|(refine jN ?_;intro _ _ _ _ _ _ _)|skip
 have hT:fA K H p tm:=hTc.same bZ
 obtain ⟨Ib,_,_,Cc,_⟩:=id hw
 have hl:(tm.m2 n n).rows.length=n:=by rw [(dh tm n n).1,At,abX,ok.lm];lia
 refine ⟨_,rfl,_,rfl,_,rfl,_,rfl,_,rfl,a,xo,p,tm,n,q,st,pc,cs,kk,rfl,hh,hT,ok,n4,gE,so,hc,hk,λ H1 s1 t o out zs wl pX iX hn=>?_⟩
 refine ⟨_,rfl,_,rfl,_,rfl,_,rfl,a,xo,p,tm,n,q,st,t,o,out,zs,wl,rfl,hh.same s1,hT.same s1,ok,n4,gE.same s1,so,hn,pX,iX,λ rd H2 s2 Pl=>?_⟩
 have S2:=s1.trans s2
 have Dj:=hn.same s2
 refine ⟨_,rfl,_,rfl,_,rfl,_,rfl,p,tm,n,x,fp,st,g,t,o,out,zs,wl,kk,rfl,hT.same S2,ok,n4,hw.same S2,so,Dj,pX,iX,λ ho hf=>By ok n4 so iX ho hf,λ ne r H3 s3 Mj=>?_,λ ed r H3 nk Mj=>?_⟩
 .
  have S3:=S2.trans s3
  rcases uD (tm:=tm) (n:=n) (o:=o) (out:=out) (s:=st) (zs:=zs) (wl:=wl) with ⟨e,_⟩|⟨_,dc⟩
  . exact absurd (by rw [e]) ne
  generalize iA tm n st o out zs wl=du at ne Mj Pl dc
  have tX:=s3 _ _ Pl
  refine ⟨_,rfl,r,_,_,_,rfl,rfl,.inr (bS.of Mj),rfl,_,rfl,rd,_,_,_,rfl,rfl,.inr (bS.of tX),rfl,rfl,_,rfl,?_⟩
  refine cY rfl ?_
  have sc:Nx du.2 du.2=true:=by
    rcases dc with e|⟨i,e⟩<;>rw [e]<;>rfl
  refine ⟨_,rfl,r,_,_,_,rfl,rfl,.inr (bS.of Mj),rfl,_,rfl,rd,_,_,_,rfl,rfl,.inr (bS.of tX),rfl,sc,_,rfl,cY rfl ?_⟩
  refine ⟨_,rfl,rd,_,_,_,rfl,rfl,.inr (bS.of tX),rfl,rfl,_,rfl,mO (λ h=>?_) (λ h=>?_)⟩
  . rw [aa8 h] at Mj
    refine ⟨_,rfl,r,_,_,_,rfl,rfl,.inr (bS.of Mj),rfl,_,rfl,rfl,_,rfl,cY rfl ?_⟩
    refine ⟨_,rfl,rd,_,_,_,rfl,rfl,.inr (bS.of tX),rfl,rfl,_,rfl,mO (λ _=>?_) (λ h=>absurd (by injection h) ne)⟩
    exact ⟨_,rfl,mS,λ rr OX=>k1 rr _ (S3.trans (ai OX)) ah⟩
  . refine dF (A:=True) ⟨_,rfl,rd,_,_,_,rfl,rfl,.inr (bS.of tX),rfl,rfl,_,rfl,mO (λ _=>?_) (λ h=>absurd (by injection h) ne)⟩
    exact ⟨_,rfl,mS,λ rr OX=>k1 rr _ (S3.trans (ai OX)) ah⟩
 .
  rcases uD (tm:=tm) (n:=n) (o:=o) (out:=out) (s:=st) (zs:=zs) (wl:=wl) with ⟨_,ho,hf,hF⟩|⟨ne,_⟩
  case inr=>exact absurd (by rw [ed]) ne
  obtain ⟨b3,VS,w3⟩:=nk
  rw [ed] at Pl
  have tX:bS K H3 rd [.str "",.bT]:=VS _ _ (bS.of Pl)
  have tn:=By ok n4 so iX ho hf
  refine ⟨_,rfl,r,_,_,_,rfl,rfl,.inr (bS.of Mj),rfl,_,rfl,rd,_,_,_,rfl,rfl,.inr tX,rfl,rfl,_,rfl,cY rfl ?_⟩
  refine ⟨_,rfl,r,_,_,_,rfl,rfl,.inr (bS.of Mj),rfl,_,rfl,rd,_,_,_,rfl,rfl,.inr tX,rfl,rfl,_,rfl,cY rfl ?_⟩
  refine ⟨_,rfl,rd,_,_,_,rfl,rfl,.inr tX,rfl,rfl,_,rfl,cY rfl ?_⟩
  refine dF (A:=True) ⟨_,rfl,rd,_,_,_,rfl,rfl,.inr tX,rfl,rfl,_,rfl,cY rfl ?_⟩
  obtain ⟨DU,vw,Hf,Mh,lz,HS⟩:=Dj
  have ht3:=VS _ _ Hf
  have hz3:bg K H3 DU (zs.map V.int):=(qE.cut b3).trans bZ |>.seq (Gd Mh (S2 _ _ Cc))
  have Pa:aR K Ad.aY H3 a xo (tm.m2 n n):=(hh.same S2).Wc (λ b u e nb=>b3 b u e (by simpa using nb)) VS nxa
  have afa:fz K H3 q st:=(gE.same S2).ts VS
  have nn:∀ z∈zs,0<=z:=λ z WA=>by
    obtain ⟨j,hj,rfl⟩:=aiR WA
    have:=(Co (hF j (by lia))).1
    rw [Nv,av hj] at this
    exact this
  refine ⟨_,rfl,t,_,_,_,rfl,rfl,.inr ht3,rfl,DU,_,rfl,.inl hz3,λ qb H4 s4 hqb=>⟨OR,λ pt c8=>?_⟩⟩
  have s5:=ai (o:=.tup [.ref qb]) c8
  have e5:(upd H4 pt (.tup [.ref qb])) pt=some (.tup [.ref qb]):=ah
  generalize upd H4 pt (.tup [.ref qb])=H5 at s5 e5 ⊢
  have Pp:=s4.trans s5
  refine ⟨_,rfl,_,rfl,_,rfl,t,_,_,_,rfl,rfl,.inr (Pp.tup ht3),rfl,_,rfl,t,_,_,_,rfl,rfl,.inr (Pp.tup ht3),rfl,a,xo,_,q,st,o,out,rfl,Pa.same Pp,afa.same Pp,so,λ i h=>tn.has h,tn.GU,tn.G5,λ qt pw pf H6 s6 e1 e2 e3=>?_⟩
  refine ⟨pt,qt,_,_,rfl,rfl,bS.of (s6 _ _ e5),bS.of e1,nofun,(by show 1+4<=sizeLine;decide),nofun,λ _ pn hpn=>⟨mS,λ rr OX=>?_⟩⟩
  have s7:=ai (o:=.tup ([.ref qb]++[aq (Ord.off o out),.ref pw,.ref pf,aq (st.gF (tm.m2 n n) (Ord.off o out)).toNat])) hpn
  have e7:(upd H6 pn (.tup ([.ref qb]++[aq (Ord.off o out),.ref pw,.ref pf,aq (st.gF (tm.m2 n n) (Ord.off o out)).toNat]))) pn=some (.tup ([.ref qb]++[aq (Ord.off o out),.ref pw,.ref pf,aq (st.gF (tm.m2 n n) (Ord.off o out)).toNat])):=ah
  generalize upd H6 pn (.tup ([.ref qb]++[aq (Ord.off o out),.ref pw,.ref pf,aq (st.gF (tm.m2 n n) (Ord.off o out)).toNat]))=H7 at s7 e7 OX ⊢
  have s8:=ai (o:=.tup [.int 1,.ref pn]) OX
  have s37:=(Pp.trans s6).trans s7
  have s38:=s37.trans s8
  have s68:=s7.trans s8
  have Ea:fz K (upd H7 rr (.tup [.int 1,.ref pn])) pn (st.behind (tm.m2 n n) (zs.map Int.toNat) o out):=by
    refine ⟨qb,pw,pf,bS.of (s8 _ _ e7),?_,bS.of (s68 _ _ e2),bS.of (s68 _ _ e3)⟩
    have:=((s5.trans s6).trans s68).tup hqb
    rw [uX nn] at this
    exact this
  refine k2 rr pn _ _ (λ c u hc nc=>s38 _ _ (b3 c u (S2 c u hc) nc)) (((aB.ts S2).trans VS).trans (aB.ts s38)) (w3.same s38) (tn.next (by rw [At,lz,hl]) λ i hi=>?_) Ea ah
  rw [hl] at hi
  have:=Co (hF i hi)
  rw [lO ok hi]
  unfold aw.row gN
  rw [At,RS]
  have hiz:i<zs.length:=by lia
  rw [Nv (l:=zs),av hiz] at this
  rw [av hiz]
  have this:0<=zs[i]/\zs[i]<((tm.marks.getD i []).length:Int) - 1:=this
  show zs[i].toNat+1<_
  lia
theorem Tt {f:cg} {k:Int} (h:f.1 * 12=k * f.2) (p:0<f.2):Ov 12 k f:=⟨h,p⟩
theorem Lk {C CW:Addr} {vs:List V} {H:Hp} {Q:VK} {E:XK} {a p x q pt:Addr} {xo fp:List Addr} {tm:aw} {n k:Nat} {s:dY} {g:Int} {cs:List Int} (hv:vs=[.ref a,.ref p,.ref x,.ref q,.ref pt,aq k,.int g]) (hh:aR K C H a xo (tm.m2 n n)) (nx:x∉xo) (hT:fA K (dU H [x]) p tm) (ok:tm.Ok n n) (n4:n<=4) (hw:iJ K C CW H x fp (tm.m2 n n) s g) (hs:fz K H q s) (so:gD (tm.m2 n n) s) (hc:bg K H pt (cs.map V.int)) (hk:k<=800)
   (h:∀ r q' s' (d:Int) H',qE [x] H H'->iJ K C CW H' x fp (tm.m2 n n) s' (g+d)->gD (tm.m2 n n) s'->fz K H' q' s'->H' r=some (.tup [.int d,.ref q'])->Q (.ref r) H'):uA K C CW vs H Q E :=
 ⟨a,xo,p,tm,n,x,fp,q,s,g,pt,cs,k,hv,hh,nx,hT,ok,n4,hw,hs,so,hc,hk,λ r H' s' hr=>h r q s 0 H' (lC s') (by rw [amP];exact hw.same s') so (hs.same s') hr,λ r q' s' H' b _ w so' hs' hr=>h r q' s' 1 H' b w so' hs' hr⟩
set_option maxHeartbeats 0 in
theorem Of {f:Addr} {fd:FuncData} (F:IP K "law" "law" xO f fd) (T:Txt K mg Ad):ja P w K mg base tL 13 f fd ["_law_script"] (Gu K):=by
 refine F.ok iW (λ vs H Q E h=>?_) (λ bB A outer s H vs Q E hr h=>?_)
 . obtain ⟨a,ns,rfl,_⟩:=h
   rfl
 .
  obtain ⟨a,ns,rfl,hS,hlen,CT,k⟩:=h
  refine ⟨_,(ag (az (i:=1) iW.nd rfl (lc rfl) (ak (xR (K:=K) T) hr.m (aa (ak (vT (K:=K) T) hr.m (aa (pv 0) ac)) (aa (ak (bu (K:=K) T) hr.m (aa (pv 0) (aa af ac))) ac))))
    (ag (az (i:=2) iW.nd rfl (lc rfl) (ak (oy (K:=K) T) hr.m (aa (pv 1) ac)))
    (ag (az (i:=3) iW.nd rfl (lc rfl) (ak (oy (K:=K) T) hr.m (aa (pv 1) ac)))
    (ag (az (i:=4) iW.nd rfl (lc rfl) (ak (qC (K:=K) T) hr.m (aa (pv 1) (aa (ak (bu (K:=K) T) hr.m (aa (pv 0) (aa af ac))) (aa af ac)))))
    (ag (az (i:=5) iW.nd rfl (lc rfl) (xD T.Kh (oB (K:=K) T) .nil hr.m T.OE (aa (pv 3) (aa (pv 4) ac))))
    (ag (br (yh (pv 3) T.aE (ia (K:=K) T) hr.m (aa af (aa (aV (aa af (aa af ac))) (aa af (aa af (aa af ac)))))))
    (ag (br (aX (pv 3) T.aE (jY (K:=K) T) .nil hr.m (aa af (aa (aV (aa af (aa af ac))) (aa (aV (aa af (aa af ac))) (aa (aV (aa af (aa af ac))) ac))))))
    (ag (gp (aU (aJ lY (cP (pv 3) T.aE (cw (K:=K) T) .nil hr.m) af (aL _)) (ag (br (aX (pv 3) T.aE (gu (K:=K) T) .nil hr.m (aa af (aa af (aa (aV (aa af (aa af ac))) ac)))))
    (am (br (aX (pv 3) T.aE (gu (K:=K) T) .nil hr.m (aa af (aa af (aa (aV (aa af (aa af ac))) ac))))))) aI))
    (ag (az (i:=6) iW.nd rfl (lc rfl) af)
    (ag (dO ad4 rfl (bH rfl T.cC (aa (ax aG af (ax hX (aO bv (by rfl) T.dS cJ (aa (mh vU (pv 0) (kX af) (kX af)) ac)) af)) ac)) (aK (i:=7) iW.nd rfl (lc rfl)) (ag (az (i:=8) iW.nd rfl (lc rfl) (ak (yC (K:=K) T) hr.m (aa (pv 2) (aa (pv 1) (aa (pv 5) (aa (pv 4) (aa (mh vU (pv 0) (kX (ax aG af (ax bf af (pv 7)))) (kX (ax aG af (ax bf af (pv 7))))) (aa (pv 7) (aa (pv 6) ac)))))))))
    (ag (aU (aJ nK (pv 8) b9 (aL _)) (am (aH lg)) aI)
    (ag (az (i:=6) iW.nd rfl (lc rfl) (ax aG (pv 6) (ay au (pv 8) af (λ _ _=>rfl))))
    (ag (az (i:=4) iW.nd rfl (lc rfl) (ay au (pv 8) af (λ _ _=>rfl)))
    (am (aU (PW.pt (io (aJ (G3 hr.units) (cP (pv 5) T.bJ (lv (K:=K) T) .nil hr.m) (pv 4) (aL _)) (io (cS (bK (aO Hk (by rfl) T.bY bO (aa (cP (pv 5) T.bJ (lv (K:=K) T) .nil hr.m) (aa (rg (v:=V.ty "tuple") rfl T.gW fC rfl) ac))))) (gR (aJ hU (cP (pv 5) T.bJ (rZ (K:=K) T) .nil hr.m) (pv 6) (aL _)))))) (am (aH lg)) aI)))))))
    (am (aH (e9 Nb (cP (pv 5) T.bJ (pI (K:=K) T) .nil hr.m) lg (aL _)))))))))))))),?_⟩
  try dsimp only [d9,aT]
  first|(refine Dy ?_;intro _ _ _ _ _ _ _ _ _ _ _ _)|skip
  refine ⟨_,rfl,a,ns,rfl,hS,λ p H0 tm0 n n1 n4 ok0 S0 hT0=>?_⟩
  refine ⟨_,rfl,a,ns,4,rfl,S0.seq hS,by decide,λ c4 _=>⟨p,tm0,H,n,c4,rfl,ok0,S0,hT0,λ H1 tm ok S1 hT=>?_⟩⟩
  refine ⟨_,rfl,p,tm,n,rfl,hT,ok,n1,n4,λ ha H2 fph S2 hh hF hn tw=>?_⟩
  have hT2:=hT.same S2
  have hS2:=(S1.trans S2).seq hS
  obtain ⟨f1,f2,f3,f4⟩:=dh tm n n
  have xp:(tm.m2 n n).Yf:=by unfold ap.Yf;rw [f2,f3,f4];exact ok.bounds
  refine ⟨_,rfl,p,tm,n,rfl,hT2,ok,n1,n4,λ ho H3 Yl S3 hho hFo _ two=>?_⟩
  refine ⟨_,rfl,_,rfl,a,ns,4,rfl,S3.seq hS2,by decide,λ c5 _=>⟨p,tm,n,c5,3,rfl,hT2.same S3,ok,n4,by decide,λ q st H4 S4 gE so=>?_⟩⟩
  refine ⟨_,rfl,_,rfl,λ x dx hx iM ndx=>?_⟩
  have S5:aB H4 (upd (upd H4 dx (.own x)) x (.ins Ad.Walk dx [])):=(ai iM).trans (ai (by rw [aD (alt ndx)];exact hx))
  have hx5:(upd (upd H4 dx (.own x)) x (.ins Ad.Walk dx [])) x=some (.ins Ad.Walk dx []):=ah
  generalize upd (upd H4 dx (.own x)) x (.ins Ad.Walk dx [])=H5 at S5 hx5 ⊢
  refine ⟨x,dx,ho,Yl,_,q,st,rfl,hx5,(hho.same S4).same S5,gE.same S5,so,xp,λ fpw H6 b6 ts6 wk6 fr6=>⟨rfl,?_⟩⟩
  have S46:aB H4 H6:=λ b o e=>b6 b o (S5 b o e) (λ z=>by rw [List.mem_singleton.mp z,hx] at e;cases e)
  have ho4:=hho.same S4
  have nxo:x∉Yl:=λ z=>by
    obtain ⟨o,e⟩:=ho4.some x z
    rw [hx] at e;cases e
  have ajm:∀ c∈fpw,c∉Yl:=λ c hc z=>by
    obtain ⟨o,e⟩:=ho4.some c z
    have:=fr6 c hc
    rw [S5 _ _ e] at this
    cases this
  have T26:aB H2 H6:=(S3.trans S4).trans S46
  have x2:H2 x=none:=(S3.trans S4).free hx
  have nxh:x∉fph:=λ z=>by
    obtain ⟨o,e⟩:=hh.some x z
    rw [x2] at e;cases e
  have ho6:=ho4.same S46
  have adD:=gE.same S46
  obtain ⟨dxo,_,_,_,_,_,_,_,_,_,hao,_⟩:=ho6.1
  refine ⟨_,rfl,ho,_,_,rfl,hao,rfl,mS,λ u1 hu1=>?_⟩
  have t1:=ai (o:=.tup [.int 999,.int 1]) hu1
  refine ⟨ho,Yl,_,0,.ref u1,(999,1),9,3,3,rfl,ho6.same t1,by lia,hV (bS.of ah),Si (by decide),by decide,⟨by decide,by decide⟩,⟨by decide,by decide⟩,⟨by decide,by decide⟩,λ H7 fp7 D7=>?_⟩
  obtain ⟨wk7,nx7,ai3⟩:=(wk6.same t1).Jt D7 nxo ajm
  obtain ⟨T27,F7⟩:=D7.keep (T26.trans t1) hFo
  have ZN:=(adD.same t1).ts D7.ts
  have YR:=D7.at_
  have tw7:Tw ((tm.m2 n n).eU 0 ((999,1),9,3,3)):=two.i3
  have l7:((tm.m2 n n).eU 0 ((999,1),9,3,3)).rows.length=n:=hn
  generalize (tm.m2 n n).eU 0 ((999,1),9,3,3)=m7 at YR tw7 l7
  obtain ⟨dx7,_,_,_,_,_,_,_,_,_,ha7,_⟩:=YR.1
  refine ⟨_,rfl,ho,_,_,rfl,ha7,rfl,mS,λ u2 W2=>⟨mS,λ u3 hu3=>⟨mS,λ u4 hu4=>?_⟩⟩⟩
  have t2:=ai (o:=.tup [.int 0,.int 1]) W2
  have t3:=ai (o:=.tup [.int 0,.int 1]) hu3
  have t4:=ai (o:=.tup [.int 0,.int 1]) hu4
  have Yw:=(t2.trans t3).trans t4
  have Yc:Ov 12 0 ((0,1):cg):=Tt (by decide) (by decide)
  obtain ⟨_,l7s,l7t,l74,_⟩:=id YR
  refine ⟨ho,fp7,m7,0,.ref u2,.ref u3,.ref u4,(0,1),(0,1),(0,1),rfl,YR.same Yw,by lia,Dn.same (t3.trans t4) _ (hV (bS.of ah)),Dn.same t4 _ (hV (bS.of ah)),hV (bS.of ah),Si (by decide),Si (by decide),Si (by decide),by decide,by decide,tw7.rq (by lia) (by lia) Yc (by decide),λ H8 fp8 D8=>?_⟩
  obtain ⟨wk8,nx8,abI⟩:=(wk7.same Yw).Jt D8 nx7 ai3
  obtain ⟨T28,F8⟩:=D8.keep (T27.trans Yw) F7
  have XN:=(ZN.same Yw).ts D8.ts
  have YB:=D8.at_
  have tw8:=tw7.dE (i:=0) (z:=((0,1),(0,1),(0,1))) (by lia) Yc (by decide) (by decide)
  have l8:(m7.e8 0 ((0,1),(0,1),(0,1))).rows.length=n:=l7
  generalize m7.e8 0 ((0,1),(0,1),(0,1))=m8 at YB tw8 l8
  refine ⟨λ σ' H'=>A4 (aB H2 H') (iJ K Ad.aY Ad.Walk H' x fpw (tm.m2 n n) st 0) (fz K H' q st) (σ'=[some (.ref a),some (.ref p),some (.ref ha),some (.ref ho),some (.ref q),some (.ref x),none,none,none]),?_,?_⟩
  .
   obtain ⟨dx8,_,_,_,_,_,_,_,_,_,ha8,_⟩:=YB.1
   refine ⟨_,rfl,ho,_,_,rfl,ha8,rfl,ho,fp8,m8,rfl,YB,_,_,rfl,rfl,_,rfl,d6 (λ h=>?_) (λ h=>⟨T28,wk8,XN,rfl⟩)⟩
   have n2:1<n:=by rw [l8] at h;lia
   refine ⟨_,rfl,ho,_,_,rfl,ha8,rfl,mS,λ u5 hu5=>?_⟩
   have t5:=ai (o:=.tup [.int 0,.int 1]) hu5
   refine ⟨ho,fp8,m8,0,1,.ref u5,(0,1),rfl,YB.same t5,by lia,by lia,by decide,hV (bS.of ah),Si (by decide),by decide,tw8.lB (by lia) (by lia) (by decide) (by lia) Yc (by decide),λ H9 fp9 D9=>?_⟩
   obtain ⟨wk9,nx9,amU⟩:=(wk8.same t5).Jt D9 nx8 abI
   obtain ⟨YS,F9⟩:=D9.keep (T28.trans t5) F8
   have MU:=(XN.same t5).ts D9.ts
   have ho9:=D9.at_
   have tw9:=tw8.fo (i:=0) (j:=1) (f:=(0,1)) (by decide) Yc (by decide) (by decide)
   have l9:(m8.dH 0 1 (0,1)).rows.length=n:=l8
   generalize m8.dH 0 1 (0,1)=m9 at ho9 tw9 l9
   obtain ⟨dx9,_,_,_,_,_,_,_,_,_,ha9,_⟩:=ho9.1
   refine ⟨_,rfl,ho,_,_,rfl,ha9,rfl,mS,λ u6 hu6=>?_⟩
   have t6:=ai (o:=.tup [.int 1,.int 12]) hu6
   have aiG:eA 100 ((1,12):cg):=⟨show Int.natAbs 1<2 ^ 100 by decide,show Int.natAbs 12<2 ^ 100 by decide,by decide⟩
   refine ⟨ho,fp9,m9,1,0,.ref u6,(1,12),rfl,ho9.same t6,by lia,by lia,by decide,hV (bS.of ah),aiG,by decide,tw9.lB (k:=1) (by lia) (by lia) (by decide) (by lia) (Tt (by decide) (by decide)) (by decide),λ Mc aqp D10=>?_⟩
   obtain ⟨alP,_,_⟩:=(wk9.same t6).Jt D10 nx9 amU
   obtain ⟨Zh,_⟩:=D10.keep (YS.trans t6) F9
   exact ⟨Zh,alP,(MU.same t6).ts D10.ts,rfl⟩
  rintro σ' H9 ⟨YS,wk9,MU,rfl⟩
  refine ⟨_,rfl,5,rfl,58,rfl,a,_,rfl,YS.seq hS2,λ pc hpc=>⟨_,_,rfl,.inl (bg.of ah),λ c ec=>⟨_,_,rfl,rfl,⟨by decide,mT⟩,λ d ed=>⟨_,_,rfl,rfl,λ e ee=>?_⟩⟩⟩⟩
  have hc:c<=63:=by
    have:=ql (ns.map V.int) (some 5) (some 58)
    rw [At] at this
    lia
  have hc0:0<=c:=by lia
  rw [api c (by decide)] at ed
  have t0:=ai (o:=.lst (pR (ns.map V.int) (some 5) (some 58))) hpc
  refine ⟨e,rfl,by lia,by lia,jZ (lo:=0) (n:=e.toNat) (λ i U H'=>aB H2 H'/\(E3 λ q st g=>A4 (iJ K Ad.aY Ad.Walk H' x fpw (tm.m2 n n) st g) (fz K H' q st) (gD (tm.m2 n n) st) (E2 λ (v7 v8:Option V)=>U=[some (.ref a),some (.ref p),some (.ref ha),some (.ref ho),some (.ref q),some (.ref x),some (.int g),v7,v8]))) ⟨YS.trans t0,q,st,0,wk9.same t0,MU.same t0,so,none,none,rfl⟩ ?_ ?_⟩
  .
   rintro i U Mc hi ⟨T10,q1,s1,g,wk,hs1,so1,v7,v8,rfl⟩
   refine zM ?_;intro _ _ _ _ _ _
   have bk:Bd 100 (0+(i:Int)):=bdS 100 (by lia) (by lia)
   refine ⟨_,rfl,_,rfl,_,rfl,_,rfl,_,rfl,_,rfl,_,_,rfl,rfl,⟨3,100,mT,bk,by decide⟩,λ m1 DG=>⟨_,_,rfl,rfl,λ m2 em2=>⟨_,rfl,_,rfl,_,_,rfl,rfl,⟨3,100,mT,bk,by decide⟩,λ m3 em3=>⟨_,_,rfl,rfl,λ m4 em4=>⟨_,rfl,a,_,rfl,T10.seq hS2,λ p2 KY=>?_⟩⟩⟩⟩⟩
   have t4:=ai (o:=.lst (pR (ns.map V.int) (some m2) (some m4))) KY
   have k4:(upd Mc p2 (.lst (pR (ns.map V.int) (some m2) (some m4)))) p2=some (.lst ((JZ ns (some m2) (some m4)).map V.int)):=by rw [← Ed];exact ah
   generalize upd Mc p2 (.lst (pR (ns.map V.int) (some m2) (some m4)))=X2 at t4 k4 ⊢
   generalize JZ ns (some m2) (some m4)=three at k4
   have T11:=T10.trans t4
   have Tx:aB H2 (dU X2 [x]):=λ b o e=>jG (T11 b o e) (λ z=>by rw [List.mem_singleton.mp z,x2] at e;cases e)
   refine ⟨_,rfl,_,rfl,?_⟩
   dsimp only [vD,anW,amN,aji]
   refine Lk (K:=K) (k:=i) (by simp only [aaz];rfl) (hh.same T11) nxh (hT2.same Tx) ok n4 (wk.same t4) (hs1.same t4) so1 (bg.of k4) (by lia) λ r q' s' d H12 b12 w12 adk UN hr=>?_
   have T12:aB H2 H12:=λ b o e=>b12 b o (T11 b o e) (λ z=>by rw [List.mem_singleton.mp z,x2] at e;cases e)
   refine ⟨_,rfl,rfl,_,rfl,?_⟩
   refine d6 (λ z=>nomatch z) (λ _=>?_)
   refine ⟨_,rfl,_,rfl,r,_,_,_,rfl,rfl,.inr (bS.of hr),rfl,_,_,rfl,rfl,λ y ey=>?_⟩
   subst ey
   refine ⟨_,rfl,r,_,_,_,rfl,rfl,.inr (bS.of hr),rfl,?_⟩
   obtain ⟨Ib,hd,qq,Cc,hhw,O6,nw⟩:=id w12
   refine ⟨_,rfl,x,_,_,rfl,Cc,rfl,x,Ib,hd,qq,_,rfl,Cc,_,rfl,?_⟩
   refine Gw O6.dn UN.dn (Sl s') (by decide) ⟨_,rfl,dF (A:=True) ?_⟩
   obtain ⟨pb',pw',xq,eqq,_⟩:=id O6
   refine ⟨_,rfl,x,_,_,rfl,Cc,rfl,x,Ib,hd,qq,_,rfl,Cc,qq,_,_,_,"tuple",rfl,eqq,rfl,rfl,_,rfl,?_⟩
   refine fw (B:=True) ?_
   refine ⟨_,rfl,x,_,_,rfl,Cc,rfl,x,Ib,hd,qq,_,rfl,Cc,_,rfl,rfl,_,rfl,cY rfl ?_⟩
   exact ⟨T12,q',s',g+d,w12,UN,adk,_,_,rfl⟩
  . rintro U Mc ⟨T10,q1,s1,g,wk,hs1,so1,v7,v8,rfl⟩
    obtain ⟨Ib,hd,qq,Cc,_⟩:=id wk
    exact ⟨_,rfl,x,_,_,rfl,Cc,rfl,x,Ib,hd,qq,g,rfl,Cc,_,_,rfl,rfl,k Mc⟩
end
theorem walk {l:W.OpenLaw} {q:Program} {loose:List Str} {XP:(Str->Option Value)->Heap->Prop} {YP:World->Heap->Prop} {d:DefRec} {K:Params->W.Frag} (hn:l.most=some 63) (Ur:d.params.defaults=[]) (SQ:d.name = "law")
   (hY:∀ (w:World) (h:Heap),YP w h->(K w.params).In h)
   (F:∀ (w:World) (mg:Str->Option Value) (h:Heap),(K w.params).In h->h.Ns mainGlobals mg->∃ A,Txt (K w.params) mg A) :
   W.WalkO q loose XP YP l.row.toRowW d [] (λ f vs=>PySem.call f vs) :=
 L2.GZ (k:=13) (x:="_law_script") hn Ur ⟨rfl,by decide,by decide⟩ hY
   (λ w mg fa h KX G OP=>by
     obtain ⟨_,T⟩:=F w mg h KX G
     obtain ⟨f,fd,hm,Fd⟩:=id T.SJ
     rw [SQ] at OP
     have e:=OP.symm.trans hm
     cases e
     exact ⟨fd,Fd.Nw (λ _ _ _ _ _ _ _=>rfl),λ base _ _=>Of Fd T⟩)
end K19
namespace PySem.W.Fast
def tw9663857948406320803:=0
def tw12769370803326845824:=0
def tw11607529726629149697:=0
def tw9053602332849792998:=0
def tw1490625664428256284:=0
def tw8077355605689106583:=0
def tw7382489591440579077:=0
def tw17598301469240891475:=0
def tw3579959254537005458:=0
def tw17372551668869665965:=0
def tw5948782013377624078:=0
def tw7692130014813198626:=0
def tw6616831985313757159:=0
def tw10665220445244353477:=0
def tw17081870074325947962:=0
def tw1819141656968914856:=0
def tw4361240269420695969:=0
def tw2438362367360101938:=0
def tw8490248544214569340:=0
def tw10487825156602813870:=0
def tw5659606843728238407:=0
def tw6039973341426669312:=0
def tw6153072658000025391:=0
def tw17776370356898925471:=0
def tw12655100428939910696:=0
def tw12201938943209357983:=0
def tw3008245734659624158:=0
def tw9401762460897974306:=0
def tw6174237710485727060:=0
def tw15917666311094496447:=0
def tw17275392127388012255:=0
def tw2533023100435027733:=0
def tw15961309869028597752:=0
def tw6637557884849025778:=0
def tw9192826065708477525:=0
def tw10945283465941061641:=0
def tw8188247562488517906:=0
def tw16704938144398047709:=0
def tw12415636469929475426:=0
def tw17290543105376244370:=0
def tw29904528853674662:=0
def tw4750884784631964292:=0
def tw753357487553908590:=0
def tw15627835710446940320:=0
def tw11471092761713967989:=0
def tw17087434972135525172:=0
def tw13095947898384150467:=0
def tw1808093772038977853:=0
def tw5109041829034544841:=0
def tw7155385728848956964:=0
def tw4044041290798953040:=0
def tw1789152946392990749:=0
def tw17872079124026984727:=0
def tw15778314864376234813:=0
def tw3737467469525226510:=0
def tw12848521017643838528:=0
def tw9073302164603382759:=0
def tw5883064942891138482:=0
def tw17961389669526448108:=0
def tw10396903482195451579:=0
def tw15486207725336417193:=0
def tw14334925295042040635:=0
def tw7773069180378584854:=0
def tw4210478752407581973:=0
def tw4558992377935613421:=0
def tw10689337548465636484:=0
def tw15992117253322596327:=0
def tw13012897239763295997:=0
def tw8777069657109531413:=0
def tw17965944415940514409:=0
def tw18114928901872802020:=0
def tw14899317262777926359:=0
def tw4988203090354775406:=0
def tw2748559962832895589:=0
def tw12478538822663062996:=0
def tw12895709081942410344:=0
def tw9017374898679391196:=0
def tw6036268190336319381:=0
def tw13106681601343518897:=0
def tw4303413719618870674:=0
def tw2486634059007925250:=0
def tw16960002280829861877:=0
def tw14299867002452573973:=0
def tw9915797108528835669:=0
def tw15540630298816473442:=0
def tw14415459285286833511:=0
def tw13484308684967003745:=0
def tw15995301706645231141:=0
def tw15748262615427440716:=0
def tw2540603261689066103:=0
def tw700938889017380507:=0
def tw12971690840185987649:=0
def tw7705168300578348746:=0
def tw14562595776866858546:=0
def tw17099653468023314567:=0
def tw4227140416071967104:=0
def tw16562974980717867147:=0
def tw6552557739370586542:=0
def tw10351802908372057433:=0
def tw11843326720848265418:=0
def tw10254888228727754579:=0
def tw5213857555776057388:=0
def tw15548100827080383841:=0
def tw9154526588772444274:=0
def tw13498651913925532214:=0
def tw10590698481739779861:=0
def tw17489575882228950995:=0
def tw11835787865131986301:=0
def tw12363866772374220563:=0
def tw13007056082036274832:=0
def tw5672044602892435366:=0
def tw5212991403654425556:=0
def tw3378508120304234946:=0
def tw17547797879705217166:=0
def tw16984802608402449175:=0
def tw11206794815692552176:=0
def tw6138108342099130164:=0
def tw5918987187908004921:=0
def tw11410117273933584243:=0
def tw17961656867057082056:=0
def tw7435327062962590579:=0
def tw1159908276791462289:=0
def tw10454640396744224080:=0
def tw8635672448013911288:=0
def tw2024067143003940154:=0
def tw11999058732206268151:=0
def tw14408905961615297099:=0
def tw8489697762898227433:=0
def tw13608014370971435606:=0
def tw3893064127020555894:=0
def tw6589755469167957063:=0
def tw13833612682934589718:=0
def tw3666552610907720861:=0
def tw17491608528686537297:=0
def tw14373101178004668324:=0
def tw13943420039932076564:=0
def tw13424159268090479761:=0
def tw11477751199649974219:=0
def tw874777541703120023:=0
def tw108085279867315950:=0
def tw2264053068895604050:=0
def tw2195097419128443856:=0
def tw16157876866377843348:=0
def tw8198400432128903293:=0
def tw3089126361377066977:=0
def tw3420776761252070790:=0
def tw9043687499584354387:=0
def tw8565408158804117697:=0
def tw4694477719263841913:=0
def tw12278168346179434897:=0
def tw8702184275217853296:=0
def tw10425633793910495931:=0
def tw18338730336050923416:=0
def tw8603791700301403989:=0
def tw3993507797721835694:=0
def tw16499785222586787127:=0
def tw1007458072268624203:=0
def tw79730746030446017:=0
def tw963513305819803468:=0
def tw5539748821945611095:=0
def tw14959552692731816673:=0
def tw13325216694734658853:=0
def tw11387318586143594373:=0
def tw10491759587860132477:=0
def tw16845829060283611717:=0
def tw544406309997021423:=0
def tw6040267310667856997:=0
def tw9767575956778608435:=0
def tw12154181039795658187:=0
def tw12415971617338688664:=0
def tw1568314760409406458:=0
def tw8891004546161522684:=0
def tw9530960724477814104:=0
def tw4814279543165996914:=0
def tw18407258538378119136:=0
def tw16637341499249054078:=0
def tw16867211364921160609:=0
def tw13603865417767219274:=0
def tw12088735113309829610:=0
def tw5453062043189547828:=0
def tw3412835308002159061:=0
def tw9050823831514755973:=0
def tw11902554949545423200:=0
def tw10680104323464126791:=0
def tw1400256871747969737:=0
def tw336444987769693333:=0
def tw4286207474775191868:=0
def tw1422771175173110163:=0
def tw10505696219842441784:=0
def tw7376549642808544156:=0
def tw16873534313492916759:=0
def tw10201825255498701744:=0
def tw6332249482818514915:=0
def tw17625805821699218102:=0
def tw14717577452347791547:=0
def tw13926692601005602189:=0
def tw11006350966009546554:=0
def tw1068163622432600320:=0
def tw3327831612333514923:=0
def tw1540058858424547:=0
def tw4760857376203319216:=0
def tw13078734526139406477:=0
def tw13642020928229839350:=0
def tw7159938246960615314:=0
def tw18352343523300732984:=0
def tw15469405157078578002:=0
def tw14939644703865466129:=0
def tw12945526156581084677:=0
def tw2816066918996852087:=0
def tw11690588317263637129:=0
def tw15142040944919760869:=0
def tw13802065385990151268:=0
def tw8968188049072340678:=0
def tw7680917783081866164:=0
def tw8759850502932051808:=0
def tw15155690817452132186:=0
def tw13460555095132845060:=0
def tw12923175773851968525:=0
def tw18432005890543041977:=0
def tw11465588788256899163:=0
def tw7244096560606641173:=0
def tw3928565430188948982:=0
def tw16534160187502814482:=0
def tw17871812214848686704:=0
def tw10878152225130654284:=0
def tw14747880909178699102:=0
def tw17383567926603104257:=0
def tw2469547954745083937:=0
def tw645826960359920384:=0
def tw15524530336125721299:=0
def tw17970891010907159355:=0
def tw8199360316570934691:=0
def tw14026264497791431898:=0
def tw10747349758271376694:=0
def tw5276104664989773681:=0
def tw8143957173059651437:=0
def tw14228586551239676160:=0
end PySem.W.Fast
open PySem PySem.W PyProof.Rows
set_option maxRecDepth 100000 in
set_option maxHeartbeats 0 in
theorem PySem.Challenge.cw_stoke_k19_walks_gone_holds : PySem.Challenge.rw_stoke_k19_walks_gone.Holds := by
 w_on; o_law; k_head; (case hw => w_witness2)
 k_fill
 refine K19.walk (l:=PySem.Challenge.rw_stoke_k19_walks_gone) rfl rfl rfl (fun w h Y => PySem.W.kIn_of Y) ?F
 case F =>
   intro w mg h KX G
   refine' ⟨_,K19.txt_mk KX G ?_ ?_ ?_ ?_ ?_ ?_ ?_ ?_ ?_ ?_ ?_ ?_ ?_ ?_ ?_ ?_ ?_ ?_ ?_ ?_ ?_ ?_ ?_ ?_ ?_ ?_ ?_ ?_ ?_ ?_ ?_ ?_ ?_ ?_ ?_ ?_ ?_ ?_ ?_ ?_ ?_ ?_ ?_ ?_ ?_ ?_ ?_ ?_ ?_ ?_ ?_ ?_ ?_ ?_ ?_ ?_ ?_ ?_ ?_ ?_ ?_ ?_ ?_ ?_ ?_ ?_ ?_ ?_ ?_ ?_ ?_ ?_ ?_ ?_ ?_ ?_ ?_ ?_ ?_ ?_ ?_ ?_ ?_ ?_ ?_ ?_ ?_ ?_ ?_ ?_ ?_ ?_ ?_ ?_ ?_ ?_ ?_ ?_ ?_ ?_ ?_ ?_ ?_ ?_ ?_ ?_ ?_ ?_ ?_ ?_ ?_ ?_ ?_ ?_ ?_ ?_ ?_ ?_ ?_ ?_ ?_ ?_ ?_ ?_ ?_ ?_ ?_ ?_ ?_ ?_ ?_ ?_ ?_ ?_ ?_ ?_ ?_ ?_ ?_ ?_ ?_ ?_ ?_ ?_ ?_ ?_ ?_ ?_ ?_ ?_ ?_ ?_ ?_ ?_ ?_ ?_ ?_ ?_ ?_ ?_ ?_ ?_ ?_ ?_ ?_ ?_ ?_ ?_ ?_ ?_ ?_ ?_ ?_ ?_ ?_ ?_ ?_ ?_ ?_ ?_ ?_ ?_ ?_ ?_ ?_ ?_ ?_ ?_ ?_ ?_ ?_ ?_ ?_ ?_ ?_ ?_ ?_ ?_ ?_ ?_ ?_ ?_ ?_ ?_ ?_ ?_ ?_ ?_ ?_ ?_ ?_ ?_ ?_ ?_ ?_ ?_ ?_ ?_ ?_ ?_ ?_ ?_ ?_ ?_ ?_ ?_ ?_ ?_ ?_ ?_ ?_ ?_ ?_ ?_ ?_ ?_ ?_ ?_ ?_ ?_ ?_ ?_ ?_ ?_ ?_ ?_ ?_ ?_ ?_ ?_ ?_ ?_ ?_ ?_ ?_ ?_ ?_ ?_ ?_ ?_ ?_ ?_ ?_ ?_ ?_ ?_ ?_ ?_ ?_ ?_ ?_ ?_ ?_ ?_ ?_ ?_ ?_ ?_ ?_ ?_ ?_ ?_ ?_ ?_ ?_ ?_ ?_ ?_ ?_ ?_ ?_ ?_ ?_ ?_ ?_ ?_ ?_ ?_ ?_ ?_ ?_ ?_ ?_ ?_ ?_ ?_ ?_ ?_ ?_ ?_ ?_ ?_ ?_ ?_ ?_ ?_ ?_ ?_ ?_ ?_ ?_ ?_ ?_ ?_ ?_ ?_ ?_ ?_ ?_ ?_ ?_ ?_ ?_ ?_ ?_ ?_ ?_ ?_ ?_ ?_ ?_ ?_ ?_ ?_ ?_ ?_ ?_ ?_ ?_ ?_ ?_ ?_ ?_ ?_ ?_ ?_ ?_ ?_ ?_ ?_ ?_ ?_ ?_ ?_ ?_ ?_ ?_ ?_ ?_ ?_ ?_ ?_ ?_ ?_ ?_ ?_ ?_ ?_ ?_ ?_ ?_ ?_ ?_ ?_ ?_ ?_ ?_ ?_ ?_ ?_ ?_ ?_ ?_ ?_ ?_ ?_ ?_ ?_ ?_ ?_ ?_ ?_ ?_ ?_ ?_ ?_ ?_ ?_ ?_ ?_ ?_ ?_ ?_ ?_ ?_ ?_ ?_ ?_ ?_ ?_ ?_ ?_ ?_ ?_ ?_ ?_ ?_ ?_ ?_ ?_ ?_ ?_ ?_ ?_ ?_ ?_ ?_ ?_ ?_ ?_ ?_ ?_⟩
   all_goals try ((try delta K19.kq_); (try delta K19.kc_); (try delta K19.kf_); (try delta K19.kn_); (try delta K19.kg_); first | k_is | k_exc | kernel_rfl)
