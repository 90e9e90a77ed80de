import PyProof.Rows.All
import Wide.All
import OpenK.AllK
import Wide.FinOn
import Lean
import PyProof.EqAt
import PyProof.EqKinds
import PyProof.TupleCall
import PySem.Challenge.RW_stoke_k74_keepers_apart
set_option Elab.async false
set_option linter.all false
set_option maxRecDepth 100000
def wF:=@PySem.wpAny_bind
def Wz:=@List.getElem?_eq_getElem
def aad:=@List.length_map
def aao:=@PySem.Heap.get?_push_of_some
def aau:=@Nat.le_refl
def aav:=@Nat.lt_of_lt_of_le
def aaJ:=@PySem.wpAny_pure
def aaK:=@PySem.Heap.lt_size
def aaN:=@List.mem_cons_of_mem
def aaP:=@List.length_take
def aa4:=@PySem.Heap.get?_push_size
def abb:=@Option.some.inj
def abJ:=@List.size_toArray
def abS:=@Bool.false_ne_true
def acl:=@Nat.ne_of_lt
def acn:=@List.not_mem_nil
def acC:=@List.length_append
def acH:=@PySem.mem_of_lookup
def acO:=@List.mem_append_right
def acT:=@List.map_append
def adg:=@List.take_length
def adu:=@List.mem_cons_self
def adA:=@PySem.wpAny_mono
def adH:=@if_neg
def adO:=@List.getD_eq_getElem?_getD
def aei:=@List.getElem?_map
def aem:=@PySem.PassesOwn.never
def aew:=@List.getElem?_append_right
def aeA:=@if_pos
def aeG:=@PySem.W.mg_of
def ae1:=@List.mem_cons
def ae8:=@List.eq_nil_of_length_eq_zero
def afd:=@Nat.pow_le_pow_right
def afi:=@Nat.le_trans
def afB:=@List.mem_of_getElem?
def afL:=@Nat.zero_le
def afS:=@List.map_cons
def af6:=@decide_eq_false
def af8:=@Nat.le_of_ble_eq_true
def aga:=@Int.eq_ofNat_of_zero_le
def agb:=@List.append_nil
def agd:=@Int.zero_add
def agf:=@Nat.mod_eq_of_lt
def agx:=@Int.fdiv_eq_ediv_of_nonneg
def agF:=@PySem.wpAny_Call_Name_kw
def agM:=@PySem.W.mg_none_of
def ahc:=@Nat.lt_irrefl
def ahe:=@List.take_succ
def ahg:=@List.getElem?_append_left
def ahw:=@Nat.le_of_lt
def ahD:=@List.find?_cons
def ahN:=@List.lookup_cons
def ahU:=@List.getElem_mem
def aik:=@List.mem_append_left
def aiI:=@List.replicate_succ
def aiL:=@PySem.codeAny_mono
def aiV:=@PySem.wpAny_truthy_bool
def ajp:=@Bool.and_eq_true
def ajv:=@decide_eq_true
def ajE:=@or_false
def ajK:=@PySem.wpAny_newObj_type
def ajQ:=@Nat.le_add_right
def aj2:=@List.length_cons
def aj3:=@PySem.wpAny_holding
def akg:=@PyProof.Rows.callWith_type1
def aki:=@List.length_replicate
def akr:=@PySem.wpAny_execs_nil
def akA:=@PySem.F.slot_tuple_iterator_next
def akR:=@PySem.W.kia_one
def ak9:=@PySem.F.plainAttrs_list
def alb:=@Nat.lt_of_le_of_lt
def ali:=@List.flatten_cons
def alp:=@Int.toNat_natCast
def als:=@PySem.wpAny_callSpecial?_slot
def alC:=@PySem.wpAny_call
def alD:=@PySem.wpAny_Name
def alK:=@Ne.symm
def alL:=@Nat.le_succ
def alM:=@PySem.Heap.get?_update_self
def alN:=@Bool.eq_iff_iff
def alO:=@PySem.wpAny_execs_cons
def alP:=@PySem.wpAny_loadName_local
def alR:=@congrArg
def alS:=@Nat.sub_self
def alT:=@Nat.mul_comm
def alU:=@Int.natCast_nonneg
def alV:=@Bool.false_eq_true
def alW:=@BitVec.toNat_ofNat
def alX:=@if_true
def alY:=@PySem.wpAny_passesOwn
def alZ:=@PySem.wpAny_loadName_cell
def al0:=@PySem.wpAny_field
def al1:=@PySem.W.callWith_K
def al2:=@Nat.lt_succ_self
def al3:=@PySem.W.looks_findIn
def al5:=@PySem.Heap.size_push
def al6:=@PySem.wpAny_dictEntries
def al7:=@PySem.W.Looks.ld
def al8:=@List.of_mem_zip
def al9:=@List.length_filter_le
def ama:=@PySem.AutoSeq1.wpAny_loadPart'
def amb:=@if_false
def amc:=@PySem.sizeLine_eq
def amd:=@Nat.div_lt_of_lt_mul
def amf:=@List.getElem?_set_ne
def amg:=@PySem.wpAny_call_entry
def amh:=@List.nodup_nil
def ami:=@PyProof.Rows.slot_tuple_getitem
def amj:=@List.filterMap_cons
def aml:=@PySem.Heap.get?_update_other
def amm:=@PySem.Calls.callWith_builtin
def amn:=@Array.length_toList
def amo:=@PySem.wpAny_specialOf
def amp:=@List.filter_append
def amq:=@Bool.not_true
def amr:=@Nat.testBit_eq_decide_div_mod_eq
def ams:=@PySem.codeAny_call_builtin
def amt:=@Nat.mod_lt
def amv:=@PySem.Heap.get?_none_of_le
def amw:=@List.map_nil
def amx:=@List.map_map
def amy:=@PySem.wpAny_of_eq
def amz:=@PySem.wpAny_loadName_free
def amA:=@Nat.zero_testBit
def amB:=@Nat.succ_le_succ
def amC:=@List.cons_ne_nil
def amD:=@PySem.Heap.SameBut.update
def amE:=@PySem.wpAny_pyIter_tuple
def amF:=@PySem.Paired.length
def amG:=@List.forIn_cons
def amH:=@PySem.F.excBase_ValueError
def amI:=@Int.fmod_eq_emod_of_nonneg
def amJ:=@PyProof.Rows.callWith_def
def amK:=@Nat.testBit_or
def amL:=@List.getElem?_eq_none_iff
def amM:=@List.drop_eq_getElem_cons
def amO:=@Bool.not_false
def amP:=@PySem.wpAny_typeOf
def amQ:=@PySem.F.type_list_append
def amR:=@PySem.F.slot_list_append
def amS:=@PySem.F.slot_dict_values
def amU:=@PyProof.noPylong_of_log2
def amV:=@PySem.W.cellsFrom_some
def amX:=@PySem.F.type_list_clear
def amY:=@PySem.F.slot_list_clear
def amZ:=@Nat.add_sub_cancel_left
def am0:=@Nat.add_assoc
def am1:=@List.sum_cons
def am2:=@List.map_take
def am3:=@List.getElem?_replicate
def am4:=@Nat.div_div_eq_div_mul
def am5:=@List.getElem?_set_self
def am6:=@PySem.F.args_tuple_iterator_next_1
def am7:=@PySem.W.methodCall_KW
def am8:=@Nat.pow_succ
def am9:=@Nat.ne_of_gt
def ana:=@Nat.add_comm
def anb:=@PySem.F.entry_tuple_iterator_next
def anc:=@PySem.wpAny_newFunctionEnv_cells
def ane:=@PySem.Calls.Name_function_global
def anf:=@PySem.wpAny_seqItems
def ang:=@PySem.evalArgs_none
def anh:=@Nat.testBit_two_pow
def ani:=@Nat.or_zero
def anj:=@Nat.mul_le_mul_left
def ank:=@List.getElem_of_mem
def anl:=@List.flatMap_append
def anm:=@decide_eq_true_iff
def ann:=@PySem.call_meets
def ano:=@Array.forIn_toList
def anp:=@Array.append_assoc
namespace L2
open PySem PySem.Spec PyProof.Rows
variable {C dx it:Addr} {H:Hp} {Q:VK} {X:Cx} {ch fp:List Addr} {es:List Expr} {g:TG} {j t':Nat} {l tg:Expr} {lo:Int} {pins:List (Addr×Obj)} {pos pos':Pos} {qual:Str} {s':Shared} {tb:TS} {te tl:TE} {u:Value} {us:List Value} {v:V} {xs:List V} {σ:St}
abbrev Key:=Sum Int Str
def oP:Key->Value->Bool
 | .inl k,v=>Value.isInt k v
 | .inr x,v=>Value.isStrOf x v
def ahL (w:World):Key->Int
 | .inl k=>hashInt k
 | .inr x=>hashStr w x
theorem cb:∀ {k:Key} {v:Value},oP k v=true->(∃ i t,k=Sum.inl i/\v=Value.int i t)∨(∃ x t,k=Sum.inr x/\v=Value.str x t)
 | .inl i,v,h=>by
   obtain ⟨t,e⟩:=Value.isInt_shape (k:=i) (v:=v) h
   exact .inl ⟨i,t,rfl,e⟩
 | .inr x,v,h=>by
   obtain ⟨t,e⟩:=Value.isStrOf_shape (x:=x) (v:=v) h
   exact .inr ⟨x,t,rfl,e⟩
theorem zO (i:Int) (t:Tok):oP (.inl i) (.int i t)=true:=by simp [oP,Value.isInt]
theorem zW (x:Str) (t:Tok):oP (.inr x) (.str x t)=true:=by simp [oP,Value.isStrOf]
theorem IV (a b:Int):decide ((Sum.inl a:Key)=Sum.inl b)=(a == b):=by
 by_cases e:a=b
 . subst e;simp
 . have h:¬ (Sum.inl a:Key)=Sum.inl b:=λ q=>e (Sum.inl.inj q)
   rw [af6 h]
   exact (beq_eq_false_iff_ne.mpr e).symm
theorem JS (a b:Str):decide ((Sum.inr a:Key)=Sum.inr b)=decide (a=b):=by
 by_cases e:a=b
 . subst e;simp
 . have h:¬ (Sum.inr a:Key)=Sum.inr b:=λ q=>e (Sum.inr.inj q)
   rw [af6 h,af6 e]
theorem Ik (a:Int) (b:Str):decide ((Sum.inl a:Key)=Sum.inr b)=false:=af6 (λ q=>nomatch q)
theorem Jq (a:Str) (b:Int):decide ((Sum.inr a:Key)=Sum.inl b)=false:=af6 (λ q=>nomatch q)
def cu (prog:Program) (w:World):PySem.KeyKind prog w Key where
 is:=oP
 hash:=ahL w
 inj:=λ v a b ha hb=>by
   rcases cb ha with ⟨i,t,rfl,rfl⟩|⟨x,t,rfl,rfl⟩
   . rcases cb hb with ⟨j,u,rfl,e⟩|⟨y,u,rfl,e⟩
     . injection e with e1 _;rw [e1]
     . exact nomatch e
   . rcases cb hb with ⟨j,u,rfl,e⟩|⟨y,u,rfl,e⟩
     . exact nomatch e
     . injection e with e1 _;rw [e1]
 byValue:=λ k v h=>by
   rcases cb h with ⟨i,t,rfl,rfl⟩|⟨x,t,rfl,rfl⟩<;>rfl
 pyHash:=λ hv h=>by
   rcases cb hv with ⟨i,t,rfl,rfl⟩|⟨x,t,rfl,rfl⟩
   . exact wpAny_pyHash_int h
   . exact wpAny_pyHash_str h
 eqBool:=λ hu hv h=>by
   rcases cb hu with ⟨i,t,rfl,rfl⟩|⟨x,t,rfl,rfl⟩
   . rcases cb hv with ⟨j,u,rfl,rfl⟩|⟨y,u,rfl,rfl⟩
     . rw [IV] at h;exact wpAny_eqBool_int h
     . rw [Ik] at h;exact SeqAt.EqAt.int_str i t y u _ _ _ _ h
   . rcases cb hv with ⟨j,u,rfl,rfl⟩|⟨y,u,rfl,rfl⟩
     . rw [Jq] at h;exact SeqAt.EqAt.str_int x t j u _ _ _ _ h
     . rw [JS] at h;exact wpAny_eqBool_str h
 «strs»:=λ k x t v h=>by
   rcases cb h with ⟨i,u,rfl,e⟩|⟨y,u,rfl,e⟩
   . exact nomatch e
   . injection e with e1 _
     subst e1
     cases v<;>rfl
theorem ur (prog:Program) (w:World) (i:Int) (t:Tok):(cu prog w).is (.inl i) (.int i t)=true:=zO i t
theorem vw (prog:Program) (w:World) (x:Str) (t:Tok):(cu prog w).is (.inr x) (.str x t)=true:=zW x t
inductive V where
 | dC|bl (b:Bool)|int (i:Int)|str (x:Str)|BP (b:Array UInt8)|HA (b:UInt64)|ref (a:Addr)|ty (n:String)
 deriving DecidableEq
def RelV:V->Value->Prop
 | .dC,u=>u=Value.none
 | .bl b,u=>u=Value.bool b
 | .int i,u=>∃ t,u=Value.int i t
 | .str x,u=>∃ t,u=Value.str x t
 | .BP b,u=>∃ t,u=Value.bytes b t
 | .HA b,u=>∃ t,u=Value.float b t
 | .ref a,u=>u=Value.ref a
 | .ty n,u=>u=Value.type n
abbrev Vals:List V->List Value->Prop:=Paired RelV
theorem Vals.length (r:Vals xs us):xs.length=us.length:=amF r
theorem Vals.get:∀ {xs:List V} {us:List Value} {i:Nat} {x:V},Vals xs us->xs[i]?=some x->∃ u,us[i]?=some u/\RelV x u
 | _,_,_,_,.nil,e=>by simp at e
 | _,_,0,_,.cons r _,e=>by simp at e;subst e;exact ⟨_,rfl,r⟩
 | _,_,i+1,x,.cons _ t,e=>by
   obtain ⟨u,h1,h2⟩:=Vals.get (i:=i) (x:=x) t (by simpa using e)
   exact ⟨u,by simpa using h1,h2⟩
theorem Vals.set {x:V} (r:RelV x u):∀ {xs:List V} {us:List Value} (i:Nat),Vals xs us->Vals (xs.set i x) (us.set i u)
 | _,_,_,.nil => .nil
 | _,_,0,.cons _ t => .cons r t
 | _,_,i+1,.cons q t => .cons q (Vals.set r i t)
theorem Vals.append:∀ {xs ys:List V} {us ws:List Value},Vals xs us->Vals ys ws->Vals (xs++ys) (us++ws)
 | _,_,_,_,.nil,s=>s
 | _,_,_,_,.cons r t,s => .cons r (Vals.append t s)
theorem Vals.take:∀ {xs:List V} {us:List Value} (n:Nat),Vals xs us->Vals (xs.take n) (us.take n)
 | _,_,0,_ => .nil
 | _,_,_+1,.nil => .nil
 | _,_,n+1,.cons r t => .cons r (Vals.take n t)
theorem Vals.drop:∀ {xs:List V} {us:List Value} (n:Nat),Vals xs us->Vals (xs.drop n) (us.drop n)
 | _,_,0,r=>r
 | _,_,_+1,.nil => .nil
 | _,_,n+1,.cons _ t=>Vals.drop n t
def iG:Option V->Option Value->Prop
 | some v,some u=>RelV v u
 | none,none=>True
 | _,_=>False
def KV {κ:Type}:List (κ×V)->List (κ×Value)->Prop:=Paired λ (p:κ×V) (q:κ×Value)=>p.1=q.1/\RelV p.2 q.2
def kV:Key->V
 | .inl i => .int i
 | .inr x => .str x
inductive HO where
 | lst (xs:List V)
 | tup (xs:List V)
 | dK (kvs:List (Key×V))|dT (kvs:List (List Key×V))
 | set (S:Int->Bool) (n:Nat)
 | ins (C dx:Addr) (fs:List (Str×V))
 | own (x:Addr)
 | xd (fs:List (Str×V))
 | met (f x:Addr)
 | Wm (lo hi:Int)
 | nK (o:Obj) (u:HO)
 | jX (ps:Array Value)
 | ext (φ:Heap->Prop)
abbrev Hp:=Addr->Option HO
def upd (H:Hp) (a:Addr) (o:HO):Hp:=λ b=>if b=a then some o else H b
theorem ac {a:Addr} {o:HO}:upd H a o a=some o:=by unfold upd;rw [aeA rfl]
theorem aq {a b:Addr} {o:HO} (h:b≠a):upd H a o b=H b:=by unfold upd;rw [adH h]
theorem D0 {a:Addr} {o u:HO}:upd (upd H a o) a u=upd H a u:=by
 funext b;unfold upd;split<;>rfl
theorem DG {a b:Addr} {o u:HO} (h:H a=some o) (h':H b=some u) (d:o≠u):a≠b:=by
 intro e;subst e;rw [h] at h';exact d (abb h')
theorem aB {a b:Addr} {o:HO} (h:H a=some o) (h':H b=none):a≠b:=by
 intro e;subst e;rw [h] at h';cases h'
section
variable (P:Program) (w:World)
def bJ (H:Hp) (h:Heap) (a:Addr):HO->Prop
 | .lst xs=>xs.length<=sizeLine/\∃ (aR:List Value) (n:Nat),Vals xs aR/\h.get? a=some { cls:=.type "list",data:=.seq aR.toArray n }
 | .tup xs=>xs.length<=sizeLine/\∃ aR:List Value,Vals xs aR/\IsTup h a aR.toArray
 | .dK kvs=>kvs.length<=sizeLine/\(a == sysModules)=false/\∃ vs,KV kvs vs/\h.DictOf (cu P w) a vs
 | .dT kvs=>kvs.length<=sizeLine/\(a == sysModules)=false/\∃ xs:List (List Key×Addr×Value),
     Paired (λ (p:List Key×V) (q:List Key×Addr×Value)=>p.1=q.1/\H q.2.1=some (.tup (p.1.map kV))/\RelV p.2 q.2.2) kvs xs /\
     ∃ o es ep,h.get? a=some o/\o.ExactDict/\o.data = .dict es ep/\es.toList=xs.map (entryOfKey (tupleKind (cu P w)))/\(xs.map (·.1)).Nodup
 | .set S n=>h.SetOf (intKind P w) a S n
 | .ins C dx fs=>H dx=some (.own a)/\fs.length<=1000/\dx≠a/\h.get? a=some (W.instObj C dx) /\
     ∃ mA,h.Ns1 dx mA/\(∀ f,iG (fs.lookup f) (mA f))/\PySem.Within mA (fs.map (·.1))
 | .own _=>∃ o,h.get? a=some o
 | .xd fs=>∃ mA,h.Ns1 a mA/\∀ f,iG (fs.lookup f) (mA f)
 | .Wm lo hi=>∃ t u v,h.get? a=some { cls:=.type "range",data:=.fields #[.int lo t,.int hi u,.int 1 v]}
 | .nK o u=>h.get? a=some o/\bJ H h a u
 | .jX ps=>h.get? a=some { cls:=.none,data:=.fields ps }
 | .met f x=>h.get? a=some (W.methodObj (.ref f) (.ref x))
 | .ext φ=>φ h/\(∃ o,h.get? a=some o)/\∀ h1 h2:Heap,φ h1->(∀ o,h1.get? a=some o->h2.get? a=some o)->φ h2
def g8 (H:Hp) (h:Heap):Prop:=∀ a o,H a=some o->bJ P w H h a o
end
section
variable {P:Program} {w:World} {H H':Hp} {h h':Heap} {a:Addr} {o:HO}
theorem bJ.lt (x:bJ P w H h a o):a<h.objs.size:=by
 cases o with
 | lst xs=>obtain ⟨_,_,_,_,e⟩:=x;exact aaK e
 | tup xs=>obtain ⟨_,_,_,p⟩:=x;exact p.lt
 | dK kvs=>obtain ⟨_,_,_,_,o,_,_,e,_⟩:=x;exact aaK e
 | dT kvs=>obtain ⟨_,_,_,_,o,_,_,e,_⟩:=x;exact aaK e
 | set S n=>obtain ⟨o,_,_,_,e,_⟩:=x;exact aaK e
 | ins C dx fs=>obtain ⟨_,_,_,e,_⟩:=x;exact aaK e
 | own y=>obtain ⟨_,e⟩:=x;exact aaK e
 | xd fs=>obtain ⟨_,⟨_,_,_,e,_⟩,_⟩:=x;exact aaK e
 | Wm lo hi=>obtain ⟨_,_,_,e⟩:=x;exact aaK e
 | nK ob u=>obtain ⟨e,_⟩:=x;exact aaK e
 | jX ps=>exact aaK (show h.get? a=some _ from x)
 | met f y=>exact aaK (show h.get? a=some _ from x)
 | ext φ=>obtain ⟨_,⟨_,e⟩,_⟩:=x;exact aaK e
theorem Paired.Jw {α β:Type} {F G:α->β->Prop}:∀ {l₁:List α} {l₂:List β},Paired F l₁ l₂->(∀ a b,F a b->G a b)->Paired G l₁ l₂
 | _,_,.nil,_ => .nil
 | _,_,.cons r t,f => .cons (f _ _ r) (Paired.Jw t f)
theorem bJ.iK (x:bJ P w H h a o) (k:∀ b u,(b=a∨H b=some (.own a))->h.get? b=some u->h'.get? b=some u) (ho:∀ b,H b=some (.own a)->H' b=some (.own a)) (ht:∀ b xs,H b=some (.tup xs)->H' b=some (.tup xs)):bJ P w H' h' a o:=by
 induction o with
 | lst xs=>obtain ⟨z,aR,n,r,e⟩:=x;exact ⟨z,aR,n,r,k _ _ (.inl rfl) e⟩
 | tup xs=>obtain ⟨z,aR,r,ob,e,c⟩:=x;exact ⟨z,aR,r,ob,k _ _ (.inl rfl) e,c⟩
 | dK kvs=>obtain ⟨z,y,vs,r,ob,es,ep,e,c⟩:=x;exact ⟨z,y,vs,r,ob,es,ep,k _ _ (.inl rfl) e,c⟩
 | dT kvs =>
   obtain ⟨z,y,xs,r,ob,es,ep,e,c⟩:=x
   exact ⟨z,y,xs,Paired.Jw r λ p q z=>⟨z.1,ht _ _ z.2.1,z.2.2⟩,ob,es,ep,k _ _ (.inl rfl) e,c⟩
 | set S n=>obtain ⟨ob,es,ep,t,e,c⟩:=x;exact ⟨ob,es,ep,t,k _ _ (.inl rfl) e,c⟩
 | ins C dx fs =>
   obtain ⟨d,z,ne,e,mA,⟨od,es,ep,e2,c⟩,r⟩:=x
   exact ⟨ho _ d,z,ne,k _ _ (.inl rfl) e,mA,⟨od,es,ep,k _ _ (.inr d) e2,c⟩,r⟩
 | own y=>obtain ⟨ob,e⟩:=x;exact ⟨ob,k _ _ (.inl rfl) e⟩
 | xd fs=>obtain ⟨mA,⟨od,es,ep,e,c⟩,r⟩:=x;exact ⟨mA,⟨od,es,ep,k _ _ (.inl rfl) e,c⟩,r⟩
 | Wm lo hi=>obtain ⟨t,u,v,e⟩:=x;exact ⟨t,u,v,k _ _ (.inl rfl) e⟩
 | nK ob u ih=>obtain ⟨e,q⟩:=x;exact ⟨k _ _ (.inl rfl) e,ih q⟩
 | jX ps =>
   have e:h.get? a=some { cls:=.none,data:=.fields ps }:=x
   show h'.get? a=some { cls:=.none,data:=.fields ps }
   exact k a _ (.inl rfl) e
 | met f y =>
   have e:h.get? a=some (W.methodObj (.ref f) (.ref y)):=x
   show h'.get? a=some (W.methodObj (.ref f) (.ref y))
   exact k a _ (.inl rfl) e
 | ext φ=>obtain ⟨p,⟨o,e⟩,st⟩:=x;exact ⟨st _ _ p λ o q=>k _ _ (.inl rfl) q,⟨o,k _ _ (.inl rfl) e⟩,st⟩
theorem g8.lt (x:g8 P w H h) (e:H a=some o):a<h.objs.size:=(x a o e).lt
theorem g8.fresh (x:g8 P w H h) (e:h.objs.size<=a):H a=none:=by
 cases q:H a with
 | none=>rfl
 | some u=>exact absurd (aav (x.lt q) e) (ahc _)
theorem g8.kept (x:g8 P w H h) (k:∀ b u,h.get? b=some u->h'.get? b=some u):g8 P w H h':=λ a o e =>
 (x a o e).iK (λ b u _ q=>k b u q) (λ _ q=>q) λ _ _ q=>q
theorem g8.laid (x:g8 P w H h) (k:∀ b u,h.get? b=some u->h'.get? b=some u) (hp:h.objs.size<=a) (new:bJ P w (upd H a o) h' a o):g8 P w (upd H a o) h':=λ b u e=>by
 have hn:=x.fresh hp
 by_cases hb:b=a
 . subst hb;rw [ac] at e;cases e;exact new
 . rw [aq hb] at e
   exact (x b u e).iK (λ c v _ q=>k c v q) (λ c q=>by rw [aq (aB q hn)];exact q) λ c xs q=>by rw [aq (aB q hn)];exact q
end
def Rd (H:Hp) (a:Addr) (u:HO):Prop:=H a=some u∨∃ o,H a=some (.nK o u)
theorem Rd.ok {P:Program} {w:World} {h:Heap} {a:Addr} {u:HO} (r:Rd H a u) (x:g8 P w H h):bJ P w H h a u:=by
 rcases r with r|⟨o,r⟩
 . exact x a u r
 . obtain ⟨_,q⟩:=x a _ r
   exact q
def NB:Option HO->Prop
 | some (.lst _)=>True
 | some (.dK _)=>True
 | some (.dT _)=>True
 | some (.set _ _)=>True
 | some (.ins _ _ _)=>True
 | some (.ext _)=>True
 | _=>False
section
variable {P:Program} {w:World} {H:Hp} {h h':Heap} {x e:Addr} {o':HO}
theorem g8.write (ok:g8 P w H h) (mu:NB (H x)) (he:e=x∨H e=some (.own x)) (k:∀ b u,b≠e->h.get? b=some u->h'.get? b=some u) (xP:∃ u,h'.get? e=some u) (new:bJ P w (upd H x o') h' x o'):g8 P w (upd H x o') h':=λ b u q=>by
 have KY:∀ c y,H c=some (.own y)->c≠x:=λ c y r z=>by subst z;rw [r] at mu;exact mu
 have acu:∀ c xs,H c=some (.tup xs)->c≠x:=λ c xs r z=>by subst z;rw [r] at mu;exact mu
 by_cases hb:b=x
 . subst hb;rw [ac] at q;cases q;exact new
 .
  rw [aq hb] at q
  by_cases IY:b=e
  .
   have q':H b=some (.own x):=by
     rcases he with z|z
     . exact absurd (IY.trans z) hb
     . rw [IY];exact z
   rw [q] at q';cases q'
   obtain ⟨v,hv⟩:=xP
   exact ⟨v,by rw [IY];exact hv⟩
  .
   refine (ok b u q).iK (λ c v hc r=>k c v ?_ r) (λ c r=>by rw [aq (KY c b r)];exact r) λ c xs r=>by rw [aq (acu c xs r)];exact r
   rcases hc with rfl|hc
   . exact IY
   . rintro rfl
     rcases he with z|z
     . exact KY c b hc z
     . rw [hc] at z;cases z;exact hb rfl
end
structure Un (fs ex:List Addr) (H H':Hp) (h h':Heap):Prop where
 keep:∀ b o,h.get? b=some o->H b=none->b∉fs->b∉ex->h'.get? b=some o
 slot:∀ b o,h.get? b=some o->H b=none->b∈fs->b∉ex->∃ sl,h'.get? b=some { o with slots:=sl }
 free:∀ b o,h.get? b=some o->H b=none->b∉ex->H' b=none
 there:∀ b o,h.get? b=some o->b∉ex->∃ o',h'.get? b=some o'
 jN:∀ b xs,H b=some (.tup xs)->H' b=some (.tup xs)
 iJ:∀ b o u,H b=some (.nK o u)->H' b=some (.nK o u)
 i4:∀ b ps,H b=some (.jX ps)->∃ more,H' b=some (.jX (ps++more))
section
variable {fs fs' ex ex':List Addr} {H H1 H2:Hp} {h h1 h2 h':Heap} {a x e:Addr} {o:HO}
theorem Un.any (u:Un fs ex H H1 h h1) {b:Addr} {ob:Obj} (q:h.get? b=some ob) (n:H b=none) (hx:b∉ex):∃ sl,h1.get? b=some { ob with slots:=sl }:=by
 by_cases hb:b∈fs
 . exact u.slot b ob q n hb hx
 . exact ⟨ob.slots,u.keep b ob q n hb hx⟩
theorem Un.kept (k:∀ b u,h.get? b=some u->h'.get? b=some u):Un fs ex H H h h' :=
 ⟨λ b ob q _ _ _=>k b ob q,λ b ob q _ _ _=>⟨ob.slots,k b ob q⟩,λ _ _ _ n _=>n,λ b ob q _=>⟨ob,k b ob q⟩,λ _ _ q=>q,λ _ _ _ q=>q,λ _ ps q=>⟨#[],by rw [q];simp⟩⟩
theorem Un.refl:Un fs ex H H h h:=Un.kept λ _ _ q=>q
theorem Un.laid (k:∀ b u,h.get? b=some u->h'.get? b=some u) (hp:h.objs.size<=a) (hn:H a=none):Un fs ex H (upd H a o) h h' where
 keep:=λ b u q _ _ _=>k b u q
 slot:=λ b u q _ _ _=>⟨u.slots,k b u q⟩
 free:=λ b u q n _=>by rw [aq (acl (aav (aaK q) hp))];exact n
 there:=λ b u q _=>⟨u,k b u q⟩
 jN:=λ b xs q=>by rw [aq (aB q hn)];exact q
 iJ:=λ b u xs q=>by rw [aq (aB q hn)];exact q
 i4:=λ b ps q=>⟨#[],by rw [aq (aB q hn),q];simp⟩
theorem Un.write (mu:NB (H x)) (he:e=x∨H e=some (.own x)) (k:∀ b u,b≠e->h.get? b=some u->h'.get? b=some u) (xP:∃ u,h'.get? e=some u):Un fs ex H (upd H x o) h h':=by
 have hx:∀ b,H b=none->b≠x:=λ b n z=>by subst z;rw [n] at mu;exact mu
 have hb:∀ b,H b=none->b≠e:=λ b n z=>by
   subst z
   rcases he with r|r
   . exact hx b n r
   . rw [n] at r;cases r
 have hm:∀ b u,H b=some u->¬ NB (some u)->b≠x:=λ b u q nm z=>by subst z;rw [q] at mu;exact nm mu
 refine ⟨λ b u q n _ _=>k b u (hb b n) q,λ b u q n _ _=>⟨u.slots,k b u (hb b n) q⟩,λ b u q n _=>by rw [aq (hx b n)];exact n,λ b u q _=>?_,
   λ b xs q=>by rw [aq (hm b _ q λ z=>z)];exact q,λ b u xs q=>by rw [aq (hm b _ q λ z=>z)];exact q,λ b ps q=>⟨#[],by rw [aq (hm b _ q λ z=>z),q];simp⟩⟩
 by_cases IY:b=e
 . subst IY;exact xP
 . exact ⟨u,k b u IY q⟩
end
def WC (h:Heap) (H:Hp):List Addr:=(List.range h.objs.size).filter λ a=>(H a).isSome
def qN (h:Heap) (H:Hp):Heap:=W.hideAll h (WC h H)
theorem zH (h:Heap) (H:Hp):(qN h H).objs.size=h.objs.size:=W.hideAll_size _ _
theorem An {h:Heap} {b:Addr} {o:Obj} (e:h.get? b=some o) (n:H b=none):(qN h H).get? b=some o :=
 W.hideAll_get _ e λ hm=>by
   have q:(H b).isSome=true:=(List.mem_filter.mp hm).2
   rw [n] at q;simp at q
theorem EK {h:Heap} {b:Addr} {o:Obj} (e:(qN h H).get? b=some o):h.get? b=some o/\H b=none:=by
 have e':h.get? b=some o:=W.of_hideAll (WC h H) e
 refine ⟨e',?_⟩
 cases q:H b with
 | none=>rfl
 | some x =>
   have hm:b∈WC h H:=List.mem_filter.mpr ⟨List.mem_range.mpr (aaK e'),by simp [q]⟩
   have z:(qN h H).get? b=none:=W.hideAll_none (WC h H) hm
   rw [z] at e;cases e
def Fi (g h:Heap) (L:Addr):List (Addr×Obj):=(List.range h.objs.size).filterMap λ a=>if a=L∨(g.get? a).isSome=true then none else (h.get? a).map λ o=>(a,o)
def rest (g h:Heap) (L d:Addr):List (Addr×Obj):=(Fi g h L).filter λ p=>decide (p.1≠d)
structure Mod (K:W.Frag) (mg:Str->Option Value) (base:Heap):Prop where
 wu:K.In base
 glob:base.Ns mainGlobals mg
 blt:∃ mb,base.Ns builtinsNs mb/\∀ x:Str,x ≠ "__name__"->mb x=bootBuiltins x
 nolimit:base.NoLimit
structure Cx where
 prog:Program
 w:World
 K:W.Frag
 mg:Str->Option Value
 base:Heap
 A:Around
 N:List Str
 s₀:Shared
 H₀:Hp
 env:Env
 outer:List Env
 stack:List Env
 ex:List Addr
 fn:Str->Bool
 calm:Bool
 pn:List (Addr×Obj)
 xe:Value->Shared->Prop
def gO (l:List Env):List Addr:=l.filterMap (·.frame)
abbrev Cx.fs (X:Cx):List Addr:=gO X.outer
def Jh (sc:Scope) (x:Str):Prop:=sc.names.lookup x=some .local∨sc.names.lookup x=some .cell∨sc.names.lookup x=some .free
def Loc (sc:Scope) (x:Str):Prop:=sc.names.lookup x=some .local∨sc.names.lookup x=some .cell
def Look (env:Env) (h:Heap) (m:Str->Option Value) (x:Str) (u:Value):Prop :=
 (env.kindOf x=some .local/\m x=some u)∨((env.kindOf x=some .cell∨env.kindOf x=some .free)/\∃ c,env.cells.lookup x=some c/\h.IsCell c (some u))
structure Cx.Ok (X:Cx):Prop where
 mod:Mod X.K X.mg X.base
 kind:X.env.scope.kind = .function
 glob:X.env.globals=mainGlobals
 blt:X.env.builtins=builtinsNs
 above:X.s₀.heap.objs.size<=X.env.locals
 inj:∀ x y c,X.env.cells.lookup x=some c->X.env.cells.lookup y=some c->x=y
 has:∀ x,(X.env.kindOf x=some .cell∨X.env.kindOf x=some .free)->∃ c,X.env.cells.lookup x=some c
 Fk:∀ x c,X.fn x=true->X.env.cells.lookup x=some c->X.s₀.heap.objs.size<=c
 hd:X.calm=true->X.A.handled=none
 frames:X.A.frames=some X.stack
 LH:X.stack=X.outer∨(X.stack=X.env::X.outer/\X.env.frame=some X.env.locals)
 exf:∀ b∈X.ex,b≠X.env.locals/\∀ x c,X.env.cells.lookup x=some c->c≠b
 bs:∀ b o,X.base.get? b=some o->X.s₀.heap.get? b=some o/\X.H₀ b=none
 DP:X.base.objs.size<=X.s₀.heap.objs.size
 y9:∀ b o,X.base.get? b=some o->b∉X.ex
 Cp:∀ b∈X.ex,b∉X.fs
 jH:X.s₀.heap.FunFrames X.base X.outer
 AS:∀ b∈X.fs,X.H₀ b=none
structure Inv (X:Cx) (pins:List (Addr×Obj)) (σ:List (Option V)) (H:Hp) (s:Shared):Prop where
 ok:X.Ok
 os:s.os=X.s₀.os
 bare:AllBare s.gens
 base:Un X.fs X.ex X.H₀ H X.s₀.heap s.heap
 loc:∃ m,s.heap.Ns X.env.locals m/\∀ (i:Nat) (x:Str) (v:V),X.N[i]?=some x->σ[i]?=some (some v)->Jh X.env.scope x->∃ u,RelV v u/\Look X.env s.heap m x u
 cell:∀ x c,X.env.cells.lookup x=some c->∃ v,s.heap.IsCell c v
 free:H X.env.locals=none
 ge:∀ x c,X.env.cells.lookup x=some c->H c=none
 pin:∀ p∈X.pn++pins,s.heap.get? p.1=some p.2/\H p.1=none/\p.1≠X.env.locals/\p.1∉X.fs/\∀ v,p.2.data ≠ .cell v
 bo:g8 X.prog X.w H s.heap
 len:σ.length=X.N.length
section
variable {X:Cx} {pins:List (Addr×Obj)} {σ:List (Option V)} {H H':Hp} {s:Shared} {h':Heap}
theorem Cx.Ok.qB (ok:X.Ok) {b:Addr} {o:Obj} (e:X.base.get? b=some o):b∉X.fs:=λ hb=>by
 have:=(ok.jH.mem hb).1
 rw [e] at this;cases this
theorem Inv.bs (I:Inv X pins σ H s):∀ b o,X.base.get? b=some o->s.heap.get? b=some o/\H b=none:=λ b o e =>
 ⟨I.base.keep b o (I.ok.bs b o e).1 (I.ok.bs b o e).2 (I.ok.qB e) (I.ok.y9 b o e),I.base.free b o (I.ok.bs b o e).1 (I.ok.bs b o e).2 (I.ok.y9 b o e)⟩
theorem Inv.bk (I:Inv X pins σ H s):∀ b o,X.base.get? b=some o->s.heap.get? b=some o:=λ b o e=>(I.bs b o e).1
theorem Inv.mod (I:Inv X pins σ H s):Mod X.K X.mg X.base:=I.ok.mod
theorem Inv.ia (I:Inv X pins σ H s):X.K.In s.heap:=I.ok.mod.wu.keeps I.bk
theorem Inv.lt (I:Inv X pins σ H s):X.env.locals<s.heap.objs.size:=let ⟨_,hn,_⟩:=I.loc;hn.lt
theorem Inv.sz (I:Inv X pins σ H s):X.s₀.heap.objs.size<=s.heap.objs.size:=afi I.ok.above (ahw I.lt)
theorem Inv.abU (I:Inv X pins σ H s) {a:Addr} (h:s.heap.objs.size<=a):a∉X.fs:=λ hb=>by
 obtain ⟨_,o,ho,_⟩:=I.ok.jH.mem hb
 exact absurd (aav (aaK ho) (afi I.sz h)) (ahc _)
theorem Inv.Bq (I:Inv X pins σ H s):∀ x c,X.env.cells.lookup x=some c->c≠X.env.locals:=λ x c e z=>by
 obtain ⟨v,o,ho,hd⟩:=I.cell x c e
 obtain ⟨m,⟨o',es,ep,ut,P4,_⟩,_⟩:=I.loc
 rw [z,ut] at ho;cases ho;rw [P4] at hd;cases hd
theorem Inv.jH (I:Inv X pins σ H s):s.heap.FunFrames X.base X.outer:=by
 have all:∀ (l:List Env),(∀ b∈gO l,b∈X.fs)->X.s₀.heap.FunFrames X.base l->s.heap.FunFrames X.base l:=by
   intro l
   induction l with
   | nil=>intro _ _;trivial
   | cons env r ih =>
     intro hs hl
     obtain ⟨hk,⟨L,o,hf,hn,ho,hd⟩,hr⟩:=hl
     have hL:L∈X.fs:=hs L (by unfold gO;rw [amj,hf];exact adu)
     obtain ⟨sl,e⟩:=I.base.slot L o ho (I.ok.AS L hL) hL λ z=>I.ok.Cp L z hL
     exact ⟨hk,⟨L,_,hf,hn,e,hd⟩,ih (λ b hb=>hs b (by unfold gO;rw [amj,hf];exact aaN _ hb)) hr⟩
 exact all X.outer (λ _ hb=>hb) I.ok.jH
theorem Inv.stack (I:Inv X pins σ H s):s.heap.FunFrames X.base X.stack:=by
 rcases I.ok.LH with e|⟨e,hf⟩
 . rw [e];exact I.jH
 .
  rw [e]
  obtain ⟨m,hn,_⟩:=I.loc
  refine .cons (by rw [I.ok.kind];decide) hf hn ?_ I.jH
  exact amv (afi I.ok.DP I.ok.above)
theorem Inv.xu (I:Inv X pins σ H s):∀ b∈gO X.stack,b∈X.env.locals::X.fs:=λ b hb=>by
 rcases I.ok.LH with e|⟨e,hf⟩
 . rw [e] at hb;exact aaN _ hb
 .
  rw [e] at hb
  unfold gO at hb
  rw [amj,hf] at hb
  exact hb
theorem Inv.tX (I:Inv X pins σ H s):∀ b∈gO X.stack,H b=none:=λ b hb=>by
 rcases List.mem_cons.mp (I.xu b hb) with e|hb
 . rw [e];exact I.free
 . obtain ⟨_,o,ho,_⟩:=I.ok.jH.mem hb
   exact I.base.free b o ho (I.ok.AS b hb) λ z=>I.ok.Cp b z hb
theorem Inv.step {g':Array GenState} {t':Nat} {d':Drawn} (I:Inv X pins σ H s) (xm:∀ b∈ch,(b∈X.ex∨X.s₀.heap.objs.size<=b)/\b≠X.env.locals/\(∀ x c,X.env.cells.lookup x=some c->c≠b)/\∀ p∈X.pn++pins,p.1≠b) (keep:∀ b o,b≠X.env.locals->b∉X.fs->b∉ch->s.heap.get? b=some o->H b=none->h'.get? b=some o) (slot:∀ b o,b≠X.env.locals->b∈X.fs->b∉ch->s.heap.get? b=some o->H b=none->∃ sl,h'.get? b=some { o with slots:=sl }) (free:∀ b o,b∉ch->s.heap.get? b=some o->H b=none->H' b=none) (there:∀ b o,b∉ch->s.heap.get? b=some o->∃ o',h'.get? b=some o') (jN:∀ b xs,H b=some (.tup xs)->H' b=some (.tup xs)) (iJ:∀ b o u,H b=some (.nK o u)->H' b=some (.nK o u)) (i4:∀ b ps,H b=some (.jX ps)->∃ more,H' b=some (.jX (ps++more))) (ns:∀ m,s.heap.Ns X.env.locals m->h'.Ns X.env.locals m) (bo:g8 X.prog X.w H' h') (hg:AllBare g') :
   Inv X pins σ H' { s with heap:=h',gens:=g',drawn:=d',toks:=t' }:=by
 have neL:∀ b o,X.s₀.heap.get? b=some o->b≠X.env.locals:=λ b o e=>acl (aav (aaK e) I.ok.above)
 have Wg:∀ b o,X.s₀.heap.get? b=some o->b∉X.ex->b∉ch:=λ b o e hx hb=>by
   rcases (xm b hb).1 with z|z
   . exact hx z
   . exact absurd (aav (aaK e) z) (ahc _)
 have cellK:∀ x c,X.env.cells.lookup x=some c->∀ v,s.heap.IsCell c v->h'.IsCell c v:=λ x c e v ⟨o,ho,hd⟩=>by
   have Sg:c∉ch:=λ z=>(xm c z).2.2.1 x c e rfl
   by_cases hc:c∈X.fs
   . obtain ⟨sl,q⟩:=slot c o (I.Bq x c e) hc Sg ho (I.ge x c e)
     exact ⟨_,q,hd⟩
   . exact ⟨o,keep c o (I.Bq x c e) hc Sg ho (I.ge x c e),hd⟩
 refine ⟨I.ok,I.os,hg,⟨λ b o e n hb hx=>?_,λ b o e n hb hx=>?_,λ b o e n hx=>?_,λ b o e hx=>?_,λ b xs e=>jN b xs (I.base.jN b xs e),λ b o xs e=>iJ b o xs (I.base.iJ b o xs e),λ b ps e=>?_⟩,?_,λ x c e=>?_,?_,λ x c e=>?_,λ p hp=>?_,bo,I.len⟩
 . exact keep b o (neL b o e) hb (Wg b o e hx) (I.base.keep b o e n hb hx) (I.base.free b o e n hx)
 . obtain ⟨sl,e1⟩:=I.base.slot b o e n hb hx
   obtain ⟨sl',e2⟩:=slot b _ (neL b o e) hb (Wg b o e hx) e1 (I.base.free b o e n hx)
   exact ⟨sl',e2⟩
 . obtain ⟨o',e1⟩:=I.base.there b o e hx
   exact free b o' (Wg b o e hx) e1 (I.base.free b o e n hx)
 . obtain ⟨o',e1⟩:=I.base.there b o e hx
   exact there b o' (Wg b o e hx) e1
 . obtain ⟨m1,e1⟩:=I.base.i4 b ps e
   obtain ⟨m2,e2⟩:=i4 b _ e1
   exact ⟨m1++m2,by rw [e2,anp]⟩
 .
  obtain ⟨m,hn,hl⟩:=I.loc
  refine ⟨m,ns m hn,λ i x v e1 e2 e3=>?_⟩
  obtain ⟨u,r,l⟩:=hl i x v e1 e2 e3
  refine ⟨u,r,?_⟩
  rcases l with l|⟨k,c,e,z⟩
  . exact .inl l
  . exact .inr ⟨k,c,e,cellK x c e _ z⟩
 . obtain ⟨v,z⟩:=I.cell x c e
   exact ⟨v,cellK x c e v z⟩
 . obtain ⟨m,⟨o,_,_,ho,_⟩,_⟩:=I.loc
   exact free _ o (λ z=>(xm _ z).2.1 rfl) ho I.free
 . obtain ⟨v,o,ho,hd⟩:=I.cell x c e
   exact free c o (λ z=>(xm c z).2.2.1 x c e rfl) ho (I.ge x c e)
 . obtain ⟨e,n,ne,nf,d⟩:=I.pin p hp
   have Sg:p.1∉ch:=λ z=>(xm p.1 z).2.2.2 p hp rfl
   exact ⟨keep p.1 p.2 ne nf Sg e n,free p.1 p.2 Sg e n,ne,nf,d⟩
theorem Inv.un {t':Nat} (I:Inv X pins σ H s) (u:Un X.fs [] H H' s.heap h') (bo:g8 X.prog X.w H' h'):Inv X pins σ H' { s with heap:=h',toks:=t' }:=by
 obtain ⟨m,⟨o,es,ep,ho,r⟩,_⟩:=id I.loc
 obtain ⟨sl,hL⟩:=u.any ho I.free (by simp)
 exact I.step (g':=s.gens) (d':=s.drawn) (ch:=[]) (λ _ z=>nomatch z) (λ b o _ hb _ e n=>u.keep b o e n hb (by simp)) (λ b o _ hb _ e n=>u.slot b o e n hb (by simp)) (λ b o _ e n=>u.free b o e n (by simp)) (λ b o _ e=>u.there b o e (by simp)) u.jN u.iJ u.i4 (λ m' hm=>by
   obtain ⟨o',Wu,WO,ut,r'⟩:=hm
   rw [ho] at ut;cases ut
   exact ⟨_,Wu,WO,hL,r'⟩) bo I.bare
theorem Inv.call {g':Array GenState} {t':Nat} {d':Drawn} (I:Inv X pins σ H s) (u:Un (gO X.stack) ch H H' s.heap h') (bo:g8 X.prog X.w H' h') (hg:AllBare g') (xm:∀ b∈ch,(b∈X.ex∨X.s₀.heap.objs.size<=b)/\b≠X.env.locals/\(∀ x c,X.env.cells.lookup x=some c->c≠b)/\∀ p∈X.pn++pins,p.1≠b) :
   Inv X pins σ H' { s with heap:=h',gens:=g',drawn:=d',toks:=t' }:=by
 obtain ⟨m,⟨o,es,ep,ho,r⟩,_⟩:=id I.loc
 obtain ⟨sl,hL⟩:=u.any ho I.free λ z=>(xm _ z).2.1 rfl
 exact I.step (ch:=ch) xm (λ b o hL hb hc e n=>u.keep b o e n (λ z=>(List.mem_cons.mp (I.xu b z)).elim hL hb) hc) (λ b o _ _ hc e n=>u.any e n hc) (λ b o hc e n=>u.free b o e n hc) (λ b o hc e=>u.there b o e hc) u.jN u.iJ u.i4 (λ m' hm=>by
   obtain ⟨o',Wu,WO,ut,r'⟩:=hm
   rw [ho] at ut;cases ut
   exact ⟨_,Wu,WO,hL,r'⟩) bo hg
theorem Inv.turned {t':Nat} (I:Inv X pins σ H s) (k:∀ b o,b≠it->s.heap.get? b=some o->h'.get? b=some o) (hn:H it=none) (hL:it≠X.env.locals) (h1:it∈X.ex∨X.s₀.heap.objs.size<=it) (h2:∀ x c,X.env.cells.lookup x=some c->c≠it) (h3:∀ p∈X.pn++pins,p.1≠it):Inv X pins σ H { s with heap:=h',toks:=t' }:=by
 have nit:∀ b u,H b=some u->b≠it:=λ b u e z=>by rw [z,hn] at e;cases e
 refine I.step (g':=s.gens) (d':=s.drawn) (ch:=[it]) (λ b hb=>?_) (λ b o _ _ hc e _=>k b o (λ z=>hc (by simp [z])) e) (λ b o _ _ hc e _=>⟨o.slots,k b o (λ z=>hc (by simp [z])) e⟩) (λ _ _ _ _ n=>n)
   (λ b o hc e=>⟨o,k b o (λ z=>hc (by simp [z])) e⟩) (λ _ _ e=>e) (λ _ _ _ e=>e) (λ b ps e=>⟨#[],by rw [e];simp⟩) (λ m hm=>?_) (λ b u e=>?_) I.bare
 . have e:b=it:=by simpa using hb
   subst e
   exact ⟨h1,hL,h2,h3⟩
 . obtain ⟨o,es,ep,ho,r⟩:=hm
   exact ⟨o,es,ep,k _ o (alK hL) ho,r⟩
 .
  refine (I.bo b u e).iK (λ c v hc q=>k c v ?_ q) (λ _ q=>q) λ _ _ q=>q
  rcases hc with z|z
  . rw [z];exact nit b u e
  . exact nit c _ z
theorem Inv.tok (I:Inv X pins σ H s) (t:Nat):Inv X pins σ H { s with toks:=t }:=I.un (h':=s.heap) (t':=t) Un.refl I.bo
theorem Inv.kept {t':Nat} (I:Inv X pins σ H s) (k:∀ b u,s.heap.get? b=some u->h'.get? b=some u):Inv X pins σ H { s with heap:=h',toks:=t' }:=I.un (Un.kept k) (I.bo.kept k)
theorem Inv.laid {a:Addr} {o:HO} {t':Nat} (I:Inv X pins σ H s) (k:∀ b u,s.heap.get? b=some u->h'.get? b=some u) (hp:s.heap.objs.size<=a) (new:bJ X.prog X.w (upd H a o) h' a o) :
   Inv X pins σ (upd H a o) { s with heap:=h',toks:=t' }:=I.un (Un.laid k hp (I.bo.fresh hp)) (I.bo.laid k hp new)
theorem Inv.write {x e:Addr} {o:HO} {t':Nat} (I:Inv X pins σ H s) (mu:NB (H x)) (he:e=x∨H e=some (.own x)) (k:∀ b u,b≠e->s.heap.get? b=some u->h'.get? b=some u) (xP:∃ u,h'.get? e=some u) (new:bJ X.prog X.w (upd H x o) h' x o):Inv X pins σ (upd H x o) { s with heap:=h',toks:=t' }:=I.un (Un.write mu he k xP) (I.bo.write mu he k xP new)
theorem Inv.yH {GR:List (Addr×Obj)} (I:Inv X pins σ H s) (h:∀ p∈GR,s.heap.get? p.1=some p.2/\H p.1=none/\p.1≠X.env.locals/\p.1∉X.fs/\∀ v,p.2.data ≠ .cell v):Inv X GR σ H s :=
 ⟨I.ok,I.os,I.bare,I.base,I.loc,I.cell,I.free,I.ge,λ p hp=>(List.mem_append.mp hp).elim (λ z=>I.pin p (aik _ z)) (h p),I.bo,I.len⟩
theorem oY {N:List Str} (hN:N.Nodup) {i:Nat} {x:Str} (a:N[i]?=some x) (b:N[j]?=some x):i=j:=by
 obtain ⟨h1,e1⟩:=List.getElem?_eq_some_iff.mp a
 obtain ⟨h2,e2⟩:=List.getElem?_eq_some_iff.mp b
 exact (List.getElem_inj hN).mp (e1.trans e2.symm)
theorem rY {M:Model} {A:Around} {E:Value->Shared->Prop} {i:Nat} {x:Str} {Q:Unit->Shared->Prop} (I:Inv X pins σ H s) (hN:X.N.Nodup) (hi:X.N[i]?=some x) (hx:Loc X.env.scope x) (r:RelV v u) (h:∀ s',Inv X pins (σ.set i (some v)) H s'->(∃ a,Heap.SameBut a s.heap s'.heap/\(a=X.env.locals∨X.env.cells.lookup x=some a))->Q () s') (hf:X.fn x=true∨X.env.scope.names.lookup x=some .local:=by first|exact .inl rfl|exact .inr rfl|assumption):wpAny M A (storeName X.env x u) Q E s:=by
 obtain ⟨m,hn,hl⟩:=id I.loc
 have aht:(X.env.scope.kind == .class || (X.env.scope.kind == .module && X.env.locals != X.env.globals))=false:=by rw [I.ok.kind];rfl
 have hiσ:i<σ.length:=by rw [I.len];exact (List.getElem?_eq_some_iff.mp hi).1
 have Bq:=I.Bq
 have tracked:∀ {a:Addr} {h':Heap},(∃ o,s.heap.get? a=some o/\H a=none)->Heap.SameBut a s.heap h'->g8 X.prog X.w H h':=λ {a h'} ha hs b ob e=>by
   obtain ⟨_,_,hR⟩:=ha
   refine (I.bo b ob e).iK (λ c w' hc q=>(hs.2 c ?_).trans q) (λ _ q=>q) λ _ _ q=>q
   rintro rfl
   rcases hc with rfl|hc
   . rw [hR] at e;cases e
   . rw [hR] at hc;cases hc
 rcases hx with hk|hk
 .
  refine wpAny_storeName_local hk hn (λ h' hn' hs=>?_) aht
  obtain ⟨oL,_,_,hoL,_⟩:=id hn
  refine h _ ⟨I.ok,I.os,I.bare,⟨λ b o e n hb hx=>?_,λ b o e n hb hx=>?_,I.base.free,λ b o e hx=>?_,I.base.jN,I.base.iJ,I.base.i4⟩,⟨_,hn',λ j y v' e1 e2 e3=>?_⟩,λ y c e=>?_,I.free,I.ge,λ p hp=>?_,tracked ⟨oL,hoL,I.free⟩ hs,by simpa using I.len⟩ ⟨_,hs,.inl rfl⟩
  . exact (hs.2 b (acl (aav (aaK e) I.ok.above))).trans (I.base.keep b o e n hb hx)
  . obtain ⟨sl,e1⟩:=I.base.slot b o e n hb hx
    exact ⟨sl,(hs.2 b (acl (aav (aaK e) I.ok.above))).trans e1⟩
  . obtain ⟨o',e1⟩:=I.base.there b o e hx
    exact ⟨o',(hs.2 b (acl (aav (aaK e) I.ok.above))).trans e1⟩
  .
   by_cases hj:j=i
   . subst hj
     rw [hi] at e1;cases e1
     rw [am5 hiσ] at e2
     cases e2
     exact ⟨u,r,.inl ⟨hk,by simp⟩⟩
   .
    rw [amf (alK hj)] at e2
    obtain ⟨u',r',q⟩:=hl j y v' e1 e2 e3
    refine ⟨u',r',?_⟩
    rcases q with ⟨k,e⟩|⟨k,c,e,z⟩
    . refine .inl ⟨k,?_⟩
      have:y≠x:=λ e=>hj (oY hN e1 (e ▸ hi))
      simp [this,e]
    . exact .inr ⟨k,c,e,z.sameBut hs (Bq y c e)⟩
  . obtain ⟨w',z⟩:=I.cell y c e
    exact ⟨w',z.sameBut hs (Bq y c e)⟩
  . obtain ⟨e,n,ne,nf,d⟩:=I.pin p hp
    exact ⟨(hs.2 p.1 ne).trans e,n,ne,nf,d⟩
 .
  have hfn:X.fn x=true:=by
    rcases hf with z|z
    . exact z
    . rw [z] at hk;cases hk
  obtain ⟨c,hc⟩:=I.ok.has x (.inl hk)
  obtain ⟨w',z⟩:=I.cell x c hc
  refine wpAny_storeName_cell I.ok.kind hk hc z (λ h' vW hs=>?_)
  obtain ⟨oc,V9,aa1⟩:=id z
  refine h { s with heap:=h' } ⟨I.ok,I.os,I.bare,⟨λ b o e n hb hx=>?_,λ b o e n hb hx=>?_,I.base.free,λ b o e hx=>?_,I.base.jN,I.base.iJ,I.base.i4⟩,⟨m,hn.sameBut hs (alK (Bq x c hc)),λ j y v' e1 e2 e3=>?_⟩,λ y c' e=>?_,I.free,I.ge,λ p hp=>?_,tracked ⟨oc,V9,I.ge x c hc⟩ hs,by simpa using I.len⟩ ⟨c,hs,.inr hc⟩
  . exact (hs.2 b (acl (aav (aaK e) (I.ok.Fk x c hfn hc)))).trans (I.base.keep b o e n hb hx)
  . obtain ⟨sl,e1⟩:=I.base.slot b o e n hb hx
    exact ⟨sl,(hs.2 b (acl (aav (aaK e) (I.ok.Fk x c hfn hc)))).trans e1⟩
  . obtain ⟨o',e1⟩:=I.base.there b o e hx
    exact ⟨o',(hs.2 b (acl (aav (aaK e) (I.ok.Fk x c hfn hc)))).trans e1⟩
  .
   by_cases hj:j=i
   . subst hj
     rw [hi] at e1;cases e1
     rw [am5 hiσ] at e2
     cases e2
     exact ⟨u,r,.inr ⟨.inl hk,c,hc,vW⟩⟩
   .
    rw [amf (alK hj)] at e2
    obtain ⟨u',r',q⟩:=hl j y v' e1 e2 e3
    refine ⟨u',r',?_⟩
    rcases q with q|⟨k,c',e,z'⟩
    . exact .inl q
    . refine .inr ⟨k,c',e,z'.sameBut hs ?_⟩
      rintro rfl
      exact hj (oY hN e1 (I.ok.inj _ _ _ e hc ▸ hi))
  . by_cases hcc:c'=c
    . subst hcc;exact ⟨_,vW⟩
    . obtain ⟨w2,z2⟩:=I.cell y c' e
      exact ⟨w2,z2.sameBut hs hcc⟩
  .
   obtain ⟨e,n,ne,nf,d⟩:=I.pin p hp
   refine ⟨(hs.2 p.1 ?_).trans e,n,ne,nf,d⟩
   intro q
   rw [q,V9] at e
   have q':oc=p.2:=abb e
   exact d w' (by rw [← q'];exact aa1)
theorem ji {M:Model} {A:Around} {E:Value->Shared->Prop} {i:Nat} {x:Str} {Q:Unit->Shared->Prop} (I:Inv X pins σ H s) (hN:X.N.Nodup) (hi:X.N[i]?=some x) (hx:Loc X.env.scope x) (r:RelV v u) (h:∀ s',Inv X pins (σ.set i (some v)) H s'->Q () s') (hf:X.fn x=true∨X.env.scope.names.lookup x=some .local:=by first|exact .inl rfl|exact .inr rfl|assumption):wpAny M A (storeName X.env x u) Q E s :=
 rY I hN hi hx r (λ s' I' _=>h s' I') hf
theorem Inv.G7 (I:Inv X pins σ H s) (ho:s'.os=s.os) (u:Un (gO X.stack) ch H H' s.heap s'.heap) (bo:g8 X.prog X.w H' s'.heap) (hg:AllBare s'.gens) (xm:∀ b∈ch,(b∈X.ex∨X.s₀.heap.objs.size<=b)/\b≠X.env.locals/\(∀ x c,X.env.cells.lookup x=some c->c≠b)/\∀ p∈X.pn++pins,p.1≠b):Inv X pins σ H' s':=by
 obtain ⟨h',g',d',t',o'⟩:=s'
 have e:o'=s.os:=ho
 subst e
 exact I.call (g':=g') (t':=t') (d':=d') u bo hg xm
end
abbrev XK:=Value->Option Addr->Hp->Prop
abbrev St:=List (Option V)
abbrev VK:=V->Hp->Prop
abbrev TE:=St->Hp->VK->Prop
abbrev TT:=St->Hp->(Bool->Hp->Prop)->Prop
abbrev TA:=St->Hp->(List V->Hp->Prop)->Prop
structure Ends where
 nx:St->Hp->Prop
 rt:VK
 bk:St->Hp->Prop:=λ _ _=>False
 ct:St->Hp->Prop:=λ _ _=>False
abbrev TS:=Ends->St->Hp->Prop
inductive EP (X:Cx) (pins:List (Addr×Obj)) (σ:St) (Q:VK) (u:Value) (s':Shared):Prop
 | mk (v:V) (H':Hp) (_:Inv X pins σ H' s') (_:RelV v u) (_:Q v H')
def TP (X:Cx) (pins:List (Addr×Obj)) (σ:St) (Q:Bool->Hp->Prop) (b:Bool) (s':Shared):Prop:=∃ H',Inv X pins σ H' s'/\Q b H'
inductive AP (X:Cx) (pins:List (Addr×Obj)) (σ:St) (Q:List V->Hp->Prop) (us:List Value) (s':Shared):Prop
 | mk (vs:List V) (H':Hp) (_:Inv X pins σ H' s') (_:Vals vs us) (_:Q vs H')
def SP (X:Cx) (pins:List (Addr×Obj)) (D:Ends) (f:Flow) (s':Shared):Prop :=
 match f with
 | .next=>∃ σ' H',Inv X pins σ' H' s'/\D.nx σ' H'
 | .brk=>∃ σ' H',Inv X pins σ' H' s'/\D.bk σ' H'
 | .cont=>∃ σ' H',Inv X pins σ' H' s'/\D.ct σ' H'
 | .ret u=>∃ v σ' H',Inv X pins σ' H' s'/\RelV v u/\D.rt v H'
def PE (X:Cx) (e:Expr) (t:TE):Prop :=
 ∀ (pins:List (Addr×Obj)) (s:Shared) (σ:St) (H:Hp) (Q:VK),Inv X pins σ H s->t σ H Q->wpAny (model X.prog X.w) X.A (eval e X.env) (EP X pins σ Q) X.xe s
def PT (X:Cx) (e:Expr) (t:TT):Prop :=
 ∀ (pins:List (Addr×Obj)) (s:Shared) (σ:St) (H:Hp) (Q:Bool->Hp->Prop),Inv X pins σ H s->t σ H Q->wpAny (model X.prog X.w) X.A (isTrue e X.env (eval e X.env)) (TP X pins σ Q) X.xe s
def PW (X:Cx) (e:Expr) (t:TT):Prop :=
 ∀ (whole:Sem Value) (pins:List (Addr×Obj)) (s:Shared) (σ:St) (H:Hp) (Q:Bool->Hp->Prop),Inv X pins σ H s->t σ H Q->wpAny (model X.prog X.w) X.A (isTrue e X.env whole) (TP X pins σ Q) X.xe s
theorem PW.pt {e:Expr} {t:TT} (h:PW X e t):PT X e t:=h _
def PA (X:Cx) (es:List Expr) (t:TA):Prop :=
 ∀ (pos:Pos) (pins:List (Addr×Obj)) (s:Shared) (σ:St) (H:Hp) (Q:List V->Hp->Prop),Inv X pins σ H s->t σ H Q->wpAny (model X.prog X.w) X.A (spliced (backTo pos (starEach es X.env))) (AP X pins σ Q) X.xe s
def PS (X:Cx) (st:Stmt) (t:TS):Prop :=
 ∀ (pins:List (Addr×Obj)) (s:Shared) (σ:St) (H:Hp) (D:Ends),Inv X pins σ H s->t D σ H->wpAny (model X.prog X.w) X.A (exec st X.env) (SP X pins D) X.xe s
def mP (X:Cx) (st:List Stmt) (t:TS):Prop :=
 ∀ (pins:List (Addr×Obj)) (s:Shared) (σ:St) (H:Hp) (D:Ends),Inv X pins σ H s->t D σ H->wpAny (model X.prog X.w) X.A (execs st X.env) (SP X pins D) X.xe s
theorem cz {α:Type} {t:Sem α} {Q Q':α->Shared->Prop} {M:Model} {A:Around} {E:Value->Shared->Prop} {s:Shared} (h:wpAny M A t Q E s) (hQ:∀ a s,Q a s->Q' a s):wpAny M A t Q' E s:=adA h hQ λ _ _ x=>x
section
variable {X:Cx}
inductive LL (i:Nat) (σ:St) (H:Hp) (Q:VK):Prop
 | mk (v:_) (_:σ[i]?=some (some v)) (_:Q v H)
def tC (v:V):TE:=λ _ H Q=>Q v H
theorem Jo {i:Nat} {x:Str} (hN:X.N[i]?=some x) (hv:Jh X.env.scope x) (hd:(x == ("__debug__" : Str))=false:=by decide) (iI:(x == ("__classdict__" : Str))=false:=by decide):PE X (.Name x pos) (LL i):=by
 intro pins s σ H Q I h
 obtain ⟨v,e,h⟩:=h
 obtain ⟨m,hn,hl⟩:=I.loc
 obtain ⟨u,r,l⟩:=hl i x v hN e hv
 have fin:EP X pins σ Q u s:=⟨v,H,I,r,h⟩
 rcases l with ⟨hk,hm⟩|⟨hk,c,hc,cw⟩
 . exact alD (alP I.ok.kind hk hn hm fin) hd
 . rcases hk with hk|hk
   . exact alD (alZ I.ok.kind hk hc cw fin) hd
   . exact alD (amz I.ok.kind hk hc cw fin iI) hd
theorem ag {i j pos}:PE X (.Constant (.int i) j pos) (tC (.int i)):=λ _ _ _ H _ I h=>wpAny_Constant_int ⟨.int i,H,I.tok _,⟨_,rfl⟩,h⟩
theorem lx {b j pos}:PE X (.Constant (.bool b) j pos) (tC (.bl b)):=λ _ _ _ H _ I h=>Constant_bool ⟨.bl b,H,I,rfl,h⟩
theorem iM {j pos}:PE X (.Constant .none j pos) (tC .dC):=λ _ _ _ H _ I h=>Constant_none ⟨.dC,H,I,rfl,h⟩
theorem AH {x j pos}:PE X (.Constant (.str x) j pos) (tC (.str x)):=λ _ _ _ H _ I h=>Calls.Constant_str ⟨.str x,H,I.tok _,⟨_,rfl⟩,h⟩
def Gl (X:Cx) (x:Str):Prop:=X.env.kindOf x=some .globalImplicit
theorem fY {E:Value->Shared->Prop} {s:Shared} {x:Str} {Q:Value->Shared->Prop} (I:Inv X pins σ H s) (hg:Gl X x) (hm:X.mg x=some u) (h:Q u s) (hd:(x == ("__debug__" : Str))=false:=by decide):wpAny (model X.prog X.w) X.A (eval (.Name x pos) X.env) Q E s :=
 ane I.ok.kind hg (Calls.loadGlobal_global (by rw [I.ok.glob];exact I.mod.glob.keeps I.bk) hm h) hd
theorem lH {E:Value->Shared->Prop} {s:Shared} {x:Str} {Q:Value->Shared->Prop} (I:Inv X pins σ H s) (hg:Gl X x) (hm:X.mg x=none) (hv:bootBuiltins x=some u) (h:Q u s) (hn:x ≠ "__name__":=by decide) (hd:(x == ("__debug__" : Str))=false:=by decide):wpAny (model X.prog X.w) X.A (eval (.Name x pos) X.env) Q E s:=by
 obtain ⟨mb,h1,h2⟩:=I.mod.blt
 exact ane I.ok.kind hg (Calls.loadGlobal_builtin (by rw [I.ok.glob];exact I.mod.glob.keeps I.bk) hm (by rw [I.ok.blt];exact h1.keeps I.bk) ((h2 x hn).trans hv) h) hd
theorem fe {x:Str} (hg:Gl X x) (hm:X.mg x=some u) (r:RelV v u) (hd:(x == ("__debug__" : Str))=false:=by decide):PE X (.Name x pos) (tC v) :=
 λ _ _ _ H _ I h=>fY I hg hm ⟨v,H,I,r,h⟩ hd
theorem jv {x:Str} (hg:Gl X x) (hm:X.mg x=none) (hv:bootBuiltins x=some u) (r:RelV v u) (hn:x ≠ "__name__":=by decide) (hd:(x == ("__debug__" : Str))=false:=by decide):PE X (.Name x pos) (tC v) :=
 λ _ _ _ H _ I h=>lH I hg hm hv ⟨v,H,I,r,h⟩ hn hd
variable {a b:Expr} {ta tb:TE} {pos:Pos}
def tB (t:TE):TT:=λ σ H Q=>t σ H λ x H1=>∃ c,x = .bl c/\Q c H1
theorem dH {e:Expr} {t:TE} (h:PE X e t) (he:∀ whole,isTrue e X.env whole=(do let v ← whole;standAt e.pos;holding [v] (truthy v)):=by intro _;rfl):PT X e (tB t):=by
 intro pins s σ H Q I hw
 refine isTrue_plain (cz (h pins s σ H _ I hw) λ v s1 ⟨x,H1,I1,r1,q1⟩=>?_) (he _)
 obtain ⟨d,rfl,q⟩:=q1
 cases r1
 exact aiV ⟨H1,I1,q⟩
variable {tA tB':TT} {rest:List Expr}
def tOr (t u:TT):TT:=λ σ H Q=>t σ H λ c H1=>if c=true then Q true H1 else u σ H1 Q
def alI (t:TT):TT:=λ σ H Q=>t σ H λ c H1=>Q (!c) H1
theorem pW (ha:PT X a tA):PW X (.BoolOp .Or [a] pos) tA:=by
 intro wh pins s σ H Q I h
 refine isTrue_or (cz (ha pins s σ H Q I h) λ c s1 e=>?_)
 cases c with
 | false=>exact isTrue_or_nil e
 | true=>exact e
theorem jQ (ha:PT X a tA) (hb:PW X (.BoolOp .Or (b::rest) pos) tB'):PW X (.BoolOp .Or (a::b::rest) pos) (tOr tA tB'):=by
 intro wh pins s σ H Q I h
 refine isTrue_or (cz (ha pins s σ H _ I h) λ c s1 ⟨H1,I1,q1⟩=>?_)
 cases c with
 | true=>exact ⟨H1,I1,q1⟩
 | false=>exact hb wh pins s1 σ H1 Q I1 q1
theorem gU (ha:PT X a tA):PT X (.UnaryOp .Not a pos) (alI tA):=by
 intro pins s σ H Q I h
 exact isTrue_not (ha pins s σ H (λ c H1=>Q (!c) H1) I h)
def Ts (ta tb:TE):TE:=λ σ H Q=>ta σ H λ x H1=>∃ c,x = .bl c/\if c=true then tb σ H1 Q else Q (.bl false) H1
def akk (ta tb:TE):TE:=λ σ H Q=>ta σ H λ x H1=>∃ c,x = .bl c/\if c=true then Q (.bl true) H1 else tb σ H1 Q
def Us (ta:TE):TE:=λ σ H Q=>ta σ H λ x H1=>∃ c,x = .bl c/\Q (.bl (!c)) H1
theorem iY {op} {t:TE} (h:PE X a t):PE X (.BoolOp op [a] pos) t:=λ pins s σ H Q I hw=>BoolOp_one (h pins s σ H Q I hw)
theorem mq (ha:PE X a ta) (hb:PE X (.BoolOp .And (b::rest) pos) tb):PE X (.BoolOp .And (a::b::rest) pos) (Ts ta tb):=by
 intro pins s σ H Q I h
 refine BoolOp_and (cz (ha pins s σ H _ I h) λ v s1 ⟨x,H1,I1,r1,q1⟩=>?_)
 obtain ⟨c,rfl,q1⟩:=q1
 cases r1
 refine aiV ?_
 cases c with
 | true=>exact hb pins s1 σ H1 Q I1 q1
 | false=>exact ⟨.bl false,H1,I1,rfl,q1⟩
theorem DI (ha:PE X a ta) (hb:PE X (.BoolOp .Or (b::rest) pos) tb):PE X (.BoolOp .Or (a::b::rest) pos) (akk ta tb):=by
 intro pins s σ H Q I h
 refine BoolOp_or (cz (ha pins s σ H _ I h) λ v s1 ⟨x,H1,I1,r1,q1⟩=>?_)
 obtain ⟨c,rfl,q1⟩:=q1
 cases r1
 refine aiV ?_
 cases c with
 | false=>exact hb pins s1 σ H1 Q I1 q1
 | true=>exact ⟨.bl true,H1,I1,rfl,q1⟩
theorem Jx (ha:PE X a ta):PE X (.UnaryOp .Not a pos) (Us ta):=by
 intro pins s σ H Q I h
 refine UnaryOp_ (cz (ha pins s σ H _ I h) λ v s1 ⟨x,H1,I1,r1,q1⟩=>?_)
 obtain ⟨c,rfl,q1⟩:=q1
 cases r1
 exact not_of (aiV ⟨.bl (!c),H1,I1,rfl,q1⟩)
def tIf (t:TT) (ta tb:TE):TE:=λ σ H Q=>t σ H λ c H1=>if c=true then ta σ H1 Q else tb σ H1 Q
theorem f7 {c:Expr} (hc:PT X c tA) (ha:PE X a ta) (hb:PE X b tb):PE X (.IfExp c a b pos) (tIf tA ta tb):=by
 intro pins s σ H Q I h
 refine wpAny_IfExp (cz (hc pins s σ H _ I h) λ d s1 ⟨H1,I1,q1⟩=>?_)
 cases d with
 | true=>exact ha pins s1 σ H1 Q I1 q1
 | false=>exact hb pins s1 σ H1 Q I1 q1
end
def bh (K:W.Frag) (H:Hp) (a:Addr) (xs:List V):Prop :=
 Rd H a (.lst xs) ∨
   ∃ (o:Obj) (aR:Array Value) (n:Nat),K.lookup a=some o/\o.cls = .type "list"/\o.dict=none/\o.data = .seq aR n/\aR.size<=sizeLine/\Vals xs aR.toList
def bQ (K:W.Frag) (H:Hp) (a:Addr) (xs:List V):Prop :=
 Rd H a (.tup xs) ∨
   ∃ (o:Obj) (aR:Array Value) (n:Nat),K.lookup a=some o/\o.cls = .type "tuple"/\o.data = .seq aR n/\aR.size<=sizeLine/\Vals xs aR.toList
def akl:Value->Option V
 | .none=>some .dC
 | .bool b=>some (.bl b)
 | .int i _=>some (.int i)
 | .str x _=>some (.str x)
 | .bytes b _=>some (.BP b)
 | .float b _=>some (.HA b)
 | .ref a=>some (.ref a)
 | .type n=>some (.ty n)
 | _=>none
theorem RelV.abs {x:V} (r:RelV x u):akl u=some x:=by
 cases x with
 | dC=>cases r;rfl
 | bl _=>cases r;rfl
 | int _=>obtain ⟨t,rfl⟩:=r;rfl
 | str _=>obtain ⟨t,rfl⟩:=r;rfl
 | BP _=>obtain ⟨t,rfl⟩:=r;rfl
 | HA _=>obtain ⟨t,rfl⟩:=r;rfl
 | ref _=>cases r;rfl
 | ty _=>cases r;rfl
theorem RelV.inj {x y:V} (r:RelV x u) (q:RelV y u):x=y:=abb (r.abs.symm.trans q.abs)
theorem Vals.inj:∀ {xs ys:List V} {us:List Value},Vals xs us->Vals ys us->xs=ys
 | _,_,_,.nil,.nil=>rfl
 | _,_,_,.cons r t,.cons r' t'=>by rw [r.inj r',Vals.inj t t']
section
variable {X:Cx} {pins:List (Addr×Obj)} {σ:St} {H:Hp} {s:Shared} {a:Addr} {xs ys:List V}
theorem bh.of {K:W.Frag} (h:H a=some (.lst xs)):bh K H a xs:=.inl (.inl h)
theorem bQ.of {K:W.Frag} (h:H a=some (.tup xs)):bQ K H a xs:=.inl (.inl h)
theorem Inv.list (I:Inv X pins σ H s) (h:bh X.K H a xs):∃ aR:List Value,Vals xs aR/\PlainL s.heap a aR.toArray/\xs.length<=sizeLine:=by
 rcases h with h|⟨o,aR,n,hk,hc,hd,hs,hz,r⟩
 . obtain ⟨z,aR,n,r,e⟩:=h.ok I.bo
   exact ⟨aR,r,⟨_,n,e,rfl,rfl,rfl⟩,z⟩
 .
  refine ⟨aR.toList,r,⟨o,n,I.ia a o hk,hc,hd,by simpa using hs⟩,?_⟩
  have e:=r.length
  simp only [amn] at e
  lia
theorem Inv.tuple (I:Inv X pins σ H s) (h:bQ X.K H a xs):∃ aR:List Value,Vals xs aR/\IsTup s.heap a aR.toArray/\xs.length<=sizeLine:=by
 rcases h with h|⟨o,aR,n,hk,hc,hs,hz,r⟩
 . obtain ⟨z,aR,r,p⟩:=h.ok I.bo
   exact ⟨aR,r,p,z⟩
 .
  refine ⟨aR.toList,r,⟨o,I.ia a o hk,hc,n,by simpa using hs⟩,?_⟩
  have e:=r.length
  simp only [amn] at e
  lia
theorem Inv.pM (I:Inv X pins σ H s) (h:bh X.K H a xs) (h':bh X.K H a ys):xs=ys:=by
 obtain ⟨aR,r,⟨o,n,e,_,_,d⟩,_⟩:=I.list h
 obtain ⟨its',r',⟨o',n',e',_,_,d'⟩,_⟩:=I.list h'
 rw [e] at e';cases e'
 rw [d] at d'
 injection d' with d1 _
 have:aR=its':=by simpa using alR Array.toList d1
 subst this
 exact r.inj r'
theorem Inv.rq (I:Inv X pins σ H s) (h:bQ X.K H a xs) (h':bQ X.K H a ys):xs=ys:=by
 obtain ⟨aR,r,⟨o,e,_,n,d⟩,_⟩:=I.tuple h
 obtain ⟨its',r',⟨o',e',_,n',d'⟩,_⟩:=I.tuple h'
 rw [e] at e';cases e'
 rw [d] at d'
 injection d' with d1 _
 have:aR=its':=by simpa using alR Array.toList d1
 subst this
 exact r.inj r'
end
abbrev Cx.cD (X:Cx) (E:Value->Shared->Prop):Cx:={ X with xe:=E }
abbrev Cx.Ai (X:Cx):Cx:=X.cD λ _ _=>False
theorem Cx.Ok.cD (ok:X.Ok) (E:Value->Shared->Prop):(X.cD E).Ok :=
 ⟨ok.mod,ok.kind,ok.glob,ok.blt,ok.above,ok.inj,ok.has,ok.Fk,ok.hd,ok.frames,ok.LH,ok.exf,ok.bs,ok.DP,ok.y9,ok.Cp,ok.jH,ok.AS⟩
theorem Cx.Ok.gK {E:Value->Shared->Prop} (ok:(X.cD E).Ok):X.Ok :=
 ⟨ok.mod,ok.kind,ok.glob,ok.blt,ok.above,ok.inj,ok.has,ok.Fk,ok.hd,ok.frames,ok.LH,ok.exf,ok.bs,ok.DP,ok.y9,ok.Cp,ok.jH,ok.AS⟩
section
variable {X:Cx} {pins:List (Addr×Obj)} {σ:St} {H:Hp} {s:Shared} {E:Value->Shared->Prop}
theorem Inv.cD (I:Inv X pins σ H s) (E:Value->Shared->Prop):Inv (X.cD E) pins σ H s:=⟨I.ok.cD E,I.os,I.bare,I.base,I.loc,I.cell,I.free,I.ge,I.pin,I.bo,I.len⟩
theorem Inv.gK (I:Inv (X.cD E) pins σ H s):Inv X pins σ H s:=⟨I.ok.gK,I.os,I.bare,I.base,I.loc,I.cell,I.free,I.ge,I.pin,I.bo,I.len⟩
theorem SP.gK {D:Ends} {f:Flow} (h:SP (X.cD E) pins D f s'):SP X pins D f s':=by
 cases f with
 | next=>obtain ⟨σ',H',I,q⟩:=h;exact ⟨σ',H',I.gK,q⟩
 | brk=>obtain ⟨σ',H',I,q⟩:=h;exact ⟨σ',H',I.gK,q⟩
 | cont=>obtain ⟨σ',H',I,q⟩:=h;exact ⟨σ',H',I.gK,q⟩
 | ret u=>obtain ⟨v,σ',H',I,r,q⟩:=h;exact ⟨v,σ',H',I.gK,r,q⟩
theorem mP.Ai {st:List Stmt} {t:TS} (h:mP X.Ai st t):mP X st t:=λ pins s σ H D I hw =>
 adA (h pins s σ H D (I.cD _) hw) (λ _ _ q=>q.gK) λ _ _ z=>False.elim z
end
section
variable {X:Cx} {st:Stmt} {rest:List Stmt} {t u:TS} {e:Expr} {te:TE} {pos:Pos}
def M5:TS:=λ D σ H=>D.nx σ H
def aL (t u:TS):TS:=λ D σ H=>t { D with nx:=u D } σ H
theorem aM:mP X [] M5:=λ _ _ σ H _ I h=>akr ⟨σ,H,I,h⟩
theorem ak (h1:PS X st t) (h2:mP X rest u):mP X (st::rest) (aL t u):=by
 intro pins s σ H D I h
 refine alO (cz (h1 pins s σ H { D with nx:=u D } I h) λ f s1 q=>?_)
 cases f with
 | next =>
   obtain ⟨σ',H',I',q⟩:=q
   exact h2 pins s1 σ' H' D I' q
 | ret v=>exact q
 | brk=>exact q
 | cont=>exact q
theorem am (h1:PS X st t):mP X [st] t:=by
 intro pins s σ H D I h
 refine alO (cz (h1 pins s σ H D I h) λ f s1 q=>?_)
 cases f with
 | next=>exact akr q
 | ret v=>exact q
 | brk=>exact q
 | cont=>exact q
theorem Inv.quiet {s:Shared} (I:Inv X pins σ H s):interactive X.env=false:=by simp [interactive,I.ok.kind]
def P7 (te:TE):TS:=λ D σ H=>te σ H λ _ H1=>D.nx σ H1
theorem gE (he:PE X e te) (hs:swapsWith e none pos.line X.env=pure false:=by rfl):PS X (.Expr e pos) (P7 te):=by
 intro pins s σ H D I h
 exact wpAny_Expr_any (cz (he pins s σ H _ I h) λ v s1 ⟨x,H1,I1,r1,q1⟩=>⟨σ,H1,I1,q1⟩) I.quiet hs
def abM (te:TE):TS:=λ D σ H=>te σ H D.rt
theorem ax (he:PE X e te):PS X (.Return (some e) pos) (abM te):=by
 intro pins s σ H D I h
 exact wpAny_Return_some (cz (he pins s σ H _ I h) λ v s1 ⟨x,H1,I1,r1,q1⟩=>⟨x,σ,H1,I1,r1,q1⟩)
def acW (c:TT) (t u:TS):TS:=λ D σ H=>c σ H λ b H1=>if b=true then t D σ H1 else u D σ H1
theorem bx {c:Expr} {a b:List Stmt} {tc:TT} (hc:PT X c tc) (ha:mP X a t) (hb:mP X b u):PS X (.If c a b pos) (acW tc t u):=by
 intro pins s σ H D I h
 refine wpAny_If (cz (hc pins s σ H _ I h) λ d s1 ⟨H1,I1,q1⟩=>?_)
 cases d with
 | true=>exact ha pins s1 σ H1 D I1 q1
 | false=>exact hb pins s1 σ H1 D I1 q1
def JQ:TS:=λ _ _ _=>False
theorem vc:PS X st JQ:=λ _ _ _ _ _ _ h=>h.elim
end
abbrev TG:=V->St->Hp->(St->Hp->Prop)->Prop
abbrev Iy:=List V->St->Hp->(St->Hp->Prop)->Prop
def PG (X:Cx) (target:Expr) (t:TG):Prop :=
 ∀ (pins:List (Addr×Obj)) (s:Shared) (σ:St) (H:Hp) (v:V) (u:Value) (Q:St->Hp->Prop),Inv X pins σ H s->RelV v u->t v σ H Q ->
   wpAny (model X.prog X.w) X.A (assign target X.env u) (λ _ s'=>∃ σ' H',Inv X pins σ' H' s'/\Q σ' H') X.xe s
def Kk (X:Cx) (ts:List Expr) (t:Iy):Prop :=
 ∀ (pins:List (Addr×Obj)) (s:Shared) (σ:St) (H:Hp) (vs:List V) (us:List Value) (Q:St->Hp->Prop),Inv X pins σ H s->Vals vs us->t vs σ H Q ->
   wpAny (model X.prog X.w) X.A (assignInOrder ((assignEach ts X.env).map (·.2)) us) (λ _ s'=>∃ σ' H',Inv X pins σ' H' s'/\Q σ' H') X.xe s
abbrev Iq:=V->V->V->Hp->(Hp->Prop)->Prop
def Lw (X:Cx) (t:Iq):Prop :=
 ∀ (pins:List (Addr×Obj)) (s:Shared) (σ:St) (H:Hp) (o i v:V) (ov iv u:Value) (Q:Hp->Prop),Inv X pins σ H s->RelV o ov->RelV i iv->RelV v u->t o i v H Q ->
   wpAny (model X.prog X.w) X.A (setItem ov iv u) (λ _ s'=>∃ H',Inv X pins σ H' s'/\Q H') X.xe s
abbrev WP:=V->V->Hp->VK->Prop
def PIp (X:Cx) (op:Operator) (t:WP):Prop :=
 ∀ (pins:List (Addr×Obj)) (s:Shared) (σ:St) (H:Hp) (x y:V) (v u:Value) (Q:VK),Inv X pins σ H s->RelV x v->RelV y u->t x y H Q ->
   wpAny (model X.prog X.w) X.A (inplaceOp op v u) (EP X pins σ Q) X.xe s
section
variable {X:Cx} {pos:Pos}
def xO (i:Nat):TG:=λ v σ H Q=>Q (σ.set i (some v)) H
theorem aA {i:Nat} {x:Str} (hN:X.N.Nodup) (hi:X.N[i]?=some x) (hx:Loc X.env.scope x) (hf:X.fn x=true∨X.env.scope.names.lookup x=some .local:=by first|exact .inl rfl|exact .inr rfl|assumption):PG X (.Name x pos) (xO i):=by
 intro pins s σ H v u Q I r h
 exact wpAny_assign_Name (ji I hN hi hx r (λ s' I'=>⟨_,H,I',h⟩) hf)
def aay:Iy:=λ vs σ H Q=>vs=[]/\Q σ H
inductive Vx (t:TG) (u:Iy) (vs:List V) (σ:St) (H:Hp) (Q:(St->Hp->Prop)):Prop
 | mk (v r:_) (_:vs=v::r) (_:t v σ H λ σ' H'=>u r σ' H' Q)
theorem bU:Kk X [] aay:=by
 intro pins s σ H vs us Q I r h
 obtain ⟨e,h⟩:=h
 subst e
 cases r
 exact assignInOrder_nil ⟨σ,H,I,h⟩
theorem aE {e:Expr} {t:TG} {u:Iy} (h1:PG X e t) (h2:Kk X es u) (hs:(assignEach (e::es) X.env).map (·.2)=assign e X.env::(assignEach es X.env).map (·.2):=by rfl):Kk X (e::es) (Vx t u):=by
 intro pins s σ H vs us Q I r h
 obtain ⟨v,vr,e1,h⟩:=h
 subst e1
 cases r with
 | cons r rr =>
   rw [hs]
   refine assignInOrder_cons (cz (h1 pins s σ H _ _ _ I r h) λ _ s1 ⟨σ1,H1,I1,q1⟩=>?_)
   exact h2 pins s1 σ1 H1 _ _ Q I1 rr q1
inductive Li (K:W.Frag) (n:Nat) (t:Iy) (v:V) (σ:St) (H:Hp) (Q:(St->Hp->Prop)):Prop
 | mk (a xs:_) (_:v = .ref a) (_:bQ K H a xs) (_:xs.length=n) (_:t xs σ H Q)
theorem IA {k:Nat} {t:Iy} {n:Nat} (hc:X.calm=true) (h:Kk X es t) (hn:(assignEach es X.env).length=n:=by rfl) (i5:(assignEach es X.env).findIdx? (·.1)=none:=by rfl):PG X (.Tuple es k pos) (Li X.K n t):=by
 intro pins s σ H v u Q I r hw
 obtain ⟨a,xs,e1,hq,hl,hw⟩:=hw
 subst e1
 cases r
 obtain ⟨aR,rv,ht,hz⟩:=I.tuple hq
 refine assign_Tuple_tuple (I.ok.hd hc) ht (by simp [hn,← hl,rv.length]) i5 λ h' hx=>?_
 have I1:Inv X pins σ H { s with heap:=h' }:=I.kept (t':=s.toks) λ b o e=>hx b o (acl (aaK e)) e
 exact h pins _ σ H xs _ Q I1 (by simpa using rv) hw
def aiW (to ti:TE) (t:Iq):TG:=λ v σ H Q=>to σ H λ o H1=>ti σ H1 λ i H2=>t o i v H2 λ H3=>Q σ H3
theorem Dz {o i:Expr} {to ti:TE} {t:Iq} (ho:PE X o to) (hi:PE X i ti) (hs:Lw X t) (ha:∀ v,assign (.Subscript o i pos) X.env v=(do
     let ov ← holding [v] (eval o X.env)
     let iv ← holding [v,ov] (eval i X.env)
     standAt pos
     holding [v,ov,iv] (setItem ov iv v)
     release [v,ov,iv] []):=by intro _;rfl):PG X (.Subscript o i pos) (aiW to ti t):=by
 intro pins s σ H v u Q I r h
 rw [ha]
 refine wF (aj3 (cz (ho pins s σ H _ I h) λ ov s1 ⟨x,H1,I1,r1,q1⟩=>?_))
 refine wF (aj3 (cz (hi pins s1 σ H1 _ I1 q1) λ iv s2 ⟨y,H2,I2,r2,q2⟩=>?_))
 refine wF (wpAny_standAt (wF (aj3 (cz (hs pins s2 σ H2 x y v ov iv u _ I2 r1 r2 r q2) λ _ s3 ⟨H3,I3,q3⟩=>?_))))
 exact wpAny_release ⟨σ,H3,I3,q3⟩
def Fx (te:TE) (g:TG):TS:=λ D σ H=>te σ H λ x H1=>g x σ H1 D.nx
theorem gT {e:Expr} (he:PE X e te) (hg:PG X tg g) (hs:swapsWithSole [tg] e pos.line X.env=pure false:=by rfl) (hw:swappedStores [tg] e X.env=pure none:=by rfl) (h1:(assignEach [tg] X.env).map (·.2)=[assign tg X.env]:=by rfl):PS X (.Assign [tg] e pos) (Fx te g):=by
 intro pins s σ H D I h
 refine wpAny_Assign_stores (cz (he pins s σ H _ I h) λ v s1 ⟨x,H1,I1,r1,q1⟩=>?_) hs hw
 rw [h1]
 exact cz (hg pins s1 σ H1 x v _ I1 r1 q1) λ _ s2 q=>q
theorem aG {i:Nat} {x:Str} {e:Expr} (hN:X.N.Nodup) (hi:X.N[i]?=some x) (hx:Loc X.env.scope x) (he:PE X e te) (hs:swapsWith e (some (.Name x pos')) pos.line X.env=pure false:=by rfl) (hf:X.fn x=true∨X.env.scope.names.lookup x=some .local:=by first|exact .inl rfl|exact .inr rfl|assumption) :
   PS X (.Assign [.Name x pos'] e pos) (Fx te (xO i)):=by
 intro pins s σ H D I h
 refine wpAny_Assign_Name (cz (he pins s σ H _ I h) λ v s1 ⟨y,H1,I1,r1,q1⟩=>?_) hs
 exact ji I1 hN hi hx r1 (λ s2 I2=>⟨_,H1,I2,q1⟩) hf
def af2 (i:Nat) (te:TE) (ti:WP):TS:=λ D σ H=>∃ x,σ[i]?=some (some x)/\te σ H λ y H1=>ti x y H1 λ z H2=>D.nx (σ.set i (some z)) H2
theorem Iz {i:Nat} {x:Str} {e:Expr} {op:Operator} {ti:WP} (hN:X.N.Nodup) (hi:X.N[i]?=some x) (hx:Loc X.env.scope x) (he:PE X e te) (ho:PIp X op ti) (hf:X.fn x=true∨X.env.scope.names.lookup x=some .local:=by first|exact .inl rfl|exact .inr rfl|assumption) :
   PS X (.AugAssign (.Name x pos') op e pos) (af2 i te ti):=by
 intro pins s σ H D I h
 obtain ⟨v,e1,h⟩:=h
 obtain ⟨m,hn,hl⟩:=I.loc
 have Yj:Jh X.env.scope x:=by rcases hx with k|k;exact .inl k;exact .inr (.inl k)
 obtain ⟨u,r,l⟩:=hl i x v hi e1 Yj
 refine wpAny_AugAssign_Name ?_
 have go:wpAny (model X.prog X.w) X.A (eval e X.env) (λ w s₂=>wpAny (model X.prog X.w) X.A (inplaceOp op u w) (λ r s₃=>wpAny (model X.prog X.w) X.A (storeName X.env x r) (λ _=>SP X pins D .next) X.xe s₃) X.xe s₂) X.xe s:=by
   refine cz (he pins s σ H _ I h) λ w s1 ⟨y,H1,I1,r1,q1⟩=>?_
   refine cz (ho pins s1 σ H1 v y u w _ I1 r r1 q1) λ z s2 ⟨zv,H2,I2,r2,q2⟩=>?_
   exact ji I2 hN hi hx r2 (λ s3 I3=>⟨_,H2,I3,q2⟩) hf
 rcases l with ⟨hk,hm⟩|⟨hk,c,hc,cw⟩
 . exact alP I.ok.kind hk hn hm go
 .
  rcases hk with hk|hk
  . exact alZ I.ok.kind hk hc cw go
  .
   rcases hx with k|k
   . have:X.env.scope.names.lookup x=some .free:=hk
     rw [k] at this;cases this
   . have:X.env.scope.names.lookup x=some .free:=hk
     rw [k] at this;cases this
def ipI (f:Int->Int->Int):WP:=λ x y H Q=>∃ i j,x = .int i/\y = .int j/\Q (.int (f i j)) H
theorem JH:PIp X .Add (ipI λ i j=>i+j):=by
 intro pins s σ H x y v u Q I r1 r2 h
 obtain ⟨i,j,e1,e2,q⟩:=h
 subst e1;subst e2
 obtain ⟨t,rfl⟩:=r1
 obtain ⟨t',rfl⟩:=r2
 exact iadd_int ⟨.int _,H,I.tok _,⟨_,rfl⟩,q⟩
end
structure It where
 go:Nat->Hp->Prop
 Ah:Nat->Hp->V->Hp->Prop
 stop:Nat->Hp->Prop
def qz (X:Cx) (pins:List (Addr×Obj)) (H:Hp) (b:Addr):Prop :=
 H b=none/\b≠X.env.locals/\b∉X.fs/\(b∈X.ex∨X.s₀.heap.objs.size<=b)/\(∀ x c,X.env.cells.lookup x=some c->c≠b)/\∀ p∈X.pn++pins,p.1≠b
theorem Inv.ux {H':Hp} {s:Shared} {b:Addr} (I:Inv X pins σ H s) (hb:s.heap.objs.size<=b) (hn:H' b=none):qz X pins H' b:=by
 refine ⟨hn,am9 (aav I.lt hb),I.abU hb,.inr (afi I.sz hb),λ x c e z=>?_,λ p hp z=>?_⟩
 . obtain ⟨v,q⟩:=I.cell x c e
   exact absurd (aav q.lt (by rw [z];exact hb)) (ahc _)
 . exact absurd (aav (aaK (I.pin p hp).1) (by rw [z];exact hb)) (ahc _)
structure Turn (P:Program) (w:World) (K:W.Frag) (tg:Expr) (J:It) (fp:List Addr) (it:Addr) (tn:Nat->Heap->Prop):Prop where
 mem:it∈fp
 obj:∀ i h,tn i h->∀ b∈fp,∃ o,h.get? b=some o/\∀ v,o.data ≠ .cell v
 keep:∀ i h h',tn i h->(∀ b∈fp,∀ o,h.get? b=some o->h'.get? b=some o)->tn i h'
 item:∀ (X:Cx),X.prog=P->X.w=w->X.K=K->X.calm=true->∀ (i:Nat) (pins:List (Addr×Obj)) (s:Shared) (σ:St) (H:Hp) (E:Value->Shared->Prop),Inv X pins σ H s->(∀ b∈fp,qz X pins H b)->tn i s.heap->J.go i H ->
   wpAny (model P w) X.A (pyNext (.ref it)) (λ r s1=>∃ u,r=some u /\
     wpAny (model P w) X.A (letOwnedTupleGo tg (.ref it) u) (λ _ s2=>∃ x H',Inv X pins σ H' s2/\RelV x u/\J.Ah i H x H'/\tn (i+1) s2.heap/\∀ b∈fp,H' b=none) E s1) E s
 done:∀ (X:Cx),X.prog=P->X.w=w->X.K=K->X.calm=true->∀ (i:Nat) (pins:List (Addr×Obj)) (s:Shared) (σ:St) (H:Hp) (E:Value->Shared->Prop),Inv X pins σ H s->(∀ b∈fp,qz X pins H b)->tn i s.heap->J.stop i H ->
   wpAny (model P w) X.A (pyNext (.ref it)) (λ r s1=>r=none/\Inv X pins σ H s1) E s
 self:∀ (A:Around) (i:Nat) (s:Shared) (Q:Value->Shared->Prop) (E:Value->Shared->Prop),tn i s.heap->Q (.ref it) s->wpAny (model P w) A (pyIter (.ref it)) Q E s
abbrev TI:=St->Hp->(It->Hp->Prop)->Prop
def PIE (X:Cx) (pins:List (Addr×Obj)) (σ:St) (tg:Expr) (R:It->Hp->Prop) (itv:Value) (s2:Shared):Prop :=
 ∃ (it:Addr) (fp:List Addr) (tn:Nat->Heap->Prop) (J:It) (H':Hp),itv = .ref it/\Inv X pins σ H' s2/\Turn X.prog X.w X.K tg J fp it tn/\tn 0 s2.heap/\(∀ b∈fp,qz X pins H' b)/\R J H'
def PI (X:Cx) (tg iter:Expr) (wi:TI):Prop :=
 ∀ (pins:List (Addr×Obj)) (s:Shared) (σ:St) (H:Hp) (R:It->Hp->Prop),Inv X pins σ H s->wi σ H R ->
   wpAny (model X.prog X.w) X.A (eval iter X.env) (λ v s1=>wpAny (model X.prog X.w) X.A (pyIter v) (PIE X pins σ tg R) X.xe s1) X.xe s
theorem vj {M:Model} {A:Around} {E:Value->Shared->Prop} {s:Shared} {o:Obj} {n:String} {vs:Array Value} {Q:Unit->Shared->Prop} (ho:s.heap.get? it=some o) (hc:o.cls = .type n) (hd:o.data = .fields vs) (hn:["enumerate","zip","dict_itemiterator","dict_reverseitemiterator","odict_iterator","itertools.zip_longest","itertools.pairwise"].contains n=false) (hQ:Q () s):wpAny M A (letOwnedTupleGo tg (.ref it) u) Q E s:=by
 unfold letOwnedTupleGo
 cases tg<;>first
   | exact aaJ hQ
   | (cases u<;>first
       | exact aaJ hQ
       | (refine wF (wpAny_load ho ?_)
          rw [hc,hd]
          show wpAny M A (if (["enumerate","zip","dict_itemiterator","dict_reverseitemiterator","odict_iterator","itertools.zip_longest","itertools.pairwise"].contains n && vs[0]? == some (rawInt _))=true then _ else _) Q E s
          rw [adH (by intro h;rw [hn,Bool.false_and] at h;cases h)]
          exact aaJ hQ))
def GJ (K:W.Frag) (a:Addr):It :=
 ⟨λ i H=>∃ xs x,bh K H a xs/\xs[i]?=some x,λ i H x H'=>H'=H/\∀ xs,bh K H a xs->xs[i]?=some x,λ i H=>∃ xs,bh K H a xs/\xs.length<=i⟩
def Sj (K:W.Frag) (a:Addr):It :=
 ⟨λ i H=>∃ xs x,bQ K H a xs/\xs[i]?=some x,λ i H x H'=>H'=H/\∀ xs,bQ K H a xs->xs[i]?=some x,λ i H=>∃ xs,bQ K H a xs/\xs.length<=i⟩
def F7 (lo:Int) (n:Nat):It:=⟨λ i _=>i<n,λ i H x H'=>H'=H/\x = .int (lo+i),λ i _=>n<=i⟩
theorem zL {P:Program} {w:World} {K:W.Frag} (a it:Addr):Turn P w K tg (GJ K a) [it] it (λ i h=>h.IsListIter it a i) where
 mem:=by simp
 obj:=λ i h st b hb=>by
   have e:b=it:=by simpa using hb
   subst e
   obtain ⟨o,e,c,d⟩:=st
   exact ⟨o,e,λ v z=>by rw [d] at z;cases z⟩
 keep:=λ i h h' st k=>st.at λ o e=>k it (by simp) o e
 item:=by
   intro X hP hw hK hc i pins s σ H E I hf st hg
   subst hP hw hK
   obtain ⟨xs,x,hq,hx⟩:=hg
   obtain ⟨aR,rv,p,hz⟩:=I.list hq
   obtain ⟨u,hu,ru⟩:=rv.get hx
   obtain ⟨f0,f1,f2,f3,f4,f5⟩:=hf it (by simp)
   refine wpAny_pyNext_list_item st p.isList (x:=u) (by simpa using hu) λ h' qe sb=>?_
   have I1:Inv X pins σ H { s with heap:=h' }:=I.turned (t':=s.toks) (λ b o hb e=>(sb.2 b hb).trans e) f0 f1 f3 f4 f5
   obtain ⟨o,e,c,d⟩:=id qe
   exact ⟨u,rfl,vj (s:={ s with heap:=h' }) e c d (by decide) ⟨x,H,I1,ru,⟨rfl,λ ys hy=>by rw [I.pM hy hq];exact hx⟩,qe,λ b hb=>(hf b hb).1⟩⟩
 done:=by
   intro X hP hw hK hc i pins s σ H E I hf st hg
   subst hP hw hK
   obtain ⟨xs,hq,hx⟩:=hg
   obtain ⟨aR,rv,p,hz⟩:=I.list hq
   obtain ⟨f0,f1,f2,f3,f4,f5⟩:=hf it (by simp)
   have hl:=rv.length
   exact wpAny_pyNext_list_end (I.ok.hd hc) st p.isList (by simp;lia) λ h' eb=>⟨rfl,I.turned (t':=s.toks) (λ b o hb e=>eb b o hb e) f0 f1 f3 f4 f5⟩
 self:=λ _ _ _ _ _ st h=>wpAny_pyIter_listiter st h
theorem wK {P:Program} {w:World} {K:W.Frag} (a it:Addr):Turn P w K tg (Sj K a) [it] it (λ i h=>h.IsTupleIter it a i) where
 mem:=by simp
 obj:=λ i h st b hb=>by
   have e:b=it:=by simpa using hb
   subst e
   obtain ⟨o,e,c,d⟩:=st
   exact ⟨o,e,λ v z=>by rw [d] at z;cases z⟩
 keep:=λ i h h' st k=>st.at λ o e=>k it (by simp) o e
 item:=by
   intro X hP hw hK hc i pins s σ H E I hf st hg
   subst hP hw hK
   obtain ⟨xs,x,hq,hx⟩:=hg
   obtain ⟨aR,rv,p,hz⟩:=I.tuple hq
   obtain ⟨u,hu,ru⟩:=rv.get hx
   obtain ⟨f0,f1,f2,f3,f4,f5⟩:=hf it (by simp)
   refine wpAny_pyNext_tuple_item st (show s.heap.IsTuple a aR.toArray from p) (x:=u) (by simpa using hu) λ h' qe sb=>?_
   have I1:Inv X pins σ H { s with heap:=h' }:=I.turned (t':=s.toks) (λ b o hb e=>(sb.2 b hb).trans e) f0 f1 f3 f4 f5
   obtain ⟨o,e,c,d⟩:=id qe
   exact ⟨u,rfl,vj (s:={ s with heap:=h' }) e c d (by decide) ⟨x,H,I1,ru,⟨rfl,λ ys hy=>by rw [I.rq hy hq];exact hx⟩,qe,λ b hb=>(hf b hb).1⟩⟩
 done:=by
   intro X hP hw hK hc i pins s σ H E I hf st hg
   subst hP hw hK
   obtain ⟨xs,hq,hx⟩:=hg
   obtain ⟨aR,rv,p,hz⟩:=I.tuple hq
   obtain ⟨f0,f1,f2,f3,f4,f5⟩:=hf it (by simp)
   have hl:=rv.length
   exact wpAny_pyNext_tuple_end (I.ok.hd hc) st (show s.heap.IsTuple a aR.toArray from p) (by simp;lia) λ h' eb=>⟨rfl,I.turned (t':=s.toks) (λ b o hb e=>eb b o hb e) f0 f1 f3 f4 f5⟩
 self:=λ _ _ _ _ _ st h=>wpAny_pyIter_tupleiter st h
theorem wx {P:Program} {w:World} {K:W.Frag} (it:Addr) (lo:Int) (n:Nat):Turn P w K tg (F7 lo n) [it] it (λ i h=>IsRangeIter h it (lo+(i:Nat) * 1) ((n:Int) - (i:Nat)) 1) where
 mem:=by simp
 obj:=λ i h st b hb=>by
   have e:b=it:=by simpa using hb
   subst e
   exact ⟨_,st,λ v z=>by
     have z':Data.fields _=Data.cell v:=z
     cases z'⟩
 keep:=λ i h h' st k=>k it (by simp) _ st
 item:=by
   intro X hP hw hK hc i pins s σ H E I hf st hg
   subst hP hw hK
   obtain ⟨f0,f1,f2,f3,f4,f5⟩:=hf it (by simp)
   have W:=Walks.range (prog:=X.prog) (w:=X.w) (I.ok.hd hc) it lo 1 n
   refine W.item i s _ _ hg st λ v h' tk hv qe kk=>?_
   obtain ⟨t,rfl⟩:=hv
   have I1:Inv X pins σ H { s with heap:=h',toks:=tk }:=I.turned (λ b o hb e=>kk b o (by simpa using hb) e) f0 f1 f3 f4 f5
   refine ⟨_,rfl,vj (s:={ s with heap:=h',toks:=tk }) (n:="range_iterator") qe rfl rfl (by decide) ⟨.int (lo+i),H,I1,⟨t,?_⟩,⟨rfl,rfl⟩,qe,λ b hb=>(hf b hb).1⟩⟩
   rw [Int.mul_one]
 done:=by
   intro X hP hw hK hc i pins s σ H E I hf st hg
   subst hP hw hK
   obtain ⟨f0,f1,f2,f3,f4,f5⟩:=hf it (by simp)
   exact wpAny_pyNext_range_end (I.ok.hd hc) st (by have:n<=i:=hg;lia) λ h' eb=>⟨rfl,I.turned (t':=s.toks) (λ b o hb e=>eb b o hb e) f0 f1 f3 f4 f5⟩
 self:=λ _ _ _ _ _ st h=>wpAny_pyIter_rangeiter st h
section
variable {X:Cx} {tg:Expr}
inductive ahO (K:W.Frag) (R:It->Hp->Prop) (x:V) (H1:Hp):Prop
 | mk (a:Addr) (h1:x = .ref a) (h2:∃ xs,bh K H1 a xs) (q:R (GJ K a) H1)
def Nf (K:W.Frag) (tl:TE):TI:=λ σ H R=>tl σ H (ahO K R)
def acg (K:W.Frag) (tl:TE):TI:=λ σ H R=>tl σ H λ x H1=>∃ a,x = .ref a/\(∃ xs,bQ K H1 a xs)/\R (Sj K a) H1
theorem dQ (hl:PE X l tl):PI X tg l (Nf X.K tl):=by
 intro pins s σ H R I h
 refine cz (hl pins s σ H _ I h) λ v s1 ⟨x,H1,I1,r1,q1⟩=>?_
 obtain ⟨a,e,⟨xs,hq⟩,q⟩:=q1
 subst e
 cases r1
 obtain ⟨aR,rv,p,hz⟩:=I1.list hq
 refine wpAny_pyIter_list p.isList ?_
 refine ⟨s1.heap.objs.size,[s1.heap.objs.size],_,_,H1,rfl,I1.kept (t':=s1.toks) λ b o e=>aao _ e,zL a _,⟨_,aa4 _ rfl,rfl,rfl⟩,λ b hb=>?_,q⟩
 have e:b=s1.heap.objs.size:=by simpa using hb
 subst e
 exact I1.ux (aau _) (I1.bo.fresh (aau _))
theorem IH (hl:PE X l tl):PI X tg l (acg X.K tl):=by
 intro pins s σ H R I h
 refine cz (hl pins s σ H _ I h) λ v s1 ⟨x,H1,I1,r1,q1⟩=>?_
 obtain ⟨a,e,⟨xs,hq⟩,q⟩:=q1
 subst e
 cases r1
 obtain ⟨aR,rv,p,hz⟩:=I1.tuple hq
 refine amE (show s1.heap.IsTuple a aR.toArray from p) ?_
 refine ⟨s1.heap.objs.size,[s1.heap.objs.size],_,_,H1,rfl,I1.kept (t':=s1.toks) λ b o e=>aao _ e,wK a _,⟨_,aa4 _ rfl,rfl,rfl⟩,λ b hb=>?_,q⟩
 have e:b=s1.heap.objs.size:=by simpa using hb
 subst e
 exact I1.ux (aau _) (I1.bo.fresh (aau _))
theorem Cf {s:Shared} {R:It->Hp->Prop} {E:Value->Shared->Prop} {hi:Int} {t u v:Tok} {tk:Nat} (I:Inv X pins σ H s) (h1 : -(2 ^ 62)<=lo) (h2:lo<2 ^ 62) (h3 : -(2 ^ 62)<=hi) (h4:hi<2 ^ 62) (q:R (F7 lo (hi - lo).toNat) H):wpAny (model X.prog X.w) X.A (pyIter (.ref s.heap.objs.size)) (PIE X pins σ tg R) E { s with heap:=s.heap.push { cls:=.type "range",data:=.fields #[.int lo t,.int hi u,.int 1 v]},toks:=tk }:=by
 refine wpAny_pyIter_range (IsRange.new ..) (small_one h1 h2 h3 h4) ?_
 have I1:Inv X pins σ H { s with heap:=s.heap.push { cls:=.type "range",data:=.fields #[.int lo t,.int hi u,.int 1 v]},toks:=tk }:=I.kept λ b o e=>aao _ e
 refine ⟨(s.heap.push { cls:=.type "range",data:=.fields #[.int lo t,.int hi u,.int 1 v]}).objs.size,[(s.heap.push { cls:=.type "range",data:=.fields #[.int lo t,.int hi u,.int 1 v]}).objs.size],_,_,H,rfl,
   I1.kept (t':=tk) λ b o e=>aao _ e,wx _ lo (hi - lo).toNat,?_,λ b hb=>?_,q⟩
 .
  have e1:lo+((0:Nat):Int) * 1=lo:=by simp
  have e2:(((hi - lo).toNat:Nat):Int) - ((0:Nat):Int)=Builtin.Range.rangeSize lo hi 1:=by rw [rangeSize_one];split<;>lia
  show IsRangeIter _ _ (lo+((0:Nat):Int) * 1) ((((hi - lo).toNat:Nat):Int) - ((0:Nat):Int)) 1
  rw [e1,e2]
  exact aa4 _ rfl
 . have e:b=(s.heap.push { cls:=.type "range",data:=.fields #[.int lo t,.int hi u,.int 1 v]}).objs.size:=by simpa using hb
   subst e
   exact I1.ux (aau _) (I1.bo.fresh (aau _))
inductive agA (R:It->Hp->Prop) (vs:List V) (H1:Hp):Prop
 | mk (j:Int) (h1:vs=[.int j]) (h2 : -(2 ^ 62)<=j) (h3:j<2 ^ 62) (q:R (F7 0 j.toNat) H1)
def NH (ta:TA):TI:=λ σ H R=>ta σ H (agA R)
theorem cg {a:Expr} {ta:TA} {p:Pos} (hg:Gl X "range") (hm:X.mg "range" = none) (ha:PA X [a] ta) (hs:starEach [a] X.env=[(false,eval a X.env)]:=by rfl):PI X tg (.Call (.Name "range" p) [a] [] pos) (NH ta):=by
 intro pins s σ H R I h
 refine Call_ (lH I hg hm boot_range (akg (cz (ha pos pins s σ H _ I h) λ us s1 ⟨vs,H1,I1,r1,q1⟩=>?_) hs rfl))
 obtain ⟨j,e,q1,q2,q⟩:=q1
 subst e
 cases r1 with
 | cons r rr =>
   cases rr
   obtain ⟨t,rfl⟩:=r
   exact call_range_1 (Cf I1 (by lia) (by lia) q1 q2 (by simpa using q))
def ag7 (wi:TI) (g:TG) (tb:TS):TS:=λ D σ H=>wi σ H λ J H1=>∃ W:Nat->Nat->St->Hp->Prop,(∃ m,W 0 m σ H1)/\∀ i m σ H,W i m σ H ->
 (J.stop i H/\D.nx σ H)∨(J.go i H/\∃ N:St->Hp->Prop,(∀ σ' H',N σ' H'->∃ m',m'<m/\W (i+1) m' σ' H')/\∀ x H',J.Ah i H x H'->g x σ H' λ σ2 H2=>tb { D with nx:=N,ct:=N,bk:=D.nx } σ2 H2)
def pS (fp:List Addr) (h:Heap):List (Addr×Obj):=fp.filterMap λ b=>(h.get? b).map λ o=>(b,o)
theorem ii {h:Heap} {b:Addr} {o:Obj} (hb:b∈fp) (e:h.get? b=some o):(b,o)∈pS fp h:=List.mem_filterMap.mpr ⟨b,hb,by rw [e];rfl⟩
theorem zu {h:Heap} {p:Addr×Obj} (hp:p∈pS fp h):p.1∈fp/\h.get? p.1=some p.2:=by
 obtain ⟨b,hb,e⟩:=List.mem_filterMap.mp hp
 cases q:h.get? b with
 | none=>rw [q] at e;cases e
 | some o =>
   rw [q] at e
   have e':(b,o)=p:=abb e
   subst e'
   exact ⟨hb,q⟩
theorem Inv.pinned {s:Shared} (I:Inv X pins σ H s) (hf:∀ b∈fp,qz X pins H b) (ho:∀ b∈fp,∃ o,s.heap.get? b=some o/\∀ v,o.data ≠ .cell v):Inv X (pins++pS fp s.heap) σ H s :=
 I.yH λ p hp=>(List.mem_append.mp hp).elim (λ z=>I.pin p (acO _ z)) λ z=>by
   obtain ⟨hb,e⟩:=zu z
   obtain ⟨f0,f1,f2,_⟩:=hf p.1 hb
   obtain ⟨o,e',d⟩:=ho p.1 hb
   rw [e] at e';cases e'
   exact ⟨e,f0,f1,f2,d⟩
theorem Inv.kH {pl:List (Addr×Obj)} {s:Shared} (I:Inv X (pins++pl) σ H s):Inv X pins σ H s:=I.yH λ p hp=>I.pin p (acO _ (aik _ hp))
theorem df {iter:Expr} {body:List Stmt} {wi:TI} (hp:PassesOwn (model X.prog X.w) X.A X.env X.xe) (hc:X.calm=true) (hi:PI X tg iter wi) (hg:PG X tg g) (hb:mP X body tb) (hs:∀ x,foldedSetIterable iter X.env x=pure x:=by intro _;rfl):PS X (.For tg iter body [] pos) (ag7 wi g tb):=by
 intro pins s σ H D I h
 refine wpAny_For (cz (hi pins s σ H _ I h) λ v s1 h1=>cz h1 λ itv s2 h2=>?_) hs
 obtain ⟨it,fp,tn,J,H2,e,I2,T,Wx,f2,W,⟨m0,w0⟩,turn⟩:=h2
 subst e
 have IW:∀ {H':Hp},(∀ b∈fp,H' b=none)->∀ b∈fp,qz X pins H' b:=λ hn b hb=>⟨hn b hb,(f2 b hb).2⟩
 refine codeAny_forLoop_any (λ n s'=>∃ i σ' H',Inv X pins σ' H' s'/\tn i s'.heap/\(∀ b∈fp,H' b=none)/\W i n σ' H') ?_ m0 ⟨0,σ,H2,I2,Wx,λ b hb=>(f2 b hb).1,w0⟩
 rintro n s3 ⟨i,σ3,H3,I3,st3,fr3,w3⟩
 rcases turn i n σ3 H3 w3 with ⟨stop,qn⟩|⟨go,N,hN,step⟩
 . refine alY hp (cz (T.done X rfl rfl rfl hc i pins s3 σ3 H3 X.xe I3 (IW fr3) st3 stop) λ r s4 ⟨hr,I4⟩=>?_)
   subst hr
   exact akr ⟨σ3,H3,I4,qn⟩
 .
  refine alY hp (cz (T.item X rfl rfl rfl hc i pins s3 σ3 H3 X.xe I3 (IW fr3) st3 go) λ r s4 ⟨u,hr,h4⟩=>?_)
  subst hr
  refine alY hp (cz h4 λ _ s5 ⟨x,H5,I5,r5,y5,Ac,WH⟩=>?_)
  have I5':=I5.pinned (IW WH) (T.obj _ _ Ac)
  refine alY hp (cz (hg _ s5 σ3 H5 x u _ I5' r5 (step x H5 y5)) λ _ s6 ⟨σ6,H6,I6,q6⟩=>?_)
  refine alY hp (cz (hb _ s6 σ6 H6 _ I6 q6) λ f s7 q7=>?_)
  have again:∀ {σ7:St} {H7:Hp},Inv X (pins++pS fp s5.heap) σ7 H7 s7->N σ7 H7->∃ m,m<n/\∃ i σ' H',Inv X pins σ' H' s7/\tn i s7.heap/\(∀ b∈fp,H' b=none)/\W i m σ' H':=λ {σ7 H7} I7 n7=>by
    obtain ⟨m',hm,w7⟩:=hN σ7 H7 n7
    refine ⟨m',hm,i+1,σ7,H7,I7.kH,T.keep _ _ _ Ac λ b hb o e=>(I7.pin (b,o) (acO _ (acO _ (ii hb e)))).1,λ b hb=>?_,w7⟩
    obtain ⟨o,e,d⟩:=T.obj _ _ Ac b hb
    exact (I7.pin (b,o) (acO _ (acO _ (ii hb e)))).2.1
  cases f with
  | next=>obtain ⟨σ7,H7,I7,n7⟩:=q7;exact again I7 n7
  | cont=>obtain ⟨σ7,H7,I7,n7⟩:=q7;exact again I7 n7
  | brk=>obtain ⟨σ7,H7,I7,q7⟩:=q7;exact ⟨σ7,H7,I7.kH,q7⟩
  | ret v=>obtain ⟨x7,σ7,H7,I7,r7,q7⟩:=q7;exact ⟨x7,σ7,H7,I7.kH,r7,q7⟩
end
theorem Dk {K:W.Frag} {a:Addr} {D:Ends} (Pv:Nat->St->Hp->Prop) (h0:Pv 0 σ H) (hl:∀ i σ H,i<=xs.length->Pv i σ H->bh K H a xs) (hs:∀ i x σ H,xs[i]?=some x->Pv i σ H->g x σ H λ σ2 H2=>tb { D with nx:=Pv (i+1),ct:=Pv (i+1),bk:=D.nx } σ2 H2) (hd:∀ σ H,Pv xs.length σ H->D.nx σ H) :
   ∃ W:Nat->Nat->St->Hp->Prop,(∃ m,W 0 m σ H)/\∀ i m σ H,W i m σ H ->
     ((GJ K a).stop i H/\D.nx σ H)∨((GJ K a).go i H/\∃ N:St->Hp->Prop,(∀ σ' H',N σ' H'->∃ m',m'<m/\W (i+1) m' σ' H')/\∀ x H',(GJ K a).Ah i H x H'->g x σ H' λ σ2 H2=>tb { D with nx:=N,ct:=N,bk:=D.nx } σ2 H2):=by
 refine ⟨λ i m σ H=>m=xs.length - i/\i<=xs.length/\Pv i σ H,⟨xs.length,by simp,afL _,h0⟩,?_⟩
 rintro i m σ H ⟨rfl,hi,p⟩
 have q:=hl i σ H hi p
 by_cases dF:i<xs.length
 .
  refine .inr ⟨⟨xs,xs[i],q,by simp [dF]⟩,Pv (i+1),λ σ' H' p'=>⟨xs.length - (i+1),by lia,rfl,dF,p'⟩,λ x H' y=>?_⟩
  obtain ⟨e,y⟩:=y
  subst e
  exact hs i x σ _ (y xs q) p
 . have e:i=xs.length:=by lia
   subst e
   exact .inl ⟨⟨xs,q,aau _⟩,hd σ H p⟩
theorem se {n:Nat} {D:Ends} (Pv:Nat->St->Hp->Prop) (h0:Pv 0 σ H) (hs:∀ i σ H,i<n->Pv i σ H->g (.int (lo+i)) σ H λ σ2 H2=>tb { D with nx:=Pv (i+1),ct:=Pv (i+1),bk:=D.nx } σ2 H2) (hd:∀ σ H,Pv n σ H->D.nx σ H) :
   ∃ W:Nat->Nat->St->Hp->Prop,(∃ m,W 0 m σ H)/\∀ i m σ H,W i m σ H ->
     ((F7 lo n).stop i H/\D.nx σ H)∨((F7 lo n).go i H/\∃ N:St->Hp->Prop,(∀ σ' H',N σ' H'->∃ m',m'<m/\W (i+1) m' σ' H')/\∀ x H',(F7 lo n).Ah i H x H'->g x σ H' λ σ2 H2=>tb { D with nx:=N,ct:=N,bk:=D.nx } σ2 H2):=by
 refine ⟨λ i m σ H=>m=n - i/\i<=n/\Pv i σ H,⟨n,by simp,afL _,h0⟩,?_⟩
 rintro i m σ H ⟨rfl,hi,p⟩
 by_cases dF:i<n
 .
  refine .inr ⟨dF,Pv (i+1),λ σ' H' p'=>⟨n - (i+1),by lia,rfl,dF,p'⟩,λ x H' y=>?_⟩
  obtain ⟨e,y⟩:=y
  subst e y
  exact hs i σ _ dF p
 . have e:i=n:=by lia
   subst e
   exact .inl ⟨aau _,hd σ H p⟩
abbrev R2:=V->V->Hp->VK->Prop
def iU (X:Cx) (f:Value->Value->Sem Value) (r:R2):Prop :=
 ∀ (pins:List (Addr×Obj)) (s:Shared) (σ:St) (H:Hp) (x y:V) (v u:Value) (Q:VK),Inv X pins σ H s->RelV x v->RelV y u->r x y H Q ->
   wpAny (model X.prog X.w) X.A (f v u) (EP X pins σ Q) X.xe s
def fG (X:Cx) (f:Value) (r:List V->Hp->VK->Prop):Prop :=
 ∀ (pins:List (Addr×Obj)) (s:Shared) (σ:St) (H:Hp) (xs:List V) (us:List Value) (Q:VK),Inv X pins σ H s->Vals xs us->r xs H Q ->
   wpAny (model X.prog X.w) X.A (call f us) (EP X pins σ Q) X.xe s
def WA (r:R2) (ta tb:TE):TE:=λ σ H Q=>ta σ H λ x H1=>tb σ H1 λ y H2=>r x y H2 Q
inductive rI (C:Int->Int->Prop) (g:Int->Int->V) (x:V) (y:V) (H:Hp) (Q:VK):Prop
 | mk (i j:_) (_:x = .int i) (_:y = .int j) (_:C i j) (_:Q (g i j) H)
inductive DW (g:Int->Int->V) (x:V) (y:V) (H:Hp) (Q:VK):Prop
 | mk (i j:_) (_:x = .int i) (_:y = .int j) (_:Q (g i j) H)
section
variable {X:Cx} {a b c:Expr} {ta tb tc:TE} {pos:Pos}
theorem Iv (ha:PE X a ta) (hb:PE X b tb) {s:Shared} {R:V->V->Hp->Prop} (I:Inv X pins σ H s) (h:ta σ H λ x H1=>tb σ H1 λ y H2=>R x y H2) {Q:Value->Shared->Prop} {f:Value->Value->Sem Value} (hf:∀ v u s2 x y H2,Inv X pins σ H2 s2->RelV x v->RelV y u->R x y H2->wpAny (model X.prog X.w) X.A (f v u) Q X.xe s2) :
   wpAny (model X.prog X.w) X.A (eval a X.env) (λ v s₁=>wpAny (model X.prog X.w) X.A (eval b X.env) (λ u s₂=>wpAny (model X.prog X.w) X.A (f v u) Q X.xe s₂) X.xe s₁) X.xe s:=by
 refine cz (ha pins s σ H _ I h) λ v s1 ⟨x,H1,I1,r1,q1⟩=>?_
 refine cz (hb pins s1 σ H1 _ I1 q1) λ u s2 ⟨y,H2,I2,r2,q2⟩=>?_
 exact hf v u s2 x y H2 I2 r1 r2 q2
theorem az {op:Operator} {r:R2} (ho:iU X (binaryOp op) r) (ha:PE X a ta) (hb:PE X b tb):PE X (.BinOp a op b pos) (WA r ta tb):=by
 intro pins s σ H Q I h
 exact wpAny_BinOp (Iv ha hb I h λ v u s2 x y H2 I2 rx ry q=>ho pins s2 σ H2 x y v u Q I2 rx ry q)
theorem Ma {f:Value->Value->Sem Value} {C:Int->Int->Prop} {g:Int->Int->Int} (rule:∀ (i j:Int) (t u:Tok) (s:Shared) (Q:Value->Shared->Prop) (E:Value->Shared->Prop),C i j->Q (.int (g i j) s.toks) { s with toks:=s.toks+1 }->wpAny (model X.prog X.w) X.A (f (.int i t) (.int j u)) Q E s) :
   iU X f (rI C λ i j => .int (g i j)):=by
 intro pins s σ H x y v u Q I rx ry h
 obtain ⟨i,j,rfl,rfl,hc,q⟩:=h
 obtain ⟨t,rfl⟩:=rx
 obtain ⟨t',rfl⟩:=ry
 exact rule i j t t' s _ _ hc ⟨.int (g i j),H,I.tok _,⟨_,rfl⟩,q⟩
theorem EG {f:Value->Value->Sem Value} {g:Int->Int->Int} (rule:∀ (i j:Int) (t u:Tok) (s:Shared) (Q:Value->Shared->Prop) (E:Value->Shared->Prop),Q (.int (g i j) s.toks) { s with toks:=s.toks+1 }->wpAny (model X.prog X.w) X.A (f (.int i t) (.int j u)) Q E s) :
   iU X f (DW λ i j => .int (g i j)):=by
 intro pins s σ H x y v u Q I rx ry h
 obtain ⟨i,j,rfl,rfl,q⟩:=h
 obtain ⟨t,rfl⟩:=rx
 obtain ⟨t',rfl⟩:=ry
 exact rule i j t t' s _ _ ⟨.int (g i j),H,I.tok _,⟨_,rfl⟩,q⟩
theorem FS {f:Value->Value->Sem Value} {g:Int->Int->Bool} (rule:∀ (i j:Int) (t u:Tok) (s:Shared) (Q:Value->Shared->Prop) (E:Value->Shared->Prop),Q (.bool (g i j)) s->wpAny (model X.prog X.w) X.A (f (.int i t) (.int j u)) Q E s) :
   iU X f (DW λ i j => .bl (g i j)):=by
 intro pins s σ H x y v u Q I rx ry h
 obtain ⟨i,j,rfl,rfl,q⟩:=h
 obtain ⟨t,rfl⟩:=rx
 obtain ⟨t',rfl⟩:=ry
 exact rule i j t t' s _ _ ⟨.bl (g i j),H,I,rfl,q⟩
def RI (i j:Int):Prop:=0<=j/\j<=1000000/\i.natAbs<2 ^ 64
theorem wB (k:Nat):(0:Int)<=2 ^ k:=by
 rw [two_pow_cast]
 exact alU _
theorem Jp:iU X (binaryOp .Add) (DW λ i j => .int (i+j)):=EG λ _ _ _ _ _ _ _ q=>add_int q
theorem II:iU X (binaryOp .Sub) (DW λ i j => .int (i - j)):=EG λ _ _ _ _ _ _ _ q=>sub_int q
theorem Jb:iU X (binaryOp .Mod) (rI (λ _ j=>0<j) λ i j => .int (i % j)):=Ma λ i j _ _ _ _ _ hc q=>by
 have h1:(0:Int)<j:=hc
 exact mod_int' (by lia) (by rw [amI i (by lia)];exact q)
theorem Jk:iU X (binaryOp .LShift) (rI RI λ i j => .int (i * 2 ^ j.toNat)):=Ma λ _ _ _ _ _ _ _ hc q=>lshift_int_small hc.1 hc.2.1 hc.2.2 q
theorem JV:iU X (binaryOp .RShift) (rI (λ _ j=>0<=j) λ i j => .int (i / 2 ^ j.toNat)):=Ma λ i j _ _ _ _ _ hc q =>
 rshift_int hc (by rw [agx i (wB _)];exact q)
theorem IF:iU X (binaryOp .BitAnd) (DW λ i j => .int (Builtin.bitAnd i j)):=EG λ _ _ _ _ _ _ _ q=>and_int q
theorem O2:iU X (binaryOp .BitOr) (DW λ i j => .int (Builtin.bitOr i j)):=EG λ _ _ _ _ _ _ _ q=>or_int q
end
def ajY:V->V->Bool
 | .dC,.dC=>true | .dC,.int _=>true | .int _,.dC=>true | .dC,.bl _=>true | .bl _,.dC=>true | .dC,.str _=>true | .str _,.dC=>true
 | .int _,.int _=>true | .bl _,.bl _=>true | .str _,.str _=>true | .BP _,.BP _=>true
 | .int _,.str _=>true | .str _,.int _=>true | .bl _,.str _=>true | .str _,.bl _=>true
 | _,_=>false
def rEq:R2:=λ x y H Q=>ajY x y=true/\Q (.bl (decide (x=y))) H
theorem yp {i j:Int}:decide (V.int i=V.int j)=(i == j):=by
 rw [alN]
 simp
theorem IN {i j:Bool}:decide (V.bl i=V.bl j)=(i == j):=by
 rw [alN]
 simp
theorem Ea {i j:Str}:decide (V.str i=V.str j)=(i == j):=by
 rw [alN]
 simp
theorem Em {i j:Array UInt8}:decide (V.BP i=V.BP j)=(i.toList == j.toList):=by
 rw [alN]
 cases i
 cases j
 simp
section
variable {X:Cx} {a b c:Expr} {ta tb tc:TE} {pos:Pos}
theorem dG {s:Shared} {k k':Bool} (I:Inv X pins σ H s) (q:Q (.bl k) H) (e:k=k'):EP X pins σ Q (.bool k') s:=by
 subst e
 exact ⟨.bl k,H,I,rfl,q⟩
theorem cO:iU X (compareOp .Eq) rEq:=by
 intro pins s σ H x y v u Q I rx ry h
 obtain ⟨hs,q⟩:=h
 cases x with
 | dC =>
   cases rx
   cases y with
   | dC=>cases ry;exact PySem.EqNone.eq_none_none (dG I q (by simp))
   | bl j=>cases ry;exact PySem.EqNone.eq_none_bool (dG I q (by simp))
   | int j=>obtain ⟨t',rfl⟩:=ry;exact PySem.EqNone.eq_none_int (dG I q (by simp))
   | str j=>obtain ⟨t',rfl⟩:=ry;exact PySem.EqNone.eq_none_str (dG I q (by simp))
   | _=>exact absurd (show false=true from hs) abS
 | bl i =>
   cases rx
   cases y with
   | dC=>cases ry;exact PySem.EqNone.eq_bool_none (dG I q (by simp))
   | bl j=>cases ry;exact eq_bool (dG I q IN)
   | str j=>obtain ⟨t',rfl⟩:=ry;exact PySem.EqMixed.eq_bool_str (dG I q (by simp))
   | _=>exact absurd (show false=true from hs) abS
 | int i =>
   obtain ⟨t,rfl⟩:=rx
   cases y with
   | dC=>cases ry;exact PySem.EqNone.eq_int_none (dG I q (by simp))
   | int j=>obtain ⟨t',rfl⟩:=ry;exact eq_int (dG I q yp)
   | str j=>obtain ⟨t',rfl⟩:=ry;exact PySem.EqMixed.eq_int_str (dG I q (by simp))
   | _=>exact absurd (show false=true from hs) abS
 | str i =>
   obtain ⟨t,rfl⟩:=rx
   cases y with
   | dC=>cases ry;exact PySem.EqNone.eq_str_none (dG I q (by simp))
   | bl j=>cases ry;exact PySem.EqMixed.eq_str_bool (dG I q (by simp))
   | int j=>obtain ⟨t',rfl⟩:=ry;exact PySem.EqMixed.eq_str_int (dG I q (by simp))
   | str j=>obtain ⟨t',rfl⟩:=ry;exact eq_str (dG I q Ea)
   | _=>exact absurd (show false=true from hs) abS
 | BP i =>
   obtain ⟨t,rfl⟩:=rx
   cases y with
   | BP j=>obtain ⟨t',rfl⟩:=ry;exact W.eq_bytes (dG I q Em)
   | _=>exact absurd (show false=true from hs) abS
 | _=>cases y<;>exact absurd (show false=true from hs) abS
theorem jP:iU X (compareOp .Lt) (DW λ i j => .bl (decide (i<j))):=FS λ _ _ _ _ _ _ _ q=>lt_int q
theorem Gq:iU X (compareOp .LtE) (DW λ i j => .bl (decide (i<=j))):=FS λ _ _ _ _ _ _ _ q=>le_int q
theorem kW:iU X (compareOp .Gt) (DW λ i j => .bl (decide (j<i))):=FS λ _ _ _ _ _ _ _ q=>gt_int q
theorem GK:iU X (compareOp .GtE) (DW λ i j => .bl (decide (j<=i))):=FS λ _ _ _ _ _ _ _ q=>ge_int q
theorem lW:iU X (compareOp .Is) (λ x y H Q=>y = .dC/\Q (.bl (decide (x = .dC))) H):=by
 intro pins s σ H x y v u Q I rx ry h
 obtain ⟨rfl,q⟩:=h
 cases ry
 refine is_none_gen (dG I q ?_)
 cases x<;>first
   | (cases rx;rfl)
   | (obtain ⟨t,rfl⟩:=rx;rfl)
theorem aK (b:Expr) {op:CmpOp} (h:op ≠ .In:=by decide) (h2:op ≠ .NotIn:=by decide):behindInMarks op b=false:=by
 have e1:(op == CmpOp.In)=false:=by cases op<;>first|rfl|exact absurd rfl h
 have e2:(op == CmpOp.NotIn)=false:=by cases op<;>first|rfl|exact absurd rfl h2
 cases b<;>simp [behindInMarks,e1,e2]
theorem fu {op:CmpOp} {r:R2} (ho:iU X (compareOp op) r) (ha:PE X a ta) (hb:PE X b tb) (hm:behindInMarks op b=false):PE X (.Compare a [op] [b] pos) (WA r ta tb):=by
 intro pins s σ H Q I h
 exact wpAny_Compare1 (Iv ha hb I h λ v u s2 x y H2 I2 rx ry q=>ho pins s2 σ H2 x y v u Q I2 rx ry q) hm
inductive adN (Q:Bool->Hp->Prop) (x:V) (H:Hp):Prop
 | mk (k:Bool) (h:x = .bl k) (q:Q k H)
def Ia (t:TE):TT:=λ σ H Q=>t σ H (adN Q)
theorem aJ {op:CmpOp} {r:R2} (ho:iU X (compareOp op) r) (ha:PE X a ta) (hb:PE X b tb) (hm:behindInMarks op b=false):PT X (.Compare a [op] [b] pos) (Ia (WA r ta tb)):=by
 intro pins s σ H Q I h
 refine wpAny_isTrue_Compare1 (cz (ha pins s σ H _ I h) λ v s1 ⟨x,H1,I1,r1,q1⟩=>cz (hb pins s1 σ H1 _ I1 q1) λ u s2 ⟨y,H2,I2,r2,q2⟩ =>
   cz (ho pins s2 σ H2 x y v u _ I2 r1 r2 q2) λ c s3 ⟨z,H3,I3,r3,k,e,q3⟩=>?_) hm
 subst e
 cases r3
 exact aiV ⟨H3,I3,q3⟩
def JO (r r':R2) (ta tb tc:TE):TE:=λ σ H Q=>ta σ H λ x H1=>tb σ H1 λ y H2=>r x y H2 λ z H3=>∃ k,z = .bl k /\
 (if k=true then tc σ H3 λ w' H4=>r' y w' H4 Q else Q (.bl false) H3)
theorem CC {op YJ:CmpOp} {r r':R2} (ho:iU X (compareOp op) r) (ut:iU X (compareOp YJ) r') (ha:PE X a ta) (hb:PE X b tb) (hc:PE X c tc) (hm:lastMarks [op,YJ] [b,c]=false:=by with_unfolding_all rfl):PT X (.Compare a [op,YJ] [b,c] pos) (Ia (JO r r' ta tb tc)):=by
 intro pins s σ H Q I h
 refine isTrue_chain (cz (ha pins s σ H _ I h) λ v s1 ⟨x,H1,I1,r1,q1⟩=>test_link (cz (hb pins s1 σ H1 _ I1 q1) λ u s2 ⟨y,H2,I2,r2,q2⟩ =>
   cz (ho pins s2 σ H2 x y v u _ I2 r1 r2 q2) λ d s3 ⟨z,H3,I3,r3,k,e,q3⟩=>?_)) hm
 subst e
 cases r3
 refine aiV ?_
 cases k with
 | false =>
   obtain ⟨k',e',q'⟩:=q3
   cases e'
   exact ite_ff ⟨H3,I3,q'⟩
 | true =>
   refine ite_tt (test_last (cz (hc pins s3 σ H3 _ I3 q3) λ w' s4 ⟨z',H4,I4,r4,q4⟩=>cz (ut pins s4 σ H4 y z' u w' _ I4 r2 r4 q4) λ d' s5 ⟨z2,H5,I5,r5,k2,e2,q5⟩=>?_))
   subst e2
   cases r5
   exact aiV ⟨H5,I5,q5⟩
theorem tN:(sizeLine:Nat)<2 ^ 63:=by rw [amc];decide
theorem vals1 {x:V} (r:Vals [x] us):∃ u,us=[u]/\RelV x u:=by
 cases r with
 | cons r1 r2=>cases r2;exact ⟨_,rfl,r1⟩
theorem vals2 {x y:V} (r:Vals [x,y] us):∃ u w',us=[u,w']/\RelV x u/\RelV y w':=by
 cases r with
 | cons r1 r2 =>
   cases r2 with
   | cons r3 r4=>cases r4;exact ⟨_,_,rfl,r1,r3⟩
theorem zE:fG X (.type "int") (λ xs H Q=>(∃ i,xs=[.int i]/\Q (.int i) H)∨∃ k,xs=[.bl k]/\Q (.int (if k then 1 else 0)) H):=by
 intro pins s σ H xs us Q I r h
 rcases h with ⟨i,rfl,q⟩|⟨k,rfl,q⟩
 . obtain ⟨u,rfl,t,rfl⟩:=vals1 r
   exact call_int_int ⟨.int i,H,I,⟨_,rfl⟩,q⟩
 . obtain ⟨u,rfl,r1⟩:=vals1 r
   cases r1
   exact call_int_bool ⟨.int (if k then 1 else 0),H,I.tok _,⟨_,rfl⟩,q⟩
end
structure xg (h:Heap) (x dx C:Addr) (mA:Str->Option Value):Prop where
 obj:h.get? x=some (W.instObj C dx)
 ns:h.Ns1 dx mA
 ne:dx≠x
theorem zA {h:Heap} {mA:Str->Option Value} (n:h.Ns1 dx mA):∃ od,h.get? dx=some od/\∀ name,W.lookIn name od=some (mA name):=by
 obtain ⟨o,es,ep,ho,hd,hk,_,hm⟩:=n
 refine ⟨o,ho,λ name=>?_⟩
 have e:=hm name
 unfold nsFind findBy at e
 rw [← Array.find?_toList] at e
 unfold W.lookIn
 rw [hd]
 dsimp only
 split
 . rename_i y q
   rw [q] at e
   exact alR some e
 .
  rename_i q
  rw [q] at e
  have a:es.toList.any (·.refKey)=false:=by
    rw [List.any_eq_false]
    intro y hy
    obtain ⟨z,t,ZQ⟩:=hk y (Array.mem_toList_iff.mp hy)
    simp [DictEntry.refKey,ZQ]
  have a':¬ es.toList.any (·.refKey)=true:=by rw [a];exact abS
  rw [adH a']
  exact alR some e
theorem xg.look {h:Heap} {x:Addr} {mA:Str->Option Value} (I:xg h x dx C mA):∃ od,W.InstAt h x (W.instObj C dx) C (some od)/\∀ name,W.lookIn name od=some (mA name) :=
 let ⟨od,ho,hl⟩:=zA I.ns
 ⟨od,⟨I.obj,rfl,rfl,ho⟩,hl⟩
section
variable {prog:Program} {w:World} {A:Around} {E:Value->Shared->Prop} {s:Shared} {K:W.Frag} {x dx C f:Addr} {mA:Str->Option Value} {name:Str} {v:Value}
theorem get_map {expr:Bool} {Q:Value->Shared->Prop} (X:K.In s.heap) (I:xg s.heap x dx C mA) (hg:W.plainGet K C name=true) (hh:W.hasDictIn K C=true) (ha:W.findIn K (.ref C) name=some none) (hv:mA name=some v) (hv':W.handedIn v=true) (h:Q v { s with toks:=s.toks+1 }) :
   wpAny (model prog w) A (getAttr (.ref x) name expr) Q E s:=by
 obtain ⟨od,J,hl⟩:=I.look
 exact W.get_value X J (W.plainGet_of hg).1 (W.findObj_own hh ha rfl (by rw [hl,hv])) hv' h
theorem CP {pl:Sem Bool} {Q:Value×List Value->Shared->Prop} (X:K.In s.heap) (I:xg s.heap x dx C mA) (hg:W.plainGet K C name=true) (hf:W.findIn K (.ref C) name=some (some (.ref f))) (ht:W.isFn K (.ref f)=true) (hv:mA name=none) (h:Q (.ref f,[.ref x]) s) :
   wpAny (model prog w) A (getMethod (.ref x) name pl) Q E s:=by
 obtain ⟨od,J,hl⟩:=I.look
 exact W.method_fn X J (W.plainGet_of hg).1 (W.plainGet_of hg).2 hf (beq_iff_eq.mp ht) (by show (W.lookIn name od).map (·.isSome)=some false;rw [hl,hv];rfl) h
theorem Ep {ns:List Str} {Q:Unit->Shared->Prop} (X:K.In s.heap) (I:xg s.heap x dx C mA) (hs:W.findIn K (.ref C) "__setattr__" = some (some (.builtin "object.__setattr__"))) (hp:W.plainOver K C=true) (ht:W.takerIn K C name=some none) (hh:W.hasDictIn K C=true) (hw:PySem.Within mA ns) (hsz:ns.length<=sizeLine) (h:∀ h',xg h' x dx C (λ y=>if y=name then some v else mA y)->Heap.SameBut dx s.heap h'->Q () { s with heap:=h',toks:=s.toks+2 }) :
   wpAny (model prog w) A (setAttr (.ref x) name v) Q E s:=by
 obtain ⟨od,J,hl⟩:=I.look
 refine W.set_plain X J hs (W.osa_open (s:={ s with toks:=s.toks+1 }) (r:=none) X J hp ht λ b=>?_)
 obtain ⟨cd,hc,P4⟩:=W.any_some hh
 have hx:s.heap.get? x=some ⟨.ref C,some dx,.plain,#[]⟩:=I.obj
 refine wF (aaJ (wF (wF (wpAny_loadPart hx (wF (W.Looks.here (s:={ s with toks:=s.toks+1 }) (W.looks_clsIn X hc) ?_))))))
 rw [P4]
 refine aaJ (a:=some dx) (wF (aaJ (wF ?_)))
 refine wpAny_nsSet1 (s:={ s with toks:=s.toks+1 }) I.ns λ h' hn2 Uo=>?_
 obtain ⟨oD,esD,epD,hoD,hdD,hcD⟩:=hn2.count (PySem.Within.cons name v hw)
 refine wF (wpAny_lookBehind hoD (by rw [hdD];exact pastItsLine_dict (afi hcD (by rw [aj2];lia))) ?_)
 exact aaJ (h _ ⟨(Uo.2 _ (alK I.ne)).trans I.obj,hn2,I.ne⟩ Uo)
theorem uZ {R:Result->Shared->Prop} {vs:List Value} {kw:List (Str×Value)} (X:K.In s.heap) (hm:W.makesIn K C=true) (hi:W.findIn K (.ref C) "__init__" = some (some (.ref f))) (hf:W.typeIn K (.ref f)=some (.type "function")) (h:codeAny (model prog w) (A.under (.builtin "type.__call__" ⟨.ref C::vs,kw⟩)) (.call (.ref f) ⟨.ref (s.heap.objs.size+1)::vs,kw⟩) (W.InitBack (s.heap.objs.size+1) R)
     { s with heap:=(s.heap.push W.emptyDict).push (W.instObj C s.heap.objs.size)}) :
   codeAny (model prog w) A (.call (.ref C) ⟨vs,kw⟩) R s:=by
 obtain ⟨hh,g,d,t,os⟩:=s
 exact W.make_core (W.makes_of X hm) (al3 X hi) (λ self=>W.bind_fn X self hf) (.inl rfl) h
end
def dE (f:Str) (v:V):List (Str×V)->List (Str×V)
 | []=>[(f,v)]
 | (g,x)::r=>if g=f then (g,v)::r else (g,x)::dE f v r
theorem mB (f g:Str) (v:V):∀ fs:List (Str×V),(dE f v fs).lookup g=if g=f then some v else fs.lookup g
 | []=>by
   show List.lookup g [(f,v)]=_
   by_cases h:g=f
   . have hb:(g == f)=true:=beq_iff_eq.mpr h
     simp only [List.lookup,hb,aeA h]
   . have hb:(g == f)=false:=beq_eq_false_iff_ne.mpr h
     simp only [List.lookup,hb,adH h]
 | (k,x)::r=>by
   have ih:=mB f g v r
   rw [show dE f v ((k,x)::r)=(if k=f then (k,v)::r else (k,x)::dE f v r) from rfl]
   by_cases hk:k=f
   .
    rw [aeA hk]
    by_cases h:g=k
    . have hb:(g == k)=true:=beq_iff_eq.mpr h
      simp only [List.lookup,hb,aeA (h.trans hk)]
    . have hb:(g == k)=false:=beq_eq_false_iff_ne.mpr h
      simp only [List.lookup,hb,adH (λ e:g=f=>h (e.trans hk.symm))]
   .
    rw [adH hk]
    by_cases h:g=k
    . have hb:(g == k)=true:=beq_iff_eq.mpr h
      simp only [List.lookup,hb,adH (λ e:g=f=>hk (h.symm.trans e))]
    . have hb:(g == k)=false:=beq_eq_false_iff_ne.mpr h
      simp only [List.lookup,hb]
      exact ih
theorem lK (f:Str) (v:V):∀ fs:List (Str×V),f∈(dE f v fs).map (·.1)/\∀ g,g∈fs.map (·.1)->g∈(dE f v fs).map (·.1)
 | []=>⟨by simp [dE],λ g h=>by simp at h⟩
 | (k,x)::r=>by
   obtain ⟨i1,i2⟩:=lK f v r
   rw [show dE f v ((k,x)::r)=(if k=f then (k,v)::r else (k,x)::dE f v r) from rfl]
   by_cases hk:k=f
   . rw [aeA hk]
     subst hk
     exact ⟨by simp,λ g h=>by simpa using h⟩
   .
    rw [adH hk]
    refine ⟨?_,λ g h=>?_⟩
    . rw [afS]
      exact aaN _ i1
    . rw [afS] at h ⊢
      rcases List.mem_cons.mp h with e|e
      . exact List.mem_cons.mpr (.inl e)
      . exact aaN _ (i2 g e)
theorem mJ (f:Str) (v:V):∀ fs:List (Str×V),(dE f v fs).length<=fs.length+1
 | []=>by simp [dE]
 | (k,x)::r=>by
   have ih:=mJ f v r
   rw [show dE f v ((k,x)::r)=(if k=f then (k,v)::r else (k,x)::dE f v r) from rfl]
   by_cases hk:k=f
   . rw [aeA hk,aj2,aj2];lia
   . rw [adH hk,aj2,aj2];lia
theorem iG.some_of {o:Option Value} (r:iG (some v) o):∃ u,o=some u/\RelV v u:=by
 cases o with
 | none=>exact (show False from r).elim
 | some u=>exact ⟨u,rfl,r⟩
theorem iG.none_of {o:Option Value} (r:iG none o):o=none:=by
 cases o with
 | none=>rfl
 | some u=>exact (show False from r).elim
theorem zR (r:RelV v u):W.handedIn u=true:=by
 cases v with
 | dC=>cases (show u=Value.none from r);rfl
 | bl b=>cases (show u=Value.bool b from r);rfl
 | int i=>obtain ⟨t,e⟩:=(show ∃ t,u=Value.int i t from r);cases e;rfl
 | str x=>obtain ⟨t,e⟩:=(show ∃ t,u=Value.str x t from r);cases e;rfl
 | BP b=>obtain ⟨t,e⟩:=(show ∃ t,u=Value.bytes b t from r);cases e;rfl
 | HA b=>obtain ⟨t,e⟩:=(show ∃ t,u=Value.float b t from r);cases e;rfl
 | ref a=>cases (show u=Value.ref a from r);rfl
 | ty n=>cases (show u=Value.type n from r);rfl
section
variable {P:Program} {w:World} {H H':Hp} {h h':Heap} {a C dx:Addr} {fs fs':List (Str×V)}
theorem nL (bo:g8 P w H h) (e:H a=some (.ins C dx fs)):∃ mA,xg h a dx C mA/\(∀ f,iG (fs.lookup f) (mA f))/\PySem.Within mA (fs.map (·.1))/\fs.length<=1000/\H dx=some (.own a):=by
 obtain ⟨d,z,ne,ob,mA,n,r,q⟩:=(show bJ P w H h a (.ins C dx fs) from bo a _ e)
 exact ⟨mA,⟨ob,n,ne⟩,r,q,z,d⟩
end
structure qf (K:W.Frag) (C:Addr):Prop where
 pg:W.plainGet K C Str.empty=true
 hd:W.hasDictIn K C=true
 po:W.plainOver K C=true
 sa:W.findIn K (.ref C) "__setattr__" = some (some (.builtin "object.__setattr__"))
theorem qf.get {K:W.Frag} (c:qf K C) (f:Str):W.plainGet K C f=true:=c.pg
def bT (K:W.Frag) (C:Addr) (f:Str):Prop:=W.findIn K (.ref C) f=some none
theorem bT.RP {K:W.Frag} {f:Str} (n:bT K C f):W.takerIn K C f=some none:=by
 unfold W.takerIn
 rw [show W.findIn K (.ref C) f=some none from n]
 rfl
structure Meth (K:W.Frag) (C:Addr) (m:Str) (f:Addr):Prop where
 at_:W.findIn K (.ref C) m=some (some (.ref f))
 fn:W.isFn K (.ref f)=true
 kp:W.keepIn K (.ref f)=true
section
variable {X:Cx} {pins:List (Addr×Obj)} {σ:St} {H:Hp} {s:Shared} {a C dx:Addr} {fs:List (Str×V)} {f:Str} {v:V} {A:Around} {E:Value->Shared->Prop}
theorem wU {b:Bool} {Q:Value->Shared->Prop} (I:Inv X pins σ H s) (e:H a=some (.ins C dx fs)) (c:qf X.K C) (n:bT X.K C f) (l:fs.lookup f=some v) (h:∀ u s',Inv X pins σ H s'->RelV v u->Q u s'):wpAny (model X.prog X.w) A (getAttr (.ref a) f b) Q E s:=by
 obtain ⟨mA,O,r,_,_,_⟩:=nL I.bo e
 obtain ⟨u,hu,ru⟩:=iG.some_of (v:=v) (o:=mA f) (by rw [← l];exact r f)
 exact get_map I.ia O (c.get f) c.hd n hu (zR ru) (h u _ (I.tok _) ru)
theorem pE {m:Str} {g:Addr} {pl:Sem Bool} {Q:Value×List Value->Shared->Prop} (I:Inv X pins σ H s) (e:H a=some (.ins C dx fs)) (c:qf X.K C) (k:Meth X.K C m g) (l:fs.lookup m=none) (h:Q (.ref g,[.ref a]) s):wpAny (model X.prog X.w) A (getMethod (.ref a) m pl) Q E s:=by
 obtain ⟨mA,O,r,_,_,_⟩:=nL I.bo e
 have hn:mA m=none:=iG.none_of (by rw [← l];exact r m)
 exact CP I.ia O (c.get m) k.at_ k.fn hn h
theorem ww {y:V} {Q:Unit->Shared->Prop} (I:Inv X pins σ H s) (e:H a=some (.ins C dx fs)) (c:qf X.K C) (n:bT X.K C f) (hl:fs.length<1000) (ry:RelV y u) (h:∀ s',Inv X pins σ (upd H a (.ins C dx (dE f y fs))) s'->Q () s'):wpAny (model X.prog X.w) A (setAttr (.ref a) f u) Q E s:=by
 obtain ⟨mA,O,r,wi,_,ho⟩:=nL I.bo e
 have hz:(fs.map (·.1)).length<=sizeLine:=by rw [aad,amc];lia
 refine Ep I.ia O c.sa c.po n.RP c.hd wi hz λ h' O' sb=>h _ ?_
 have hd:∃ o,h'.get? dx=some o:=let ⟨o,_,_,e',_⟩:=O'.ns;⟨o,e'⟩
 refine I.write (x:=a) (e:=dx) (by rw [e];exact True.intro) (.inr ho) (λ b q hb z=>(sb.2 b hb).trans z) hd ?_
 refine ⟨by rw [aq O.ne];exact ho,?_,O.ne,O'.obj,_,O'.ns,λ g=>?_,λ g hg=>?_⟩
 . have:=mJ f y fs;lia
 .
  show iG ((dE f y fs).lookup g) (if g=f then some u else mA g)
  rw [mB]
  by_cases q:g=f
  . rw [aeA q,aeA q];exact ry
  . rw [adH q,adH q];exact r g
 .
  by_cases q:g=f
  . rw [q];exact (lK f y fs).1
  . refine (lK f y fs).2 g (wi g λ z=>hg ?_)
    show (if g=f then some u else mA g)=none
    rw [adH q];exact z
theorem Inv.made (I:Inv X pins σ H s):Inv X pins σ (upd (upd H s.heap.objs.size (.own (s.heap.objs.size+1))) (s.heap.objs.size+1) (.ins C s.heap.objs.size []))
   { s with heap:=(s.heap.push W.emptyDict).push (W.instObj C s.heap.objs.size)}:=by
 have e1:(s.heap.push W.emptyDict).get? s.heap.objs.size=some W.emptyDict:=aa4 s.heap rfl
 have e2:((s.heap.push W.emptyDict).push (W.instObj C s.heap.objs.size)).get? (s.heap.objs.size+1)=some (W.instObj C s.heap.objs.size):=by
   have:=aa4 (s.heap.push W.emptyDict) (o:=W.instObj C s.heap.objs.size) rfl
   rwa [al5] at this
 have e3:(s.heap.push W.emptyDict).Ns s.heap.objs.size (λ _=>none):=⟨W.emptyDict,#[],_,e1,rfl,(λ e he=>absurd he (by simp)),λ _=>rfl⟩
 have I1:=I.laid (a:=s.heap.objs.size) (o:=.own (s.heap.objs.size+1)) (h':=s.heap.push W.emptyDict) (t':=s.toks) (λ b u q=>aao _ q) (aau _) ⟨_,e1⟩
 refine I1.laid (a:=s.heap.objs.size+1) (o:=.ins C s.heap.objs.size []) (t':=s.toks) (λ b u q=>aao _ q) (Nat.le_of_eq (al5 _ _)) ?_
 have ne:s.heap.objs.size≠s.heap.objs.size+1:=acl (al2 _)
 refine ⟨by rw [aq ne,ac],afL _,ne,e2,λ _=>none,(Heap.Ns1.of_empty e3).at λ o q=>aao _ q,λ _=>True.intro,λ y hy=>absurd rfl hy⟩
theorem Ft {prog:Program} {w:World} {env:Env} {e:Expr} {f:Str} {s:Shared} {Q:Value->Shared->Prop} (hb:attributeBase e f env (eval e env)=eval e env) (h:wpAny (model prog w) A (eval e env) (λ o s₁=>wpAny (model prog w) A (getAttr o f true) Q E s₁) E s):wpAny (model prog w) A (eval (.Attribute e f pos) env) Q E s :=
 Attribute_any_ h (by rw [arm_eval_Attribute,hb])
end
inductive Lp (K:W.Frag) (f:Str) (Q:VK) (x:V) (H1:Hp):Prop
 | mk (a C dx:Addr) (fs:List (Str×V)) (v:V) (h1:x = .ref a) (h2:H1 a=some (.ins C dx fs)) (h3:qf K C) (h4:bT K C f) (h5:fs.lookup f=some v) (q:Q v H1)
def adX (K:W.Frag) (ta:TE) (f:Str):TE:=λ σ H Q=>ta σ H (Lp K f Q)
def Yk (K:W.Frag) (ta tv:TE) (f:Str):TS:=λ D σ H=>tv σ H λ y H1=>ta σ H1 λ x H2=>∃ a C dx fs,x = .ref a/\H2 a=some (.ins C dx fs)/\qf K C/\bT K C f/\fs.length<1000 /\
 D.nx σ (upd H2 a (.ins C dx (dE f y fs)))
section
variable {X:Cx} {o e value:Expr} {f:Str} {pos pos' uO:Pos} {ta tv:TE}
theorem bn (he:PE X e ta) (hb:attributeBase e f X.env (eval e X.env)=eval e X.env):PE X (.Attribute e f pos) (adX X.K ta f):=by
 intro pins s σ H Q I h
 refine Ft hb (cz (he pins s σ H _ I h) λ u s1 ⟨x,H1,I1,rx,a,C,dx,fs,v,ex,ea,c,n,l,q⟩=>?_)
 subst ex
 obtain rfl:u=Value.ref a:=rx
 exact wU I1 ea c n l λ u' s2 I2 ru=>⟨v,H1,I2,ru,q⟩
theorem gR (ha:PE X o ta) (hv:PE X value tv) (hs:swapsWith value (some (.Attribute o f pos')) pos.line X.env=pure false):PS X (.Assign [.Attribute o f pos'] value pos) (Yk X.K ta tv f):=by
 intro pins s σ H D I h
 refine plainObj_wpAny_Assign_Attribute (cz (hv pins s σ H _ I h) λ u s1 ⟨y,H1,I1,ry,q⟩=>cz (ha pins s1 σ H1 _ I1 q) λ ov s2 ⟨x,H2,I2,rx,a,C,dx,fs,ex,ea,c,n,l,q2⟩=>?_) hs
 subst ex
 obtain rfl:ov=Value.ref a:=rx
 exact ww I2 ea c n l ry λ s3 I3=>⟨σ,_,I3,q2⟩
end
section
variable {X:Cx} {pins:List (Addr×Obj)} {σ:St} {H:Hp} {s:Shared} {A:Around} {E:Value->Shared->Prop} {Q:Value->Shared->Prop} {c:Value} {b:Bool}
inductive jI (K:W.Frag) (H:Hp):V->Value->Prop where
 | dC:jI K H .dC (.type "NoneType")
 | bl (x:Bool):jI K H (.bl x) (.type "bool")
 | int (i:Int):jI K H (.int i) (.type "int")
 | str (x:Str):jI K H (.str x) (.type "str")
 | HA (x:UInt64):jI K H (.HA x) (.type "float")
 | lst {a:Addr} {xs:List V} (e:H a=some (.lst xs)):jI K H (.ref a) (.type "list")
 | nK {a:Addr} {o:Obj} {xs:List V} (e:H a=some (.nK o (.lst xs))):jI K H (.ref a) (.type "list")
 | tup {a:Addr} {xs:List V} (e:H a=some (.tup xs)):jI K H (.ref a) (.type "tuple")
 | dK {a:Addr} {kvs:List (Key×V)} (e:H a=some (.dK kvs)):jI K H (.ref a) (.type "dict")
 | dT {a:Addr} {kvs:List (List Key×V)} (e:H a=some (.dT kvs)):jI K H (.ref a) (.type "dict")
 | ins {a C dx:Addr} {fs:List (Str×V)} (e:H a=some (.ins C dx fs)) (cl:qf K C) (ha:W.findIn K (.ref C) "__class__" = some (some (.builtin "object.__class__")))
     (hn:W.specialIn K (.builtin "object.__class__") "__get__" = some (some (.builtin "getset_descriptor.__get__"))) (We:W.takesIn K (.builtin "object.__class__")=some true)
     (hm:W.mroIn K C (.type "object")=some true):jI K H (.ref a) (.ref C)
theorem zP {x:V} {t:Value} (I:Inv X pins σ H s) (rx:RelV x u) (ty:jI X.K H x t) (e:W.kitOne X.K t c=some b) (h:∀ tk,Q (.bool b) { s with toks:=tk }) :
   wpAny (model X.prog X.w) A (call (.builtin "isinstance") [u,c]) Q E s:=by
 cases ty with
 | dC=>cases (show u=Value.none from rx);exact akR W.kitx_none I.ia True.intro e (λ z=>nomatch z) h
 | bl y=>cases (show u=Value.bool y from rx);exact akR W.kitx_bool I.ia True.intro e (λ z=>nomatch z) h
 | int i=>obtain ⟨t,q⟩:=(show ∃ t,u=Value.int i t from rx);cases q;exact akR W.kitx_int I.ia True.intro e (λ z=>nomatch z) h
 | str y=>obtain ⟨t,q⟩:=(show ∃ t,u=Value.str y t from rx);cases q;exact akR W.kitx_str I.ia True.intro e (λ z=>nomatch z) h
 | HA y=>obtain ⟨t,q⟩:=(show ∃ t,u=Value.float y t from rx);cases q;exact akR W.kitx_float I.ia True.intro e (λ z=>nomatch z) h
 | @lst a xs ea =>
   cases (show u=Value.ref a from rx)
   obtain ⟨_,_,n,_,h1⟩:=(show bJ X.prog X.w H s.heap a (.lst xs) from I.bo a _ ea)
   exact akR W.kitx_list I.ia ⟨_,h1,rfl⟩ e (λ z=>nomatch z) h
 | @nK a ob xs ea =>
   cases (show u=Value.ref a from rx)
   obtain ⟨_,_,_,n,_,h1⟩:=(show bJ X.prog X.w H s.heap a (.nK ob (.lst xs)) from I.bo a _ ea)
   exact akR W.kitx_list I.ia ⟨_,h1,rfl⟩ e (λ z=>nomatch z) h
 | @tup a xs ea =>
   cases (show u=Value.ref a from rx)
   obtain ⟨_,_,_,p⟩:=(show bJ X.prog X.w H s.heap a (.tup xs) from I.bo a _ ea)
   obtain ⟨o,h1,h2,_⟩:=p
   exact akR W.kitx_tuple I.ia ⟨o,h1,h2⟩ e (λ z=>nomatch z) h
 | @dK a kvs ea =>
   cases (show u=Value.ref a from rx)
   obtain ⟨_,_,vs,_,p⟩:=(show bJ X.prog X.w H s.heap a (.dK kvs) from I.bo a _ ea)
   obtain ⟨o,es,ep,h1,h2,_⟩:=p
   exact akR W.kitx_dict I.ia ⟨o,h1,h2.1⟩ e (λ z=>nomatch z) h
 | @dT a kvs ea =>
   cases (show u=Value.ref a from rx)
   obtain ⟨_,_,xs,_,o,es,ep,h1,h2,_⟩:=(show bJ X.prog X.w H s.heap a (.dT kvs) from I.bo a _ ea)
   exact akR W.kitx_dict I.ia ⟨o,h1,h2.1⟩ e (λ z=>nomatch z) h
 | @ins a C dx fs ea cl ha hn We hm =>
   cases (show u=Value.ref a from rx)
   obtain ⟨mA,O,_⟩:=nL I.bo ea
   obtain ⟨od,J,_⟩:=O.look
   exact akR (W.kitx_own (cl.get _) cl.hd ha hn We hm) I.ia J e (λ z=>nomatch z) h
end
structure bL (k:Nat) (A:Around):Prop where
 hd:A.handled=none
 dp:A.depth+3 * k+5<recursionLimit
 un:A.units+16 * k+200<cLine
theorem bL.mono {k:Nat} {A:Around} (r:bL k A) (h:j<=k):bL j A:=⟨r.hd,by have:=r.dp;lia,by have:=r.un;lia⟩
theorem bL.deeper {k:Nat} {A:Around} (r:bL (k+1) A) (env:Env):bL k (A.deeper env) :=
 ⟨r.hd,by have:=r.dp;show A.depth+1+3 * k+5<_;lia,by have:=r.un;show A.units+3+16 * k+200<_;lia⟩
theorem w6 {A:Around} {kw:List (Str×Value)}:(A.under (.builtin "type.__call__" ⟨.ref C::us,kw⟩)).depth=A.depth+1:=by
 first|rfl|simp [Around.under,Code.weight,Code.isCreation,Code.isGuard,Code.isCaller,Code.frames,Code.isFrame,guardIds]
theorem xv {A:Around} {kw:List (Str×Value)}:(A.under (.builtin "type.__call__" ⟨.ref C::us,kw⟩)).units=A.units+1:=by
 first|rfl|simp [Around.under,Code.cUnits,Code.frames,Code.isFrame]
theorem bL.make {k:Nat} {A:Around} (r:bL (k+1) A) (C:Addr) (us:List Value) (kw:List (Str×Value)):bL k (A.under (.builtin "type.__call__" ⟨.ref C::us,kw⟩)) :=
 ⟨r.hd,by have:=r.dp;rw [w6];lia,by have:=r.un;rw [xv];lia⟩
theorem bL.depth {k:Nat} {A:Around} (r:bL k A):A.depth<recursionLimit:=by have:=r.dp;lia
theorem bL.units {k:Nat} {A:Around} (r:bL k A):A.units+64<cLine:=by have:=r.un;lia
def QQ:TA:=λ _ H Q=>Q [] H
def VL (ta:TE) (tr:TA):TA:=λ σ H Q=>ta σ H λ x H1=>tr σ H1 λ xs H2=>Q (x::xs) H2
section
variable {X:Cx} {e:Expr} {es:List Expr} {te:TE} {t:TA} {pos:Pos}
theorem ah:PA X [] QQ:=λ _ _ _ _ H Q I h=>Calls.spliced_nil ⟨[],H,I,.nil,h⟩
theorem aa (ha:PE X e te) (hr:PA X es t) (hs:starEach (e::es) X.env=(false,eval e X.env)::starEach es X.env:=by rfl):PA X (e::es) (VL te t):=by
 intro pos pins s σ H Q I h
 rw [hs]
 show wpAny _ _ (spliced ((false,eval e X.env)::backTo pos (starEach es X.env))) _ _ s
 refine Calls.spliced_cons (cz (ha pins s σ H _ I h) λ u s1 ⟨x,H1,I1,r1,q1⟩=>?_)
 exact cz (hr pos pins s1 σ H1 _ I1 q1) λ us s2 ⟨xs,H2,I2,r2,q2⟩=>⟨x::xs,H2,I2,.cons r1 r2,q2⟩
def aaM (t:TA):TE:=λ σ H Q=>t σ H λ xs H1=>xs.length<=sizeLine/\∀ p,H1 p=none->Q (.ref p) (upd H1 p (.tup xs))
def adJ (t:TA):TE:=λ σ H Q=>t σ H λ xs H1=>xs.length<=sizeLine/\∀ p,H1 p=none->Q (.ref p) (upd H1 p (.lst xs))
theorem bH {x1} (h:PA X es t):PE X (.Tuple es x1 pos) (aaM t):=by
 intro pins s σ H Q I hq
 refine wpAny_Tuple_spliced (cz (h pos pins s σ H _ I hq) λ us s1 ⟨xs,H1,I1,r,z,q⟩=>⟨by rw [← r.length];exact z,?_⟩)
 have hf:H1 s1.heap.objs.size=none:=I1.bo.fresh (aau _)
 refine ⟨.ref s1.heap.objs.size,upd H1 s1.heap.objs.size (.tup xs),I1.laid (t':=s1.toks) (λ b u e=>aao _ e) (aau _) ?_,rfl,q _ hf⟩
 exact ⟨z,us,r,⟨_,aa4 _ rfl,rfl,_,rfl⟩⟩
theorem aU (h:PA X es t):PE X (.List es pos) (adJ t):=by
 intro pins s σ H Q I hq
 refine wpAny_List_spliced (cz (h pos pins s σ H _ I hq) λ us s1 ⟨xs,H1,I1,r,z,q⟩=>⟨by rw [← r.length];exact z,?_⟩)
 have hf:H1 s1.heap.objs.size=none:=I1.bo.fresh (aau _)
 refine ⟨.ref s1.heap.objs.size,upd H1 s1.heap.objs.size (.lst xs),I1.laid (t':=s1.toks) (λ b u e=>aao _ e) (aau _) ?_,rfl,q _ hf⟩
 exact ⟨z,us,0,r,aa4 _ rfl⟩
end
abbrev Sp:=List V->Hp->VK->XK->Prop
abbrev Ag:=List Env->Hp->Shared->XK->Value->Shared->Prop
structure pT (P:Program) (w:World) (K:W.Frag) (mg:Str->Option Value) (base:Heap) (A:Around) (outer:List Env) (s:Shared) (H:Hp):Prop where
 frames:A.frames=some outer
 mod:Mod K mg base
 bs:∀ b o,base.get? b=some o->s.heap.get? b=some o/\H b=none
 DP:base.objs.size<=s.heap.objs.size
 jH:s.heap.FunFrames base outer
 AS:∀ b∈gO outer,H b=none
 bo:g8 P w H s.heap
 bare:AllBare s.gens
def CE (outer:List Env) (P:Program) (w:World) (H:Hp) (s:Shared) (Q:VK) (u:Value) (s':Shared):Prop :=
 ∃ v H',s'.os=s.os/\AllBare s'.gens/\Un (gO outer) [] H H' s.heap s'.heap/\g8 P w H' s'.heap/\RelV v u/\Q v H'
def CR (CX:Ag) (outer:List Env) (P:Program) (w:World) (H:Hp) (s:Shared) (Q:VK) (E:XK) (r:Result) (s':Shared):Prop :=
 match r with
 | .ok (.ret u)=>CE outer P w H s Q u s'
 | .ok _=>False
 | .error e=>CX outer H s E e s'
structure dn (P:Program) (w:World) (K:W.Frag) (mg:Str->Option Value) (base:Heap) (CX:Ag) (k:Nat) (f:Addr) (fd:FuncData) (ps:List Str) (sp:Sp):Prop where
 len:∀ vs H Q E,sp vs H Q E->vs.length=ps.length
 run:∀ (A:Around) (outer:List Env) (s:Shared) (H:Hp) (args:Args) (us:List Value) (vs:List V) (Q:VK) (E:XK),bL k A->pT P w K mg base A outer s H->BindsTo s fd args (ps.zip us)->Vals vs us->sp vs H Q E ->
   codeAny (model P w) A (.call (.ref f) args) (CR CX outer P w H s Q E) s
theorem dn.mono {P:Program} {w:World} {K:W.Frag} {mg:Str->Option Value} {base:Heap} {CX:Ag} {k:Nat} {f:Addr} {fd:FuncData} {ps:List Str} {sp:Sp} (F:dn P w K mg base CX j f fd ps sp) (h:j<=k) :
   dn P w K mg base CX k f fd ps sp:=⟨F.len,λ A outer s H args us vs Q E hr=>F.run A outer s H args us vs Q E (hr.mono h)⟩
theorem pT.make {P:Program} {w:World} {K:W.Frag} {mg:Str->Option Value} {base:Heap} {A:Around} {outer:List Env} {s:Shared} (e:pT P w K mg base A outer s H) (C:Addr) (us:List Value) (kw:List (Str×Value)) :
   pT P w K mg base (A.under (.builtin "type.__call__" ⟨.ref C::us,kw⟩)) outer s H:=⟨by first|exact e.frames|(simpa [Around.under,Code.envs,Code.isFrame,pushEnvs] using e.frames),e.mod,e.bs,e.DP,e.jH,e.AS,e.bo,e.bare⟩
section
variable {X:Cx} {pins:List (Addr×Obj)} {σ:St} {H:Hp} {s s':Shared}
theorem Inv.yS (I:Inv X pins σ H s):pT X.prog X.w X.K X.mg X.base X.A X.stack s H :=
 ⟨I.ok.frames,I.ok.mod,I.bs,afi I.ok.DP I.sz,I.stack,I.tX,I.bo,I.bare⟩
theorem Inv.after (I:Inv X pins σ H s) (h:CE X.stack X.prog X.w H s Q u s'):EP X pins σ Q u s':=by
 obtain ⟨v,H',os,bare,un,bo,r,q⟩:=h
 obtain ⟨hh,g,d,t,os'⟩:=s'
 obtain rfl:os'=s.os:=os
 exact ⟨v,H',I.call (h':=hh) (g':=g) (d':=d) (t':=t) (ch:=[]) un bo bare (λ b z=>absurd z (by simp)),r,q⟩
end
def xT (sp:Sp) (gB:List V) (E:XK) (t:TA):TE:=λ σ H Q=>t σ H λ vs H1=>sp (vs++gB) H1 Q E
def uF (C:Addr) (sp:Sp) (gB:List V) (E:XK) (t:TA):TE:=λ σ H Q=>t σ H λ vs H1=>∀ x dx,H1 x=none->H1 dx=none->dx≠x ->
 sp (.ref x::(vs++gB)) (upd (upd H1 dx (.own x)) x (.ins C dx [])) (λ v H2=>v = .dC/\Q (.ref x) H2) E
def Binds (K:W.Frag) (fd:FuncData) (ps:List Str) (ds:List Value):Prop :=
 ∀ (s:Shared) (us:List Value),K.In s.heap->(us++ds).length=ps.length->BindsTo s fd ⟨us,[]⟩ (ps.zip (us++ds))
theorem Binds.all {K:W.Frag} {fd:FuncData} {ps:List Str} (h:∀ us:List Value,us.length=ps.length->bindArgs fd ⟨us,[]⟩=pure (ps.zip us)):Binds K fd ps []:=λ s us _ hl=>by
 rw [agb] at hl ⊢
 exact .of_eq (h us hl)
def Passes (CX:Ag) (X:Cx) (E:XK):Prop:=∀ (pins:List (Addr×Obj)) (σ:St) (H:Hp) (s:Shared) (e:Value) (s':Shared),Inv X pins σ H s->CX X.stack H s E e s'->X.xe e s'
section
variable {X:Cx} {CX:Ag} {k:Nat} {f C:Addr} {fd:FuncData} {ps:List Str} {sp:Sp} {gB:List V} {ds:List Value} {E:XK} {x m:Str} {p pos apos:Pos} {e o:Expr} {es:List Expr} {ta:TE} {t:TA}
theorem sJ {s:Shared} {vs:List V} (F:dn X.prog X.w X.K X.mg X.base CX k f fd ps sp) (hr:bL k X.A) (hb:Binds X.K fd ps ds) (hd:Vals gB ds) (hx:Passes CX X E) (I:Inv X pins σ H s) (r:Vals vs us) (h:sp (vs++gB) H Q E):wpAny (model X.prog X.w) X.A (call (.ref f) us) (EP X pins σ Q) X.xe s:=by
 have r2:Vals (vs++gB) (us++ds):=r.append hd
 have hl:(us++ds).length=ps.length:=by rw [← r2.length];exact F.len _ _ _ _ h
 refine alC (aiL (F.run X.A X.stack s H ⟨us,[]⟩ (us++ds) (vs++gB) Q E hr I.yS (hb s us I.ia hl) r2 h) λ r s' hq=>?_)
 cases r with
 | error e=>exact hx pins σ H s e s' I hq
 | ok fl =>
   cases fl with
   | ret u=>exact I.after hq
   | next=>exact False.elim hq
   | brk=>exact False.elim hq
   | cont=>exact False.elim hq
theorem xG (F:dn X.prog X.w X.K X.mg X.base CX k f fd ps sp) (hr:bL k X.A) (hg:Gl X x) (hm:X.mg x=some (.ref f)) (hk:W.keepIn X.K (.ref f)=true) (hb:Binds X.K fd ps ds) (hd:Vals gB ds) (hx:Passes CX X E) (ha:PA X (e::es) t) (jM:(x == ("__debug__" : Str))=false:=by decide) (he:starEach (e::es) X.env=(false,eval e X.env)::starEach es X.env:=by rfl) (fD:(backTo pos (starEach es X.env)).any (·.1)=false:=by rfl) :
   PE X (.Call (.Name x p) (e::es) [] pos) (xT sp gB E t):=by
 intro pins s σ H Q I h
 refine agF (fY I hg hm ?_ jM)
 refine al1 (h₀:=X.base) I.ok.mod.wu hk (cz (ha pos pins s σ H _ I h) λ us s1 ⟨vs,H1,I1,r,q⟩=>⟨I1.ia,?_⟩) he fD
 exact sJ F hr hb hd hx I1 r q
structure Mk (K:W.Frag) (C f:Addr):Prop where
 makes:W.makesIn K C=true
 init:W.findIn K (.ref C) "__init__" = some (some (.ref f))
 fn:W.isFn K (.ref f)=true
 kp:W.keepIn K (.ref C)=true
theorem AA {s:Shared} {vs:List V} (M:Mk X.K C f) (F:dn X.prog X.w X.K X.mg X.base CX k f fd ps sp) (hr:bL (k+1) X.A) (hb:Binds X.K fd ps ds) (hd:Vals gB ds) (hx:Passes CX X E) (I:Inv X pins σ H s) (r:Vals vs us) (h:∀ x dx,H x=none->H dx=none->dx≠x->sp (.ref x::(vs++gB)) (upd (upd H dx (.own x)) x (.ins C dx [])) (λ v H2=>v = .dC/\Q (.ref x) H2) E) :
   wpAny (model X.prog X.w) X.A (call (.ref C) us) (EP X pins σ Q) X.xe s:=by
 have hq:=h (s.heap.objs.size+1) s.heap.objs.size (I.bo.fresh (alL _)) (I.bo.fresh (aau _)) (acl (al2 _))
 have I2:=Inv.made (C:=C) I
 have r2:Vals (V.ref (s.heap.objs.size+1)::(vs++gB)) (Value.ref (s.heap.objs.size+1)::(us++ds)):=.cons rfl (r.append hd)
 have hl:(Value.ref (s.heap.objs.size+1)::us++ds).length=ps.length:=by
   have e:=r2.length
   rw [F.len _ _ _ _ hq] at e
   exact e.symm
 refine alC (uZ (f:=f) I.ia M.makes M.init (beq_iff_eq.mp M.fn) (aiL (F.run _ X.stack _ _ ⟨Value.ref (s.heap.objs.size+1)::us,[]⟩ (Value.ref (s.heap.objs.size+1)::(us++ds)) _ _ E (hr.make C us [])
   (I2.yS.make C us []) (hb _ (Value.ref (s.heap.objs.size+1)::us) I2.ia hl) r2 hq) λ r s' wl=>?_))
 cases r with
 | error e=>exact hx pins σ _ _ e s' I2 wl
 | ok fl =>
   cases fl with
   | ret u =>
     obtain ⟨v,H',I3,rv,ev,q3⟩:=I2.after wl
     subst ev
     exact ⟨rv,⟨V.ref (s.heap.objs.size+1),H',I3,rfl,q3⟩⟩
   | next=>exact False.elim wl
   | brk=>exact False.elim wl
   | cont=>exact False.elim wl
theorem yz (M:Mk X.K C f) (F:dn X.prog X.w X.K X.mg X.base CX k f fd ps sp) (hr:bL (k+1) X.A) (hg:Gl X x) (hm:X.mg x=some (.ref C)) (hb:Binds X.K fd ps ds) (hd:Vals gB ds) (hx:Passes CX X E) (ha:PA X (e::es) t) (jM:(x == ("__debug__" : Str))=false:=by decide) (he:starEach (e::es) X.env=(false,eval e X.env)::starEach es X.env:=by rfl) (fD:(backTo pos (starEach es X.env)).any (·.1)=false:=by rfl) :
   PE X (.Call (.Name x p) (e::es) [] pos) (uF C sp gB E t):=by
 intro pins s σ H Q I h
 refine agF (fY I hg hm ?_ jM)
 refine al1 (h₀:=X.base) I.ok.mod.wu M.kp (cz (ha pos pins s σ H _ I h) λ us s1 ⟨vs,H1,I1,r,q⟩=>⟨I1.ia,?_⟩) he fD
 exact AA M F hr hb hd hx I1 r q
end
section
variable {X:Cx} {CX:Ag} {k:Nat} {f C:Addr} {fd:FuncData} {ps ks:List Str} {sp:Sp} {E:XK} {x m:Str} {p pos apos aqw:Pos} {e o:Expr} {es:List Expr} {kws:List Keyword} {te ta:TE} {t tk:TA} {nm:Option Str}
variable {g:List Value->List Value->List Value} {gV:List V->List V->List V}
end
structure au (N P:List Str) (sc:Scope):Prop where
 kind:sc.kind = .function
 co:sc.isCoroutine=false
 gen:sc.isGenerator=false
 nd:N.Nodup
 pre:N.take P.length=P
 par:∀ x∈P,sc.names.lookup x=some .local∨sc.names.lookup x=some .cell
 JT:∀ y∈sc.names,y.2 ≠ .free
theorem rU {kindOf:Str->Option NameKind} {x:Str}:∀ {binds:List (Str×Value)} {m:Str->Option Value},(∀ v,(x,v)∉binds)->bindL kindOf binds m x=m x
 | [],_,_=>rfl
 | (n,v)::r,m,h=>by
   unfold bindL
   rw [rU λ w hw=>h w (aaN _ hw)]
   split
   . have:x≠n:=by rintro rfl;exact h v adu
     simp [this]
   . rfl
theorem sh {kindOf:Str->Option NameKind} {x:Str}:∀ {binds:List (Str×Value)} {m:Str->Option Value},(∀ v,(x,v)∉binds)->bindC kindOf binds m x=m x
 | [],_,_=>rfl
 | (n,v)::r,m,h=>by
   unfold bindC
   rw [sh λ w hw=>h w (aaN _ hw)]
   split
   . rfl
   . have:x≠n:=by rintro rfl;exact h v adu
     simp [this]
theorem rH {kindOf:Str->Option NameKind} {x:Str} {v:Value}:∀ {P:List Str} {vs:List Value} {i:Nat} {m:Str->Option Value},P.Nodup->P[i]?=some x->vs[i]?=some v->kindOf x=some .local ->
   bindL kindOf (P.zip vs) m x=some v
 | [],_,_,_,_,h,_,_=>by simp at h
 | _::_,[],_,_,_,_,h,_=>by simp at h
 | p::P,w::vs,0,m,nd,h1,h2,hk=>by
   simp at h1 h2;subst h1;subst h2
   show bindL kindOf ((p,w)::P.zip vs) m p=_
   unfold bindL
   rw [rU λ v hv=>(List.nodup_cons.mp nd).1 (al8 hv).1,aeA hk]
   simp
 | p::P,w::vs,i+1,m,nd,h1,h2,hk=>by
   show bindL kindOf ((p,w)::P.zip vs) m x=_
   unfold bindL
   exact rH (i:=i) (List.nodup_cons.mp nd).2 (by simpa using h1) (by simpa using h2) hk
theorem rL {kindOf:Str->Option NameKind} {x:Str} {v:Value}:∀ {P:List Str} {vs:List Value} {i:Nat} {m:Str->Option Value},P.Nodup->P[i]?=some x->vs[i]?=some v->kindOf x≠some .local ->
   bindC kindOf (P.zip vs) m x=some v
 | [],_,_,_,_,h,_,_=>by simp at h
 | _::_,[],_,_,_,_,h,_=>by simp at h
 | p::P,w::vs,0,m,nd,h1,h2,hk=>by
   simp at h1 h2;subst h1;subst h2
   show bindC kindOf ((p,w)::P.zip vs) m p=_
   unfold bindC
   rw [sh λ v hv=>(List.nodup_cons.mp nd).1 (al8 hv).1,adH hk]
   simp
 | p::P,w::vs,i+1,m,nd,h1,h2,hk=>by
   show bindC kindOf ((p,w)::P.zip vs) m x=_
   unfold bindC
   exact rL (i:=i) (List.nodup_cons.mp nd).2 (by simpa using h1) (by simpa using h2) hk
def start (N:List Str) (vs:List V):St:=vs.map some++List.replicate (N.length - vs.length) none
def eZ (CX:Ag) (P:Program) (w:World) (K:W.Frag) (mg:Str->Option Value) (base:Heap) (N:List Str) (qual:Str) (scope:Scope) (f:Addr) (cd:Value) (A:Around) (outer:List Env) (s:Shared) (H:Hp) (E:XK):Cx where
 prog:=P
 w:=w
 K:=K
 mg:=mg
 base:=base
 A:=A.deeper (envOfC qual scope s.heap.objs.size f cd)
 N:=N
 s₀:=s
 H₀:=H
 env:=envOfC qual scope s.heap.objs.size f cd
 outer:=outer
 stack:=envOfC qual scope s.heap.objs.size f cd::outer
 ex:=[]
 calm:=true
 fn:=λ _=>true
 pn:=[]
 xe:=λ e s'=>wpAny (model P w) (A.deeper (envOfC qual scope s.heap.objs.size f cd)) (leaving (envOfC qual scope s.heap.objs.size f cd) e) (λ _ s''=>CX outer H s E e s'') (λ e' s''=>CX outer H s E e' s'') s'
theorem vK {sc:Scope} {n:Nat} {x:Str} (h:sc.names.lookup x=some .cell):∃ c,(cellsFrom n sc.names []).lookup x=some c:=by
 have q:=amV sc.names n [] (.inl h)
 exact Option.isSome_iff_exists.mp q
theorem sf {CX:Ag} {P:Program} {w:World} {K:W.Frag} {mg:Str->Option Value} {base:Heap} {N ps:List Str} {scope:Scope} {f:Addr} {cd:Value} {A:Around} {outer:List Env} {s s1:Shared} {E:XK} {vs:List V} (S:au N ps scope) (hd:A.handled=none) (e0:pT P w K mg base A outer s H) (hl:vs.length=ps.length) (r:Vals vs us) (x:InCallC s s.heap.objs.size (bindL (envOfC qual scope s.heap.objs.size f cd).kindOf (ps.zip us) λ _=>none) (cellsFrom (s.heap.objs.size+1) scope.names []) (bindC (envOfC qual scope s.heap.objs.size f cd).kindOf (ps.zip us) λ _=>none) s1) :
   Inv (eZ CX P w K mg base N qual scope f cd A outer s H E) [] (start N vs) H s1:=by
 have fD:ps.length<=N.length:=by have:=alR List.length S.pre;rw [aaP] at this;lia
 obtain ⟨h1,tk,rfl,hk⟩:=x.done
 have Gf:∀ b:Addr,b∉(eZ CX P w K mg base N qual scope f cd A outer s H E).ex:=λ b z=>absurd (show b∈([]:List Addr) from z) (by simp)
 refine ⟨⟨e0.mod,S.kind,rfl,rfl,aau _,λ y z c h1 h2=>?_,λ y hy=>?_,λ y c _ h=>?_,λ _=>hd,Around.frames_deeper e0.frames,.inr ⟨rfl,rfl⟩,λ b z=>absurd z (Gf b),e0.bs,e0.DP,λ b _ _=>Gf b,λ b z=>absurd z (Gf b),e0.jH,e0.AS⟩,
   rfl,e0.bare,Un.kept hk,⟨_,x.toInCall.ns,λ i y v h1 h2 h3=>?_⟩,λ y c h=>⟨_,x.cell y c h⟩,e0.bo.fresh (aau _),λ y c h=>?_,λ p hp=>absurd (show p∈([]:List (Addr×Obj)) from hp) (by simp),e0.bo.kept hk,?_⟩
 . exact name_of_addr x.apart (acH h1) (acH h2)
 .
  have hy:scope.names.lookup y=some .cell∨scope.names.lookup y=some .free:=hy
  rcases hy with hy|hy
  . exact vK hy
  . exact absurd rfl (S.JT _ (acH hy))
 . exact ahw (x.above y c (acH h))
 .
  have hi:i<vs.length:=by
    unfold start at h2
    by_cases hi:i<vs.length
    . exact hi
    . rw [aew (by simpa using hi)] at h2
      rw [am3] at h2
      split at h2<;>cases h2
  have ha:vs[i]?=some v:=by
    unfold start at h2
    rw [ahg (by simpa using hi),aei] at h2
    cases e:vs[i]? with
    | none=>rw [e] at h2;cases h2
    | some a=>rw [e] at h2;cases h2;rfl
  obtain ⟨u,hu,rv⟩:=r.get ha
  have hp:ps[i]?=some y:=by
    rw [← S.pre,List.getElem?_take_of_lt (by lia)];exact h1
  have ndP:ps.Nodup:=by rw [← S.pre];exact S.nd.sublist (List.take_sublist _ _)
  refine ⟨u,rv,?_⟩
  rcases S.par y (afB hp) with k|k
  . exact .inl ⟨k,rH ndP hp hu k⟩
  .
   obtain ⟨c,e⟩:=vK (n:=s.heap.objs.size+1) k
   refine .inr ⟨.inl k,c,e,?_⟩
   have q:=x.cell y c e
   rw [rL ndP hp hu (by show scope.names.lookup y≠_;rw [k];decide)] at q
   exact q
 . exact e0.bo.fresh (ahw (x.above y c (acH h)))
 .
  unfold start
  show _=N.length
  rw [acC,aad,aki]
  lia
theorem yj {CX:Ag} {P:Program} {w:World} {K:W.Frag} {mg:Str->Option Value} {base:Heap} {k:Nat} {f:Addr} {name:Str} {params:Arguments} {body:List Stmt} {scope:Scope} {dV kV doc pm aP ct oc:Value} {an od:Option Addr} {nV:Array (Option Value)} {N ps:List Str} {sp:Sp} (lk:K.lookup f=some ⟨oc,od,.func (W.fnOf name qual params body scope dV kV doc pm an aP ct),nV⟩) (iI:W.codeIn K aP qual=true) (S:au N ps scope) (len:∀ vs H Q E,sp vs H Q E->vs.length=ps.length) (cJ:∀ (A:Around) (outer:List Env) (s:Shared) (H:Hp) (vs:List V) (Q:VK) (E:XK),bL k (A.deeper (envOfC qual scope s.heap.objs.size f aP))->sp vs H Q E ->
     ∃ t,mP (eZ CX P w K mg base N qual scope f aP A outer s H E) body t/\t { nx:=λ _ H'=>Q .dC H',rt:=Q } (start N vs) H) :
   dn P w K mg base CX (k+1) f (W.fnOf name qual params body scope dV kV doc pm an aP ct) ps sp:=by
 refine ⟨len,λ A outer s H args us vs Q E hr e0 hb r xW=>?_⟩
 have hl:=len _ _ _ _ xW
 have KX:K.In s.heap:=e0.mod.wu.keeps λ b o e=>(e0.bs b o e).1
 have lim:s.heap.NoLimit:=e0.mod.nolimit.keeps λ b o e=>(e0.bs b o e).1
 have BU:∀ y∈ps.zip us,scope.names.lookup y.1=some .local∨(scope.names.lookup y.1=some .cell/\((cellsFrom (s.heap.objs.size+1) scope.names []).lookup y.1).isSome=true):=λ ⟨n,v⟩ hy=>by
   rcases S.par n (al8 hy).1 with q|q
   . exact .inl q
   . exact .inr ⟨q,amV _ _ _ (.inl q)⟩
 refine codeAny_call_function hr.depth (KX _ _ lk) rfl S.co S.gen rfl (W.codeRec_of KX iI) (hb _ _ _ _ ?_)
 refine anc S.kind BU λ env he s1 x=>?_
 subst he
 refine ⟨lim.keeps x.toInCall.keep,codeAny_func ?_⟩
 obtain ⟨t,ht,hq⟩:=cJ A outer s H vs Q E (hr.deeper _) xW
 have I:Inv (eZ CX P w K mg base N qual scope f aP A outer s H E) [] (start N vs) H s1:=sf S hr.hd e0 hl r x
 refine adA (ht [] s1 (start N vs) H _ I hq) (λ fl s' hs=>?_) λ e s' hs=>hs
 have fin:∀ {σ':St} {H':Hp} {v:V} {u:Value},Inv (eZ CX P w K mg base N qual scope f aP A outer s H E) [] σ' H' s'->RelV v u->Q v H'->CE outer P w H s Q u s' :=
   λ {σ' H' v u} J rv q=>⟨v,H',J.os,J.bare,J.base,J.bo,rv,q⟩
 cases fl with
 | ret u =>
   obtain ⟨v,σ',H',J,rv,q⟩:=hs
   exact fin J rv q
 | next =>
   obtain ⟨σ',H',J,q⟩:=hs
   exact fin (v:=V.dC) (u:=Value.none) J rfl q
 | brk =>
   obtain ⟨_,_,_,q⟩:=hs
   exact False.elim q
 | cont =>
   obtain ⟨_,_,_,q⟩:=hs
   exact False.elim q
section
variable {X:Cx} {x:Str} {p pos:Pos} {e:Expr} {es:List Expr} {t:TA} {id T:String} {r:List V->Hp->VK->Prop}
def tCB (r:List V->Hp->VK->Prop) (t:TA):TE:=λ σ H Q=>t σ H λ vs H1=>r vs H1 Q
theorem aZ (hc:fG X (.builtin id) r) (hg:Gl X x) (hm:X.mg x=none) (hv:bootBuiltins x=some (.builtin id)) (ha:PA X (e::es) t) (hn:x ≠ "__name__":=by decide) (jM:(x == ("__debug__" : Str))=false:=by decide) (he:starEach (e::es) X.env=(false,eval e X.env)::starEach es X.env:=by rfl) (fD:(backTo pos (starEach es X.env)).any (·.1)=false:=by rfl):PE X (.Call (.Name x p) (e::es) [] pos) (tCB r t):=by
 intro pins s σ H Q I h
 refine agF (lH I hg hm hv ?_ hn jM)
 exact PyProof.Rows.callWith_builtin1 (cz (ha pos pins s σ H _ I h) λ us s1 ⟨vs,H1,I1,r1,q1⟩=>hc pins s1 σ H1 vs us Q I1 r1 q1) he fD
theorem bO (hc:fG X (.type T) r) (hg:Gl X x) (hm:X.mg x=none) (hv:bootBuiltins x=some (.type T)) (ha:PA X (e::es) t) (hn:x ≠ "__name__":=by decide) (jM:(x == ("__debug__" : Str))=false:=by decide) (he:starEach (e::es) X.env=(false,eval e X.env)::starEach es X.env:=by rfl) (fD:(backTo pos (starEach es X.env)).any (·.1)=false:=by rfl):PE X (.Call (.Name x p) (e::es) [] pos) (tCB r t):=by
 intro pins s σ H Q I h
 refine agF (lH I hg hm hv ?_ hn jM)
 exact akg (cz (ha pos pins s σ H _ I h) λ us s1 ⟨vs,H1,I1,r1,q1⟩=>hc pins s1 σ H1 vs us Q I1 r1 q1) he fD
end
end L2
namespace HT
open PySem PyProof.Rows
def lexLt:List Int->List Int->Bool
 | [],[]=>false
 | [],_::_=>true
 | _::_,[]=>false
 | x::xs,y::ys=>if x=y then lexLt xs ys else decide (x<y)
section
open PySem.SeqAt
open PySem.AutoSeq1 (wpAny_loadPart')
open PySem.MeetsSeq PySem.MeetsSeq2 PySem.MeetsSeq3
end
section
variable {prog:Program} {w:World} {A:Around} {E:Value->Shared->Prop} {s:Shared}
def wW (n d:Nat):Option Int->Nat
 | none=>d
 | some v=>if v<0 then (v+(n:Int)).toNat else min v.toNat n
end
end HT
namespace L2
open PySem PySem.Spec PyProof.Rows
variable {H:Hp} {X:Cx} {h':Heap} {aR its':List Value} {j t':Nat} {pins:List (Addr×Obj)} {pos:Pos} {u:Value} {xs:List V} {σ:St}
abbrev TO:=St->Hp->(Option Int->Hp->Prop)->Prop
def PO (X:Cx) (e:Option Expr) (t:TO):Prop :=
 ∀ (pins:List (Addr×Obj)) (s:Shared) (σ:St) (H:Hp) (Q:Option Int->Hp->Prop),Inv X pins σ H s->t σ H Q ->
   wpAny (model X.prog X.w) X.A (evalPart e X.env) (λ u s'=>∃ o H',Inv X pins σ H' s'/\IsPart u o/\Q o H') X.xe s
def Fp:TO:=λ _ H Q=>Q none H
def Vk (t:TE):TO:=λ σ H Q=>t σ H λ x H1=>∃ i,x = .int i/\Q (some i) H1
section
variable {X:Cx} {e:Expr} {te:TE} {lo hi:Option Expr} {tl th:TO} {pos p2:Pos}
theorem nR:PO X none Fp:=by
 intro pins s σ H Q I h
 rw [evalPart_none]
 exact aaJ ⟨none,H,I,.none,h⟩
theorem jm (h:PE X e te):PO X (some e) (Vk te):=by
 intro pins s σ H Q I hw
 rw [evalPart_some]
 refine cz (h pins s σ H _ I hw) λ u s1 ⟨x,H1,I1,r1,q1⟩=>?_
 obtain ⟨i,rfl,q⟩:=q1
 obtain ⟨t,rfl⟩:=r1
 exact ⟨some i,H1,I1,.int i t,q⟩
def Wr (X:Cx) (r:V->Option Int->Option Int->Hp->VK->Prop):Prop :=
 ∀ (pins:List (Addr×Obj)) (s:Shared) (σ:St) (H:Hp) (x:V) (v vl vu:Value) (lo hi:Option Int) (sl:Addr) (Q:VK),Inv X pins σ H s->RelV x v->s.heap.IsSliceOf sl vl vu .none->IsPart vl lo->IsPart vu hi->r x lo hi H Q ->
   ∃ T id,typeLookup (.type T) "__getitem__" = pure (some (.builtin id))/\s.TypeIs v T/\wpAny (model X.prog X.w) X.A (getItem v (.ref sl)) (EP X pins σ Q) X.xe s
def tSl (r:V->Option Int->Option Int->Hp->VK->Prop) (te:TE) (tl th:TO):TE:=λ σ H Q=>te σ H λ x H1=>tl σ H1 λ l H2=>th σ H2 λ u H3=>r x l u H3 Q
theorem iS {r:V->Option Int->Option Int->Hp->VK->Prop} (hr:Wr X r) (he:PE X e te) (hl:PO X lo tl) (hu:PO X hi th):PE X (.Subscript e (.Slice lo hi none p2) pos) (tSl r te tl th):=by
 intro pins s σ H Q I h
 refine Subscript_ (cz (he pins s σ H _ I h) λ v s1 ⟨x,H1,I1,r1,q1⟩=>?_)
 refine wpAny_Slice (cz (hl pins s1 σ H1 _ I1 q1) λ vl s2 ⟨l,H2,I2,pl,q2⟩=>cz (hu pins s2 σ H2 _ I2 q2) λ vu s3 ⟨u,H3,I3,pu,q3⟩=>?_)
 rw [evalPart_none]
 refine aaJ ?_
 have I4:Inv X pins σ H3 { s3 with heap:=s3.heap.push { cls:=.type "slice",data:=.fields #[vl,vu,.none]}}:=I3.kept (t':=s3.toks) λ b ob q=>aao _ q
 obtain ⟨T,id,hT,ht,hg⟩:=hr pins { s3 with heap:=s3.heap.push { cls:=.type "slice",data:=.fields #[vl,vu,.none]}} σ H3 x v vl vu l u s3.heap.objs.size Q I4 r1 (Heap.IsSliceOf.new ..) pl pu q3
 show wpAny (model X.prog X.w) X.A (subscriptTail e (.Slice lo hi none p2) v (.ref s3.heap.objs.size)) (EP X pins σ Q) X.xe { s3 with heap:=s3.heap.push { cls:=.type "slice",data:=.fields #[vl,vu,.none]}}
 exact tail_any (ops:=[.ref s3.heap.objs.size,v]) ht hT hg (by with_unfolding_all rfl)
def uy (xs:List V) (lo hi:Option Int):List V:=(xs.drop (HT.wW xs.length 0 lo)).take (HT.wW xs.length xs.length hi - HT.wW xs.length 0 lo)
theorem uz (xs:List V) (lo hi:Option Int):(uy xs lo hi).length<=xs.length:=by
 unfold uy
 rw [aaP,List.length_drop]
 lia
end
def Gh (n:Nat) (i:Int):Option Nat:=if 0<=i then (if i<n then some i.toNat else none) else if -(n:Int)<=i then some (i+n).toNat else none
def uh {α:Type} (xs:List α) (i:Int):Option α:=(Gh xs.length i).bind λ j=>xs[j]?
theorem yD {n:Nat} {i:Int} (h:Gh n i=some j):seqIndex? i n=some j/\j<n/\-(n:Int)<=i/\i<n:=by
 unfold Gh at h
 by_cases h0:0<=i
 .
  rw [aeA h0] at h
  by_cases h1:i<n
  . rw [aeA h1] at h
    have e:i.toNat=j:=abb h
    exact ⟨by rw [seqIndex_of h0 h1,e],by lia,by lia,h1⟩
  . rw [adH h1] at h;cases h
 .
  rw [adH h0] at h
  by_cases h1 : -(n:Int)<=i
  . rw [aeA h1] at h
    have e:(i+n).toNat=j:=abb h
    exact ⟨by rw [seqIndex_neg (by lia) h1,e],by lia,h1,by lia⟩
  . rw [adH h1] at h;cases h
theorem yt {α:Type} {xs:List α} {i:Int} {v:α} (h:uh xs i=some v):∃ j,seqIndex? i xs.length=some j/\xs[j]?=some v/\j<xs.length/\-(xs.length:Int)<=i/\i<xs.length:=by
 unfold uh at h
 cases e:Gh xs.length i with
 | none=>rw [e] at h;cases h
 | some j =>
   rw [e] at h
   obtain ⟨h1,h2,h3,h4⟩:=yD e
   exact ⟨j,h1,h,h2,h3,h4⟩
theorem dy {α:Type} {xs:List α} {v:α} (h:xs[j]?=some v):uh xs (j:Int)=some v:=by
 have hj:j<xs.length:=(List.getElem?_eq_some_iff.mp h).1
 have e:Gh xs.length (j:Int)=some j:=by
   unfold Gh
   rw [aeA (by lia),aeA (by lia)];simp
 unfold uh;rw [e];exact h
def EQ (b:Expr):Prop:=∀ o i,subscripted b false o i=operate [o,i] (getItem o i)
def OX (X:Cx) (r:R2):Prop :=
 ∀ (value slice:Expr) (pins:List (Addr×Obj)) (s:Shared) (σ:St) (H:Hp) (x y:V) (v u:Value) (Q:VK),Inv X pins σ H s->RelV x v->RelV y u->r x y H Q ->
   subscripted slice false v u=operate [v,u] (getItem v u)->wpAny (model X.prog X.w) X.A (subscriptTail value slice v u) (EP X pins σ Q) X.xe s
def MtR (X:Cx) (id:String) (r:V->List V->Hp->VK->Prop):Prop :=
 ∀ (pins:List (Addr×Obj)) (s:Shared) (σ:St) (H:Hp) (x:V) (xs:List V) (v:Value) (us:List Value) (Q:VK),Inv X pins σ H s->RelV x v->Vals xs us->r x xs H Q ->
   wpAny (model X.prog X.w) X.A (call (.builtin id) (v::us)) (EP X pins σ Q) X.xe s
section
variable {X:Cx} {a b:Expr} {ta tb:TE} {pos:Pos}
theorem aQ {r:R2} (hr:OX X r) (ha:PE X a ta) (hb:PE X b tb) (hs:EQ b):PE X (.Subscript a b pos) (WA r ta tb):=by
 intro pins s σ H Q I h
 exact Subscript_ (Iv ha hb I h λ v u s2 x y H2 I2 rx ry q=>hr a b pins s2 σ H2 x y v u Q I2 rx ry q (hs _ _))
inductive aaz (K:W.Frag) (x:V) (y:V) (H:Hp) (Q:VK):Prop
 | mk (p xs i v:_) (_:x = .ref p) (_:y = .int i) (_:bh K H p xs) (_:uh xs i=some v) (_:Q v H)
inductive abw (K:W.Frag) (x:V) (y:V) (H:Hp) (Q:VK):Prop
 | mk (p xs i v:_) (_:x = .ref p) (_:y = .int i) (_:bQ K H p xs) (_:uh xs i=some v) (_:Q v H)
theorem Fg:OX X (aaz X.K):=by
 intro value slice pins s σ H x y v u Q I rx ry h hs
 obtain ⟨p,xs,i,z,rfl,rfl,hq,he,q⟩:=h
 cases rx
 obtain ⟨t,rfl⟩:=ry
 obtain ⟨aR,r,pl,hz⟩:=I.list hq
 obtain ⟨j,h1,h2,h3,h4,h5⟩:=yt he
 obtain ⟨w,ew,mh⟩:=r.get h2
 have hl:=r.length
 have hn:=tN
 have fin:EP X pins σ Q w s:=⟨z,H,I,mh,q⟩
 by_cases h0:0<=i
 .
  have hj:i.toNat=j:=by
    rw [seqIndex_of h0 h5] at h1
    exact abb h1
  exact item_listR pl.isList h0 (by lia) (by rw [hj];simpa using ew) fin hs
 .
  have hj:(i+(aR.toArray.size:Int)).toNat=j:=by
    rw [seqIndex_neg (by lia) h4] at h1
    rw [abJ,← hl]
    exact abb h1
  exact subscriptTail_builtinR (x:=w) pl.isList.typeIs slot_list_getitem.lookup
    (wpAny_getItem_list_neg (Q:=λ r s'=>r=w/\EP X pins σ Q r s') pl.isList (by lia) (by rw [abJ]<;>lia) (by lia) (by rw [hj];simpa using ew) ⟨rfl,fin⟩) hs
theorem Ir:OX X (abw X.K):=by
 intro value slice pins s σ H x y v u Q I rx ry h hs
 obtain ⟨p,xs,i,z,rfl,rfl,hq,he,q⟩:=h
 cases rx
 obtain ⟨t,rfl⟩:=ry
 obtain ⟨aR,r,pl,hz⟩:=I.tuple hq
 obtain ⟨j,h1,h2,h3,h4,h5⟩:=yt he
 obtain ⟨w,ew,mh⟩:=r.get h2
 have hl:=r.length
 have hn:=tN
 have fin:EP X pins σ Q w s:=⟨z,H,I,mh,q⟩
 exact subscriptTail_builtinR (x:=w) pl.typeIs slot_tuple_getitem.lookup
   (getItem_tuple (j:=j) (Q:=λ r s'=>r=w/\EP X pins σ Q r s') pl (by lia) (by lia) (by rw [abJ,← hl];exact h1) (by simpa using ew) ⟨rfl,fin⟩) hs
theorem wN (aR:List Value) (n j:Nat) (u:Value):Obj.mapSeq (·.setIfInBounds j u) { cls:=.type "list",data:=.seq aR.toArray n }={ cls:=.type "list",data:=.seq (aR.set j u).toArray n }:=by
 simp [Obj.mapSeq]
theorem Inv.lst {s:Shared} {p:Addr} (I:Inv X pins σ H s) (h:H p=some (.lst xs)) :
   ∃ (aR:List Value) (n:Nat),Vals xs aR/\s.heap.get? p=some { cls:=.type "list",data:=.seq aR.toArray n }/\xs.length<=sizeLine:=by
 obtain ⟨z,aR,n,r,e⟩:=I.bo p _ h
 exact ⟨aR,n,r,e,z⟩
theorem Inv.Jz {s:Shared} {p:Addr} {ys:List V} {n n':Nat} {f:Obj->Obj} (I:Inv X pins σ H s) (h:H p=some (.lst xs)) (ho:s.heap.get? p=some { cls:=.type "list",data:=.seq aR.toArray n }) (hf:f { cls:=.type "list",data:=.seq aR.toArray n }={ cls:=.type "list",data:=.seq its'.toArray n' }) (r:Vals ys its') (hz:ys.length<=sizeLine) (t:Nat) :
   Inv X pins σ (upd H p (.lst ys)) { s with heap:=s.heap.update p f,toks:=t }:=by
 have e:(s.heap.update p f).get? p=some { cls:=.type "list",data:=.seq its'.toArray n' }:=by
   rw [alM f ho (by rw [hf]<;>rfl),hf]
 refine I.write (x:=p) (e:=p) (by rw [h];trivial) (.inl rfl) (λ b u hb q=>(aml _ _ (alK hb)).trans q) ⟨_,e⟩ ?_
 exact ⟨hz,its',n',r,e⟩
def Og:V->V->V->Hp->(Hp->Prop)->Prop:=λ o i v H Q=>∃ p xs k j,o = .ref p/\i = .int k/\H p=some (.lst xs)/\Gh xs.length k=some j/\Q (upd H p (.lst (xs.set j v)))
theorem set_list:Lw X Og:=by
 intro pins s σ H o i v ov iv u Q I ro ri rv h
 obtain ⟨p,xs,k,j,rfl,rfl,hp,hj,q⟩:=h
 cases ro
 obtain ⟨t,rfl⟩:=ri
 obtain ⟨aR,n,r,ho,hz⟩:=I.lst hp
 obtain ⟨h1,h2,h3,h4⟩:=yD hj
 have hl:=r.length
 have hn:=tN
 have I':Inv X pins σ (upd H p (.lst (xs.set j v))) { s with heap:=s.heap.update p (Obj.mapSeq (·.setIfInBounds j u))} :=
   I.Jz hp ho (wN aR n j u) (r.set rv j) (by rw [List.length_set];exact hz) s.toks
 by_cases h0:0<=k
 .
  have hk:k.toNat=j:=by
    rw [seqIndex_of h0 h4] at h1
    exact abb h1
  exact W.ki_setAt ho h0 (by lia) (by rw [abJ,← hl];exact h4) (by rw [hk];exact ⟨_,I',q⟩)
 .
  have hk:(k+(aR.toArray.size:Int)).toNat=j:=by
    rw [seqIndex_neg (by lia) h3] at h1
    rw [abJ,← hl]
    exact abb h1
  exact W.ki_setBack ho (by lia) (by rw [abJ,← hl];exact h3) (by lia) (by rw [hk];exact ⟨_,I',q⟩)
theorem tx (lo hi:Option Int) (n:Nat):(sliceBounds lo hi none n).1=((HT.wW n 0 lo:Nat):Int)/\(sliceBounds lo hi none n).2.1=((HT.wW n n hi:Nat):Int)/\(sliceBounds lo hi none n).2.2=1:=by
 refine ⟨?_,?_,rfl⟩
 .
  cases lo with
  | none=>simp [sliceBounds,HT.wW]
  | some i =>
    simp only [sliceBounds,HT.wW,Option.getD_none,show (1:Int) > 0 by decide,alX]
    by_cases h:i<0
    . simp only [h,alX]<;>lia
    . simp only [h,amb]<;>lia
 .
  cases hi with
  | none=>simp [sliceBounds,HT.wW]
  | some i =>
    simp only [sliceBounds,HT.wW,Option.getD_none,show (1:Int) > 0 by decide,alX]
    by_cases h:i<0
    . simp only [h,alX]<;>lia
    . simp only [h,amb]<;>lia
theorem rj (aR:List Value) (lo hi:Option Int):slicePick aR.toArray lo hi none=((aR.drop (HT.wW aR.length 0 lo)).take (HT.wW aR.length aR.length hi - HT.wW aR.length 0 lo)).toArray:=by
 obtain ⟨h1,h2,h3⟩:=tx lo hi aR.toArray.size
 unfold slicePick
 rw [h1,h2,h3]
 simp only [sliceRange_one,pick_run,abJ]<;>rfl
inductive Yr (K:W.Frag) (x:V) (lo:Option Int) (hi:Option Int) (H:Hp) (Q:VK):Prop
 | mk (a xs:_) (_:x = .ref a) (_:bh K H a xs) (_:∀ p,H p=none->Q (.ref p) (upd H p (.lst (uy xs lo hi))))
theorem yA:Wr X (Yr X.K):=by
 intro pins s σ H x v vl vu lo hi sl Q I rx hs pl pu h
 obtain ⟨a,xs,rfl,hx,q⟩:=h
 cases rx
 obtain ⟨aR,r,ht,hz⟩:=I.list hx
 have hlen:=r.length
 refine ⟨"list",_,slot_list_getitem.lookup,ht.isList.typeIs,?_⟩
 refine wpAny_getItem_list_slice ht.isList hs pl pu .none (by simp) ?_ (by rw [abJ]<;>lia)
 rw [rj,← hlen]
 refine ⟨.ref s.heap.objs.size,_,I.laid (t':=s.toks) (o:=.lst (uy xs lo hi)) (λ b ob q=>aao _ q) (aau _) ?_,rfl,q _ (I.bo.fresh (aau _))⟩
 exact ⟨afi (uz xs lo hi) hz,_,0,(r.drop (HT.wW xs.length 0 lo)).take (HT.wW xs.length xs.length hi - HT.wW xs.length 0 lo),aa4 _ rfl⟩
theorem ud:fG X (.builtin "len") (λ xs H Q=>∃ p ys,xs=[.ref p]/\(bh X.K H p ys∨bQ X.K H p ys)/\Q (.int ys.length) H):=by
 intro pins s σ H xs us Q I r h
 obtain ⟨p,ys,rfl,hq,q⟩:=h
 obtain ⟨u,rfl,rx⟩:=vals1 r
 cases rx
 have hn:=tN
 rcases hq with hq|hq
 . obtain ⟨aR,r',pl,hz⟩:=I.list hq
   have hlen:=r'.length
   exact Calls.call_len_list pl.isList (by simp only [abJ]<;>lia) ⟨.int ys.length,H,I.tok _,⟨s.toks+1,by rw [abJ,hlen]⟩,q⟩
 . obtain ⟨aR,r',pl,hz⟩:=I.tuple hq
   have hlen:=r'.length
   exact len_tuple pl (by simp only [abJ]<;>lia) ⟨.int ys.length,H,I.tok _,⟨s.toks+1,by rw [abJ,hlen]⟩,q⟩
theorem ic:fG X (.type "list") (λ xs H Q=>∃ p ys,xs=[.ref p]/\(bh X.K H p ys∨bQ X.K H p ys)/\∀ l,H l=none->Q (.ref l) (upd H l (.lst ys))):=by
 intro pins s σ H xs us Q I r h
 obtain ⟨p,ys,rfl,hq,q⟩:=h
 obtain ⟨u,rfl,rx⟩:=vals1 r
 cases rx
 have fin:∀ (aR:List Value),Vals ys aR->ys.length<=sizeLine->∀ (h':Heap) (c':Nat),(∀ b o',s.heap.get? b=some o'->h'.get? b=some o') ->
     h'.get? s.heap.objs.size=some { cls:=.type "list",dict:=none,data:=.seq aR.toArray c',slots:=#[]}->EP X pins σ Q (.ref s.heap.objs.size) { s with heap:=h' }:=λ aR r' hz h' c' kp e =>
   ⟨.ref s.heap.objs.size,_,I.laid (t':=s.toks) kp (aau _) (show bJ X.prog X.w _ h' _ (.lst ys) from ⟨hz,aR,c',r',e⟩),rfl,q _ (I.bo.fresh (aau _))⟩
 rcases hq with hq|hq
 .
  obtain ⟨aR,r',pl,hz⟩:=I.list hq
  have hlen:=r'.length
  obtain ⟨o,ho,hc,n,hd⟩:=pl.isList
  exact call_list_seq p (.inl rfl) ho hc hd (λ h' c' kp e=>fin aR r' hz h' c' kp e) (by simp only [abJ]<;>lia)
 .
  obtain ⟨aR,r',pl,hz⟩:=I.tuple hq
  have hlen:=r'.length
  obtain ⟨o,ho,hc,n,hd⟩:=pl
  exact call_list_seq p (.inr rfl) ho hc hd (λ h' c' kp e=>fin aR r' hz h' c' kp e) (by simp only [abJ]<;>lia)
theorem cc:fG X (.type "tuple") (λ xs H Q=>∃ p ys,xs=[.ref p]/\((bh X.K H p ys/\∀ l,H l=none->Q (.ref l) (upd H l (.tup ys)))∨(bQ X.K H p ys/\Q (.ref p) H))):=by
 intro pins s σ H xs us Q I r h
 obtain ⟨p,ys,rfl,h⟩:=h
 obtain ⟨u,rfl,rx⟩:=vals1 r
 cases rx
 rcases h with ⟨hq,q⟩|⟨hq,q⟩
 .
  obtain ⟨aR,r',pl,hz⟩:=I.list hq
  have hlen:=r'.length
  refine call_tuple_list pl.isList (λ h' kp=>?_) (by simp only [abJ]<;>lia)
  have I1:Inv X pins σ H { s with heap:=h' }:=I.kept (t':=s.toks) kp
  have I2:Inv X pins σ (upd H h'.objs.size (.tup ys)) { s with heap:=h'.push { cls:=.type "tuple",data:=.seq aR.toArray }} :=
    I1.laid (t':=s.toks) (λ b o e=>aao _ e) (aau _) (show bJ X.prog X.w _ _ _ (.tup ys) from ⟨hz,aR,r',IsTup.new _ _⟩)
  exact ⟨.ref h'.objs.size,_,I2,rfl,q _ (I1.bo.fresh (aau _))⟩
 . obtain ⟨aR,r',pl,hz⟩:=I.tuple hq
   exact call_tuple_same pl ⟨.ref p,H,I,rfl,q⟩
def tyV (K:W.Frag) (T:String) (x:V) (H:Hp):Prop:=match x with
 | .str _=>T = "str"
 | .int _=>T = "int"
 | .ref p=>(T = "list"/\∃ xs,bh K H p xs)∨(T = "tuple"/\∃ o,K.lookup p=some o/\o.cls = .type "tuple"/\o.dict=none) ∨
     (T = "dict"/\((∃ kvs,H p=some (.dK kvs))∨∃ kvs,H p=some (.dT kvs)))∨(T = "set"/\∃ S n,H p=some (.set S n))
 | _=>False
theorem Ce {s:Shared} {T:String} {x:V} {v:Value} (I:Inv X pins σ H s) (r:RelV x v) (ty:tyV X.K T x H) :
   s.TypeIs v T/\∀ a,v = .ref a->∃ ob,s.heap.get? a=some ob/\ob.dict=none:=by
 cases x with
 | str z =>
   obtain ⟨t,rfl⟩:=r
   cases (show T = "str" from ty)
   exact ⟨typeIs_str s z t,λ _ e=>nomatch e⟩
 | int i =>
   obtain ⟨t,rfl⟩:=r
   cases (show T = "int" from ty)
   exact ⟨typeIs_int s i t,λ _ e=>nomatch e⟩
 | ref p =>
   cases r
   rcases ty with ⟨rfl,xs,hq⟩|⟨rfl,o,hk,hc,hd⟩|⟨rfl,hk⟩|⟨rfl,S,n,hk⟩
   . obtain ⟨aR,_,pl,_⟩:=I.list hq
     refine ⟨pl.isList.typeIs,λ a e=>?_⟩
     cases e
     obtain ⟨o,n,e,c,hd,_⟩:=pl
     exact ⟨o,e,hd⟩
   . refine ⟨⟨o,I.ia p o hk,hc⟩,λ a e=>?_⟩
     cases e
     exact ⟨o,I.ia _ o hk,hd⟩
   .
    have z:∃ o,s.heap.get? p=some o/\o.ExactDict:=by
      rcases hk with ⟨kvs,hk⟩|⟨kvs,hk⟩
      . obtain ⟨_,_,_,_,o,_,_,e,ex,_⟩:=I.bo p _ hk
        exact ⟨o,e,ex⟩
      . obtain ⟨_,_,_,_,o,_,_,e,ex,_⟩:=I.bo p _ hk
        exact ⟨o,e,ex⟩
    obtain ⟨o,e,ex⟩:=z
    refine ⟨⟨o,e,ex.1⟩,λ a e2=>?_⟩
    cases e2
    exact ⟨o,e,ex.2.1⟩
   . obtain ⟨o,_,_,_,e,ex,_⟩:=I.bo p _ hk
     refine ⟨⟨o,e,ex.1⟩,λ a e2=>?_⟩
     cases e2
     exact ⟨o,e,ex.2.1⟩
 | _=>exact False.elim ty
def ajk (K:W.Frag) (T:String) (r:V->List V->Hp->VK->Prop) (to:TE):TE:=λ σ H Q=>to σ H λ x H1=>tyV K T x H1/\r x [] H1 Q
def tBM (K:W.Frag) (T:String) (r:V->List V->Hp->VK->Prop) (to:TE) (t:TA):TE:=λ σ H Q=>to σ H λ x H1=>tyV K T x H1/\t σ H1 λ xs H2=>r x xs H2 Q
variable {o e:Expr} {es:List Expr} {to:TE} {t:TA} {name:Str} {apos eU:Pos} {T id:String} {r:V->List V->Hp->VK->Prop}
theorem Ar (pa:PlainAttrs T) (slot:Slot T name id) (IX:typeOf (.builtin id)=pure (.type "method_descriptor")) (hm:MtR X id r) (ho:PE X o to) (u5:attributeBase o name X.env (eval o X.env)=eval o X.env:=by rfl) (vX:(apos.endLine == eU.line)=true:=by rfl):PE X (.Call (.Attribute o name apos) [] [] eU) (ajk X.K T r to):=by
 intro pins s σ H Q I h
 refine wpAny_Call_method0_late u5 vX (cz (ho pins s σ H _ I h) λ v s1 ⟨x,H1,I1,r1,ty,q1⟩=>?_)
 obtain ⟨h1,h2⟩:=Ce I1 r1 ty
 exact ⟨T,id,pa,slot,IX,h1,h2,amm rfl (ang (hm pins s1 σ H1 x [] v [] Q I1 r1 .nil q1))⟩
theorem GL (pa:PlainAttrs T) (slot:Slot T name id) (IX:typeOf (.builtin id)=pure (.type "method_descriptor")) (hm:MtR X id r) (ho:PE X o to) (ha:PA X (e::es) t) (u5:attributeBase o name X.env (eval o X.env)=eval o X.env:=by rfl) (akW:((backTo eU (starEach (e::es) X.env)).all (λ x => !x.1) && (backToKw eU (keywordEach [] X.env)).all (λ x=>x.1.isSome)
     && decide ((e::es).length+([]:List Keyword).length+(if ([]:List Keyword).isEmpty then 0 else 1)<30))=true:=by rfl) (vX:(apos.endLine == eU.line)=true:=by rfl) (hs:starEach (e::es) X.env=(false,eval e X.env)::starEach es X.env:=by rfl) (wS:(backTo eU (starEach es X.env)).any (·.1)=false:=by rfl) :
   PE X (.Call (.Attribute o name apos) (e::es) [] eU) (tBM X.K T r to t):=by
 intro pins s σ H Q I h
 refine wpAny_Call_method_late u5 akW vX rfl (cz (ho pins s σ H _ I h) λ v s1 ⟨x,H1,I1,r1,ty,q1⟩=>?_)
 obtain ⟨h1,h2⟩:=Ce I1 r1 ty
 refine ⟨T,id,pa,slot,IX,h1,h2,?_⟩
 have hA:=ha eU pins s1 σ H1 _ I1 q1
 rw [hs] at hA ⊢
 refine amm (by show (false || (backTo eU (starEach es X.env)).any (·.1))=false;rw [wS]<;>rfl) (Calls.evalArgs_plain ?_)
 exact cz hA λ us s2 ⟨vs,H2,I2,r2,q2⟩=>hm pins s2 σ H2 x vs v us Q I2 r1 r2 q2
end
def MtM (X:Cx) (id:String) (r:V->List V->Hp->VK->Prop):Prop :=
 ∀ (pins:List (Addr×Obj)) (s:Shared) (σ:St) (H:Hp) (x:V) (xs:List V) (v:Value) (us:List Value) (Q:VK),Inv X pins σ H s->RelV x v->Vals xs us->r x xs H Q ->
   wpAny (model X.prog X.w) X.A (call (.builtin id) (v::us)) (EP X pins σ Q) X.xe s
theorem Vals.one:∀ {x:V} {us:List Value},Vals [x] us->∃ u,us=[u]/\RelV x u
 | _,_,.cons r .nil=>⟨_,rfl,r⟩
theorem Vals.zero:∀ {us:List Value},Vals [] us->us=[]
 | _,.nil=>rfl
theorem Vals.rep {us:List Value} (h:Vals xs us):∀ k:Nat,Vals (List.replicate k xs).flatten (List.replicate k us).flatten
 | 0 => .nil
 | k+1=>by
   rw [aiI,aiI,ali,ali]
   exact Vals.append h (Vals.rep h k)
theorem foldl_rep (aR:List Value):∀ (k:Nat) (acc:List Value),
   List.foldl (λ x1 x2=>x1++x2) acc.toArray (List.replicate k aR.toArray)=(acc++(List.replicate k aR).flatten).toArray
 | 0,acc=>by simp
 | k+1,acc=>by
   have e:acc.toArray++aR.toArray=(acc++aR).toArray:=by simp
   have e2:(acc++aR)++(List.replicate k aR).flatten=acc++(List.replicate (k+1) aR).flatten:=by
     rw [aiI,ali,List.append_assoc]
   rw [← e2,← foldl_rep aR k (acc++aR),← e,aiI,List.foldl_cons]
section
variable {X:Cx} {pins:List (Addr×Obj)} {σ:St} {H:Hp} {s:Shared} {l b:Addr} {xs ys zs:List V}
theorem Inv.UA {n:Nat} {f:Array Value->Array Value} {t':Nat} (I:Inv X pins σ H s) (hH:H l=some (.lst xs)) (e:s.heap.get? l=some { cls:=.type "list",data:=.seq aR.toArray n }) (hf:f aR.toArray=its'.toArray) (hv:Vals ys its') (hz:ys.length<=sizeLine) :
   Inv X pins σ (upd H l (.lst ys)) { s with heap:=s.heap.update l (Obj.mapSeq f),toks:=t' }:=by
 have q:=PySem.IsL.update e f
 rw [hf] at q
 refine I.write (x:=l) (e:=l) (by rw [hH];exact trivial) (.inl rfl) (λ b' u hb hu=>(aml s.heap (Obj.mapSeq f) (alK hb)).trans hu) ⟨_,q⟩ ?_
 exact ⟨hz,its',_,hv,q⟩
theorem Inv.af5 {t':Nat} (I:Inv X pins σ H s) (hv:Vals ys aR) (hz:ys.length<=sizeLine) :
   Inv X pins σ (upd H s.heap.objs.size (.lst ys)) { s with heap:=s.heap.push { cls:=.type "list",data:=.seq aR.toArray },toks:=t' } :=
 I.laid (λ _ _ q=>aao _ q) (aau _) ⟨hz,aR,0,hv,aa4 _ rfl⟩
theorem Inv.fresh (I:Inv X pins σ H s):H s.heap.objs.size=none:=I.bo.fresh (aau _)
theorem Inv.Sh (I:Inv X pins σ H s) (hH:H l=some (.lst xs)):xs.length<=sizeLine/\∃ (aR:List Value) (n:Nat),Vals xs aR/\xs.length=aR.length/\s.heap.get? l=some { cls:=.type "list",data:=.seq aR.toArray n }:=by
 obtain ⟨z,aR,n,r,e⟩:=I.bo l _ hH
 exact ⟨z,aR,n,r,r.length,e⟩
theorem BA {n:Nat} (h:n<=sizeLine):Builtin.List.listTooLong n=false:=by
 unfold Builtin.List.listTooLong
 exact af6 (by lia)
end
section
variable {X:Cx}
inductive Es  (x:V) (vs:List V) (H:Hp) (Q:VK):Prop
 | mk (l xs y:_) (_:x = .ref l) (_:vs=[y]) (_:H l=some (.lst xs)) (_:xs.length<sizeLine) (_:Q .dC (upd H l (.lst (xs++[y]))))
theorem lQ:MtM X "list.append" Es:=by
 intro pins s σ H x vs v us Q I rx rv h
 obtain ⟨l,xs,y,rfl,rfl,hH,hz,q⟩:=h
 cases rx
 obtain ⟨u,rfl,ru⟩:=rv.one
 obtain ⟨z,aR,n,r,hl,e⟩:=I.Sh hH
 refine ann F.slot_list_append ⟨_,e,rfl⟩ F.entry_list_append (F.args_list_append_2 _ _) (PySem.list_append l aR.toArray n u (by rw [abJ];lia)) ⟨e,?_⟩
 refine ⟨.dC,_,I.UA (its':=aR++[u]) hH e (by simp) (r.append (.cons ru .nil)) ?_,rfl,q⟩
 rw [acC,List.length_singleton]
 lia
inductive Z8  (x:V) (y:V) (H:Hp) (Q:VK):Prop
 | mk (l k xs:_) (_:x = .ref l) (_:y = .int k) (_:H l=some (.lst xs)) (_ : -(2 ^ 63)<=k) (_:k<2 ^ 63) (_:xs.length * k.toNat<=sizeLine) (_:∀ p,H p=none->Q (.ref p) (upd H p (.lst (List.replicate k.toNat xs).flatten)))
theorem len_rep {α:Type} (xs:List α) (k:Nat):(List.replicate k xs).flatten.length=k * xs.length:=by
 induction k with
 | zero=>simp
 | succ k ih=>rw [aiI,ali,acC,ih,Nat.succ_mul,ana]
theorem j6:iU X (binaryOp .Mult) Z8:=by
 intro pins s σ H x y v u Q I rx ry h
 obtain ⟨l,k,xs,rfl,rfl,hH,h1,h2,hz,q⟩:=h
 cases rx
 obtain ⟨t,rfl⟩:=ry
 obtain ⟨z,aR,n,r,hl,e⟩:=I.Sh hH
 have hlen:aR.toArray.size * k.toNat<=sizeLine:=by rw [abJ,← hl];exact hz
 have aae:¬ aR.toArray.size * k.toNat > (2 ^ 63 - 1) / 8:=by
   have:(sizeLine:Nat)<=(2 ^ 63 - 1) / 8:=by decide
   lia
 have aii:¬ (!Builtin.List.listFitsIndex k)=true:=by
   rw [fitsIndex_both h1 h2]
   exact abS
 have Sy:¬ Builtin.List.listTooLong (aR.toArray.size * k.toNat)=true:=by
   rw [BA hlen]
   exact abS
 have AO:List.foldl (λ x1 x2=>x1++x2) #[] (List.replicate (if aR.toArray.isEmpty=true then 0 else k.toNat) aR.toArray)=(List.replicate k.toNat aR).flatten.toArray:=by
   have f0:∀ m:Nat,List.foldl (λ x1 x2=>x1++x2) #[] (List.replicate m aR.toArray)=(List.replicate m aR).flatten.toArray:=λ m=>by
     have:=foldl_rep aR m []
     rw [List.nil_append] at this
     exact this
   rw [f0]
   cases aR with
   | nil=>simp
   | cons a r'=>rw [adH (by simp)]
 refine wpAny_binaryOp_repeat_ref (T:="list") (U:="int") (by decide) ⟨_,e,rfl⟩ (λ s'=>typeIs_int s' k t) noFill_list_mul F.fills_int_mul F.slot_int_rmul repeat_list F.slot_int_index.lookup
   (ann F.slot_int_rmul (typeIs_int s k t) F.entry_int_rmul (F.args_int_rmul_2 _ _) (int___rmul___int_list k t l aR.toArray n)
     ⟨e,rfl,⟨_,e,rfl⟩,ann F.slot_list_mul ⟨_,e,rfl⟩ F.entry_list_mul (F.args_list_mul_2 _ _) (AutoListH.list___mul___list_int_3 l aR.toArray n k t aii aae Sy) ⟨e,?_⟩⟩)
 rw [AO]
 exact ⟨.ref _,_,I.af5 (t':=s.toks) (r.rep k.toNat) (by rw [len_rep,alT];exact hz),rfl,q _ I.fresh⟩
end
section
variable {κ:Type} [DecidableEq κ]
def l7 (kvs:List (κ×V)) (k:κ):Option V:=(kvs.find? λ kv=>decide (kv.1=k)).map (·.2)
def putK (kvs:List (κ×V)) (k:κ) (v:V):List (κ×V) :=
 if (kvs.any λ kv=>decide (kv.1=k))=true then kvs.map (λ kv=>if kv.1=k then (kv.1,v) else kv) else kvs++[(k,v)]
theorem uA {p:κ×V} {r:List (κ×V)} {k:κ} (e:p.1=k):l7 (p::r) k=some p.2:=by simp [l7,ahD,e]
theorem vG {p:κ×V} {r:List (κ×V)} {k:κ} (e:¬ p.1=k):l7 (p::r) k=l7 r k:=by simp [l7,ahD,e]
theorem u3 (kvs:List (κ×V)) (k:κ) (v:V):(putK kvs k v).length<=kvs.length+1:=by
 unfold putK
 split
 . rw [aad];lia
 . rw [acC,aj2,List.length_nil];lia
theorem iG.yK {o:Option V} {u:Option Value} (r:iG o u):o.isSome=u.isSome:=by
 cases o with
 | none=>cases u with
   | none=>rfl
   | some _=>exact (show False from r).elim
 | some _=>cases u with
   | none=>exact (show False from r).elim
   | some _=>rfl
theorem KV.val {kvs:List (κ×V)} {vs:List (κ×Value)} (r:KV kvs vs) (k:κ):iG (l7 kvs k) (valueAt vs k):=by
 unfold KV at r
 induction r with
 | nil=>exact True.intro
 | @cons p q ps qs h t ih =>
   obtain ⟨h1,h2⟩:=h
   by_cases e:p.1=k
   . have e':q.1=k:=h1.symm.trans e
     have b:valueAt (q::qs) k=some q.2:=by simp [valueAt,ahD,e']
     rw [uA e,b];exact h2
   . have e':¬ q.1=k:=λ z=>e (h1.trans z)
     have b:valueAt (q::qs) k=valueAt qs k:=by simp [valueAt,ahD,e']
     rw [vG e,b];exact ih
theorem KV.any {kvs:List (κ×V)} {vs:List (κ×Value)} (r:KV kvs vs) (k:κ):(kvs.any λ kv=>decide (kv.1=k))=vs.any λ kv=>decide (kv.1=k):=by
 unfold KV at r
 induction r with
 | nil=>rfl
 | cons h t ih=>rw [List.any_cons,List.any_cons,ih,h.1]
theorem KV.Yd {kvs:List (κ×V)} {vs:List (κ×Value)} (r:KV kvs vs) (k:κ) {y:V} (ry:RelV y u) :
   KV (kvs.map λ kv=>if kv.1=k then (kv.1,y) else kv) (vs.map λ kv=>if kv.1=k then (kv.1,u) else kv):=by
 unfold KV at r ⊢
 induction r with
 | nil=>exact .nil
 | @cons p q ps qs h t ih =>
   rw [afS,afS]
   refine .cons ?_ ih
   obtain ⟨h1,h2⟩:=h
   by_cases e:p.1=k
   . rw [aeA e,aeA (h1.symm.trans e)];exact ⟨h1,ry⟩
   . rw [adH e,adH (λ z=>e (h1.trans z))];exact ⟨h1,h2⟩
theorem KV.put {kvs:List (κ×V)} {vs:List (κ×Value)} (r:KV kvs vs) (k:κ) {y:V} (ry:RelV y u):KV (putK kvs k y) (stored vs k u):=by
 unfold putK stored
 rw [r.any k]
 by_cases e:(vs.any λ kv=>decide (kv.1=k))=true
 . rw [aeA e,aeA e];exact r.Yd k ry
 . rw [adH e,adH e];exact Paired.snoc r ⟨rfl,ry⟩
theorem KV.length {kvs:List (κ×V)} {vs:List (κ×Value)} (r:KV kvs vs):kvs.length=vs.length:=amF r
end
theorem AU {P:Program} {w:World} {k:Key} (r:RelV (kV k) u):(cu P w).is k u=true:=by
 cases k with
 | inl i=>obtain ⟨t,e⟩:=(show ∃ t,u=Value.int i t from r);subst e;exact ur P w i t
 | inr x=>obtain ⟨t,e⟩:=(show ∃ t,u=Value.str x t from r);subst e;exact vw P w x t
theorem rJ {P:Program} {w:World}:∀ {ks:List Key} {us:List Value},Vals (ks.map kV) us->ItemsAre (cu P w) ks us
 | [],_,r=>by rw [amw] at r;cases r;exact .nil
 | k::ks,_,r=>by
   rw [afS] at r
   cases r with
   | cons h t=>exact .cons (AU h) (rJ t)
abbrev KT (H:Hp):List (List Key×V)->List (List Key×Addr×Value)->Prop:=Paired λ p q=>p.1=q.1/\H q.2.1=some (.tup (p.1.map kV))/\RelV p.2 q.2.2
theorem KT.val {kvs:List (List Key×V)} {xs:List (List Key×Addr×Value)} (r:KT H kvs xs) (k:List Key):iG (l7 kvs k) ((atKey xs k).map (·.2)):=by
 induction r with
 | nil=>exact True.intro
 | @cons p q ps qs h t ih =>
   obtain ⟨h1,_,h2⟩:=h
   by_cases e:p.1=k
   . have e':q.1=k:=h1.symm.trans e
     have b:atKey (q::qs) k=some q.2:=by simp [atKey,ahD,e']
     rw [uA e,b];exact h2
   . have e':¬ q.1=k:=λ z=>e (h1.trans z)
     have b:atKey (q::qs) k=atKey qs k:=by simp [atKey,ahD,e']
     rw [vG e,b];exact ih
section
variable {P:Program} {w:World} {H:Hp} {h:Heap} {a:Addr}
theorem Hu {u:HO} (ok:g8 P w H h) (e:Rd H a u):bJ P w H h a u:=e.ok ok
theorem xA {kvs:List (Key×V)} (ok:g8 P w H h) (e:Rd H a (.dK kvs)):kvs.length<=sizeLine/\(a == sysModules)=false/\∃ vs,KV kvs vs/\h.DictOf (cu P w) a vs :=
 show bJ P w H h a (.dK kvs) from Hu ok e
theorem Ha {kvs:List (Key×V)} (ok:g8 P w H h) (e:H a=some (.dK kvs)):kvs.length<=sizeLine/\(a == sysModules)=false/\∃ vs,KV kvs vs/\h.DictOf (cu P w) a vs:=xA ok (.inl e)
theorem AF {ks:List Key} (ok:g8 P w H h) (e:H a=some (.tup (ks.map kV))):(tupleKind (cu P w)).is h ks a:=by
 obtain ⟨_,aR,r,o,h1,h2,n,h3⟩:=(show bJ P w H h a (.tup (ks.map kV)) from ok a _ e)
 exact ⟨o,aR.toArray,n,h1,h2,h3,by simpa using rJ r⟩
theorem Hg {kvs:List (List Key×V)} (ok:g8 P w H h) (e:Rd H a (.dT kvs)):kvs.length<=sizeLine/\(a == sysModules)=false /\
   ∃ xs,KT H kvs xs/\h.DictOfH (tupleKind (cu P w)) a xs:=by
 obtain ⟨z,y,xs,r,o,es,ep,h1,h2,h3,h4,h5⟩:=(show bJ P w H h a (.dT kvs) from Hu ok e)
 refine ⟨z,y,xs,r,o,es,ep,h1,h2,h3,h4,λ x hx=>?_,h5⟩
 have all:∀ {l:List (List Key×V)} {m:List (List Key×Addr×Value)},KT H l m->∀ x∈m,(tupleKind (cu P w)).is h x.1 x.2.1:=by
   intro l m q
   induction q with
   | nil=>intro x hx;exact nomatch hx
   | @cons p q ps qs hq t ih =>
     intro x hx
     rcases List.mem_cons.mp hx with e|hx
     . subst e
       exact AF ok (by rw [← hq.1];exact hq.2.1)
     . exact ih x hx
 exact all r x hx
end
def JW (H:Hp) (a:Addr) (y:V) (r:Option V):Prop :=
 (∃ kvs k,Rd H a (.dK kvs)/\y=kV k/\r=l7 kvs k)∨∃ kvs k b,Rd H a (.dT kvs)/\y = .ref b/\H b=some (.tup (k.map kV))/\r=l7 kvs k
section
variable {X:Cx} {pins:List (Addr×Obj)} {σ:St} {H:Hp} {s:Shared} {a:Addr} {y v:V} {u r:Value} {o:Option V} {A:Around} {E:Value->Shared->Prop}
theorem Inv.big (I:Inv X pins σ H s):sysModules<s.heap.objs.size:=by
 have h:mainGlobals<s.heap.objs.size:=(I.mod.glob.keeps I.bk).lt
 exact Nat.lt_trans (by decide) h
theorem zF {Q:Value->Shared->Prop} (hu:A.units+1<cLine) (I:Inv X pins σ H s) (g:JW H a y (some v)) (ry:RelV y u) (h:∀ w' s',Inv X pins σ H s'->RelV v w'->Q w' s') :
   wpAny (model X.prog X.w) A (getItem (.ref a) u) Q E s:=by
 rcases g with ⟨kvs,k,e,ey,l⟩|⟨kvs,k,b,e,ey,eb,l⟩
 .
  subst ey
  obtain ⟨z,hd,vs,rel,dd⟩:=xA I.bo e
  obtain ⟨w',hw,mh⟩:=iG.some_of (v:=v) (o:=valueAt vs k) (by rw [l];exact rel.val k)
  exact wpAny_getItem_of (AU ry) dd.mapOf hw (h w' _ (I.tok _) mh)
 .
  subst ey
  cases (show u=Value.ref b from ry)
  obtain ⟨z,hd,xs,rel,dd⟩:=Hg I.bo e
  obtain ⟨w',hw,mh⟩:=iG.some_of (v:=v) (o:=(atKey xs k).map (·.2)) (by rw [l];exact rel.val k)
  obtain ⟨p,hp,Fn⟩:=Option.map_eq_some_iff.mp hw
  refine wpAny_getItem_heap (tupleKind_room_in1 hu) (AF I.bo eb) dd hp ?_
  rw [Fn]
  exact h w' _ (I.tok _) mh
theorem yr {t':Nat} {ob:HO} (I:Inv X pins σ H s) (mu:NB (H a)) (hs:Heap.SameBut a s.heap h') (he:∃ q,h'.get? a=some q) (new:bJ X.prog X.w (upd H a ob) h' a ob) :
   Inv X pins σ (upd H a ob) { s with heap:=h',toks:=t' } :=
 I.write (x:=a) (e:=a) mu (.inl rfl) (λ b q hb z=>(hs.2 b hb).trans z) he new
theorem BM {P:Program} {w:World} {H':Hp} {kvs:List (Key×V)} {vs:List (Key×Value)} (z:kvs.length<=sizeLine) (hd:(a == sysModules)=false) (rel:KV kvs vs) (dd:h'.DictOf (cu P w) a vs) :
   bJ P w H' h' a (.dK kvs):=⟨z,hd,vs,rel,dd⟩
end
def Jl (i:Expr):Prop:=∀ ov iv,subscripted i false ov iv=operate [ov,iv] (getItem ov iv)
theorem yg {prog:Program} {w:World} {A:Around} {E:Value->Shared->Prop} {s:Shared} {env:Env} {value slice:Expr} {T id:String} {Q:Value->Shared->Prop} (hl:typeLookup (.type T) "__getitem__" = pure (some (.builtin id))) (hs:Jl slice) (h:wpAny (model prog w) A (eval value env) (λ o s₁=>wpAny (model prog w) A (eval slice env) (λ i s₂=>s₂.TypeIs o T/\wpAny (model prog w) A (getItem o i) Q E s₂) E s₁) E s) :
   wpAny (model prog w) A (eval (.Subscript value slice pos) env) Q E s:=by
 refine Subscript_ (adA h (λ o s₁ h₁=>adA h₁ (λ i s₂ h₂=>?_) λ _ _ x=>x) λ _ _ x=>x)
 obtain ⟨hT,h₂⟩:=h₂
 unfold subscriptTail
 refine wF ?_
 rw [getitemInPython_of_ne hT.not_modules]
 refine wF (amo hT hl ?_)
 have fin:wpAny (model prog w) A (subscripted slice false o i) (λ r s₃=>wpAny (model prog w) A (letTemporaryGo value o r >>= λ _=>pure r) Q E s₃) E s₂:=by
   rw [hs o i]
   exact wpAny_operating (adA h₂ (λ r s₃ h₃=>wF (wpAny_letTemporaryGo (aaJ h₃))) λ _ _ x=>x)
 first
   | exact aaJ (wF fin)
   | exact wF (aaJ (wF fin))
   | exact wF fin
theorem uM {s:Shared} {a:Addr} {y:V} {o:Option V} (I:Inv X pins σ H s) (g:JW H a y o):s.TypeIs (.ref a) "dict":=by
 rcases g with ⟨kvs,k,e,_,_⟩|⟨kvs,k,b,e,_,_,_⟩
 . obtain ⟨_,_,vs,_,dd⟩:=xA I.bo e
   exact dd.typeIs
 . obtain ⟨_,_,xs,_,dd⟩:=Hg I.bo e
   exact dd.typeIs
inductive akh (Q:VK) (x y:V) (H2:Hp):Prop
 | mk (a:Addr) (v:V) (h1:x = .ref a) (h2:JW H2 a y (some v)) (q:Q v H2)
def O7 (td ty:TE):TE:=λ σ H Q=>td σ H λ x H1=>ty σ H1 (akh Q x)
section
variable {X:Cx} {o i e value:Expr} {pos pos' uO:Pos} {td ty tv:TE}
theorem Fq (hu:X.A.units+1<cLine) (ho:PE X o td) (hi:PE X i ty) (hs:Jl i):PE X (.Subscript o i pos) (O7 td ty):=by
 intro pins s σ H Q I h
 refine yg PySem.F.slot_dict_getitem.lookup hs (cz (ho pins s σ H _ I h) λ u s1 ⟨x,H1,I1,rx,q1⟩=>cz (hi pins s1 σ H1 _ I1 q1) λ iv s2 ⟨y,H2,I2,ry,a,v,ex,g,q2⟩=>?_)
 subst ex
 obtain rfl:u=Value.ref a:=rx
 exact ⟨uM I2 g,zF hu I2 g ry λ w' s3 I3 mh=>⟨v,H2,I3,mh,q2⟩⟩
end
theorem CZ {P:Program} {w:World} (h:Heap) (hb:sysModules<h.objs.size):bJ P w H (h.push { cls:=.type "dict",data:=.dict #[]}) h.objs.size (.dK []) :=
 ⟨afL _,beq_eq_false_iff_ne.mpr (alK (acl hb)),[],.nil,Heap.DictOf.new h⟩
def tW:List (TE×TE)->St->Hp->(List (V×V)->Hp->Prop)->Prop
 | [],_,H,Q=>Q [] H
 | (tk,tv)::r,σ,H,Q=>tk σ H λ x H1=>tv σ H1 λ y H2=>tW r σ H2 λ ps H3=>Q ((x,y)::ps) H3
abbrev VV:List (V×V)->List (Value×Value)->Prop:=Paired λ p q=>RelV p.1 q.1/\RelV p.2 q.2
def Ko (X:Cx) (pos:Pos) (keys:List (Option Expr)) (values:List Expr) (yl:List (TE×TE)):Prop :=
 ∀ (pins:List (Addr×Obj)) (s:Shared) (σ:St) (H:Hp) (Q:List (V×V)->Hp->Prop),Inv X pins σ H s->tW yl σ H Q ->
   wpAny (model X.prog X.w) X.A (evalPairs (pairTrees keys values X.env pos)) (λ vs s'=>∃ ps H',Inv X pins σ H' s'/\VV ps vs/\Q ps H') X.xe s
theorem sX:Ko X pos [] [] []:=λ pins s σ H Q I h=>pairTrees_nil_walk ⟨[],H,I,.nil,h⟩
theorem kD {k v:Expr} {ks:List (Option Expr)} {vs:List Expr} {tk tv:TE} {yl:List (TE×TE)} (hk:PE X k tk) (hv:PE X v tv) (hr:Ko X pos ks vs yl) :
   Ko X pos (some k::ks) (v::vs) ((tk,tv)::yl):=λ pins s σ H Q I h =>
 pairTrees_cons_walk (cz (hk pins s σ H _ I h) λ u s1 ⟨x,H1,I1,rx,q1⟩=>cz (hv pins s1 σ H1 _ I1 q1) λ w2 s2 ⟨y,H2,I2,ry,q2⟩ =>
   cz (hr pins s2 σ H2 _ I2 q2) λ ws s3 ⟨ps,H3,I3,rel,q3⟩=>⟨(x,y)::ps,H3,I3,.cons ⟨rx,ry⟩ rel,q3⟩)
def dR (kvs more:List (Key×V)):List (Key×V):=more.foldl (λ acc kv=>putK acc kv.1 kv.2) kvs
theorem KV.merge:∀ {more:List (Key×V)} {rs:List (Key×Value)} {kvs:List (Key×V)} {vs:List (Key×Value)},KV more rs->KV kvs vs->KV (dR kvs more) (merged vs rs):=by
 intro more rs kvs vs r
 unfold KV at r
 induction r generalizing kvs vs with
 | nil=>intro q;exact q
 | @cons p q ps qs h t ih =>
   intro r0
   have e:KV (putK kvs p.1 p.2) (stored vs q.1 q.2):=by
     have:=r0.put p.1 h.2
     rw [← h.1];exact this
   exact ih e
theorem jO:∀ (more kvs:List (Key×V)),(dR kvs more).length<=kvs.length+more.length
 | [],kvs=>by show kvs.length<=kvs.length+0;lia
 | p::r,kvs=>by
   have h1:=jO r (putK kvs p.1 p.2)
   have h2:=u3 kvs p.1 p.2
   show (dR (putK kvs p.1 p.2) r).length<=_
   rw [aj2];lia
theorem pY {P:Program} {w:World}:∀ {kvs:List (Key×V)} {ws:List (Value×Value)},VV (kvs.map λ kv=>(kV kv.1,kv.2)) ws->∃ rs,Carries (cu P w) ws rs/\KV kvs rs
 | [],_,r=>by rw [amw] at r;cases r;exact ⟨[],True.intro,.nil⟩
 | p::kvs,_,r=>by
   rw [afS] at r
   cases r with
   | @cons a b as bs h t =>
     obtain ⟨rs,c,q⟩:=pY (P:=P) (w:=w) t
     obtain ⟨b1,b2⟩:=b
     exact ⟨(p.1,b2)::rs,⟨AU h.1,rfl,c⟩,.cons ⟨rfl,h.2⟩ q⟩
def UJ (yl:List (TE×TE)):TE:=λ σ H Q=>∀ p,H p=none->tW yl σ (upd H p (.dK [])) λ ps H2=>H2 p=some (.dK [])/\∃ kvs:List (Key×V),ps=kvs.map (λ kv=>(kV kv.1,kv.2))/\kvs.length<=15/\Q (.ref p) (upd H2 p (.dK (dR [] kvs)))
theorem yc {keys:List (Option Expr)} {values:List Expr} {yl:List (TE×TE)} (h:Ko X pos keys values yl) (Ca:keys.all (·.isSome)=true) (hl:keys.length=values.length) (h0:keys≠[]) (h15:keys.length<=15):PE X (.Dict keys values pos) (UJ yl):=by
 intro pins s σ H Q I q
 have hn:=I.bo.fresh (aau s.heap.objs.size)
 have I1:=I.laid (a:=s.heap.objs.size) (o:=.dK []) (h':=s.heap.push { cls:=.type "dict",data:=.dict #[]}) (t':=s.toks) (λ _ _ q=>aao _ q) (aau _) (CZ s.heap I.big)
 refine wpAny_Dict_walk (knd:=cu X.prog X.w) Ca hl h0 h15 (cz (h pins _ σ _ _ I1 (q _ hn)) λ ws s2 ⟨ps,H2,I2,rel,e,kvs,ep,lk,q2⟩=>?_)
 subst ep
 obtain ⟨rs,c,rk⟩:=pY (P:=X.prog) (w:=X.w) rel
 obtain ⟨z,hd,vs0,r0,dd⟩:=Ha I2.bo e
 cases r0
 refine ⟨rs,c,dd,λ h' G5 hs=>⟨.ref s.heap.objs.size,_,?_,rfl,q2⟩⟩
 have hz:(dR [] kvs).length<=sizeLine:=by
   have h1:=jO kvs []
   rw [List.length_nil] at h1
   rw [amc];lia
 have he:∃ q,h'.get? s.heap.objs.size=some q:=let ⟨q,_,_,hq,_⟩:=G5;⟨q,hq⟩
 exact yr I2 (by rw [e];exact True.intro) hs he (BM hz hd (rk.merge .nil) G5)
structure M1 (X:Cx) (o:Expr) (m:Str) (apos:Pos) (e:Expr) (eU:Pos):Prop where
 base:attributeBase o m X.env (eval o X.env)=eval o X.env
 few:((backTo eU (starEach [e] X.env)).all (λ x => !x.1) && (backToKw eU (keywordEach [] X.env)).all (λ x=>x.1.isSome)
   && decide (([e]:List Expr).length+([]:List Keyword).length+(if ([]:List Keyword).isEmpty then 0 else 1)<30))=true
 line:(apos.endLine == eU.line)=true
 trees:backTo eU (starEach [e] X.env)=[(false,eval e X.env)]
structure M2 (X:Cx) (o:Expr) (m:Str) (apos:Pos) (e f:Expr) (eU:Pos):Prop where
 base:attributeBase o m X.env (eval o X.env)=eval o X.env
 few:((backTo eU (starEach [e,f] X.env)).all (λ x => !x.1) && (backToKw eU (keywordEach [] X.env)).all (λ x=>x.1.isSome)
   && decide (([e,f]:List Expr).length+([]:List Keyword).length+(if ([]:List Keyword).isEmpty then 0 else 1)<30))=true
 line:(apos.endLine == eU.line)=true
 trees:backTo eU (starEach [e,f] X.env)=[(false,eval e X.env),(false,eval f X.env)]
section
variable {X:Cx} {pins:List (Addr×Obj)} {σ:St} {H:Hp} {s:Shared} {a:Addr} {kvs:List (Key×V)} {A:Around} {E:Value->Shared->Prop}
theorem Cg {Q:Value->Shared->Prop} (I:Inv X pins σ H s) (e:Rd H a (.dK kvs)) (h:∀ p s',H p=none->Inv X pins σ (upd H p (.dK kvs)) s'->Q (.ref p) s'):wpAny (model X.prog X.w) A (call (.type "dict") [.ref a]) Q E s:=by
 obtain ⟨z,hd,vs,rel,dd⟩:=xA I.bo e
 refine kt_call_dict hd dd (by rw [← rel.length];exact z) λ h' G5 hs=>?_
 refine h _ _ (I.bo.fresh (aau _)) (I.laid (a:=s.heap.objs.size) (o:=.dK kvs) (t':=s.toks) (λ b q hq=>?_) (aau _) (BM z (beq_eq_false_iff_ne.mpr (alK (acl I.big))) rel G5))
 exact (hs.2 b (acl (aaK hq))).trans (aao _ hq)
end
end L2
namespace Att
open PySem PySem.W PySem.Calls PyProof.Rows
theorem mU {P:Params} {h:Heap}:∀ (ns:List Int) (vs:List Value),WellAll P h vs (ns.map WData.int)->IntsAre vs ns:=by
 intro ns
 induction ns with
 | nil =>
   intro vs w
   rw [amw] at w
   cases w
   exact .nil
 | cons n ns ih =>
   intro vs w
   rw [afS] at w
   cases w with
   | cons a b =>
     cases a
     exact .cons _ _ (ih _ b)
theorem yW {l:OpenLaw} {n:Nat} (hn:l.most=some n) {P:Params} {h:Heap} {args:List WData} {vals:List Value}
   (ET:l.row.toRowW.claim.pre args=true) (hwl:WellAll P h vals args) :
   ∃ a vs ns,vals=[Value.ref a]/\args=[WData.list (ns.map WData.int)]/\h.get? a=some { cls:=.type "list",data:=.seq vs.toArray }/\IntsAre vs ns/\ns.length<=n:=by
 have hsh:WShape.hasAll [] args [.list .int]=true:=(pre_splitW ET).1
 have hc:l.pre.holds [] { args:=args }=true:=(pre_splitW ET).2
 obtain ⟨d,r,rfl,h1,h2⟩:=hasAllW_cons hsh
 obtain rfl:=hasAllW_nil h2
 obtain ⟨xs,rfl,h3⟩:=hasW_list h1
 obtain ⟨ns,rfl⟩:=items_int h3
 have hlen:ns.length<=n:=by
   unfold OpenLaw.pre at hc
   have h4:(WTm.not (.lt (.lit (.int (n:Int))) (.len (.arg 0)))).holds [] { args:=[.list (ns.map .int)]}=true:=by
     have h4:=(holds_andW hc).1
     rw [hn] at h4
     exact h4
   have h5:=condW_of h4 (w_not (w_lt w_lit (w_len_list (w_arg rfl))))
   rw [aad] at h5
   refine Nat.le_of_not_lt λ q=>?_
   have q':(n:Int)<((ns.length:Nat):Int):=by lia
   first
     | (rw [ajv q'] at h5;exact absurd h5 (by decide))
     | (simp at h5;lia)
 cases hwl with
 | cons w1 w2 =>
   cases w2
   cases w1 with
   | list ho Ca=>exact ⟨_,_,ns,rfl,rfl,ho,mU ns _ Ca,hlen⟩
theorem zi (l:OpenLaw) (args:List WData):l.row.toRowW.claim.post args (.bool true) args=true :=
 postW_of (r:=l.row.toRowW) (X:=(true == true))
   (show WShape.has [] (.bool true) .bool=true by first|rfl|decide|simp [WShape.has,WShape.arms,WShape.armsAll])
   (show (WTm.eq .res (.lit (.bool true))).value [] { args:=args,res:=some (.bool true),after:=args }=some (.bool (true == true)) from w_eq_bool (w_res rfl) w_lit) rfl
section
variable {prog:Program} {w:World} {A:Around} {E:Value->Shared->Prop} {s:Shared} {K:Frag}
def ala (h:Heap):Heap:={ h with objs:=#[]}
def ledger (h:Heap) (L d:Addr):List (Addr×Obj):=(List.range h.objs.size).filterMap λ a=>if a=L∨a=d then none else (h.get? a).map λ o=>(a,o)
end
end Att
namespace L2
open PySem PySem.Spec PyProof.Rows
variable {H:Hp} {qual:Str}
theorem so:∀ {vs:List Value} {ns:List Int},IntsAre vs ns->Vals (ns.map V.int) vs
 | _,_,.nil => .nil
 | _,_,.cons n t h => .cons ⟨t,rfl⟩ (so h)
def apo (H:Hp):Prop:=∀ b,H b=none∨∃ o xs,H b=some (.nK o (.lst xs))
def inClass (s:Stmt) (j:Nat):Stmt:=match s with
 | .ClassDef _ _ _ body _ _ _ _ _ _ _=>body.getD j (.Pass ⟨0,0,0,0⟩)
 | _ => .Pass ⟨0,0,0,0⟩
def aY (s:Stmt):Arguments:=match s with
 | .FunctionDef _ a _ _ _ _ _ _ _ _=>a
 | _=>{ posonlyargs:=[],args:=[],vararg:=none,kwonlyargs:=[],kw_defaults:=[],kwarg:=none,defaults:=[]}
def aI (s:Stmt):List Stmt:=match s with
 | .FunctionDef _ _ b _ _ _ _ _ _ _=>b
 | _=>[]
def ai (s:Stmt):Scope:=match s with
 | .FunctionDef _ _ _ _ _ _ sc _ _ _=>sc
 | _=>{ kind:=.function,names:=[],isGenerator:=false,isCoroutine:=false }
abbrev l6:Ag:=λ _ _ _ _ _ _=>False
abbrev E0:XK:=λ _ _ _=>False
theorem xK {X:Cx}:Passes l6 X E0:=λ _ _ _ _ _ _ _ h=>h.elim
structure DF (K:W.Frag) (x qual:Str) (st:Stmt) (f:Addr) (fd:FuncData):Prop where
 ex:∃ (oc:Value) (od:Option Addr) (kV doc pm:Value) (an:Option Addr) (aP ct:Value) (nV:Array (Option Value)),
   fd=W.fnOf x qual (aY st) (aI st) (ai st) .none kV doc pm an aP ct/\K.lookup f=some ⟨oc,od,.func fd,nV⟩/\W.codeIn K aP qual=true
 kp:W.keepIn K (.ref f)=true
section
variable {P:Program} {w:World} {K:W.Frag} {mg:Str->Option Value} {base:Heap}
theorem DF.ok {x:Str} {st:Stmt} {f:Addr} {fd:FuncData} {N ps:List Str} {k:Nat} {sp:Sp} (F:DF K x qual st f fd) (S:au N ps (ai st)) (len:∀ vs H Q E,sp vs H Q E->vs.length=ps.length) (cJ:∀ (aP:Value) (A:Around) (outer:List Env) (s:Shared) (H:Hp) (vs:List V) (Q:VK) (E:XK),bL k (A.deeper (envOfC qual (ai st) s.heap.objs.size f aP))->sp vs H Q E ->
     ∃ t,mP (eZ l6 P w K mg base N qual (ai st) f aP A outer s H E).Ai (aI st) t/\t { nx:=λ _ H'=>Q .dC H',rt:=Q } (start N vs) H):dn P w K mg base l6 (k+1) f fd ps sp:=by
 obtain ⟨oc,od,kV,doc,pm,an,aP,ct,nV,rfl,lk,iI⟩:=F.ex
 refine yj lk iI S len λ A outer s H vs Q E hr xW=>?_
 obtain ⟨t,h,q⟩:=cJ aP A outer s H vs Q E hr xW
 exact ⟨t,h.Ai,q⟩
theorem DF.binds {x:Str} {st:Stmt} {f:Addr} {fd:FuncData} {ps:List Str} (F:DF K x qual st f fd) (h:∀ (kV doc pm:Value) (an:Option Addr) (aP ct:Value) (us:List Value),us.length=ps.length->bindArgs (W.fnOf x qual (aY st) (aI st) (ai st) .none kV doc pm an aP ct) ⟨us,[]⟩=pure (ps.zip us)):Binds K fd ps []:=by
 obtain ⟨oc,od,kV,doc,pm,an,aP,ct,nV,rfl,lk,iI⟩:=F.ex
 exact .all (h kV doc pm an aP ct)
theorem bV {x:Str} {st:Stmt} {f:Addr} {oc:Value} {od an:Option Addr} {nV:Array (Option Value)} {kV doc pm aP ct:Value} (l:K.lookup f=some ⟨oc,od,.func (W.fnOf x qual (aY st) (aI st) (ai st) .none kV doc pm an aP ct),nV⟩) (c:W.codeIn K aP qual=true) (k:W.keepIn K (.ref f)=true):DF K x qual st f (W.fnOf x qual (aY st) (aI st) (ai st) .none kV doc pm an aP ct):=⟨⟨oc,od,kV,doc,pm,an,aP,ct,nV,rfl,l,c⟩,k⟩
end
theorem MC {A:Around} {k:Nat} (hr:bL k A):A.units+1<cLine:=alb (Nat.add_le_add_left (by decide:1<=64) _) hr.units
theorem bq {n:Nat} (h:n<=1000):n<sizeLine:=alb h (by decide)
section
variable {X:Cx}
theorem pv (i:Nat) {x:Str} {pos:Pos} (hN:X.N[i]?=some x:=by rfl) (hv:Jh X.env.scope x:=by first|exact Or.inl rfl|exact Or.inr (Or.inl rfl)|exact Or.inr (Or.inr rfl)) (hd:(x == ("__debug__" : Str))=false:=by decide) (iI:(x == ("__classdict__" : Str))=false:=by decide):PE X (.Name x pos) (LL i):=Jo hN hv hd iI
end
theorem gw {A B:Prop} (h:B):if false=true then A else B:=by
 rw [adH abS]
 exact h
theorem j9 {A B:Prop} (h:A):if true=true then A else B:=by
 rw [aeA rfl]
 exact h
theorem ME {c A B:Prop} [Decidable c] (hc:c) (h:B):if (!decide c)=true then A else B:=by
 rw [ajv hc]
 exact gw h
def av (H H':Hp):Prop:=∀ b o,H b=some o->H' b=some o
theorem av.refl (H:Hp):av H H:=λ _ _ h=>h
theorem av.trans {H1 H2:Hp} (a:av H H1) (b:av H1 H2):av H H2:=λ c o h=>b c o (a c o h)
theorem av.seq {K:W.Frag} {H':Hp} {a:Addr} {xs:List V} (e:av H H') (h:bh K H a xs):bh K H' a xs:=by
 rcases h with (h|⟨o,h⟩)|h
 . exact .inl (.inl (e _ _ h))
 . exact .inl (.inr ⟨o,e _ _ h⟩)
 . exact .inr h
end L2
namespace Mth
def Bd (n:Nat) (x:Int):Prop:=x.natAbs<2 ^ n
theorem Bd.mono {m n:Nat} {x:Int} (h:Bd m x) (l:m<=n):Bd n x:=aav h (afd (by decide) l)
theorem Bd.log {n:Nat} {x:Int} (h:Bd n x) (hn:0<n):x.natAbs.log2<n:=by
 by_cases h0:x.natAbs=0
 . rw [h0];simpa using hn
 . exact (Nat.log2_lt h0).mpr h
end Mth
namespace Bit
def rooms (n:Nat):List Nat:=(List.range 61).filter n.testBit
def sumOf (l:List Nat):Nat:=l.foldl (λ n r=>n ||| 2 ^ r) 0
def parts (l:List Nat):List Nat:=l.foldl (λ ps r=>ps++ps.map (· ||| 2 ^ r)) [0]
structure Ok (ps l:List Nat):Prop where
 len:ps.length=2 ^ l.length
 first:ps[0]?=some 0
 last:ps[ps.length - 1]?=some (sumOf l)
 rise:ps.Pairwise (· < ·)
 sub:∀ p∈ps,∀ k,p.testBit k=true->k∈l
theorem C7 {n r:Nat} (h:n.testBit r=false):n+2 ^ r=n ||| 2 ^ r:=by
 have e:n &&& 2 ^ r=0:=Nat.eq_of_testBit_eq λ k=>by
   rw [Nat.testBit_and,anh,amA]
   by_cases hk:r=k
   . subst hk;rw [h];rfl
   . simp [hk]
 have l1:n<2 ^ (n+r+1):=aav Nat.lt_two_pow_self (afd (by decide) (by lia))
 have l2:2 ^ r<2 ^ (n+r+1):=Nat.pow_lt_pow_right (by decide) (by lia)
 have l3:n+2 ^ r<2 ^ (n+r+2):=by
   have:2 ^ (n+r+2)=2 ^ (n+r+1) * 2:=am8 ..
   lia
 have m1:n<2 ^ (n+r+2):=alb (ajQ n (2 ^ r)) l3
 have m2:2 ^ r<2 ^ (n+r+2):=alb (Nat.le_add_left (2 ^ r) n) l3
 have q:=BitVec.add_eq_or_of_and_eq_zero (BitVec.ofNat (n+r+2) n) (BitVec.ofNat (n+r+2) (2 ^ r)) (by
   apply BitVec.eq_of_toNat_eq
   rw [BitVec.toNat_and,alW,alW,agf m1,agf m2,e]
   simp)
 have q2:=alR BitVec.toNat q
 rw [BitVec.toNat_add,BitVec.toNat_or,alW,alW,agf m1,agf m2,agf l3] at q2
 exact q2
end Bit
namespace L2
open PySem PySem.Spec PyProof.Rows Mth
theorem eY:bootBuiltins "len" = some (.builtin "len"):=by decide +kernel
theorem bK:bootBuiltins "isinstance" = some (.builtin "isinstance"):=by decide +kernel
theorem fx:bootBuiltins "tuple" = some (.type "tuple"):=by decide +kernel
theorem sP:bootBuiltins "list" = some (.type "list"):=by decide +kernel
theorem tJ:bootBuiltins "int" = some (.type "int"):=by decide +kernel
theorem yf:bootBuiltins "bool" = some (.type "bool"):=by decide +kernel
theorem xU {n:Nat} {x:Int} (h:Bd n x):Builtin.Int.intBits x<=n:=PySem.intBits_le_iff.mpr h
theorem D8 {n:Nat} {x:Int} (h:Builtin.Int.intBits x<=n):Bd n x:=PySem.intBits_le_iff.mp h
section
variable {X:Cx}
def Ih (i j:Int):Prop:=∃ m n,Bd m i/\Bd n j/\m+n<=100000000
def Gs (_ j:Int):Prop:=j≠0/\Bd 8999 j
theorem EY:iU X (binaryOp .Mult) (rI Ih λ i j => .int (i * j)):=Ma λ _ _ _ _ _ _ _ hc q=>by
 obtain ⟨m,n,h1,h2,h3⟩:=hc
 exact mul_int q (IntMulOk.of_le (xU h1) (xU h2) (by lia))
theorem Du:iU X (binaryOp .FloorDiv) (rI Gs λ i j => .int (i.fdiv j)):=Ma λ _ _ _ _ _ _ _ hc q=>by
 have h2:Bd 8999 _:=hc.2
 exact floordiv_int hc.1 q (.inl (amU (aav (h2.log (by decide)) (by decide))))
inductive NN (K:W.Frag) (x:V) (y:V) (H:Hp) (Q:VK):Prop
 | mk (p xs i v:_) (_:x = .ref p) (_:y = .int i) (_:(bh K H p xs∨bQ K H p xs)) (_:uh xs i=some v) (_:Q v H)
theorem aO:OX X (NN X.K):=by
 intro value slice pins s σ H x y v u Q I rx ry h hs
 obtain ⟨p,xs,i,w,e1,e2,hq,e3,q⟩:=h
 rcases hq with hq|hq
 . exact Fg value slice pins s σ H x y v u Q I rx ry ⟨p,xs,i,w,e1,e2,hq,e3,q⟩ hs
 . exact Ir value slice pins s σ H x y v u Q I rx ry ⟨p,xs,i,w,e1,e2,hq,e3,q⟩ hs
theorem d4:fG X (.builtin "isinstance") (λ xs H Q=>∃ x c t cv b,xs=[x,c]/\jI X.K H x t/\RelV c cv/\W.kitOne X.K t cv=some b/\Q (.bl b) H):=by
 intro pins s σ H xs us Q I r h
 obtain ⟨x,c,t,cv,b,rfl,ty,rc,e,q⟩:=h
 obtain ⟨u,w',rfl,r1,r2⟩:=vals2 r
 have:w'=cv:=by
   cases c with
   | dC=>cases r2;cases rc;rfl
   | bl b=>cases r2;cases rc;rfl
   | ref a=>cases r2;cases rc;rfl
   | ty n=>cases r2;cases rc;rfl
   | int i=>exact absurd e (by obtain ⟨k,rfl⟩:=rc;intro z;unfold W.kitOne W.kitCls at z;cases ty<;>simp at z)
   | str i=>exact absurd e (by obtain ⟨k,rfl⟩:=rc;intro z;unfold W.kitOne W.kitCls at z;cases ty<;>simp at z)
   | BP i=>exact absurd e (by obtain ⟨k,rfl⟩:=rc;intro z;unfold W.kitOne W.kitCls at z;cases ty<;>simp at z)
   | HA i=>exact absurd e (by obtain ⟨k,rfl⟩:=rc;intro z;unfold W.kitOne W.kitCls at z;cases ty<;>simp at z)
 subst this
 exact zP I r1 ty e λ tk=>⟨.bl b,H,I.tok _,rfl,q⟩
end
def km (K:W.Frag) (mg:Str->Option Value) (x:Str) (st:Stmt):Prop:=∃ f fd,mg x=some (.ref f)/\DF K x x st f fd
def Def (P:Program) (w:World) (K:W.Frag) (mg:Str->Option Value) (base:Heap) (x:Str) (k:Nat) (ps:List Str) (sp:Sp):Prop :=
 ∃ f fd,mg x=some (.ref f)/\W.keepIn K (.ref f)=true/\Binds K fd ps []/\dn P w K mg base l6 k f fd ps sp
section
variable {P:Program} {w:World} {K:W.Frag} {mg:Str->Option Value} {base:Heap}
theorem km.def {x:Str} {st:Stmt} {N ps:List Str} {k:Nat} {sp:Sp} (h:km K mg x st) (S:au N ps (ai st)) (len:∀ vs H Q E,sp vs H Q E->vs.length=ps.length)
   (hb:∀ (kV doc pm:Value) (an:Option Addr) (aP ct:Value) (us:List Value),us.length=ps.length->bindArgs (W.fnOf x x (aY st) (aI st) (ai st) .none kV doc pm an aP ct) ⟨us,[]⟩=pure (ps.zip us))
   (cJ:∀ (f:Addr) (aP:Value) (A:Around) (outer:List Env) (s:Shared) (H:Hp) (vs:List V) (Q:VK) (E:XK),bL k (A.deeper (envOfC x (ai st) s.heap.objs.size f aP))->sp vs H Q E ->
     ∃ t,mP (eZ l6 P w K mg base N x (ai st) f aP A outer s H E).Ai (aI st) t/\t { nx:=λ _ H'=>Q .dC H',rt:=Q } (start N vs) H):Def P w K mg base x (k+1) ps sp:=by
 obtain ⟨f,fd,hm,F⟩:=h
 exact ⟨f,fd,hm,F.kp,F.binds hb,F.ok S len λ aP A outer s H vs Q E hr hs=>cJ f aP A outer s H vs Q E hr hs⟩
theorem DF.JA {x qual:Str} {st:Stmt} {f:Addr} {fd:FuncData} {p:Str} (F:DF K x qual st f fd)
   (h:∀ (kV doc pm:Value) (an:Option Addr) (aP ct:Value) (u:Value),bindArgs (W.fnOf x qual (aY st) (aI st) (ai st) .none kV doc pm an aP ct) ⟨[u],[]⟩=pure [(p,u)]) (s:Shared) (u:Value):BindsTo s fd ⟨[u],[]⟩ [(p,u)]:=by
 obtain ⟨oc,od,kV,doc,pm,an,aP,ct,nV,rfl,lk,iI⟩:=F.ex
 exact .of_eq (h kV doc pm an aP ct u)
end
section
variable {X:Cx} {x:Str} {p pos:Pos} {e:Expr} {es:List Expr} {t:TA} {k:Nat} {ps:List Str} {sp:Sp}
theorem ay (D:Def X.prog X.w X.K X.mg X.base x k ps sp) (hr:bL k X.A) (ha:PA X (e::es) t) (hg:Gl X x:=by rfl) (jM:(x == ("__debug__" : Str))=false:=by decide)
   (he:starEach (e::es) X.env=(false,eval e X.env)::starEach es X.env:=by rfl) (fD:(backTo pos (starEach es X.env)).any (·.1)=false:=by rfl):PE X (.Call (.Name x p) (e::es) [] pos) (xT sp [] E0 t):=by
 obtain ⟨f,fd,hm,hk,hb,F⟩:=D
 exact xG F hr hg hm hk hb .nil xK ha jM he fD
end
theorem wO {n:Int} {m:Nat} (h:(W.WData.int n).weight<=m):Bd m n:=by
 refine D8 ?_
 simpa only [W.WData.weight,Builtin.Int.intBits] using h
end L2
namespace Att
open PySem PySem.W PySem.Calls PyProof.Rows Mth
theorem sH {l:OpenLaw} {n:Nat} {q:Program} {loose:List Str} {XP:(Str->Option Value)->Heap->Prop} {YP:World->Heap->Prop} {d:DefRec}
   (hn:l.most=some n) (UZ:d.params.defaults=[])
   (call:∀ (w:World) (s₀ s₁:Shared) (mg mb:Str->Option Value) (fa:Addr) (o:Obj) (pm cd doc:Value) (a:Addr) (vs:List Value) (ns:List Int),
     Ground q loose [] XP w s₀ mg mb s₁.heap->YP w s₁.heap ->
     s₁.heap.get? fa=some o->o.data = .func (docDef d.name d.params d.body d.scope pm cd doc)->s₁.heap.CodeRec cd d.name->mg d.name=some (.ref fa) ->
     s₁.heap.get? a=some { cls:=.type "list",data:=.seq vs.toArray }->IntsAre vs ns->ns.length<=n->(∀ z∈ns,Bd 1048576 z)->s₁.gens=#[] ->
     codeAny (model l.prog w) callerA (.call (.ref fa) ⟨[.ref a],[]⟩) (λ r s'=>r = .ok (.ret (.bool true))/\OldK s₁.heap s'.heap/\s'.os=s₁.os/\AllBare s'.gens) s₁) :
   WalkO q loose XP YP l.row.toRowW d [] (λ f vs=>PySem.call f vs):=by
 intro w s₀ s₁ mg mb G Y fa o pm cd doc dV kV ho hd iI hD Ke hg args vals as ET ZM hrd hwl hlo
 obtain rfl:dV = .none:=Dflts.none hD UZ
 obtain rfl:kV = .none:=Dflts.noKw hD
 obtain ⟨a,vs,ns,rfl,rfl,Ji,hints,hlen⟩:=yW hn ET hwl
 have yo:∀ z∈ns,Bd 1048576 z:=λ z hz=>by
   have h1:=layableW_arg ZM _ (List.mem_singleton.mpr rfl)
   have h2:=layableW_item h1 (.int z) (List.mem_map.mpr ⟨z,hz,rfl⟩)
   exact L2.wO (afi (layableW_iff.mp h2).2.2 (by decide))
 refine enter_call (aiL (call w s₀ s₁ mg mb fa o pm cd doc a vs ns G Y ho (fd_plain hd) iI Ke Ji hints hlen yo hg) λ r s' hq=>?_)
 obtain ⟨rfl,h2,h3,h4⟩:=hq
 exact ⟨.inl ⟨.bool true,.bool true,[],rfl,λ _=>rfl,.bool true,zi l _,λ _=>⟨List.Pairwise.nil,λ _ hm=>(nomatch hm)⟩⟩,h2,h3,h4⟩
end Att
namespace L2
open PySem PySem.Spec PyProof.Rows Mth
variable {C L i1 i2:Addr} {H H':Hp} {X:Cx} {Dx:List Value} {cls:Value} {elt iter tg:Expr} {elts ifs:List Expr} {g:TG} {h' h2:Heap} {Gj np pos pos' uO:Pos} {nt t' x1:Nat} {qual:Str} {sl:List Nat} {te:TE} {xs:List V} {σ:St}
inductive adm (K:W.Frag) (vs:List V) (H:Hp) (Q:VK) (_E:XK):Prop
 | mk (a:Addr) (ns:List Int) (_:vs=[.ref a]) (_:bh K H a (ns.map V.int)) (_:ns.length<=63) (_:(∀ z∈ns,Bd 1048576 z)) (_:∀ H',Q (.bl true) H')
section
variable {X:Cx}
inductive UX  (x:V) (y:V) (H:Hp) (Q:VK):Prop
 | mk (i j:_) (_:x = .int i) (_:y = .int j) (_:∀ r:Int,r=i+j->Q (.int r) H)
inductive MX  (x:V) (y:V) (H:Hp) (Q:VK):Prop
 | mk (i j:_) (_:x = .int i) (_:y = .int j) (_:∀ r:Int,r=i - j->Q (.int r) H)
inductive Vo  (x:V) (y:V) (H:Hp) (Q:VK):Prop
 | mk (i j:_) (_:x = .int i) (_:y = .int j) (_:Ih i j) (_:∀ r:Int,r=i * j->Q (.int r) H)
inductive Ps  (x:V) (y:V) (H:Hp) (Q:VK):Prop
 | mk (i j:_) (_:x = .int i) (_:y = .int j) (_:Gs i j) (_:∀ r:Int,r=i.fdiv j->Q (.int r) H)
inductive L9  (x:V) (y:V) (H:Hp) (Q:VK):Prop
 | mk (i j:_) (_:x = .int i) (_:y = .int j) (_:RI i j) (_:∀ r:Int,r=i * 2 ^ j.toNat->Q (.int r) H)
inductive QJ  (x:V) (y:V) (H:Hp) (Q:VK):Prop
 | mk (i j:_) (_:x = .int i) (_:y = .int j) (_:0<=j) (_:∀ r:Int,r=i / 2 ^ j.toNat->Q (.int r) H)
inductive ab3  (x:V) (y:V) (H:Hp) (Q:VK):Prop
 | mk (i j:_) (_:x = .int i) (_:y = .int j) (_:∀ r:Int,r=Builtin.bitOr i j->Q (.int r) H)
inductive Vj  (x:V) (y:V) (H:Hp) (Q:VK):Prop
 | mk (i j:_) (_:x = .int i) (_:y = .int j) (_:∀ r:Int,r=Builtin.bitAnd i j->Q (.int r) H)
inductive rLM  (x:V) (y:V) (H:Hp) (Q:VK):Prop
 | mk (i j:_) (_:x = .int i) (_:y = .int j) (_:0<j) (_:∀ r:Int,0<=r->r<j->r=i % j->Q (.int r) H)
theorem bg:iU X (binaryOp .Add) UX:=λ pins s σ H x y v u Q I rx ry ⟨i,j,e1,e2,q⟩=>Jp pins s σ H x y v u Q I rx ry ⟨i,j,e1,e2,q _ rfl⟩
theorem nM:iU X (binaryOp .Sub) MX:=λ pins s σ H x y v u Q I rx ry ⟨i,j,e1,e2,q⟩=>II pins s σ H x y v u Q I rx ry ⟨i,j,e1,e2,q _ rfl⟩
theorem eN:iU X (binaryOp .Mult) Vo:=λ pins s σ H x y v u Q I rx ry ⟨i,j,e1,e2,c,q⟩=>EY pins s σ H x y v u Q I rx ry ⟨i,j,e1,e2,c,q _ rfl⟩
theorem bE:iU X (binaryOp .FloorDiv) Ps:=λ pins s σ H x y v u Q I rx ry ⟨i,j,e1,e2,c,q⟩=>Du pins s σ H x y v u Q I rx ry ⟨i,j,e1,e2,c,q _ rfl⟩
theorem F4:iU X (binaryOp .LShift) L9:=λ pins s σ H x y v u Q I rx ry ⟨i,j,e1,e2,c,q⟩=>Jk pins s σ H x y v u Q I rx ry ⟨i,j,e1,e2,c,q _ rfl⟩
theorem EX:iU X (binaryOp .RShift) QJ:=λ pins s σ H x y v u Q I rx ry ⟨i,j,e1,e2,c,q⟩=>JV pins s σ H x y v u Q I rx ry ⟨i,j,e1,e2,c,q _ rfl⟩
theorem sE:iU X (binaryOp .BitOr) ab3:=λ pins s σ H x y v u Q I rx ry ⟨i,j,e1,e2,q⟩=>O2 pins s σ H x y v u Q I rx ry ⟨i,j,e1,e2,q _ rfl⟩
theorem yu:iU X (binaryOp .BitAnd) Vj:=λ pins s σ H x y v u Q I rx ry ⟨i,j,e1,e2,q⟩=>IF pins s σ H x y v u Q I rx ry ⟨i,j,e1,e2,q _ rfl⟩
theorem aS:iU X (binaryOp .Mod) rLM:=λ pins s σ H x y v u Q I rx ry ⟨i,j,e1,e2,c,q⟩ =>
 Jb pins s σ H x y v u Q I rx ry ⟨i,j,e1,e2,c,q _ (Int.emod_nonneg _ (by lia)) (Int.emod_lt_of_pos _ c) rfl⟩
theorem ce:fG X (.builtin "len") (λ xs H Q=>∃ p ys,xs=[.ref p]/\(bh X.K H p ys∨bQ X.K H p ys)/\∀ r:Int,r=ys.length->Q (.int r) H) :=
 λ pins s σ H xs us Q I r ⟨p,ys,e,hq,q⟩=>ud pins s σ H xs us Q I r ⟨p,ys,e,hq,q _ rfl⟩
end
theorem Kv {c A B:Prop} [Decidable c] (hc:c) (h:A):if decide c=true then A else B:=by
 rw [ajv hc];exact j9 h
theorem lR {c A B:Prop} [Decidable c] (hc:¬ c) (h:B):if decide c=true then A else B:=by
 rw [af6 hc];exact gw h
theorem dL {c A B:Prop} [Decidable c] (h1:c->A) (h2:¬ c->B):if decide c=true then A else B:=by
 by_cases h:c
 . exact Kv h (h1 h)
 . exact lR h (h2 h)
theorem FD {a b:Int}:V.int a=V.int b↔a=b:=⟨λ e=>by cases e;rfl,λ e=>by rw [e]⟩
theorem al {p:Addr} {o:HO} (h:H p=none):av H (upd H p o):=λ b u e=>by rw [aq (aB e h)];exact e
theorem av.tup {K:W.Frag} {a:Addr} (e:av H H') (h:bQ K H a xs):bQ K H' a xs:=by
 rcases h with (h|⟨o,h⟩)|h
 . exact .inl (.inl (e _ _ h))
 . exact .inl (.inr ⟨o,e _ _ h⟩)
 . exact .inr h
theorem yC {n:Nat} {x:Int} (h:x.natAbs<2 ^ n:=by decide):Bd n x:=h
theorem Kp {x:Int} (n:Nat) (lo : -(2 ^ 100)<x) (hi:x<2 ^ 100) (h:100<=n:=by decide):Bd n x:=by
 have:Bd 100 x:=by unfold Bd;lia
 exact this.mono h
theorem kK (K:W.Frag):W.kitOne K (.type "int") (.type "bool")=some false:=by
 show (if W.kitMeta "bool" = true then ((PySem.fastBuiltinMro "int").map (·.contains (Value.type "bool"))) else none)=some false
 decide +kernel
theorem kh {x y:V}:[x,y].length<=sizeLine:=by show 2<=sizeLine;decide
inductive xn (K:W.Frag) (vs:List V) (H:Hp) (Q:VK) (_E:XK):Prop
 | mk (a:Addr) (ns:List Int) (k:Int) (_:vs=[.ref a,.int k]) (_:bh K H a (ns.map V.int)) (_:0<=k) (_:∀ z,(z∈ns∨z=0)->Q (.int z) H)
def bM (X:Cx) (N':List Str) (scope:Scope) (cl:List (Str×Addr)) (C:Addr) (s:Shared) (H:Hp) (ex:List Addr):Cx :=
 { X with N:=N',env:=compEnvC scope cl C X.env,s₀:=s,H₀:=H,outer:=X.stack,ex:=ex,fn:=λ _=>false,pn:=[],xe:=λ _ _=>False }
theorem Un.pU {fs ex:List Addr} {h h'':Heap} (u:Un fs ex H H' h h') (sb:Heap.SameBut C h' h'') (hC:h.get? C=none):Un fs ex H H' h h'':=by
 have ne:∀ b o,h.get? b=some o->b≠C:=λ b o e z=>by rw [z,hC] at e;cases e
 exact ⟨λ b o e n hb hx=>sb.extBut b o (ne b o e) (u.keep b o e n hb hx),λ b o e n hb hx=>by
     obtain ⟨sl,q⟩:=u.slot b o e n hb hx
     exact ⟨sl,sb.extBut b _ (ne b o e) q⟩,u.free,λ b o e hx=>by
     obtain ⟨o',q⟩:=u.there b o e hx
     exact ⟨o',sb.extBut b o' (ne b o e) q⟩,u.jN,u.iJ,u.i4⟩
theorem g8.pU {P:Program} {w:World} {h:Heap} (x:g8 P w H h) (sb:Heap.SameBut C h h') (hn:H C=none):g8 P w H h':=λ a o e =>
 (x a o e).iK (λ b u hb q=>sb.extBut b u (λ z=>by
   subst z
   rcases hb with z|z
   . rw [z,e] at hn;cases hn
   . rw [z] at hn;cases hn) q) (λ _ q=>q) λ _ _ q=>q
def Hh (X:Cx) (ifs:List Expr) (tt:TT):Prop :=
 ∀ (pins:List (Addr×Obj)) (s:Shared) (σ:St) (H:Hp) (Q:Bool->Hp->Prop),Inv X pins σ H s->tt σ H Q ->
   wpAny (model X.prog X.w) X.A (forIn ifs true λ c r=>if r=true then do let ok ← isTrue c X.env (eval c X.env);pure (ForInStep.yield ok) else pure (ForInStep.yield r)) (TP X pins σ Q) X.xe s
def aeV:TT:=λ _ H Q=>Q true H
theorem eK:Hh X [] aeV:=λ _ _ _ H _ I h=>wpAny_tests_nil ⟨H,I,h⟩
theorem nJ {c:Expr} {tt:TT} (hc:PT X c tt):Hh X [c] tt:=λ pins s σ H Q I h=>wpAny_tests_one (hc pins s σ H Q I h)
def d8 (env:Env):List (Str×NameKind)->List (Str×Addr)->List (Str×Addr)
 | [],acc=>acc
 | y::r,acc=>d8 env r (if (y.2 == NameKind.free)=true then (y.1,(env.cells.lookup y.1).getD 0)::acc else acc)
theorem tP (env:Env):∀ (names:List (Str×NameKind)) (acc:List (Str×Addr)),(∀ y∈names,y.2 = .free->∃ c,env.cells.lookup y.1=some c) ->
   (forIn names acc λ x __s=>if (x.snd == NameKind.free)=true then do
       let __do_lift ← cellOf env x.fst
       pure (ForInStep.yield ((x.fst,__do_lift)::__s))
     else pure (ForInStep.yield __s))=(pure (d8 env names acc):Sem _)
 | [],acc,_=>rfl
 | y::r,acc,h=>by
   rw [amG]
   by_cases hk:(y.2 == NameKind.free)=true
   .
    obtain ⟨c,e⟩:=h y adu (beq_iff_eq.mp hk)
    rw [aeA hk]
    have ec:cellOf env y.1=pure c:=by unfold cellOf;rw [e]
    rw [ec]
    simp only [pure_bind]
    rw [tP env r _ λ z hz=>h z (aaN _ hz)]
    simp only [d8,hk,alX,e,Option.getD_some]
   . rw [adH hk]
     simp only [pure_bind]
     rw [tP env r _ λ z hz=>h z (aaN _ hz)]
     simp only [d8,hk,amb]
     rfl
theorem FC {scope:Scope} {env:Env} (h:∀ y∈scope.names,y.2 = .free->∃ c,env.cells.lookup y.1=some c):closureFor scope env=pure (d8 env scope.names []):=by
 simp only [closureFor]
 rw [tP env scope.names [] h]
 simp only [pure_bind]
theorem rO {env:Env}:∀ {names:List (Str×NameKind)} {acc:List (Str×Addr)},(∀ y∈names,y.2 = .free->∃ c,env.cells.lookup y.1=some c)->(∀ x c,acc.lookup x=some c->env.cells.lookup x=some c) ->
   ∀ x c,(d8 env names acc).lookup x=some c->env.cells.lookup x=some c
 | [],_,_,ha,x,c,e=>ha x c e
 | y::r,acc,h,ha,x,c,e=>by
   refine rO (names:=r) (λ z hz=>h z (aaN _ hz)) ?_ x c e
   intro x c e
   by_cases hk:(y.2 == NameKind.free)=true
   .
    rw [aeA hk] at e
    obtain ⟨c',e'⟩:=h y adu (beq_iff_eq.mp hk)
    rw [e',Option.getD_some,ahN] at e
    cases q:x == y.1 with
    | true=>rw [q] at e;cases e;rw [beq_iff_eq.mp q];exact e'
    | false=>rw [q] at e;exact ha x c e
   . rw [adH hk] at e;exact ha x c e
theorem rM {env:Env}:∀ {names:List (Str×NameKind)} {acc:List (Str×Addr)} {x:Str},(∃ c,acc.lookup x=some c)->∃ c,(d8 env names acc).lookup x=some c
 | [],_,_,h=>h
 | y::r,acc,x,⟨c,h⟩=>by
   refine rM (names:=r) ?_
   by_cases hk:(y.2 == NameKind.free)=true
   . rw [aeA hk,ahN]
     cases q:x == y.1 with
     | true=>exact ⟨_,rfl⟩
     | false=>exact ⟨c,h⟩
   . rw [adH hk];exact ⟨c,h⟩
theorem lV {env:Env}:∀ {names:List (Str×NameKind)} {acc:List (Str×Addr)} {y:Str×NameKind},y∈names->y.2 = .free->∃ c,(d8 env names acc).lookup y.1=some c
 | z::r,acc,y,hm,hk=>by
   rcases List.mem_cons.mp hm with rfl|hm
   . refine rM (names:=r) ?_
     rw [aeA (beq_iff_eq.mpr hk),ahN]
     simp
   . exact lV (names:=r) hm hk
theorem oT {scope:Scope} {env:Env} {x:Str} {k:NameKind} (h:(relabel scope env).names.lookup x=some k) (hk:k = .cell∨k = .free) (cw:∀ y∈scope.names,y.2 ≠ .cell):(x,NameKind.free)∈scope.names:=by
 have hm:=acH h
 obtain ⟨⟨n,k0⟩,h1,h2⟩:=List.mem_map.mp hm
 dsimp only at h2
 split at h2
 .
  rename_i hc
  cases h2
  have:(k0 == NameKind.free)=true:=by
    simp only [ajp] at hc
    exact hc.1.1
  rw [beq_iff_eq.mp this] at h1
  exact h1
 .
  cases h2
  rcases hk with rfl|rfl
  . exact absurd rfl (cw _ h1)
  . exact h1
theorem fJ {env:Env}:∀ {names:List (Str×NameKind)} {x:Str},names.lookup x=some .free ->
   (names.map λ (n,k)=>if (k == NameKind.free && env.scope.kind == .function && env.kindOf n == some .cell) then (n,NameKind.cell) else (n,k)).lookup x=some .cell ∨
   (names.map λ (n,k)=>if (k == NameKind.free && env.scope.kind == .function && env.kindOf n == some .cell) then (n,NameKind.cell) else (n,k)).lookup x=some .free
 | [],_,h=>by simp at h
 | (n,k)::r,x,h=>by
   have ih:=@fJ env r x
   show List.lookup x ((if (k == NameKind.free && env.scope.kind == .function && env.kindOf n == some .cell)=true then (n,NameKind.cell) else (n,k))::_)=_∨List.lookup x ((if (k == NameKind.free && env.scope.kind == .function && env.kindOf n == some .cell)=true then (n,NameKind.cell) else (n,k))::_)=_
   cases hx:x == n with
   | true =>
     simp only [ahN,hx] at h
     cases h
     by_cases hc:(NameKind.free == NameKind.free && env.scope.kind == .function && env.kindOf n == some .cell)=true
     . rw [aeA hc];simp [ahN,hx]
     . rw [adH hc];simp [ahN,hx]
   | false =>
     simp only [ahN,hx] at h
     by_cases hc:(k == NameKind.free && env.scope.kind == .function && env.kindOf n == some .cell)=true
     . rw [aeA hc];simp only [ahN,hx];exact ih h
     . rw [adH hc];simp only [ahN,hx];exact ih h
section
variable {prog:Program} {w:World} {A:Around} {E:Value->Shared->Prop} {R:Result->Shared->Prop} {s:Shared}
theorem uV {target:Expr} {scope:Scope} {it acc:Value} {env:Env} (I:Nat->Shared->Prop) (turn:∀ n s,I n s->wpAny (model prog w) A (pyNext it) (λ r s₁=>match r with
     | none=>R (.ok .next) s₁
     | some v=>wpAny (model prog w) A (letOwnedTupleGo target it v) (λ _ s₁=>wpAny (model prog w) A (assign target env v) (λ _ s₂ =>
         wpAny (model prog w) A (forIn ifs true λ c r=>if r=true then do let ok ← isTrue c env (eval c env);pure (ForInStep.yield ok) else pure (ForInStep.yield r)) (λ ok s₃ =>
           if ok=true then wpAny (model prog w) A (eval elt env) (λ x s₄ =>
             wpAny (model prog w) A (call (.builtin "list.append") [acc,x]) (λ _ s₅=>∃ m,m<n/\I m s₅) (notedBy (model prog w) A env λ e s'=>R (.error e) s') s₄) (notedBy (model prog w) A env λ e s'=>R (.error e) s') s₃
           else ∃ m,m<n/\I m s₃) (notedBy (model prog w) A env λ e s'=>R (.error e) s') s₂) (notedBy (model prog w) A env λ e s'=>R (.error e) s') s₁) (notedBy (model prog w) A env λ e s'=>R (.error e) s') s₁) (notedBy (model prog w) A env λ e s'=>R (.error e) s') s) (n:Nat) (h:I n s) :
   codeAny (model prog w) A (.compLoop (.ListComp elt [⟨target,iter,ifs,0⟩] scope pos) 0 it acc env) R s:=by
 refine codeAny_loop rfl I (λ n s hI=>?_) n h
 show wpAny _ A ((compTurn (.ListComp elt [⟨target,iter,ifs,0⟩] scope pos) 0 it acc env).onRaise (λ x=>do noteFrame x env;theTreesLotGoes x)) _ _ s
 refine wpAny_noted ?_
 rw [compTurn_list]
 refine wF (wpAny_standAt (wF (adA (turn n s hI) (λ r s₁ h₁=>?_) λ _ _ h'=>h')))
 cases r with
 | none=>exact aaJ h₁
 | some v =>
   refine wF (adA h₁ (λ _ s₁' h₁'=>?_) λ _ _ h'=>h')
   refine wF (adA h₁' (λ _ s₂ h₂=>wF (adA h₂ (λ ok s₃ h₃=>?_) λ _ _ h'=>h')) λ _ _ h'=>h')
   cases ok with
   | false=>exact aaJ ⟨rfl,h₃⟩
   | true =>
     exact wF (wF (adA h₃ (λ x s₄ h₄=>wF (adA h₄ (λ _ s₅ h₅=>aaJ (aaJ ⟨rfl,h₅⟩)) λ _ _ h'=>h')) λ _ _ h'=>h'))
end
section
variable {X:Cx}
def uD (wi:TI) (g:TG) (tt:TT) (te:TE) (nt:Nat) (sl:List Nat):TE:=λ σ H Q=>wi σ H λ J H1=>∀ D,H1 D=none ->
 ∃ W:Nat->Nat->List V->St->Hp->Prop,(∃ m,W 0 m [] (List.replicate nt none++sl.map λ j=>(σ[j]?).join) (upd H1 D (.lst []))) /\
   ∀ i m acc σ' H',W i m acc σ' H' ->
     (J.stop i H'/\Q (.ref D) H') ∨
     (J.go i H'/\∃ N:List V->St->Hp->Prop,(∀ fy σ2 H4,N fy σ2 H4->∃ m',m'<m/\W (i+1) m' fy σ2 H4)/\∀ x H2,J.Ah i H' x H2->g x σ' H2 λ σ2 H3=>tt σ2 H3 λ b H4 =>
       if b=true then te σ2 H4 λ y H5=>H5 D=some (.lst acc)/\acc.length<sizeLine/\N (acc++[y]) σ2 (upd H5 D (.lst (acc++[y])))
       else N acc σ2 H4)
theorem sk {scope:Scope} {wi:TI} {tt:TT} {N':List Str} (hc:X.calm=true) (hi:PI X tg iter wi) (hg:∀ cl C s H ex,PG (bM X N' scope cl C s H ex) tg g) (ht:∀ cl C s H ex,Hh (bM X N' scope cl C s H ex) ifs tt) (he:∀ cl C s H ex,PE (bM X N' scope cl C s H ex) elt te) (NJ:N'.length=nt+sl.length) (IS:∀ k j:Nat,sl[k]?=some j->∃ x,N'[nt+k]?=some x/\X.N[j]?=some x/\scope.names.lookup x=some .free) (hk:scope.kind = .function) (cw:∀ y∈scope.names,y.2 ≠ .cell) (iw:∀ y∈scope.names,y.2 = .local->scope.names.lookup y.1=some .local) (hR:∀ y∈scope.names,y.2 = .free->X.env.kindOf y.1=some .cell∨X.env.kindOf y.1=some .free) (hs:∀ x,foldedSetIterable iter X.env x=pure x) {use:Option (Value->Sem Unit)} {Qp:Value->Shared->Prop} {pins:List (Addr×Obj)} {s:Shared} {Q:V->Hp->Prop} (I:Inv X pins σ H s) (h:uD wi g tt te nt sl σ H Q) (fin:∀ (s6:Shared) (H5:Hp) (d c:Addr) m,Inv X pins σ H5 s6->qz X pins H5 c->s6.heap.Ns c m->Q (.ref d) H5->compPost (model X.prog X.w) X.A X.xe use Qp (.ref d) c (.ok .next) s6) :
   wpAny (model X.prog X.w) X.A (comprehension (.ListComp elt [⟨tg,iter,ifs,0⟩] scope pos) scope X.env pos' (newList []) false (eval iter X.env) use) Qp X.xe s:=by
 have wn:∀ y∈scope.names,y.2 = .free->∃ c,X.env.cells.lookup y.1=some c:=λ y hy hf=>I.ok.has y.1 (hR y hy hf)
 have uH:=rO (env:=X.env) (names:=scope.names) (acc:=[]) wn (λ x c e=>by simp at e)
 refine wpAny_comprehension_free (use:=use) (cl:=d8 X.env scope.names []) rfl hs (FC wn) hk iw (cz (hi pins s σ H _ I h) λ v s1 h1=>cz h1 λ itv s2 h2=>?_)
 obtain ⟨it,fp,tn,J,H2,rfl,I2,T,Wx,f2,q⟩:=h2
 have nD:H2 s2.heap.objs.size=none:=I2.bo.fresh (aau _)
 obtain ⟨W,⟨m0,w0⟩,turn⟩:=q s2.heap.objs.size nD
 refine ajK ?_ (by show 0<=sizeLine;exact afL _)
 have I3:Inv X pins σ (upd H2 s2.heap.objs.size (.lst [])) { s2 with heap:=s2.heap.push { cls:=.type "list",data:=.seq ([]:List Value).toArray }} :=
   I2.laid (t':=s2.toks) (λ b u e=>aao _ e) (aau _) ⟨afL _,[],0,.nil,aa4 _ rfl⟩
 generalize hs3:({ s2 with heap:=s2.heap.push { cls:=.type "list",data:=.seq ([]:List Value).toArray }}:Shared)=s3 at I3 ⊢
 have hle:s2.heap.objs.size<=s3.heap.objs.size:=by rw [← hs3];show _<=(Heap.push _ _).objs.size;rw [al5];exact alL _
 have Fj:∀ b o,s2.heap.get? b=some o->s3.heap.get? b=some o:=λ b o e=>by rw [← hs3];exact aao _ e
 refine wpAny_newFunctionEnv cw (by intro y hy;simp at hy) (λ h₁ Kf V5=>?_) hk
 have u0:∀ b o,s3.heap.get? b=some o->h₁.get? b=some o:=λ b o e=>V5.extBut b o (acl (aaK e)) (aao _ e)
 have nC:(upd H2 s2.heap.objs.size (.lst [])) s3.heap.objs.size=none:=I3.bo.fresh (aau _)
 have frC:s3.heap.get? s3.heap.objs.size=none:=amv (aau _)
 have M6:∀ b∈fp,b<s2.heap.objs.size:=λ b hb=>by
   obtain ⟨o,e,_⟩:=T.obj _ _ Wx b hb
   exact aaK e
 have fpC:∀ b∈fp,b≠s3.heap.objs.size:=λ b hb=>acl (aav (M6 b hb) hle)
 have fpD:∀ b∈fp,b≠s2.heap.objs.size:=λ b hb=>acl (M6 b hb)
 have fpS:∀ b∈fp,b∉gO X.stack:=λ b hb hm=>by
   rcases List.mem_cons.mp (I2.xu b hm) with z|z
   . exact (f2 b hb).2.1 z
   . exact (f2 b hb).2.2.1 z
 have amW:∀ x c,(d8 X.env scope.names []).lookup x=some c->X.env.cells.lookup x=some c:=uH
 have xm:∀ b∈fp,(b∈X.ex∨X.s₀.heap.objs.size<=b)/\b≠X.env.locals/\(∀ x c,X.env.cells.lookup x=some c->c≠b)/\∀ p∈X.pn++pins,p.1≠b:=λ b hb =>
   ⟨(f2 b hb).2.2.2.1,(f2 b hb).2.1,(f2 b hb).2.2.2.2.1,(f2 b hb).2.2.2.2.2⟩
 have ok':(bM X N' scope (d8 X.env scope.names []) s3.heap.objs.size s3 (upd H2 s2.heap.objs.size (.lst [])) fp).Ok:=by
   refine ⟨I3.ok.mod,hk,I3.ok.glob,I3.ok.blt,aau _,λ x y c h1 h2=>I3.ok.inj x y c (uH x c h1) (uH y c h2),λ x hx=>?_,(λ x c hf=>nomatch hf),I3.ok.hd,I3.ok.frames,.inl rfl,λ b hb=>⟨fpC b hb,λ x c e=>(xm b hb).2.2.1 x c (uH x c e)⟩,
     I3.bs,afi I3.ok.DP I3.sz,λ b o e hb=>?_,fpS,I3.stack,I3.tX⟩
   . have hm:(x,NameKind.free)∈scope.names:=by
       rcases hx with hx|hx
       . exact oT hx (.inl rfl) cw
       . exact oT hx (.inr rfl) cw
     exact lV hm rfl
   . rcases (xm b hb).1 with z|z
     . exact I3.ok.y9 b o e z
     . exact absurd (aav (aaK (I3.ok.bs b o e).1) z) (ahc _)
 have I4:Inv (bM X N' scope (d8 X.env scope.names []) s3.heap.objs.size s3 (upd H2 s2.heap.objs.size (.lst [])) fp) [] (List.replicate nt none++sl.map λ j=>(σ[j]?).join) (upd H2 s2.heap.objs.size (.lst []))
     { s3 with heap:=h₁,toks:=s3.toks+([]:List (Str×Value)).length }:=by
   refine ⟨ok',rfl,I3.bare,Un.kept u0,⟨_,Kf,λ i x v e1 e2 e3=>?_⟩,λ x c e=>?_,nC,λ x c e=>I3.ge x c (uH x c e),λ p hp=>absurd hp (by simp [bM]),I3.bo.kept u0,?_⟩
   .
    by_cases hi:i<nt
    . rw [ahg (by simpa using hi),am3] at e2
      split at e2<;>cases e2
    .
     rw [aew (by simpa using hi),aki,aei] at e2
     cases ej:sl[i - nt]? with
     | none=>rw [ej] at e2;cases e2
     | some j =>
       rw [ej] at e2
       have WJ:(σ[j]?).join=some v:=abb e2
       have eσ:σ[j]?=some (some v):=by
         cases q:σ[j]? with
         | none=>rw [q] at WJ;cases WJ
         | some o=>rw [q] at WJ;cases WJ;rfl
       obtain ⟨y,n1,n2,n3⟩:=IS _ j ej
       have:nt+(i - nt)=i:=by lia
       rw [this] at n1
       have exy:y=x:=abb (n1.symm.trans e1)
       subst exy
       have hm:(y,NameKind.free)∈scope.names:=acH n3
       have hkx:=hR _ hm rfl
       obtain ⟨m,hn,hl⟩:=I3.loc
       have Yj:Jh X.env.scope y:=by
         rcases hkx with z|z
         . exact .inr (.inl z)
         . exact .inr (.inr z)
       obtain ⟨u,r,l⟩:=hl j y v n2 eσ Yj
       refine ⟨u,r,.inr ⟨fJ n3,?_⟩⟩
       obtain ⟨c,ec⟩:=lV (env:=X.env) (acc:=[]) hm rfl
       refine ⟨c,ec,?_⟩
       rcases l with ⟨k1,_⟩|⟨_,c',e',Jv⟩
       . rcases hkx with z|z
         . rw [show X.env.kindOf y=some .local from k1] at z;cases z
         . rw [show X.env.kindOf y=some .local from k1] at z;cases z
       . have ecc:c=c':=abb ((uH y c ec).symm.trans e')
         subst ecc
         obtain ⟨o,ho,hd⟩:=Jv
         exact ⟨o,u0 c o ho,hd⟩
   . obtain ⟨v,o,ho,hd⟩:=I3.cell x c (uH x c e)
     exact ⟨v,o,u0 c o ho,hd⟩
   . show _=N'.length
     rw [NJ,acC,aki,aad]
 have J3:tn 0 h₁:=T.keep _ _ _ Wx λ b hb o e=>u0 b o (Fj b o e)
 have JL:∀ {pl:List (Addr×Obj)} {H':Hp},pl=[]->(∀ b∈fp,H' b=none)->∀ b∈fp,qz (bM X N' scope (d8 X.env scope.names []) s3.heap.objs.size s3 (upd H2 s2.heap.objs.size (.lst [])) fp) pl H' b:=λ {pl H'} fD hn b hb=>by
   subst fD
   exact ⟨hn b hb,fpC b hb,fpS b hb,.inl hb,λ x c e=>(xm b hb).2.2.1 x c (uH x c e),λ p hp=>absurd hp (by simp [bM])⟩
 have fr4:∀ b∈fp,(upd H2 s2.heap.objs.size (.lst [])) b=none:=λ b hb=>by rw [aq (fpD b hb)];exact (f2 b hb).1
 have loop:codeAny (model X.prog X.w) X.A (.compLoop (.ListComp elt [⟨tg,iter,ifs,0⟩] scope pos) 0 (.ref it) (.ref s2.heap.objs.size) (compEnvC scope (d8 X.env scope.names []) s3.heap.objs.size X.env))
     (compPost (model X.prog X.w) X.A X.xe use Qp (.ref s2.heap.objs.size) s3.heap.objs.size) { s3 with heap:=h₁,toks:=s3.toks+([]:List (Str×Value)).length }:=by
   refine uV (λ n s'=>∃ i acc σ' H',Inv (bM X N' scope (d8 X.env scope.names []) s3.heap.objs.size s3 (upd H2 s2.heap.objs.size (.lst [])) fp) [] σ' H' s'/\tn i s'.heap/\(∀ b∈fp,H' b=none)/\W i n acc σ' H') ?_ m0 ⟨0,[],_,_,I4,J3,fr4,w0⟩
   rintro n s5 ⟨i,acc,σ5,H5,I5,Ac,WH,w5⟩
   rcases turn i n acc σ5 H5 w5 with ⟨stop,qn⟩|⟨go,N,hN,step⟩
   . refine cz (T.done (bM X N' scope (d8 X.env scope.names []) s3.heap.objs.size s3 (upd H2 s2.heap.objs.size (.lst [])) fp) rfl rfl rfl hc i [] s5 σ5 H5 _ I5 (JL rfl WH) Ac stop) λ r s6 ⟨hr,I6⟩=>?_
     subst hr
     obtain ⟨m,hn,_⟩:=id I6.loc
     exact fin s6 H5 _ _ m (I3.G7 (s':=s6) I6.os I6.base I6.bo I6.bare xm) (I3.ux (aau _) I6.free) hn qn
   .
    refine cz (T.item (bM X N' scope (d8 X.env scope.names []) s3.heap.objs.size s3 (upd H2 s2.heap.objs.size (.lst [])) fp) rfl rfl rfl hc i [] s5 σ5 H5 _ I5 (JL rfl WH) Ac go) λ r s6 ⟨u,hr,h6⟩=>?_
    subst hr
    refine cz h6 λ _ s7 ⟨x,H7,I7,r7,y7,st7,fr7⟩=>?_
    have I7':=I7.pinned (JL rfl fr7) (T.obj _ _ st7)
    have again:∀ {s8:Shared} {σ8:St} {H8:Hp} {fy:List V},Inv (bM X N' scope (d8 X.env scope.names []) s3.heap.objs.size s3 (upd H2 s2.heap.objs.size (.lst [])) fp) ([]++pS fp s7.heap) σ8 H8 s8->(∃ m',m'<n/\W (i+1) m' fy σ8 H8) ->
        ∃ m,m<n/\∃ i acc σ' H',Inv (bM X N' scope (d8 X.env scope.names []) s3.heap.objs.size s3 (upd H2 s2.heap.objs.size (.lst [])) fp) [] σ' H' s8/\tn i s8.heap/\(∀ b∈fp,H' b=none)/\W i m acc σ' H':=λ {s8 σ8 H8 fy} I8 ⟨m',hm,w8⟩=>by
      refine ⟨m',hm,i+1,fy,σ8,H8,I8.kH,T.keep _ _ _ st7 λ b hb o e=>(I8.pin (b,o) (acO _ (acO _ (ii hb e)))).1,λ b hb=>?_,w8⟩
      obtain ⟨o,e,d⟩:=T.obj _ _ st7 b hb
      exact (I8.pin (b,o) (acO _ (acO _ (ii hb e)))).2.1
    refine adA (hg _ _ _ _ _ _ s7 σ5 H7 x u _ I7' r7 (step x H7 y7)) (λ _ s8 ⟨σ8,H8,I8,q8⟩=>?_) λ _ _ z=>False.elim z
    refine adA (ht _ _ _ _ _ _ s8 σ8 H8 _ I8 q8) (λ ok s9 ⟨H9,I9,q9⟩=>?_) λ _ _ z=>False.elim z
    cases ok with
    | false =>
      rw [adH abS] at q9 ⊢
      exact again I9 (hN _ _ _ q9)
    | true =>
      rw [aeA rfl] at q9 ⊢
      refine adA (he _ _ _ _ _ _ s9 σ8 H9 _ I9 q9) (λ y s10 ⟨yv,sK,I10,J4,hD,hz,q10⟩=>?_) λ _ _ z=>False.elim z
      refine adA (lQ (X:=(bM X N' scope (d8 X.env scope.names []) s3.heap.objs.size s3 (upd H2 s2.heap.objs.size (.lst [])) fp)) _ s10 σ8 sK (.ref s2.heap.objs.size) [yv] (.ref s2.heap.objs.size) [y] (λ _ WI=>N (acc++[yv]) σ8 WI) I10 rfl (.cons J4 .nil) ⟨_,acc,yv,rfl,rfl,hD,hz,q10⟩) (λ _ s11 ⟨v11,WI,I11,Nn,q11⟩=>?_) λ _ _ z=>False.elim z
      exact again I11 (hN _ _ _ q11)
 exact codeAny_compStart_list loop (T.self _ 0 _ _ _ J3 loop)
theorem Gn {scope:Scope} {wi:TI} {tt:TT} {N':List Str} (hc:X.calm=true) (hi:PI X tg iter wi) (hg:∀ cl C s H ex,PG (bM X N' scope cl C s H ex) tg g) (ht:∀ cl C s H ex,Hh (bM X N' scope cl C s H ex) ifs tt) (he:∀ cl C s H ex,PE (bM X N' scope cl C s H ex) elt te) (NJ:N'.length=nt+sl.length) (IS:∀ k j:Nat,sl[k]?=some j->∃ x,N'[nt+k]?=some x/\X.N[j]?=some x/\scope.names.lookup x=some .free) (hk:scope.kind = .function) (cw:∀ y∈scope.names,y.2 ≠ .cell) (iw:∀ y∈scope.names,y.2 = .local->scope.names.lookup y.1=some .local) (hR:∀ y∈scope.names,y.2 = .free->X.env.kindOf y.1=some .cell∨X.env.kindOf y.1=some .free) (hs:∀ x,foldedSetIterable iter X.env x=pure x:=by intro _;rfl) :
   PE X (.ListComp elt [⟨tg,iter,ifs,0⟩] scope pos) (uD wi g tt te nt sl):=by
 intro pins s σ H Q I h
 rw [eval_ListComp]
 exact sk hc hi hg ht he NJ IS hk cw iw hR hs I h λ s6 H5 d c m J F hn q=>⟨m,hn,λ h' sb=>⟨.ref d,H5,J.turned (t':=s6.toks) (λ b _ hb q=>(sb.2 b hb).trans q) F.1 F.2.1 F.2.2.2.1 F.2.2.2.2.1 F.2.2.2.2.2,rfl,q⟩⟩
theorem gJ {scope:Scope} {wi:TI} {tt:TT} (tn fr:List Str) (sl:List Nat) (hp:Paired (λ (j:Nat) (x:Str)=>X.N[j]?=some x/\scope.names.lookup x=some .free/\(X.env.kindOf x=some .cell∨X.env.kindOf x=some .free)) sl fr) (hc:X.calm=true) (hi:PI X tg iter wi) (hg:∀ cl C s H ex,PG (bM X (tn++fr) scope cl C s H ex) tg g) (ht:∀ cl C s H ex,Hh (bM X (tn++fr) scope cl C s H ex) ifs tt) (he:∀ cl C s H ex,PE (bM X (tn++fr) scope cl C s H ex) elt te) (hk:scope.kind = .function) (cw:∀ y∈scope.names,y.2 ≠ .cell) (iw:∀ y∈scope.names,y.2 = .local->scope.names.lookup y.1=some .local) (hR:∀ y∈scope.names,y.2 = .free->y.1∈fr) (hs:∀ x,foldedSetIterable iter X.env x=pure x:=by intro _;rfl) :
   PE X (.ListComp elt [⟨tg,iter,ifs,0⟩] scope pos) (uD wi g tt te tn.length sl):=by
 have key:∀ {sl:List Nat} {fr:List Str},Paired (λ (j:Nat) (x:Str)=>X.N[j]?=some x/\scope.names.lookup x=some .free/\(X.env.kindOf x=some .cell∨X.env.kindOf x=some .free)) sl fr ->
     (∀ k j:Nat,sl[k]?=some j->∃ x,fr[k]?=some x/\X.N[j]?=some x/\scope.names.lookup x=some .free)/\∀ x∈fr,X.env.kindOf x=some .cell∨X.env.kindOf x=some .free:=by
   intro sl fr hp
   induction hp with
   | nil=>exact ⟨λ k j h=>by simp at h,λ x hx=>by simp at hx⟩
   | cons r t ih =>
     refine ⟨λ k j h=>?_,λ x hx=>?_⟩
     . cases k with
       | zero =>
         have e:_=j:=abb h
         subst e
         exact ⟨_,rfl,r.1,r.2.1⟩
       | succ k=>exact ih.1 k j (by simpa using h)
     . rcases List.mem_cons.mp hx with z|z
       . rw [z];exact r.2.2
       . exact ih.2 x z
 refine Gn (N':=tn++fr) hc hi hg ht he (by rw [acC,hp.length]) (λ k j h=>?_) hk cw iw (λ y hy hf=>(key hp).2 _ (hR y hy hf)) hs
 obtain ⟨x,e1,e2⟩:=(key hp).1 k j h
 exact ⟨x,by rw [aew (ajQ _ _),amZ];exact e1,e2⟩
end
theorem ig {lo:Int} {n:Nat} {tt:TT} {D:Addr} {Q:Hp->Prop} (Pv:Nat->List V->St->Hp->Prop) (h0:Pv 0 [] σ H) (hs:∀ i acc σ H,i<n->Pv i acc σ H->g (.int (lo+i)) σ H λ σ2 H3=>tt σ2 H3 λ b H4 =>
     if b=true then te σ2 H4 λ y H5=>H5 D=some (.lst acc)/\acc.length<sizeLine/\Pv (i+1) (acc++[y]) σ2 (upd H5 D (.lst (acc++[y]))) else Pv (i+1) acc σ2 H4) (hd:∀ acc σ H,Pv n acc σ H->Q H) :
   ∃ W:Nat->Nat->List V->St->Hp->Prop,(∃ m,W 0 m [] σ H)/\∀ i m acc σ' H',W i m acc σ' H'->((F7 lo n).stop i H'/\Q H') ∨
     ((F7 lo n).go i H'/\∃ N:List V->St->Hp->Prop,(∀ fy σ2 H4,N fy σ2 H4->∃ m',m'<m/\W (i+1) m' fy σ2 H4)/\∀ x H2,(F7 lo n).Ah i H' x H2->g x σ' H2 λ σ2 H3=>tt σ2 H3 λ b H4 =>
       if b=true then te σ2 H4 λ y H5=>H5 D=some (.lst acc)/\acc.length<sizeLine/\N (acc++[y]) σ2 (upd H5 D (.lst (acc++[y]))) else N acc σ2 H4):=by
 refine ⟨λ i m acc σ H=>m=n - i/\i<=n/\Pv i acc σ H,⟨n,by simp,afL _,h0⟩,?_⟩
 rintro i m acc σ H ⟨rfl,hi,p⟩
 by_cases dF:i<n
 .
  refine .inr ⟨dF,Pv (i+1),λ fy σ' H' p'=>⟨n - (i+1),by lia,rfl,dF,p'⟩,λ x H' y=>?_⟩
  obtain ⟨e,y⟩:=y
  subst e y
  exact hs i acc σ _ dF p
 . have e:i=n:=by lia
   subst e
   exact .inl ⟨aau _,hd acc σ H p⟩
theorem eX {K:W.Frag} {a:Addr} {tt:TT} {D:Addr} {Q:Hp->Prop} (Pv:Nat->List V->St->Hp->Prop) (h0:Pv 0 [] σ H) (hl:∀ i acc σ H,i<=xs.length->Pv i acc σ H->bh K H a xs) (hs:∀ i x acc σ H,xs[i]?=some x->Pv i acc σ H->g x σ H λ σ2 H3=>tt σ2 H3 λ b H4 =>
     if b=true then te σ2 H4 λ y H5=>H5 D=some (.lst acc)/\acc.length<sizeLine/\Pv (i+1) (acc++[y]) σ2 (upd H5 D (.lst (acc++[y]))) else Pv (i+1) acc σ2 H4) (hd:∀ acc σ H,Pv xs.length acc σ H->Q H) :
   ∃ W:Nat->Nat->List V->St->Hp->Prop,(∃ m,W 0 m [] σ H)/\∀ i m acc σ' H',W i m acc σ' H'->((GJ K a).stop i H'/\Q H') ∨
     ((GJ K a).go i H'/\∃ N:List V->St->Hp->Prop,(∀ fy σ2 H4,N fy σ2 H4->∃ m',m'<m/\W (i+1) m' fy σ2 H4)/\∀ x H2,(GJ K a).Ah i H' x H2->g x σ' H2 λ σ2 H3=>tt σ2 H3 λ b H4 =>
       if b=true then te σ2 H4 λ y H5=>H5 D=some (.lst acc)/\acc.length<sizeLine/\N (acc++[y]) σ2 (upd H5 D (.lst (acc++[y]))) else N acc σ2 H4):=by
 refine ⟨λ i m acc σ H=>m=xs.length - i/\i<=xs.length/\Pv i acc σ H,⟨xs.length,by simp,afL _,h0⟩,?_⟩
 rintro i m acc σ H ⟨rfl,hi,p⟩
 have q:=hl i acc σ H hi p
 by_cases dF:i<xs.length
 .
  refine .inr ⟨⟨xs,xs[i],q,by simp [dF]⟩,Pv (i+1),λ fy σ' H' p'=>⟨xs.length - (i+1),by lia,rfl,dF,p'⟩,λ x H' y=>?_⟩
  obtain ⟨e,y⟩:=y
  subst e
  exact hs i x acc σ _ (y xs q) p
 . have e:i=xs.length:=by lia
   subst e
   exact .inl ⟨⟨xs,q,aau _⟩,hd acc σ H p⟩
section
variable {X:Cx}
theorem jp (a b:Nat):Builtin.bitOr (a:Int) (b:Int)=((a ||| b:Nat):Int):=by
 have d1:decide (0<=Builtin.bitNot (a:Int))=false:=af6 (by unfold Builtin.bitNot;lia)
 have d2:decide (0<=Builtin.bitNot (b:Int))=false:=af6 (by unfold Builtin.bitNot;lia)
 have n1:(Builtin.bitNot (Builtin.bitNot (a:Int))).toNat=a:=by unfold Builtin.bitNot;lia
 have n2:(Builtin.bitNot (Builtin.bitNot (b:Int))).toNat=b:=by unfold Builtin.bitNot;lia
 unfold Builtin.bitOr Builtin.bitAnd
 rw [d1,d2]
 dsimp only
 rw [n1,n2]
 unfold Builtin.bitNot
 lia
theorem pi (a b:Nat):Builtin.bitAnd (a:Int) (b:Int)=((a &&& b:Nat):Int):=by simp [Builtin.bitAnd]
end
def ao (k:Nat):V:=.int (k:Int)
inductive vv  (vs:List V) (H:Hp) (Q:VK) (_E:XK):Prop
 | mk (n r:Nat) (_:vs=[ao n,ao r]) (_:Q (.bl (n.testBit r)) H)
inductive ue  (vs:List V) (H:Hp) (Q:VK) (_E:XK):Prop
 | mk (n r:Nat) (_:vs=[ao n,ao r]) (_:r<=1000) (_:Q (ao (n ||| 2 ^ r)) H)
theorem E6 (n r:Nat) {s m:Int} (es:s=(n:Int) / 2 ^ ((r:Int)).toNat) (em:m=s % 2):decide (V.int m=V.int 1)=n.testBit r:=by
 rw [amr]
 have e1:s=((n / 2 ^ r:Nat):Int):=by
   rw [es,alp]
   have:((2:Int) ^ r)=((2 ^ r:Nat):Int):=by rw [Int.natCast_pow];rfl
   rw [this,← Int.natCast_ediv]
 have e2:m=((n / 2 ^ r % 2:Nat):Int):=by rw [em,e1];exact (Int.natCast_emod _ _).symm
 have e3:(V.int m=V.int 1)↔(n / 2 ^ r % 2=1):=by rw [FD,e2];lia
 exact decide_eq_decide.mpr e3
theorem eM {l:List Nat} {i:Nat} {x:V} (h:(l.map ao)[i]?=some x):∃ k,l[i]?=some k/\x=ao k:=by
 rw [aei] at h
 cases e:l[i]? with
 | none=>rw [e] at h;cases h
 | some k=>rw [e] at h;exact ⟨k,rfl,(abb h).symm⟩
def yy (f:Obj->Obj):Prop:=∀ o,(f o).dict=o.dict/\(o.isFreed=false->(f o).isFreed=false)
def cB {α:Type}:Sem α->Prop
 | .pure _=>True
 | .raise _=>True
 | .unsupported _=>True
 | .finish _=>True
 | .rule _ k=>cB (k ())
 | .at _ k=>cB (k ())
 | .load _ _ k=>∀ o,cB (k o)
 | .update _ _ f k=>yy f/\cB (k ())
 | .alloc _ k=>∀ a,cB (k a)
 | .loadIfAlive _ k=>∀ o,cB (k o)
 | .point _ k=>cB (k ())
 | .register _ _=>True
 | .fresh k=>∀ t,cB (k t)
 | .ask k=>∀ t,cB (k t)
 | .choose _ _ k=>∀ n,cB (k n)
 | .os _ _ k=>∀ r,cB (k r)
 | .call ..=>False
 | .handled _ k=>∀ o,cB (k o)
 | .newGen _ k=>∀ n,cB (k n)
 | .genState _ k=>∀ x,cB (k x)
 | .resume ..=>False
 | .yield ..=>True
 | .stack k=>∀ x,cB (k x)
 | .fork ..=>True
 | .thread k=>∀ n,cB (k n)
 | .await ..=>True
def bB (h h':Heap):Prop:=∀ b o,h.get? b=some o->∃ o',h'.get? b=some o'/\o'.dict=o.dict
theorem bB.refl (h:Heap):bB h h:=λ _ o e=>⟨o,e,rfl⟩
theorem bB.trans {h1 h3:Heap} (x:bB h1 h2) (y:bB h2 h3):bB h1 h3:=λ b o e =>
 let ⟨o1,e1,d1⟩:=x b o e;let ⟨o2,e2,d2⟩:=y b o1 e1;⟨o2,e2,d2.trans d1⟩
theorem bB.update {h:Heap} {a:Addr} {f:Obj->Obj} (m:yy f):bB h (h.update a f):=λ b o e=>by
 by_cases z:a=b
 . subst z
   have nf:o.isFreed=false:=(Heap.get?_some_iff.mp e).2
   exact ⟨f o,alM f e ((m o).2 nf),(m o).1⟩
 . exact ⟨o,(aml h f z).trans e,rfl⟩
theorem bB.push {h:Heap} {o:Obj}:bB h (h.push o):=λ b ob e=>⟨ob,aao _ e,rfl⟩
theorem Gb {α:Type} (M:Model) (Γ:PySem.Ctx):∀ (t:Sem α) (Q:α->Pos->Shared->Prop) (E:Value->Pos->Shared->Prop) (p:Pos) (s:Shared),cB t->Sem.wp M Γ t Q E p s ->
   Sem.wp M Γ t (λ a p s'=>Q a p s'/\bB s.heap s'.heap) (λ e p s'=>E e p s'/\bB s.heap s'.heap) p s:=by
 intro t
 have up:∀ (t:Sem α) (Q:α->Pos->Shared->Prop) (E:Value->Pos->Shared->Prop) (p:Pos) (s s1:Shared),bB s.heap s1.heap ->
     Sem.wp M Γ t (λ a p s'=>Q a p s'/\bB s1.heap s'.heap) (λ e p s'=>E e p s'/\bB s1.heap s'.heap) p s1 ->
     Sem.wp M Γ t (λ a p s'=>Q a p s'/\bB s.heap s'.heap) (λ e p s'=>E e p s'/\bB s.heap s'.heap) p s1:=λ t Q E p s s1 k h =>
   Sem.wp_mono M Γ t (λ _ _ _ z=>⟨z.1,k.trans z.2⟩) (λ _ _ _ z=>⟨z.1,k.trans z.2⟩) p s1 h
 induction t with
 | pure a=>intro Q E p s _ h;rw [Sem.wp_pure] at h ⊢;exact ⟨h,.refl _⟩
 | raise e=>intro Q E p s _ h;rw [Sem.wp_raise] at h ⊢;exact ⟨h,.refl _⟩
 | unsupported w=>intro Q E p s _ h;rw [Sem.wp_unsupported] at h;exact h.elim
 | finish e=>intro Q E p s _ h;rw [Sem.wp_finish] at h;exact h.elim
 | rule t k ih=>intro Q E p s m h;rw [Sem.wp_rule] at h ⊢;exact ih () Q E p s m h
 | «at» q k ih=>intro Q E p s m h;rw [Sem.wp_at] at h ⊢;exact ih () Q E q s m h
 | load a part k ih=>intro Q E p s m h;rw [Sem.wp_load] at h ⊢;obtain ⟨o,e,h⟩:=h;exact ⟨o,e,ih o Q E p s (m o) h⟩
 | update a part f k ih=>intro Q E p s m h;rw [Sem.wp_update] at h ⊢;exact ⟨h.1,up _ Q E p s _ (.update m.1) (ih () Q E p _ m.2 h.2)⟩
 | alloc o k ih=>intro Q E p s m h;rw [Sem.wp_alloc] at h ⊢;exact up _ Q E p s _ .push (ih _ Q E p _ (m _) h)
 | loadIfAlive a k ih=>intro Q E p s m h;rw [Sem.wp_loadIfAlive] at h ⊢;exact ih _ Q E p s (m _) h
 | point l k ih=>intro Q E p s m h;rw [Sem.wp_point] at h ⊢;exact ih () Q E p s m h
 | register a k ih=>intro Q E p s m h;rw [Sem.wp_register] at h;exact h.elim
 | fresh k ih=>intro Q E p s m h;rw [Sem.wp_fresh] at h ⊢;exact ih _ Q E p _ (m _) h
 | ask k ih=>intro Q E p s m h;rw [Sem.wp_ask] at h ⊢;exact ih _ Q E p s (m _) h
 | choose src n k ih=>intro Q E p s m h;rw [Sem.wp_choose] at h ⊢;exact ⟨h.1,ih _ Q E p _ (m _) h.2⟩
 | os q l k ih=>intro Q E p s m h;rw [Sem.wp_os] at h ⊢;exact ih _ Q E p _ (m _) h
 | call c h g l k ih=>intro Q E p s m h;exact m.elim
 | handled own k ih=>intro Q E p s m h;rw [Sem.wp_handled] at h ⊢;exact ih _ Q E p s (m _) h
 | newGen c k ih=>intro Q E p s m h;rw [Sem.wp_newGen] at h ⊢;exact ih _ Q E p _ (m _) h
 | genState g k ih=>intro Q E p s m h;rw [Sem.wp_genState] at h ⊢;obtain ⟨st,e,h⟩:=h;exact ⟨st,e,ih _ Q E p s (m _) h⟩
 | resume g r l k ih=>intro Q E p s m h;exact m.elim
 | yield v g l k ih=>intro Q E p s m h;rw [Sem.wp_yield] at h;exact h.elim
 | stack k ih=>intro Q E p s m h;rw [Sem.wp_stack] at h ⊢;exact ih _ Q E p s (m _) h
 | fork c k ih=>intro Q E p s m h;rw [Sem.wp_fork] at h;exact h.elim
 | thread k ih=>intro Q E p s m h;rw [Sem.wp_thread] at h ⊢;exact ih _ Q E p s (m _) h
 | await a tk ti l k ih=>intro Q E p s m h;unfold Sem.wp at h;exact h.elim
theorem f8 {α:Type} {M:Model} {A:Around} {t:Sem α} {Q:α->Shared->Prop} {E:Value->Shared->Prop} {s:Shared} (m:cB t) (h:wpAny M A t Q E s) :
   wpAny M A t (λ a s'=>Q a s'/\bB s.heap s'.heap) (λ e s'=>E e s'/\bB s.heap s'.heap) s:=λ Γ p hΓ=>Gb M Γ t _ _ p s m (h Γ p hΓ)
theorem cB.bind {α β:Type} {f:α->Sem β} (hf:∀ a,cB (f a)):∀ {t:Sem α},cB t->cB (t.bind f):=by
 intro t
 induction t with
 | pure a=>intro _;exact hf a
 | raise e=>intro _;trivial
 | unsupported w=>intro _;trivial
 | finish e=>intro _;trivial
 | rule t k ih=>intro m;exact ih () m
 | «at» q k ih=>intro m;exact ih () m
 | load a part k ih=>intro m;exact λ o=>ih o (m o)
 | update a part g k ih=>intro m;exact ⟨m.1,ih () m.2⟩
 | alloc o k ih=>intro m;exact λ a=>ih a (m a)
 | loadIfAlive a k ih=>intro m;exact λ a=>ih a (m a)
 | point l k ih=>intro m;exact ih () m
 | register a k ih=>intro m;trivial
 | fresh k ih=>intro m;exact λ a=>ih a (m a)
 | ask k ih=>intro m;exact λ a=>ih a (m a)
 | choose src n k ih=>intro m;exact λ a=>ih a (m a)
 | os q l k ih=>intro m;exact λ a=>ih a (m a)
 | call c h g l k ih=>intro m;exact m.elim
 | handled own k ih=>intro m;exact λ a=>ih a (m a)
 | newGen c k ih=>intro m;exact λ a=>ih a (m a)
 | genState g k ih=>intro m;exact λ a=>ih a (m a)
 | resume g r l k ih=>intro m;exact m.elim
 | yield v g l k ih=>intro m;trivial
 | stack k ih=>intro m;exact λ a=>ih a (m a)
 | fork c k ih=>intro m;trivial
 | thread k ih=>intro m;exact λ a=>ih a (m a)
 | await a tk ti l k ih=>intro m;trivial
theorem cB.bd {α β:Type} {t:Sem α} {f:α->Sem β} (h:cB t) (hf:∀ a,cB (f a)):cB (t >>= f):=cB.bind hf h
theorem tz (g:Array Value->Array Value):yy (Obj.mapFields g):=λ o=>by
 obtain ⟨c,d,dt,sl⟩:=o
 cases dt<;>exact ⟨rfl,λ h=>h⟩
theorem va (g:Obj->Array (Option Value)):yy (λ o=>{ o with slots:=g o }):=λ o=>by
 obtain ⟨c,d,dt,sl⟩:=o
 refine ⟨rfl,λ h=>?_⟩
 cases dt<;>first|rfl|exact h
theorem lL (a:Addr):cB (load a):=λ _=>trivial
theorem qR (v:Value):cB (fieldsOf v):=by
 unfold fieldsOf
 split
 . refine .bd (lL _) λ o=>?_
   split<;>trivial
 . trivial
theorem iq (v:Value) (i:Nat):cB (field v i):=by
 unfold field
 refine .bd (qR v) λ vs=>?_
 split<;>trivial
theorem gM (v:Value) (i:Nat) (x:Value):cB (setField v i x):=by
 unfold setField
 split
 .
  unfold updateField
  refine .bd (lL _) λ o=>?_
  split
  . split
    . exact ⟨tz _,trivial⟩
    . trivial
  . trivial
 . trivial
theorem gd (e:Value) (f:Option Addr):cB (setFlight e f):=by
 unfold setFlight
 refine .bd (iq _ _) λ tb=>?_
 split
 . exact gM _ _ _
 . trivial
theorem j0:cB stack:=λ _=>trivial
theorem oh:∀ l:List Env,cB (readyFrames l)
 | []=>trivial
 | env::outer=>by
   unfold readyFrames
   split
   .
    refine .bd (lL _) λ o=>?_
    split
    . trivial
    .
     refine .bd ?_ λ im => .bd ?_ λ bk=>⟨va _,oh outer⟩
     . unfold behindIsImport
       split
       . trivial
       . split
         . trivial
         . exact .bd (iq _ _) λ _=>trivial
     . unfold keptBack
       split
       . split
         . trivial
         . unfold underTheClaimsCaller
           exact .bd (.bd j0 λ _=>trivial) λ _=>trivial
       . trivial
   . trivial
theorem tG (env:Env):cB (PySem.frameOf env):=by
 unfold PySem.frameOf frameEnvs
 refine .bd (.bd j0 λ _=>trivial) λ l => .bd ?_ λ r=>?_
 .
  unfold frameObject
  split
  . trivial
  . exact .bd (oh _) λ _=>trivial
 . split<;>trivial
theorem wy (f:Addr) (b:Bool):cB (entryPlaceOf f b):=by
 unfold entryPlaceOf
 refine .bd j0 λ l=>?_
 split<;>trivial
theorem qw (a b c d e:Value) (pl:List Value):cB (EntryCells.newEntry a b c d e pl):=by
 unfold EntryCells.newEntry newFields newObj
 dsimp only
 have ob:∀ d,cB (newObjAsIs (.type "traceback") d):=λ d=>by
   unfold newObjAsIs
   exact .bd (λ _=>trivial) λ _=>trivial
 split
 . split
   . exact .bd trivial λ _=>ob _
   . exact ob _
 . split
   . exact .bd trivial λ _=>ob _
   . exact ob _
theorem sg (e:Value) (env:Env):cB (noteFrame e env):=by
 unfold noteFrame
 split
 .
  refine .bd (iq _ _) λ head=>?_
  have rest:cB (do setField e 1 (← EntryCells.newEntry head (← PySem.frameOf env) .none (rawInt ‹Addr›) .none (← entryPlaceOf ‹Addr› (head != .none)))) :=
    .bd (tG env) λ fr => .bd (wy _ _) λ pl => .bd (qw _ _ _ _ _ _) λ v=>gM _ _ _
  split
  . refine .bd (iq _ _) λ x=>?_
    split
    . trivial
    . exact .bd (gM _ _ _) λ _=>rest
  . exact rest
 . trivial
theorem kz (env:Env) (e:Value):cB (leaving env e):=by
 unfold leaving
 exact .bd (sg _ _) λ _=>gd _ _
theorem pR {h:Heap} {as:List Addr} {b:Addr} {o:Obj} (e:h.get? b=some o) (n:b∉as):(W.hideAll h as).get? b=some o:=W.hideAll_get _ e n
structure ZG (P:Program) (w:World) (outer:List Env) (H:Hp) (s:Shared) (cls:Value) (x:Addr) (H':Hp) (s':Shared):Prop where
 os:s'.os=s.os
 bare:AllBare s'.gens
 un:Un (gO outer) [] H H' s.heap s'.heap
 bo:g8 P w H' s'.heap
 fly:∃ a0 B,Heap.FlyingW B outer x cls a0 s'.heap/\(∀ b o,s.heap.get? b=some o->b∉gO outer->∀ o',s'.heap.get? b=some o'->B.get? b=some o')/\∀ b u,H' b=some u->∃ o,B.get? b=some o
def XD (h:Heap) (x:Addr) (d:Option Addr):Prop:=∃ o,h.get? x=some o/\o.dict=d
theorem XD.kept {h:Heap} {x:Addr} {d:Option Addr} (k:bB h h') (q:XD h x d):XD h' x d:=let ⟨o,e,z⟩:=q;let ⟨o',e',z'⟩:=k x o e;⟨o',e',z'.trans z⟩
def mZ (P:Program) (w:World):Ag:=λ outer H s E e s'=>∃ x cls H',e = .ref x/\ZG P w outer H s cls x H' s'/\∃ d,XD s'.heap x d/\E cls d H'
theorem wL {P:Program} {w:World} {h B:Heap} (x:g8 P w H h) (hB:∀ b o,B.get? b=some o->h'.get? b=some o) (hb:∀ b o,B.get? b=some o->h.get? b=some o) (tk:∀ b u,H b=some u->∃ o,B.get? b=some o):g8 P w H h':=λ a o e =>
 (x a o e).iK (λ b u Wj q=>by
   have:∃ u',H b=some u':=by
     rcases Wj with z|z
     . exact ⟨o,by rw [z];exact e⟩
     . exact ⟨_,z⟩
   obtain ⟨u',hu'⟩:=this
   obtain ⟨ob,hob⟩:=tk b u' hu'
   have:=hb b ob hob
   rw [q] at this
   cases this
   exact hB b u hob) (λ _ q=>q) λ _ _ q=>q
def Thr (X:Cx) (E:XK):Prop:=∀ (pins:List (Addr×Obj)) (σ:St) (H:Hp) (s:Shared) (h':Heap) (x:Addr) (cls:Value) (args:List Value),Inv X pins σ H s->Heap.MadeExcOf s.heap h' x cls args->E cls none H->X.xe (.ref x) { s with heap:=h' }
section
variable {P:Program} {w:World} {K:W.Frag} {mg:Str->Option Value} {base:Heap} {N:List Str} {qual:Str} {scope:Scope} {f:Addr} {cd:Value} {A:Around} {outer:List Env} {s₀:Shared} {H₀:Hp} {E E':XK}
theorem Dg (hE:∀ cls d H,E' cls d H->E cls d H):Thr (eZ (mZ P w) P w K mg base N qual scope f cd A outer s₀ H₀ E) E':=by
 intro pins σ H s h' x cls args I hx he
 have L1:(envOfC qual scope s₀.heap.objs.size f cd).frame=some s₀.heap.objs.size:=rfl
 have fr:=I.ok.frames
 have st:=I.stack
 have hin:∀ env∈(envOfC qual scope s₀.heap.objs.size f cd::outer),∀ b,env.frame=some b->b∈gO (envOfC qual scope s₀.heap.objs.size f cd::outer):=λ env he b hb=>List.mem_filterMap.mpr ⟨env,he,hb⟩
 show wpAny _ _ (leaving _ _) _ _ _
 refine adA (f8 (kz _ _) (wpAny_leaves_madeW (E:=λ _ _=>False) (Q:=λ _ s2=>∃ h2 t,s2={ s with heap:=h2 }/\Heap.FlyingW (W.hideAll s.heap (gO (envOfC qual scope s₀.heap.objs.size f cd::outer))) outer x cls (.ref t) h2/\h'.UpToSlots h2) (base:=W.hideAll s.heap (gO (envOfC qual scope s₀.heap.objs.size f cd::outer))) fr L1 (λ b o q=>W.of_hideAll _ q) (W.funFrames_hide st hin) hx λ h2 t fl tup tn up=>⟨h2,t,rfl,fl,up⟩)) (λ _ s2 z=>?_) λ _ _ z=>z.1.elim
 obtain ⟨⟨h2,t,rfl,fl,up⟩,dk⟩:=z
 have qB:∀ b o,s₀.heap.get? b=some o->b∉gO outer->b∉gO (envOfC qual scope s₀.heap.objs.size f cd::outer):=λ b o e n hm=>by
   rcases List.mem_cons.mp (show b∈s₀.heap.objs.size::gO outer from hm) with z|z
   . exact absurd (aaK e) (by rw [z];exact ahc _)
   . exact n z
 have iK:∀ b o,s.heap.get? b=some o->b∉gO (envOfC qual scope s₀.heap.objs.size f cd::outer)->h2.get? b=some o:=λ b o e n=>fl.1 b o (pR e n)
 have fin:∀ b∈gO outer,∃ o,s.heap.get? b=some o/\∀ vs,o.data ≠ .fields vs:=λ b hb=>(I.ok.jH.mem hb).2 |> λ ⟨o,e,hd⟩=>by
   obtain ⟨sl,e2⟩:=I.base.slot b o e (I.ok.AS b hb) hb (by intro z;exact absurd (show b∈([]:List Addr) from z) (by simp))
   exact ⟨_,e2,hd⟩
 have tk:∀ b u,H b=some u->∃ o,(W.hideAll s.heap (gO (envOfC qual scope s₀.heap.objs.size f cd::outer))).get? b=some o:=λ b u e=>by
   have nf:b∉gO (envOfC qual scope s₀.heap.objs.size f cd::outer):=λ z=>by rw [I.tX b z] at e;cases e
   have lt:=I.bo.lt e
   cases q:s.heap.get? b with
   | none =>
     obtain ⟨o,ho⟩:∃ o,s.heap.get? b=some o:=by
       have ok:=I.bo b u e
       cases u with
       | lst xs=>obtain ⟨_,_,_,_,e⟩:=ok;exact ⟨_,e⟩
       | tup xs=>obtain ⟨_,_,_,o,e,_⟩:=ok;exact ⟨_,e⟩
       | dK kvs=>obtain ⟨_,_,_,_,o,_,_,e,_⟩:=ok;exact ⟨_,e⟩
       | dT kvs=>obtain ⟨_,_,_,_,o,_,_,e,_⟩:=ok;exact ⟨_,e⟩
       | set S n=>obtain ⟨o,_,_,_,e,_⟩:=ok;exact ⟨_,e⟩
       | ins C dx fs=>obtain ⟨_,_,_,e,_⟩:=ok;exact ⟨_,e⟩
       | own y=>obtain ⟨_,e⟩:=ok;exact ⟨_,e⟩
       | xd fs=>obtain ⟨_,⟨_,_,_,e,_⟩,_⟩:=ok;exact ⟨_,e⟩
       | Wm lo hi=>obtain ⟨_,_,_,e⟩:=ok;exact ⟨_,e⟩
       | nK ob u=>obtain ⟨e,_⟩:=ok;exact ⟨_,e⟩
       | jX ps=>exact ⟨_,ok⟩
       | met f y=>exact ⟨_,ok⟩
       | ext φ=>obtain ⟨_,⟨_,e⟩,_⟩:=ok;exact ⟨_,e⟩
     rw [q] at ho;cases ho
   | some o=>exact ⟨o,pR q nf⟩
 refine ⟨x,cls,H,rfl,⟨I.os,I.bare,?_,wL I.bo fl.1 (λ b o q=>W.of_hideAll _ q) tk,_,_,fl,?_,tk⟩,none,XD.kept dk (let ⟨_,e,_⟩:=hx.there;⟨_,e,rfl⟩),hE _ _ _ he⟩
 .
  refine ⟨λ b o e n hb _=>iK b o (I.base.keep b o e n hb (by simp [eZ])) (qB b o e hb),λ b o e n hb _=>?_,λ b o e n _=>I.base.free b o e n (by simp [eZ]),λ b o e _=>?_,I.base.jN,I.base.iJ,I.base.i4⟩
  .
   obtain ⟨sl,e1⟩:=I.base.slot b o e n hb (by simp [eZ])
   obtain ⟨o1,e2,hd⟩:=fin b hb
   rw [e1] at e2
   cases e2
   obtain ⟨GW,e3⟩:=up b _ (hx.keeps b _ e1) hd
   exact ⟨GW,e3⟩
  .
   obtain ⟨o',e1⟩:=I.base.there b o e (by simp [eZ])
   by_cases hb:b∈gO outer
   . obtain ⟨o1,e2,hd⟩:=fin b hb
     obtain ⟨GW,e3⟩:=up b _ (hx.keeps b _ e2) hd
     exact ⟨_,e3⟩
   . exact ⟨o',iK b o' e1 (qB b o e hb)⟩
 .
  intro b o e hb o' e'
  obtain ⟨o1,e1⟩:=I.base.there b o e (by simp [eZ])
  have e2:=iK b o1 e1 (qB b o e hb)
  rw [e2] at e'
  cases e'
  exact pR e1 (qB b o e hb)
theorem dA (hE:∀ cls d H,E' cls d H->E cls d H):Passes (mZ P w) (eZ (mZ P w) P w K mg base N qual scope f cd A outer s₀ H₀ E) E':=by
 intro pins σ H s e s' I hc
 obtain ⟨x,cls,H',rfl,F,dd,wD,he⟩:=hc
 obtain ⟨a0,B,fl,hB,tk⟩:=F.fly
 have L1:(envOfC qual scope s₀.heap.objs.size f cd).frame=some s₀.heap.objs.size:=rfl
 have fr:=I.ok.frames
 show wpAny _ _ (leaving _ _) _ _ _
 refine adA (f8 (kz _ _) (wpAny_leaves_onW (E:=λ _ _=>False) (Q:=λ _ s2=>∃ h2,s2={ s' with heap:=h2 }/\Heap.FlyingW B outer x cls a0 h2/\s'.heap.UpToSlots h2) (outer:=outer) fr L1 fl λ h2 Ay up=>⟨h2,rfl,Ay,up⟩)) (λ _ s2 z=>?_) λ _ _ z=>z.1.elim
 obtain ⟨⟨h2,rfl,Ay,up⟩,dk⟩:=z
 have qB:∀ b o,s₀.heap.get? b=some o->b∉gO outer->b∉gO (envOfC qual scope s₀.heap.objs.size f cd::outer):=λ b o e n hm=>by
   rcases List.mem_cons.mp (show b∈s₀.heap.objs.size::gO outer from hm) with z|z
   . exact absurd (aaK e) (by rw [z];exact ahc _)
   . exact n z
 have IJ:∀ b:Addr,b∉(eZ (mZ P w) P w K mg base N qual scope f cd A outer s₀ H₀ E).ex:=λ b=>by simp [eZ]
 have at2:∀ b o,s₀.heap.get? b=some o->b∉gO outer->∃ o',s'.heap.get? b=some o'/\B.get? b=some o'/\h2.get? b=some o':=λ b o e n=>by
   obtain ⟨o1,e1⟩:=I.base.there b o e (IJ b)
   obtain ⟨o2,e2⟩:=F.un.there b o1 e1 (by simp)
   have e3:=hB b o1 e1 (qB b o e n) o2 e2
   exact ⟨o2,e2,e3,Ay.1 b o2 e3⟩
 have fin:∀ b∈gO outer,∃ o,s'.heap.get? b=some o/\∀ vs,o.data ≠ .fields vs:=λ b hb=>(fl.2.2.1.mem (aaN (s₀.heap.objs.size) hb:b∈gO (envOfC qual scope s₀.heap.objs.size f cd::outer))).2
 refine ⟨x,cls,H',rfl,⟨F.os.trans I.os,F.bare,?_,wL F.bo Ay.1 fl.1 tk,a0,B,Ay,?_,tk⟩,dd,wD.kept dk,hE _ _ _ he⟩
 .
  refine ⟨λ b o e n hb _=>?_,λ b o e n hb _=>?_,λ b o e n _=>?_,λ b o e _=>?_,λ b xs q=>F.un.jN b xs (I.base.jN b xs q),λ b ob u q=>F.un.iJ b ob u (I.base.iJ b ob u q),λ b ps q=>?_⟩
  . have e1:=I.base.keep b o e n hb (IJ b)
    have e2:=F.un.keep b o e1 (I.base.free b o e n (IJ b)) (qB b o e hb) (by simp)
    exact Ay.1 b o (hB b o e1 (qB b o e hb) o e2)
  .
   obtain ⟨sl,e1⟩:=I.base.slot b o e n hb (IJ b)
   obtain ⟨sl',e2⟩:=F.un.slot b _ e1 (I.base.free b o e n (IJ b)) (aaN (s₀.heap.objs.size) hb:b∈gO (envOfC qual scope s₀.heap.objs.size f cd::outer)) (by simp)
   obtain ⟨o1,e3,hd⟩:=fin b hb
   rw [e2] at e3
   cases e3
   obtain ⟨GW,e4⟩:=up b _ e2 hd
   exact ⟨GW,e4⟩
  . obtain ⟨o1,e1⟩:=I.base.there b o e (IJ b)
    exact F.un.free b o1 e1 (I.base.free b o e n (IJ b)) (by simp)
  .
   by_cases hb:b∈gO outer
   . obtain ⟨o1,e3,hd⟩:=fin b hb
     obtain ⟨GW,e4⟩:=up b _ e3 hd
     exact ⟨_,e4⟩
   . obtain ⟨o',_,_,e'⟩:=at2 b o e hb
     exact ⟨o',e'⟩
  . obtain ⟨m1,e1⟩:=I.base.i4 b ps q
    obtain ⟨m2,e2⟩:=F.un.i4 b _ e1
    exact ⟨m1++m2,by rw [e2,anp]⟩
 .
  intro b o e hb o' e'
  obtain ⟨o1,_,e1,e2⟩:=at2 b o e hb
  rw [e2] at e'
  cases e'
  exact e1
end
theorem Eh {K:W.Frag} {h:Heap} {newId:String} (X:K.In h) (q:W.excIn K C Dx newId=true) :
   ∃ bm N nm q bs hdct sn sub ab col dd k0 k1 k2 k3 k5 mN,h.get? C=some (excClassObj nm q C N bs bm hdct sn sub ab col dd k0 k1 k2 k3 k5 newId)/\h.Ns N mN/\mN "__init__" = none/\OwnTail h Dx bm:=by
 unfold W.excIn at q
 split at q
 .
  rename_i dd cd sl ho
  split at q
  .
   rename_i C' bm k0 k1 k2 k3 n k5 hm hs
   simp only [ajp,beq_iff_eq,Bool.not_eq_true'] at q
   obtain ⟨⟨⟨⟨⟨rfl,rfl⟩,RY⟩,ht⟩,bo⟩,Ww⟩:=q
   obtain ⟨nm,bs,mro,ns,qn,hd,sn,sub,ab,col,del⟩:=cd
   dsimp only at hm RY bo Ww
   subst hm RY
   have IS:sl=#[k0,k1,k2,k3,some (.builtin n),k5]:=by
     obtain ⟨l⟩:=sl
     simp only at hs
     rw [hs]
   subst IS
   exact ⟨bm,ns,nm,qn,bs,hd,sn,sub,ab,col,dd,k0,k1,k2,k3,k5,_,X _ _ ho,.of_isNs (W.isNs_of_in X bo),W.nsMap_none_of_in X bo Ww,W.tail_of_in X ht⟩
  . cases q
 . cases q
section
variable {X:Cx}
def Jf (C:Addr) (E:XK) (t:TA):TS:=λ _ σ H=>t σ H λ vs H1=>vs.length<=sizeLine/\E (.ref C) none H1
theorem vo {c:Str} {B su:String} {newId:String} {e₀:Expr} {rest:List Expr} {eU:Pos} {t:TA} {E:XK} (hc:X.calm=true) (FB:ExcBaseFacts B newId su Dx) (hm:X.mg c=some (.ref C)) (q:W.excIn X.K C Dx newId=true) (th:Thr X E) (ha:PA X (e₀::rest) t) (hg:Gl X c:=by rfl) (hd:(c == ("__debug__" : Str))=false:=by decide) (he:starEach (e₀::rest) X.env=(false,eval e₀ X.env)::starEach rest X.env:=by rfl) (wS:(backTo eU (starEach rest X.env)).any (·.1)=false:=by rfl) :
   PS X (.Raise (some (.Call (.Name c np) (e₀::rest) [] eU)) none pos) (Jf C E t):=by
 intro pins s σ H D I h
 obtain ⟨tl,N,nm,qn,bs,hdct,sn,sub,ab,col,dd,k0,k1,k2,k3,k5,mN,hC,hN,Ww,T⟩:=Eh I.ok.mod.wu q
 refine wpAny_Raise_call_subT (C:=C) (nm:=nm) (q:=qn) (N:=N) (bs:=bs) (bm:=tl) (hdct:=hdct) (sn:=sn) (sub:=sub) (ab:=ab) (col:=col) (dd:=dd) (k0:=k0) (k1:=k1) (k2:=k2) (k3:=k3) (k5:=k5)
   FB (mN:=mN) (T.hasType FB.hasBase) (I.ok.hd hc) (by rw [he];show (false || (backTo eU (starEach rest X.env)).any (·.1))=false;rw [wS];rfl) Ww (fY I hg hm ⟨rfl,?_⟩ hd)
 have hA:=ha eU pins s σ H _ I h
 rw [he] at hA ⊢
 refine Calls.evalArgs_plain (adA hA (λ us s2 ⟨vs,H2,I2,r2,hz,q2⟩=>⟨rfl,by rw [← r2.length];exact hz,I2.bk _ _ hC,hN.keeps I2.bk,T.keeps I2.bk,λ h' x hx=>?_⟩) λ _ _ y=>y)
 exact th pins σ H2 s2 h' x _ _ I2 hx q2
end
section
variable {P:Program} {w:World} {K:W.Frag} {mg:Str->Option Value} {base:Heap}
theorem DF.Mv {x:Str} {st:Stmt} {f:Addr} {fd:FuncData} {N ps:List Str} {k:Nat} {sp:Sp} (F:DF K x qual st f fd) (S:au N ps (ai st)) (len:∀ vs H Q E,sp vs H Q E->vs.length=ps.length) (cJ:∀ (aP:Value) (A:Around) (outer:List Env) (s:Shared) (H:Hp) (vs:List V) (Q:VK) (E:XK),bL k (A.deeper (envOfC qual (ai st) s.heap.objs.size f aP))->sp vs H Q E ->
     ∃ t,mP (eZ (mZ P w) P w K mg base N qual (ai st) f aP A outer s H E) (aI st) t/\t { nx:=λ _ H'=>Q .dC H',rt:=Q } (start N vs) H):dn P w K mg base (mZ P w) (k+1) f fd ps sp:=by
 obtain ⟨oc,od,kV,doc,pm,an,aP,ct,nV,rfl,lk,iI⟩:=F.ex
 exact yj lk iI S len λ A outer s H vs Q E hr xW=>cJ aP A outer s H vs Q E hr xW
def CW (P:Program) (w:World) (K:W.Frag) (mg:Str->Option Value) (base:Heap) (x:Str) (k:Nat) (ps:List Str) (sp:Sp):Prop :=
 ∃ f fd,mg x=some (.ref f)/\W.keepIn K (.ref f)=true/\Binds K fd ps []/\dn P w K mg base (mZ P w) k f fd ps sp
theorem km.Tg {x:Str} {st:Stmt} {N ps:List Str} {k:Nat} {sp:Sp} (h:km K mg x st) (S:au N ps (ai st)) (len:∀ vs H Q E,sp vs H Q E->vs.length=ps.length) (hb:∀ (kV doc pm:Value) (an:Option Addr) (aP ct:Value) (us:List Value),us.length=ps.length->bindArgs (W.fnOf x x (aY st) (aI st) (ai st) .none kV doc pm an aP ct) ⟨us,[]⟩=pure (ps.zip us)) (cJ:∀ (f:Addr) (aP:Value) (A:Around) (outer:List Env) (s:Shared) (H:Hp) (vs:List V) (Q:VK) (E:XK),bL k (A.deeper (envOfC x (ai st) s.heap.objs.size f aP))->sp vs H Q E ->
     ∃ t,mP (eZ (mZ P w) P w K mg base N x (ai st) f aP A outer s H E) (aI st) t/\t { nx:=λ _ H'=>Q .dC H',rt:=Q } (start N vs) H):CW P w K mg base x (k+1) ps sp:=by
 obtain ⟨f,fd,hm,F⟩:=h
 exact ⟨f,fd,hm,F.kp,F.binds hb,F.Mv S len λ aP A outer s H vs Q E hr hs=>cJ f aP A outer s H vs Q E hr hs⟩
theorem dn.Jr {k:Nat} {f:Addr} {fd:FuncData} {ps:List Str} {sp:Sp} (F:dn P w K mg base (mZ P w) k f fd ps sp):dn P w K mg base l6 k f fd ps (λ vs H Q _=>sp vs H Q E0) :=
 ⟨λ vs H Q _ h=>F.len vs H Q E0 h,λ A outer s H args us vs Q E hr e0 hb r hs=>aiL (F.run A outer s H args us vs Q E0 hr e0 hb r hs) λ r s' h=>by
   cases r with
   | error e=>obtain ⟨_,_,_,_,_,_,_,z⟩:=h;exact False.elim z
   | ok fl=>cases fl<;>exact h⟩
end
def PX (X:Cx) (e:Expr) (t:St->Hp->VK->XK->Prop):Prop :=
 ∀ (pins:List (Addr×Obj)) (s:Shared) (σ:St) (H:Hp) (Q:VK) (E:XK),Inv X pins σ H s->t σ H Q E ->
   wpAny (model X.prog X.w) X.A (eval e X.env) (EP X pins σ Q) (λ ex s'=>∃ H1 s1,Inv X pins σ H1 s1/\mZ X.prog X.w X.stack H1 s1 E ex s') s
section
variable {X:Cx} {x:Str} {p pos:Pos} {e:Expr} {es:List Expr} {t:TA} {k:Nat} {ps:List Str} {sp:Sp}
theorem Cr (D:CW X.prog X.w X.K X.mg X.base x k ps sp) (hr:bL k X.A) (ha:PA X.Ai (e::es) t) (hg:Gl X x:=by rfl) (jM:(x == ("__debug__" : Str))=false:=by decide) (he:starEach (e::es) X.env=(false,eval e X.env)::starEach es X.env:=by rfl) (fD:(backTo pos (starEach es X.env)).any (·.1)=false:=by rfl) :
   PX X (.Call (.Name x p) (e::es) [] pos) (λ σ H Q E=>t σ H λ vs H1=>sp (vs++[]) H1 Q E):=by
 obtain ⟨f,fd,hm,hk,hb,F⟩:=D
 intro pins s σ H Q E I h
 refine agF (fY I hg hm ?_ jM)
 refine al1 (h₀:=X.base) I.ok.mod.wu hk (adA (ha pos pins s σ H _ (I.cD _) h) (λ us s1 ⟨vs,H1,I1,r,q⟩=>⟨I1.ia,?_⟩) λ _ _ z=>False.elim z) he fD
 have FE:Inv X pins σ H1 s1:=I1.gK
 have q:sp (vs++[]) H1 Q E:=q
 rw [agb] at q
 have hl:us.length=ps.length:=by rw [← r.length];exact F.len _ _ _ _ q
 refine alC (aiL (F.run X.A X.stack s1 H1 ⟨us,[]⟩ us vs Q E hr FE.yS (by have:=hb s1 us FE.ia (by rw [agb];exact hl);rw [agb] at this;exact this) r q) λ r s' hq=>?_)
 cases r with
 | error e=>exact ⟨H1,s1,FE,hq⟩
 | ok fl =>
   cases fl with
   | ret u=>exact FE.after hq
   | next=>exact False.elim hq
   | brk=>exact False.elim hq
   | cont=>exact False.elim hq
end
structure pV (P:Program) (w:World) (outer:List Env) (H:Hp) (s:Shared) (cls:Value) (x:Addr) (H':Hp) (a0:Value) (B:Heap) (s':Shared):Prop where
 os:s'.os=s.os
 bare:AllBare s'.gens
 un:Un (gO outer) [] H H' s.heap s'.heap
 bo:g8 P w H' s'.heap
 fl:Heap.FlyingW B outer x cls a0 s'.heap
 st:∀ b o,s.heap.get? b=some o->b∉gO outer->∀ o',s'.heap.get? b=some o'->B.get? b=some o'
 tk:∀ b u,H' b=some u->∃ o,B.get? b=some o
theorem ZG.b {P:Program} {w:World} {outer:List Env} {s s':Shared} {x:Addr} (F:ZG P w outer H s cls x H' s'):∃ a0 B,pV P w outer H s cls x H' a0 B s' :=
 let ⟨a0,B,fl,hB,tk⟩:=F.fly;⟨a0,B,F.os,F.bare,F.un,F.bo,fl,hB,tk⟩
section
variable {P:Program} {w:World} {outer:List Env} {H H':Hp} {s s':Shared} {cls a0:Value} {x:Addr} {B:Heap}
theorem pV.fin (F:pV P w outer H s cls x H' a0 B s'):∀ b∈gO outer,∃ o,s'.heap.get? b=some o/\∀ vs,o.data ≠ .fields vs:=λ b hb=>(F.fl.2.2.1.mem hb).2
theorem pV.moved {t2:Nat} (F:pV P w outer H s cls x H' a0 B s') (Ay:Heap.FlyingW B outer x cls a0 h2) (up:s'.heap.UpToSlots h2):pV P w outer H s cls x H' a0 B { s' with heap:=h2,toks:=t2 }:=by
 have th:∀ b o,s.heap.get? b=some o->b∉gO outer->∃ o',B.get? b=some o'/\h2.get? b=some o':=λ b o e hb=>by
   obtain ⟨o1,e1⟩:=F.un.there b o e (by simp)
   have q:=F.st b o e hb o1 e1
   exact ⟨o1,q,Ay.1 b o1 q⟩
 refine ⟨F.os,F.bare,⟨λ b o e n hb hx=>?_,λ b o e n hb hx=>?_,F.un.free,λ b o e hx=>?_,F.un.jN,F.un.iJ,F.un.i4⟩,wL F.bo Ay.1 F.fl.1 F.tk,Ay,λ b o e hb o' e'=>?_,F.tk⟩
 . exact Ay.1 b o (F.st b o e hb o (F.un.keep b o e n hb hx))
 .
  obtain ⟨sl,e1⟩:=F.un.slot b o e n hb hx
  obtain ⟨o1,e3,hd⟩:=F.fin b hb
  rw [e1] at e3
  cases e3
  obtain ⟨GW,e4⟩:=up b _ e1 hd
  exact ⟨GW,e4⟩
 .
  by_cases hb:b∈gO outer
  . obtain ⟨o1,e3,hd⟩:=F.fin b hb
    obtain ⟨GW,e4⟩:=up b _ e3 hd
    exact ⟨_,e4⟩
  . obtain ⟨o',_,e4⟩:=th b o e hb
    exact ⟨o',e4⟩
 .
  obtain ⟨o1,q,e4⟩:=th b o e hb
  have e4':h2.get? b=some o':=e'
  rw [e4] at e4'
  cases e4'
  exact q
theorem pV.none (F:pV P w outer H s cls x H' a0 B s'):H' x=none:=by
 cases q:H' x with
 | none=>rfl
 | some u =>
   obtain ⟨o,e⟩:=F.tk x u q
   rw [F.fl.2.1] at e
   cases e
theorem pV.obj (F:pV P w outer H s cls x H' a0 B s'):∃ oe vs,s'.heap.get? x=some oe/\oe.cls=cls/\oe.data = .fields vs :=
 let ⟨oe,vs,e,c,d,_⟩:=F.fl.first;⟨oe,vs,e,c,d⟩
end
def Cx.held (X:Cx) (e:Addr) (oe:Obj):Cx:={ X with A:=X.A.mark (some (.ref e)),calm:=false,pn:=X.pn++[(e,oe)],xe:=λ _ _=>False }
theorem Cx.Ok.held (ok:X.Ok) (e:Addr) (oe:Obj):(X.held e oe).Ok :=
 ⟨ok.mod,ok.kind,ok.glob,ok.blt,ok.above,ok.inj,ok.has,ok.Fk,(λ z=>nomatch z),ok.frames,ok.LH,ok.exf,ok.bs,ok.DP,ok.y9,ok.Cp,ok.jH,ok.AS⟩
section
variable {X:Cx} {pins:List (Addr×Obj)} {σ:St} {H H':Hp} {s s':Shared} {cls a0:Value} {e:Addr} {oe:Obj} {B:Heap}
theorem Inv.sA (I:Inv X pins σ H s) (F:pV X.prog X.w X.stack H s cls e H' a0 B s'):Inv X pins σ H' s' :=
 I.G7 (ch:=[]) F.os F.un F.bo F.bare (λ b z=>absurd z (by simp))
theorem Inv.held {vs:Array Value} (I:Inv X pins σ H s) (he:s.heap.get? e=some oe) (hd:oe.data = .fields vs) (hn:H e=none):Inv (X.held e oe) pins σ H s:=by
 refine ⟨I.ok.held e oe,I.os,I.bare,I.base,I.loc,I.cell,I.free,I.ge,λ p hp=>?_,I.bo,I.len⟩
 rcases List.mem_append.mp hp with hp|hp
 .
  rcases List.mem_append.mp hp with hp|hp
  . exact I.pin p (aik _ hp)
  .
   have ep:p=(e,oe):=by simpa using hp
   subst ep
   refine ⟨he,hn,λ z=>?_,λ z=>?_,λ v z=>?_⟩
   .
    obtain ⟨m,⟨o,es,ep,ho,Ka,_⟩,_⟩:=I.loc
    have z':e=X.env.locals:=z
    rw [z',ho] at he
    cases he
    rw [Ka] at hd
    cases hd
   . obtain ⟨_,o,ho,hnf⟩:=I.jH.mem z
     have ut:s.heap.get? e=some o:=ho
     rw [he] at ut
     cases ut
     exact hnf vs hd
   . have z':oe.data = .cell v:=z
     rw [hd] at z'
     cases z'
 . exact I.pin p (acO _ hp)
theorem Inv.i9 (ok:X.Ok) (I:Inv (X.held e oe) pins σ H s):Inv X pins σ H s :=
 ⟨ok,I.os,I.bare,I.base,I.loc,I.cell,I.free,I.ge,λ p hp=>I.pin p ((List.mem_append.mp hp).elim (λ z=>aik _ (aik _ z)) λ z=>acO _ z),I.bo,I.len⟩
theorem ju {A:Around} {E:Value->Shared->Prop} {i:Nat} {n:Str} {Q:Unit->Shared->Prop} (I:Inv X pins σ H s) (hN:X.N.Nodup) (hi:X.N[i]?=some n) (hl:X.env.scope.names.lookup n=some .local) (h:∀ s',Inv X pins (σ.set i none) H s'->Q () s'):wpAny (model X.prog X.w) A (do bindName X.env n .none;unbindBehindTheSuite X.env n pos) Q E s:=by
 obtain ⟨m,hn,hm⟩:=id I.loc
 refine wpAny_nameGoes_keeps hl hn (by rw [I.ok.kind];rfl) λ h' v hn' hs=>h _ ?_
 have Bq:=I.Bq
 refine ⟨I.ok,I.os,I.bare,I.base.pU hs (amv I.ok.above),⟨_,hn',λ j y v' e1 e2 e3=>?_⟩,λ y c q=>?_,I.free,I.ge,λ p hp=>?_,I.bo.pU hs I.free,by rw [List.length_set];exact I.len⟩
 .
  by_cases hj:j=i
  . subst hj
    rw [List.getElem?_set] at e2
    simp only [alX] at e2
    split at e2<;>cases e2
  .
   rw [amf (alK hj)] at e2
   obtain ⟨u',r',q⟩:=hm j y v' e1 e2 e3
   refine ⟨u',r',?_⟩
   rcases q with ⟨k,q⟩|⟨k,c,q,z⟩
   . refine .inl ⟨k,?_⟩
     have:y≠n:=λ z=>hj (oY hN e1 (z ▸ hi))
     show (if y=n then v else m y)=some u'
     rw [adH this]
     exact q
   . exact .inr ⟨k,c,q,z.sameBut hs (Bq y c q)⟩
 . obtain ⟨w',z⟩:=I.cell y c q
   exact ⟨w',z.sameBut hs (Bq y c q)⟩
 . obtain ⟨q,n',ne,nf,d⟩:=I.pin p hp
   exact ⟨(hs.2 p.1 ne).trans q,n',ne,nf,d⟩
end
def Lo (X:Cx) (st:List Stmt) (t:(St->XK)->TS):Prop :=
 ∀ (pins:List (Addr×Obj)) (s:Shared) (σ:St) (H:Hp) (D:Ends) (E:St->XK),Inv X pins σ H s->t E D σ H ->
   wpAny (model X.prog X.w) X.A (execs st X.env) (SP X pins D) (λ ex s'=>∃ σ1 H1 s1,Inv X pins σ1 H1 s1/\mZ X.prog X.w X.stack H1 s1 (E σ1) ex s') s
section
variable {X:Cx} {pos:Pos}
theorem BL {e:Expr} {t:St->Hp->VK->XK->Prop} (he:PX X e t) (hs:swapsWith e none pos.line X.env=pure false:=by rfl):Lo X [.Expr e pos] (λ E D σ H=>t σ H (λ _ H1=>D.nx σ H1) (E σ)):=by
 intro pins s σ H D E I h
 refine alO (wpAny_Expr_any (adA (he pins s σ H _ _ I h) (λ v s1 q=>?_) λ ex s1 q=>?_) I.quiet hs)
 . obtain ⟨x,H1,I1,r1,q1⟩:=q
   exact akr ⟨σ,H1,I1,q1⟩
 . obtain ⟨H1,s1,I1,c⟩:=q
   exact ⟨σ,H1,s1,I1,c⟩
theorem EU {i:Nat} {x:Str} {e:Expr} {t:St->Hp->VK->XK->Prop} (hN:X.N.Nodup) (hi:X.N[i]?=some x) (hx:Loc X.env.scope x) (he:PX X e t) (hs:swapsWith e (some (.Name x pos')) pos.line X.env=pure false:=by rfl) (hf:X.fn x=true∨X.env.scope.names.lookup x=some .local:=by first|exact .inl rfl|exact .inr rfl|assumption):Lo X [.Assign [.Name x pos'] e pos] (λ E D σ H=>t σ H (λ v H1=>D.nx (σ.set i (some v)) H1) (E σ)):=by
 intro pins s σ H D E I h
 refine alO (wpAny_Assign_Name (adA (he pins s σ H _ _ I h) (λ v s1 q=>?_) λ ex s1 q=>?_) hs)
 . obtain ⟨y,H1,I1,r1,q1⟩:=q
   exact ji I1 hN hi hx r1 (λ s2 I2=>akr ⟨_,H1,I2,q1⟩) hf
 . obtain ⟨H1,s1,I1,c⟩:=q
   exact ⟨σ,H1,s1,I1,c⟩
def Ends.unset (D:Ends) (i:Nat):Ends:=⟨λ σ H=>D.nx (σ.set i none) H,D.rt,λ σ H=>D.bk (σ.set i none) H,λ σ H=>D.ct (σ.set i none) H⟩
def aiy (K:W.Frag) (c:Value) (i:Nat) (t:(St->XK)->TS) (ts:Value->Addr->TS):TS:=λ D σ H =>
 t (λ σ1 cls _ H1=>W.exmOne K cls c=some true/\∀ e,H1 e=none->ts cls e (D.unset i) (σ1.set i (some (.ref e))) H1) D σ H
def Mo (K:W.Frag) (c:Value) (i:Nat) (t:(St->XK)->TS) (ts:Value->Option Addr->Addr->TS):TS:=λ D σ H =>
 t (λ σ1 cls d H1=>W.exmOne K cls c=some true/\∀ e,H1 e=none->ts cls d e (D.unset i) (σ1.set i (some (.ref e))) H1) D σ H
theorem zB {M:Model} {A:Around} {E:Value->Shared->Prop} {s:Shared} {base:Heap} {env:Env} {outer:List Env} {e:Addr} {a0:Value} {Q:Unit->Shared->Prop} (Bm:A.frames=some (env::outer)) (hf:env.frame=some L) (hfl:Heap.FlyingW base (env::outer) e cls a0 s.heap) (hQ:∀ h',Heap.HeldW base (env::outer) e cls a0 L h'->s.heap.UpToSlots h'->bB s.heap h'->Q () { s with heap:=h' }):wpAny M A (noteFrame (.ref e) env) Q E s:=by
 refine adA (f8 (sg _ _) (wpAny_looks_onW (E:=λ _ _=>False) (Q:=λ _ s2=>∃ h2,s2={ s with heap:=h2 }/\Heap.HeldW base (env::outer) e cls a0 L h2/\s.heap.UpToSlots h2) Bm hf hfl λ h2 a b=>⟨h2,rfl,a,b⟩)) (λ _ s2 z=>?_) λ _ _ z=>z.1.elim
 obtain ⟨⟨h2,rfl,a,b⟩,dk⟩:=z
 exact hQ h2 a b dk
theorem zd {M:Model} {A:Around} {E:Value->Shared->Prop} {s:Shared} {base:Heap} {l:List Env} {e:Addr} {a0:Value} {Q:Unit->Shared->Prop} (hh:Heap.HeldW base l e cls a0 L s.heap) (hQ:∀ h',Heap.FlyingW base l e cls a0 h'->s.heap.UpToSlots h'->bB s.heap h'->Q () { s with heap:=h' }):wpAny M A (setFlight (.ref e) none) Q E s:=by
 refine adA (f8 (gd _ _) (wpAny_landsW (E:=λ _ _=>False) (Q:=λ _ s2=>∃ h2,s2={ s with heap:=h2 }/\Heap.FlyingW base l e cls a0 h2/\s.heap.UpToSlots h2) hh λ h2 a b=>⟨h2,rfl,a,b⟩)) (λ _ s2 z=>?_) λ _ _ z=>z.1.elim
 obtain ⟨⟨h2,rfl,a,b⟩,dk⟩:=z
 exact hQ h2 a b dk
theorem tj {M:Model} {A:Around} {E:Value->Shared->Prop} {s:Shared} {base:Heap} {l:List Env} {e:Addr} {a0:Value} {Q:Unit->Shared->Prop} (hh:Heap.FlyingW base l e cls a0 s.heap) (hQ:∀ h',Heap.FlyingW base l e cls a0 h'->s.heap.UpToSlots h'->bB s.heap h'->Q () { s with heap:=h' }):wpAny M A (setFlight (.ref e) none) Q E s:=by
 refine adA (f8 (gd _ _) (lands_againW (E:=λ _ _=>False) (Q:=λ _ s2=>∃ h2,s2={ s with heap:=h2 }/\Heap.FlyingW base l e cls a0 h2/\s.heap.UpToSlots h2) hh λ h2 a b=>⟨h2,rfl,a,b⟩)) (λ _ s2 z=>?_) λ _ _ z=>z.1.elim
 obtain ⟨⟨h2,rfl,a,b⟩,dk⟩:=z
 exact hQ h2 a b dk
theorem Ez {body:List Stmt} {c n:Str} {b₀:Stmt} {mL:List Stmt} {t:(St->XK)->TS} {ts:Value->Option Addr->Addr->TS} {i:Nat} (i5:X.stack=X.env::X.outer) (Bm:X.env.frame=some X.env.locals) (hN:X.N.Nodup) (hi:X.N[i]?=some n) (hl:X.env.scope.names.lookup n=some .local) (hm:X.mg c=some (.ref C)) (hb:Lo X body t) (hs:∀ cls d e oe,oe.cls=cls->oe.dict=d->W.notCls oe=true->mP (X.held e oe) (b₀::mL) (ts cls d e)) (hg:Gl X c:=by rfl) (jM:(c == ("__debug__" : Str))=false:=by decide) :
   PS X (.Try body [.ExceptHandler (some (.Name c np)) (some n) (b₀::mL) Gj] [] [] pos) (Mo X.K (.ref C) i t ts):=by
 intro pins s σ H D I h
 refine wpAny_Try_except (adA (hb pins s σ H D _ I h) (λ f s1 q=>?_) λ ex s1 hx=>?_)
 .
  cases f with
  | next=>exact akr q
  | ret v=>exact q
  | brk=>exact q
  | cont=>exact q
 .
  obtain ⟨σ1,H1,s0,I0,x,cls,H',rfl,F,dd,wD,Qr,hk⟩:=hx
  obtain ⟨a0,B,FB⟩:=F.b
  have fr:X.A.frames=some (X.env::X.outer):=i5 ▸ I.ok.frames
  have fl':Heap.FlyingW B (X.env::X.outer) x cls a0 s1.heap:=i5 ▸ FB.fl
  refine zB fr Bm fl' λ h4 held up4 dk4=>?_
  refine zd held λ h5 RF up5 dk5=>?_
  have F5:=FB.moved (t2:=s1.toks) (i5 ▸ RF) (Heap.UpToSlots.trans up4 up5)
  have I5:=I0.sA F5
  obtain ⟨oe5,vs5,RW,hc5,Ae⟩:=F5.obj
  have J5:=I5.held RW Ae F5.none
  refine wpAny_handleBy_cons (codeAny_handlers_test (fY (X:=X.held x oe5) J5 hg hm ?_ jM)) (by intro q;cases q)
  have LT:W.Looks (model X.prog X.w) h5 (typeOf (.ref x)) cls:=hc5 ▸ (al7 RW).andThen .now
  refine (W.exm_one J5.ia LT Qr) _ _ _ _ (λ _ _ q=>q) ?_
  refine codeAny_handlers_suite_as ?_
  refine tj RF λ h6 fl6 up6 dk6=>?_
  have F6:=F5.moved (t2:=s1.toks) (i5 ▸ fl6) up6
  have I6:=I0.sA F6
  obtain ⟨oe,vs,he,hc,hd⟩:=F6.obj
  have J6:=I6.held he hd F6.none
  have XF:oe.dict=dd:=by
    obtain ⟨o6,e6,z6⟩:=((wD.kept dk4).kept dk5).kept dk6
    have e6:h6.get? x=some o6:=e6
    have he:h6.get? x=some oe:=he
    rw [he] at e6
    cases e6
    exact z6
  refine ji (X:=X.held x oe) (v:=.ref x) J6 hN hi (.inl hl) rfl (λ s7 J7=>?_) (.inr hl)
  refine adA (hs cls dd x oe hc XF (by unfold W.notCls;rw [hd]) pins s7 _ H' (D.unset i) J7 (hk x F6.none)) (λ f s8 q=>?_) λ _ _ z=>False.elim z
  have ok:=I.ok
  cases f with
  | next =>
    obtain ⟨σ8,H8,J8,q8⟩:=q
    exact ju (J8.i9 ok) hN hi hl λ s9 I9=>⟨_,H8,I9,q8⟩
  | brk =>
    obtain ⟨σ8,H8,J8,q8⟩:=q
    exact ju (J8.i9 ok) hN hi hl λ s9 I9=>⟨_,H8,I9,q8⟩
  | cont =>
    obtain ⟨σ8,H8,J8,q8⟩:=q
    exact ju (J8.i9 ok) hN hi hl λ s9 I9=>⟨_,H8,I9,q8⟩
  | ret v =>
    obtain ⟨v8,σ8,H8,J8,r8,q8⟩:=q
    exact ju (J8.i9 ok) hN hi hl λ s9 I9=>⟨v8,_,H8,I9,r8,q8⟩
theorem IC {body:List Stmt} {c n:Str} {b₀:Stmt} {mL:List Stmt} {t:(St->XK)->TS} {ts:Value->Addr->TS} {i:Nat} (i5:X.stack=X.env::X.outer) (Bm:X.env.frame=some X.env.locals) (hN:X.N.Nodup) (hi:X.N[i]?=some n) (hl:X.env.scope.names.lookup n=some .local) (hm:X.mg c=some (.ref C)) (hb:Lo X body t) (hs:∀ cls e oe,oe.cls=cls->mP (X.held e oe) (b₀::mL) (ts cls e)) (hg:Gl X c:=by rfl) (jM:(c == ("__debug__" : Str))=false:=by decide) :
   PS X (.Try body [.ExceptHandler (some (.Name c np)) (some n) (b₀::mL) Gj] [] [] pos) (aiy X.K (.ref C) i t ts) :=
 Ez (ts:=λ cls _ e=>ts cls e) i5 Bm hN hi hl hm hb (λ cls _ e oe h _ _=>hs cls e oe h) hg jM
end
structure ui (K:W.Frag) (C:Addr):Prop where
 ga:W.findIn K (.ref C) "__getattribute__" = some (some (.builtin "BaseException.__getattribute__"))
 gt:W.findIn K (.ref C) "__getattr__" = some none
 cl:W.findIn K (.ref C) "__class__" = some (some (.builtin "object.__class__"))
 gs:W.specialIn K (.builtin "object.__class__") "__get__" = some (some (.builtin "getset_descriptor.__get__"))
 tk:W.takesIn K (.builtin "object.__class__")=some true
 mo:W.mroIn K C (.type "object")=some true
 mb:W.mroIn K C (.type "BaseException")=some true
 is:(W.clsIn K C).isSome=true
section
open PySem.Builtin PySem.Builtin.ObjectAttr PySem.Builtin.Getset_descriptor
variable {K:W.Frag} {C e:Addr}
theorem Aa {M:Model} {h:Heap} {name:Str} {a g:Value} (X:K.In h) (h1:W.findIn K (.ref C) name=some (some a)) (h2:W.specialIn K a "__get__" = some (some g)) (h3:W.takesIn K a=some true) :
   W.Looks M h (find (.ref e) (.ref C) name) (.bind g a):=by
 have M1:=al3 (M:=M) X h1
 have M2:W.Looks M h (getOf (some a)) (some g):=W.looks_specialIn X h2
 have M3:W.Looks M h (dataDescriptor? (some a) (some g)) (some (g,a)):=(W.looks_takesIn (M:=M) X h3).andThen .now
 exact M1.andThen (M2.andThen (M3.andThen (W.Looks.tag .now)))
variable {prog:Program} {w:World} {A:Around} {s:Shared} {oe:Obj}
theorem zh {R:Result->Shared->Prop} {tp:Value} (X:K.In s.heap) (he:s.heap.get? e=some oe) (hc:oe.cls = .ref C) (hE:ui K C) (h:R (.ok (.ret (.ref C))) s) :
   codeAny (model prog w) A (.call (.builtin "getset_descriptor.__get__") ⟨[.builtin "object.__class__",.ref e,tp],[]⟩) R s:=by
 obtain ⟨Bj,gn,dw,tt,Wd⟩:=s
 have M0:W.Looks (model prog w) Bj (typeOf (.ref e)) (.ref C):=hc ▸ (al7 he).andThen .now
 have M1:=W.looks_mroIn (M:=model prog w) X hE.mo
 refine ams W.KF.slot_gs.plain W.KF.entry_gs (W.KF.slot_gs.check _ _ _ _ _ _ _ _ W.KF.type_class (W.KF.args_gs _ _ _) ?_)
 unfold PySem.Builtin.«getset_descriptor.__get__» descrGet
 rw [W.dga_obj]
 refine wF (aaJ ?_)
 unfold descrGetter descrCheckInstance descrNameAndClass PySem.isInstance
 simp only [W.KF.owner_class]
 repeat lk
 refine ⟨Code.quiet_builtin _ (by decide +kernel),codeAny_builtin W.KF.entry_class ?_⟩
 unfold PySem.Builtin.«object.__class__» PySem.shownTypeOf
 repeat lk
 exact h
theorem Jd {R:Result->Shared->Prop} {tk:Tok} (X:K.In s.heap) (he:s.heap.get? e=some oe) (hc:oe.cls = .ref C) (hE:ui K C) (h:R (.ok (.ret (.ref C))) s) :
   codeAny (model prog w) A (.call (.builtin "BaseException.__getattribute__") ⟨[.ref e,.str "__class__" tk],[]⟩) R s:=by
 obtain ⟨Bj,gn,dw,tt,Wd⟩:=s
 have M0:W.Looks (model prog w) Bj (typeOf (.ref e)) (.ref C):=hc ▸ (al7 he).andThen .now
 have MB:=W.looks_mroIn (M:=model prog w) X hE.mb
 have MF:=Aa (M:=model prog w) (e:=e) X hE.cl hE.gs hE.tk
 have ar:=PySem.F.args_bexc_ga (.ref e) (.str "__class__" tk)
 refine ams PySem.F.excAttr_ValueError.ga.plain PySem.F.entry_bexc_ga ?_
 have hk:builtinKind "BaseException.__getattribute__" = some .slot:=by decide +kernel
 have ID:splitId "BaseException.__getattribute__" = some ("BaseException","__getattribute__"):=by decide +kernel
 simp only [checkBuiltinCall,hk,ID]
 refine wF ((M0.andThen MB).at ?_)
 simp only [amq,alV,amb]
 unfold argsOk at ar
 refine amy (a:=()) ar ?_
 unfold PySem.Builtin.«object.__getattribute__»
 refine wF (amy (a:=(Value.ref e,[Value.str "__class__" tk])) rfl ?_)
 dsimp only
 refine wF (amy (a:=("__class__" : Str)) rfl ?_)
 refine wF (M0.at (wF (MF.at ?_)))
 show wpAny _ _ (holding [_] (call _ [_,_,_]) >>= ret) _ _ _
 refine wF (aj3 (alC (zh (s:=⟨Bj,gn,dw,tt,Wd⟩) X he hc hE ?_)))
 exact aaJ h
theorem uq (hE:ui K C):W.KitX K (.ref e) (.ref C) (λ h=>∃ oe,h.get? e=some oe/\oe.cls = .ref C) where
 ty:=λ _ _ _ ⟨_,he,hc⟩=>hc ▸ (al7 he).andThen .now
 it:=λ _ _ X _=>by
   obtain ⟨cd,iI⟩:=Option.isSome_iff_exists.mp hE.is
   unfold W.clsIn at iI
   split at iI
   . rename_i q1 q2 q3 q4 ho
     intro A1 Q1 E1 s1 keep q
     unfold isType loadHead
     exact wF (wpAny_loadPart (keep _ _ (X _ _ ho)) (aaJ q))
   . cases iI
 ne:=λ h tp dd aR n sl X Kl=>by
   obtain ⟨cd,iI⟩:=Option.isSome_iff_exists.mp hE.is
   refine Bool.eq_false_iff.mpr λ q=>?_
   have z:C=tp:=Value.ref.inj (beq_iff_eq.mp q)
   subst z
   unfold W.clsIn at iI
   split at iI
   . rename_i q1 q2 q3 q4 ho
     have y:=(X _ _ ho).symm.trans Kl
     cases y
   . cases iI
 ca:=λ {prog w A E Q s} X hx k=>by
   obtain ⟨oe,he,hc⟩:=hx
   obtain ⟨Bj,gn,dw,tt,Wd⟩:=s
   have M0:W.Looks (model prog w) Bj (typeOf (.ref e)) (.ref C):=hc ▸ (al7 he).andThen .now
   have M1:=al3 (M:=model prog w) X hE.ga
   have M2:=al3 (M:=model prog w) X hE.gt
   unfold getAttr? getAttrBy? getAttrBy
   refine wF (wpAny_mkText (wF (wpAny_attempt (aj3 (wF (M0.at (wF (M1.at ?_))))))))
   show wpAny _ _ (getAttrByItsOwn _ _ _ _ _ _) _ _ _
   unfold getAttrByItsOwn
   refine wF (m:=hookBefore _) (M2.at ?_)
   refine wF (wpAny_attempt (aj3 ?_))
   show wpAny _ _ (boundAndCalled _ _ _) _ _ _
   unfold boundAndCalled
   refine wF (amy (PySem.F.excAttr_ValueError.ga.bind (.ref e)) ?_)
   refine alC (Jd (s:=⟨Bj,gn,dw,tt+1,Wd⟩) X he hc hE ?_)
   exact W.handed_on rfl (aaJ k)
end
def Ed:V->Bool
 | .ref _=>true
 | .ty _=>true
 | _=>false
def WK:V->Value
 | .ref a => .ref a
 | .ty n => .type n
 | _ => .none
theorem vQ {c:V} {u:Value} (hc:Ed c=true) (r:RelV c u):u=WK c:=by
 cases c<;>first|exact r|cases hc
theorem uR:∀ {cs:List V} {us:List Value},Vals cs us->(∀ x∈cs,Ed x=true)->us=cs.map WK
 | _,_,.nil,_=>rfl
 | _,_,.cons r t,h=>by rw [afS,vQ (h _ adu) r,uR t λ x hx=>h x (aaN _ hx)]
inductive Kq (K:W.Frag) (C:Addr) (H:Hp):V->Bool->Prop where
 | one {c:V} {b:Bool} (hc:Ed c=true) (h:W.kitOne K (.ref C) (WK c)=some b):Kq K C H c b
 | many {p:Addr} {cs:List V} {b:Bool} (hp:H p=some (.tup cs)) (hc:∀ x∈cs,Ed x=true) (h:W.kitAny K (.ref C) (cs.map WK)=some b):Kq K C H (.ref p) b
section
variable {X:Cx}
theorem oQ {e:Addr} {oe:Obj} (K:W.Frag) (hK:X.K=K) (hp:(e,oe)∈X.pn) (hc:oe.cls=cls) :
   fG X (.builtin "isinstance") (λ xs H Q=>∃ c b C,xs=[.ref e,c]/\cls = .ref C/\ui K C/\Kq K C H c b/\Q (.bl b) H):=by
 subst hK
 intro pins s σ H xs us Q I r h
 obtain ⟨c,b,C,rfl,ec,hE,is,q⟩:=h
 obtain ⟨u,w',rfl,r1,r2⟩:=vals2 r
 obtain rfl:u=Value.ref e:=r1
 have he:s.heap.get? e=some oe:=(I.pin (e,oe) (aik _ hp)).1
 have fin:∀ tk,EP X pins σ Q (.bool b) { s with toks:=tk }:=λ tk=>⟨.bl b,H,I.tok _,rfl,q⟩
 cases is with
 | one vW h1 =>
   rw [vQ vW r2]
   exact akR (uq hE) I.ia ⟨oe,he,hc.trans ec⟩ h1 (λ z=>nomatch z) fin
 | @many p cs _ hp' vW h1 =>
   obtain rfl:w'=Value.ref p:=r2
   obtain ⟨_,aR,rv,o,ho,wn,n,hd⟩:=(show bJ X.prog X.w H s.heap p (.tup cs) from I.bo p _ hp')
   have ei:=uR rv vW
   subst ei
   obtain ⟨o1,o2,o3,o4⟩:=o
   dsimp only at wn hd
   subst wn hd
   exact W.kia_tup (uq hE) I.ia ⟨oe,he,hc.trans ec⟩ ho h1 (λ z=>nomatch z) fin
end
theorem qO:bootBuiltins "ValueError" = some (.type "ValueError"):=by decide +kernel
open PySem.Builtin PySem.Builtin.ObjectAttr
section
variable {K:W.Frag} {prog:Program} {w:World} {A:Around} {E:Value->Shared->Prop} {s:Shared} {x C:Addr} {name:Str} {v:Value}
def yx:List Value->Bool
 | []=>false
 | .ref _::r=>yx r
 | c::r=>decide (c::r=[.type "ValueError",.type "Exception",.type "BaseException",.type "object"])
def Ws (K:W.Frag) (C:Addr):Bool:=(W.clsIn K C).any λ cd=>yx cd.mro
end
open PySem.Builtin PySem.Builtin.ObjectAttr
section
variable {prog:Program} {w:World} {A:Around} {E:Value->Shared->Prop} {h:Heap} {g:Array GenState} {d:Drawn} {t:Nat} {os:OsState}
variable {nm q:Str} {C N:Addr} {bs bm Dx:List Value} {hdct:Bool} {sn:List Str} {sub:List Value} {ab:Bool} {col:Option Bool} {dd:Option Addr} {k0 k1 k2 k3 k5:Option Value} {B newId su:String}
end
section
variable {M:Model} {A:Around} {E:Value->Shared->Prop} {env:Env}
variable {nm q:Str} {C N:Addr} {bs bm Dx:List Value} {hdct:Bool} {sn:List Str} {sub:List Value} {ab:Bool} {col:Option Bool} {dd:Option Addr} {k0 k1 k2 k3 k5:Option Value} {B newId su:String}
end
section
variable {prog:Program} {w:World} {A:Around} {E:Value->Shared->Prop} {s:Shared} {env:Env}
variable {nm q:Str} {C N:Addr} {bs bm Dx:List Value} {hdct:Bool} {sn:List Str} {sub:List Value} {ab:Bool} {col:Option Bool} {dd:Option Addr} {k0 k1 k2 k3 k5:Option Value} {B newId su:String}
end
structure ao7 (K:W.Frag) (C fI:Addr) (Dx:List Value) (newId:String):Prop where
 ex:∀ h:Heap,K.In h->∃ bm N nm q bs hdct sn sub ab col dd k0 k1 k2 k3 k5 mN,h.get? C=some (excClassObj nm q C N bs bm hdct sn sub ab col dd k0 k1 k2 k3 k5 newId)/\h.Ns N mN/\mN "__init__" = some (.ref fI)/\OwnTail h Dx bm
 fn:∀ h:Heap,K.In h->∃ oI,h.get? fI=some oI/\oI.cls = .type "function"
def Wy (K:W.Frag) (C f:Addr) (Dx:List Value) (newId:String):Bool:=(K.lookup C).any λ o=>decide (o.cls = .type "type") &&
 match o.data with
 | .cls cd=>decide (cd.mro = .ref C::cd.mro.tail) && decide (o.slots.size=6) && decide (o.slots[4]?=some (some (.builtin newId))) && !cd.hasDel && W.tailIn K Dx cd.mro.tail && W.nsOkIn K cd.ns && decide (W.nsIn K cd.ns "__init__" = some (some (.ref f)))
 | _=>false
@[elab_as_elim] theorem cr {α:Type} {motive:List α->Prop} {n:Nat} {us:List α} (h:us.length=n+1) (k:∀ a t,t.length=n->motive (a::t)):motive us:=by
 cases us with
 | nil=>cases h
 | cons a t=>exact k a t (Nat.succ.inj h)
theorem al4 {α:Type} {n:Nat} {l:List α} (h:l.length=n+1):∃ a t,l=a::t/\t.length=n:=cr h λ a t h=>⟨a,t,rfl,h⟩
section
variable {X:Cx} {x:Str} {pos:Pos}
theorem oi {i:Int} (hg:Gl X x) (hm:∃ t,X.mg x=some (.int i t)) (hd:(x == ("__debug__" : Str))=false:=by decide):PE X (.Name x pos) (tC (.int i)):=by
 obtain ⟨t,hm⟩:=hm
 exact fe hg hm ⟨t,rfl⟩ hd
end
def apH (K:W.Frag) (a:Addr) (xs:List V):Prop :=
 ∃ (o:Obj) (aR:Array Value) (n:Nat),K.lookup a=some o/\o.cls = .type "tuple"/\o.data = .seq aR n/\aR.size<=sizeLine/\Vals xs aR.toList
def VG (K:W.Frag) (T:Addr) (gB:List V):Prop:=∃ o n items,K.lookup T=some o/\o.data = .seq items n/\Vals gB items.toList
structure gx (K:W.Frag) (x qual:Str) (st:Stmt) (dV:Value) (f:Addr) (fd:FuncData):Prop where
 ex:∃ (oc:Value) (od:Option Addr) (kV doc pm:Value) (an:Option Addr) (aP ct:Value) (nV:Array (Option Value)),
   fd=W.fnOf x qual (aY st) (aI st) (ai st) dV kV doc pm an aP ct/\K.lookup f=some ⟨oc,od,.func fd,nV⟩/\W.codeIn K aP qual=true
 kp:W.keepIn K (.ref f)=true
theorem aC {K:W.Frag} {x:Str} {st:Stmt} {f:Addr} {oc:Value} {od an:Option Addr} {nV:Array (Option Value)} {dV kV doc pm aP ct:Value} (l:K.lookup f=some ⟨oc,od,.func (W.fnOf x qual (aY st) (aI st) (ai st) dV kV doc pm an aP ct),nV⟩) (c:W.codeIn K aP qual=true) (k:W.keepIn K (.ref f)=true):gx K x qual st dV f (W.fnOf x qual (aY st) (aI st) (ai st) dV kV doc pm an aP ct):=⟨⟨oc,od,kV,doc,pm,an,aP,ct,nV,rfl,l,c⟩,k⟩
section
variable {P:Program} {w:World} {K:W.Frag} {mg:Str->Option Value} {base:Heap} {x qual m:Str} {st:Stmt} {dV:Value} {f C:Addr} {fd:FuncData} {N ps:List Str} {k:Nat} {sp:Sp} {ds:List Value}
theorem gx.ok (F:gx K x qual st dV f fd) (S:au N ps (ai st)) (len:∀ vs H Q E,sp vs H Q E->vs.length=ps.length) (cJ:∀ (aP:Value) (A:Around) (outer:List Env) (s:Shared) (H:Hp) (vs:List V) (Q:VK) (E:XK),bL k (A.deeper (envOfC qual (ai st) s.heap.objs.size f aP))->sp vs H Q E ->
     ∃ t,mP (eZ l6 P w K mg base N qual (ai st) f aP A outer s H E).Ai (aI st) t/\t { nx:=λ _ H'=>Q .dC H',rt:=Q } (start N vs) H):dn P w K mg base l6 (k+1) f fd ps sp:=by
 obtain ⟨oc,od,kV,doc,pm,an,aP,ct,nV,rfl,lk,iI⟩:=F.ex
 refine yj lk iI S len λ A outer s H vs Q E hr xW=>?_
 obtain ⟨t,h,q⟩:=cJ aP A outer s H vs Q E hr xW
 exact ⟨t,h.Ai,q⟩
theorem gx.binds {T:Addr} {o:Obj} {n:Nat} {items:Array Value} (F:gx K x qual st (.ref T) f fd) (hT:K.lookup T=some o) (ho:o.data = .seq items n) (h:∀ (kV doc pm:Value) (an:Option Addr) (aP ct:Value) (us:List Value),(us++ds).length=ps.length->∃ k,bindArgs (W.fnOf x qual (aY st) (aI st) (ai st) (.ref T) kV doc pm an aP ct) ⟨us,[]⟩=seqItems? (.ref T) >>= k/\k (some items)=pure (ps.zip (us++ds))):Binds K fd ps ds:=by
 obtain ⟨oc,od,kV,doc,pm,an,aP,ct,nV,rfl,lk,iI⟩:=F.ex
 intro s us X hl
 obtain ⟨k,h1,h2⟩:=h kV doc pm an aP ct us hl
 exact W.binds_K X rfl hT ho h1 h2
theorem gx.n8 (F:gx K x qual st .none f fd) (h:∀ (kV doc pm:Value) (an:Option Addr) (aP ct:Value) (us:List Value),us.length=ps.length->bindArgs (W.fnOf x qual (aY st) (aI st) (ai st) .none kV doc pm an aP ct) ⟨us,[]⟩=pure (ps.zip us)):Binds K fd ps []:=by
 obtain ⟨oc,od,kV,doc,pm,an,aP,ct,nV,rfl,lk,iI⟩:=F.ex
 exact .all (h kV doc pm an aP ct)
def bi (K:W.Frag) (C:Addr) (m qual:Str) (st:Stmt) (dV:Value):Prop:=∃ f fd,Meth K C m f/\gx K m qual st dV f fd
def bD (P:Program) (w:World) (K:W.Frag) (mg:Str->Option Value) (base:Heap) (C:Addr) (m:Str) (k:Nat) (ps:List Str) (ds:List Value) (sp:Sp):Prop :=
 ∃ f fd,Meth K C m f/\Binds K fd ps ds/\dn P w K mg base l6 k f fd ps sp
theorem bi.abq (h:bi K C m qual st .none) (S:au N ps (ai st)) (len:∀ vs H Q E,sp vs H Q E->vs.length=ps.length) (hb:∀ (kV doc pm:Value) (an:Option Addr) (aP ct:Value) (us:List Value),us.length=ps.length->bindArgs (W.fnOf m qual (aY st) (aI st) (ai st) .none kV doc pm an aP ct) ⟨us,[]⟩=pure (ps.zip us)) (cJ:∀ (f:Addr) (aP:Value) (A:Around) (outer:List Env) (s:Shared) (H:Hp) (vs:List V) (Q:VK) (E:XK),bL k (A.deeper (envOfC qual (ai st) s.heap.objs.size f aP))->sp vs H Q E ->
     ∃ t,mP (eZ l6 P w K mg base N qual (ai st) f aP A outer s H E).Ai (aI st) t/\t { nx:=λ _ H'=>Q .dC H',rt:=Q } (start N vs) H):bD P w K mg base C m (k+1) ps [] sp:=by
 obtain ⟨f,fd,M,F⟩:=h
 exact ⟨f,fd,M,F.n8 hb,F.ok S len λ aP A outer s H vs Q E hr hs=>cJ f aP A outer s H vs Q E hr hs⟩
structure j3 (K:W.Frag) (C:Addr):Prop where
 makes:W.makesIn K C=true
 kp:W.keepIn K (.ref C)=true
end
section
variable {X:Cx} {C:Addr} {m x:Str} {p pos apos:Pos} {e o:Expr} {es:List Expr} {ta:TE} {t:TA} {k:Nat} {ps:List Str} {sp:Sp} {ds:List Value} {gB:List V}
theorem cp (M:j3 X.K C) (D:bD X.prog X.w X.K X.mg X.base C "__init__" k ps ds sp) (hd:Vals gB ds) (hr:bL (k+1) X.A) (hm:X.mg x=some (.ref C)) (ha:PA X (e::es) t) (hg:Gl X x:=by rfl) (jM:(x == ("__debug__" : Str))=false:=by decide) (he:starEach (e::es) X.env=(false,eval e X.env)::starEach es X.env:=by rfl) (fD:(backTo pos (starEach es X.env)).any (·.1)=false:=by rfl):PE X (.Call (.Name x p) (e::es) [] pos) (uF C sp gB E0 t):=by
 obtain ⟨f,fd,me,hb,F⟩:=D
 exact yz ⟨M.makes,me.at_,me.fn,M.kp⟩ F hr hg hm hb hd xK ha jM he fD
end
section
variable {X:Cx} {pins:List (Addr×Obj)} {σ:St} {H:Hp} {s:Shared} {h':Heap} {ch:List Addr}
theorem Inv.xB {a:Addr} {o:HO} {t':Nat} (I:Inv X pins σ H s) (k:∀ b u,b∉ch->s.heap.get? b=some u->h'.get? b=some u) (hf:∀ b∈ch,qz X pins H b) (hp:s.heap.objs.size<=a) (new:bJ X.prog X.w (upd H a o) h' a o):Inv X pins σ (upd H a o) { s with heap:=h',toks:=t' }:=by
 have hn:H a=none:=I.bo.fresh hp
 refine I.step (g':=s.gens) (d':=s.drawn) (ch:=ch) (λ b hb=>⟨(hf b hb).2.2.2.1,(hf b hb).2.1,(hf b hb).2.2.2.2.1,(hf b hb).2.2.2.2.2⟩) (λ b u _ _ hc q _=>k b u hc q) (λ b u _ _ hc q _=>⟨u.slots,k b u hc q⟩)
   (λ b u _ q n=>by rw [aq (acl (aav (aaK q) hp))];exact n) (λ b u hc q=>⟨u,k b u hc q⟩) (λ b xs q=>by rw [aq (aB q hn)];exact q) (λ b u xs q=>by rw [aq (aB q hn)];exact q)
   (λ b ps q=>⟨#[],by rw [aq (aB q hn),q];simp⟩) (λ m hm=>?_) (λ b u q=>?_) I.bare
 . obtain ⟨ob,es,ep,ho,r⟩:=hm
   exact ⟨ob,es,ep,k _ ob (λ z=>(hf _ z).2.1 rfl) ho,r⟩
 .
  by_cases hb:b=a
  . subst hb
    rw [ac] at q
    cases q
    exact new
  .
   rw [aq hb] at q
   refine (I.bo b u q).iK (λ c v hc z=>k c v (λ y=>?_) z) (λ c z=>by rw [aq (aB z hn)];exact z) λ c xs z=>by rw [aq (aB z hn)];exact z
   have n:=(hf c y).1
   rcases hc with rfl|hc
   . rw [n] at q;cases q
   . rw [n] at hc;cases hc
theorem Inv.xL {t':Nat} (I:Inv X pins σ H s) (k:∀ b u,b∉ch->s.heap.get? b=some u->h'.get? b=some u) (hf:∀ b∈ch,qz X pins H b):Inv X pins σ H { s with heap:=h',toks:=t' }:=by
 refine I.step (g':=s.gens) (d':=s.drawn) (ch:=ch) (λ b hb=>⟨(hf b hb).2.2.2.1,(hf b hb).2.1,(hf b hb).2.2.2.2.1,(hf b hb).2.2.2.2.2⟩) (λ b u _ _ hc q _=>k b u hc q) (λ b u _ _ hc q _=>⟨u.slots,k b u hc q⟩)
   (λ _ _ _ _ n=>n) (λ b u hc q=>⟨u,k b u hc q⟩) (λ _ _ q=>q) (λ _ _ _ q=>q) (λ b ps q=>⟨#[],by rw [q];simp⟩) (λ m hm=>?_) (λ b u q=>?_) I.bare
 . obtain ⟨ob,es,ep,ho,r⟩:=hm
   exact ⟨ob,es,ep,k _ ob (λ z=>(hf _ z).2.1 rfl) ho,r⟩
 .
  refine (I.bo b u q).iK (λ c v hc z=>k c v (λ y=>?_) z) (λ _ z=>z) λ _ _ z=>z
  have n:=(hf c y).1
  rcases hc with rfl|hc
  . rw [n] at q;cases q
  . rw [n] at hc;cases hc
end
def TJ (K:W.Frag) (a b:Addr):It :=
 ⟨λ i H=>∃ xs ys x y,bh K H a xs/\bh K H b ys/\xs[i]?=some x/\ys[i]?=some y,
  λ i H v H'=>∃ p x y,H p=none/\v = .ref p/\H'=upd H p (.tup [x,y])/\(∀ xs,bh K H a xs->xs[i]?=some x)/\∀ ys,bh K H b ys->ys[i]?=some y,
  λ i H=>∃ xs ys,bh K H a xs/\bh K H b ys/\(xs.length<=i∨ys.length<=i)⟩
def DL (z TI TO i1 i2 a b:Addr) (i:Nat) (h:Heap):Prop:=IsZip h z TI TO .none/\IsPair h TI (.ref i1) (.ref i2)/\(∃ u v,IsPair h TO u v)/\h.IsListIter i1 a i/\h.IsListIter i2 b i
theorem DL.obj {z TI TO a b:Addr} {i:Nat} {h:Heap} (st:DL z TI TO i1 i2 a b i h):∀ c∈[z,TI,TO,i1,i2],∃ o,h.get? c=some o/\∀ v,o.data ≠ .cell v:=λ c hc=>by
 obtain ⟨hz,GH,⟨u,v,IP⟩,⟨o1,e1,_,d1⟩,⟨o2,e2,_,d2⟩⟩:=st
 simp only [ae1,acn,ajE] at hc
 rcases hc with rfl|rfl|rfl|rfl|rfl
 . exact ⟨_,hz,λ v q=>by cases q⟩
 . exact ⟨_,GH,λ v q=>by cases q⟩
 . exact ⟨_,IP,λ v q=>by cases q⟩
 . exact ⟨o1,e1,λ v q=>by rw [d1] at q;cases q⟩
 . exact ⟨o2,e2,λ v q=>by rw [d2] at q;cases q⟩
theorem CI {P:Program} {w:World} {K:W.Frag} {z TI TO a b:Addr} (D:ZipApart z TI TO i1 i2 a b) :
   Turn P w K (.Tuple elts x1 uO) (TJ K a b) [z,TI,TO,i1,i2] z (DL z TI TO i1 i2 a b) where
 mem:=by simp
 obj:=λ i h st=>st.obj
 keep:=λ i h h' st k=>by
   obtain ⟨hz,GH,⟨u,v,IP⟩,h1,h2⟩:=st
   exact ⟨k z (by simp) _ hz,k TI (by simp) _ GH,⟨u,v,k TO (by simp) _ IP⟩,h1.at λ o e=>k i1 (by simp) o e,h2.at λ o e=>k i2 (by simp) o e⟩
 item:=by
   intro X hP hw hK hc i pins s σ H E I hf st hg
   subst hP hw hK
   obtain ⟨xs,ys,x,y,Hd,G6,hx,hy⟩:=hg
   obtain ⟨IR,V4,p1,Zs⟩:=I.list Hd
   obtain ⟨Ja,Wb,p2,hz2⟩:=I.list G6
   obtain ⟨u1,hu1,ru1⟩:=V4.get hx
   obtain ⟨u2,hu2,ru2⟩:=Wb.get hy
   have lt:∀ c∈[z,TI,TO,i1,i2],c<s.heap.objs.size:=λ c vW=>by
     obtain ⟨o,e,_⟩:=st.obj c vW
     exact aaK e
   obtain ⟨hz,GH,⟨u,v,IP⟩,h1,h2⟩:=st
   refine wpAny_pyNext_zip_item D hz GH IP h1 h2 p1.isList p2.isList (x:=u1) (y:=u2) (by simpa using hu1) (by simpa using hu2) λ h' z1 z2 z3 z4 z5 z6 kk=>?_
   refine ⟨.ref s.heap.objs.size,rfl,wpAny_letOwnedTupleGo_zip (s:={ s with heap:=h' }) z1 λ h2' zz sb=>?_⟩
   have IQ:∀ c o,c∉[z,TI,TO,i1,i2]->s.heap.get? c=some o->h2'.get? c=some o:=λ c o hn e=>by
     simp only [ae1,acn,ajE,not_or] at hn
     exact sb.extBut _ _ hn.1 (kk c o hn.1 hn.2.2.1 hn.2.2.2.1 hn.2.2.2.2 e)
   have nz:s.heap.objs.size≠z:=am9 (lt z (by simp))
   have n5:IsPair h2' s.heap.objs.size u1 u2:=sb.extBut _ _ nz z5
   refine ⟨.ref s.heap.objs.size,upd H s.heap.objs.size (.tup [x,y]),I.xB (t':=s.toks) IQ hf (aau _) ⟨by show 2<=sizeLine;decide,[u1,u2],.cons ru1 (.cons ru2 .nil),⟨_,n5,rfl,_,rfl⟩⟩,rfl,
     ⟨_,x,y,I.bo.fresh (aau _),rfl,rfl,λ xs' h=>by rw [I.pM h Hd];exact hx,λ ys' h=>by rw [I.pM h G6];exact hy⟩,?_,λ c vW=>?_⟩
   . exact ⟨zz,sb.extBut _ _ D.TIz (kk _ _ D.TIz D.TITO D.TIi1 D.TIi2 GH),⟨_,_,sb.extBut _ _ D.TOz z2⟩,z3.extBut sb.extBut D.i1z,z4.extBut sb.extBut D.i2z⟩
   . rw [aq (acl (lt c vW))]
     exact (hf c vW).1
 done:=by
   intro X hP hw hK hc i pins s σ H E I hf st hg
   subst hP hw hK
   obtain ⟨xs,ys,Hd,G6,hl⟩:=hg
   obtain ⟨IR,V4,p1,Zs⟩:=I.list Hd
   obtain ⟨Ja,Wb,p2,hz2⟩:=I.list G6
   have l1:=V4.length
   have l2:=Wb.length
   obtain ⟨hz,GH,⟨u,v,IP⟩,h1,h2⟩:=st
   have act:IR.toArray[i]?=none∨Ja.toArray[i]?=none:=by
     rcases hl with h|h
     . exact .inl (by simp;lia)
     . exact .inr (by simp;lia)
   refine wpAny_pyNext_zip_end (I.ok.hd hc) D hz GH IP h1 h2 p1.isList p2.isList act λ h' kk=>⟨rfl,I.xL (ch:=[z,TI,TO,i1,i2]) (t':=s.toks) (λ c o hn e=>?_) hf⟩
   simp only [ae1,acn,ajE,not_or] at hn
   exact kk c o hn.1 hn.2.2.1 hn.2.2.2.1 hn.2.2.2.2 e
 self:=λ _ _ _ _ _ st h=>wpAny_pyIter_zip st.1 h
theorem JB:bootBuiltins "zip" = some (.type "zip"):=by decide +kernel
section
variable {X:Cx}
def adT (K:W.Frag) (ta:TA):TI:=λ σ H R=>ta σ H λ vs H1=>∃ a b,vs=[.ref a,.ref b]/\(∃ xs,bh K H1 a xs)/\(∃ ys,bh K H1 b ys)/\R (TJ K a b) H1
theorem Bt {a b:Expr} {ta:TA} {p:Pos} (hg:Gl X "zip") (hm:X.mg "zip" = none) (ha:PA X [a,b] ta) (hs:starEach [a,b] X.env=[(false,eval a X.env),(false,eval b X.env)]:=by rfl) (Uo:starEach [b] X.env=[(false,eval b X.env)]:=by rfl):PI X (.Tuple elts x1 uO) (.Call (.Name "zip" p) [a,b] [] pos) (adT X.K ta):=by
 intro pins s σ H R I h
 refine Call_ (lH I hg hm JB (akg (cz (ha pos pins s σ H _ I h) λ us s1 ⟨vs,H1,I1,r1,q1⟩=>?_) (by rw [hs,Uo]) (by rw [Uo];rfl)))
 obtain ⟨a,b,e,⟨xs,Hd⟩,⟨ys,G6⟩,q⟩:=q1
 subst e
 obtain ⟨u,v,rfl,r,r'⟩:=vals2 r1
 obtain rfl:u=Value.ref a:=r
 obtain rfl:v=Value.ref b:=r'
 obtain ⟨IR,V4,p1,Zs⟩:=I1.list Hd
 obtain ⟨Ja,Wb,p2,hz2⟩:=I1.list G6
 refine call_zip_2 p1.isList p2.isList λ h' z1 z2 z3 z4 z5 z6 kk=>?_
 have la:a<s1.heap.objs.size:=by obtain ⟨_,e,_⟩:=p1.isList;exact aaK e
 have lb:b<s1.heap.objs.size:=by obtain ⟨_,e,_⟩:=p2.isList;exact aaK e
 refine wpAny_pyIter_zip z1 ?_
 refine ⟨s1.heap.objs.size+4,[s1.heap.objs.size+4,s1.heap.objs.size+2,s1.heap.objs.size+3,s1.heap.objs.size,s1.heap.objs.size+1],_,_,H1,rfl,I1.kept (t':=s1.toks) kk,CI (zipApart_new la lb),⟨z1,z2,⟨_,_,z3⟩,z4,z5⟩,λ c hc=>?_,q⟩
 have hle:s1.heap.objs.size<=c:=by
   simp only [ae1,acn,ajE] at hc
   rcases hc with rfl|rfl|rfl|rfl|rfl
   . exact ajQ _ _
   . exact ajQ _ _
   . exact ajQ _ _
   . exact aau _
   . exact ajQ _ _
 exact I1.ux hle (I1.bo.fresh hle)
end
mutual
def Dn (K:W.Frag) (H:Hp):PyData->V->Prop
 | .none,v=>v = .dC
 | .bool b,v=>v = .bl b
 | .int i,v=>v = .int i
 | .str x,v=>v = .str x
 | .list ds,v=>∃ a xs,v = .ref a/\bh K H a xs/\nu K H ds xs
 | .tuple ds,v=>∃ a xs,v = .ref a/\bQ K H a xs/\nu K H ds xs
 | .dict _,_=>False
def nu (K:W.Frag) (H:Hp):List PyData->List V->Prop
 | [],xs=>xs=[]
 | d::ds,xs=>∃ x r,xs=x::r/\Dn K H d x/\nu K H ds r
end
def iP:PyData->Bool
 | .list _=>false
 | .dict _=>false
 | .tuple ds=>ds.attach.all λ ⟨d,_⟩=>iP d
 | _=>true
theorem mD {ds:List PyData}:iP (.tuple ds)=true↔∀ d∈ds,iP d=true:=by
 rw [iP,List.all_eq_true]
 constructor
 . intro h d hd
   exact h ⟨d,hd⟩ (List.mem_attach ..)
 . intro h x _
   exact h x.1 x.2
def gc (K:W.Frag) (H H':Hp):Prop:=∀ a xs,bQ K H a xs->bQ K H' a xs
theorem gc.refl {K:W.Frag} (H:Hp):gc K H H:=λ _ _ h=>h
theorem gc.trans {K:W.Frag} {H1 H2:Hp} (a:gc K H H1) (b:gc K H1 H2):gc K H H2:=λ c xs h=>b c xs (a c xs h)
theorem av.ts {K:W.Frag} (s:av H H'):gc K H H':=λ _ _ h=>s.tup h
def HQ:HO->Bool
 | .tup _=>false
 | .nK _ _=>false
 | _=>true
theorem Dl {K:W.Frag} {a:Addr} {o o':HO} (h:H a=some o) (n:HQ o=true):gc K H (upd H a o'):=λ b xs q=>by
 have ne:∀ u,H b=some u->HQ u=false->b≠a:=λ u e z y=>by
   subst y
   rw [h] at e
   cases e
   rw [n] at z
   cases z
 rcases q with (q|⟨ob,q⟩)|q
 . exact .inl (.inl (by rw [aq (ne _ q rfl)];exact q))
 . exact .inl (.inr ⟨ob,by rw [aq (ne _ q rfl)];exact q⟩)
 . exact .inr q
section
variable {K:W.Frag} {H H':Hp}
mutual
theorem Dn.same (s:av H H'):∀ (d:PyData) {v:V},Dn K H d v->Dn K H' d v
 | .none,_,h=>by rw [Dn] at h ⊢;exact h
 | .bool _,_,h=>by rw [Dn] at h ⊢;exact h
 | .int _,_,h=>by rw [Dn] at h ⊢;exact h
 | .str _,_,h=>by rw [Dn] at h ⊢;exact h
 | .list ds,_,h=>by
   rw [Dn] at h ⊢
   obtain ⟨a,xs,e,q,r⟩:=h
   exact ⟨a,xs,e,s.seq q,nu.same s ds r⟩
 | .tuple ds,_,h=>by
   rw [Dn] at h ⊢
   obtain ⟨a,xs,e,q,r⟩:=h
   exact ⟨a,xs,e,s.tup q,nu.same s ds r⟩
 | .dict _,_,h=>by rw [Dn] at h;exact h.elim
theorem nu.same (s:av H H'):∀ (ds:List PyData) {xs:List V},nu K H ds xs->nu K H' ds xs
 | [],_,h=>by rw [nu] at h ⊢;exact h
 | d::ds,_,h=>by
   rw [nu] at h ⊢
   obtain ⟨x,r,e,q,t⟩:=h
   exact ⟨x,r,e,Dn.same s d q,nu.same s ds t⟩
end
mutual
theorem Dn.ts (s:gc K H H'):∀ (d:PyData) {v:V},iP d=true->Dn K H d v->Dn K H' d v
 | .none,_,_,h=>by rw [Dn] at h ⊢;exact h
 | .bool _,_,_,h=>by rw [Dn] at h ⊢;exact h
 | .int _,_,_,h=>by rw [Dn] at h ⊢;exact h
 | .str _,_,_,h=>by rw [Dn] at h ⊢;exact h
 | .list ds,_,f,_=>by rw [iP] at f;cases f
 | .tuple ds,_,f,h=>by
   rw [Dn] at h ⊢
   obtain ⟨a,xs,e,q,r⟩:=h
   exact ⟨a,xs,e,s _ _ q,nu.ts s ds (mD.mp f) r⟩
 | .dict _,_,_,h=>by rw [Dn] at h;exact h.elim
theorem nu.ts (s:gc K H H'):∀ (ds:List PyData) {xs:List V},(∀ d∈ds,iP d=true)->nu K H ds xs->nu K H' ds xs
 | [],_,_,h=>by rw [nu] at h ⊢;exact h
 | d::ds,_,f,h=>by
   rw [nu] at h ⊢
   obtain ⟨x,r,e,q,t⟩:=h
   exact ⟨x,r,e,Dn.ts s d (f d adu) q,nu.ts s ds (λ d hd=>f d (aaN _ hd)) t⟩
end
theorem sU:nu K H [] []:=rfl
theorem eI {d:PyData} {ds:List PyData} {x:V} (a:Dn K H d x) (b:nu K H ds xs):nu K H (d::ds) (x::xs):=⟨x,xs,rfl,a,b⟩
theorem sC {a:Addr} {ds:List PyData} (h:bQ K H a xs) (r:nu K H ds xs):Dn K H (.tuple ds) (.ref a):=⟨a,xs,rfl,h,r⟩
theorem sN {a:Addr} {ds:List PyData} (h:bh K H a xs) (r:nu K H ds xs):Dn K H (.list ds) (.ref a):=⟨a,xs,rfl,h,r⟩
end
section
variable {X:Cx} {pins:List (Addr×Obj)} {σ:St} {H:Hp} {s:Shared}
mutual
theorem Inv.reads (I:Inv X pins σ H s):∀ (d:PyData) {v:V} {u:Value},Dn X.K H d v->RelV v u->∃ as,Reads s.heap u d as
 | .none,_,_,h,r=>by
   have h:_=V.dC:=h
   subst h
   obtain rfl:=(show _=Value.none from r)
   exact ⟨_,.none⟩
 | .bool b,_,_,h,r=>by
   have h:_=V.bl b:=h
   subst h
   obtain rfl:=(show _=Value.bool b from r)
   exact ⟨_,.bool b⟩
 | .int i,_,_,h,r=>by
   have h:_=V.int i:=h
   subst h
   obtain ⟨t,rfl⟩:=r
   exact ⟨_,.int i t⟩
 | .str x,_,_,h,r=>by
   have h:_=V.str x:=h
   subst h
   obtain ⟨t,rfl⟩:=r
   exact ⟨_,.str x t⟩
 | .list ds,_,_,h,r=>by
   obtain ⟨a,xs,rfl,q,t⟩:=h
   obtain rfl:=(show _=Value.ref a from r)
   obtain ⟨aR,rv,p,_⟩:=I.list q
   obtain ⟨o,ho,hc,n,hd⟩:=p.isList
   obtain ⟨as,ra⟩:=Inv.readsAll I ds t rv
   exact ⟨_,.list ho hc hd (by simpa using ra)⟩
 | .tuple ds,_,_,h,r=>by
   obtain ⟨a,xs,rfl,q,t⟩:=h
   obtain rfl:=(show _=Value.ref a from r)
   obtain ⟨aR,rv,p,_⟩:=I.tuple q
   obtain ⟨o,ho,hc,n,hd⟩:=p
   obtain ⟨as,ra⟩:=Inv.readsAll I ds t rv
   exact ⟨_,.tuple ho hc hd (by simpa using ra)⟩
 | .dict _,_,_,h,_=>(show False from h).elim
theorem Inv.readsAll (I:Inv X pins σ H s):∀ (ds:List PyData) {xs:List V} {us:List Value},nu X.K H ds xs->Vals xs us->∃ as,ReadsAll s.heap us ds as
 | [],_,_,h,r=>by
   have h:_=[]:=h
   subst h
   obtain rfl:=Vals.zero r
   exact ⟨_,.nil⟩
 | d::ds,_,_,h,r=>by
   obtain ⟨x,t,rfl,q,qt⟩:=h
   cases r with
   | cons r1 r2 =>
     obtain ⟨as,ra⟩:=Inv.reads I d q r1
     obtain ⟨bs,rb⟩:=Inv.readsAll I ds qt r2
     exact ⟨_,.cons ra rb⟩
end
inductive ab6 (K:W.Frag) (x:V) (y:V) (H:Hp) (Q:VK):Prop
 | mk (d e:_) (_:Dn K H d x) (_:Dn K H e y) (_:SeqAt.shaped d=true) (_:SeqAt.shaped e=true) (_:Q (.bl (!PyData.eqv d e)) H)
theorem Df (hu:X.A.units+64<cLine):iU X (compareOp .NotEq) (ab6 X.K):=by
 intro pins s σ H x y v u Q I rx ry h
 obtain ⟨d,e,h1,h2,s1,s2,q⟩:=h
 obtain ⟨as,r1⟩:=I.reads d h1 rx
 obtain ⟨bs,r2⟩:=I.reads e h2 ry
 exact ne_dataH r1 r2 s1 s2 hu ⟨.bl _,H,I,rfl,q⟩
end
section
variable {P:Program} {w:World} {K:W.Frag} {mg:Str->Option Value} {base:Heap} {x qual m:Str} {st:Stmt} {dV:Value} {f C:Addr} {fd:FuncData} {N ps:List Str} {k:Nat} {sp:Sp} {ds:List Value} {gB:List V}
def CB (P:Program) (w:World) (K:W.Frag) (mg:Str->Option Value) (base:Heap) (C:Addr) (m:Str) (k:Nat) (ps:List Str) (gB:List V) (sp:Sp):Prop :=
 ∃ ds,Vals gB ds/\bD P w K mg base C m k ps ds sp
end
section
variable {X:Cx} {C:Addr} {m x:Str} {p pos apos:Pos} {e o:Expr} {es:List Expr} {ta:TE} {t:TA} {k:Nat} {ps:List Str} {sp:Sp} {gB:List V}
theorem pZ (M:j3 X.K C) (D:CB X.prog X.w X.K X.mg X.base C "__init__" k ps gB sp) (hr:bL (k+1) X.A) (hm:X.mg x=some (.ref C)) (ha:PA X (e::es) t) (hg:Gl X x:=by rfl) (jM:(x == ("__debug__" : Str))=false:=by decide) (he:starEach (e::es) X.env=(false,eval e X.env)::starEach es X.env:=by rfl) (fD:(backTo pos (starEach es X.env)).any (·.1)=false:=by rfl):PE X (.Call (.Name x p) (e::es) [] pos) (uF C sp gB E0 t):=by
 obtain ⟨ds,hd,D⟩:=D
 exact cp M D hd hr hm ha hg jM he fD
end
theorem bW {K:W.Frag} {es:List Expr} {k:Nat} {t:Iy} {n:Nat} (hK:X.K=K) (hc:X.calm=true) (h:Kk X es t) (hn:(assignEach es X.env).length=n:=by rfl) (i5:(assignEach es X.env).findIdx? (·.1)=none:=by rfl):PG X (.Tuple es k pos) (Li K n t):=by
 subst hK
 exact IA hc h hn i5
end L2
namespace PySem
open Sem (wp)
theorem jb:∀ (l:List DictEntry) (c:Int),(l.map (·.hash)).Nodup->(l.filter (·.hash == c)).length<=1
 | [],_,_=>afL _
 | e::l,c,h=>by
   rw [afS,List.nodup_cons] at h
   rw [List.filter_cons]
   split
   .
    rename_i q
    have q:e.hash=c:=by simpa using q
    have:l.filter (·.hash == c)=[]:=by
      rw [List.filter_eq_nil_iff]
      intro x hx z
      exact h.1 (List.mem_map.mpr ⟨x,hx,by rw [q];simpa using z⟩)
    rw [this]
    exact aau _
   . exact jb l c h.2
end PySem
namespace L2
open PySem PySem.Spec PyProof.Rows Mth
variable {elt iter tg:Expr} {g:TG} {ifs:List Expr} {pos py Fb:Pos} {te:TE} {yi:Nat}
theorem yE:bootBuiltins "dict" = some (.type "dict"):=by decide +kernel
section
variable {X:Cx}
theorem ER {y:Str} {scope:Scope} {wi:TI} {tt:TT} {N':List Str} {nt:Nat} {sl:List Nat} (hc:X.calm=true) (hi:PI X tg iter wi) (hg:∀ cl C s H ex,PG (bM X N' scope cl C s H ex) tg g) (ht:∀ cl C s H ex,Hh (bM X N' scope cl C s H ex) ifs tt) (he:∀ cl C s H ex,PE (bM X N' scope cl C s H ex) elt te) (NJ:N'.length=nt+sl.length) (IS:∀ k j:Nat,sl[k]?=some j->∃ x,N'[nt+k]?=some x/\X.N[j]?=some x/\scope.names.lookup x=some .free) (hk:scope.kind = .function) (cw:∀ y∈scope.names,y.2 ≠ .cell) (iw:∀ y∈scope.names,y.2 = .local->scope.names.lookup y.1=some .local) (hR:∀ y∈scope.names,y.2 = .free->X.env.kindOf y.1=some .cell∨X.env.kindOf y.1=some .free) (hN:X.N.Nodup) (hyi:X.N[yi]?=some y) (hy:Loc X.env.scope y) (hf:X.fn y=true∨X.env.scope.names.lookup y=some .local) (XW:swapsWith (.ListComp elt [⟨tg,iter,ifs,0⟩] scope pos) (some (.Name y py)) Fb.line X.env=pure true) (hs:∀ x,foldedSetIterable iter X.env x=pure x:=by intro _;rfl) :
   PS X (.Assign [.Name y py] (.ListComp elt [⟨tg,iter,ifs,0⟩] scope pos) Fb) (Fx (uD wi g tt te nt sl) (xO yi)):=by
 intro pins s σ H DD I h
 rw [exec_Assign_Name_used _ _ _ _ XW]
 refine wF (wpAny_standAt (wF ?_))
 show wpAny _ X.A (do let _ ← comprehension (.ListComp elt [⟨tg,iter,ifs,0⟩] scope pos) scope X.env _ (newList []) false (eval iter X.env) (some (assign (.Name y py) X.env))) _ _ s
 refine wF (adA (sk (use:=some (assign (.Name y py) X.env)) (Qp:=λ _ s'=>SP X pins DD .next s') hc hi hg ht he NJ IS hk cw iw hR hs I h λ s6 H5 d c m J F hn q=>?_)
   (λ _ s' hq=>aaJ (aaJ hq)) λ _ _ e=>e)
 refine wpAny_assign_Name (rY (v:=.ref d) J hN hyi hy rfl (λ s7 I7 ⟨a,sb7,ha⟩=>?_) hf)
 have na:c≠a:=λ z=>by
   rcases ha with q|q
   . exact F.2.1 (z.trans q)
   . exact F.2.2.2.2.1 _ a q z.symm
 refine ⟨m,?_,λ h' sb=>?_⟩
 . obtain ⟨o,es,ep,ho,r⟩:=hn
   exact ⟨o,es,ep,(sb7.2 _ na).trans ho,r⟩
 . exact ⟨_,H5,I7.turned (t':=s7.toks) (λ b _ hb q=>(sb.2 b hb).trans q) F.1 F.2.1 F.2.2.2.1 F.2.2.2.2.1 F.2.2.2.2.2,q⟩
theorem N1 {y:Str} {scope:Scope} {wi:TI} {tt:TT} (tn fr:List Str) (sl:List Nat) (hp:Paired (λ (j:Nat) (x:Str)=>X.N[j]?=some x/\scope.names.lookup x=some .free/\(X.env.kindOf x=some .cell∨X.env.kindOf x=some .free)) sl fr) (hc:X.calm=true) (hi:PI X tg iter wi) (hg:∀ cl C s H ex,PG (bM X (tn++fr) scope cl C s H ex) tg g) (ht:∀ cl C s H ex,Hh (bM X (tn++fr) scope cl C s H ex) ifs tt) (he:∀ cl C s H ex,PE (bM X (tn++fr) scope cl C s H ex) elt te) (hk:scope.kind = .function) (cw:∀ y∈scope.names,y.2 ≠ .cell) (iw:∀ y∈scope.names,y.2 = .local->scope.names.lookup y.1=some .local) (hR:∀ y∈scope.names,y.2 = .free->y.1∈fr) (hN:X.N.Nodup) (hyi:X.N[yi]?=some y) (hy:Loc X.env.scope y) (XW:swapsWith (.ListComp elt [⟨tg,iter,ifs,0⟩] scope pos) (some (.Name y py)) Fb.line X.env=pure true) (hf:X.fn y=true∨X.env.scope.names.lookup y=some .local:=by first|exact .inl rfl|exact .inr rfl|assumption) (hs:∀ x,foldedSetIterable iter X.env x=pure x:=by intro _;rfl) :
   PS X (.Assign [.Name y py] (.ListComp elt [⟨tg,iter,ifs,0⟩] scope pos) Fb) (Fx (uD wi g tt te tn.length sl) (xO yi)):=by
 have key:∀ {sl:List Nat} {fr:List Str},Paired (λ (j:Nat) (x:Str)=>X.N[j]?=some x/\scope.names.lookup x=some .free/\(X.env.kindOf x=some .cell∨X.env.kindOf x=some .free)) sl fr ->
     (∀ k j:Nat,sl[k]?=some j->∃ x,fr[k]?=some x/\X.N[j]?=some x/\scope.names.lookup x=some .free)/\∀ x∈fr,X.env.kindOf x=some .cell∨X.env.kindOf x=some .free:=by
   intro sl fr hp
   induction hp with
   | nil=>exact ⟨λ k j h=>by simp at h,λ x hx=>by simp at hx⟩
   | cons r t ih =>
     refine ⟨λ k j h=>?_,λ x hx=>?_⟩
     . cases k with
       | zero =>
         have e:_=j:=abb h
         subst e
         exact ⟨_,rfl,r.1,r.2.1⟩
       | succ k=>exact ih.1 k j (by simpa using h)
     . rcases List.mem_cons.mp hx with z|z
       . rw [z];exact r.2.2
       . exact ih.2 x z
 refine ER (N':=tn++fr) hc hi hg ht he (by rw [acC,hp.length]) (λ k j h=>?_) hk cw iw (λ y hy hf=>(key hp).2 _ (hR y hy hf)) hN hyi hy hf XW hs
 obtain ⟨x,e1,e2⟩:=(key hp).1 k j h
 exact ⟨x,by rw [aew (ajQ _ _),amZ];exact e1,e2⟩
end
abbrev qh:=Int×Int
structure bA where
 most:Int
 Wv:Int
 load:Int
 rows:List (List qh)
 ko:Int->Int->Option qh
 uw:List (qh×qh×qh)
 iy:List (Option (qh×Int×Int×Int))
end L2
namespace Mth
def nf (t b:Int):Int×Int:=(t.fdiv (Int.gcd t b:Nat),b.fdiv (Int.gcd t b:Nat))
def B9 (x y:Int×Int):Int×Int:=nf (x.1 * y.2 - y.1 * x.2) (x.2 * y.2)
end Mth
namespace L2
open PySem PySem.Spec PyProof.Rows Mth
variable {H:Hp}
def bA.ago (m:bA) (i j:Nat):qh:=(m.ko i j).getD (0,1)
def bA.ZB (m:bA) (i:Nat):qh:=((m.uw[i]?).map (·.1)).getD (0,1)
def bA.US (m:bA) (i n:Nat):qh:=(List.range n).foldl (λ acc j=>B9 acc (m.ago i j)) (B9 (1,1) (m.ZB i))
def bA.own (m:bA) (i:Nat):qh:=m.US i m.rows.length
theorem xJ {α:Type} {l:List α} {i:Nat} (h:i<l.length):l[i]?=some l[i]:=Wz h
theorem Ex {n i:Nat} (h:i<n):Gh n (i:Int)=some i:=by
 unfold Gh
 rw [aeA (by lia),aeA (by lia),alp]
theorem GI {x y z t:V}:[x,y,z,t].length<=sizeLine:=by show 4<=sizeLine;decide
theorem rD {x:V}:[x].length<=sizeLine:=by show 1<=sizeLine;decide
def bA.yw (m:bA) (i j:Nat) (f:qh):bA:={ m with ko:=λ a b=>if a=(i:Int)/\b=(j:Int) then some f else m.ko a b }
def bA.IB (m:bA) (i:Nat) (s:qh×qh×qh):bA:={ m with uw:=m.uw.set i s }
def bA.Dq (m:bA) (i:Nat) (s:qh×Int×Int×Int):bA:={ m with iy:=m.iy.set i (some s)}
def bA.Ec (m:bA) (r:List qh):bA:={ m with rows:=m.rows++[r],uw:=m.uw++[((0,1),(0,1),(0,1))],iy:=m.iy++[none]}
def bA.new (most Wv load:Int):bA:=⟨most,Wv,load,[],λ _ _=>none,[],[]⟩
theorem iz {a b:Addr} {o u:HO} (h:H a=some o) (k:H b=some u) (n:o≠u):a≠b:=λ e=>by
 subst e
 rw [h] at k
 exact n (abb k)
theorem av.put {H':Hp} {D:Addr} {o:HO} (s:av H H') (h:H D=none):av H (upd H' D o):=λ b u e=>by
 rw [aq (aB e h)]
 exact s b u e
structure sI (K:W.Frag) (C x dx:Addr) (H H':Hp) (fs:List (Str×V)):Prop where
 st:∀ b o,H b=some o->b≠x->H' b=some o
 ts:gc K H H'
 at_:H' x=some (.ins C dx fs)
section
variable {K:W.Frag} {C x dx:Addr} {H H':Hp} {fs fs':List (Str×V)}
theorem sI.start (h:H x=some (.ins C dx fs)):sI K C x dx H H fs:=⟨λ _ _ h _=>h,gc.refl _,h⟩
theorem sI.put (B:sI K C x dx H H' fs):sI K C x dx H (upd H' x (.ins C dx fs')) fs':=⟨λ b o h n=>by rw [aq n];exact B.st b o h n,B.ts.trans (Dl B.at_ rfl),ac⟩
end
theorem lt1000 {n:Nat} (h:Nat.ble (n+1) 1000=true):n<1000:=af8 h
def bA.with (m:bA) (x y z:Option Int):bA:={ m with most:=x.getD m.most,Wv:=y.getD m.Wv,load:=z.getD m.load }
structure HM where
 a:Int
 b:Int
 t:Int
 d:Int
structure HM.Ok (s:HM):Prop where
 a0:1<=s.a
 a1:s.a<=10 ^ 9
 b0:1<=s.b
 b1:s.b<=10 ^ 9
 t0 : -(10 ^ 9)<=s.t
 t1:s.t<=10 ^ 9
 d0:1<=s.d
 d1:s.d<=10 ^ 9
abbrev HM.vs (s:HM):List V:=[.int s.a,.int s.b,.int s.t,.int s.d]
def Lk (num parts:Int) (s:HM):Int:=num * s.a * s.d+parts * s.t * s.b
def Vy (parts:Int) (s:HM):Int:=parts * s.b * s.d
def CG (num parts:Int) (s:HM):qh:=nf (Lk num parts s) (Vy parts s)
structure StI (z:Int×Int×Int×Int):Prop where
 h:0<=z.1/\z.1<=25
 w:0<=z.2.1/\z.2.1<=9
 s:0<=z.2.2.1/\z.2.2.1<=3
 f:0<=z.2.2.2/\z.2.2.2<=3
structure cG where
 marks:List (List Int)
 WL:List (Int×Int×Int)
 iy:List (Option (Int×Int×Int×Int))
 ko:Nat->Nat->Option Int
 scale:HM
 bounds:Int×Int×Int
section
variable {K:W.Frag} {H H':Hp} {p pm ps pt pf psc pb:Addr} {vm vs vt:List V} {kvs:List (List Key×V)} {m:cG}
def cG.yw (m:cG) (i j:Nat) (k:Int):cG:={ m with ko:=λ a b=>if a=i/\b=j then some k else m.ko a b }
end
def E9 (l:List Int):Prop:=∀ i x y,l[i]?=some x->l[i+1]?=some y->x<y
structure Qc (n:Nat) (l:List Int):Prop where
 two:2<=l.length
 most:l.length<=if n<=2 then 7 else 5
 ris:E9 l
 bd:∀ x∈l,-200<=x/\x<=200
structure cG.Ok (n i:Nat) (m:cG):Prop where
 lm:m.marks.length=i
 ls:m.WL.length=i
 lt:m.iy.length=i
 rows:∀ l∈m.marks,Qc n l
 WL:∀ z∈m.WL,(0<=z.1/\z.1<=3)/\(-30<=z.2.1/\z.2.2<=60)/\z.2.1<=z.2.2/\z.2.2<=z.2.1+30
 iy:∀ z,some z∈m.iy->StI z
 ko:∀ a b,a<i->b<n->a≠b->∃ k,m.ko a b=some k/\0<=k/\k<=3
 scale:m.scale.Ok
 bounds:(0<=m.bounds.1/\m.bounds.1<=4)/\(0<=m.bounds.2.1/\m.bounds.2.1<=30)/\(0<=m.bounds.2.2/\m.bounds.2.2<=30)
end L2
namespace Mth
end Mth
namespace L2
open PySem PySem.Spec PyProof.Rows Mth
variable {C Tb:Addr} {H H':Hp} {X:Cx} {ep:Nat} {g:TG} {qual:Str} {tg:Expr} {xs:List V} {σ:St}
def cG.row (tm:cG) (l:List Int):List qh:=l.map λ x=>CG x 1 tm.scale
def cG.m1 (tm:cG) (k:Nat):bA:=((tm.marks.take k).map tm.row).foldl bA.Ec (bA.new tm.bounds.1 tm.bounds.2.1 tm.bounds.2.2)
def cG.Qe (tm:cG) (z:Int×Int×Int):qh×qh×qh:=(nf z.1 12,CG z.2.1 1 tm.scale,CG z.2.2 1 tm.scale)
def cG.Ew (tm:cG) (z:Int×Int×Int×Int):qh×Int×Int×Int:=(nf (z.1 * tm.scale.a) tm.scale.b,z.2.1,z.2.2.1,z.2.2.2)
def cG.Fu (tm:cG) (m:bA) (i:Nat):bA:=match tm.WL[i]? with|some z=>m.IB i (tm.Qe z)|none=>m
def cG.zk (tm:cG) (m:bA) (i:Nat):bA:=match tm.iy[i]? with|some (some z)=>m.Dq i (tm.Ew z)|_=>m
def cG.Di (tm:cG) (i:Nat) (m:bA) (j:Nat):bA:=if j=i then m else match tm.ko i j with|some k=>m.yw i j (nf k 12)|none=>m
def cG.Ef (tm:cG) (i:Nat) (m:bA) (j:Nat):bA:=(List.range j).foldl (tm.Di i) m
def cG.BG (tm:cG) (n:Nat) (m:bA) (i:Nat):bA:=tm.Ef i (tm.zk (tm.Fu m i) i) n
def cG.m2 (tm:cG) (n k:Nat):bA:=(List.range k).foldl (tm.BG n) (tm.m1 n)
def Js:Nat->PyData->Prop
 | _,.none=>True
 | _,.bool _=>True
 | _,.int _=>True
 | n+1,.list ds=>∀ d∈ds,Js n d
 | n+1,.tuple ds=>∀ d∈ds,Js n d
 | _,_=>False
theorem sB {n:Nat} (h:∀ d,Js n d->PyData.eqv d d=true/\d.canLay0=true/\d.depth<=n):∀ ds:List PyData,(∀ d∈ds,Js n d)->PyData.eqvAll ds ds=true/\PyData.canLayAll0 ds=true/\PyData.depthAll ds<=n
 | [],_=>by simp [PyData.eqvAll,PyData.canLayAll0,PyData.depthAll]
 | d::ds,k=>by
   obtain ⟨a,b,c⟩:=h d (k d adu)
   obtain ⟨a',b',c'⟩:=sB h ds (λ e he=>k e (aaN _ he))
   simp only [PyData.eqvAll,PyData.canLayAll0,PyData.depthAll,a,b,a',b',Bool.and_self,true_and]
   lia
theorem oX:∀ (n:Nat) (d:PyData),Js n d->PyData.eqv d d=true/\d.canLay0=true/\d.depth<=n
 | n,.none,_=>by simp [PyData.eqv,PyData.canLay0,PyData.depth]
 | n,.bool b,_=>by simp [PyData.eqv,PyData.canLay0,PyData.depth]
 | n,.int i,_=>by simp [PyData.eqv,PyData.canLay0,PyData.depth]
 | n+1,.list ds,h=>by
   obtain ⟨a,b,c⟩:=sB (oX n) ds h
   simp only [PyData.eqv,PyData.canLay0,PyData.depth,a,b,true_and]
   lia
 | n+1,.tuple ds,h=>by
   obtain ⟨a,b,c⟩:=sB (oX n) ds h
   simp only [PyData.eqv,PyData.canLay0,PyData.depth,a,b,true_and]
   lia
 | 0,.list _,h=>h.elim
 | 0,.tuple _,h=>h.elim
 | 0,.str _,h=>h.elim
 | _+1,.str _,h=>h.elim
 | 0,.dict _,h=>h.elim
 | _+1,.dict _,h=>h.elim
theorem eS {n:Nat} {d:PyData} (h:Js n d) (hn:n<=64):SeqAt.shaped d=true:=by
 obtain ⟨_,b,c⟩:=oX n d h
 unfold SeqAt.shaped
 rw [b,ajv (afi c hn)];rfl
theorem cQ {K:W.Frag} (h:X.K=K):OX X (NN K):=by
 subst h
 exact aO
theorem pz:∀ {ns:List Int} {aR:List Value},Vals (ns.map V.int) aR->∃ ys:List (Int×Tok),aR=ys.map (λ p=>Value.int p.1 p.2)/\ys.map (·.1)=ns
 | [],aR,r=>by cases r;exact ⟨[],rfl,rfl⟩
 | n::ns,aR,r=>by
   cases r with
   | cons a b =>
     obtain ⟨t,rfl⟩:=a
     obtain ⟨ys,rfl,e⟩:=pz b
     exact ⟨(n,t)::ys,rfl,by rw [afS,e]⟩
section
variable {X:Cx}
theorem zf (hc:X.calm=true):fG X (.builtin "sum") (λ xs H Q=>∃ (p:Addr) (ns:List Int),xs=[.ref p]/\bh X.K H p (ns.map V.int)/\∀ r:Int,r=ns.sum->Q (.int r) H):=by
 intro pins s σ H xs us Q I r h
 obtain ⟨p,ns,rfl,hq,q⟩:=h
 obtain ⟨u,rfl,r1⟩:=vals1 r
 obtain rfl:u=Value.ref p:=r1
 obtain ⟨aR,rv,pl,_⟩:=I.list hq
 obtain ⟨ys,rfl,e⟩:=pz rv
 have hl:s.heap.IsList p (intItems ys.toArray):=by have:=pl.isList;simpa [intItems] using this
 refine sum_intListG (I.ok.hd hc) hl λ h' tk t' hk=>?_
 refine ⟨.int _,H,I.kept hk,⟨t',rfl⟩,q _ ?_⟩
 rw [preSum_eq,List.take_of_length_le (by simp),← e]
end
theorem IT:bootBuiltins "sum" = some (.builtin "sum"):=by decide +kernel
theorem tM:bootBuiltins "enumerate" = some (.type "enumerate"):=by decide +kernel
theorem sz0:([]:List V).length<=sizeLine:=afL _
def SN (P:Program) (w:World) (K:W.Frag) (mg:Str->Option Value) (base:Heap) (m:Str) (k:Nat) (ta:TE) (t:TA):TE:=λ σ H Q=>ta σ H λ x H1 =>
 ∃ C a dx fs ps sp,x = .ref a/\H1 a=some (.ins C dx fs)/\fs.lookup m=none/\qf K C/\bD P w K mg base C m k ps [] sp/\t σ H1 λ vs H2=>sp (.ref a::(vs++[])) H2 Q E0
section
variable {X:Cx} {P:Program} {w:World} {K:W.Frag} {mg:Str->Option Value} {base:Heap} {m x:Str} {p pos apos:Pos} {e o:Expr} {es:List Expr} {ta:TE} {t:TA} {k:Nat}
theorem bP {pl:Sem Bool} (hX:X.prog=P/\X.w=w/\X.K=K/\X.mg=mg/\X.base=base) (he:PE X o ta) (hr:bL k X.A) (ha:PA X (e::es) t) (i5:starEach (e::es) X.env=(false,eval e X.env)::starEach es X.env:=by rfl) (fD:(backTo pos (starEach es X.env)).any (·.1)=false:=by rfl) (ht:eval (.Call (.Attribute o m apos) (e::es) [] pos) X.env=(do
     let ov ← eval o X.env
     standAt apos.atName
     let (f,first) ← holding [ov] (getMethod ov m pl)
     callWith pos f first (backTo pos (starEach (e::es) X.env)) (backToKw pos (keywordEach [] X.env))):=by rfl) :
   PE X (.Call (.Attribute o m apos) (e::es) [] pos) (SN P w K mg base m k ta t):=by
 obtain ⟨rfl,rfl,rfl,rfl,rfl⟩:=hX
 intro pins s σ H Q I h
 refine am7 (pl:=pl) (cz (he pins s σ H _ I h) λ u s1 z=>?_) ht
 obtain ⟨x,H1,I1,rx,C,a,dx,fs,ps,sp,ex,ea,l,c,⟨f,fd,hm,hb,F⟩,q⟩:=z
 subst ex
 obtain rfl:u=Value.ref a:=rx
 refine pE I1 ea c hm l ?_
 refine al1 (first:=[.ref a]) (h₀:=X.base) I.ok.mod.wu hm.kp (cz (ha pos pins s1 σ H1 _ I1 q) λ us s2 ⟨vs,H2,I2,r,q2⟩=>⟨I2.ia,?_⟩) i5 fD
 exact sJ (us:=.ref a::us) (vs:=.ref a::vs) F hr hb .nil xK I2 (.cons rfl r) q2
theorem bv {pl:Sem Bool} (hX:X.prog=P/\X.w=w/\X.K=K/\X.mg=mg/\X.base=base) (he:PE X o ta) (hr:bL k X.A) (ht:eval (.Call (.Attribute o m apos) [] [] pos) X.env=(do
     let ov ← eval o X.env
     standAt apos.atName
     let (f,first) ← holding [ov] (getMethod ov m pl)
     callWith pos f first (backTo pos (starEach [] X.env)) (backToKw pos (keywordEach [] X.env))):=by rfl) :
   PE X (.Call (.Attribute o m apos) [] [] pos) (SN P w K mg base m k ta QQ):=by
 obtain ⟨rfl,rfl,rfl,rfl,rfl⟩:=hX
 intro pins s σ H Q I h
 refine am7 (pl:=pl) (cz (he pins s σ H _ I h) λ u s1 z=>?_) ht
 obtain ⟨x,H1,I1,rx,C,a,dx,fs,ps,sp,ex,ea,l,c,⟨f,fd,hm,hb,F⟩,q⟩:=z
 subst ex
 obtain rfl:u=Value.ref a:=rx
 refine pE I1 ea c hm l ?_
 exact W.callWith_K0 (first:=[.ref a]) I1.ia hm.kp (sJ (us:=[.ref a]) (vs:=[.ref a]) F hr hb .nil xK I1 (.cons rfl .nil) q)
structure Br (K:W.Frag) (C:Addr) (m:Str) (f:Addr):Prop where
 ga:W.specialIn K (.ref C) "__getattribute__" = some (some (.builtin "type.__getattribute__"))
 rd:∃ mc,W.readsIn K C mc=true/\W.findCls K (.ref C) mc m=some (.val (.ref f))
 kp:W.keepIn K (.ref f)=true
theorem sL:fG X (.builtin "divmod") (λ xs H Q=>∃ i j:Int,xs=[.int i,.int j]/\j≠0/\Bd 8999 j/\∀ p,H p=none->Q (.ref p) (upd H p (.tup [.int (i.fdiv j),.int (i.fmod j)]))):=by
 intro pins s σ H xs us Q I r h
 obtain ⟨i,j,rfl,hj,bj,q⟩:=h
 obtain ⟨u,w',rfl,⟨t,rfl⟩,⟨t',rfl⟩⟩:=vals2 r
 have hf:H s.heap.objs.size=none:=I.bo.fresh (aau _)
 refine divmod_int hj ?_ (.inl (amU (aav (bj.log (by decide)) (by decide))))
 refine ⟨.ref s.heap.objs.size,_,(I.laid (o:=.tup [.int (i.fdiv j),.int (i.fmod j)]) (t':=s.toks+1+1) (λ b u e=>aao _ e) (aau _) ?_),rfl,q _ hf⟩
 exact ⟨by show 2<=sizeLine;decide,[_,_],.cons ⟨_,rfl⟩ (.cons ⟨_,rfl⟩ .nil),⟨_,aa4 _ rfl,rfl,_,rfl⟩⟩
end
theorem zT:bootBuiltins "divmod" = some (.builtin "divmod"):=by decide +kernel
theorem bD.mono {P:Program} {w:World} {K:W.Frag} {mg:Str->Option Value} {base:Heap} {m:Str} {j k:Nat} {ps:List Str} {ds:List Value} {sp:Sp} (h:bD P w K mg base C m j ps ds sp) (hk:j<=k):bD P w K mg base C m k ps ds sp:=by
 obtain ⟨f,fd,M,B,F⟩:=h
 exact ⟨f,fd,M,B,F.mono hk⟩
def gH (C:Addr) (H:Hp) (a:Addr) (ws:List Int):Prop:=∃ dx pw,H a=some (.ins C dx [("wishes",.ref pw)])/\H dx=some (.own a)/\H pw=some (.lst (ws.map V.int))/\1<=ws.length/\ws.length<=24
theorem gH.same {a:Addr} {ws:List Int} (h:gH C H a ws) (s:av H H'):gH C H' a ws:=by
 obtain ⟨dx,pw,h1,h2,h3,h4⟩:=h
 exact ⟨dx,pw,s _ _ h1,s _ _ h2,s _ _ h3,h4⟩
section
variable (C:Addr)
inductive yZ  (vs:List V) (H:Hp) (Q:VK) (_E:XK):Prop
 | mk (a ws:_) (_:vs=[.ref a]) (_:gH C H a ws) (_:Q (ao ws.length) H)
inductive DH  (vs:List V) (H:Hp) (Q:VK) (_E:XK):Prop
 | mk (v:_) (_:vs=[v]) (_:Q (.int 1) H)
inductive AG  (vs:List V) (H:Hp) (Q:VK) (_E:XK):Prop
 | mk (a ws:_) (i:Nat) (z st:_) (_:vs=[.ref a,ao i,st]) (_:gH C H a ws) (_:ws[i]?=some z) (_:Q (.int z) H)
inductive yP  (vs:List V) (H:Hp) (Q:VK) (_E:XK):Prop
 | mk (a ws:_) (i:Nat) (st:_) (_:vs=[.ref a,ao i,st]) (_:gH C H a ws) (_:Q (ao ((i+1) % ws.length)) H)
end
structure PCl (K:W.Frag) (C:Addr):Prop where
 cl:qf K C
 n1:bT K C "one"
 n2:bT K C "other"
theorem bi.of {P:Program} {w:World} {K:W.Frag} {mg:Str->Option Value} {base:Heap} {m:Str} {st:Stmt} {k:Nat} {ps:List Str} {sp:Sp} (h:bi K C m qual st .none) (hb:∀ (kV doc pm:Value) (an:Option Addr) (aP ct:Value) (us:List Value),us.length=ps.length->bindArgs (W.fnOf m qual (aY st) (aI st) (ai st) .none kV doc pm an aP ct) ⟨us,[]⟩=pure (ps.zip us)) (hf:∀ f fd,gx K m qual st .none f fd->dn P w K mg base l6 k f fd ps sp):bD P w K mg base C m k ps [] sp:=by
 obtain ⟨f,fd,M,F⟩:=h
 exact ⟨f,fd,M,F.n8 hb,hf f fd F⟩
def oF (H:Hp) (ps:Addr) (bs ws fs:List Int) (bu hp:Int):Prop:=∃ pb pw pf,H ps=some (.tup [.ref pb,.int bu,.ref pw,.ref pf,.int hp])/\H pb=some (.tup (bs.map V.int))/\H pw=some (.tup (ws.map V.int))/\H pf=some (.tup (fs.map V.int))
theorem oF.same {ps:Addr} {bs ws fs:List Int} {bu hp:Int} (h:oF H ps bs ws fs bu hp) (s:av H H'):oF H' ps bs ws fs bu hp:=by
 obtain ⟨pb,pw,pf,h1,h2,h3,h4⟩:=h
 exact ⟨pb,pw,pf,s _ _ h1,s _ _ h2,s _ _ h3,s _ _ h4⟩
def opN (any:Bool) (a b:Nat):Nat:=if any then a ||| b else a &&& b
def Fz (o:Obj):HO:=.nK o (.ext λ _=>True)
theorem u8 {P:Program} {w:World} {h:Heap} {a:Addr} {o:Obj} (e:h.get? a=some o):bJ P w H h a (Fz o):=⟨e,trivial,⟨o,e⟩,λ _ _ _ _=>trivial⟩
theorem jh {P:Program} {w:World} {h:Heap} {a:Addr} {o:Obj} (x:g8 P w H h) (e:H a=some (Fz o)):h.get? a=some o:=(x a _ e).1
def wo (H:Hp) (cs:List Addr):Hp:=λ b=>if b∈cs then none else H b
def wi (H:Hp) (cs:List Addr) (H':Hp):Hp:=λ b=>if b∈cs then H b else H' b
section
variable {P:Program} {w:World} {H H':Hp} {h h':Heap} {cs fs:List Addr}
theorem rP {c:Addr} (hc:c∈cs):wo H cs c=none:=aeA hc
theorem eJ {c:Addr} (hc:c∉cs):wo H cs c=H c:=adH hc
theorem Bb {c:Addr} (hc:c∈cs):wi H cs H' c=H c:=aeA hc
theorem jc {c:Addr} (hc:c∉cs):wi H cs H' c=H' c:=adH hc
theorem Gm {b:Addr} {o:HO} (e:wo H cs b=some o):b∉cs/\H b=some o:=by
 by_cases hb:b∈cs
 . rw [rP hb] at e;cases e
 . rw [eJ hb] at e;exact ⟨hb,e⟩
theorem Io (x:g8 P w H h) (hc:∀ c∈cs,∃ o,H c=some (Fz o)):g8 P w (wo H cs) h:=λ a o e=>by
 obtain ⟨_,e'⟩:=Gm e
 refine (x a o e').iK (λ b u _ q=>q) (λ b q=>?_) λ b xs q=>?_
 .
  rw [eJ]
  . exact q
  . intro hb
    obtain ⟨ob,eb⟩:=hc b hb
    rw [eb] at q;cases q
 .
  rw [eJ]
  . exact q
  . intro hb
    obtain ⟨ob,eb⟩:=hc b hb
    rw [eb] at q;cases q
theorem NC (u:Un fs [] (wo H cs) H' h h') (hc:∀ c∈cs,∃ o,H c=some (Fz o)):Un fs [] H (wi H cs H') h h':=by
 have out:∀ b,H b=none->b∉cs:=λ b n hb=>by
   obtain ⟨o,e⟩:=hc b hb
   rw [n] at e;cases e
 refine ⟨λ b o e n hb hx=>u.keep b o e (by rw [eJ (out b n)];exact n) hb hx,λ b o e n hb hx=>u.slot b o e (by rw [eJ (out b n)];exact n) hb hx,
   λ b o e n hx=>?_,u.there,λ b xs e=>?_,λ b o v e=>?_,λ b ps e=>?_⟩
 . rw [jc (out b n)]
   exact u.free b o e (by rw [eJ (out b n)];exact n) hx
 .
  have hb:b∉cs:=λ hb=>by
    obtain ⟨o,e'⟩:=hc b hb
    rw [e] at e';cases e'
  rw [jc hb]
  exact u.jN b xs (by rw [eJ hb];exact e)
 .
  by_cases hb:b∈cs
  . rw [Bb hb];exact e
  . rw [jc hb]
    exact u.iJ b o v (by rw [eJ hb];exact e)
 .
  have hb:b∉cs:=λ hb=>by
    obtain ⟨o,e'⟩:=hc b hb
    rw [e] at e';cases e'
  obtain ⟨more,q⟩:=u.i4 b ps (by rw [eJ hb];exact e)
  exact ⟨more,by rw [jc hb];exact q⟩
theorem JK (x:g8 P w H' h') (hn:∀ c∈cs,H' c=none) (hk:∀ c∈cs,∃ o,H c=some (Fz o)/\h'.get? c=some o):g8 P w (wi H cs H') h':=λ a o e=>by
 by_cases ha:a∈cs
 .
  rw [Bb ha] at e
  obtain ⟨ob,e1,e2⟩:=hk a ha
  rw [e1] at e
  cases e
  exact u8 e2
 .
  rw [jc ha] at e
  refine (x a o e).iK (λ b u _ q=>q) (λ b q=>?_) λ b xs q=>?_
  . rw [jc λ hb=>by rw [hn b hb] at q;cases q];exact q
  . rw [jc λ hb=>by rw [hn b hb] at q;cases q];exact q
end
def Hs (P:Program) (w:World) (K:W.Frag) (mg:Str->Option Value) (base:Heap) (N:List Str) (env:Env) (A:Around) (outer:List Env) (s:Shared) (H:Hp):Cx where
 prog:=P
 w:=w
 K:=K
 mg:=mg
 base:=base
 A:=A.deeper env
 N:=N
 s₀:=s
 H₀:=H
 env:=env
 outer:=outer
 stack:=env::outer
 ex:=[]
 calm:=true
 fn:=λ _=>false
 pn:=[]
 xe:=λ _ _=>False
structure kF (x:Str) (fr:List Str) (scope:Scope):Prop where
 kind:scope.kind = .function
 co:scope.isCoroutine=false
 gen:scope.isGenerator=false
 par:scope.names.lookup x=some .local
 gO:∀ y∈fr,scope.names.lookup y=some .free
 Dj:∀ y∈scope.names,y.2 ≠ .cell
 free:∀ y,scope.names.lookup y=some .free->y∈fr
structure o8 (H:Hp) (f:Addr) (qual:Str) (params:Arguments) (body:Expr) (scope:Scope) (cl:List (Str×Addr)) (fr:List Str) (vals:List V):Prop where
 fn:∃ name pm c' ng oc vs t,H f=some (Fz (W.kla_obj name qual params body scope cl pm c' ng))/\H c'=some (Fz oc)/\oc.data = .fields vs/\vs[1]?=some (.str qual t)/\c'<=f
 cells:Paired (λ (y:Str) (v:V)=>∃ c o u,cl.lookup y=some c/\H c=some (Fz o)/\o.data = .cell (some u)/\RelV v u) fr vals
 all:∀ y c,(y,c)∈cl->∃ o v,H c=some (Fz o)/\o.data = .cell v/\c<=f
 apart:∀ y z c,cl.lookup y=some c->cl.lookup z=some c->y=z
theorem io {α β:Type} {F:α->β->Prop}:∀ {l₁:List α} {l₂:List β} {i:Nat} {x:α},Paired F l₁ l₂->l₁[i]?=some x->∃ y,l₂[i]?=some y/\F x y
 | _,_,_,_,.nil,e=>by simp at e
 | _,_,0,_,.cons r _,e=>by simp at e;subst e;exact ⟨_,rfl,r⟩
 | _,_,i+1,x,.cons _ t,e=>by
   obtain ⟨y,h1,h2⟩:=io (i:=i) (x:=x) t (by simpa using e)
   exact ⟨y,by simpa using h1,h2⟩
section
variable {P:Program} {w:World} {K:W.Frag} {mg:Str->Option Value} {base:Heap} {k:Nat} {f:Addr} {A:Around} {outer:List Env} {s:Shared} {H:Hp}
 {qual:Str} {params:Arguments} {body:Expr} {scope:Scope} {cl:List (Str×Addr)} {fr:List Str} {vals:List V} {x:Str} {u:Value} {v:V} {Q:VK} {E:XK}
def ua (qual:Str) (scope:Scope) (L f c':Addr) (cl:List (Str×Addr)):Env :=
 { scope:=scope,locals:=L,globals:=mainGlobals,cells:=cl,qual:=qual ++ ".<locals>.",func:=some f,code:=.ref c',frame:=some L,builtins:=builtinsNs }
theorem sZ (hr:bL (k+1) A) (e0:pT P w K mg base A outer s H) (L:o8 H f qual params body scope cl fr vals) (S:kF x fr scope) (Cw:∀ (name:Str) (pm cd ct:Value) (u:Value),bindArgs (W.kla_fn name qual params body scope cl pm cd ct) ⟨[u],[]⟩=pure [(x,u)]) (r:RelV v u) (cJ:∀ c':Addr,bL k (A.deeper (ua qual scope s.heap.objs.size f c' cl))->∃ te,PE (Hs P w K mg base (x::fr) (ua qual scope s.heap.objs.size f c' cl) A outer s (wo H (cl.map (·.2)))) body te /\
     te (some v::vals.map some) (wo H (cl.map (·.2))) (λ y H'=>Q y (wi H (cl.map (·.2)) H'))) :
   codeAny (model P w) A (.call (.ref f) ⟨[u],[]⟩) (CR l6 outer P w H s Q E) s:=by
 obtain ⟨name,pm,c',ng,oc,vs,t,hf,vW,hd,hv,_⟩:=L.fn
 have lim:s.heap.NoLimit:=e0.mod.nolimit.keeps λ b o e=>(e0.bs b o e).1
 have Bf:∀ c∈cl.map (·.2),∃ o,H c=some (Fz o):=λ c hc=>by
   obtain ⟨⟨y,c2⟩,hm,rfl⟩:=List.mem_map.mp hc
   obtain ⟨o,_,e,_⟩:=L.all y c2 hm
   exact ⟨o,e⟩
 have YQ:∀ y c,cl.lookup y=some c->c∈cl.map (·.2):=λ y c e=>List.mem_map.mpr ⟨(y,c),acH e,rfl⟩
 refine W.kla_callFunE hr.depth (jh e0.bo hf) rfl S.co S.gen rfl ⟨c',oc,vs,t,rfl,jh e0.bo vW,hd,hv⟩ ?_
 rw [Cw]
 refine aaJ (wpAny_newFunctionEnv S.Dj (λ y hy=>?_) (λ h₁ Kf V5=>⟨lim.fresh _ V5,?_⟩) S.kind)
 . rw [List.mem_singleton.mp hy];exact S.par
 show codeAny _ A (.expr body (ua qual scope s.heap.objs.size f c' cl)) _ _
 obtain ⟨te,ht,hq⟩:=cJ c' (hr.deeper _)
 have Wf:∀ b o,s.heap.get? b=some o->h₁.get? b=some o:=λ b o e=>V5.extBut b o (acl (aaK e)) (aao _ e)
 have RA:=Io e0.bo Bf
 have Gf:∀ b:Addr,b∉([]:List Addr):=λ b z=>by cases z
 have len:fr.length=vals.length:=L.cells.length
 have I:Inv (Hs P w K mg base (x::fr) (ua qual scope s.heap.objs.size f c' cl) A outer s (wo H (cl.map (·.2)))) [] (some v::vals.map some) (wo H (cl.map (·.2))) { s with heap:=h₁,toks:=s.toks + [(x,u)].length }:=by
   refine ⟨⟨e0.mod,S.kind,rfl,rfl,aau _,L.apart,λ y hy=>?_,λ y c z=>(nomatch z),λ _=>hr.hd,Around.frames_deeper e0.frames,.inr ⟨rfl,rfl⟩,λ b z=>absurd z (Gf b),λ b o e=>⟨(e0.bs b o e).1,?_⟩,e0.DP,λ b _ _=>Gf b,λ b z=>absurd z (Gf b),e0.jH,λ b hb=>?_⟩,
     rfl,e0.bare,Un.kept Wf,⟨_,Kf,λ i y v' h1 h2 h3=>?_⟩,λ y c h=>?_,RA.fresh (aau _),λ y c h=>rP (YQ y c h),λ p hp=>absurd (show p∈([]:List (Addr×Obj)) from hp) (by simp),RA.kept Wf,?_⟩
   .
    have hy:scope.names.lookup y=some .cell∨scope.names.lookup y=some .free:=hy
    rcases hy with hy|hy
    . exact absurd rfl (S.Dj _ (acH hy))
    . obtain ⟨i,hi,e⟩:=ank (S.free y hy)
      obtain ⟨_,_,c,_,_,ec,_⟩:=io L.cells (i:=i) (x:=y) (by rw [Wz hi,e])
      exact ⟨c,ec⟩
   . show wo H (cl.map (·.2)) b=none
     by_cases hb:b∈cl.map (·.2)
     . exact rP hb
     . rw [eJ hb];exact (e0.bs b o e).2
   . show wo H (cl.map (·.2)) b=none
     by_cases Wj:b∈cl.map (·.2)
     . exact rP Wj
     . rw [eJ Wj];exact e0.AS b hb
   .
    cases i with
    | zero =>
      obtain rfl:x=y:=abb h1
      obtain rfl:v=v':=abb (abb h2)
      refine ⟨u,r,.inl ⟨S.par,?_⟩⟩
      show ([(x,u)].reverse).lookup x=some u
      simp
    | succ i =>
      have h1:fr[i]?=some y:=h1
      have h2:(vals.map some)[i]?=some (some v'):=h2
      obtain ⟨v2,ev,c,o,u2,ec,eH,eo,rv⟩:=io L.cells h1
      rw [aei,ev] at h2
      obtain rfl:v2=v':=abb (abb h2)
      exact ⟨u2,rv,.inr ⟨.inr (S.gO y (afB h1)),c,ec,o,Wf _ _ (jh e0.bo eH),eo⟩⟩
   . obtain ⟨o,v2,e1,e2,_⟩:=L.all y c (acH h)
     exact ⟨v2,o,Wf _ _ (jh e0.bo e1),e2⟩
   . show (vals.map some).length+1=fr.length+1
     rw [aad,len]
 refine W.kla_codeExpr (adA (ht [] _ _ _ _ I hq) (λ y s' hy=>?_) λ _ _ z=>False.elim z)
 obtain ⟨y',H',I',ry,qy⟩:=hy
 have ub:Un (gO outer) [] (wo H (cl.map (·.2))) H' s.heap s'.heap:=I'.base
 refine ⟨y',wi H (cl.map (·.2)) H',I'.os,I'.bare,NC ub Bf,JK I'.bo (λ c hc=>?_) (λ c hc=>?_),ry,qy⟩
 . obtain ⟨o,e⟩:=Bf c hc
   exact ub.free c o (jh e0.bo e) (rP hc) (Gf c)
 .
  obtain ⟨o,e⟩:=Bf c hc
  refine ⟨o,e,ub.keep c o (jh e0.bo e) (rP hc) (λ hb=>?_) (Gf c)⟩
  rw [e0.AS c hb] at e
  cases e
end
def fF (p:Pos) (c:Addr):Array Value:=#[rawInt p.line,rawInt p.col,.ref c]
def OB (H:Hp) (e:Addr×Pos×Str):Prop :=
 H e.1=some (.jX #[])∨∃ c oc vs t,H e.1=some (.jX (fF e.2.1 c))/\H c=some (Fz oc)/\oc.data = .fields vs/\vs[1]?=some (.str e.2.2 t)
def iB (T:List (Addr×Pos×Str)) (H:Hp):Prop:=∀ e∈T,OB H e
def Gr (H H':Hp):Prop:=∀ b o,H b=some o->(∀ ps,o ≠ .jX ps)->H' b=some o
theorem Gr.trans {H1 H2:Hp} (a:Gr H H1) (b:Gr H1 H2):Gr H H2:=λ c o e n=>b c o (a c o e n) n
theorem Gr.of (h:∀ b o,H b=some o->H' b=some o):Gr H H':=λ b o e _=>h b o e
theorem Gr.fz (g:Gr H H') {b:Addr} {o:Obj} (e:H b=some (Fz o)):H' b=some (Fz o):=g b _ e λ ps z=>by unfold Fz at z;cases z
theorem dJ {T:List (Addr×Pos×Str)} (t:iB T H) (h:∀ b o,H b=some o->H' b=some o):iB T H':=λ e he=>by
 rcases t e he with q|⟨c,oc,vs,t',q1,q2,q3,q4⟩
 . exact .inl (h _ _ q)
 . exact .inr ⟨c,oc,vs,t',h _ _ q1,h _ _ q2,q3,q4⟩
theorem yR (p:Pos) (c:Addr):codeAmong p (fF p c).toList=some (.ref c):=by
 show codeAmong p [rawInt p.line,rawInt p.col,.ref c]=_
 have:=codeAmong_snoc (pos:=p) (c:=.ref c) [] trivial rfl
 exact this
theorem vz (p:Pos) (c:Addr):TriplesOk (fF p c).toList:=trivial
def BMain (mg:Str->Option Value) (base:Heap):Prop:=∃ bm ob,mg "__builtins__" = some (.ref bm)/\bm≠builtinsNs/\base.get? bm=some ob/\ob.cls = .type "module"/\ob.dict=some builtinsNs/\ob.data = .plain
def ae9 (cells:List (Str×Addr)) (T:Addr) (pos:Pos) (qual:Str) (params:Arguments) (body:Expr) (scope:Scope) (cl:List (Str×Addr)):TE:=λ _ H Q=>OB H (T,pos,qual)/\∀ f pm c ng oc vs t H',H f=none->oc.data = .fields vs->vs[1]?=some (.str qual t)->c<f->(∀ y d,cells.lookup y=some d->d<f) ->
 ((H c=some (Fz oc)/\H T=some (.jX (fF pos c))/\H'=upd H f (Fz (W.kla_obj "<lambda>" qual params body scope cl pm c ng))) ∨
  (H c=none/\H T=some (.jX #[])/\H'=upd (upd (upd H T (.jX (fF pos c))) c (Fz oc)) f (Fz (W.kla_obj "<lambda>" qual params body scope cl pm c ng))))->Q (.ref f) H'
section
variable {X:Cx} {params:Arguments} {body:Expr} {scope:Scope} {pos:Pos} {cl:List (Str×Addr)} {c T:Addr}
theorem JX (AY:defaultsOf params X.env=([],[])) (wn:closureFor scope X.env=pure cl) (Gp:X.env.code = .ref c) (hC:W.CodeHd X.base c T) (OH:BMain X.mg X.base) :
   PE X (.Lambda params body scope pos) (ae9 X.env.cells T pos (X.env.qual ++ "<lambda>") params body scope cl):=by
 intro pins s σ H Q I h
 obtain ⟨hT,h⟩:=h
 have hg:s.heap.Ns mainGlobals X.mg:=I.mod.glob.keeps I.bk
 have Rn:W.CodeHd s.heap c T:=hC.keeps I.bk
 obtain ⟨bm,ob,b1,b2,b3,b4,b5,b6⟩:=OH
 have ⟨b3',b3n⟩:=I.bs _ _ b3
 have NO:H T≠none:=by
   rcases hT with q|⟨_,_,_,_,q,_⟩<;>rw [show H T=_ from q]<;>simp
 have hgT:mainGlobals≠T:=λ q=>by
   obtain ⟨o,es,ep,e,_⟩:=I.mod.glob
   exact NO (q ▸ (I.bs _ _ e).2)
 have hbG:bm≠mainGlobals:=λ q=>by
   obtain ⟨o,es,ep,e,d,_⟩:=I.mod.glob
   rw [q,e] at b3
   cases b3
   rw [d] at b6;cases b6
 have hbT:bm≠T:=λ q=>NO (q ▸ b3n)
 have cls:∀ y d,X.env.cells.lookup y=some d->d<s.heap.objs.size:=λ y d e=>by
   obtain ⟨_,_,q,_⟩:=I.cell y d e
   exact aaK q
 refine W.kla_eval AY ?_
 have hb:s.heap.BuiltinsAt X.mg T:=⟨bm,ob,b1,b2,hbG,hbT,b3',b4,b5,b6⟩
 rcases hT with q|⟨c',oc,vs,t,q1,q2,q3,q4⟩
 .
  have hP:s.heap.get? T=some (W.tabObj #[]):=I.bo _ _ q
  refine W.kla_makeFunction (mg:=X.mg) wn I.ok.glob hg Gp Rn hP trivial rfl hgT hb λ c' ng h' tk hx Ub dF aaW htb=>?_
  obtain ⟨c2,oc,vs,t,e2,V9,hd,hv⟩:=aaW
  cases e2
  have lt:∀ b u,H b=some u->b<s.heap.objs.size:=λ b u e=>I.bo.lt e
  have cn:H c'=none:=I.bo.fresh Ub
  have fn:H h'.objs.size=none:=I.bo.fresh (afi Ub (ahw dF))
  have cf:c'≠h'.objs.size:=acl dF
  have ct:c'≠T:=λ z=>NO (z ▸ cn)
  have ft:h'.objs.size≠T:=λ z=>NO (z ▸ fn)
  have old:∀ b:Addr,b<s.heap.objs.size->b≠c'/\b≠h'.objs.size:=λ b hb=>⟨acl (aav hb Ub),acl (aav hb (afi Ub (ahw dF)))⟩
  have same:∀ b:Addr,b≠T->b<s.heap.objs.size->upd (upd (upd H T (.jX (fF pos c'))) c' (Fz oc)) h'.objs.size (Fz (W.kla_obj "<lambda>" (X.env.qual ++ "<lambda>") params body scope cl ((X.mg "__name__").getD .none) c' ng)) b=H b:=λ b ht hb=>by
    rw [aq (old b hb).2,aq (old b hb).1,aq ht]
  have kp:∀ b o,b≠T->s.heap.get? b=some o->(h'.push (W.kla_obj "<lambda>" (X.env.qual ++ "<lambda>") params body scope cl ((X.mg "__name__").getD .none) c' ng)).get? b=some o:=λ b o hb e=>aao _ (hx b o hb e)
  have nT:∀ b,H b=none->b≠T:=λ b n z=>NO (z ▸ n)
  refine I.after (s':={ s with heap:=h'.push (W.kla_obj "<lambda>" (X.env.qual ++ "<lambda>") params body scope cl ((X.mg "__name__").getD .none) c' ng),toks:=tk }) ⟨.ref h'.objs.size,_,rfl,I.bare,?_,?_,rfl,h h'.objs.size ((X.mg "__name__").getD .none) c' ng oc vs t _ fn hd hv dF (λ y d e=>aav (cls y d e) (afi Ub (ahw dF))) (.inr ⟨cn,q,rfl⟩)⟩
  .
   refine ⟨λ b o e n _ _=>kp b o (nT b n) e,λ b o e n _ _=>⟨o.slots,kp b o (nT b n) e⟩,λ b o e n _=>?_,λ b o e _=>?_,λ b xs e=>?_,λ b o u e=>?_,λ b ps e=>?_⟩
   . rw [same b (nT b n) (aaK e)];exact n
   . by_cases hb:b=T
     . subst hb;exact ⟨_,aao _ htb⟩
     . exact ⟨o,kp b o hb e⟩
   . rw [same b (λ z=>by rw [z,q] at e;cases e) (lt _ _ e)];exact e
   . rw [same b (λ z=>by rw [z,q] at e;cases e) (lt _ _ e)];exact e
   .
    by_cases hb:b=T
    . subst hb
      rw [q] at e
      cases e
      refine ⟨fF pos c',?_⟩
      rw [aq ft.symm,aq ct.symm,ac]
      simp
    . exact ⟨#[],by rw [same b hb (lt _ _ e),e];simp⟩
  .
   intro a o e
   by_cases hf:a=h'.objs.size
   . subst hf
     rw [ac] at e
     cases e
     exact u8 (aa4 _ rfl)
   .
    rw [aq hf] at e
    by_cases hc:a=c'
    . subst hc
      rw [ac] at e
      cases e
      exact u8 (aao _ V9)
    .
     rw [aq hc] at e
     by_cases ht:a=T
     . subst ht
       rw [ac] at e
       cases e
       show _=_
       refine (aao _ htb).trans ?_
       simp [fF]
     . rw [aq ht] at e
       refine (I.bo a o e).iK (λ b u hb r=>kp b u ?_ r) (λ b r=>?_) λ b xs r=>?_
       . rcases hb with rfl|hb
         . exact ht
         . intro z;rw [z,q] at hb;cases hb
       . rw [same b (λ z=>by rw [z,q] at r;cases r) (lt _ _ r)];exact r
       . rw [same b (λ z=>by rw [z,q] at r;cases r) (lt _ _ r)];exact r
 .
  have hP:s.heap.get? T=some (W.tabObj (fF pos c')):=I.bo _ _ q1
  refine W.kla_makeFunctionHit (mg:=X.mg) wn I.ok.glob hg Gp Rn hP (vz _ _) (yR _ _) hb λ ng h' tk hk hsz=>?_
  have fn:H h'.objs.size=none:=I.bo.fresh hsz
  have clt:c'<h'.objs.size:=aav (I.bo.lt q2) hsz
  refine I.after (s':={ s with heap:=h'.push (W.kla_obj "<lambda>" (X.env.qual ++ "<lambda>") params body scope cl ((X.mg "__name__").getD .none) c' ng),toks:=tk }) ⟨.ref h'.objs.size,_,rfl,I.bare,?_,?_,rfl,h h'.objs.size ((X.mg "__name__").getD .none) c' ng oc vs t _ fn q3 q4 clt (λ y d e=>aav (cls y d e) hsz) (.inl ⟨q2,q1,rfl⟩)⟩
  .
   have kp:∀ b o,s.heap.get? b=some o->(h'.push (W.kla_obj "<lambda>" (X.env.qual ++ "<lambda>") params body scope cl ((X.mg "__name__").getD .none) c' ng)).get? b=some o:=λ b o e=>aao _ (hk b o e)
   have ne:∀ b:Addr,b<s.heap.objs.size->b≠h'.objs.size:=λ b hb=>acl (aav hb hsz)
   refine ⟨λ b o e _ _ _=>kp b o e,λ b o e _ _ _=>⟨o.slots,kp b o e⟩,λ b o e n _=>?_,λ b o e _=>⟨o,kp b o e⟩,λ b xs e=>?_,λ b o u e=>?_,λ b ps e=>⟨#[],?_⟩⟩
   . rw [aq (ne b (aaK e))];exact n
   . rw [aq (ne b (I.bo.lt e))];exact e
   . rw [aq (ne b (I.bo.lt e))];exact e
   . rw [aq (ne b (I.bo.lt e)),e];simp
  . exact I.bo.laid (λ b u e=>aao _ (hk b u e)) hsz (u8 (aa4 _ rfl))
end
def wc (h:Heap) (cs:List Addr) (H:Hp):Hp:=λ b=>if b∈cs then (h.get? b).map Fz else H b
theorem Dy {h:Heap} {cs:List Addr} {b:Addr} {o:Obj} (hb:b∈cs) (e:h.get? b=some o):wc h cs H b=some (Fz o):=by unfold wc;rw [aeA hb,e];rfl
theorem wH {h:Heap} {cs:List Addr} {b:Addr} (hb:b∉cs):wc h cs H b=H b:=adH hb
def JU (T:List (Addr×Pos×Str)) (qual:Str) (params:Arguments) (body:Expr) (scope:Scope) (ps:List Str):Sp:=λ vs H Q _=>vs.length=ps.length/\iB T H /\
 ∀ f cl H',Gr H H'->iB T H'->o8 H' f qual params body scope cl ps vs->(∀ b o,H b=some o->∀ y c,(y,c)∈cl->b<c)->H f=none->Q (.ref f) H'
theorem ss {α β:Type} {F:α->β->Prop}:∀ {l₁:List α} {l₂:List β},l₁.length=l₂.length->(∀ (i:Nat) x y,l₁[i]?=some x->l₂[i]?=some y->F x y)->Paired F l₁ l₂
 | [],[],_,_ => .nil
 | [],_::_,e,_=>by cases e
 | _::_,[],e,_=>by cases e
 | a::r,b::t,e,h => .cons (h 0 a b rfl rfl) (ss (by simpa using e) λ i x y h1 h2=>h (i+1) x y (by simpa using h1) (by simpa using h2))
theorem N7 {CX:Ag} {P:Program} {w:World} {K:W.Frag} {mg:Str->Option Value} {base:Heap} {k:Nat} {f:Addr} {name:Str} {params:Arguments} {scope:Scope} {dV kV doc pm ct oc:Value} {an od:Option Addr} {cd:Addr} {pos:Pos} {nV:Array (Option Value)} {ps:List Str} {GU:Arguments} {ow:Expr} {i7:Scope} {uv:Pos} {T:List (Addr×Pos×Str)} {clo:Addr->List (Str×Addr)} (lk:K.lookup f=some ⟨oc,od,.func (W.fnOf name qual params [.Return (some (.Lambda GU ow i7 uv)) pos] scope dV kV doc pm an (.ref cd) ct),nV⟩) (iI:W.codeIn K (.ref cd) qual=true) (S:au ps ps scope) (cw:∀ y∈ps,scope.names.lookup y=some .cell) (hC:W.CodeHd base cd Tb) (OH:BMain mg base) (hTm:(Tb,uv,qual ++ ".<locals>." ++ "<lambda>")∈T) (hTd:∀ e∈T,e.1=Tb->e=(Tb,uv,qual ++ ".<locals>." ++ "<lambda>")) (AY:∀ L,defaultsOf GU (envOfC qual scope L f (.ref cd))=([],[])) (wn:∀ L,closureFor i7 (envOfC qual scope L f (.ref cd))=pure (clo L)) (xj:∀ L y c,(y,c)∈clo L->(cellsFrom (L+1) scope.names []).lookup y=some c) (Bm:∀ L,∀ y∈ps,∃ c,(clo L).lookup y=some c) :
   dn P w K mg base CX (k+1) f (W.fnOf name qual params [.Return (some (.Lambda GU ow i7 uv)) pos] scope dV kV doc pm an (.ref cd) ct) ps (JU T (qual ++ ".<locals>." ++ "<lambda>") GU ow i7 ps):=by
 refine ⟨λ vs H Q E h=>h.1,λ A outer s H args us vs Q E hr e0 hb r xW=>?_⟩
 obtain ⟨hl,hT,hq⟩:=xW
 have KX:K.In s.heap:=e0.mod.wu.keeps λ b o e=>(e0.bs b o e).1
 have lim:s.heap.NoLimit:=e0.mod.nolimit.keeps λ b o e=>(e0.bs b o e).1
 have BU:∀ y∈ps.zip us,scope.names.lookup y.1=some .local∨(scope.names.lookup y.1=some .cell/\((cellsFrom (s.heap.objs.size+1) scope.names []).lookup y.1).isSome=true):=λ ⟨n,v⟩ hy=>by
   rcases S.par n (al8 hy).1 with q|q
   . exact .inl q
   . exact .inr ⟨q,amV _ _ _ (.inl q)⟩
 refine codeAny_call_function hr.depth (KX _ _ lk) rfl S.co S.gen rfl (W.codeRec_of KX iI) (hb _ _ _ _ ?_)
 refine anc S.kind BU λ env he s1 xx=>?_
 subst he
 refine ⟨lim.keeps xx.toInCall.keep,codeAny_func ?_⟩
 have I:Inv (eZ CX P w K mg base ps qual scope f (.ref cd) A outer s H E) [] (start ps vs) H s1:=sf S hr.hd e0 hl r xx
 have hpe:PE (eZ CX P w K mg base ps qual scope f (.ref cd) A outer s H E) (.Lambda GU ow i7 uv) _:=JX (T:=Tb) (c:=cd) (cl:=clo s.heap.objs.size) (AY _) (wn _) rfl hC OH
 have i5:start ps vs=vs.map some:=by unfold start;rw [hl];simp
 let Q1:VK:=λ v H1=>∃ f' pm c ng oc Ip t,v = .ref f'/\H f'=none/\oc.data = .fields Ip/\Ip[1]?=some (.str (qual ++ ".<locals>." ++ "<lambda>") t)/\c<f'/\(∀ y d,(cellsFrom (s.heap.objs.size+1) scope.names []).lookup y=some d->d<f') /\
   ((H c=some (Fz oc)/\H Tb=some (.jX (fF uv c))/\H1=upd H f' (Fz (W.kla_obj "<lambda>" (qual ++ ".<locals>." ++ "<lambda>") GU ow i7 (clo s.heap.objs.size) pm c ng))) ∨
    (H c=none/\H Tb=some (.jX #[])/\H1=upd (upd (upd H Tb (.jX (fF uv c))) c (Fz oc)) f' (Fz (W.kla_obj "<lambda>" (qual ++ ".<locals>." ++ "<lambda>") GU ow i7 (clo s.heap.objs.size) pm c ng))))
 have hw:=hpe [] s1 (start ps vs) H Q1 I ⟨hT _ hTm,λ f' pm c ng oc Ip t H' h1 h2 h3 h4 h6 h5=>⟨f',pm,c,ng,oc,Ip,t,rfl,h1,h2,h3,h4,h6,h5⟩⟩
 refine alO (wpAny_Return_some (adA hw (λ u s' hs=>?_) λ e s' hs=>hs))
 obtain ⟨v,H1,J,rv,f',pm',c,ng,oc',Ip,t,rfl,Wq,hd,hv,hcf,Bf,hH⟩:=hs
 obtain rfl:u = .ref f':=rv
 have Fk:∀ y c',(cellsFrom (s.heap.objs.size+1) scope.names []).lookup y=some c'->s.heap.objs.size<=c':=λ y c' e=>J.ok.Fk y c' rfl e
 have lt:∀ b o,H b=some o->b<s.heap.objs.size:=λ b o e=>e0.bo.lt e
 have Dc:∀ b∈(clo s.heap.objs.size).map (·.2),s.heap.objs.size<=b/\H1 b=none/\∃ o v,s'.heap.get? b=some o/\o.data = .cell v:=λ b hb=>by
   obtain ⟨⟨y,b'⟩,hm,rfl⟩:=List.mem_map.mp hb
   have e:=xj _ _ _ hm
   obtain ⟨v,o,h1,h2⟩:=J.cell y b' e
   exact ⟨Fk _ _ e,J.ge y b' e,o,v,h1,h2⟩
 have nin:∀ b,b<s.heap.objs.size->b∉(clo s.heap.objs.size).map (·.2):=λ b hb hm=>absurd (aav hb (Dc b hm).1) (ahc _)
 have tin:∀ b o,H1 b=some o->b∉(clo s.heap.objs.size).map (·.2):=λ b o e hm=>by rw [(Dc b hm).2.1] at e;cases e
 have H1f:H1 f'=some (Fz (W.kla_obj "<lambda>" (qual ++ ".<locals>." ++ "<lambda>") GU ow i7 (clo s.heap.objs.size) pm' c ng)):=by
   rcases hH with ⟨_,_,rfl⟩|⟨_,_,rfl⟩<;>exact ac
 have H1c:H1 c=some (Fz oc'):=by
   rcases hH with ⟨q,_,rfl⟩|⟨_,_,rfl⟩
   . rw [aq (acl hcf)];exact q
   . rw [aq (acl hcf)];exact ac
 have H1T:H1 Tb=some (.jX (fF uv c)):=by
   rcases hH with ⟨_,q,rfl⟩|⟨qc,q,rfl⟩
   . rw [aq (λ z=>by rw [z,Wq] at q;cases q)];exact q
   . rw [aq (λ z=>by rw [z,Wq] at q;cases q),aq (λ z=>by rw [z,qc] at q;cases q)];exact ac
 have V3:∀ b o,H b=some o->b≠Tb->H1 b=some o:=λ b o e hb=>by
   have bf:b≠f':=λ z=>by rw [z,Wq] at e;cases e
   rcases hH with ⟨_,_,rfl⟩|⟨qc,_,rfl⟩
   . rw [aq bf];exact e
   . rw [aq bf,aq (λ z=>by rw [z,qc] at e;cases e),aq hb];exact e
 have Tt:∃ ps,H Tb=some (.jX ps):=by rcases hH with ⟨_,q,_⟩|⟨_,q,_⟩<;>exact ⟨_,q⟩
 have out:∀ b o,H1 b=some o->wc s'.heap ((clo s.heap.objs.size).map (·.2)) H1 b=some o:=λ b o e=>by rw [wH (tin b o e)];exact e
 have ub:Un (gO outer) [] H H1 s.heap s'.heap:=J.base
 refine (show CE outer P w H s Q (.ref f') s' from ⟨.ref f',wc s'.heap ((clo s.heap.objs.size).map (·.2)) H1,J.os,J.bare,?_,?_,rfl,?_⟩)
 .
  refine ⟨ub.keep,ub.slot,λ b o e n hx=>?_,ub.there,λ b xs e=>out _ _ (ub.jN b xs e),λ b o u e=>out _ _ (ub.iJ b o u e),λ b ps e=>?_⟩
  . rw [wH (nin b (aaK e))];exact ub.free b o e n hx
  . obtain ⟨more,q⟩:=ub.i4 b ps e
    exact ⟨more,out _ _ q⟩
 .
  intro a o e
  by_cases ha:a∈(clo s.heap.objs.size).map (·.2)
  . obtain ⟨_,_,ob,_,h1,_⟩:=Dc a ha
    rw [Dy ha h1] at e
    cases e
    exact u8 h1
  . rw [wH ha] at e
    exact (J.bo a o e).iK (λ b u _ q=>q) (λ b q=>out _ _ q) λ b xs q=>out _ _ q
 .
  refine hq f' (clo s.heap.objs.size) _ (λ b o e n=>?_) (λ e he=>?_) ⟨⟨"<lambda>",pm',c,ng,oc',Ip,t,out _ _ H1f,out _ _ H1c,hd,hv,ahw hcf⟩,?_,?_,?_⟩ (λ b o e y c' hm=>?_) Wq
  .
   refine out _ _ (V3 b o e λ z=>?_)
   obtain ⟨ps,q⟩:=Tt
   rw [z,q] at e
   cases e
   exact n ps rfl
  .
   by_cases hb:e.1=Tb
   . rw [hTd e he hb]
     exact .inr ⟨c,oc',Ip,t,out _ _ H1T,out _ _ H1c,hd,hv⟩
   .
    rcases hT e he with q|⟨c2,oc2,vs2,t2,q1,q2,q3,q4⟩
    . exact .inl (out _ _ (V3 _ _ q hb))
    . refine .inr ⟨c2,oc2,vs2,t2,out _ _ (V3 _ _ q1 hb),out _ _ (V3 _ _ q2 λ z=>?_),q3,q4⟩
      obtain ⟨ps,q⟩:=Tt
      rw [z,q] at q2
      unfold Fz at q2
      cases q2
  .
   obtain ⟨m,hn,U0⟩:=J.loc
   refine ss hl.symm λ i y v h1 h2=>?_
   have hy:y∈ps:=afB h1
   obtain ⟨u,ru,lk⟩:=U0 i y v h1 (by rw [i5,aei,h2];rfl) (.inr (.inl (cw y hy)))
   obtain ⟨c',ec⟩:=Bm s.heap.objs.size y hy
   have em:=xj _ _ _ (acH ec)
   rcases lk with ⟨hk,_⟩|⟨_,c2,e2,abT⟩
   . have hk:scope.names.lookup y=some .local:=hk
     rw [cw y hy] at hk;cases hk
   . have e2:(cellsFrom (s.heap.objs.size+1) scope.names []).lookup y=some c2:=e2
     rw [em] at e2
     cases e2
     obtain ⟨o,h3,h4⟩:=abT
     exact ⟨c',o,u,ec,Dy (List.mem_map.mpr ⟨(y,c'),acH ec,rfl⟩) h3,h4,ru⟩
  .
   intro y c' hm
   have E8:c'∈(clo s.heap.objs.size).map (·.2):=List.mem_map.mpr ⟨(y,c'),hm,rfl⟩
   obtain ⟨_,_,o,v,h1,h2⟩:=Dc c' E8
   refine ⟨o,v,Dy E8 h1,h2,?_⟩
   exact ahw (Bf y c' (xj _ _ _ hm))
  . intro y z c' h1 h2
    exact J.ok.inj y z c' (xj _ _ _ (acH h1)) (xj _ _ _ (acH h2))
  . have E8:c'∈(clo s.heap.objs.size).map (·.2):=List.mem_map.mpr ⟨(y,c'),hm,rfl⟩
    exact aav (lt b o e) (Dc c' E8).1
def Runs (X:Cx) (f:Addr) (vs:List V) (H:Hp) (Q:VK):Prop:=∀ (s:Shared) (us:List Value),pT X.prog X.w X.K X.mg X.base X.A X.stack s H->Vals vs us ->
 codeAny (model X.prog X.w) X.A (.call (.ref f) ⟨us,[]⟩) (CR l6 X.stack X.prog X.w H s Q E0) s
inductive Jn (X:Cx) (i:Nat) (t:TA) (σ:St) (H:Hp) (Q:VK):Prop
 | mk (f o fd:_) (_:σ[i]?=some (some (.ref f))) (_:o.data = .func fd) (_:t σ H (λ vs H1=>H1 f=some (Fz o)/\Runs X f vs H1 Q))
section
variable {X:Cx} {i:Nat} {x:Str} {p pos:Pos} {e:Expr} {es:List Expr} {t:TA}
theorem vU (hN:X.N[i]?=some x) (hv:Jh X.env.scope x) (ha:PA X (e::es) t) (hd:(x == ("__debug__" : Str))=false:=by decide) (iI:(x == ("__classdict__" : Str))=false:=by decide) (he:starEach (e::es) X.env=(false,eval e X.env)::starEach es X.env:=by rfl):PE X (.Call (.Name x p) (e::es) [] pos) (Jn X i t):=by
 intro pins s σ H Q I h
 obtain ⟨f,o,fd,hf,JM,h⟩:=h
 obtain ⟨m,hn,hl⟩:=I.loc
 obtain ⟨u,r,l⟩:=hl i x _ hN hf hv
 obtain rfl:u = .ref f:=r
 have fin:wpAny (model X.prog X.w) X.A (callWith pos (.ref f) [] (backTo pos (starEach (e::es) X.env)) (backToKw pos (keywordEach [] X.env))) (EP X pins σ Q) X.xe s:=by
   refine amJ (o:=o) JM (cz (ha pos pins s σ H _ I h) λ us s1 ⟨vs,H1,I1,rv,q1,q2⟩=>⟨jh I1.bo q1,?_⟩) he
   refine alC (aiL (q2 s1 us I1.yS rv) λ r s' hq=>?_)
   cases r with
   | error e=>exact False.elim hq
   | ok fl =>
     cases fl with
     | ret u=>exact I1.after hq
     | next=>exact False.elim hq
     | brk=>exact False.elim hq
     | cont=>exact False.elim hq
 refine agF ?_
 rcases l with ⟨hk,hm⟩|⟨hk,c,hc,cw⟩
 . exact alD (alP I.ok.kind hk hn hm fin) hd
 . rcases hk with hk|hk
   . exact alD (alZ I.ok.kind hk hc cw fin) hd
   . exact alD (amz I.ok.kind hk hc cw fin iI) hd
end
structure Bs (K:W.Frag) (mg:Str->Option Value) (base:Heap):Prop where
 wu:K.In base
 bm:BMain mg base
def xZ (st:Stmt):Expr:=match aI st with
 | [.Return (some e) _]=>e
 | _ => .Constant .none 0 ⟨0,0,0,0⟩
def lr (st:Stmt):Arguments:=match xZ st with
 | .Lambda a _ _ _=>a
 | _=>{ posonlyargs:=[],args:=[],vararg:=none,kwonlyargs:=[],kw_defaults:=[],kwarg:=none,defaults:=[]}
def nS (st:Stmt):Expr:=match xZ st with
 | .Lambda _ b _ _=>b
 | _ => .Constant .none 0 ⟨0,0,0,0⟩
def fB (st:Stmt):Scope:=match xZ st with
 | .Lambda _ _ s _=>s
 | _=>{ kind:=.function,names:=[],isGenerator:=false,isCoroutine:=false }
def lM (st:Stmt):Pos:=match xZ st with
 | .Lambda _ _ _ p=>p
 | _=>⟨0,0,0,0⟩
def Ju (st:Stmt):Pos:=match aI st with
 | [.Return _ p]=>p
 | _=>⟨0,0,0,0⟩
def rB (K:W.Frag) (mg:Str->Option Value) (x:Str) (st:Stmt) (T:Addr):Prop :=
 ∃ (f cd:Addr) (oc:Value) (od:Option Addr) (kV doc pm:Value) (an:Option Addr) (ct:Value) (nV:Array (Option Value)),mg x=some (.ref f) /\
   K.lookup f=some ⟨oc,od,.func (W.fnOf x x (aY st) (aI st) (ai st) .none kV doc pm an (.ref cd) ct),nV⟩/\W.codeIn K (.ref cd) x=true/\W.keepIn K (.ref f)=true/\W.codeHdIn K cd T=true
theorem rB.def {P:Program} {w:World} {K:W.Frag} {mg:Str->Option Value} {base:Heap} {x:Str} {st:Stmt} {ps:List Str} {k:Nat} {T:List (Addr×Pos×Str)} {clo:Addr->List (Str×Addr)} (h:rB K mg x st Tb) (B:Bs K mg base) (i5:aI st=[.Return (some (.Lambda (lr st) (nS st) (fB st) (lM st))) (Ju st)]) (S:au ps ps (ai st)) (cw:∀ y∈ps,(ai st).names.lookup y=some .cell) (hTm:(Tb,lM st,x ++ ".<locals>." ++ "<lambda>")∈T) (hTd:∀ e∈T,e.1=Tb->e=(Tb,lM st,x ++ ".<locals>." ++ "<lambda>")) (AY:∀ f cd L,defaultsOf (lr st) (envOfC x (ai st) L f (.ref cd))=([],[])) (wn:∀ f cd L,closureFor (fB st) (envOfC x (ai st) L f (.ref cd))=pure (clo L)) (xj:∀ L y c,(y,c)∈clo L->(cellsFrom (L+1) (ai st).names []).lookup y=some c) (Bm:∀ L,∀ y∈ps,∃ c,(clo L).lookup y=some c) (hb:∀ (kV doc pm:Value) (an:Option Addr) (aP ct:Value) (us:List Value),us.length=ps.length->bindArgs (W.fnOf x x (aY st) (aI st) (ai st) .none kV doc pm an aP ct) ⟨us,[]⟩=pure (ps.zip us)) :
   Def P w K mg base x (k+1) ps (JU T (x ++ ".<locals>." ++ "<lambda>") (lr st) (nS st) (fB st) ps):=by
 obtain ⟨f,cd,oc,od,kV,doc,pm,an,ct,nV,h1,h2,h3,h4,h5⟩:=h
 refine ⟨f,_,h1,h4,.all λ us hl=>hb kV doc pm an (.ref cd) ct us hl,?_⟩
 rw [i5] at h2 ⊢
 exact N7 h2 h3 S cw (W.codeHd_of_K B.wu h5) B.bm hTm hTd (AY f cd) (wn f cd) xj Bm
theorem zb {P:Program} {w:World} {K:W.Frag} {mg mb:Str->Option Value} {k:Nat} {fa a:Addr} {fd:FuncData} {x:Str} {sp:Sp} {s₁:Shared} {vs:List Value} {ns:List Int} {ts:List Addr} (KX:K.In s₁.heap) (Kf:s₁.heap.Ns mainGlobals mg) (hb:s₁.heap.Ns builtinsNs mb) (hbb:∀ x:Str,x ≠ "__name__"->mb x=bootBuiltins x) (abl:s₁.heap.NoLimit) (hg:s₁.gens=#[]) (ha:s₁.heap.get? a=some { cls:=.type "list",data:=.seq vs.toArray }) (hi:IntsAre vs ns) (hl:ns.length<=sizeLine) (hr:bL k callerA) (zS:∀ T∈ts,s₁.heap.get? T=some (W.tabObj #[])/\isCodeTable s₁.heap T) (hK:W.noTabs K=true) (OH:BMain mg s₁.heap) (F:∀ base:Heap,K.In base->base.Ns mainGlobals mg->BMain mg base->dn P w K mg base l6 k fa fd [x] sp) (Cw:∀ (s:Shared) (u:Value),BindsTo s fd ⟨[u],[]⟩ [(x,u)]) (xW:∀ H:Hp,(∀ T∈ts,H T=some (.jX #[]))->bh K H a (ns.map V.int)->sp [.ref a] H (λ v _=>v = .bl true) λ _ _ _=>False) :
   codeAny (model P w) callerA (.call (.ref fa) ⟨[.ref a],[]⟩) (λ r s'=>r = .ok (.ret (.bool true))/\OldK s₁.heap s'.heap/\s'.os=s₁.os/\AllBare s'.gens) s₁:=by
 have rv:=so hi
 have aj6:=hi.length
 have aT:a∉ts:=λ h=>by
   have:=(zS a h).1
   rw [ha] at this
   cases this
 have kT:∀ T∈ts,K.lookup T=none:=λ T h=>by
   cases q:K.lookup T with
   | none=>rfl
   | some o =>
     have e:=KX T o q
     rw [(zS T h).1] at e
     cases e
     have h2:=List.all_eq_true.mp hK (T,W.tabObj #[]) (W.mem_of_lookupK q)
     cases h2
 have core:∀ H:Hp,(∀ T∈ts,H T=some (.jX #[]))->(∀ b o,H b=some o->b∈ts∨(b=a/\∃ ob xs,o = .nK ob (.lst xs)))->bh K H a (ns.map V.int)->g8 P w H s₁.heap->(H a≠none->K.lookup a=none) ->
     codeAny (model P w) callerA (.call (.ref fa) ⟨[.ref a],[]⟩) (λ r s'=>r = .ok (.ret (.bool true))/\OldK s₁.heap s'.heap/\s'.os=s₁.os/\AllBare s'.gens) s₁:=by
   intro H hT hO hS bo hKa
   have tK:∀ {b:Addr} {o:Obj},s₁.heap.get? b=some o->H b=none->(qN s₁.heap H).get? b=some o:=λ e n=>An e n
   have no:∀ {b:Addr} {o:Obj},s₁.heap.get? b=some o->o≠W.tabObj #[]->o≠{ cls:=.type "list",data:=.seq vs.toArray }->H b=none:=λ {b o} e d1 d2=>by
     cases q:H b with
     | none=>rfl
     | some u =>
       rcases hO b u q with z|⟨rfl,_⟩
       . rw [(zS b z).1] at e;cases e;exact absurd rfl d1
       . rw [ha] at e;cases e;exact absurd rfl d2
   have V6:∀ {b:Addr} {m:Str->Option Value},s₁.heap.Ns b m->(qN s₁.heap H).Ns b m:=λ {b m} ⟨o,es,ep,e,d,r⟩=>⟨o,es,ep,tK e (no e (λ z=>by rw [z] at d;cases d) λ z=>by rw [z] at d;cases d),d,r⟩
   have hKb:K.In (qN s₁.heap H):=λ b o e=>tK (KX b o e) (by
     cases q:H b with
     | none=>rfl
     | some u =>
       rcases hO b u q with z|⟨rfl,_⟩
       . rw [kT b z] at e;cases e
       . rw [hKa (by rw [q];simp)] at e;cases e)
   have hM:Mod K mg (qN s₁.heap H):=⟨hKb,V6 Kf,⟨mb,V6 hb,hbb⟩,let ⟨mc,h1,h2⟩:=abl;⟨mc,V6 h1,h2⟩⟩
   have hB:BMain mg (qN s₁.heap H):=by
     obtain ⟨bm,ob,b1,b2,b3,b4,b5,b6⟩:=OH
     exact ⟨bm,ob,b1,b2,tK b3 (no b3 (λ z=>by rw [z] at b4;cases b4) λ z=>by rw [z] at b6;cases b6),b4,b5,b6⟩
   have e0:pT P w K mg (qN s₁.heap H) callerA [] s₁ H:=⟨rfl,hM,λ b o e=>EK e,Nat.le_of_eq (zH _ _),trivial,λ b hb=>absurd (show b∈([]:List Addr) from hb) (by simp),bo,.of_eq hg⟩
   refine aiL ((F _ hKb (V6 Kf) hB).run callerA [] s₁ H ⟨[.ref a],[]⟩ [.ref a] [.ref a] _ _ hr e0 (Cw s₁ (.ref a)) (.cons rfl .nil) (xW H hT hS)) λ r s' h=>?_
   cases r with
   | error e=>exact False.elim h
   | ok fl =>
     cases fl with
     | next=>exact False.elim h
     | brk=>exact False.elim h
     | cont=>exact False.elim h
     | ret u =>
       obtain ⟨v,H',os,bare,un,Vp,r',q⟩:=h
       have q':v = .bl true:=q
       subst q'
       obtain rfl:u=Value.bool true:=r'
       have nm:∀ b:Addr,b∉gO ([]:List Env):=λ b z=>absurd (show b∈([]:List Addr) from z) (by simp)
       refine ⟨rfl,⟨λ b o e=>?_,λ b o e=>un.there b o e (by simp)⟩,os,bare⟩
       cases q:H b with
       | none=>exact .inl (un.keep b o e q (nm b) (by simp))
       | some u =>
         rcases hO b u q with z|⟨rfl,ob,xs,rfl⟩
         . obtain ⟨more,q2⟩:=un.i4 b _ (hT b z)
           have e2:=Vp b _ q2
           have e2:s'.heap.get? b=some (W.tabObj (#[]++more)):=e2
           rw [(zS b z).1] at e
           cases e
           exact .inr (.inl ⟨(zS b z).2,rfl,#[],more,rfl,e2⟩)
         . have z2:=un.iJ b ob _ q
           obtain ⟨e1,_⟩:=bo b _ q
           obtain ⟨e2,_⟩:=Vp b _ z2
           rw [e] at e1;cases e1
           exact .inl e2
 cases hk:K.lookup a with
 | some o =>
   have e:=KX a o hk
   rw [ha] at e
   cases e
   refine core (λ b=>if b∈ts then some (.jX #[]) else none) (λ T h=>aeA h) (λ b o h=>?_) (.inr ⟨_,vs.toArray,_,hk,rfl,rfl,rfl,by rw [abJ,aj6];exact hl,by simpa using rv⟩) (λ b u z=>?_) λ z=>absurd (adH aT) z
   . by_cases hb:b∈ts
     . exact .inl hb
     . rw [adH hb] at h;cases h
   .
    by_cases hb:b∈ts
    . have z':=(aeA hb).symm.trans z
      cases z'
      exact (zS b hb).1
    . have z':=(adH hb).symm.trans z
      cases z'
 | none =>
   refine core (λ b=>if b∈ts then some (.jX #[]) else if b=a then some (.nK { cls:=.type "list",data:=.seq vs.toArray } (.lst (ns.map V.int))) else none) (λ T h=>aeA h) (λ b o h=>?_) (.inl (.inr ⟨{ cls:=.type "list",data:=.seq vs.toArray },(adH aT).trans (aeA rfl)⟩)) (λ b u z=>?_) λ _=>hk
   .
    by_cases hb:b∈ts
    . exact .inl hb
    . rw [adH hb] at h
      by_cases Im:b=a
      . rw [aeA Im] at h;cases h;exact .inr ⟨Im,_,_,rfl⟩
      . rw [adH Im] at h;cases h
   .
    by_cases hb:b∈ts
    . have z':=(aeA hb).symm.trans z
      cases z'
      exact (zS b hb).1
    .
     have z:(if b=a then some (HO.nK { cls:=.type "list",data:=.seq vs.toArray } (.lst (ns.map V.int))) else none)=some u:=(adH hb).symm.trans z
     by_cases Im:b=a
     . have z':=(aeA Im).symm.trans z
       cases z'
       subst Im
       exact ⟨ha,by rw [aad];exact hl,vs,_,rv,ha⟩
     . have z':=(adH Im).symm.trans z
       cases z'
inductive yq (K:W.Frag) (ts:List Addr) (vs:List V) (H:Hp) (Q:VK) (_E:XK):Prop
 | mk (a:Addr) (ns:List Int) (_:vs=[.ref a]) (_:bh K H a (ns.map V.int)) (_:ns.length<=63) (_:(∀ z∈ns,Bd 1048576 z)) (_:(∀ T∈ts,H T=some (.jX #[]))) (_:∀ H',Q (.bl true) H')
theorem BR {l:W.OpenLaw} {k:Nat} {q:Program} {loose:List Str} {XP:(Str->Option Value)->Heap->Prop} {YP:World->Heap->Prop} {d:DefRec} {K:Params->W.Frag} {x:Str} (hn:l.most=some 63) (UZ:d.params.defaults=[]) (hr:bL k callerA) (hY:∀ (w:World) (h:Heap),YP w h->(K w.params).In h) (hK:∀ w:World,W.noTabs (K w.params)=true) (F:∀ (w:World) (mg:Str->Option Value) (fa:Addr) (h:Heap),YP w h->(K w.params).In h->h.Ns mainGlobals mg->mg d.name=some (.ref fa) ->
     ∃ (fd:FuncData) (ts:List Addr),(∀ (s:Shared) (u:Value),BindsTo s fd ⟨[u],[]⟩ [(x,u)])/\(∀ T∈ts,h.get? T=some (W.tabObj #[])/\∃ c,W.codeHdIn (K w.params) c T=true) /\
       ∀ base:Heap,(K w.params).In base->base.Ns mainGlobals mg->BMain mg base->dn l.prog w (K w.params) mg base l6 k fa fd [x] (yq (K w.params) ts)) :
   W.WalkO q loose XP YP l.row.toRowW d [] (λ f vs=>PySem.call f vs):=by
 refine Att.sH hn UZ λ w s₀ s₁ mg mb fa o pm cd doc a vs ns G Y ho hd iI Ke Ji hints hlen yo hg=>?_
 have KX:=hY w _ Y
 obtain ⟨fd,ts,hb,zS,hF⟩:=F w mg fa _ Y KX G.T.g Ke
 exact zb KX G.T.g G.T.b G.T.builtins G.T.nolimit hg Ji hints (afi hlen (by decide)) hr (λ T h=>⟨(zS T h).1,by
   obtain ⟨c,hc⟩:=(zS T h).2
   exact ((W.codeHd_of_K KX hc).tab (zS T h).1).isCodeTable⟩) (hK w) G.T.bmain hF hb (λ H hT hS=>⟨a,ns,rfl,hS,hlen,yo,hT,λ _=>rfl⟩)
section
variable {P:Program} {w:World} {H H':Hp} {f:Addr} {qual:Str} {params:Arguments} {body:Expr} {scope:Scope} {cl:List (Str×Addr)} {fr:List Str} {vals:List V}
theorem o8.mono (L:o8 H f qual params body scope cl fr vals) (h:∀ b o,b<=f->H b=some (Fz o)->H' b=some (Fz o)):o8 H' f qual params body scope cl fr vals:=by
 obtain ⟨name,pm,c',ng,oc,vs,t,h1,h2,h3,h4,h5⟩:=L.fn
 refine ⟨⟨name,pm,c',ng,oc,vs,t,h _ _ (aau _) h1,h _ _ h5 h2,h3,h4,h5⟩,Paired.Jw L.cells λ y v ⟨c,o,u,e1,e2,e3,e4⟩=>?_,λ y c hm=>?_,L.apart⟩
 . obtain ⟨_,_,_,_,le⟩:=L.all y c (acH e1)
   exact ⟨c,o,u,e1,h _ _ le e2,e3,e4⟩
 . obtain ⟨o,v,e1,e2,le⟩:=L.all y c hm
   exact ⟨o,v,h _ _ le e1,e2,le⟩
theorem o8.obj (L:o8 H f qual params body scope cl fr vals):∃ o fd,H f=some (Fz o)/\o.data = .func fd:=by
 obtain ⟨name,pm,c',ng,oc,vs,t,h1,_⟩:=L.fn
 exact ⟨_,_,h1,rfl⟩
theorem o8.cs (L:o8 H f qual params body scope cl fr vals):∀ c∈cl.map (·.2),∃ o,H c=some (Fz o):=λ c hc=>by
 obtain ⟨⟨y,c2⟩,hm,rfl⟩:=List.mem_map.mp hc
 obtain ⟨o,_,e,_⟩:=L.all y c2 hm
 exact ⟨o,e⟩
theorem o8.lt (L:o8 H f qual params body scope cl fr vals) {y:Str} (hy:y∈fr) {n:Addr} (h:∀ z c,(z,c)∈cl->n<c):n<f:=by
 obtain ⟨i,hi,e⟩:=ank hy
 obtain ⟨_,_,c,_,_,ec,_⟩:=io L.cells (i:=i) (x:=y) (by rw [Wz hi,e])
 have m:=acH ec
 obtain ⟨_,_,_,_,le⟩:=L.all y c m
 exact aav (h y c m) le
variable {cs:List Addr}
theorem nP {b:Addr} {o:HO} (hc:∀ c∈cs,∃ o,H c=some (Fz o)) (e:H b=some o) (n:∀ u,o≠Fz u):wo H cs b=some o:=by
 rw [eJ]
 . exact e
 .
  intro hb
  obtain ⟨u,q⟩:=hc b hb
  rw [q] at e
  exact n u (abb e).symm
theorem nI (u:Obj):HO.tup xs≠Fz u:=λ h=>by unfold Fz at h;cases h
theorem nH (s:av (wo H cs) H'):av H (wi H cs H'):=λ b o e=>by
 by_cases hb:b∈cs
 . rw [Bb hb];exact e
 . rw [jc hb];exact s b o (by rw [eJ hb];exact e)
theorem CR.mono {outer:List Env} {s s':Shared} {Q Q':VK} {r:Result} (h:∀ v H',Q v H'->Q' v H') (x:CR l6 outer P w H s Q E0 r s'):CR l6 outer P w H s Q' E0 r s':=by
 cases r with
 | error e=>exact x
 | ok fl =>
   cases fl with
   | ret u =>
     obtain ⟨v,H',a,b,c,d,e,q⟩:=x
     exact ⟨v,H',a,b,c,d,e,h v H' q⟩
   | next=>exact x
   | brk=>exact x
   | cont=>exact x
theorem jz {α β:Type}:∀ {l:List (α×β)},(l.map (·.1)).Nodup->∀ {a b:α×β},a∈l->b∈l->a.1=b.1->a=b
 | [],_,_,_,ha,_,_=>by cases ha
 | c::r,n,a,b,ha,hb,e=>by
   obtain ⟨n1,n2⟩:=List.nodup_cons.mp n
   rcases List.mem_cons.mp ha with ea|ha
   . rcases List.mem_cons.mp hb with eb|hb
     . rw [ea,eb]
     . exact absurd (List.mem_map.mpr ⟨b,hb,by rw [← e,ea]⟩) n1
   . rcases List.mem_cons.mp hb with eb|hb
     . exact absurd (List.mem_map.mpr ⟨a,ha,by rw [e,eb]⟩) n1
     . exact jz n2 ha hb e
theorem Gr.tup {b:Addr} (g:Gr H H') (e:H b=some (.tup xs)):H' b=some (.tup xs):=g b _ e nofun
end
section
variable {P:Program} {w:World} {K:W.Frag} {mg:Str->Option Value} {base:Heap} {x qual m:Str} {st:Stmt} {dV:Value} {f C:Addr} {fd:FuncData} {N ps:List Str} {k:Nat} {sp:Sp} {ds:List Value} {gB:List V}
theorem gx.Mv (F:gx K x qual st dV f fd) (S:au N ps (ai st)) (len:∀ vs H Q E,sp vs H Q E->vs.length=ps.length) (cJ:∀ (aP:Value) (A:Around) (outer:List Env) (s:Shared) (H:Hp) (vs:List V) (Q:VK) (E:XK),bL k (A.deeper (envOfC qual (ai st) s.heap.objs.size f aP))->sp vs H Q E ->
     ∃ t,mP (eZ (mZ P w) P w K mg base N qual (ai st) f aP A outer s H E) (aI st) t/\t { nx:=λ _ H'=>Q .dC H',rt:=Q } (start N vs) H):dn P w K mg base (mZ P w) (k+1) f fd ps sp:=by
 obtain ⟨oc,od,kV,doc,pm,an,aP,ct,nV,rfl,lk,iI⟩:=F.ex
 exact yj lk iI S len λ A outer s H vs Q E hr xW=>cJ aP A outer s H vs Q E hr xW
def iA (P:Program) (w:World) (K:W.Frag) (mg:Str->Option Value) (base:Heap) (C:Addr) (m:Str) (k:Nat) (ps:List Str) (ds:List Value) (sp:Sp):Prop :=
 ∃ f fd,Meth K C m f/\Binds K fd ps ds/\dn P w K mg base (mZ P w) k f fd ps sp
theorem bi.xM (h:bi K C m qual st .none) (S:au N ps (ai st)) (len:∀ vs H Q E,sp vs H Q E->vs.length=ps.length) (hb:∀ (kV doc pm:Value) (an:Option Addr) (aP ct:Value) (us:List Value),us.length=ps.length->bindArgs (W.fnOf m qual (aY st) (aI st) (ai st) .none kV doc pm an aP ct) ⟨us,[]⟩=pure (ps.zip us)) (cJ:∀ (f:Addr) (aP:Value) (A:Around) (outer:List Env) (s:Shared) (H:Hp) (vs:List V) (Q:VK) (E:XK),bL k (A.deeper (envOfC qual (ai st) s.heap.objs.size f aP))->sp vs H Q E ->
     ∃ t,mP (eZ (mZ P w) P w K mg base N qual (ai st) f aP A outer s H E) (aI st) t/\t { nx:=λ _ H'=>Q .dC H',rt:=Q } (start N vs) H):iA P w K mg base C m (k+1) ps [] sp:=by
 obtain ⟨f,fd,M,F⟩:=h
 exact ⟨f,fd,M,F.n8 hb,F.Mv S len λ aP A outer s H vs Q E hr hs=>cJ f aP A outer s H vs Q E hr hs⟩
end
section
variable {X:Cx} {C:Addr} {x:Str} {p pos:Pos} {e:Expr} {es:List Expr} {t:TA} {k k1:Nat} {ps ps1:List Str} {sp sp1:Sp} {ds:List Value} {gB:List V} {E:XK}
theorem oz (D:CW X.prog X.w X.K X.mg X.base x k ps sp) (hr:bL k X.A) (hx:Passes (mZ X.prog X.w) X E) (ha:PA X (e::es) t) (hg:Gl X x:=by rfl) (jM:(x == ("__debug__" : Str))=false:=by decide) (he:starEach (e::es) X.env=(false,eval e X.env)::starEach es X.env:=by rfl) (fD:(backTo pos (starEach es X.env)).any (·.1)=false:=by rfl):PE X (.Call (.Name x p) (e::es) [] pos) (xT sp [] E t):=by
 obtain ⟨f,fd,hm,hk,hb,F⟩:=D
 exact xG F hr hg hm hk hb .nil hx ha jM he fD
theorem eB (M:j3 X.K C) (D:iA X.prog X.w X.K X.mg X.base C "__init__" k ps ds sp) (hd:Vals gB ds) (hr:bL (k+1) X.A) (hx:Passes (mZ X.prog X.w) X E) (hm:X.mg x=some (.ref C)) (ha:PA X (e::es) t) (hg:Gl X x:=by rfl) (jM:(x == ("__debug__" : Str))=false:=by decide) (he:starEach (e::es) X.env=(false,eval e X.env)::starEach es X.env:=by rfl) (fD:(backTo pos (starEach es X.env)).any (·.1)=false:=by rfl):PE X (.Call (.Name x p) (e::es) [] pos) (uF C sp gB E t):=by
 obtain ⟨f,fd,me,hb,F⟩:=D
 exact yz ⟨M.makes,me.at_,me.fn,M.kp⟩ F hr hg hm hb hd hx ha jM he fD
end
inductive A3 (a b c:Prop):Prop|mk (_:a) (_:b) (_:c)
inductive A4 (a b c d:Prop):Prop|mk (_:a) (_:b) (_:c) (_:d)
inductive A5 (a b c d e:Prop):Prop|mk (_:a) (_:b) (_:c) (_:d) (_:e)
inductive A6 (a b c d e f:Prop):Prop|mk (_:a) (_:b) (_:c) (_:d) (_:e) (_:f)
inductive E2 {a b:Type} (p:a->b->Prop):Prop|mk (x:a) (y:b) (_:p x y)
inductive E3 {a b c:Type} (p:a->b->c->Prop):Prop|mk (x:a) (y:b) (z:c) (_:p x y z)
inductive E4 {a b c d:Type} (p:a->b->c->d->Prop):Prop|mk (x:a) (y:b) (z:c) (u:d) (_:p x y z u)
inductive E5 {a b c d e:Type} (p:a->b->c->d->e->Prop):Prop|mk (x:a) (y:b) (z:c) (u:d) (v:e) (_:p x y z u v)
section
variable {X:Cx} {pins:List (Addr×Obj)} {σ:St} {H:Hp} {s:Shared} {d:Addr} {u u':HO}
theorem mG {P:Program} {w:World} {h:Heap} {a:Addr} {o:HO} (e:H d=some u) (h1:∀ xs,u ≠ .tup xs) (h2:∀ y,u ≠ .own y) (ok:bJ P w H h a o):bJ P w (upd H d u') h a o :=
 ok.iK (λ _ _ _ q=>q) (λ b q=>by rw [aq (λ z=>by subst z;rw [e] at q;exact h2 _ (abb q))];exact q) (λ b xs q=>by rw [aq (λ z=>by subst z;rw [e] at q;exact h1 _ (abb q))];exact q)
theorem Inv.G1 (I:Inv X pins σ H s) (e:H d=some u) (h1:∀ xs,u ≠ .tup xs) (h2:∀ y,u ≠ .own y) (h3:∀ ps,u ≠ .jX ps) (h4:∀ o v,X.H₀ d≠some (.nK o v)) (ok:bJ X.prog X.w H s.heap d u'):Inv X pins σ (upd H d u') s:=by
 have ne:∀ {b},H b=none->b≠d:=λ {b} h z=>by subst z;rw [e] at h;cases h
 refine ⟨I.ok,I.os,I.bare,⟨I.base.keep,I.base.slot,λ b o q n hx=>?_,I.base.there,λ b xs q=>?_,λ b o v q=>?_,λ b ps q=>?_⟩,I.loc,I.cell,?_,λ x c q=>?_,λ p hp=>?_,?_,I.len⟩
 . have:=I.base.free b o q n hx
   rw [aq (ne this)];exact this
 . have:=I.base.jN b xs q
   rw [aq (λ z=>by subst z;rw [e] at this;exact h1 _ (abb this))];exact this
 . have:=I.base.iJ b o v q
   rw [aq (λ z=>by subst z;exact h4 _ _ q)];exact this
 . obtain ⟨m,this⟩:=I.base.i4 b ps q
   exact ⟨m,by rw [aq (λ z=>by subst z;rw [e] at this;exact h3 _ (abb this))];exact this⟩
 . rw [aq (ne I.free)];exact I.free
 . have:=I.ge x c q
   rw [aq (ne this)];exact this
 . obtain ⟨a,b,c⟩:=I.pin p hp
   exact ⟨a,by rw [aq (ne b)];exact b,c⟩
 .
  intro b o q
  by_cases hb:b=d
  . subst hb;rw [ac] at q;cases q;exact mG e h1 h2 ok
  . rw [aq hb] at q;exact mG e h1 h2 (I.bo b o q)
abbrev Fd (ob:Obj) (kvs:List (Key×V)):HO:=.nK ob (.dK kvs)
theorem Inv.HW {kvs:List (Key×V)} (I:Inv X pins σ H s) (e:H d=some (.dK kvs)):(∀ o v,X.H₀ d≠some (.nK o v))/\∃ ob,Inv X pins σ (upd H d (Fd ob kvs)) s:=by
 have nf:∀ o v,X.H₀ d≠some (.nK o v):=λ o v q=>by
   have:=I.base.iJ d o v q
   rw [e] at this;cases this
 obtain ⟨z,y,vs,rel,ob,es,ep,hg,r⟩:=Ha I.bo e
 exact ⟨nf,ob,I.G1 e nofun nofun nofun nf ⟨hg,z,y,vs,rel,ob,es,ep,hg,r⟩⟩
theorem Inv.xp {kvs:List (Key×V)} {ob:Obj} (I:Inv X pins σ H s) (nf:∀ o v,X.H₀ d≠some (.nK o v)) (e:H d=some (Fd ob kvs)):Inv X pins σ (upd H d (.dK kvs)) s :=
 I.G1 e nofun nofun nofun nf (I.bo d _ e).2
end
section
variable {X:Cx} {pos:Pos}
inductive Ue (t:TE) (σ:St) (H:Hp) (Q:VK):Prop
 | mk (d kvs:_) (_:H d=some (.dK kvs)) (_:∀ ob,t σ (upd H d (Fd ob kvs)) λ v H'=>H' d=some (Fd ob kvs)/\Q v (upd H' d (.dK kvs)))
theorem D4 {e:Expr} {t:TE} (he:PE X e t):PE X e (Ue t):=by
 rintro pins s σ H Q I ⟨d,kvs,hd,h⟩
 obtain ⟨nf,ob,I1⟩:=I.HW hd
 exact cz (he pins s σ _ _ I1 (h ob)) λ v s1 ⟨x,H1,I2,r,e,q⟩=>⟨x,_,I2.xp nf e,r,q⟩
def Ends.xp (D:Ends) (d:Addr) (ob:Obj) (kvs:List (Key×V)):Ends :=
 ⟨λ σ H=>H d=some (Fd ob kvs)/\D.nx σ (upd H d (.dK kvs)),λ v H=>H d=some (Fd ob kvs)/\D.rt v (upd H d (.dK kvs)),λ σ H=>H d=some (Fd ob kvs)/\D.bk σ (upd H d (.dK kvs)),λ σ H=>H d=some (Fd ob kvs)/\D.ct σ (upd H d (.dK kvs))⟩
def O1 (t:TS):TS:=λ D σ H=>∃ d kvs,H d=some (.dK kvs)/\∀ ob,t (D.xp d ob kvs) σ (upd H d (Fd ob kvs))
theorem FT {st:Stmt} {t:TS} (he:PS X st t):PS X st (O1 t):=by
 rintro pins s σ H D I ⟨d,kvs,hd,h⟩
 obtain ⟨nf,ob,I1⟩:=I.HW hd
 refine cz (he pins s σ _ _ I1 (h ob)) λ f s1 q=>?_
 cases f with
 | next=>obtain ⟨σ',H',I',e,q⟩:=q;exact ⟨σ',_,I'.xp nf e,q⟩
 | brk=>obtain ⟨σ',H',I',e,q⟩:=q;exact ⟨σ',_,I'.xp nf e,q⟩
 | cont=>obtain ⟨σ',H',I',e,q⟩:=q;exact ⟨σ',_,I'.xp nf e,q⟩
 | ret v=>obtain ⟨x,σ',H',I',r,e,q⟩:=q;exact ⟨x,σ',_,I'.xp nf e,r,q⟩
end
theorem Eg {k:Key} {v:Value} (h:oP k v=true):RelV (kV k) v:=by
 rcases cb h with ⟨i,t,rfl,rfl⟩|⟨x,t,rfl,rfl⟩
 . exact ⟨t,rfl⟩
 . exact ⟨t,rfl⟩
def N3 (d:Addr) (ob:Obj) (kvs:List (Key×V)):It :=
 ⟨λ i H=>H d=some (Fd ob kvs)/\i<kvs.length,λ i H x H'=>H'=H/\∃ p,kvs[i]?=some p/\x=kV p.1,λ i H=>H d=some (Fd ob kvs)/\kvs.length<=i⟩
def Q9 (d:Addr) (ob:Obj) (kvs:List (Key×V)):It :=
 ⟨λ i H=>H d=some (Fd ob kvs)/\i<kvs.length,λ i H x H'=>H'=H/\∃ p,kvs[i]?=some p/\x=p.2,λ i H=>H d=some (Fd ob kvs)/\kvs.length<=i⟩
theorem rC {pins:List (Addr×Obj)} {s:Shared} {d:Addr} {ob:Obj} {kvs:List (Key×V)} {es:Array DictEntry} (I:Inv X pins σ H s) (e:H d=some (Fd ob kvs)) (ho:ob.data = .dict es ep) :
   kvs.length<=sizeLine/\(d == sysModules)=false/\∃ vs,KV kvs vs/\s.heap.DictAt (cu X.prog X.w) d vs ep:=by
 obtain ⟨hg,z,y,vs,rel,o,Wu,WO,Hj,hx,hd,r⟩:=I.bo d _ e
 rw [hg] at Hj
 cases Hj
 rw [ho] at hd
 cases hd
 exact ⟨z,y,vs,rel,_,_,hg,hx,ho,r⟩
theorem KV.get {κ:Type}:∀ {kvs:List (κ×V)} {vs:List (κ×Value)} {i:Nat} {p:κ×V},KV kvs vs->kvs[i]?=some p->∃ q,vs[i]?=some q/\p.1=q.1/\RelV p.2 q.2
 | _,_,0,_,.cons r _,e=>by cases e;exact ⟨_,rfl,r⟩
 | _,_,i+1,_,.cons _ t,e=>KV.get (i:=i) t e
theorem yQ {P:Program} {w:World} {K:W.Frag} (d it:Addr) {ob:Obj} {kvs:List (Key×V)} {es:Array DictEntry} (ho:ob.data = .dict es ep):Turn P w K tg (N3 d ob kvs) [it] it (λ i h=>h.IsKeyIter it d i kvs.length ep) where
 mem:=by simp
 obj:=λ i h st b hb=>by
   have e:b=it:=by simpa using hb
   subst e
   obtain ⟨o,e,c,d⟩:=st
   exact ⟨o,e,λ v z=>by rw [d] at z;cases z⟩
 keep:=λ i h h' st k=>st.at λ o e=>k it (by simp) o e
 item:=by
   intro X hP hw hK hc i pins s σ H E I hf st hg
   subst hP hw hK
   obtain ⟨hd,hi⟩:=hg
   obtain ⟨z,y,vs,rel,da⟩:=rC I hd ho
   obtain ⟨q,hq,e1,r2⟩:=KV.get rel (Wz hi)
   obtain ⟨f0,f1,f2,f3,f4,f5⟩:=hf it (by simp)
   have Na:=st
   have ln:kvs.length=vs.length:=rel.length
   rw [ln] at Na
   refine wpAny_pyNext_dict_item Na da (k:=q.1) (v:=q.2) hq λ key h' hk qe sb=>?_
   rw [← ln] at qe
   have I1:Inv X pins σ H { s with heap:=h' }:=I.turned (t':=s.toks) (λ b o hb e=>(sb.2 b hb).trans e) f0 f1 f3 f4 f5
   obtain ⟨o,e,c,d'⟩:=id qe
   exact ⟨key,rfl,vj (s:={ s with heap:=h' }) e c d' (by decide) ⟨kV q.1,H,I1,Eg hk,⟨rfl,_,Wz hi,by rw [e1]⟩,qe,λ b hb=>(hf b hb).1⟩⟩
 done:=by
   intro X hP hw hK hc i pins s σ H E I hf st hg
   subst hP hw hK
   obtain ⟨hd,hi⟩:=hg
   obtain ⟨z,y,vs,rel,da⟩:=rC I hd ho
   obtain ⟨f0,f1,f2,f3,f4,f5⟩:=hf it (by simp)
   have ln:kvs.length=vs.length:=rel.length
   rw [ln] at st
   exact wpAny_pyNext_dict_end (I.ok.hd hc) st da (by rw [amL];lia) λ h' eb=>⟨rfl,I.turned (t':=s.toks) (λ b o hb e=>eb b o hb e) f0 f1 f3 f4 f5⟩
 self:=λ _ _ _ _ _ st h=>wpAny_pyIter_keyiter st h
theorem za {P:Program} {w:World} {K:W.Frag} (d it:Addr) {ob:Obj} {kvs:List (Key×V)} {es:Array DictEntry} (ho:ob.data = .dict es ep):Turn P w K tg (Q9 d ob kvs) [it] it (λ i h=>h.IsValIter it d i kvs.length ep) where
 mem:=by simp
 obj:=λ i h st b hb=>by
   have e:b=it:=by simpa using hb
   subst e
   obtain ⟨o,e,c,d⟩:=st
   exact ⟨o,e,λ v z=>by rw [d] at z;cases z⟩
 keep:=λ i h h' st k=>st.at λ o e=>k it (by simp) o e
 item:=by
   intro X hP hw hK hc i pins s σ H E I hf st hg
   subst hP hw hK
   obtain ⟨hd,hi⟩:=hg
   obtain ⟨z,y,vs,rel,da⟩:=rC I hd ho
   obtain ⟨q,hq,e1,r2⟩:=KV.get rel (Wz hi)
   obtain ⟨f0,f1,f2,f3,f4,f5⟩:=hf it (by simp)
   have Na:=st
   have ln:kvs.length=vs.length:=rel.length
   rw [ln] at Na
   refine wpAny_pyNext_values_item Na da (k:=q.1) (v:=q.2) hq λ h' qe sb=>?_
   rw [← ln] at qe
   have I1:Inv X pins σ H { s with heap:=h' }:=I.turned (t':=s.toks) (λ b o hb e=>(sb.2 b hb).trans e) f0 f1 f3 f4 f5
   obtain ⟨o,e,c,d'⟩:=id qe
   exact ⟨q.2,rfl,vj (s:={ s with heap:=h' }) e c d' (by decide) ⟨_,H,I1,r2,⟨rfl,_,Wz hi,rfl⟩,qe,λ b hb=>(hf b hb).1⟩⟩
 done:=by
   intro X hP hw hK hc i pins s σ H E I hf st hg
   subst hP hw hK
   obtain ⟨hd,hi⟩:=hg
   obtain ⟨z,y,vs,rel,da⟩:=rC I hd ho
   obtain ⟨f0,f1,f2,f3,f4,f5⟩:=hf it (by simp)
   have ln:kvs.length=vs.length:=rel.length
   rw [ln] at st
   exact wpAny_pyNext_values_end (I.ok.hd hc) st da (by rw [amL];lia) λ h' eb=>⟨rfl,I.turned (t':=s.toks) (λ b o hb e=>eb b o hb e) f0 f1 f3 f4 f5⟩
 self:=λ _ _ _ _ _ st h=>wpAny_pyIter_valiter st h
section
variable {X:Cx} {tg:Expr}
def OU (tl:TE):TI:=λ σ H R=>tl σ H λ x H1=>∃ d ob kvs,x = .ref d/\H1 d=some (Fd ob kvs)/\R (N3 d ob kvs) H1
theorem EC {l:Expr} {tl:TE} (hl:PE X l tl):PI X tg l (OU tl):=by
 intro pins s σ H R I h
 refine cz (hl pins s σ H _ I h) λ v s1 ⟨x,H1,I1,r1,q1⟩=>?_
 obtain ⟨d,ob,kvs,e,hd,q⟩:=q1
 subst e
 cases r1
 obtain ⟨hg,_,_,vs,_,o,es,ep,Hj,_,wD,_⟩:=I1.bo d _ hd
 rw [hg] at Hj
 cases Hj
 obtain ⟨z,y,vs,rel,da⟩:=rC I1 hd wD
 refine wpAny_pyIter_dict y da ?_
 refine ⟨s1.heap.objs.size,[s1.heap.objs.size],_,_,H1,rfl,I1.kept (t':=s1.toks) λ b o e=>aao _ e,yQ d _ wD,⟨_,aa4 _ rfl,rfl,by rw [rel.length];rfl⟩,λ b hb=>?_,q⟩
 have e:b=s1.heap.objs.size:=by simpa using hb
 subst e
 exact I1.ux (aau _) (I1.bo.fresh (aau _))
end
section
variable {X:Cx} {tg o:Expr} {to:TE} {apos eU:Pos}
def V1 (to:TE):TI:=λ σ H R=>to σ H λ x H1=>∃ d ob kvs,x = .ref d/\H1 d=some (Fd ob kvs)/\R (Q9 d ob kvs) H1
theorem F8 (ho:PE X o to) (u5:attributeBase o "values" X.env (eval o X.env)=eval o X.env:=by rfl) (vX:(apos.endLine == eU.line)=true:=by rfl):PI X tg (.Call (.Attribute o "values" apos) [] [] eU) (V1 to):=by
 intro pins s σ H R I h
 refine wpAny_Call_method0_late u5 vX (cz (ho pins s σ H _ I h) λ v s1 ⟨x,H1,I1,r1,q1⟩=>?_)
 obtain ⟨d,ob,kvs,e,hd,q⟩:=q1
 subst e
 cases r1
 obtain ⟨hg,_,_,vs,_,o',es,ep,Hj,hx,wD,_⟩:=I1.bo d _ hd
 rw [hg] at Hj
 cases Hj
 obtain ⟨z,y,vs,rel,da⟩:=rC I1 hd wD
 refine ⟨"dict","dict.values",PySem.F.plainAttrs_dict,amS,PySem.F.type_dict_values,da.dictOf.typeIs,λ a e=>?_,amm rfl (ang ?_)⟩
 . cases e
   exact ⟨_,hg,hx.2.1⟩
 .
  refine call_meetsIn amS da.dictOf.typeIs PySem.F.entry_dict_values (PySem.F.args_dict_values_1 _) (meets_dict_values (cu X.prog X.w) d y) ⟨⟨_,da.dictOf⟩,?_⟩
  have da':(s1.heap.push { cls:=.type "dict_values",data:=.fields #[.ref d]}).DictAt (cu X.prog X.w) d vs ep:=da.push _
  refine wpAny_pyIter_values (s:={ s1 with heap:=s1.heap.push { cls:=.type "dict_values",data:=.fields #[.ref d]}}) ⟨_,aa4 _ rfl,rfl,rfl⟩ da' ?_
  have I2:=I1.kept (t':=s1.toks) (h':=s1.heap.push { cls:=.type "dict_values",data:=.fields #[.ref d]}) λ b o e=>aao _ e
  refine ⟨_,[_],_,_,H1,rfl,I2.kept (t':=s1.toks) λ b o e=>aao _ e,za d _ wD,⟨_,aa4 _ rfl,rfl,by rw [rel.length];rfl⟩,λ b hb=>?_,q⟩
  have e:b=(s1.heap.push { cls:=.type "dict_values",data:=.fields #[.ref d]}).objs.size:=by simpa using hb
  subst e
  exact I2.ux (aau _) (I2.bo.fresh (aau _))
inductive Eb  (x:V) (vs:List V) (H:Hp) (Q:VK):Prop
 | mk (a xs:_) (_:x = .ref a) (_:vs=[]) (_:H a=some (.lst xs)) (_:Q .dC (upd H a (.lst [])))
theorem sj:MtR X "list.clear" Eb:=by
 intro pins s σ H x vs v us Q I rx rv h
 obtain ⟨l,xs,rfl,rfl,hH,q⟩:=h
 cases rx
 obtain rfl:=Vals.zero rv
 obtain ⟨z,aR,n,r,e⟩:=(show bJ X.prog X.w H s.heap l (.lst xs) from I.bo l _ hH)
 refine ann F.slot_list_clear ⟨_,e,rfl⟩ F.entry_list_clear (F.args_list_clear_1 _) (AutoSeq1.list_clear_list_0 l aR.toArray n (by rw [abJ,← r.length];exact z)) ⟨e,?_⟩
 exact ⟨.dC,_,I.UA (its':=[]) hH e rfl .nil (afL _),rfl,q⟩
theorem qZ:fG X (.type "dict") (λ xs H Q=>∃ p kvs,xs=[.ref p]/\Rd H p (.dK kvs)/\∀ l,H l=none->Q (.ref l) (upd H l (.dK kvs))):=by
 intro pins s σ H xs us Q I r h
 obtain ⟨p,kvs,rfl,hq,q⟩:=h
 obtain ⟨u,rfl,rx⟩:=vals1 r
 cases rx
 exact Cg I hq λ l s' hl I'=>⟨.ref l,_,I',rfl,q l hl⟩
end
structure MkN (K:W.Frag) (C:Addr):Prop where
 makes:W.makesIn K C=true
 init:W.findIn K (.ref C) "__init__" = some (some (.builtin "object.__init__"))
 kp:W.keepIn K (.ref C)=true
section
variable {X:Cx} {C:Addr} {x:Str} {p pos:Pos}
def JE (C:Addr):TE:=λ _ H Q=>∀ x dx,H x=none->H dx=none->dx≠x->Q (.ref x) (upd (upd H dx (.own x)) x (.ins C dx []))
theorem kP (M:MkN X.K C) (hm:X.mg x=some (.ref C)) (hg:Gl X x:=by rfl) (jM:(x == ("__debug__" : Str))=false:=by decide):PE X (.Call (.Name x p) [] [] pos) (JE C):=by
 intro pins s σ H Q I h
 refine agF (fY I hg hm ?_ jM)
 refine W.callWith_K0 I.ia M.kp (alC ?_)
 have hq:=h (s.heap.objs.size+1) s.heap.objs.size (I.bo.fresh (alL _)) (I.bo.fresh (aau _)) (acl (al2 _))
 have I2:=Inv.made (C:=C) I
 have wu:=I.ia
 obtain ⟨hh,g,d,t,os⟩:=s
 have Y:=W.makes_of (M:=model X.prog X.w) wu M.makes
 refine W.make_core Y (al3 wu M.init) (λ self=>W.Looks.of_pure (W.oi_bind self)) (.inr ⟨rfl,rfl⟩) ?_
 have gi:((hh.push W.emptyDict).push (W.instObj C hh.objs.size)).get? (hh.objs.size+1)=some (W.instObj C hh.objs.size):=by
   have:((hh.push W.emptyDict).push (W.instObj C hh.objs.size)).get? (hh.push W.emptyDict).objs.size=some (W.instObj C hh.objs.size):=aa4 _ rfl
   rwa [al5] at this
 have t1:W.Looks (model X.prog X.w) ((hh.push W.emptyDict).push (W.instObj C hh.objs.size)) (typeOf (.ref (hh.objs.size+1))) (.ref C):=(al7 gi).andThen .now
 have t2:W.Looks (model X.prog X.w) ((hh.push W.emptyDict).push (W.instObj C hh.objs.size)) (isInstance (.ref (hh.objs.size+1)) (.type "object")) true:=t1.andThen (Y.top.keeps λ b o e=>aao _ (aao _ e))
 refine ams W.oi_plain W.entry_oi (@W.check_slot (model X.prog X.w) _ _ _ "object.__init__" "object" "__init__" (.ref (hh.objs.size+1)) [] [] _ W.oi_kind W.oi_split t2 (W.oi_args (.ref (hh.objs.size+1))) ?_)
 show wpAny _ _ (Builtin.«object.__init__» ⟨[.ref (hh.objs.size+1)],[]⟩) _ _ _
 rw [W.oi_run]
 exact aaJ (And.intro rfl ⟨.ref (hh.objs.size+1),_,I2,rfl,hq⟩)
end
section
variable {X:Cx} {C:Addr} {x:Str} {p pos:Pos} {e:Expr} {es:List Expr} {t:TA} {k:Nat} {ps:List Str} {sp:Sp} {ds:List Value} {gB:List V}
theorem FI (M:j3 X.K C) (D:iA X.prog X.w X.K X.mg X.base C "__init__" k ps ds sp) (hd:Vals gB ds) (hr:bL (k+1) X.A) (hm:X.mg x=some (.ref C)) (ha:PA X.Ai (e::es) t) (hg:Gl X x:=by rfl) (jM:(x == ("__debug__" : Str))=false:=by decide) (he:starEach (e::es) X.env=(false,eval e X.env)::starEach es X.env:=by rfl) (fD:(backTo pos (starEach es X.env)).any (·.1)=false:=by rfl) :
   PX X (.Call (.Name x p) (e::es) [] pos) (λ σ H Q E=>t σ H λ vs H1=>∀ x dx,H1 x=none->H1 dx=none->dx≠x->sp (.ref x::(vs++gB)) (upd (upd H1 dx (.own x)) x (.ins C dx [])) (λ v H2=>v = .dC/\Q (.ref x) H2) E):=by
 obtain ⟨f,fd,me,hb,F⟩:=D
 intro pins s σ H Q E I h
 refine agF (fY I hg hm ?_ jM)
 refine al1 (h₀:=X.base) I.ok.mod.wu M.kp (adA (ha pos pins s σ H _ (I.cD _) h) (λ us s1 ⟨vs,H1,I1,r,q⟩=>⟨I1.ia,?_⟩) λ _ _ z=>False.elim z) he fD
 have FE:Inv X pins σ H1 s1:=I1.gK
 have hq:=q (s1.heap.objs.size+1) s1.heap.objs.size (FE.bo.fresh (alL _)) (FE.bo.fresh (aau _)) (acl (al2 _))
 have I2:=Inv.made (C:=C) FE
 have r2:Vals (V.ref (s1.heap.objs.size+1)::(vs++gB)) (Value.ref (s1.heap.objs.size+1)::(us++ds)):=.cons rfl (r.append hd)
 have hl:(Value.ref (s1.heap.objs.size+1)::us++ds).length=ps.length:=by
   have e:=r2.length
   rw [F.len _ _ _ _ hq] at e
   exact e.symm
 refine alC (uZ (f:=f) FE.ia M.makes me.at_ (beq_iff_eq.mp me.fn) (aiL (F.run _ X.stack _ _ ⟨Value.ref (s1.heap.objs.size+1)::us,[]⟩ (Value.ref (s1.heap.objs.size+1)::(us++ds)) _ _ E (hr.make C us [])
   (I2.yS.make C us []) (hb _ (Value.ref (s1.heap.objs.size+1)::us) I2.ia hl) r2 hq) λ r s' wl=>?_))
 cases r with
 | error e=>exact ⟨_,_,I2,wl⟩
 | ok fl =>
   cases fl with
   | ret u =>
     obtain ⟨v,H',I3,rv,ev,q3⟩:=I2.after wl
     subst ev
     exact ⟨rv,⟨V.ref (s1.heap.objs.size+1),H',I3,rfl,q3⟩⟩
   | next=>exact False.elim wl
   | brk=>exact False.elim wl
   | cont=>exact False.elim wl
end
theorem zn {d:Addr} {ob:Obj} {kvs:List (Key×V)} {tt:TT} {te:TE} {D:Addr} {Q:Hp->Prop} (Pv:Nat->List V->St->Hp->Prop) (h0:Pv 0 [] σ H) (hl:∀ i acc σ H,i<=kvs.length->Pv i acc σ H->H d=some (Fd ob kvs)) (hs:∀ i p acc σ H,kvs[i]?=some p->Pv i acc σ H->g (kV p.1) σ H λ σ2 H3=>tt σ2 H3 λ b H4 =>
     if b=true then te σ2 H4 λ y H5=>H5 D=some (.lst acc)/\acc.length<sizeLine/\Pv (i+1) (acc++[y]) σ2 (upd H5 D (.lst (acc++[y]))) else Pv (i+1) acc σ2 H4) (hd:∀ acc σ H,Pv kvs.length acc σ H->Q H) :
   ∃ W:Nat->Nat->List V->St->Hp->Prop,(∃ m,W 0 m [] σ H)/\∀ i m acc σ' H',W i m acc σ' H'->((N3 d ob kvs).stop i H'/\Q H') ∨
     ((N3 d ob kvs).go i H'/\∃ N:List V->St->Hp->Prop,(∀ fy σ2 H4,N fy σ2 H4->∃ m',m'<m/\W (i+1) m' fy σ2 H4)/\∀ x H2,(N3 d ob kvs).Ah i H' x H2->g x σ' H2 λ σ2 H3=>tt σ2 H3 λ b H4 =>
       if b=true then te σ2 H4 λ y H5=>H5 D=some (.lst acc)/\acc.length<sizeLine/\N (acc++[y]) σ2 (upd H5 D (.lst (acc++[y]))) else N acc σ2 H4):=by
 refine ⟨λ i m acc σ H=>m=kvs.length - i/\i<=kvs.length/\Pv i acc σ H,⟨kvs.length,by simp,afL _,h0⟩,?_⟩
 rintro i m acc σ H ⟨rfl,hi,p⟩
 have q:=hl i acc σ H hi p
 by_cases dF:i<kvs.length
 .
  refine .inr ⟨⟨q,dF⟩,Pv (i+1),λ fy σ' H' p'=>⟨kvs.length - (i+1),by lia,rfl,dF,p'⟩,λ x H' y=>?_⟩
  obtain ⟨e,r,y,e2⟩:=y
  subst e e2
  exact hs i r acc σ _ y p
 . have e:i=kvs.length:=by lia
   subst e
   exact .inl ⟨⟨q,aau _⟩,hd acc σ H p⟩
theorem Bx {d:Addr} {ob:Obj} {kvs:List (Key×V)} {tb:TS} {D:Ends} (Pv:Nat->St->Hp->Prop) (h0:Pv 0 σ H) (hl:∀ i σ H,i<=kvs.length->Pv i σ H->H d=some (Fd ob kvs)) (hs:∀ i p σ H,kvs[i]?=some p->Pv i σ H->g p.2 σ H λ σ2 H2=>tb { D with nx:=Pv (i+1),ct:=Pv (i+1),bk:=D.nx } σ2 H2) (hd:∀ σ H,Pv kvs.length σ H->D.nx σ H) :
   ∃ W:Nat->Nat->St->Hp->Prop,(∃ m,W 0 m σ H)/\∀ i m σ H,W i m σ H ->
     ((Q9 d ob kvs).stop i H/\D.nx σ H)∨((Q9 d ob kvs).go i H/\∃ N:St->Hp->Prop,(∀ σ' H',N σ' H'->∃ m',m'<m/\W (i+1) m' σ' H')/\∀ x H',(Q9 d ob kvs).Ah i H x H'->g x σ H' λ σ2 H2=>tb { D with nx:=N,ct:=N,bk:=D.nx } σ2 H2):=by
 refine ⟨λ i m σ H=>m=kvs.length - i/\i<=kvs.length/\Pv i σ H,⟨kvs.length,by simp,afL _,h0⟩,?_⟩
 rintro i m σ H ⟨rfl,hi,p⟩
 have q:=hl i σ H hi p
 by_cases dF:i<kvs.length
 .
  refine .inr ⟨⟨q,dF⟩,Pv (i+1),λ σ' H' p'=>⟨kvs.length - (i+1),by lia,rfl,dF,p'⟩,λ x H' y=>?_⟩
  obtain ⟨e,r,y,e2⟩:=y
  subst e e2
  exact hs i r σ _ y p
 . have e:i=kvs.length:=by lia
   subst e
   exact .inl ⟨⟨q,aau _⟩,hd σ H p⟩
def i3 (l:List Nat) (b:Nat):Nat:=l.foldl (λ a r=>a ||| 2 ^ r) b
theorem nU:∀ (l:List Nat) (b j:Nat),(i3 l b).testBit j=(b.testBit j || decide (j∈l))
 | [],b,j=>by simp [i3]
 | i::l,b,j=>by
   show (i3 l (b ||| 2 ^ i)).testBit j=_
   rw [nU l,amK,anh]
   by_cases h:i=j
   . subst h;simp
   . have h2:¬ j=i:=λ e=>h e.symm
     simp [h,h2]
theorem Aj {l:List Nat} {i r:Nat} (h:l[i]?=some r):i3 (l.take (i+1)) 0=i3 (l.take i) 0 ||| 2 ^ r:=by
 have:l.take (i+1)=l.take i++[r]:=by rw [ahe,h];rfl
 rw [this]
 unfold i3
 rw [List.foldl_append]
 rfl
def Ld (P:Program) (w:World) (K:W.Frag) (mg:Str->Option Value) (base:Heap) (k:Nat) (f:Addr) (vs:List V) (H:Hp) (Q:VK):Prop:=∀ (A:Around) (st:List Env) (s:Shared) (us:List Value),bL k A->pT P w K mg base A st s H->Vals vs us ->
 codeAny (model P w) A (.call (.ref f) ⟨us,[]⟩) (CR l6 st P w H s Q E0) s
inductive FV (P:Program) (w:World) (K:W.Frag) (mg:Str->Option Value) (base:Heap) (k i:Nat) (t:TA) (σ:St) (H:Hp) (Q:VK):Prop
 | mk (f o fd:_) (_:σ[i]?=some (some (.ref f))) (_:o.data = .func fd) (_:t σ H (λ vs H1=>H1 f=some (Fz o)/\Ld P w K mg base k f vs H1 Q))
section
variable {X:Cx} {P:Program} {w:World} {K:W.Frag} {mg:Str->Option Value} {base:Heap} {i k:Nat} {x:Str} {p pos:Pos} {e:Expr} {es:List Expr} {t:TA}
theorem zX (hX:X.prog=P/\X.w=w/\X.K=K/\X.mg=mg/\X.base=base) (hr:bL k X.A) (hN:X.N[i]?=some x) (hv:Jh X.env.scope x) (ha:PA X (e::es) t) (hd:(x == ("__debug__" : Str))=false:=by decide) (iI:(x == ("__classdict__" : Str))=false:=by decide) (he:starEach (e::es) X.env=(false,eval e X.env)::starEach es X.env:=by rfl):PE X (.Call (.Name x p) (e::es) [] pos) (FV P w K mg base k i t):=by
 obtain ⟨rfl,rfl,rfl,rfl,rfl⟩:=hX
 intro pins s σ H Q I h
 obtain ⟨f,o,fd,hf,JM,h⟩:=h
 obtain ⟨m,hn,hl⟩:=I.loc
 obtain ⟨u,r,l⟩:=hl i x _ hN hf hv
 obtain rfl:u = .ref f:=r
 have fin:wpAny (model X.prog X.w) X.A (callWith pos (.ref f) [] (backTo pos (starEach (e::es) X.env)) (backToKw pos (keywordEach [] X.env))) (EP X pins σ Q) X.xe s:=by
   refine amJ (o:=o) JM (cz (ha pos pins s σ H _ I h) λ us s1 ⟨vs,H1,I1,rv,q1,q2⟩=>⟨jh I1.bo q1,?_⟩) he
   refine alC (aiL (q2 X.A X.stack s1 us hr I1.yS rv) λ r s' hq=>?_)
   cases r with
   | error e=>exact False.elim hq
   | ok fl =>
     cases fl with
     | ret u=>exact I1.after hq
     | next=>exact False.elim hq
     | brk=>exact False.elim hq
     | cont=>exact False.elim hq
 refine agF ?_
 rcases l with ⟨hk,hm⟩|⟨hk,c,hc,cw⟩
 . exact alD (alP I.ok.kind hk hn hm fin) hd
 . rcases hk with hk|hk
   . exact alD (alZ I.ok.kind hk hc cw fin) hd
   . exact alD (amz I.ok.kind hk hc cw fin iI) hd
end
section
variable {P:Program} {w:World} {K:W.Frag} {mg:Str->Option Value} {base:Heap} {x qual m:Str} {st:Stmt} {dV:Value} {f C:Addr} {fd:FuncData} {N ps:List Str} {k:Nat} {sp:Sp} {ds:List Value} {gB:List V}
def EI (P:Program) (w:World) (K:W.Frag) (mg:Str->Option Value) (base:Heap) (C:Addr) (m qual:Str) (st:Stmt) (dV:Value) (k:Nat) (ps:List Str) (sp:Sp):Prop :=
 ∃ f fd,Meth K C m f/\gx K m qual st dV f fd/\dn P w K mg base (mZ P w) k f fd ps sp
def om (P:Program) (w:World) (K:W.Frag) (mg:Str->Option Value) (base:Heap) (C:Addr) (m:Str) (k:Nat) (ps:List Str) (gB:List V) (sp:Sp):Prop :=
 ∃ ds,Vals gB ds/\iA P w K mg base C m k ps ds sp
theorem bi.ahS (h:bi K C m qual st dV) (S:au N ps (ai st)) (len:∀ vs H Q E,sp vs H Q E->vs.length=ps.length) (cJ:∀ (f:Addr) (aP:Value) (A:Around) (outer:List Env) (s:Shared) (H:Hp) (vs:List V) (Q:VK) (E:XK),bL k (A.deeper (envOfC qual (ai st) s.heap.objs.size f aP))->sp vs H Q E ->
     ∃ t,mP (eZ (mZ P w) P w K mg base N qual (ai st) f aP A outer s H E) (aI st) t/\t { nx:=λ _ H'=>Q .dC H',rt:=Q } (start N vs) H):EI P w K mg base C m qual st dV (k+1) ps sp:=by
 obtain ⟨f,fd,M,F⟩:=h
 exact ⟨f,fd,M,F,F.Mv S len λ aP A outer s H vs Q E hr hs=>cJ f aP A outer s H vs Q E hr hs⟩
theorem EI.xM {T:Addr} {Ta:List V} (h:EI P w K mg base C m qual st (.ref T) k ps sp) (hT:VG K T Ta) (hb:∀ items:Array Value,Vals Ta items.toList->∃ ds,Vals gB ds/\∀ (kV doc pm:Value) (an:Option Addr) (aP ct:Value) (us:List Value),(us++ds).length=ps.length->∃ k,bindArgs (W.fnOf m qual (aY st) (aI st) (ai st) (.ref T) kV doc pm an aP ct) ⟨us,[]⟩=seqItems? (.ref T) >>= k/\k (some items)=pure (ps.zip (us++ds))) :
   om P w K mg base C m k ps gB sp:=by
 obtain ⟨f,fd,M,F,O⟩:=h
 obtain ⟨o,n,items,hT,ho,hv⟩:=hT
 obtain ⟨ds,hd,hb⟩:=hb items hv
 exact ⟨ds,hd,f,fd,M,F.binds hT ho hb,O⟩
theorem iA.Jr (D:iA P w K mg base C m k ps ds sp):bD P w K mg base C m k ps ds (λ vs H Q _=>sp vs H Q E0) :=
 let ⟨f,fd,a,b,d⟩:=D;⟨f,fd,a,b,d.Jr⟩
theorem om.Jr (D:om P w K mg base C m k ps gB sp):CB P w K mg base C m k ps gB (λ vs H Q _=>sp vs H Q E0) :=
 let ⟨ds,a,b⟩:=D;⟨ds,a,b.Jr⟩
theorem IZ {a:V} {items:Array Value} (h:Vals [a] items.toList):∃ u,items=#[u]/\RelV a u:=by
 obtain ⟨l⟩:=items
 cases h with
 | cons h1 h=>cases h with
   | nil=>exact ⟨_,rfl,h1⟩
def Cs (P:Program) (w:World) (K:W.Frag) (mg:Str->Option Value) (base:Heap) (C:Addr) (m:Str) (k:Nat) (ps:List Str) (sp:Sp):Prop :=
 ∃ f fd,Br K C m f/\Binds K fd ps []/\dn P w K mg base (mZ P w) k f fd ps sp
theorem CN (h:∃ f fd,Br K C m f/\gx K m qual st .none f fd) (hb:∀ (kV doc pm:Value) (an:Option Addr) (aP ct:Value) (us:List Value),us.length=ps.length->bindArgs (W.fnOf m qual (aY st) (aI st) (ai st) .none kV doc pm an aP ct) ⟨us,[]⟩=pure (ps.zip us)) (hf:∀ f fd,gx K m qual st .none f fd->dn P w K mg base (mZ P w) k f fd ps sp):Cs P w K mg base C m k ps sp:=by
 obtain ⟨f,fd,M,F⟩:=h
 exact ⟨f,fd,M,F.n8 hb,hf f fd F⟩
theorem bi.ofX (h:bi K C m qual st .none) (hb:∀ (kV doc pm:Value) (an:Option Addr) (aP ct:Value) (us:List Value),us.length=ps.length->bindArgs (W.fnOf m qual (aY st) (aI st) (ai st) .none kV doc pm an aP ct) ⟨us,[]⟩=pure (ps.zip us)) (hf:∀ f fd,gx K m qual st .none f fd->dn P w K mg base (mZ P w) k f fd ps sp):iA P w K mg base C m k ps [] sp:=by
 obtain ⟨f,fd,M,F⟩:=h
 exact ⟨f,fd,M,F.n8 hb,hf f fd F⟩
end
section
variable {X:Cx} {C:Addr} {m x:Str} {p pos apos:Pos} {e o:Expr} {es:List Expr} {t:TA} {k:Nat} {ps:List Str} {sp:Sp} {gB:List V} {E:XK}
theorem y6 (M:j3 X.K C) (D:om X.prog X.w X.K X.mg X.base C "__init__" k ps gB sp) (hr:bL (k+1) X.A) (hx:Passes (mZ X.prog X.w) X E) (hm:X.mg x=some (.ref C)) (ha:PA X (e::es) t) (hg:Gl X x:=by rfl) (jM:(x == ("__debug__" : Str))=false:=by decide) (he:starEach (e::es) X.env=(false,eval e X.env)::starEach es X.env:=by rfl) (fD:(backTo pos (starEach es X.env)).any (·.1)=false:=by rfl):PE X (.Call (.Name x p) (e::es) [] pos) (uF C sp gB E t):=by
 obtain ⟨ds,hd,D⟩:=D
 exact eB M D hd hr hx hm ha hg jM he fD
theorem FM {pl:Sem Bool} (c:Cs X.prog X.w X.K X.mg X.base C m k ps sp) (hr:bL k X.A) (hx:Passes (mZ X.prog X.w) X E) (hm:X.mg x=some (.ref C)) (ha:PA X (e::es) t) (hg:Gl X x:=by rfl) (jM:(x == ("__debug__" : Str))=false:=by decide) (i5:starEach (e::es) X.env=(false,eval e X.env)::starEach es X.env:=by rfl) (fD:(backTo pos (starEach es X.env)).any (·.1)=false:=by rfl) (ht:eval (.Call (.Attribute (.Name x p) m apos) (e::es) [] pos) X.env=(do
     let ov ← eval (.Name x p) X.env
     standAt apos.atName
     let (f,first) ← holding [ov] (getMethod ov m pl)
     callWith pos f first (backTo pos (starEach (e::es) X.env)) (backToKw pos (keywordEach [] X.env))):=by rfl) :
   PE X (.Call (.Attribute (.Name x p) m apos) (e::es) [] pos) (xT sp [] E t):=by
 obtain ⟨f,fd,c,hb,F⟩:=c
 have he:PE X (.Name x p) (tC (.ref C)):=fe (v:=V.ref C) hg hm rfl jM
 intro pins s σ H Q I h
 refine am7 (pl:=pl) (cz (he pins s σ H (λ v H1=>v = .ref C/\H1=H) I ⟨rfl,rfl⟩) λ u s1 z=>?_) ht
 obtain ⟨v,H1,I1,rx,rfl,rfl⟩:=z
 obtain rfl:u=Value.ref C:=rx
 obtain ⟨mc,h1,h2⟩:=c.rd
 refine W.method_cls I1.ia c.ga (W.cls_value I1.ia h1 h2 rfl ?_)
 have I2:Inv X pins σ H1 { s1 with toks:=s1.toks+1 }:=I1.tok _
 refine al1 (first:=[]) (h₀:=X.base) I.ok.mod.wu c.kp (cz (ha pos pins _ σ H1 _ I2 h) λ us s2 ⟨vs,H2,I3,r,q2⟩=>⟨I3.ia,?_⟩) i5 fD
 exact sJ (us:=us) (vs:=vs) F hr hb .nil hx I3 r q2
end
end L2
namespace PySem
open Sem (wp)
mutual
def kd:PyData->Bool
 | .bool _=>true
 | .int _=>true
 | .tuple ds=>sV ds
 | _=>false
def sV:List PyData->Bool
 | []=>true
 | d::ds=>kd d && sV ds
end
mutual
def mW:PyData->PyData
 | .bool b => .int (if b then 1 else 0)
 | .tuple ds => .tuple (iL ds)
 | d=>d
def iL:List PyData->List PyData
 | []=>[]
 | d::ds=>mW d::iL ds
end
mutual
def pC:PyData->Nat
 | .tuple ds=>ox ds+1
 | _=>0
def ox:List PyData->Nat
 | []=>0
 | d::ds=>max (pC d) (ox ds)
end
mutual
def mK:PyData->Int
 | .int i=>hashInt i
 | .bool b=>hashInt (if b then 1 else 0)
 | .tuple ds=>reduceHash (Builtin.Tuple.tupleHashOf (iW ds))
 | _=>0
def iW:List PyData->List Int
 | []=>[]
 | d::ds=>mK d::iW ds
end
mutual
def mH:PyData->Nat
 | .tuple ds=>j7 ds+1
 | _=>1
def j7:List PyData->Nat
 | []=>0
 | d::ds=>mH d+j7 ds
end
mutual
theorem rz:∀ d,kd d=true->mK (mW d)=mK d
 | .bool b,_=>by simp only [mW,mK]
 | .int i,_=>by simp only [mW,mK]
 | .tuple ds,h=>by simp only [mW,mK];rw [oK ds h]
 | .none,_ | .str _,_ | .list _,_ | .dict _,_=>by simp only [mW]
theorem oK:∀ ds,sV ds=true->iW (iL ds)=iW ds
 | [],_=>rfl
 | d::ds,h=>by
   rw [sV,ajp] at h
   simp only [iL,iW]
   rw [rz d h.1,oK ds h.2]
end
mutual
theorem sd:∀ d,mH (mW d)=mH d
 | .bool b=>by simp only [mW,mH]
 | .tuple ds=>by simp only [mW,mH];rw [n9 ds]
 | .int _ | .none | .str _ | .list _ | .dict _=>by simp only [mW]
theorem n9:∀ ds,j7 (iL ds)=j7 ds
 | []=>rfl
 | d::ds=>by
   simp only [iL,j7]
   rw [sd d,n9 ds]
end
mutual
theorem sG:∀ (d e:PyData),kd d=true->kd e=true->(PyData.eqv d e=true↔mW d=mW e)
 | .bool a,.bool b,_,_=>by cases a<;>cases b<;>simp [PyData.eqv,mW]
 | .bool a,.int j,_,_=>by simp [PyData.eqv,mW]
 | .int i,.bool b,_,_=>by simp [PyData.eqv,mW]
 | .int i,.int j,_,_=>by simp [PyData.eqv,mW]
 | .tuple xs,.tuple ys,h,k=>by
   simp only [PyData.eqv,mW,PyData.tuple.injEq]
   exact n6 xs ys h k
 | .bool _,.tuple _,_,_ | .int _,.tuple _,_,_ | .tuple _,.bool _,_,_ | .tuple _,.int _,_,_=>by simp [PyData.eqv,mW]
theorem n6:∀ (ds es:List PyData),sV ds=true->sV es=true->(PyData.eqvAll ds es=true↔iL ds=iL es)
 | [],[],_,_=>by simp [PyData.eqvAll,iL]
 | [],_::_,_,_=>by simp [PyData.eqvAll,iL]
 | _::_,[],_,_=>by simp [PyData.eqvAll,iL]
 | d::ds,e::es,h,k=>by
   rw [sV,ajp] at h k
   simp only [PyData.eqvAll,iL,ajp,List.cons.injEq]
   rw [sG d e h.1 k.1,n6 ds es h.2 k.2]
end
section
variable {prog:Program} {w:World} {E:Value->Shared->Prop}
set_option maxHeartbeats 0 in
mutual
theorem pD:∀ (d:PyData) (v:Value) (as:List Addr) (A:Around) (s:Shared) (Q:Int->Shared->Prop),kd d=true->Reads s.heap v d as->A.units+pC d<cLine ->
   Q (mK d) { s with toks:=s.toks+mH d }->wpAny (model prog w) A (pyHash v) Q E s
 | .int i,_,_,A,s,Q,_,x,_,h=>by cases x;exact wpAny_pyHash_int h
 | .bool b,_,_,A,s,Q,_,x,hu,h=>by
   cases x
   refine W.pyHash_slot (T:="bool") rfl F.slot_bool_hash entry_int_hash (args_int_hash _) (beq_builtin_none _) (.inl rfl) ?_
   cases b
   . exact (show wpAny _ _ (do ret (← mkInt 0)) _ _ s from wF (wpAny_mkInt (aaJ ⟨_,_,rfl,h⟩)))
   . exact (show wpAny _ _ (do ret (← mkInt 1)) _ _ s from wF (wpAny_mkInt (aaJ ⟨_,_,rfl,h⟩)))
 | .tuple ds,_,_,A,s,Q,hk,x,hu,h=>by
   cases x with
   | @tuple a o vs n _ _ hg hc hd hr =>
     rw [pC] at hu
     refine W.pyHash_slot (T:="tuple") ⟨_,hg,hc⟩ F.slot_tuple_hash F.entry_tuple_hash (F.args_tuple_hash_1 _) (beq_builtin_none _) (.inr (by lia)) ?_
     show wpAny _ _ (Builtin.Tuple.tupleItemsOf (.ref a) >>= _) _ _ s
     refine wF (wpAny_tupleItemsOf hg hd ?_)
     refine wF ?_
     rw [← ano]
     refine mC ds vs.toList _ A.in1 s #[] _ hk hr (by rw [Around.in1_units];lia) λ b hb=>?_
     show wpAny _ _ (retInt (Builtin.Tuple.tupleHashOf b.toList)) _ _ _
     rw [hb]
     exact wF (wpAny_mkInt (aaJ ⟨_,_,rfl,h⟩))
 | .none,_,_,_,_,_,hk,_,_,_ | .str _,_,_,_,_,_,hk,_,_,_ | .list _,_,_,_,_,_,hk,_,_,_ | .dict _,_,_,_,_,_,hk,_,_,_=>by rw [kd] at hk<;>first|cases hk|nofun
theorem mC:∀ (ds:List PyData) (vs:List Value) (as:List Addr) (A:Around) (s:Shared) (b:Array Int) (Q:Array Int->Shared->Prop),sV ds=true->ReadsAll s.heap vs ds as->A.units+ox ds<cLine ->
   (∀ b',b'.toList=b.toList++iW ds->Q b' { s with toks:=s.toks+j7 ds }) ->
   wpAny (model prog w) A (forIn vs b λ x r=>do let h ← pyHash x;pure PUnit.unit;pure (ForInStep.yield (r.push h))) Q E s
 | [],_,_,A,s,b,Q,_,x,_,h=>by cases x;exact aaJ (h b (by simp [iW]))
 | d::ds,_,_,A,s,b,Q,hk,x,hu,h=>by
   cases x with
   | cons x1 x2 =>
     rw [sV,ajp] at hk
     rw [ox] at hu
     rw [amG]
     refine wF (wF (pD d _ _ A s _ hk.1 x1 (by lia) ?_))
     refine wF (aaJ (aaJ ?_))
     exact mC ds _ _ A { s with toks:=s.toks+mH d } _ Q hk.2 x2 (by lia) λ b' hb=>by
       have:=h b' (by simp [hb,iW])
       rw [j7,← am0] at this
       exact this
end
set_option maxHeartbeats 0 in
theorem mv:∀ (n:Nat) (d:PyData) (v:Value) (as:List Addr) (A:Around) (s:Shared) (Q:Bool->Shared->Prop),kd d=true->pC d<=n->Reads s.heap v d as->Q true s->wpAny (model prog w) A (eqIsQuiet n v) Q E s
 | n,.int i,_,_,A,s,Q,_,_,x,h=>by cases x;rw [eqIsQuiet_byValue n rfl];exact aaJ h
 | n,.bool i,_,_,A,s,Q,_,_,x,h=>by cases x;rw [eqIsQuiet_byValue n rfl];exact aaJ h
 | 0,.tuple ds,_,_,A,s,Q,_,hn,_,_=>by rw [pC] at hn;lia
 | n+1,.tuple ds,_,_,A,s,Q,hk,hn,x,h=>by
   cases x with
   | @tuple a o vs m _ _ hg hc hd hr =>
     rw [pC] at hn
     unfold eqIsQuiet
     refine wF (amo ⟨_,hg,hc⟩ F.slot_tuple_eq.lookup ?_)
     show wpAny _ _ (isInstance (.ref a) (.type "tuple") >>= _) _ _ s
     refine wF (wpAny_isInstance ⟨_,hg,hc⟩ isSubtype_tuple_tuple ?_)
     simp only [amq,alV,amb]
     refine wF (anf hg hd ?_)
     refine wF ?_
     show wpAny _ _ (forIn vs _ _) _ _ s
     rw [← ano]
     refine wpAny_forIn_list _ (λ rest r s'=>r.1=none/\s'=s/\∃ es as',sV es=true/\ox es<=n/\ReadsAll s.heap rest es as') _ ?_ ?_ _ _ ⟨rfl,rfl,ds,_,hk,by lia,hr⟩
     .
      rintro v rest r s' ⟨hr,rfl,es,as',h1,h2,h3⟩
      cases h3 with
      | @cons _ _ e es _ _ x1 x2 =>
        rw [sV,ajp] at h1
        rw [ox] at h2
        refine wF (mv n e v _ _ _ _ h1.1 (by lia) x1 ?_)
        simp only [amq,alV,amb]
        exact aaJ ⟨rfl,rfl,es,_,h1.2,by lia,x2⟩
     . rintro ⟨r1,r2⟩ s' ⟨hq,rfl,_⟩
       have hq:r1=none:=hq
       subst hq
       exact aaJ h
 | _,.none,_,_,_,_,_,hk,_,_,_|_,.str _,_,_,_,_,_,hk,_,_,_|_,.list _,_,_,_,_,_,hk,_,_,_|_,.dict _,_,_,_,_,_,hk,_,_,_=>by rw [kd] at hk<;>first|cases hk|nofun
theorem DJ {a b:Addr} {d e:PyData} {as bs:List Addr} {A:Around} {s:Shared} {Q:Bool->Shared->Prop} (ra:Reads s.heap (.ref a) d as) (rb:Reads s.heap (.ref b) e bs) (ha:SeqAt.shaped d=true) (hb:SeqAt.shaped e=true) (ka:kd d=true) (kb:kd e=true) (hu:A.units+64<cLine)
   (h:Q (PyData.eqv d e) s):wpAny (model prog w) A (eqBool (.ref a) (.ref b)) Q E s:=by
 unfold eqBool
 try with_reducible refine aj3 ?_
 show wpAny _ _ (if (Value.ref a == Value.ref b)=true then _ else _) Q E s
 by_cases hab:(Value.ref a == Value.ref b)=true
 .
  rw [aeA hab]
  have z:a=b:=by have:=eq_of_beq hab;injection this
  subst z
  obtain rfl:=(Reads.unique ra _ _ rb).1
  rw [(sG d d ka ka).mpr rfl] at h
  exact wF (wpAny_rule (aaJ h))
 . rw [adH hab]
   exact wF (show wpAny _ _ (compareOp .Eq (.ref a) (.ref b)) _ _ _ from SeqAt.compareEq_shaped ra rb ha hb hu (aiV h))
end
mutual
theorem j4 {h h':Heap} (hk:∀ b o,h.get? b=some o->∀ n vs,o.data = .seq vs n->h'.get? b=some o):∀ (d:PyData) {v:Value} {as:List Addr},kd d=true->Reads h v d as->Reads h' v d as
 | _,_,_,_,.none => .none
 | _,_,_,_,.bool b => .bool b
 | _,_,_,_,.int i t => .int i t
 | _,_,_,_,.str x t => .str x t
 | _,_,_,k,.tuple h1 h2 h3 h4 => .tuple (hk _ _ h1 _ _ h3) h2 h3 (mr hk _ k h4)
 | _,_,_,k,.list h1 h2 h3 h4=>by rw [kd] at k<;>first|cases k|nofun
 | _,_,_,k,.dict h1 h2 h3 h4 h5=>by rw [kd] at k<;>first|cases k|nofun
theorem mr {h h':Heap} (hk:∀ b o,h.get? b=some o->∀ n vs,o.data = .seq vs n->h'.get? b=some o):∀ (ds:List PyData) {vs:List Value} {as:List Addr},sV ds=true->ReadsAll h vs ds as->ReadsAll h' vs ds as
 | _,_,_,_,.nil => .nil
 | _,_,_,k,.cons h1 h2 => .cons (j4 hk _ (Bool.and_eq_true_iff.mp k).1 h1) (mr hk _ (Bool.and_eq_true_iff.mp k).2 h2)
end
noncomputable instance:DecidableEq PyData:=λ a b=>Classical.propDecidable (a=b)
def wM (h:Heap) (k:PyData) (a:Addr):Prop:=∃ d as,Reads h (.ref a) d as/\kd d=true/\SeqAt.shaped d=true/\pC d<=8/\mW d=k
noncomputable def jd (prog:Program) (w:World):HeapKind prog w PyData where
 is:=wM
 hash:=mK
 draws:=mH
 room:=λ A=>A.units+64<cLine
 inj:=λ ⟨d,_,r,_,_,_,e⟩ ⟨d',_,r',_,_,_,e'⟩=>by
   obtain rfl:=(Reads.unique r _ _ r').1
   exact e.symm.trans e'
 keeps:=λ {h h' k a d o es ep} x ho hd hs=>by
   obtain ⟨x,as,r,k1,k2,k3,e⟩:=x
   refine ⟨x,as,j4 (λ b ob q m vs hv=>?_) x k1 r,k1,k2,k3,e⟩
   rw [hs.2 b λ z=>?_]
   . exact q
   . subst z
     rw [ho] at q
     cases q
     rw [hd] at hv
     cases hv
 pyHash:=λ {A E s k a Q} hu ⟨d,as,r,k1,k2,k3,e⟩ h=>by
   subst e
   rw [rz d k1,sd d] at h
   exact pD d _ as A s Q k1 r (by lia) h
 eqBool:=λ {A E s x y a b Q} hu ⟨d,as,r,k1,k2,k3,e⟩ ⟨d',as',r',k1',k2',k3',e'⟩ h=>by
   subst e e'
   refine DJ r r' k2 k2' k1 k1' hu ?_
   have q:PyData.eqv d d'=decide (mW d=mW d'):=by
     rw [alN,anm]
     exact sG d d' k1 k1'
   rw [q]
   exact h
 quiet:=λ {A E s k a Q} ⟨d,as,r,k1,k2,k3,e⟩ h=>mv 8 d _ as A s Q k1 k3 r h
end PySem
namespace L2
open PySem PySem.Spec PyProof.Rows Mth
variable {D:L2.Ends} {H H':Hp} {Wt Wk V8 a2 a3 a4 a5 a6 a7 a8 a9:TS} {elts:List Expr} {uO:Pos} {x1:Nat}
mutual
theorem xH:∀ d:PyData,kd d=true->iP d=true
 | .bool _,_=>by simp [iP]
 | .int _,_=>by simp [iP]
 | .tuple ds,h=>mD.mpr (vb ds h)
 | .none,h | .str _,h | .list _,h | .dict _,h=>by rw [kd] at h<;>first|cases h|nofun
theorem vb:∀ ds:List PyData,sV ds=true->∀ d∈ds,iP d=true
 | [],_,d,h=>absurd h acn
 | e::ds,h,d,m=>by
   rw [sV,ajp] at h
   rcases List.mem_cons.mp m with z|z
   . rw [z];exact xH e h.1
   . exact vb ds h.2 d z
end
def hV (K:W.Frag) (H:Hp) (k:PyData) (b:Addr):Prop:=∃ d,Dn K H d (.ref b)/\kd d=true/\SeqAt.shaped d=true/\pC d<=8/\mW d=k
theorem hV.ts {K:W.Frag} {k:PyData} {b:Addr} (s:gc K H H') (h:hV K H k b):hV K H' k b:=by
 obtain ⟨d,h1,h2,h3,h4,h5⟩:=h
 exact ⟨d,Dn.ts s d (xH d h2) h1,h2,h3,h4,h5⟩
section
variable {X:Cx} {pins:List (Addr×Obj)} {σ:St} {H:Hp} {s:Shared}
theorem hV.is {k:PyData} {b:Addr} (I:Inv X pins σ H s) (h:hV X.K H k b):wM s.heap k b:=by
 obtain ⟨d,h1,h2,h3,h4,h5⟩:=h
 obtain ⟨as,r⟩:=I.reads d h1 rfl
 exact ⟨d,as,r,h2,h3,h4,h5⟩
end
abbrev BH:=List (PyData×Addr×V)
abbrev XR:BH->List (PyData×Addr×Value)->Prop:=Paired λ p q=>p.1=q.1/\p.2.1=q.2.1/\RelV p.2.2 q.2.2
def DxP (P:Program) (w:World) (a:Addr) (kvs:BH) (h:Heap):Prop:=kvs.length<=sizeLine/\(a == sysModules)=false/\∃ xs,XR kvs xs /\
 ∃ o es ep,h.get? a=some o/\o.ExactDict/\o.data = .dict es ep/\es.toList=xs.map (entryOfKey (jd P w))/\(xs.map (·.1)).Nodup
def jU (P:Program) (w:World) (a:Addr) (kvs:BH):HO:=.ext (DxP P w a kvs)
theorem xV {P:Program} {w:World} {h:Heap} {a:Addr} {kvs:BH} (x:DxP P w a kvs h):bJ P w H h a (jU P w a kvs):=by
 refine ⟨x,?_,λ h1 h2 ⟨z,y,xs,r,o,es,ep,e,q⟩ k=>⟨z,y,xs,r,o,es,ep,k o e,q⟩⟩
 obtain ⟨_,_,_,_,o,_,_,e,_⟩:=x
 exact ⟨o,e⟩
noncomputable def uT (kvs:BH) (k:PyData):Option V:=(kvs.find? λ x=>decide (x.1=k)).map (·.2.2)
theorem vH {kvs:BH} {xs:List (PyData×Addr×Value)} (r:XR kvs xs) (k:PyData):iG (uT kvs k) ((atKey xs k).map (·.2)):=by
 induction r with
 | nil=>exact True.intro
 | @cons p q ps qs h t ih =>
   obtain ⟨h1,h2,h3⟩:=h
   unfold uT atKey at ih ⊢
   rw [ahD,ahD,h1]
   by_cases e:q.1=k
   . rw [ajv e];exact h3
   . rw [af6 e];exact ih
structure gu (P:Program) (w:World) (K:W.Frag) (H:Hp) (a:Addr) (kvs:BH):Prop where
 ob:H a=some (jU P w a kvs)
 keys:∀ e∈kvs,hV K H e.1 e.2.1
theorem gu.nil {P:Program} {w:World} {K:W.Frag} {a:Addr} (h:H a=some (jU P w a [])):gu P w K H a []:=⟨h,λ _ h=>absurd h acn⟩
theorem gu.same {P:Program} {w:World} {K:W.Frag} {a:Addr} {kvs:BH} (x:gu P w K H a kvs) (s:av H H'):gu P w K H' a kvs:=⟨s _ _ x.ob,λ y hy=>(x.keys y hy).ts s.ts⟩
section
variable {X:Cx} {pins:List (Addr×Obj)} {σ:St} {H:Hp} {s:Shared} {a b:Addr} {kvs:BH} {k:PyData} {v:V}
theorem gu.dict (I:Inv X pins σ H s) (x:gu X.prog X.w X.K H a kvs):kvs.length<=sizeLine/\(a == sysModules)=false/\∃ xs,XR kvs xs/\s.heap.DictOfH (jd X.prog X.w) a xs:=by
 obtain ⟨z,y,xs,r,o,es,ep,h1,h2,h3,h4,h5⟩:=(show bJ X.prog X.w H s.heap a (jU X.prog X.w a kvs) from I.bo a _ x.ob).1
 refine ⟨z,y,xs,r,o,es,ep,h1,h2,h3,h4,λ e he=>?_,h5⟩
 have all:∀ {l:BH} {m:List (PyData×Addr×Value)},XR l m->(∀ e∈l,hV X.K H e.1 e.2.1)->∀ x∈m,wM s.heap x.1 x.2.1:=by
   intro l m q
   induction q with
   | nil=>intro _ x hx;exact absurd hx acn
   | @cons p q ps qs hq t ih =>
     intro hl x hx
     rcases List.mem_cons.mp hx with e|hx
     . subst e
       rw [← hq.1,← hq.2.1]
       exact (hl p adu).is I
     . exact ih (λ e he=>hl e (aaN _ he)) x hx
 exact all r x.keys e he
theorem xR {A:Around} {P:Program} {w:World} (hu:A.units+65<cLine):(jd P w).room A.in1:=by
 show A.in1.units+64<cLine
 rw [Around.in1_units]
 lia
end
def MQ (P:Program) (w:World) (K:W.Frag) (td ty:TE):TE:=λ σ H Q=>td σ H λ x H1=>ty σ H1 λ y H2=>∃ a b kvs k v,x = .ref a/\y = .ref b/\gu P w K H2 a kvs/\hV K H2 k b/\uT kvs k=some v/\Q v H2
inductive YH (P:Program) (w:World) (K:W.Frag) (y:V) (x:V) (H:Hp) (Q:VK):Prop
 | mk (a b kvs k:_) (_:x = .ref a) (_:y = .ref b) (_:gu P w K H a kvs) (_:hV K H k b) (_:Q (.bl (uT kvs k).isSome) H)
def Vq (P:Program) (w:World):TE:=λ _ H Q=>∀ p,H p=none->Q (.ref p) (upd H p (jU P w p []))
theorem bL.Xl {k:Nat} {A:Around} (r:bL k A):A.units+65<cLine:=by have:=r.un;lia
section
variable {X:Cx} {o i e value:Expr} {pos pos' uO:Pos} {td ty tv:TE} {P:Program} {w:World} {K:W.Frag}
theorem tS (hP:X.prog=P) (hw:X.w=w):PE X (.Dict [] [] pos) (Vq P w):=by
 subst hP hw
 exact λ pins s σ H Q I h=>wpAny_Dict_empty ⟨.ref s.heap.objs.size,_,I.laid (a:=s.heap.objs.size) (o:=jU X.prog X.w s.heap.objs.size []) (t':=s.toks) (λ _ _ q=>aao _ q) (aau _)
   (xV ⟨afL _,beq_eq_false_iff_ne.mpr (alK (acl I.big)),[],.nil,_,#[],0,aa4 _ rfl,⟨rfl,rfl,rfl⟩,rfl,rfl,amh⟩),rfl,h _ (I.bo.fresh (aau _))⟩
theorem Eu (hP:X.prog=P) (hw:X.w=w) (hK:X.K=K) (hu:X.A.units+65<cLine) (ho:PE X o td) (hi:PE X i ty) (hs:Jl i):PE X (.Subscript o i pos) (MQ P w K td ty):=by
 subst hP hw hK
 intro pins s σ H Q I h
 refine yg PySem.F.slot_dict_getitem.lookup hs (cz (ho pins s σ H _ I h) λ u s1 ⟨x,H1,I1,rx,q1⟩=>cz (hi pins s1 σ H1 _ I1 q1) λ iv s2 ⟨y,H2,I2,ry,a,b,kvs,k,v,ex,ey,g,hk,hv,q2⟩=>?_)
 subst ex ey
 obtain rfl:u=Value.ref a:=rx
 obtain rfl:iv=Value.ref b:=ry
 obtain ⟨z,hd,xs,rel,dd⟩:=g.dict I2
 refine ⟨dd.typeIs,?_⟩
 obtain ⟨w',hw,mh⟩:=iG.some_of (v:=v) (o:=(atKey xs k).map (·.2)) (by rw [← hv];exact vH rel k)
 obtain ⟨p,hp,Fn⟩:=Option.map_eq_some_iff.mp hw
 refine wpAny_getItem_heap (xR hu) (hk.is I2) dd hp ?_
 rw [Fn]
 exact ⟨v,H2,I2.tok _,mh,q2⟩
theorem IE (hP:X.prog=P) (hw:X.w=w) (hK:X.K=K) (hu:X.A.units+65<cLine):iU X (compareOp .In) (YH P w K):=by
 subst hP hw hK
 intro pins s σ H x y v u Q I rx ry h
 obtain ⟨a,b,kvs,k,rfl,rfl,g,hk,q2⟩:=h
 obtain rfl:u=Value.ref a:=ry
 obtain rfl:v=Value.ref b:=rx
 obtain ⟨z,hd,xs,rel,dd⟩:=g.dict I
 refine wpAny_in_heap (xR hu) (hk.is I) hd dd ⟨.bl _,H,I.tok _,?_,q2⟩
 have q:=(vH rel k).yK
 rw [Option.isSome_map] at q
 rw [q]
 rfl
end
theorem dM {a1:TS} {σ:L2.St} (h:let d:L2.Ends:=D;let z:L2.St:=σ;let r2:TS:=a3;let r1:TS:=aL a2 r2;aL a1 r1 d z H):(aL a1 (aL a2 (a3))) D σ H:=h
theorem lq {a1:TS} {σ:L2.St} (h:let d:L2.Ends:=D;let z:L2.St:=σ;let r3:TS:=a4;let r2:TS:=aL a3 r3;let r1:TS:=aL a2 r2;aL a1 r1 d z H):(aL a1 (aL a2 (aL a3 (a4)))) D σ H:=h
theorem uI {a1:TS} {σ:L2.St} (h:let d:L2.Ends:=D;let z:L2.St:=σ;let r4:TS:=a5;let r3:TS:=aL a4 r4;let r2:TS:=aL a3 r3;let r1:TS:=aL a2 r2;aL a1 r1 d z H):(aL a1 (aL a2 (aL a3 (aL a4 (a5))))) D σ H:=h
theorem pO {a1:TS} {σ:L2.St} (h:let d:L2.Ends:=D;let z:L2.St:=σ;let r5:TS:=a6;let r4:TS:=aL a5 r5;let r3:TS:=aL a4 r4;let r2:TS:=aL a3 r3;let r1:TS:=aL a2 r2;aL a1 r1 d z H):(aL a1 (aL a2 (aL a3 (aL a4 (aL a5 (a6)))))) D σ H:=h
theorem AK {a1:TS} {σ:L2.St} (h:let d:L2.Ends:=D;let z:L2.St:=σ;let r7:TS:=a8;let r6:TS:=aL a7 r7;let r5:TS:=aL a6 r6;let r4:TS:=aL a5 r5;let r3:TS:=aL a4 r4;let r2:TS:=aL a3 r3;let r1:TS:=aL a2 r2;aL a1 r1 d z H):(aL a1 (aL a2 (aL a3 (aL a4 (aL a5 (aL a6 (aL a7 (a8)))))))) D σ H:=h
theorem AB {a1:TS} {σ:L2.St} (h:let d:L2.Ends:=D;let z:L2.St:=σ;let r8:TS:=a9;let r7:TS:=aL a8 r8;let r6:TS:=aL a7 r7;let r5:TS:=aL a6 r6;let r4:TS:=aL a5 r5;let r3:TS:=aL a4 r4;let r2:TS:=aL a3 r3;let r1:TS:=aL a2 r2;aL a1 r1 d z H):(aL a1 (aL a2 (aL a3 (aL a4 (aL a5 (aL a6 (aL a7 (aL a8 (a9))))))))) D σ H:=h
theorem ze {a1:TS} {σ:L2.St} (h:let d:L2.Ends:=D;let z:L2.St:=σ;let Nn:TS:=V8;let J4:TS:=aL Wk Nn;let r9:TS:=aL Wt J4;let r8:TS:=aL a9 r9;let r7:TS:=aL a8 r8;let r6:TS:=aL a7 r7;let r5:TS:=aL a6 r6;let r4:TS:=aL a5 r5;let r3:TS:=aL a4 r4;let r2:TS:=aL a3 r3;let r1:TS:=aL a2 r2;aL a1 r1 d z H):(aL a1 (aL a2 (aL a3 (aL a4 (aL a5 (aL a6 (aL a7 (aL a8 (aL a9 (aL Wt (aL Wk (V8)))))))))))) D σ H:=h
theorem yO {a1 a13:TS} {σ:L2.St} (h:let d:L2.Ends:=D;let z:L2.St:=σ;let r12:TS:=a13;let Nn:TS:=aL V8 r12;let J4:TS:=aL Wk Nn;let r9:TS:=aL Wt J4;let r8:TS:=aL a9 r9;let r7:TS:=aL a8 r8;let r6:TS:=aL a7 r7;let r5:TS:=aL a6 r6;let r4:TS:=aL a5 r5;let r3:TS:=aL a4 r4;let r2:TS:=aL a3 r3;let r1:TS:=aL a2 r2;aL a1 r1 d z H):(aL a1 (aL a2 (aL a3 (aL a4 (aL a5 (aL a6 (aL a7 (aL a8 (aL a9 (aL Wt (aL Wk (aL V8 (a13))))))))))))) D σ H:=h
@[elab_as_elim] theorem xF {α:Type} {motive:List α->Prop} {us:List α} (h:us.length=1) (k:∀ a,motive [a]):motive us :=
 cr h λ a _ h=>ae8 h ▸ k a
@[elab_as_elim] theorem uo {α:Type} {motive:List α->Prop} {us:List α} (h:us.length=2) (k:∀ a b,motive [a,b]):motive us :=
 cr h λ a _ h=>cr h λ b _ h=>ae8 h ▸ k a b
@[elab_as_elim] theorem rV {α:Type} {motive:List α->Prop} {us:List α} (h:us.length=3) (k:∀ a b c,motive [a,b,c]):motive us :=
 cr h λ a _ h=>cr h λ b _ h=>cr h λ c _ h=>ae8 h ▸ k a b c
@[elab_as_elim] theorem Cv {α:Type} {motive:List α->Prop} {us:List α} (h:us.length=4) (k:∀ a b c d,motive [a,b,c,d]):motive us :=
 cr h λ a _ h=>cr h λ b _ h=>cr h λ c _ h=>cr h λ d _ h=>ae8 h ▸ k a b c d
@[elab_as_elim] theorem Bu {α:Type} {motive:List α->Prop} {us:List α} (h:us.length=5) (k:∀ a b c d e,motive [a,b,c,d,e]):motive us :=
 cr h λ a _ h=>cr h λ b _ h=>cr h λ c _ h=>cr h λ d _ h=>cr h λ e _ h=>ae8 h ▸ k a b c d e
@[elab_as_elim] theorem GY {α:Type} {motive:List α->Prop} {us:List α} (h:us.length=6) (k:∀ a b c d e f,motive [a,b,c,d,e,f]):motive us :=
 cr h λ a _ h=>cr h λ b _ h=>cr h λ c _ h=>cr h λ d _ h=>cr h λ e _ h=>cr h λ f _ h=>ae8 h ▸ k a b c d e f
@[elab_as_elim] theorem GD {α:Type} {motive:List α->Prop} {us:List α} (h:us.length=7) (k:∀ a b c d e f g,motive [a,b,c,d,e,f,g]):motive us :=
 cr h λ a _ h=>cr h λ b _ h=>cr h λ c _ h=>cr h λ d _ h=>cr h λ e _ h=>cr h λ f _ h=>cr h λ g _ h=>ae8 h ▸ k a b c d e f g
theorem lc {sc:Scope} {x:Str} (h:(match sc.names.lookup x with|some .local=>true|some .cell=>true|_=>false)=true):Loc sc x:=by
 unfold Loc
 split at h
 . rename_i e;exact .inl e
 . rename_i e;exact .inr e
 . cases h
theorem bL.m {j k:Nat} {A:Around} (r:bL k A) (h:j<=k:=by first|decide|lia):bL j A:=r.mono h
section
variable {P:Program} {w:World} {K:W.Frag} {mg:Str->Option Value} {base:Heap} {x qual:Str} {st:Stmt} {N ps:List Str} {k:Nat} {sp:Sp} {C:Addr}
theorem km.gS (h:km K mg x st) (S:au N ps (ai st)) (cJ:∀ (f:Addr) (aP:Value) (A:Around) (outer:List Env) (s:Shared) (H:Hp) (vs:List V) (Q:VK) (E:XK),bL k (A.deeper (envOfC x (ai st) s.heap.objs.size f aP))->sp vs H Q E ->
     ∃ t,mP (eZ l6 P w K mg base N x (ai st) f aP A outer s H E).Ai (aI st) t/\t { nx:=λ _ H'=>Q .dC H',rt:=Q } (start N vs) H) (len:∀ vs H Q E,sp vs H Q E->vs.length=ps.length:=by intro _ _ _ _ h;first|(cases h;subst_vars;rfl)|(obtain ⟨_,rfl,_⟩:=h;rfl)|(obtain ⟨_,_,rfl,_⟩:=h;rfl)|(obtain ⟨_,_,_,rfl,_⟩:=h;rfl)|(obtain ⟨_,_,_,_,rfl,_⟩:=h;rfl)|(obtain ⟨_,_,_,_,_,rfl,_⟩:=h;rfl)) (hb:∀ (kV doc pm:Value) (an:Option Addr) (aP ct:Value) (us:List Value),us.length=ps.length->bindArgs (W.fnOf x x (aY st) (aI st) (ai st) .none kV doc pm an aP ct) ⟨us,[]⟩=pure (ps.zip us):=by intro _ _ _ _ _ _ us hl;first|exact xF hl λ _=>rfl|exact uo hl λ _ _=>rfl|exact rV hl λ _ _ _=>rfl|exact Cv hl λ _ _ _ _=>rfl|exact Bu hl λ _ _ _ _ _=>rfl|exact GY hl λ _ _ _ _ _ _=>rfl|exact GD hl λ _ _ _ _ _ _ _=>rfl):Def P w K mg base x (k+1) ps sp:=h.def S len hb cJ
theorem bi.bS {m:Str} (h:bi K C m qual st .none) (S:au N ps (ai st)) (cJ:∀ (f:Addr) (aP:Value) (A:Around) (outer:List Env) (s:Shared) (H:Hp) (vs:List V) (Q:VK) (E:XK),bL k (A.deeper (envOfC qual (ai st) s.heap.objs.size f aP))->sp vs H Q E ->
     ∃ t,mP (eZ l6 P w K mg base N qual (ai st) f aP A outer s H E).Ai (aI st) t/\t { nx:=λ _ H'=>Q .dC H',rt:=Q } (start N vs) H) (len:∀ vs H Q E,sp vs H Q E->vs.length=ps.length:=by intro _ _ _ _ h;first|(cases h;subst_vars;rfl)|(obtain ⟨_,rfl,_⟩:=h;rfl)|(obtain ⟨_,_,rfl,_⟩:=h;rfl)|(obtain ⟨_,_,_,rfl,_⟩:=h;rfl)|(obtain ⟨_,_,_,_,rfl,_⟩:=h;rfl)|(obtain ⟨_,_,_,_,_,rfl,_⟩:=h;rfl)) (hb:∀ (kV doc pm:Value) (an:Option Addr) (aP ct:Value) (us:List Value),us.length=ps.length->bindArgs (W.fnOf m qual (aY st) (aI st) (ai st) .none kV doc pm an aP ct) ⟨us,[]⟩=pure (ps.zip us):=by intro _ _ _ _ _ _ us hl;first|exact xF hl λ _=>rfl|exact uo hl λ _ _=>rfl|exact rV hl λ _ _ _=>rfl|exact Cv hl λ _ _ _ _=>rfl|exact Bu hl λ _ _ _ _ _=>rfl|exact GY hl λ _ _ _ _ _ _=>rfl|exact GD hl λ _ _ _ _ _ _ _=>rfl):bD P w K mg base C m (k+1) ps [] sp:=h.abq S len hb cJ
end
section
variable {X:Cx} {pos:Pos}
def Vu (K:W.Frag) (c:Value) (t:(St->XK)->TS) (ts:TS):TS:=λ D σ H=>t (λ σ1 cls _ H1=>W.exmOne K cls c=some true/\ts D σ1 H1) D σ H
theorem Ei {body:List Stmt} {c:Str} {C:Addr} {np Gj:Pos} {b₀:Stmt} {mL:List Stmt} {t:(St->XK)->TS} {ts:TS} (i5:X.stack=X.env::X.outer) (Bm:X.env.frame=some X.env.locals) (hm:X.mg c=some (.ref C)) (hb:Lo X body t) (hs:∀ e oe,mP (X.held e oe) (b₀::mL) ts) (hg:Gl X c:=by rfl) (jM:(c == ("__debug__" : Str))=false:=by decide) :
   PS X (.Try body [.ExceptHandler (some (.Name c np)) none (b₀::mL) Gj] [] [] pos) (Vu X.K (.ref C) t ts):=by
 intro pins s σ H D I h
 refine wpAny_Try_except (adA (hb pins s σ H D _ I h) (λ f s1 q=>?_) λ ex s1 hx=>?_)
 .
  cases f with
  | next=>exact akr q
  | ret v=>exact q
  | brk=>exact q
  | cont=>exact q
 .
  obtain ⟨σ1,H1,s0,I0,x,cls,H',rfl,F,_,_,Qr,hk⟩:=hx
  obtain ⟨a0,B,FB⟩:=F.b
  have fr:X.A.frames=some (X.env::X.outer):=i5 ▸ I.ok.frames
  have fl':Heap.FlyingW B (X.env::X.outer) x cls a0 s1.heap:=i5 ▸ FB.fl
  refine wpAny_looks_onW fr Bm fl' λ h4 held up4=>?_
  refine wpAny_landsW held λ h5 RF up5=>?_
  have F5:=FB.moved (t2:=s1.toks) (i5 ▸ RF) (Heap.UpToSlots.trans up4 up5)
  have I5:=I0.sA F5
  obtain ⟨oe5,vs5,RW,hc5,Ae⟩:=F5.obj
  have J5:=I5.held RW Ae F5.none
  refine wpAny_handleBy_cons (codeAny_handlers_test (fY (X:=X.held x oe5) J5 hg hm ?_ jM)) (by intro q;cases q)
  have LT:W.Looks (model X.prog X.w) h5 (typeOf (.ref x)) cls:=hc5 ▸ (al7 RW).andThen .now
  refine (W.exm_one J5.ia LT Qr) _ _ _ _ (λ _ _ q=>q) ?_
  refine codeAny_handlers_suite ?_
  refine lands_againW RF λ h6 fl6 up6=>?_
  have F6:=F5.moved (t2:=s1.toks) (i5 ▸ fl6) up6
  have I6:=I0.sA F6
  obtain ⟨oe,vs,he,hc,hd⟩:=F6.obj
  have J6:=I6.held he hd F6.none
  refine adA (hs x oe pins _ _ H' D J6 hk) (λ f s8 q=>?_) λ _ _ z=>False.elim z
  have ok:=I.ok
  cases f with
  | next =>
    obtain ⟨σ8,H8,J8,q8⟩:=q
    exact ⟨_,H8,J8.i9 ok,q8⟩
  | brk =>
    obtain ⟨σ8,H8,J8,q8⟩:=q
    exact ⟨_,H8,J8.i9 ok,q8⟩
  | cont =>
    obtain ⟨σ8,H8,J8,q8⟩:=q
    exact ⟨_,H8,J8.i9 ok,q8⟩
  | ret v =>
    obtain ⟨v8,σ8,H8,J8,r8,q8⟩:=q
    exact ⟨v8,_,H8,J8.i9 ok,r8,q8⟩
end
section
variable {P:Program} {w:World} {A:Around} {E:Value->Shared->Prop} {s:Shared}
theorem wZ {j a:Addr} {i:Nat} {aR:Array Value} {x:Value} {Q:Value->Shared->Prop} (hj:s.heap.IsTupleIter j a i) (ha:s.heap.IsTuple a aR) (hx:aR[i]?=some x) (k:∀ h',h'.IsTupleIter j a (i+1)->Heap.SameBut j s.heap h'->Q x { s with heap:=h' }):wpAny (model P w) A (Builtin.SmallTypes.nextOf (.ref j)) Q E s:=by
 obtain ⟨oj,ej,cj,dj⟩:=id hj
 obtain ⟨oa,ea,_,na,da⟩:=ha
 unfold Builtin.SmallTypes.nextOf
 refine wF (als (name:=Str.ofString "__next__") hj.typeIs akA (amg akA hj.typeIs anb ?_ (am6 _)))
 refine wF (m:=field (.ref j) 0) (al0 ej dj (x:=.ref a) rfl ?_)
 have nn:¬ ((Value.ref a == Value.none)=true):=abS
 show wpAny _ _ (if (Value.ref a == Value.none)=true then _ else _) _ _ s
 rw [adH nn]
 refine wF (m:=field (.ref j) 1) (al0 ej dj (x:=.int i 0) rfl ?_)
 refine wF (m:=seqItems? (.ref a)) (anf ea da ?_)
 simp only [alp,hx]
 refine wF (wpAny_setField ej dj (by simp) (aaJ ⟨x,rfl,aaJ (k _ ⟨_,alM _ ej (Obj.isFreed_of_fields (Obj.data_mapFields dj _)),(Obj.cls_mapFields ..).trans cj,?_⟩ (amD ..))⟩))
 rw [Obj.data_mapFields dj]
 simp [rawInt]
theorem yV {j a:Addr} {i:Nat} {aR:Array Value} {Q:Value->Shared->Prop} (hh:A.handled=none) (hj:s.heap.IsTupleIter j a i) (ha:s.heap.IsTuple a aR) (hx:aR[i]?=none) (k:∀ h' e,Heap.ExtBut j s.heap h'->(∃ o,h'.get? e=some o/\o.cls = .type "StopIteration")->E (.ref e) { s with heap:=h' }):wpAny (model P w) A (Builtin.SmallTypes.nextOf (.ref j)) Q E s:=by
 obtain ⟨oj,ej,cj,dj⟩:=id hj
 obtain ⟨oa,ea,_,na,da⟩:=ha
 unfold Builtin.SmallTypes.nextOf
 refine wF (als (name:=Str.ofString "__next__") hj.typeIs akA (amg akA hj.typeIs anb ?_ (am6 _)))
 refine wF (m:=field (.ref j) 0) (al0 ej dj (x:=.ref a) rfl ?_)
 have nn:¬ ((Value.ref a == Value.none)=true):=abS
 show wpAny _ _ (if (Value.ref a == Value.none)=true then _ else _) _ _ s
 rw [adH nn]
 refine wF (m:=field (.ref j) 1) (al0 ej dj (x:=.int i 0) rfl ?_)
 refine wF (m:=seqItems? (.ref a)) (anf ea da ?_)
 simp only [alp,hx]
 refine wF (wpAny_rule (wF (wpAny_setField ej dj (by simp) (wF (m:=newExc (.type "StopIteration") []) ?_))))
 simp only [newExc,newTuple]
 refine wF (ajK (wF (m:=firstArgMember _ _) (amy (a:=Value.none) (by first|rfl|(simp only [firstArgMember];rfl)) (ajK ?_ (by size_fits)))) (by size_fits))
 simp only [raiseNew]
 refine wF (wpAny_handled ?_)
 have h1:A.in1.handled=none:=hh
 first|rw [h1]|rw [hh]
 exact wF (aaJ (wpAny_throw (k _ _ (((amD ..).extBut.push _).push _) ⟨_,aa4 _ rfl,rfl⟩)))
end
theorem Be {P:Program} {w:World} {A:Around} (hh:A.handled=none) (j a:Addr) (ne:a≠j) (aR:Array Value):Draws P w A j [j,a] aR.size (λ i v=>aR[i]?=some v) (λ i h=>h.IsTupleIter j a i/\h.IsTuple a aR) where
 live:=λ _ _ st=>by
   obtain ⟨⟨o,e,_⟩,_⟩:=st
   exact ⟨o,e⟩
 frame:=λ _ _ _ st k=>by
   obtain ⟨h1,oa,ea,r⟩:=st
   exact ⟨h1.at λ o e=>k j (by simp) o e,oa,k a (by simp) oa ea,r⟩
 item:=λ i s Q E hi st q=>wZ st.1 st.2 (x:=aR[i]) (by simp [hi]) λ h' h1 sb=>q _ h' s.toks (by simp [hi]) ⟨h1,st.2.extBut sb.extBut ne⟩ sb
 done:=λ s Q E st q=>yV hh st.1 st.2 (by simp) q
set_option maxHeartbeats 1000000 in
theorem yU (a:Addr) (ob:Obj) (aR:Array Value) (n:Nat) (hc:ob.cls = .type "tuple") (hd:ob.data = .seq aR n) :
   Meets (Builtin.«enumerate.__new__» ⟨[.type "enumerate",.ref a],[]⟩) (λ _ R s=>s.heap.get? a=some ob/\R (.ok (.ret (.ref (s.heap.push { cls:=.type "tuple_iterator",data:=.fields #[.ref a,.int 0 0]}).objs.size)))
     { s with heap:=(s.heap.push { cls:=.type "tuple_iterator",data:=.fields #[.ref a,.int 0 0]}).push { cls:=.type "enumerate",data:=.fields #[.none,.bool false,.ref s.heap.objs.size,rawInt 0,.none,.none]}}):=by
 obtain ⟨cl,dc,dt,sl⟩:=ob
 obtain rfl:cl = .type "tuple":=hc
 obtain rfl:dt = .seq aR n:=hd
 refine .of_wp λ P w A R s q=>?_
 obtain ⟨hh,gg,dd,tt,oo⟩:=s
 obtain ⟨hl,q⟩:=q
 have aqk:=sub_enumerate
 have hT:Heap.IsTuple (Shared.heap ⟨hh,gg,dd,tt,oo⟩) a aR:=⟨_,hl,rfl,n,rfl⟩
 wp_walk using ama hl
 refine wpAny_stack_any λ st=>aaJ ?_
 split
 . rename_i c _ _ _ _ _
   cases (c == Value.type "enumerate")<;>(wp_walk using ama hl,amE hT;exact ⟨_,rfl,q⟩)
 . wp_walk using ama hl,amE hT
   exact ⟨_,rfl,q⟩
section
variable {P:Program} {w:World} {A:Around} {E:Value->Shared->Prop} {s:Shared}
theorem xh {a:Addr} {aR:Array Value} {Q:Value->Shared->Prop} (hT:s.heap.IsTuple a aR) (k:∀ h',IsEnum h' (s.heap.objs.size+1) s.heap.objs.size 0 .none->h'.IsTupleIter s.heap.objs.size a 0->(∀ b o,s.heap.get? b=some o->h'.get? b=some o)->Q (.ref (s.heap.objs.size+1)) { s with heap:=h' }) :
   wpAny (model P w) A (call (.type "enumerate") [.ref a]) Q E s:=by
 obtain ⟨ob,e,hc,n,hd⟩:=hT
 refine callType_new F.called_enumerate (by decide) (F.typeCall_enumerate_1 _) (F.newCall_enumerate_1 _) (λ obj=>F.args_object_init_2 obj _) F.entry_enumerate_new (yU a ob aR n hc hd) ⟨e,?_⟩
 have hz:(s.heap.push { cls:=.type "tuple_iterator",data:=.fields #[.ref a,.int 0 0]}).objs.size=s.heap.objs.size+1:=al5 ..
 have hn:=aa4 (s.heap.push { cls:=.type "tuple_iterator",data:=.fields #[.ref a,.int 0 0]}) (o:={ cls:=.type "enumerate",data:=.fields #[.none,.bool false,.ref s.heap.objs.size,rawInt 0,.none,.none]}) rfl
 rw [hz] at hn
 show _/\_
 rw [hz]
 exact ⟨⟨_,hn,rfl⟩,k _ hn ⟨_,aao _ (aa4 _ rfl),rfl,rfl⟩ λ b o x=>aao _ (aao _ x)⟩
end
def NE (sq:Hp->Addr->List V->Prop) (a:Addr):It :=
 ⟨λ i H=>∃ xs x,sq H a xs/\xs[i]?=some x,
  λ i H v H'=>∃ p x,H p=none/\v = .ref p/\H'=upd H p (.tup [ao i,x])/\∀ xs,sq H a xs->xs[i]?=some x,
  λ i H=>∃ xs,sq H a xs/\xs.length=i⟩
def EnT (e j a:Addr) (i:Nat) (h:Heap):Prop:=(∃ old,IsEnum h e j i old)/\h.IsTupleIter j a i
theorem Bv {P:Program} {w:World} {K:W.Frag} {e j a:Addr} (ej:e≠j) (ae:a≠e) (aj:a≠j):Turn P w K (.Tuple elts x1 uO) (NE (bQ K) a) [e,j] e (EnT e j a) where
 mem:=by simp
 obj:=λ i h st c hc=>by
   obtain ⟨⟨old,h1⟩,oj,e2,_,d2⟩:=st
   simp only [ae1,acn,ajE] at hc
   rcases hc with rfl|rfl
   . exact ⟨_,h1,λ v q=>by cases q⟩
   . exact ⟨oj,e2,λ v q=>by rw [d2] at q;cases q⟩
 keep:=λ i h h' st k=>by
   obtain ⟨⟨old,h1⟩,h2⟩:=st
   exact ⟨⟨old,k e (by simp) _ h1⟩,h2.at λ o q=>k j (by simp) o q⟩
 item:=by
   intro X hP hw hK hc i pins s σ H E I hf st hg
   subst hP hw hK
   obtain ⟨xs,x,hq,hx⟩:=hg
   obtain ⟨aR,rv,p,hz⟩:=I.tuple hq
   obtain ⟨u,hu,ru⟩:=rv.get hx
   obtain ⟨⟨old,h1⟩,h2⟩:=st
   have le:e<s.heap.objs.size:=aaK h1
   have lj:j<s.heap.objs.size:=by obtain ⟨o,q,_⟩:=h2;exact aaK q
   have hi:i<aR.toArray.size:=by
     have:=(List.getElem?_eq_some_iff.mp hu).1
     simpa using this
   refine wpAny_pyNext_enum_itemD (Be (A:=X.A.in1) (I.ok.hd hc) j a aj aR.toArray) h1 ⟨h2,p⟩ hi ej (by simp [ej,ae.symm]) λ v h' tk hv eo qe ht hz' kk=>?_
   obtain rfl:v=u:=by
     have hv:aR.toArray[i]?=some v:=hv
     rw [List.getElem?_toArray,hu] at hv
     exact (abb hv).symm
   refine ⟨.ref s.heap.objs.size,rfl,wpAny_letOwnedTupleGo_enum (s:={ s with heap:=h',toks:=tk+1 }) eo λ g he sb=>?_⟩
   have IQ:∀ c o,c∉[e,j]->s.heap.get? c=some o->g.get? c=some o:=λ c o hn q=>by
     simp only [ae1,acn,ajE,not_or] at hn
     exact sb.extBut _ _ hn.1 (kk c o hn.1 hn.2 q)
   have n5:=sb.extBut _ _ (am9 le) ht
   refine ⟨.ref s.heap.objs.size,upd H s.heap.objs.size (.tup [ao i,x]),I.xB (t':=tk+1) IQ hf (aau _) ⟨by show 2<=sizeLine;decide,[.int i tk,v],.cons ⟨tk,rfl⟩ (.cons ru .nil),⟨_,n5,rfl,_,rfl⟩⟩,rfl,
     ⟨_,x,I.bo.fresh (aau _),rfl,rfl,λ xs' h=>by rw [I.rq h hq];exact hx⟩,⟨⟨_,by simpa using he⟩,qe.1.extBut sb.extBut ej.symm⟩,λ c vW=>?_⟩
   have lc:c<s.heap.objs.size:=by
     simp only [ae1,acn,ajE] at vW
     rcases vW with rfl|rfl
     . exact le
     . exact lj
   rw [aq (acl lc)]
   exact (hf c vW).1
 done:=by
   intro X hP hw hK hc i pins s σ H E I hf st hg
   subst hP hw hK
   obtain ⟨xs,hq,hl⟩:=hg
   obtain ⟨aR,rv,p,hz⟩:=I.tuple hq
   obtain ⟨⟨old,h1⟩,h2⟩:=st
   have hn:i=aR.toArray.size:=by rw [abJ,← rv.length];exact hl.symm
   subst hn
   refine wpAny_pyNext_enum_endD (Be (A:=X.A.in1) (I.ok.hd hc) j a aj aR.toArray) h1 ⟨h2,p⟩ λ h' eb=>⟨rfl,I.xL (ch:=[e,j]) (t':=s.toks) (λ c o hn q=>?_) hf⟩
   simp only [ae1,acn,ajE,not_or] at hn
   exact eb c o hn.2 q
 self:=λ _ _ _ _ _ st h=>by
   obtain ⟨⟨old,h1⟩,_⟩:=st
   exact wpAny_pyIter_enum h1 h
section
variable {X:Cx}
def aie (K:W.Frag) (ta:TA):TI:=λ σ H R=>ta σ H λ vs H1=>∃ a,vs=[.ref a]/\(∃ xs,bQ K H1 a xs)/\R (NE (bQ K) a) H1
theorem afg:("enumerate" : Str) ≠ "__name__":=by decide +kernel
theorem afE:(("enumerate" : Str) == ("__debug__" : Str))=false:=by decide +kernel
theorem Ch {a:Expr} {ta:TA} {p pos:Pos} (hg:Gl X "enumerate") (hm:X.mg "enumerate" = none) (ha:PA X [a] ta) (hs:starEach [a] X.env=[(false,eval a X.env)]:=by rfl) :
   PI X (.Tuple elts x1 uO) (.Call (.Name "enumerate" p) [a] [] pos) (aie X.K ta):=by
 intro pins s σ H R I h
 refine Call_ ?_
 refine lH I hg hm tM ?_ afg afE
 refine akg ?_ hs rfl
 refine cz (ha pos pins s σ H _ I h) λ us s1 ⟨vs,H1,I1,r1,q1⟩=>?_
 obtain ⟨a,e,⟨xs,hq⟩,q⟩:=q1
 subst e
 cases r1 with
 | cons r rr =>
   cases rr
   obtain rfl:_=Value.ref a:=r
   obtain ⟨aR,rv,p1,Zs⟩:=I1.tuple hq
   have la:a<s1.heap.objs.size:=p1.lt
   refine xh p1 λ h' z1 z2 kk=>wpAny_pyIter_enum z1 ?_
   refine ⟨s1.heap.objs.size+1,[s1.heap.objs.size+1,s1.heap.objs.size],_,_,H1,rfl,I1.kept (t':=s1.toks) kk,Bv (Nat.succ_ne_self _) (acl (Nat.lt_succ_of_lt la)) (acl la),⟨⟨_,z1⟩,z2⟩,λ c hc=>?_,q⟩
   have hle:s1.heap.objs.size<=c:=by
     simp only [ae1,acn,ajE] at hc
     rcases hc with rfl|rfl
     . exact alL _
     . exact aau _
   exact I1.ux hle (I1.bo.fresh hle)
end
theorem yh {sq:Hp->Addr->List V->Prop} {a:Addr} {xs:List V} {g:TG} {tt:TT} {te:TE} {D:Addr} {Q:Hp->Prop} {σ:St} (Pv:Nat->List V->St->Hp->Prop) (h0:Pv 0 [] σ H) (hl:∀ i acc σ H,i<=xs.length->Pv i acc σ H->sq H a xs) (hs:∀ i x p acc σ H,xs[i]?=some x->H p=none->Pv i acc σ H->g (.ref p) σ (upd H p (.tup [ao i,x])) λ σ2 H3=>tt σ2 H3 λ k H4 =>
     if k=true then te σ2 H4 λ v H5=>H5 D=some (.lst acc)/\acc.length<sizeLine/\Pv (i+1) (acc++[v]) σ2 (upd H5 D (.lst (acc++[v]))) else Pv (i+1) acc σ2 H4) (hd:∀ acc σ H,Pv xs.length acc σ H->Q H) :
   ∃ W:Nat->Nat->List V->St->Hp->Prop,(∃ m,W 0 m [] σ H)/\∀ i m acc σ' H',W i m acc σ' H'->((NE sq a).stop i H'/\Q H') ∨
     ((NE sq a).go i H'/\∃ N:List V->St->Hp->Prop,(∀ fy σ2 H4,N fy σ2 H4->∃ m',m'<m/\W (i+1) m' fy σ2 H4)/\∀ x H2,(NE sq a).Ah i H' x H2->g x σ' H2 λ σ2 H3=>tt σ2 H3 λ k H4 =>
       if k=true then te σ2 H4 λ y H5=>H5 D=some (.lst acc)/\acc.length<sizeLine/\N (acc++[y]) σ2 (upd H5 D (.lst (acc++[y]))) else N acc σ2 H4):=by
 refine ⟨λ i m acc σ H=>m=xs.length - i/\i<=xs.length/\Pv i acc σ H,⟨_,rfl,afL _,h0⟩,?_⟩
 rintro i m acc σ H ⟨rfl,hi,p⟩
 have q:=hl i acc σ H hi p
 by_cases dF:i<xs.length
 . refine .inr ⟨⟨xs,xs[i],q,by simp [dF]⟩,Pv (i+1),λ fy σ' H' p'=>⟨xs.length - (i+1),by lia,rfl,dF,p'⟩,λ v H' y=>?_⟩
   obtain ⟨pp,x,hn,rfl,rfl,e1⟩:=y
   exact hs i x pp acc σ H (e1 xs q) hn p
 . have e:i=xs.length:=by lia
   subst e
   exact .inl ⟨⟨xs,q,rfl⟩,hd acc σ H p⟩
structure eP where
 bs:List Int
 ws:List Int
 fs:List Int
 bu:Nat
 hp:Int
abbrev tL (H:Hp) (ps:Addr) (s:eP):Prop:=oF H ps s.bs s.ws s.fs (s.bu:Int) s.hp
abbrev rA (l:List Int):PyData:=.tuple (l.map PyData.int)
def pF (s:eP):PyData:=.tuple [rA s.bs,.int (s.bu:Int),rA s.ws,rA s.fs,.int s.hp]
theorem g0 {K:W.Frag}:∀ l:List Int,nu K H (l.map PyData.int) (l.map V.int)
 | []=>sU
 | x::l=>eI rfl (g0 l)
theorem i0:∀ l:List Int,sV (l.map PyData.int)=true
 | []=>by simp [sV]
 | x::l=>by rw [afS,sV,i0 l];simp [kd]
theorem gZ:∀ l:List Int,iL (l.map PyData.int)=l.map PyData.int
 | []=>by simp [iL]
 | x::l=>by rw [afS,iL,gZ l];simp [mW]
theorem eQ:∀ l:List Int,ox (l.map PyData.int)<=1
 | []=>by simp [ox]
 | x::l=>by
   rw [afS,ox]
   have:=eQ l
   simp only [pC]
   lia
theorem g2 (l:List Int):Js 1 (rA l):=λ d hd=>by
 obtain ⟨x,_,rfl⟩:=List.mem_map.mp hd
 exact trivial
theorem Ro {K:W.Frag} {p:Addr} {s:eP} (h:tL H p s):hV K H (pF s) p:=by
 obtain ⟨pb,pw,pf,h0,h1,h2,h3⟩:=h
 have t:∀ {q:Addr} {l:List Int},H q=some (.tup (l.map V.int))->Dn K H (rA l) (.ref q):=λ e=>sC (bQ.of e) (g0 _)
 refine ⟨pF s,sC (bQ.of h0) (eI (t h1) (eI rfl (eI (t h2) (eI (t h3) (eI rfl sU))))),?_,eS (n:=2) ?_ (by decide),?_,?_⟩
 . simp only [pF,kd,sV,i0];rfl
 .
  intro d hd
  simp only [ae1,acn,ajE] at hd
  rcases hd with rfl|rfl|rfl|rfl|rfl
  . exact g2 _
  . exact trivial
  . exact g2 _
  . exact g2 _
  . exact trivial
 .
  have:=eQ s.bs
  have:=eQ s.ws
  have:=eQ s.fs
  simp only [pF,pC,ox]
  lia
 . simp only [pF,mW,iL,gZ]
theorem uC:∀ {a b:List Int},a.map PyData.int=b.map PyData.int->a=b
 | [],[],_=>rfl
 | x::a,y::b,h=>by
   obtain ⟨h1,h2⟩:=List.cons.inj h
   rw [PyData.int.inj h1,uC h2]
def Pk (lo hi:Int) (bs:List Int) (bu r:Nat):Bool:=decide (bs.getD r 0<if bu.testBit r=true then hi else lo)
inductive ND where
 | dC
 | rN (ws:List Nat)
 | zo (r:Nat) (lo hi:Int)
 | table (k:eP) (v:Nat) (sub:ND) (has:Bool)
 | join (way:Nat) (a b:ND) (r:Nat) (bd:Int)
namespace ND
def mI:ND->Nat
 | dC=>1
 | rN ws=>ws.length
 | zo ..=>1
 | table _ _ sub _=>sub.mI
 | join _ a b _ _=>a.mI * b.mI
def size:ND->Nat
 | dC=>1
 | rN _=>1
 | zo ..=>1
 | table _ _ sub has=>1+if has then sub.size else 0
 | join _ a b _ _=>1+a.size+b.size
def mix (way a b:Nat) (c:Bool):Nat:=if way=1 then a else if way=4 then (if c then a else b) else opN (way == 2) a b
noncomputable def cD:ND->Nat->eP->Nat
 | dC,_,_=>0
 | rN ws,i,_=>ws.getD i 0
 | zo r lo hi,_,s=>if Pk lo hi s.bs s.bu r then 2 ^ r else 0
 | table k v sub _,i,s=>if pF s=pF k then v else sub.cD i s
 | join way a b r bd,i,s=>mix way (a.cD (i / b.mI) s) (b.cD (i % b.mI) s) (decide (s.bs.getD r 0<bd))
def after:ND->Nat->Nat
 | dC,_=>0
 | rN ws,i=>(i+1) % ws.length
 | zo ..,_=>0
 | table _ _ sub _,i=>sub.after i
 | join _ a b _ _,i=>a.after (i / b.mI) * b.mI+b.after (i % b.mI)
def depth:ND->Nat
 | dC=>1
 | rN _=>1
 | zo ..=>1
 | table _ _ sub _=>1+sub.depth
 | join _ a b _ _=>1+max a.depth b.depth
def Ok (n:Nat):ND->Prop
 | dC=>True
 | rN ws=>1<=ws.length/\ws.length<=4/\∀ w∈ws,w<2 ^ 61
 | zo r lo hi=>r<n/\lo<=hi
 | table _ v sub has=>v<16/\sub.Ok n/\(has=false->sub=dC)
 | join way a b r _=>1<=way/\way<=4/\a.Ok n/\b.Ok n/\r<n
end ND
end L2
namespace PySem
open Sem (wp)
section
variable {prog:Program} {w:World} {K:Type} [DecidableEq K] {knd:HeapKind prog w K} {A:Around} {E:Value->Shared->Prop} {s:Shared}
theorem uQ {a:Addr} {Q:Bool->Shared->Prop} (hT:s.TypeIs (.ref a) "tuple") (h:Q false s):wpAny (model prog w) A (Builtin.Dict.quietEq (.ref a)) Q E s:=by
 unfold Builtin.Dict.quietEq
 exact wF (amo hT F.slot_tuple_eq.lookup (aaJ h))
theorem lD {id:String} {d:Addr} {o:Obj} {es ep} {xs:List (K×Addr×Value)} {Q:Array DictEntry->Shared->Prop} (ho:s.heap.get? d=some o) (hd:o.data = .dict es ep) (he:es.toList=xs.map (entryOfKey knd))
   (hi:∀ x∈xs,s.TypeIs (.ref x.2.1) "tuple") (hh:(xs.map λ x=>knd.hash x.1).Nodup) (h:Q es s) :
   wpAny (model prog w) A (Builtin.Dict.entriesForEmpty id d) Q E s:=by
 unfold Builtin.Dict.entriesForEmpty
 refine wF (al6 ho hd ?_)
 have hn:(es.toList.map (·.hash)).Nodup:=by
   rw [he,amx]
   exact hh
 refine wF ?_
 refine wpAny_forIn_array' _ (λ rest _ s'=>s'=s/\∀ e∈rest,e∈es.toList) _ ?_ ?_ _ _ ⟨rfl,λ _ h=>h⟩
 .
  rintro e rest b s' ⟨rfl,hm⟩
  have hme:=hm e adu
  rw [he] at hme
  obtain ⟨x,hx,rfl⟩:=List.mem_map.mp hme
  refine wF (uQ (hi x hx) ?_)
  have hc:¬ ((es.filter λ y=>y.hash == (entryOfKey knd x).hash).size > 1):=by
    have:=jb es.toList (entryOfKey knd x).hash hn
    have e2:(es.filter λ y=>y.hash == (entryOfKey knd x).hash).size=(es.toList.filter λ y=>y.hash == (entryOfKey knd x).hash).length:=by
      obtain ⟨l⟩:=es
      simp
    lia
  simp only [amO,alX,adH hc]
  exact aaJ ⟨rfl,λ e he=>hm e (aaN _ he)⟩
 . rintro b s' ⟨rfl,_⟩
   exact aaJ h
theorem xl {nm:String} {d o:Addr} {xs:List (K×Addr×Value)} {Q:Unit->Shared->Prop} (hdo:d≠o) (XH:(o == sysModules)=false)
   (hd:s.heap.DictOfH knd d []) (ho:s.heap.DictOfH knd o xs) (IX:∀ x∈xs,s.TypeIs (.ref x.2.1) "tuple") (hh:(xs.map λ x=>knd.hash x.1).Nodup)
   (hQ:∀ h',(∃ q es ep,h'.get? d=some q/\q.ExactDict/\q.data = .dict es ep/\es.toList=xs.map (entryOfKey knd)/\(xs.map (·.1)).Nodup)->Heap.SameBut d s.heap h'->Q () { s with heap:=h' }) (hsz:xs.length<=sizeLine) :
   wpAny (model prog w) A (Builtin.Dict.mergeDict nm d o) Q E s:=by
 obtain ⟨od,esd,epd,Ka,iI,wD,hed,anQ,hnd⟩:=id hd
 obtain ⟨oo,DS,epo,J9,hco,zQ,xP,aiN,Kr⟩:=id ho
 have hse:esd=#[]:=by
   obtain ⟨l⟩:=esd
   have:l=[]:=by simpa using hed
   rw [this]
 have hlen:DS.size=xs.length:=by
   obtain ⟨l⟩:=DS
   have:l.length=_:=alR List.length xP
   simpa using this
 unfold Builtin.Dict.mergeDict
 rw [adH (by simpa using hdo)]
 unfold Builtin.Dict.showsAll
 rw [adH (by rw [XH];exact abS)]
 refine wF (aaJ ?_)
 refine wF (al6 J9 zQ ?_)
 dsimp only
 cases xs with
 | nil =>
   have h0:DS=#[]:=by
     obtain ⟨l⟩:=DS
     have:l=[]:=by simpa using xP
     rw [this]
   subst h0
   have fin:Q () s:=by
     have:=hQ s.heap ⟨od,esd,epd,Ka,iI,wD,hed,Kr⟩ (Heap.SameBut.refl _ _)
     exact this
   split
   . rename_i hf
     exact absurd hf (by simp)
   . refine wF (wpAny_dictEpoch J9 zQ ?_)
     refine wF (al6 J9 zQ ?_)
     refine wF ?_
     rw [Std.Legacy.Range.forIn_eq_forIn_range']
     exact aaJ (aaJ fin)
 | cons x xs =>
   have hf:(decide (DS.size<=8) && DS.all λ e=>(keyPart e.key).isSome)=false:=by
     obtain ⟨l⟩:=DS
     have e1:l=_:=xP
     subst e1
     have:keyPart (entryOfKey knd x).key=none:=rfl
     simp [this]
   rw [hf]
   simp only [amO,alX]
   refine wF (al6 Ka wD ?_)
   rw [hse]
   simp only [Array.isEmpty_empty,alX]
   refine wF (lD J9 zQ xP IX hh ?_)
   have hne:DS.isEmpty=false:=by
     rw [Array.isEmpty_eq_false_iff]
     intro z
     rw [z] at hlen
     simp at hlen
   rw [hne]
   simp only [amO,alX]
   refine wF (wpAny_updateDictKeysTo Ka wD (aaJ (hQ _ ⟨_,_,epd+1,alM _ Ka (Obj.isFreed_of_dict (Obj.data_mapDictKeys wD _)),iI.mapDictKeys _,Obj.data_mapDictKeys wD _,xP,Kr⟩ (amD ..))) (by rw [hlen];lia))
theorem qS {o:Addr} {xs:List (K×Addr×Value)} {Q:Value->Shared->Prop} (XH:(o == sysModules)=false) (ho:s.heap.DictOfH knd o xs) (hsz:xs.length<=sizeLine) (IX:∀ x∈xs,s.TypeIs (.ref x.2.1) "tuple") (hk2:∀ x∈xs,knd.is (s.heap.push { cls:=.type "dict",data:=.dict #[]}) x.1 x.2.1) (hh:(xs.map λ x=>knd.hash x.1).Nodup)
   (h:∀ h',(∃ q es ep,h'.get? s.heap.objs.size=some q/\q.ExactDict/\q.data = .dict es ep/\es.toList=xs.map (entryOfKey knd)/\(xs.map (·.1)).Nodup)->Heap.SameBut s.heap.objs.size (s.heap.push { cls:=.type "dict",data:=.dict #[]}) h'->Q (.ref s.heap.objs.size) { s with heap:=h' }) :
   wpAny (model prog w) A (call (.type "dict") [.ref o]) Q E s:=by
 refine callType_codes (Q₁:=λ obj s₁=>obj = .ref s.heap.objs.size/\s₁={ s with heap:=s.heap.push { cls:=.type "dict",data:=.dict #[]}}) F.kt_called_dict (F.kt_typeCall_dict_1 _) F.entry_dict_init (kt_code_dict_new _ ⟨rfl,rfl⟩) ?_
 rintro obj s₁ ⟨rfl,rfl⟩
 have AO:(s.heap.push { cls:=.type "dict",data:=.dict #[]}).DictOfH knd s.heap.objs.size []:=Heap.DictOfH.new s.heap
 have ut:(s.heap.push { cls:=.type "dict",data:=.dict #[]}).DictOfH knd o xs:=by
   obtain ⟨oo,DS,epo,J9,hco,zQ,xP,aiN,Kr⟩:=id ho
   exact ⟨oo,DS,epo,aao _ J9,hco,zQ,xP,hk2,Kr⟩
 have hdo:s.heap.objs.size≠o:=by
   obtain ⟨_,_,_,hg,_⟩:=ho
   exact λ e=>absurd (aaK hg) (by rw [e];exact ahc _)
 refine ⟨AO.typeIs,F.args_dict_init_2 _ _,?_⟩
 unfold Builtin.«dict.__init__»
 refine wF ?_
 unfold Builtin.Dict.selfAndRest
 refine wF (wpAny_notOrdered_dict AO.typeIs ?_)
 show wpAny _ _ (pure (s.heap.objs.size,[Value.ref o])) _ _ _
 refine aaJ ?_
 show wpAny _ _ (Builtin.Dict.updateFrom "dict.__init__" s.heap.objs.size (.ref o) [] .none) _ _ _
 unfold Builtin.Dict.updateFrom
 refine wF (amP ut.typeIs ?_)
 rw [adH (by decide)]
 refine wF ?_
 unfold Builtin.Dict.merge
 refine wF ?_
 unfold Builtin.Dict.readDirectly
 refine wF (wpAny_isInstance ut.typeIs isSubtype_dict_dict ?_)
 simp only [amq,alV,amb]
 refine wF (amo ut.typeIs F.slot_dict_iter.lookup (aaJ ?_))
 simp only [beq_self_eq_true,alX]
 refine wF (aaJ ?_)
 refine xl (hsz:=hsz) hdo XH AO ut (λ x hx=>let ⟨q,e1,e2⟩:=IX x hx;⟨q,aao _ e1,e2⟩) hh λ h' P4 hs'=>?_
 show wpAny _ _ (Builtin.Dict.addKeywords s.heap.objs.size [] >>= _) _ _ _
 exact wF (aaJ (aaJ ⟨rfl,h h' P4 hs'⟩))
end
end PySem
namespace L2
open PySem PySem.Spec PyProof.Rows Mth
theorem Rm {s:Shared} {k:PyData} {a:Addr} (h:wM s.heap k a):s.TypeIs (.ref a) "tuple":=by
 obtain ⟨d,as,r,k1,k2,k3,e⟩:=h
 cases r with
 | tuple h1 h2 h3 h4=>exact ⟨_,h1,h2⟩
 | list h1 h2 h3 h4=>rw [kd] at k1<;>first|cases k1|nofun
 | dict h1 h2 h3 h4 h5=>rw [kd] at k1<;>first|cases k1|nofun
theorem D6 {h h':Heap} {k:PyData} {a:Addr} (x:wM h k a) (g:∀ b o,h.get? b=some o->h'.get? b=some o):wM h' k a:=by
 obtain ⟨d,as,r,k1,q⟩:=x
 exact ⟨d,as,j4 (λ b o e _ _ _=>g b o e) d k1 r,k1,q⟩
section
variable {X:Cx} {P:Program} {w:World} {K:W.Frag}
theorem Iw {α:Type}:∀ {l:List α},l.length<=1->l.Nodup
 | [],_=>amh
 | [_],_=>List.nodup_cons.mpr ⟨acn,amh⟩
 | _::_::_,h=>absurd h (by simp)
theorem qX (hP:X.prog=P) (hw:X.w=w) (hK:X.K=K):fG X (.type "dict") (λ xs H Q=>∃ p kvs,xs=[.ref p]/\gu P w K H p kvs/\kvs.length<=1/\∀ l,H l=none->Q (.ref l) (upd H l (jU P w l kvs))):=by
 subst hP hw hK
 intro pins s σ H xs us Q I r h
 obtain ⟨p,kvs,rfl,hp,h1,q⟩:=h
 obtain ⟨u,rfl,rx⟩:=vals1 r
 cases rx
 obtain ⟨z,hd,xs,rel,dd⟩:=hp.dict I
 have hk:∀ x∈xs,wM s.heap x.1 x.2.1:=by obtain ⟨_,_,_,_,_,_,_,h,_⟩:=dd;exact h
 have le:xs.length<=1:=by rw [← amF rel];exact h1
 have nd:(xs.map λ x=>(jd X.prog X.w).hash x.1).Nodup:=Iw (by rw [aad];exact le)
 refine qS hd dd (by rw [← amF rel];exact z) (λ x hx=>Rm (hk x hx)) (λ x hx=>D6 (hk x hx) λ b o e=>aao _ e) nd λ h' G5 hs=>?_
 have hn:H s.heap.objs.size=none:=I.bo.fresh (aau _)
 obtain ⟨o,es,ep,e1,e2,e3,e4,e5⟩:=G5
 refine ⟨.ref _,_,I.laid (a:=s.heap.objs.size) (o:=jU X.prog X.w s.heap.objs.size kvs) (t':=s.toks) (λ b q hq=>?_) (aau _) (xV ⟨z,beq_eq_false_iff_ne.mpr (alK (acl I.big)),_,rel,o,es,ep,e1,e2,e3,e4,e5⟩),rfl,q _ hn⟩
 exact (hs.2 b (acl (aaK hq))).trans (aao _ hq)
def JG (P:Program) (w:World) (K:W.Frag) (yl:List (TE×TE)):TE:=λ σ H Q=>∀ p,H p=none->tW yl σ (upd H p (jU P w p [])) λ ps H2=>H2 p=some (jU P w p [])/\∃ k b v,ps=[(.ref b,v)]/\hV K H2 k b/\Q (.ref p) (upd H2 p (jU P w p [(k,b,v)]))
theorem Dv {pos:Pos} {keys:List (Option Expr)} {values:List Expr} {yl:List (TE×TE)} (hP:X.prog=P) (hw:X.w=w) (hK:X.K=K) (hu:X.A.units+65<cLine) (h:Ko X pos keys values yl) (Ca:keys.all (·.isSome)=true) (hl:keys.length=values.length) (h0:keys≠[]) (h15:keys.length<=15):PE X (.Dict keys values pos) (JG P w K yl):=by
 subst hP hw hK
 intro pins s σ H Q I q
 have hn:=I.bo.fresh (aau s.heap.objs.size)
 have ns:(s.heap.objs.size == sysModules)=false:=beq_eq_false_iff_ne.mpr (alK (acl I.big))
 have I1:=I.laid (a:=s.heap.objs.size) (o:=jU X.prog X.w s.heap.objs.size []) (h':=s.heap.push { cls:=.type "dict",data:=.dict #[]}) (t':=s.toks) (λ _ _ q=>aao _ q) (aau _)
   (xV ⟨afL _,ns,[],.nil,_,#[],0,aa4 _ rfl,⟨rfl,rfl,rfl⟩,rfl,rfl,amh⟩)
 refine wpAny_Dict_any Ca hl h0 h15 (cz (h pins _ σ _ _ I1 (q _ hn)) λ ws s2 ⟨ps,H2,I2,rel,e,k,b,v,ep,hk,q2⟩=>?_)
 subst ep
 cases rel with
 | @cons _ b' _ bs hr t =>
   cases t
   obtain ⟨b1,b2⟩:=b'
   obtain rfl:b1=Value.ref b:=hr.1
   obtain ⟨z,hd,xs,rx,dd⟩:=(gu.nil (K:=X.K) e).dict I2
   cases rx
   unfold storeAll
   rw [amG]
   refine wF (wF (wpAny_dictSet_heap (knd:=jd X.prog X.w) (by show X.A.units+64<cLine;lia) (hk.is I2) dd λ h' G5 hs=>aaJ ?_))
   refine aaJ ?_
   obtain ⟨o,es,ep,hq,h2,h3,h4,_,h5⟩:=G5
   exact ⟨.ref _,_,yr I2 (by rw [e];exact True.intro) hs ⟨o,hq⟩ (xV ⟨by show 1<=sizeLine;decide,hd,_,.cons ⟨rfl,rfl,hr.2⟩ .nil,o,es,ep,hq,h2,h3,h4,h5⟩),rfl,q2⟩
end
def Sz (n:Nat) (s:eP):Prop:=s.bs.length=n/\s.ws.length=n/\s.fs.length=n
structure KA (P:Program) (w:World) (K:W.Frag) (mg:Str->Option Value) (base:Heap) (CK:Addr) (n:Nat) (H:Hp) (a:Addr) (m sz:Nat) (Wi:Nat->eP->Nat) (F:Nat->Nat) (k:Nat):Prop where
 ex:∃ C dx fs uk uP CQ AX,H a=some (.ins C dx fs)/\(fs.lookup ("minds" : Str)=none/\fs.lookup ("size" : Str)=none/\fs.lookup ("wish" : Str)=none/\fs.lookup ("after" : Str)=none)/\qf K C /\
   bD P w K mg base C "minds" k ["self"] [] uk/\bD P w K mg base C "size" k ["self"] [] uP/\bD P w K mg base C "wish" k ["self","mind","state"] [] CQ/\bD P w K mg base C "after" k ["self","mind","state"] [] AX /\
   (∀ {H':Hp} {Q:VK},av H H'->(∀ qi,av H' qi->Q (ao m) qi)->uk [.ref a] H' Q E0)/\(∀ {H':Hp} {Q:VK},av H H'->(∀ qi,av H' qi->Q (ao sz) qi)->uP [.ref a] H' Q E0) /\
   (∀ {H':Hp} {Q:VK} {i:Nat} {ps:Addr} {s:eP},av H H'->i<m->tL H' ps s->Sz n s->(∀ qi,av H' qi->Q (ao (Wi i s)) qi)->CQ [.ref a,ao i,.ref ps] H' Q E0) /\
   (∀ {H':Hp} {Q:VK} {i:Nat} {ps:Addr} {s:eP},av H H'->i<m->tL H' ps s->Sz n s->(∀ qi,av H' qi->Q (ao (F i)) qi)->AX [.ref a,ao i,.ref ps] H' Q E0) /\
   jI K H (.ref a) (.ref C)/\(∀ {H'},av H H'->jI K H' (.ref a) (.ref C))/\W.kitOne K (.ref C) (.ref CK)=some true
 n4:n<=4
 m1:1<=m
 hm:m<=4000
 hs:sz<=100
 fl:∀ i,i<m->F i<m
section
variable {P:Program} {w:World} {K:W.Frag} {mg:Str->Option Value} {base:Heap} {CK a:Addr} {n m sz k j:Nat} {H H':Hp} {W:Nat->eP->Nat} {F:Nat->Nat}
theorem KA.same (h:KA P w K mg base CK n H a m sz W F k) (q:av H H'):KA P w K mg base CK n H' a m sz W F k:=by
 obtain ⟨⟨C,dx,fs,uk,uP,CQ,AX,h1,h2,h3,h4,h5,h6,h7,h8,h9,Km,h11,h12,Wa,h14⟩,n4,m1,hm,hs,fl⟩:=h
 exact ⟨⟨C,dx,fs,uk,uP,CQ,AX,q _ _ h1,h2,h3,h4,h5,h6,h7,λ q'=>h8 (q.trans q'),λ q'=>h9 (q.trans q'),λ q'=>Km (q.trans q'),λ q'=>h11 (q.trans q'),Wa q,λ q'=>Wa (q.trans q'),h14⟩,n4,m1,hm,hs,fl⟩
theorem KA.mono (h:KA P w K mg base CK n H a m sz W F k) (q:k<=j):KA P w K mg base CK n H a m sz W F j:=by
 obtain ⟨⟨C,dx,fs,uk,uP,CQ,AX,h1,h2,h3,h4,h5,h6,h7,h8⟩,n4,m1,hm,hs,fl⟩:=h
 exact ⟨⟨C,dx,fs,uk,uP,CQ,AX,h1,h2,h3,h4.mono q,h5.mono q,h6.mono q,h7.mono q,h8⟩,n4,m1,hm,hs,fl⟩
end
structure cI where
 rooms:List Nat
 m:Nat
 sz:Nat
 W:Nat->eP->Nat
 F:Nat->Nat
namespace Ap
def mul:List cI->Nat
 | []=>1
 | r::rs=>r.m * mul rs
def sum:List cI->Nat
 | []=>0
 | r::rs=>r.sz+sum rs
def cT:List cI->Nat->List Nat
 | [],_=>[]
 | r::rs,i=>i % r.m::cT rs (i / r.m)
def join:List cI->List Nat->Nat
 | r::rs,o::os=>o+r.m * join rs os
 | _,_=>0
def cL:List cI->List Nat->List Nat
 | r::rs,o::os=>r.F o::cL rs os
 | _,_=>[]
def Ok (rs:List cI):Prop:=∀ r∈rs,1<=r.m/\∀ i,i<r.m->r.F i<r.m
def Own:List cI->List Nat->Prop
 | [],[]=>True
 | r::rs,o::os=>o<r.m/\Own rs os
 | _,_=>False
theorem hJ (r:cI):∀ rs:List cI,mul (rs++[r])=mul rs * r.m
 | []=>by show r.m * 1=1 * r.m;rw [alT]
 | x::rs=>by show x.m * mul (rs++[r])=x.m * mul rs * r.m;rw [hJ r rs,Nat.mul_assoc]
theorem pJ (r:cI):∀ rs:List cI,sum (rs++[r])=sum rs+r.sz
 | []=>by show r.sz+0=0+r.sz;lia
 | x::rs=>by show x.sz+sum (rs++[r])=x.sz+sum rs+r.sz;rw [pJ r rs,am0]
theorem rQ (r:cI):∀ (rs:List cI) (i:Nat),cT (rs++[r]) i=cT rs i++[i / mul rs % r.m]
 | [],i=>by show [i % r.m]=[i / 1 % r.m];rw [Nat.div_one]
 | x::rs,i=>by
   show i % x.m::cT (rs++[r]) (i / x.m)=i % x.m::(cT rs (i / x.m)++[i / (x.m * mul rs) % r.m])
   rw [rQ r rs,am4]
theorem kC:∀ (rs:List cI) (i:Nat),(cT rs i).length=rs.length
 | [],_=>rfl
 | x::rs,i=>by show (cT rs _).length+1=_;rw [kC rs];rfl
theorem mul_pos {rs:List cI} (h:Ok rs):1<=mul rs:=by
 induction rs with
 | nil=>exact aau _
 | cons r rs ih=>exact Nat.mul_pos (h r adu).1 (ih λ x hx=>h x (aaN _ hx))
theorem kI:∀ {rs:List cI} {i:Nat},Ok rs->Own rs (cT rs i)
 | [],_,_=>trivial
 | r::rs,i,h=>⟨amt _ (h r adu).1,kI λ x hx=>h x (aaN _ hx)⟩
theorem iX:∀ {rs:List cI} {os:List Nat},Ok rs->Own rs os->Own rs (cL rs os)
 | [],[],_,_=>trivial
 | r::rs,o::os,h,q=>⟨(h r adu).2 o q.1,iX (λ x hx=>h x (aaN _ hx)) q.2⟩
 | [],_::_,_,q=>q.elim
 | _::_,[],_,q=>q.elim
theorem jt:∀ {rs:List cI} {os:List Nat},Own rs os->join rs os<mul rs
 | [],[],_=>Nat.one_pos
 | r::rs,o::os,q=>by
   have:=jt q.2
   have h1:=q.1
   show o+r.m * join rs os<r.m * mul rs
   have:r.m * (join rs os+1)<=r.m * mul rs:=anj _ this
   rw [Nat.mul_succ] at this
   lia
 | [],_::_,q=>q.elim
 | _::_,[],q=>q.elim
theorem jy:∀ {rs:List cI} {os:List Nat},Own rs os->cT rs (join rs os)=os
 | [],[],_=>rfl
 | r::rs,o::os,q=>by
   have h1:=q.1
   show (o+r.m * join rs os) % r.m::cT rs ((o+r.m * join rs os) / r.m)=o::os
   rw [Nat.add_mul_mod_self_left,agf h1,Nat.add_mul_div_left _ _ (by lia),Nat.div_eq_of_lt h1,Nat.zero_add,jy q.2]
 | [],_::_,q=>q.elim
 | _::_,[],q=>q.elim
theorem js:∀ (rs:List cI) (n:Nat),join rs (List.replicate n 0)=0
 | [],_=>by unfold join;rfl
 | _::_,0=>rfl
 | r::rs,n+1=>by
   show 0+r.m * join rs (List.replicate n 0)=0
   rw [js rs n]
   lia
theorem ol:∀ {rs:List cI},Ok rs->Own rs (List.replicate rs.length 0)
 | [],_=>trivial
 | r::rs,h=>⟨(h r adu).1,ol λ x hx=>h x (aaN _ hx)⟩
theorem nO:∀ {rs:List cI} {os:List Nat},Own rs os->os.length=rs.length
 | [],[],_=>rfl
 | _::rs,_::os,q=>by show os.length+1=rs.length+1;rw [nO q.2]
 | [],_::_,q=>q.elim
 | _::_,[],q=>q.elim
theorem join_snoc {r:cI} {o:Nat}:∀ {rs:List cI} {os:List Nat},os.length=rs.length->join (rs++[r]) (os++[o])=join rs os+mul rs * o
 | [],[],_=>by show o+r.m * 0=0+1 * o;lia
 | x::rs,p::os,h=>by
   show p+x.m * join (rs++[r]) (os++[o])=p+x.m * join rs os+x.m * mul rs * o
   rw [join_snoc (by simpa using h),Nat.mul_add,Nat.mul_assoc,am0]
 | [],_::_,h=>by simp at h
 | _::_,[],h=>by simp at h
theorem rT {r:cI} {o:Nat}:∀ {rs:List cI} {os:List Nat},os.length=rs.length->cL (rs++[r]) (os++[o])=cL rs os++[r.F o]
 | [],[],_=>rfl
 | x::rs,p::os,h=>by
   show x.F p::cL (rs++[r]) (os++[o])=x.F p::(cL rs os++[r.F o])
   rw [rT (by simpa using h)]
 | [],_::_,h=>by simp at h
 | _::_,[],h=>by simp at h
def after (rs:List cI) (i:Nat):Nat:=join rs (cL rs (cT rs i))
theorem Cj {rs:List cI} (h:Ok rs) (i:Nat):after rs i<mul rs:=jt (iX h (kI h))
theorem pA {rs:List cI} {os:List Nat} (q:Own rs os):after rs (join rs os)=join rs (cL rs os):=by unfold after;rw [jy q]
def places (f:Nat->Bool) (i:Nat):List Nat:=(List.range i).filter f
theorem jf (f:Nat->Bool) (i:Nat):places f (i+1)=places f i++(if f i=true then [i] else []):=by
 unfold places
 rw [List.range_succ,amp]
 cases h:f i<;>simp [h]
theorem places_len (f:Nat->Bool) (i:Nat):(places f i).length<=i:=by
 have:=al9 f (List.range i)
 rw [List.length_range] at this
 exact this
theorem gf {f:Nat->Bool} {i j:Nat} (h:j∈places f i):j<i/\f j=true:=⟨List.mem_range.mp (List.mem_filter.mp h).1,(List.mem_filter.mp h).2⟩
def sel (l:List Nat) (x i:Nat):List Nat:=(places (λ j=>x.testBit j) i).map λ j=>l.getD j 0
def qg (s:eP) (l:List Nat):eP:=⟨l.map λ r=>s.bs.getD r 0,l.map λ r=>s.ws.getD r 0,l.map λ r=>s.fs.getD r 0,i3 (places (λ j=>s.bu.testBit (l.getD j 0)) l.length) 0,s.hp⟩
theorem oS (s:eP) (l:List Nat):Sz l.length (qg s l):=⟨aad ..,aad ..,aad ..⟩
def cD:List cI->List Nat->eP->Nat
 | r::rs,o::os,s=>i3 (sel r.rooms (r.W o (qg s r.rooms)) r.rooms.length) 0 ||| cD rs os s
 | _,_,_=>0
theorem md {r:cI} {o:Nat} {s:eP}:∀ {rs:List cI} {os:List Nat},os.length=rs.length->cD (rs++[r]) (os++[o]) s=cD rs os s ||| i3 (sel r.rooms (r.W o (qg s r.rooms)) r.rooms.length) 0
 | [],[],_=>by show _ ||| 0=0 ||| _;rw [ani,Nat.zero_or]
 | x::rs,p::os,h=>by
   show _ ||| cD (rs++[r]) (os++[o]) s=(_ ||| cD rs os s) ||| _
   rw [md (by simpa using h),Nat.or_assoc]
 | [],_::_,h=>by simp at h
 | _::_,[],h=>by simp at h
end Ap
theorem BD {K:W.Frag} {a:Addr} {xs:List V} {g:TG} {tt:TT} {te:TE} {D:Addr} {Q:Hp->Prop} {σ:St} {H:Hp} (Pv:Nat->List V->St->Hp->Prop) (h0:Pv 0 [] σ H) (hl:∀ i acc σ H,i<=xs.length->Pv i acc σ H->bQ K H a xs)
   (hs:∀ i x acc σ H,xs[i]?=some x->Pv i acc σ H->g x σ H λ σ2 H3=>tt σ2 H3 λ b H4 =>
     if b=true then te σ2 H4 λ y H5=>H5 D=some (.lst acc)/\acc.length<sizeLine/\Pv (i+1) (acc++[y]) σ2 (upd H5 D (.lst (acc++[y]))) else Pv (i+1) acc σ2 H4) (hd:∀ acc σ H,Pv xs.length acc σ H->Q H) :
   ∃ W:Nat->Nat->List V->St->Hp->Prop,(∃ m,W 0 m [] σ H)/\∀ i m acc σ' H',W i m acc σ' H'->((Sj K a).stop i H'/\Q H') ∨
     ((Sj K a).go i H'/\∃ N:List V->St->Hp->Prop,(∀ fy σ2 H4,N fy σ2 H4->∃ m',m'<m/\W (i+1) m' fy σ2 H4)/\∀ x H2,(Sj K a).Ah i H' x H2->g x σ' H2 λ σ2 H3=>tt σ2 H3 λ b H4 =>
       if b=true then te σ2 H4 λ y H5=>H5 D=some (.lst acc)/\acc.length<sizeLine/\N (acc++[y]) σ2 (upd H5 D (.lst (acc++[y]))) else N acc σ2 H4):=by
 refine ⟨λ i m acc σ H=>m=xs.length - i/\i<=xs.length/\Pv i acc σ H,⟨xs.length,by simp,afL _,h0⟩,?_⟩
 rintro i m acc σ H ⟨rfl,hi,p⟩
 have q:=hl i acc σ H hi p
 by_cases dF:i<xs.length
 .
  refine .inr ⟨⟨xs,xs[i],q,by simp [dF]⟩,Pv (i+1),λ fy σ' H' p'=>⟨xs.length - (i+1),by lia,rfl,dF,p'⟩,λ x H' y=>?_⟩
  obtain ⟨e,y⟩:=y
  subst e
  exact hs i x acc σ _ (y xs q) p
 . have e:i=xs.length:=by lia
   subst e
   exact .inl ⟨⟨xs,q,aau _⟩,hd acc σ H p⟩
theorem yd {K:W.Frag} {a b:Addr} {xs ys:List V} {g:TG} {tb:TS} {D:Ends} {σ:St} {H:Hp} (Pv:Nat->St->Hp->Prop) (h0:Pv 0 σ H) (hl:∀ i σ H,i<=min xs.length ys.length->Pv i σ H->bh K H a xs/\bh K H b ys)
   (hs:∀ i x y p σ H,xs[i]?=some x->ys[i]?=some y->H p=none->Pv i σ H->g (.ref p) σ (upd H p (.tup [x,y])) λ σ2 H2=>tb ⟨Pv (i+1),D.rt,D.nx,Pv (i+1)⟩ σ2 H2) (hd:∀ σ H,Pv (min xs.length ys.length) σ H->D.nx σ H) :
   ∃ W:Nat->Nat->St->Hp->Prop,(∃ m,W 0 m σ H)/\∀ i m σ H,W i m σ H ->
     ((TJ K a b).stop i H/\D.nx σ H)∨((TJ K a b).go i H/\∃ N:St->Hp->Prop,(∀ σ' H',N σ' H'->∃ m',m'<m/\W (i+1) m' σ' H')/\∀ x H',(TJ K a b).Ah i H x H'->g x σ H' λ σ2 H2=>tb { D with nx:=N,ct:=N,bk:=D.nx } σ2 H2):=by
 refine ⟨λ i m σ H=>m=min xs.length ys.length - i/\i<=min xs.length ys.length/\Pv i σ H,⟨_,rfl,afL _,h0⟩,?_⟩
 rintro i m σ H ⟨rfl,hi,p⟩
 obtain ⟨q1,q2⟩:=hl i σ H hi p
 by_cases dF:i<min xs.length ys.length
 .
  have h1:i<xs.length:=by lia
  have h2:i<ys.length:=by lia
  refine .inr ⟨⟨xs,ys,xs[i],ys[i],q1,q2,by simp [h1],by simp [h2]⟩,Pv (i+1),λ σ' H' p'=>⟨min xs.length ys.length - (i+1),by lia,rfl,dF,p'⟩,λ v H' y=>?_⟩
  obtain ⟨pp,x,y,hn,rfl,rfl,e1,e2⟩:=y
  exact hs i x y pp σ H (e1 xs q1) (e2 ys q2) hn p
 . have e:i=min xs.length ys.length:=by lia
   subst e
   exact .inl ⟨⟨xs,ys,q1,q2,by lia⟩,hd σ H p⟩
theorem uN {X:Cx} {K:W.Frag} (hK:X.K=K):fG X (.type "tuple") (λ xs H Q=>∃ p ys,xs=[.ref p]/\((bh K H p ys/\∀ l,H l=none->Q (.ref l) (upd H l (.tup ys)))∨(bQ K H p ys/\Q (.ref p) H))):=by subst hK;exact cc
end L2
namespace Ord
open Bit
end Ord
namespace L2
open PySem PySem.Spec PyProof.Rows Mth
section
variable {prog:Program} {w:World} {A:Around} {E:Value->Shared->Prop} {s:Shared}
theorem Dd {b n:Nat} (hb:b<=n):Builtin.Slice.sliceAdjust none (some (b:Int)) 1 (n:Int)=(0,(b:Int)):=by
 unfold Builtin.Slice.sliceAdjust
 simp only [show ¬ ((1:Int)<0) by lia,show ¬ ((b:Int)<0) by lia,amb]
 congr 1;lia
theorem Aw (b:Nat):Builtin.Slice.slicePlaces 0 (b:Int) 1=b:=by
 unfold Builtin.Slice.slicePlaces
 simp only [show (1:Int) > 0 by lia,alX,Int.ediv_one]
 split<;>lia
theorem vA {sl:Addr} {b n:Nat} {u:Tok} {Q:Int×Int×Nat->Shared->Prop} (hs:s.heap.IsSliceOf sl .none (.int b u) .none) (hb:b<=n) (h:Q (0,1,b) s) :
   wpAny (model prog w) A (Builtin.Slice.sliceApplied (.ref sl) (pure (n:Int))) Q E s:=by
 obtain ⟨os,Jj,Bf,PV⟩:=id hs
 unfold Builtin.Slice.sliceApplied;unfold Builtin.Slice.sliceFields
 refine wF (wF (al0 Jj PV (x:=.none) rfl (wF (al0 Jj PV (x:=.int b u) rfl (wF (al0 Jj PV (x:=.none) rfl (aaJ (wF (slicePart_none ?_)))))))))
 show wpAny _ _ (if ((1:Int) == 0)=true then _ else _) _ _ s
 rw [adH (show ¬ (((1:Int) == 0)=true) by decide)]
 refine wF (slicePart_none (wF (slicePart_int (wF (aaJ ?_)))))
 show wpAny _ _ (match Builtin.Slice.sliceAdjust none (some (b:Int)) 1 (n:Int) with|(lo,hi)=>pure (lo,(1:Int),Builtin.Slice.slicePlaces lo hi 1)) _ _ s
 rw [Dd hb]
 show wpAny _ _ (pure ((0:Int),(1:Int),Builtin.Slice.slicePlaces 0 (b:Int) 1)) _ _ s
 rw [Aw]
 exact aaJ h
theorem y8 (xs:Array Value) (b:Nat) (hb:b<=xs.size):((List.range b).filterMap λ (k:Nat)=>xs[((0:Int)+(k:Int) * 1).toNat]?).toArray=(xs.toList.take b).toArray:=by
 have e:(λ (k:Nat)=>xs[((0:Int)+(k:Int) * 1).toNat]?)=λ k=>xs[0+k]?:=by
   funext k
   rw [show ((0:Int)+(k:Int) * 1).toNat=0+k by lia]
 have q:=pick_run xs 0 b
 rw [List.filterMap_map] at q
 rw [e]
 refine alR List.toArray (Eq.trans ?_ (q.trans (by rw [List.drop_zero])))
 rfl
theorem yM {t sl:Addr} {items:Array Value} {b:Nat} {u:Tok} {Q:Value->Shared->Prop} (ht:IsTup s.heap t items) (hs:s.heap.IsSliceOf sl .none (.int b u) .none) (hb:b<items.size)
   (h:Q (.ref s.heap.objs.size) { s with heap:=s.heap.push { cls:=.type "tuple",data:=.seq (items.toList.take b).toArray }}) (hsz:items.size<=sizeLine):wpAny (model prog w) A (getItem (.ref t) (.ref sl)) Q E s:=by
 have fits:sizeOk (.seq (items.toList.take b).toArray):=by
   show (items.toList.take b).toArray.size<=sizeLine
   rw [abJ,aaP,amn];lia
 obtain ⟨os,Jj,Bf,PV⟩:=id hs
 have tys:s.TypeIs (.ref sl) "slice":=⟨os,Jj,Bf⟩
 unfold getItem;try with_reducible refine aj3 ?_
 first|refine wF (aaJ ?_)|skip
 refine wF (wpAny_sequenceKey ht.typeIs (by decide) (wF (als (name:=Str.ofString "__getitem__") ht.typeIs ami (amg ami ht.typeIs entry_tuple_getitem ?_ (args_tuple_getitem _ _)))))
 show wpAny _ _ (Builtin.Tuple.tupleItemsOf (.ref t) >>= _) _ _ s
 refine wF (tupleItemsOf_ ht (wF (amP tys ?_)))
 rw [aeA (by decide)]
 refine wF (vA hs (ahw hb) ?_)
 have Kr:¬ (((0:Int) == 0 && (1:Int) == 1 && b == items.size)=true):=by
   rw [show (b == items.size)=false by rw [beq_eq_false_iff_ne];lia];simp
 show wpAny _ _ (if ((0:Int) == 0 && (1:Int) == 1 && b == items.size)=true then _ else _) _ _ s
 rw [adH Kr,y8 items b (ahw hb)]
 first
   | exact wF (m:=Builtin.Tuple.tupleExact _) (ajK (aaJ ⟨_,rfl,aaJ h⟩) fits)
   | exact wF (m:=Builtin.Tuple.tupleExact _) (ajK (wF (aaJ (aaJ ⟨_,rfl,aaJ h⟩))) fits)
   | exact wF (wF (m:=Builtin.Tuple.tupleExact _) (ajK (aaJ (aaJ ⟨_,rfl,aaJ h⟩)) fits))
   | exact wF (wF (m:=Builtin.Tuple.tupleExact _) (ajK (aaJ ⟨_,rfl,aaJ h⟩) fits))
end
section
variable {X:Cx}
inductive Zy (K:W.Frag) (x:V) (lo:Option Int) (hi:Option Int) (H:Hp) (Q:VK):Prop
 | mk (a xs:_) (j:Nat) (_:x = .ref a) (_:bQ K H a xs) (_:lo=none) (_:hi=some (j:Int)) (_:j<xs.length) (_:∀ p,H p=none->Q (.ref p) (upd H p (.tup (xs.take j))))
theorem FR:Wr X (Zy X.K):=by
 intro pins s σ H x v vl vu lo hi sl Q I rx hs pl pu h
 obtain ⟨a,xs,j,rfl,hx,rfl,rfl,j1,q⟩:=h
 cases rx
 cases pu
 cases pl
 obtain ⟨aR,r,ht,hz⟩:=I.tuple hx
 have hlen:=r.length
 refine ⟨"tuple",_,slot_tuple_getitem.lookup,ht.typeIs,yM ht hs (by rw [abJ];lia) ?_ (by rw [abJ];lia)⟩
 refine ⟨.ref s.heap.objs.size,_,I.laid (t':=s.toks) (o:=.tup (xs.take j)) (λ b ob q=>aao _ q) (aau _) ?_,rfl,q _ (I.bo.fresh (aau _))⟩
 refine ⟨by rw [aaP];lia,aR.take j,r.take j,⟨_,aa4 _ rfl,rfl,_,rfl⟩⟩
theorem yF:∀ {ns:List Int} {aR:List Value},Vals (ns.map V.int) aR->IntsAre aR ns
 | [],_,.nil => .nil
 | _::_,_,.cons ⟨t,e⟩ r=>by subst e;exact .cons _ _ (yF r)
theorem xN:∀ {ns:List Int} {aR:List Value},IntsAre aR ns->Vals (ns.map V.int) aR
 | [],_,.nil => .nil
 | _::_,_,.cons _ _ r => .cons ⟨_,rfl⟩ (xN r)
theorem sQ:fG X (.builtin "sorted") (λ xs H Q=>∃ (p:Addr) (ns:List Int),xs=[.ref p]/\bh X.K H p (ns.map V.int)/\ns.length<64/\∀ q (ms:List Int),H q=none->ms.Perm ns->ms.Pairwise (·<=·)->Q (.ref q) (upd H q (.lst (ms.map V.int)))):=by
 intro pins s σ H xs us Q I r h
 obtain ⟨p,ns,rfl,hq,h64,q⟩:=h
 obtain ⟨u,rfl,r1⟩:=vals1 r
 obtain rfl:u=Value.ref p:=r1
 obtain ⟨aR,rv,pl,hz⟩:=I.list hq
 have hl:=rv.length
 rw [aad] at hl
 refine sorted_ints pl.isList (yF rv) (by lia) λ out ms a1 a2 a3=>?_
 obtain ⟨e,he⟩:=sortedAll_at s.heap aR out
 refine ⟨.ref (s.heap.objs.size+1),_,I.laid (t':=s.toks) (o:=.lst (ms.map V.int)) (λ b ob q=>sortedAll_old q) (alL _) ?_,rfl,q _ ms (I.bo.fresh (alL _)) a2 a3⟩
 have:=a2.length_eq
 exact ⟨by rw [aad];exact ahw (bq (by lia)),out.toList,e,xN a1,he⟩
end
section
variable {prog:Program} {w:World} {A:Around} {E:Value->Shared->Prop} {s:Shared}
theorem xq {t sl:Addr} {items:Array Value} {u:Tok} {Q:Value->Shared->Prop} (ht:IsTup s.heap t items) (hs:s.heap.IsSliceOf sl .none (.int items.size u) .none)
   (h:Q (.ref t) s):wpAny (model prog w) A (getItem (.ref t) (.ref sl)) Q E s:=by
 obtain ⟨os,Jj,Bf,PV⟩:=id hs
 have tys:s.TypeIs (.ref sl) "slice":=⟨os,Jj,Bf⟩
 unfold getItem;try with_reducible refine aj3 ?_
 first|refine wF (aaJ ?_)|skip
 refine wF (wpAny_sequenceKey ht.typeIs (by decide) (wF (als (name:=Str.ofString "__getitem__") ht.typeIs ami (amg ami ht.typeIs entry_tuple_getitem ?_ (args_tuple_getitem _ _)))))
 show wpAny _ _ (Builtin.Tuple.tupleItemsOf (.ref t) >>= _) _ _ s
 refine wF (tupleItemsOf_ ht (wF (amP tys ?_)))
 rw [aeA (by decide)]
 refine wF (vA hs (aau _) ?_)
 have aaj:(((0:Int) == 0 && (1:Int) == 1 && items.size == items.size)=true):=by simp
 show wpAny _ _ (if ((0:Int) == 0 && (1:Int) == 1 && items.size == items.size)=true then _ else _) _ _ s
 rw [aeA aaj]
 unfold Builtin.Tuple.tupleIsExact
 refine wF (wF (amP ht.typeIs (aaJ ?_)))
 show wpAny _ _ (if ((Value.type "tuple" == Value.type "tuple")=true) then _ else _) _ _ s
 rw [aeA (by decide)]
 exact wF (wpAny_rule (aaJ ⟨_,rfl,aaJ h⟩))
end
section
variable {X:Cx}
inductive afo (K:W.Frag) (x:V) (lo:Option Int) (hi:Option Int) (H:Hp) (Q:VK):Prop
 | mk (a xs:_) (j:Nat) (_:x = .ref a) (_:bQ K H a xs) (_:lo=none) (_:hi=some (j:Int)) (_:j<=xs.length) (_:∀ q H',av H H'->bQ K H' q (xs.take j)->Q (.ref q) H')
theorem tE:Wr X (afo X.K):=by
 intro pins s σ H x v vl vu lo hi sl Q I rx hs pl pu h
 obtain ⟨a,xs,j,ex,hx,el,eh,j1,q⟩:=h
 by_cases c:j<xs.length
 . exact FR pins s σ H x v vl vu lo hi sl Q I rx hs pl pu ⟨a,xs,j,ex,hx,el,eh,c,λ p hp=>q p _ (al hp) (bQ.of ac)⟩
 .
  subst ex el eh
  cases rx
  cases pu
  cases pl
  obtain ⟨aR,r,ht,hz⟩:=I.tuple hx
  have hlen:=r.length
  have ej:j=aR.toArray.size:=by rw [abJ];lia
  subst ej
  refine ⟨"tuple",_,slot_tuple_getitem.lookup,ht.typeIs,xq ht hs ⟨.ref a,H,I,rfl,q a H (av.refl _) ?_⟩⟩
  rw [abJ,← hlen,adg]
  exact hx
end
end L2
namespace K74
open PySem PySem.Spec PyProof.Rows L2 Mth
seal PE PS mP Ko PA PG Kk PT Hh PI
def top (i:Nat):Stmt:=PySem.Challenge.pw_stoke_k74_keepers_apart.main.body.getD i (.Pass ⟨0,0,0,0⟩)
abbrev ie:Stmt:=top 1
theorem vL:au ["bits","room"] ["bits","room"] (ai ie):=⟨rfl,rfl,rfl,by decide +kernel,rfl,by decide +kernel,by decide +kernel⟩
abbrev gC:Stmt:=top 2
theorem tR:au ["bits","room"] ["bits","room"] (ai gC):=⟨rfl,rfl,rfl,by decide +kernel,rfl,by decide +kernel,by decide +kernel⟩
abbrev jA:Stmt:=top 3
theorem ip:au ["rooms","bits","room"] ["rooms"] (ai jA):=⟨rfl,rfl,rfl,by decide +kernel,rfl,by decide +kernel,by decide +kernel⟩
abbrev x9:Stmt:=inClass (top 12) 0
abbrev br:Stmt:=inClass (top 17) 0
theorem fE:au ["self"] ["self"] (ai br):=⟨rfl,rfl,rfl,by decide +kernel,rfl,by decide +kernel,by decide +kernel⟩
abbrev bb:Stmt:=inClass (top 17) 1
theorem eE:au ["self"] ["self"] (ai bb):=⟨rfl,rfl,rfl,by decide +kernel,rfl,by decide +kernel,by decide +kernel⟩
abbrev e7:Stmt:=inClass (top 17) 2
theorem oG:au ["self","mind","state"] ["self","mind","state"] (ai e7):=⟨rfl,rfl,rfl,by decide +kernel,rfl,by decide +kernel,by decide +kernel⟩
abbrev bt:Stmt:=inClass (top 17) 3
theorem fC:au ["self","mind","state"] ["self","mind","state"] (ai bt):=⟨rfl,rfl,rfl,by decide +kernel,rfl,by decide +kernel,by decide +kernel⟩
abbrev ek:Stmt:=top 18
theorem nv:au ["keeper"] ["keeper"] (ai ek):=⟨rfl,rfl,rfl,by decide +kernel,rfl,by decide +kernel,by decide +kernel⟩
abbrev dq:Stmt:=inClass (top 19) 0
theorem kZ:au ["self","rows"] ["self","rows"] (ai dq):=⟨rfl,rfl,rfl,by decide +kernel,rfl,by decide +kernel,by decide +kernel⟩
abbrev fR:Stmt:=inClass (top 19) 1
theorem qI:au ["self","mind","state"] ["self","mind","state"] (ai fR):=⟨rfl,rfl,rfl,by decide +kernel,rfl,by decide +kernel,by decide +kernel⟩
abbrev dh:Stmt:=inClass (top 20) 0
theorem eL:au ["self","sills","low","high"] ["self","sills"] (ai dh):=⟨rfl,rfl,rfl,by decide +kernel,rfl,by decide +kernel,by decide +kernel⟩
abbrev fU:Stmt:=inClass (top 20) 1
theorem qq:au ["self","mind","state"] ["self","mind","state"] (ai fU):=⟨rfl,rfl,rfl,by decide +kernel,rfl,by decide +kernel,by decide +kernel⟩
abbrev cS:Stmt:=inClass (top 20) 2
theorem dS:au ["self","room","state","low","high"] ["self","room","state"] (ai cS):=⟨rfl,rfl,rfl,by decide +kernel,rfl,by decide +kernel,by decide +kernel⟩
abbrev dv:Stmt:=inClass (top 21) 0
theorem lA:au ["self","wishes"] ["self","wishes"] (ai dv):=⟨rfl,rfl,rfl,by decide +kernel,rfl,by decide +kernel,by decide +kernel⟩
abbrev fq:Stmt:=inClass (top 21) 1
theorem o7:au ["self"] ["self"] (ai fq):=⟨rfl,rfl,rfl,by decide +kernel,rfl,by decide +kernel,by decide +kernel⟩
abbrev fS:Stmt:=inClass (top 21) 2
theorem qM:au ["self","mind","state"] ["self","mind","state"] (ai fS):=⟨rfl,rfl,rfl,by decide +kernel,rfl,by decide +kernel,by decide +kernel⟩
abbrev fh:Stmt:=inClass (top 21) 3
theorem pK:au ["self","mind","state"] ["self","mind","state"] (ai fh):=⟨rfl,rfl,rfl,by decide +kernel,rfl,by decide +kernel,by decide +kernel⟩
abbrev bG:Stmt:=inClass (top 22) 0
theorem kB:au ["self","rows","other"] ["self","rows","other"] (ai bG):=⟨rfl,rfl,rfl,by decide +kernel,rfl,by decide +kernel,by decide +kernel⟩
abbrev fg:Stmt:=inClass (top 22) 1
theorem nY:au ["self"] ["self"] (ai fg):=⟨rfl,rfl,rfl,by decide +kernel,rfl,by decide +kernel,by decide +kernel⟩
abbrev fV:Stmt:=inClass (top 22) 2
theorem qP:au ["self"] ["self"] (ai fV):=⟨rfl,rfl,rfl,by decide +kernel,rfl,by decide +kernel,by decide +kernel⟩
abbrev fQ:Stmt:=inClass (top 22) 3
theorem re:au ["self","mind","state"] ["self","mind","state"] (ai fQ):=⟨rfl,rfl,rfl,by decide +kernel,rfl,by decide +kernel,by decide +kernel⟩
abbrev fm:Stmt:=inClass (top 22) 4
theorem oM:au ["self","mind","state"] ["self","mind","state"] (ai fm):=⟨rfl,rfl,rfl,by decide +kernel,rfl,by decide +kernel,by decide +kernel⟩
abbrev aN:Stmt:=inClass (top 23) 0
theorem lN:au ["self","one","other"] ["self","one","other"] (ai aN):=⟨rfl,rfl,rfl,by decide +kernel,rfl,by decide +kernel,by decide +kernel⟩
abbrev be:Stmt:=inClass (top 23) 1
theorem ql:au ["self"] ["self"] (ai be):=⟨rfl,rfl,rfl,by decide +kernel,rfl,by decide +kernel,by decide +kernel⟩
abbrev bp:Stmt:=inClass (top 23) 2
theorem tw:au ["self"] ["self"] (ai bp):=⟨rfl,rfl,rfl,by decide +kernel,rfl,by decide +kernel,by decide +kernel⟩
abbrev gy:Stmt:=inClass (top 23) 3
theorem tT:au ["self","mind","state"] ["self","mind","state"] (ai gy):=⟨rfl,rfl,rfl,by decide +kernel,rfl,by decide +kernel,by decide +kernel⟩
abbrev bc:Stmt:=inClass (top 23) 4
theorem gP:au ["self","mind","state","ones","others"] ["self","mind","state"] (ai bc):=⟨rfl,rfl,rfl,by decide +kernel,rfl,by decide +kernel,by decide +kernel⟩
abbrev aH:Stmt:=inClass (top 23) 5
theorem jF:au ["self","mind","state"] ["self","mind","state"] (ai aH):=⟨rfl,rfl,rfl,by decide +kernel,rfl,by decide +kernel,by decide +kernel⟩
abbrev aF:Stmt:=inClass (top 23) 6
theorem iF:au ["self","mind","state"] ["self","mind","state"] (ai aF):=⟨rfl,rfl,rfl,by decide +kernel,rfl,by decide +kernel,by decide +kernel⟩
abbrev fk:Stmt:=inClass (top 24) 0
theorem pH:au ["self","mind","state"] ["self","mind","state"] (ai fk):=⟨rfl,rfl,rfl,by decide +kernel,rfl,by decide +kernel,by decide +kernel⟩
abbrev dN:Stmt:=inClass (top 25) 0
theorem lI:au ["self","mind","state"] ["self","mind","state"] (ai dN):=⟨rfl,rfl,rfl,by decide +kernel,rfl,by decide +kernel,by decide +kernel⟩
abbrev dB:Stmt:=inClass (top 26) 0
theorem kJ:au ["self","room","band","one","other"] ["self","room","band","one","other"] (ai dB):=⟨rfl,rfl,rfl,by decide +kernel,rfl,by decide +kernel,by decide +kernel⟩
abbrev fO:Stmt:=inClass (top 26) 1
theorem qW:au ["self","mind","state"] ["self","mind","state"] (ai fO):=⟨rfl,rfl,rfl,by decide +kernel,rfl,by decide +kernel,by decide +kernel⟩
abbrev jB:Stmt:=top 28
theorem dW:au ["state","rooms","bands","burning","waits","failed","heap","bits"] ["state","rooms"] (ai jB):=⟨rfl,rfl,rfl,by decide +kernel,rfl,by decide +kernel,by decide +kernel⟩
abbrev lC:Stmt:=top 29
theorem zj:au ["row","rooms"] ["row","rooms"] (ai lC):=⟨rfl,rfl,rfl,by decide +kernel,rfl,by decide +kernel,by decide +kernel⟩
abbrev dm:Stmt:=inClass (top 31) 0
theorem kA:au ["self","rows"] ["self","rows"] (ai dm):=⟨rfl,rfl,rfl,by decide +kernel,rfl,by decide +kernel,by decide +kernel⟩
abbrev fi:Stmt:=inClass (top 31) 1
theorem cU:au ["self","many","rooms","keeper"] ["self"] (ai fi):=⟨rfl,rfl,rfl,by decide +kernel,rfl,by decide +kernel,by decide +kernel⟩
abbrev fX:Stmt:=inClass (top 31) 2
theorem qK:au ["self"] ["self"] (ai fX):=⟨rfl,rfl,rfl,by decide +kernel,rfl,by decide +kernel,by decide +kernel⟩
abbrev fW:Stmt:=inClass (top 31) 3
theorem bY:au ["self","mind","state","bits","row","own","rooms","keeper","wished"] ["self","mind","state"] (ai fW):=⟨rfl,rfl,rfl,by decide +kernel,rfl,by decide +kernel,by decide +kernel⟩
abbrev fv:Stmt:=inClass (top 31) 4
theorem bC:au ["self","mind","state","later","weight","row","own","rooms","keeper"] ["self","mind","state"] (ai fv):=⟨rfl,rfl,rfl,by decide +kernel,rfl,by decide +kernel,by decide +kernel⟩
abbrev cP:Stmt:=inClass (top 31) 5
theorem bI:au ["self","mind","own","rest","rooms","keeper"] ["self","mind"] (ai cP):=⟨rfl,rfl,rfl,by decide +kernel,rfl,by decide +kernel,by decide +kernel⟩
abbrev eD:Stmt:=top 33
theorem zC:au ["room","band"] ["room","band"] (ai eD):=⟨rfl,rfl,rfl,by decide +kernel,rfl,by decide +kernel,by decide +kernel⟩
abbrev fL:Stmt:=top 34
theorem BO:au ["room"] ["room"] (ai fL):=⟨rfl,rfl,rfl,by decide +kernel,rfl,by decide +kernel,by decide +kernel⟩
abbrev dI:Stmt:=top 35
theorem zM:au ["one","other"] ["one","other"] (ai dI):=⟨rfl,rfl,rfl,by decide +kernel,rfl,by decide +kernel,by decide +kernel⟩
abbrev e9:Stmt:=top 37
theorem pG:au ["_law_script","_law_k"] ["_law_script","_law_k"] (ai e9):=⟨rfl,rfl,rfl,by decide +kernel,rfl,by decide +kernel,by decide +kernel⟩
abbrev jw:Stmt:=top 38
theorem oW:au ["_law_cell","_law_k","_law_turn","_law_prime"] ["_law_cell","_law_k","_law_turn"] (ai jw):=⟨rfl,rfl,rfl,by decide +kernel,rfl,by decide +kernel,by decide +kernel⟩
abbrev fK:Stmt:=top 39
theorem e8:au ["_law_x","_law_many","_law_bits","_law_clock","_law_way"] ["_law_x","_law_many"] (ai fK):=⟨rfl,rfl,rfl,by decide +kernel,rfl,by decide +kernel,by decide +kernel⟩
abbrev iu:Stmt:=top 40
theorem cF:au ["_law_cell","_law_order","_law_rows_here","_law_at","_law_k","_law_many","_law_some"] ["_law_cell"] (ai iu):=⟨rfl,rfl,rfl,by decide +kernel,rfl,by decide +kernel,by decide +kernel⟩
abbrev gI:Stmt:=top 41
theorem fT:au ["_law_cell","_law_k","_law_bands","_law_waits","_law_failed"] ["_law_cell","_law_k"] (ai gI):=⟨rfl,rfl,rfl,by decide +kernel,rfl,by decide +kernel,by decide +kernel⟩
abbrev fw:Stmt:=top 42
theorem cC:au ["_law_state_here","_law_some","_law_burning","_law_k","_law_bands","_law_waits"] ["_law_state_here","_law_some"] (ai fw):=⟨rfl,rfl,rfl,by decide +kernel,rfl,by decide +kernel,by decide +kernel⟩
abbrev fP:Stmt:=top 43
theorem bZ:au ["_law_rows_here","_law_minds","_law_state_here","_law_bits","_law_k","_law_some","_law_keeper_here","_law_wish","_law_j"] ["_law_rows_here","_law_minds","_law_state_here"] (ai fP):=⟨rfl,rfl,rfl,by decide +kernel,rfl,by decide +kernel,by decide +kernel⟩
abbrev gF:Stmt:=top 44
theorem tf:au ["_law_found","_law_due"] ["_law_found","_law_due"] (ai gF):=⟨rfl,rfl,rfl,by decide +kernel,rfl,by decide +kernel,by decide +kernel⟩
abbrev fb:Stmt:=top 45
theorem cW:au ["_law_rows_here","_law_refused_here","e"] ["_law_rows_here"] (ai fb):=⟨rfl,rfl,rfl,by decide +kernel,rfl,by decide +kernel,by decide +kernel⟩
abbrev hZ:Stmt:=top 46
theorem gA:au ["_law_many","_law_deep_here","_law_k"] ["_law_many"] (ai hZ):=⟨rfl,rfl,rfl,by decide +kernel,rfl,by decide +kernel,by decide +kernel⟩
abbrev eA:Stmt:=top 47
theorem ny:au ["_law_x"] ["_law_x"] (ai eA):=⟨rfl,rfl,rfl,by decide +kernel,rfl,by decide +kernel,by decide +kernel⟩
abbrev eC:Stmt:=top 48
theorem dP:au ["_law_x","_law_nine","_law_seven","_law_deep_here"] ["_law_x"] (ai eC):=⟨rfl,rfl,rfl,by decide +kernel,rfl,by decide +kernel,by decide +kernel⟩
abbrev fM:Stmt:=top 49
theorem rf:au ["_law_way","_law_keeper_here","_law_clock","_law_band"] ["_law_way","_law_keeper_here","_law_clock","_law_band"] (ai fM):=⟨rfl,rfl,rfl,by decide +kernel,rfl,by decide +kernel,by decide +kernel⟩
abbrev cR:Stmt:=top 50
theorem kg:au ["_law_way","_law_state_here","_law_band","_law_wish","_law_beside"] ["_law_way","_law_state_here","_law_band","_law_wish","_law_beside"] (ai cR):=⟨rfl,rfl,rfl,by decide +kernel,rfl,by decide +kernel,by decide +kernel⟩
abbrev cH:Stmt:=top 51
theorem aD:au ["_law_script","_law_way","_law_rows_here","_law_keeper_here","_law_bounds","_law_x","_law_band","_law_wishes","_law_minds","_law_size","_law_told","_law_own","_law_mind","_law_k","_law_state_here","_law_due"] ["_law_script","_law_way","_law_rows_here","_law_keeper_here","_law_bounds"] (ai cH):=⟨rfl,rfl,rfl,by decide +kernel,rfl,by decide +kernel,by decide +kernel⟩
abbrev ir:Stmt:=top 52
theorem db:au ["_law_rows_here","_law_minds","_law_size","_law_some","_law_keeper_here"] ["_law_rows_here"] (ai ir):=⟨rfl,rfl,rfl,by decide +kernel,rfl,by decide +kernel,by decide +kernel⟩
abbrev ij:Stmt:=top 53
theorem cY:au ["_law_walk","_law_state_here","_law_rows_here","_law_keeper_here","_law_minds","_law_own","_law_at","_law_j"] ["_law_walk","_law_state_here"] (ai ij):=⟨rfl,rfl,rfl,by decide +kernel,rfl,by decide +kernel,by decide +kernel⟩
abbrev uE:Stmt:=top 54
theorem gb:au ["_law_script","_law_rows_here","_law_minds","_law_size","_law_handed","_law_keeper_here","_law_one","_law_walk","_law_k","_law_way","_law_x"] ["_law_script"] (ai uE):=⟨rfl,rfl,rfl,by decide +kernel,rfl,by decide +kernel,by decide +kernel⟩
structure HV where
 Keeper:Addr
 d6:Addr
 cy:Addr
 Clock:Addr
 Table:Addr
 Pair:Addr
 cm:Addr
 bw:Addr
 Below:Addr
 Apart:Addr
 p9:Addr
 ba:Addr
 x5:Addr
 yI:Addr
 vR:Addr
 yJ:Addr
 Shared:Addr
 Ba:Addr
 eT:Addr
 jj:Addr
 kR:Addr
 iN:Addr
structure Txt (K:W.Frag) (mg:Str->Option Value) (A:HV):Prop where
 iQ:mg "Keeper" = some (.ref A.Keeper)
 Gi:mg "Ruled" = some (.ref A.d6)
 yk:mg "Sills" = some (.ref A.cy)
 jo:mg "Clock" = some (.ref A.Clock)
 nQ:mg "Table" = some (.ref A.Table)
 wI:mg "Pair" = some (.ref A.Pair)
 pB:mg "Either" = some (.ref A.cm)
 wT:mg "Together" = some (.ref A.bw)
 xw:mg "Below" = some (.ref A.Below)
 kr:mg "Apart" = some (.ref A.Apart)
 sT:mg "StokeError" = some (.ref A.p9)
 jk:mg "TooMany" = some (.ref A.ba)
 zm:mg "NoState" = some (.ref A.x5)
 zp:mg "NoOrder" = some (.ref A.yI)
 xi:mg "NoKeeper" = some (.ref A.vR)
 zr:mg "NotKept" = some (.ref A.yJ)
 Bw:mg "Shared" = some (.ref A.Shared)
 C8:mg "NoRoom" = some (.ref A.Ba)
 rX:W.excIn K A.ba [.type "ValueError",.type "Exception",.type "BaseException",.type "object"] "ValueError.__new__" = true
 uG:W.findIn K (.ref A.ba) "__getattribute__" = some (some (.builtin "BaseException.__getattribute__"))
 uY:W.findIn K (.ref A.ba) "__getattr__" = some none
 uB:W.findIn K (.ref A.ba) "__class__" = some (some (.builtin "object.__class__"))
 wd:W.mroIn K A.ba (.type "object")=some true
 vd:W.mroIn K A.ba (.type "BaseException")=some true
 vD:W.isClsIn K A.ba=true
 rF:W.findIn K (.ref A.Keeper) "__class__" = some (some (.builtin "object.__class__"))
 rE:W.mroIn K A.Keeper (.type "object")=some true
 zD:W.kitOne K (.ref A.Keeper) (.ref A.Keeper)=some true
 u6:W.findIn K (.ref A.d6) "__class__" = some (some (.builtin "object.__class__"))
 uX:W.mroIn K A.d6 (.type "object")=some true
 CY:W.kitOne K (.ref A.d6) (.ref A.Keeper)=some true
 uS:W.findIn K (.ref A.cy) "__class__" = some (some (.builtin "object.__class__"))
 uL:W.mroIn K A.cy (.type "object")=some true
 CD:W.kitOne K (.ref A.cy) (.ref A.Keeper)=some true
 vx:W.findIn K (.ref A.Clock) "__class__" = some (some (.builtin "object.__class__"))
 vE:W.mroIn K A.Clock (.type "object")=some true
 BI:W.kitOne K (.ref A.Clock) (.ref A.Keeper)=some true
 vI:W.findIn K (.ref A.Table) "__class__" = some (some (.builtin "object.__class__"))
 uK:W.mroIn K A.Table (.type "object")=some true
 Bc:W.kitOne K (.ref A.Table) (.ref A.Keeper)=some true
 FK:W.findIn K (.ref A.Pair) "__class__" = some (some (.builtin "object.__class__"))
 Eo:W.mroIn K A.Pair (.type "object")=some true
 EH:W.kitOne K (.ref A.Pair) (.ref A.Keeper)=some true
 zx:W.findIn K (.ref A.cm) "__class__" = some (some (.builtin "object.__class__"))
 zN:W.mroIn K A.cm (.type "object")=some true
 zy:W.kitOne K (.ref A.cm) (.ref A.Keeper)=some true
 uu:W.findIn K (.ref A.bw) "__class__" = some (some (.builtin "object.__class__"))
 vC:W.mroIn K A.bw (.type "object")=some true
 vB:W.kitOne K (.ref A.bw) (.ref A.Keeper)=some true
 B4:W.findIn K (.ref A.Below) "__class__" = some (some (.builtin "object.__class__"))
 AT:W.mroIn K A.Below (.type "object")=some true
 BV:W.kitOne K (.ref A.Below) (.ref A.Keeper)=some true
 vZ:W.findIn K (.ref A.Apart) "__class__" = some (some (.builtin "object.__class__"))
 wa:W.mroIn K A.Apart (.type "object")=some true
 CF:W.kitOne K (.ref A.Apart) (.ref A.Keeper)=some true
 dg:W.specialIn K (.builtin "object.__class__") "__get__" = some (some (.builtin "getset_descriptor.__get__"))
 bN:W.takesIn K (.builtin "object.__class__")=some true
 jD:W.findIn K (.ref A.Keeper) "__init__" = some (some (.builtin "object.__init__"))
 ex:W.exmOne K (.ref A.ba) (.ref A.p9)=some true
 ex2:W.exmOne K (.ref A.ba) (.ref A.ba)=some true
 k0:W.kitAny K (.ref A.ba) [.ref A.vR,.ref A.x5,.ref A.yJ,.ref A.Shared,.ref A.Ba,.ref A.yI]=some false
 k1:W.kitOne K (.ref A.ba) (.type "ValueError")=some true
 k3:W.kitOne K (.ref A.ba) (.ref A.ba)=some true
 tH:∃ t,mg "MOST_MINDS" = some (.int 60 t)
 wb:∃ t,mg "MOST_SIZE" = some (.int 15 t)
 rl:∃ t,mg "MOST_WISHES" = some (.int 24 t)
 lT:qf K A.Keeper
 d9:j3 K A.Keeper
 oV:bi K A.Keeper "minds" "Keeper.minds" br .none
 qr:bi K A.Keeper "size" "Keeper.size" bb .none
 qJ:bi K A.Keeper "wish" "Keeper.wish" e7 .none
 pN:bi K A.Keeper "after" "Keeper.after" bt .none
 iT:qf K A.d6
 AQ:j3 K A.d6
 jT:bT K A.d6 "rows"
 lO:bi K A.d6 "__init__" "Ruled.__init__" dq .none
 t9:bi K A.d6 "wish" "Ruled.wish" fR .none
 qF:bi K A.d6 "minds" "Keeper.minds" br .none
 sO:bi K A.d6 "size" "Keeper.size" bb .none
 qp:bi K A.d6 "after" "Keeper.after" bt .none
 gm:qf K A.cy
 vF:j3 K A.cy
 f6:bT K A.cy "sills"
 lJ:bi K A.cy "__init__" "Sills.__init__" dh .none
 sY:bi K A.cy "wish" "Sills.wish" fU .none
 kM:bi K A.cy "is_wished" "Sills.is_wished" cS .none
 qL:bi K A.cy "minds" "Keeper.minds" br .none
 sW:bi K A.cy "size" "Keeper.size" bb .none
 qH:bi K A.cy "after" "Keeper.after" bt .none
 gl:qf K A.Clock
 g3:j3 K A.Clock
 dO:bT K A.Clock "wishes"
 ma:bi K A.Clock "__init__" "Clock.__init__" dv .none
 qo:bi K A.Clock "minds" "Clock.minds" fq .none
 tu:bi K A.Clock "wish" "Clock.wish" fS .none
 rh:bi K A.Clock "after" "Clock.after" fh .none
 sF:bi K A.Clock "size" "Keeper.size" bb .none
 bR:qf K A.Table
 kQ:j3 K A.Table
 gL:bT K A.Table "rows"
 bz:bT K A.Table "other"
 l8:bi K A.Table "__init__" "Table.__init__" bG (.ref A.eT)
 mj:VG K A.eT [.dC]
 qC:bi K A.Table "minds" "Table.minds" fg .none
 uc:bi K A.Table "size" "Table.size" fV .none
 tU:bi K A.Table "wish" "Table.wish" fQ .none
 qm:bi K A.Table "after" "Table.after" fm .none
 xY:qf K A.Pair
 yG:j3 K A.Pair
 vV:bT K A.Pair "one"
 rp:bT K A.Pair "other"
 nF:bi K A.Pair "__init__" "Pair.__init__" aN .none
 tI:bi K A.Pair "minds" "Pair.minds" be .none
 vT:bi K A.Pair "size" "Pair.size" bp .none
 vn:bi K A.Pair "wish" "Pair.wish" gy .none
 sw:bi K A.Pair "after" "Pair.after" bc .none
 j2:bi K A.Pair "wish_of_one" "Pair.wish_of_one" aH .none
 je:bi K A.Pair "wish_of_other" "Pair.wish_of_other" aF .none
 rZ:qf K A.cm
 l9:j3 K A.cm
 qu:bT K A.cm "one"
 nc:bT K A.cm "other"
 qU:bi K A.cm "wish" "Either.wish" fk .none
 li:bi K A.cm "__init__" "Pair.__init__" aN .none
 oR:bi K A.cm "minds" "Pair.minds" be .none
 qY:bi K A.cm "size" "Pair.size" bp .none
 p4:bi K A.cm "after" "Pair.after" bc .none
 iO:bi K A.cm "wish_of_one" "Pair.wish_of_one" aH .none
 ib:bi K A.cm "wish_of_other" "Pair.wish_of_other" aF .none
 mz:qf K A.bw
 u4:j3 K A.bw
 m3:bT K A.bw "one"
 kO:bT K A.bw "other"
 nA:bi K A.bw "wish" "Together.wish" dN .none
 jJ:bi K A.bw "__init__" "Pair.__init__" aN .none
 lP:bi K A.bw "minds" "Pair.minds" be .none
 nl:bi K A.bw "size" "Pair.size" bp .none
 lE:bi K A.bw "after" "Pair.after" bc .none
 hW:bi K A.bw "wish_of_one" "Pair.wish_of_one" aH .none
 gQ:bi K A.bw "wish_of_other" "Pair.wish_of_other" aF .none
 gX:qf K A.Below
 vY:j3 K A.Below
 t4:bT K A.Below "one"
 oN:bT K A.Below "other"
 jW:bT K A.Below "room"
 jY:bT K A.Below "band"
 lF:bi K A.Below "__init__" "Below.__init__" dB .none
 sS:bi K A.Below "wish" "Below.wish" fO .none
 qG:bi K A.Below "minds" "Pair.minds" be .none
 tZ:bi K A.Below "size" "Pair.size" bp .none
 qx:bi K A.Below "after" "Pair.after" bc .none
 jL:bi K A.Below "wish_of_one" "Pair.wish_of_one" aH .none
 iH:bi K A.Below "wish_of_other" "Pair.wish_of_other" aF .none
 cK:qf K A.Apart
 iZ:j3 K A.Apart
 cM:bT K A.Apart "rows"
 lS:bi K A.Apart "__init__" "Apart.__init__" dm .none
 qV:bi K A.Apart "minds" "Apart.minds" fi .none
 sM:bi K A.Apart "size" "Apart.size" fX .none
 t8:bi K A.Apart "wish" "Apart.wish" fW .none
 qj:bi K A.Apart "after" "Apart.after" fv .none
 ly:bi K A.Apart "own_minds" "Apart.own_minds" cP .none
 mX:∃ f fd,Br K A.Pair "__init__" f/\gx K "__init__" "Pair.__init__" aN .none f fd
 nd:([A.jj,A.kR,A.iN]:List Addr).Nodup
 wG:km K mg "has_room" ie
 vN:km K mg "with_room" gC
 yN:km K mg "bits_of" jA
 o9:km K mg "look_at_size" ek
 zt:km K mg "portion" jB
 BF:km K mg "chosen" lC
 vP:rB K mg "colder" eD A.jj
 xz:rB K mg "burns" fL A.kR
 vq:rB K mg "one_of" dI A.iN
 qT:km K mg "_law_cell_at" e9
 zK:km K mg "_law_mix" jw
 tD:km K mg "_law_keeper" fK
 xb:km K mg "_law_rows" iu
 wf:km K mg "_law_state" gI
 qD:km K mg "_law_portion" fw
 tO:km K mg "_law_wished" fP
 uU:km K mg "_law_whole" gF
 qQ:km K mg "_law_refused" fb
 wV:km K mg "_law_deep" hZ
 oB:km K mg "_law_just_let" eA
 pP:km K mg "_law_too_many" eC
 tQ:km K mg "_law_within" fM
 kG:km K mg "_law_within_wish" cR
 j5:km K mg "_law_within_right" cH
 wJ:km K mg "_law_sums" ir
 wP:km K mg "_law_step" ij
 Qv:km K mg "law" uE
 tY:mg "ValueError" = none
 Bg:mg "bool" = none
 Ci:mg "dict" = none
 AD:mg "divmod" = none
 mE:mg "enumerate" = none
 yB:mg "int" = none
 bX:mg "isinstance" = none
 hU:mg "len" = none
 wz:mg "list" = none
 du:mg "range" = none
 Cb:mg "sorted" = none
 UI:mg "sum" = none
 gG:mg "tuple" = none
 Ht:mg "zip" = none
abbrev kq_ (K:W.Frag) (a:Addr):Prop:=W.keepIn K (.ref a)=true
abbrev kc_ (K:W.Frag) (a:Value) (x:Str):Prop:=W.codeIn K a x=true
abbrev kf_ (K:W.Frag) (a:Addr) (b:Value) (c:Option Addr) (x y:Str) (s:Stmt) (d e f:Value) (g:Option Addr) (h i:Value) (n:Array (Option Value)):Prop:=K.lookup a=some ⟨b,c,.func (W.fnOf x y (aY s) (aI s) (ai s) .none d e f g h i),n⟩
abbrev kn_ (K:W.Frag) (x:Str) (a:Addr):Prop:=W.nsIn K mainGlobals x=some (some (.ref a))
abbrev kg_ (K:W.Frag) (a:Addr) (x:Str) (b:Addr):Prop:=W.findIn K (.ref a) x=some (some (.ref b))
theorem txt_mk {K:W.Frag} {h:Heap} {mg:Str->Option Value} (X:K.In h) (G:h.Ns mainGlobals mg)
 {z0 z1 z2 z3 z4 z5 z6 z7 z8 z9 z10 wr YW z13 z14 z15 z16 z17 P9 Uk ON UR Rf KO QE LQ Cq DB Aq CU As BN Co AN CO BB Av Do Ao JI Cn CJ Bl AL DM B7 CS DO DA Cu Dr CH Cc AC BQ Dt CV At BY BC AW BK Db Bn Cy AI B5 Ck Bp Dm AM AV BX Dh DK DN BW Au FU Ek F3 EO D9 Fm ED FZ Ga A0 F0 Ff BE EB FG C0 EZ FX FW Go Fs Fh Ev FY FA EE EV D7 D5 FQ Gd DY EL Fa:Addr}
 {z18 z19 z20:Tok}
 {z22 z23 z32 z33 z42 z43 z52 z53 z62 z63 z72 z73 z82 z83 z92 z93 aiH aeP ako aiR abA Xf aiO aaq ajN akY agS alr ahC ad4 Xw Xi abD Y9 afa afp acq abK ado aet aj7 Y7 adz alg agq Zx ab5 Y1 WZ aaL ac3 ake ag0 aje aiQ aaF WT afr aig ajU acI Yz alc ab0 afx abV ajG ab8 Z9 ahs aeg abr alo ahG air agZ agl acs acJ ag2 ajX aiY afK ahA aj4 akU aak Y4 ad0 aks akE ZZ alH age acE adW aih aaE agG aia XA ae5 aiB aeH aeh aa5 aec afM ads aiU YV acZ adZ ajF aim aeQ agz af0 acm ajo ahB aeW aeL aa6 YC Yw acU ahK ZH agg Ya adb WS alu aal aes aj5 aib agC agn af4 Zo adV aaX akV ae4 ZC aiv ajz adc agk ajg Yi agW adD adx Za ah7 Zi akK ain agL WX YO afm alm af3 Zt aeB acy Xv abZ afF Xb aco agp XY ahF:Option Addr}
 {z24 z34 z44 z54 z64 z74 z84 z94 abv alk ajn ZA aci XX akI ac5 acD akv abh aek abP X1 ajh aas agj alf akN aeU aa3 aiD Yx akB aaY afJ Xd ajr alF ahi afX X4 aly aa2 aca acF ZJ WY ajL ac8 akz ZP Xk ag3 alv afA aiT afQ aep afu adp ah4 akD Y0 aiG XO aa8 ajw ac1 agY adC ajd ahv aeJ alG agV abC akZ abj akM Yf akp aen X9 XN aby agH adB Yy ahV YT afH Zn:Array (Option Value)}
 {z25 z26 z27 z28 z29 z30 z35 z36 z37 z38 z39 z40 z45 z46 z47 z48 z49 z50 z55 z56 z57 z58 z59 z60 z65 z66 z67 z68 z69 z70 z75 z76 z77 z78 z79 z80 z85 z86 z87 z88 z89 z90 z95 z96 z97 z98 z99 YK W4 ahm Xh aee VM aej YI aac aaB aiZ Uz aa7 agE afh afY aiu Oq aij ahI ajy aeI Xn TC abI ahr Xq Zl XV VA abO aff ZX Zp ak8 OW abW ab7 aiF agr ZF VN aaR adI X0 aiJ aaQ UV adK ZY alw ajZ ai5 Rv ahH adF aax Xe acN So ais ak1 afv aer adq Pe acj X3 YE aj8 agc OR abk abp XB Yg Zh Sv ai9 afU W7 ahM akb YN Mc ae2 aan adM abF abm Lr ad2 Yp Zd ahf Yt Qa ahk aeX agT ZT ack LI aaG afe afy aaZ ai7 Ov ahj XJ aa0 ahR akt Rt ad1 alq ajc alh af7 VR aj0 afC ahx aeT acG K5 ae0 aeq afD add ait MU acb afV aeC af1 X7 Tz agw adL afc Xr ajt NK agX aeR ace aio adi Uh ac9 ah0 aeN aaI ZU QB akL ahY acM ajs abL SB ade akw ald agK ahQ UQ ajT adr ajM adh WW KR ae3 aku Yq abz ai0 U2 akQ Z7 W0 ahb aiP KS aey aeY ach abx adR QI aja akC XQ acA W5 PU agv agy Ye abQ Y6 Mf akn ab1 aiE afN aah Vc ag5 Yo agD ZL aev PM aeS aez agi ajC agh RK agU acd YR acY akG TY ab9 aaw ahy ai8 Xt PY Zv acR aiz aai abu Vg aeK Yl W6 acw ae6 Me aag afz acQ ZE ahu Tk agJ alj aix ZV ZW OE agP Ys ag8 afZ ahW Tq ahh afb ajI ag9 acv Rz ag1 acf agm adn aap TX adE Xg agO aaO ac4 Ug YS ad3 ZK alt Zj R4 acK aaC ajl Y2 ac6 VZ abY ak7 aft Y3 aeZ Qq akf af9 ag6 afG aiM Oi acS XG adP XZ WU Um ah5 acx ajS ad8 abc VJ aiC ZO adw aat ad5 MT ajB agN akP aeD Zk Mq Zg abn Zq afw akj To afn ajb aaU YY abH OC abR Zr aex WV afI LB ai6 ai1 aba adQ Yv akd ajR Y8 akq agu akX W8 aky aaA aka ZR Yu abG aa9 ahE PN aaf aj9 XE aip aea QN W9 akS alz ajP XC UE aho YG abE acP acX TN agt Y5 akx aeF ah6 Q8 Xz afj XS ad6 aed Pg X2 afl ai2 aln agQ Q4 akT ail aji ac0 Xa Lz aaH Xu adU ah3 ah2 N6 aiq aar ab2 ag4 Yh PC alB afT abt aaS akc Sa aaV Ym YB agB abf SE afs ajO ahp Yn Yc SS ZI abN aeO akH X6 RJ ai4 aaa ahX ac7 adG QG ahq ajD YZ XI ahT TV Xx abd ak2 afP acp Np aif aid acr alE ad9 Qb aab:Value}
 {ale:Nat}
 {Nh SA Qu:Array Value}
 (aef:kn_ K "Keeper" z0)
 (alx:kn_ K "Ruled" z1)
 (afk:kn_ K "Sills" z2)
 (aic:kn_ K "Clock" z3)
 (aeE:kn_ K "Table" z4)
 (ahJ:kn_ K "Pair" z5)
 (aj1:kn_ K "Either" z6)
 (afq:kn_ K "Together" z7)
 (ahP:kn_ K "Below" z8)
 (aha:kn_ K "Apart" z9)
 (akO:kn_ K "StokeError" z10)
 (ahz:kn_ K "TooMany" wr)
 (ah8:kn_ K "NoState" YW)
 (alA:kn_ K "NoOrder" z13)
 (YM:kn_ K "NoKeeper" z14)
 (Xo:kn_ K "NotKept" z15)
 (ahl:kn_ K "Shared" z16)
 (ajA:kn_ K "NoRoom" z17)
 (afW:W.excIn K wr [.type "ValueError",.type "Exception",.type "BaseException",.type "object"] "ValueError.__new__" = true)
 (ac2:W.findIn K (.ref wr) "__getattribute__" = some (some (.builtin "BaseException.__getattribute__")))
 (YL:W.findIn K (.ref wr) "__getattr__" = some none)
 (aju:W.findIn K (.ref wr) "__class__" = some (some (.builtin "object.__class__")))
 (ajq:W.mroIn K wr (.type "object")=some true)
 (YX:W.mroIn K wr (.type "BaseException")=some true)
 (akF:W.isClsIn K wr=true)
 (YA:W.findIn K (.ref z0) "__class__" = some (some (.builtin "object.__class__")))
 (abi:W.mroIn K z0 (.type "object")=some true)
 (aeo:W.kitOne K (.ref z0) (.ref z0)=some true)
 (afR:W.findIn K (.ref z1) "__class__" = some (some (.builtin "object.__class__")))
 (ajV:W.mroIn K z1 (.type "object")=some true)
 (acV:W.kitOne K (.ref z1) (.ref z0)=some true)
 (aiS:W.findIn K (.ref z2) "__class__" = some (some (.builtin "object.__class__")))
 (acz:W.mroIn K z2 (.type "object")=some true)
 (Zm:W.kitOne K (.ref z2) (.ref z0)=some true)
 (aeb:W.findIn K (.ref z3) "__class__" = some (some (.builtin "object.__class__")))
 (aiK:W.mroIn K z3 (.type "object")=some true)
 (ah1:W.kitOne K (.ref z3) (.ref z0)=some true)
 (abg:W.findIn K (.ref z4) "__class__" = some (some (.builtin "object.__class__")))
 (adj:W.mroIn K z4 (.type "object")=some true)
 (acL:W.kitOne K (.ref z4) (.ref z0)=some true)
 (ai3:W.findIn K (.ref z5) "__class__" = some (some (.builtin "object.__class__")))
 (aaD:W.mroIn K z5 (.type "object")=some true)
 (ajJ:W.kitOne K (.ref z5) (.ref z0)=some true)
 (Xc:W.findIn K (.ref z6) "__class__" = some (some (.builtin "object.__class__")))
 (YU:W.mroIn K z6 (.type "object")=some true)
 (adl:W.kitOne K (.ref z6) (.ref z0)=some true)
 (ae7:W.findIn K (.ref z7) "__class__" = some (some (.builtin "object.__class__")))
 (adt:W.mroIn K z7 (.type "object")=some true)
 (abo:W.kitOne K (.ref z7) (.ref z0)=some true)
 (ak6:W.findIn K (.ref z8) "__class__" = some (some (.builtin "object.__class__")))
 (ahn:W.mroIn K z8 (.type "object")=some true)
 (afO:W.kitOne K (.ref z8) (.ref z0)=some true)
 (aeu:W.findIn K (.ref z9) "__class__" = some (some (.builtin "object.__class__")))
 (adY:W.mroIn K z9 (.type "object")=some true)
 (Zb:W.kitOne K (.ref z9) (.ref z0)=some true)
 (ags:W.specialIn K (.builtin "object.__class__") "__get__" = some (some (.builtin "getset_descriptor.__get__")))
 (ajH:W.takesIn K (.builtin "object.__class__")=some true)
 (adS:W.findIn K (.ref z0) "__init__" = some (some (.builtin "object.__init__")))
 (ajW:W.exmOne K (.ref wr) (.ref z10)=some true)
 (XM:W.exmOne K (.ref wr) (.ref wr)=some true)
 (Xp:W.kitAny K (.ref wr) [.ref z14,.ref YW,.ref z15,.ref z16,.ref z17,.ref z13]=some false)
 (ah9:W.kitOne K (.ref wr) (.type "ValueError")=some true)
 (ady:W.kitOne K (.ref wr) (.ref wr)=some true)
 (ak4:W.nsIn K mainGlobals "MOST_MINDS" = some (some (.int 60 z18)))
 (ael:W.nsIn K mainGlobals "MOST_SIZE" = some (some (.int 15 z19)))
 (Zz:W.nsIn K mainGlobals "MOST_WISHES" = some (some (.int 24 z20)))
 (aaT:W.plainGet K z0 Str.empty=true)
 (agR:W.hasDictIn K z0=true)
 (aam:W.plainOver K z0=true)
 (adk:W.findIn K (.ref z0) "__setattr__" = some (some (.builtin "object.__setattr__")))
 (abe:W.makesIn K z0=true)
 (ajj:kq_ K z0)
 (aiX:kg_ K z0 "minds" P9)
 (akJ:W.isFn K (.ref P9)=true)
 (abB:kf_ K P9 z25 z22 "minds" "Keeper.minds" br z26 z27 z28 z23 z29 z30 z24)
 (aiw:kc_ K z29 "Keeper.minds")
 (SR:kq_ K P9)
 (adv:kg_ K z0 "size" Uk)
 (YD:W.isFn K (.ref Uk)=true)
 (YF:kf_ K Uk z35 z32 "size" "Keeper.size" bb z36 z37 z38 z33 z39 z40 z34)
 (ahd:kc_ K z39 "Keeper.size")
 (RU:kq_ K Uk)
 (ahZ:kg_ K z0 "wish" ON)
 (ada:W.isFn K (.ref ON)=true)
 (ak0:kf_ K ON z45 z42 "wish" "Keeper.wish" e7 z46 z47 z48 z43 z49 z50 z44)
 (adf:kc_ K z49 "Keeper.wish")
 (KU:kq_ K ON)
 (Xj:kg_ K z0 "after" UR)
 (Zc:W.isFn K (.ref UR)=true)
 (Zu:kf_ K UR z55 z52 "after" "Keeper.after" bt z56 z57 z58 z53 z59 z60 z54)
 (X5:kc_ K z59 "Keeper.after")
 (Of:kq_ K UR)
 (K4:W.plainGet K z1 Str.empty=true)
 (Ry:W.hasDictIn K z1=true)
 (O4:W.plainOver K z1=true)
 (Tp:W.findIn K (.ref z1) "__setattr__" = some (some (.builtin "object.__setattr__")))
 (Lb:W.makesIn K z1=true)
 (Uu:kq_ K z1)
 (KC:W.findIn K (.ref z1) "rows" = some none)
 (RC:kg_ K z1 "__init__" Rf)
 (VF:W.isFn K (.ref Rf)=true)
 (Nt:kf_ K Rf z65 z62 "__init__" "Ruled.__init__" dq z66 z67 z68 z63 z69 z70 z64)
 (QO:kc_ K z69 "Ruled.__init__")
 (Hk:kq_ K Rf)
 (M7:kg_ K z1 "wish" KO)
 (NA:W.isFn K (.ref KO)=true)
 (Mx:kf_ K KO z75 z72 "wish" "Ruled.wish" fR z76 z77 z78 z73 z79 z80 z74)
 (MJ:kc_ K z79 "Ruled.wish")
 (Gv:kq_ K KO)
 (O5:kg_ K z1 "minds" QE)
 (Uq:W.isFn K (.ref QE)=true)
 (QK:kf_ K QE z85 z82 "minds" "Keeper.minds" br z86 z87 z88 z83 z89 z90 z84)
 (Pd:kc_ K z89 "Keeper.minds")
 (HP:kq_ K QE)
 (V0:kg_ K z1 "size" LQ)
 (Ni:W.isFn K (.ref LQ)=true)
 (La:kf_ K LQ z95 z92 "size" "Keeper.size" bb z96 z97 z98 z93 z99 YK z94)
 (Rs:kc_ K z99 "Keeper.size")
 (HH:kq_ K LQ)
 (Tc:kg_ K z1 "after" Cq)
 (Tv:W.isFn K (.ref Cq)=true)
 (L4:kf_ K Cq W4 aiH "after" "Keeper.after" bt ahm Xh aee aeP VM aej abv)
 (Ng:kc_ K VM "Keeper.after")
 (HS:kq_ K Cq)
 (VO:W.plainGet K z2 Str.empty=true)
 (K2:W.hasDictIn K z2=true)
 (Vm:W.plainOver K z2=true)
 (Ot:W.findIn K (.ref z2) "__setattr__" = some (some (.builtin "object.__setattr__")))
 (L8:W.makesIn K z2=true)
 (PL:kq_ K z2)
 (Vl:W.findIn K (.ref z2) "sills" = some none)
 (QH:kg_ K z2 "__init__" DB)
 (T0:W.isFn K (.ref DB)=true)
 (Sq:kf_ K DB YI ako "__init__" "Sills.__init__" dh aac aaB aiZ aiR Uz aa7 alk)
 (OZ:kc_ K Uz "Sills.__init__")
 (Gx:kq_ K DB)
 (MM:kg_ K z2 "wish" Aq)
 (OY:W.isFn K (.ref Aq)=true)
 (Uf:kf_ K Aq agE abA "wish" "Sills.wish" fU afh afY aiu Xf Oq aij ajn)
 (N4:kc_ K Oq "Sills.wish")
 (GO:kq_ K Aq)
 (Qn:kg_ K z2 "is_wished" CU)
 (Q2:W.isFn K (.ref CU)=true)
 (Oj:kf_ K CU ahI aiO "is_wished" "Sills.is_wished" cS ajy aeI Xn aaq TC abI ZA)
 (Ru:kc_ K TC "Sills.is_wished")
 (Gz:kq_ K CU)
 (VE:kg_ K z2 "minds" As)
 (RG:W.isFn K (.ref As)=true)
 (KP:kf_ K As ahr ajN "minds" "Keeper.minds" br Xq Zl XV akY VA abO aci)
 (SU:kc_ K VA "Keeper.minds")
 (GM:kq_ K As)
 (Sc:kg_ K z2 "size" BN)
 (VS:W.isFn K (.ref BN)=true)
 (UH:kf_ K BN aff agS "size" "Keeper.size" bb ZX Zp ak8 alr OW abW XX)
 (Lf:kc_ K OW "Keeper.size")
 (Ig:kq_ K BN)
 (RO:kg_ K z2 "after" Co)
 (NR:W.isFn K (.ref Co)=true)
 (Nb:kf_ K Co ab7 ahC "after" "Keeper.after" bt aiF agr ZF ad4 VN aaR akI)
 (No:kc_ K VN "Keeper.after")
 (HX:kq_ K Co)
 (Qh:W.plainGet K z3 Str.empty=true)
 (Rc:W.hasDictIn K z3=true)
 (R8:W.plainOver K z3=true)
 (N2:W.findIn K (.ref z3) "__setattr__" = some (some (.builtin "object.__setattr__")))
 (O0:W.makesIn K z3=true)
 (O9:kq_ K z3)
 (KB:W.findIn K (.ref z3) "wishes" = some none)
 (Ux:kg_ K z3 "__init__" AN)
 (UU:W.isFn K (.ref AN)=true)
 (Rp:kf_ K AN adI Xw "__init__" "Clock.__init__" dv X0 aiJ aaQ Xi UV adK ac5)
 (RS:kc_ K UV "Clock.__init__")
 (Hm:kq_ K AN)
 (KM:kg_ K z3 "minds" CO)
 (P1:W.isFn K (.ref CO)=true)
 (L5:kf_ K CO ZY abD "minds" "Clock.minds" fq alw ajZ ai5 Y9 Rv ahH acD)
 (L0:kc_ K Rv "Clock.minds")
 (HB:kq_ K CO)
 (UY:kg_ K z3 "wish" BB)
 (Rk:W.isFn K (.ref BB)=true)
 (U9:kf_ K BB adF afa "wish" "Clock.wish" fS aax Xe acN afp So ais akv)
 (Mw:kc_ K So "Clock.wish")
 (HG:kq_ K BB)
 (M9:kg_ K z3 "after" Av)
 (LW:W.isFn K (.ref Av)=true)
 (MO:kf_ K Av ak1 acq "after" "Clock.after" fh afv aer adq abK Pe acj abh)
 (Nw:kc_ K Pe "Clock.after")
 (HF:kq_ K Av)
 (Se:kg_ K z3 "size" Do)
 (MH:W.isFn K (.ref Do)=true)
 (QW:kf_ K Do X3 ado "size" "Keeper.size" bb YE aj8 agc aet OR abk aek)
 (VD:kc_ K OR "Keeper.size")
 (GX:kq_ K Do)
 (My:W.plainGet K z4 Str.empty=true)
 (NP:W.hasDictIn K z4=true)
 (Oo:W.plainOver K z4=true)
 (O8:W.findIn K (.ref z4) "__setattr__" = some (some (.builtin "object.__setattr__")))
 (Lg:W.makesIn K z4=true)
 (Oa:kq_ K z4)
 (LM:W.findIn K (.ref z4) "rows" = some none)
 (L7:W.findIn K (.ref z4) "other" = some none)
 (Pa:kg_ K z4 "__init__" Ao)
 (Qj:W.isFn K (.ref Ao)=true)
 (KJ:K.lookup Ao=some ⟨abp,aj7,.func (W.fnOf "__init__" "Table.__init__" (aY bG) (aI bG) (ai bG) (.ref JI) XB Yg Zh Y7 Sv ai9),abP⟩)
 (RB:kc_ K Sv "Table.__init__")
 (HE:kq_ K Ao)
 (OO:K.lookup JI=some ⟨afU,adz,.seq #[.none] ale,X1⟩)
 (MZ:kg_ K z4 "minds" Cn)
 (RR:W.isFn K (.ref Cn)=true)
 (Lq:kf_ K Cn W7 alg "minds" "Table.minds" fg ahM akb YN agq Mc ae2 ajh)
 (Pt:kc_ K Mc "Table.minds")
 (GC:kq_ K Cn)
 (OG:kg_ K z4 "size" CJ)
 (K1:W.isFn K (.ref CJ)=true)
 (Ur:kf_ K CJ aan Zx "size" "Table.size" fV adM abF abm ab5 Lr ad2 aas)
 (VC:kc_ K Lr "Table.size")
 (GB:kq_ K CJ)
 (LS:kg_ K z4 "wish" Bl)
 (Nv:W.isFn K (.ref Bl)=true)
 (LC:kf_ K Bl Yp Y1 "wish" "Table.wish" fQ Zd ahf Yt WZ Qa ahk agj)
 (Mj:kc_ K Qa "Table.wish")
 (GQ:kq_ K Bl)
 (Le:kg_ K z4 "after" AL)
 (Qf:W.isFn K (.ref AL)=true)
 (QM:kf_ K AL aeX aaL "after" "Table.after" fm agT ZT ack ac3 LI aaG alf)
 (MR:kc_ K LI "Table.after")
 (GV:kq_ K AL)
 (Va:W.plainGet K z5 Str.empty=true)
 (TZ:W.hasDictIn K z5=true)
 (SL:W.plainOver K z5=true)
 (QF:W.findIn K (.ref z5) "__setattr__" = some (some (.builtin "object.__setattr__")))
 (Mn:W.makesIn K z5=true)
 (PK:kq_ K z5)
 (SC:W.findIn K (.ref z5) "one" = some none)
 (SY:W.findIn K (.ref z5) "other" = some none)
 (Uv:kg_ K z5 "__init__" DM)
 (Tr:W.isFn K (.ref DM)=true)
 (U1:kf_ K DM afe ake "__init__" "Pair.__init__" aN afy aaZ ai7 ag0 Ov ahj akN)
 (Ra:kc_ K Ov "Pair.__init__")
 (HD:kq_ K DM)
 (PZ:kg_ K z5 "minds" B7)
 (Tn:W.isFn K (.ref B7)=true)
 (RM:kf_ K B7 XJ aje "minds" "Pair.minds" be aa0 ahR akt aiQ Rt ad1 aeU)
 (Mp:kc_ K Rt "Pair.minds")
 (G8:kq_ K B7)
 (VP:kg_ K z5 "size" CS)
 (UW:W.isFn K (.ref CS)=true)
 (QA:kf_ K CS alq aaF "size" "Pair.size" bp ajc alh af7 WT VR aj0 aa3)
 (LV:kc_ K VR "Pair.size")
 (HI:kq_ K CS)
 (MY:kg_ K z5 "wish" DO)
 (NV:W.isFn K (.ref DO)=true)
 (QP:kf_ K DO afC afr "wish" "Pair.wish" gy ahx aeT acG aig K5 ae0 aiD)
 (PH:kc_ K K5 "Pair.wish")
 (HR:kq_ K DO)
 (SJ:kg_ K z5 "after" DA)
 (Rw:W.isFn K (.ref DA)=true)
 (Si:kf_ K DA aeq ajU "after" "Pair.after" bc afD add ait acI MU acb Yx)
 (KW:kc_ K MU "Pair.after")
 (Gu:kq_ K DA)
 (Oc:kg_ K z5 "wish_of_one" Cu)
 (NS:W.isFn K (.ref Cu)=true)
 (Vt:kf_ K Cu afV Yz "wish_of_one" "Pair.wish_of_one" aH aeC af1 X7 alc Tz agw akB)
 (QV:kc_ K Tz "Pair.wish_of_one")
 (GN:kq_ K Cu)
 (Qi:kg_ K z5 "wish_of_other" Dr)
 (Lc:W.isFn K (.ref Dr)=true)
 (P2:kf_ K Dr adL ab0 "wish_of_other" "Pair.wish_of_other" aF afc Xr ajt afx NK agX aaY)
 (P0:kc_ K NK "Pair.wish_of_other")
 (Gw:kq_ K Dr)
 (R7:W.plainGet K z6 Str.empty=true)
 (Pq:W.hasDictIn K z6=true)
 (UT:W.plainOver K z6=true)
 (M4:W.findIn K (.ref z6) "__setattr__" = some (some (.builtin "object.__setattr__")))
 (Nu:W.makesIn K z6=true)
 (Oh:kq_ K z6)
 (UN:W.findIn K (.ref z6) "one" = some none)
 (LK:W.findIn K (.ref z6) "other" = some none)
 (TW:kg_ K z6 "wish" CH)
 (Nk:W.isFn K (.ref CH)=true)
 (Uw:kf_ K CH aeR abV "wish" "Either.wish" fk ace aio adi ajG Uh ac9 afJ)
 (QR:kc_ K Uh "Either.wish")
 (G4:kq_ K CH)
 (MK:kg_ K z6 "__init__" Cc)
 (Q7:W.isFn K (.ref Cc)=true)
 (Mb:kf_ K Cc ah0 ab8 "__init__" "Pair.__init__" aN aeN aaI ZU Z9 QB akL Xd)
 (SI:kc_ K QB "Pair.__init__")
 (G9:kq_ K Cc)
 (KH:kg_ K z6 "minds" AC)
 (LO:W.isFn K (.ref AC)=true)
 (UP:kf_ K AC ahY ahs "minds" "Pair.minds" be acM ajs abL aeg SB ade ajr)
 (MS:kc_ K SB "Pair.minds")
 (Ie:kq_ K AC)
 (UB:kg_ K z6 "size" BQ)
 (Vb:W.isFn K (.ref BQ)=true)
 (Sb:kf_ K BQ akw abr "size" "Pair.size" bp ald agK ahQ alo UQ ajT alF)
 (Ny:kc_ K UQ "Pair.size")
 (Hy:kq_ K BQ)
 (Mi:kg_ K z6 "after" Dt)
 (Ss:W.isFn K (.ref Dt)=true)
 (VY:kf_ K Dt adr ahG "after" "Pair.after" bc ajM adh WW air KR ae3 ahi)
 (LZ:kc_ K KR "Pair.after")
 (HU:kq_ K Dt)
 (LX:kg_ K z6 "wish_of_one" CV)
 (Vv:W.isFn K (.ref CV)=true)
 (NM:kf_ K CV aku agZ "wish_of_one" "Pair.wish_of_one" aH Yq abz ai0 agl U2 akQ afX)
 (LP:kc_ K U2 "Pair.wish_of_one")
 (HY:kq_ K CV)
 (N0:kg_ K z6 "wish_of_other" At)
 (Op:W.isFn K (.ref At)=true)
 (Rr:kf_ K At Z7 acs "wish_of_other" "Pair.wish_of_other" aF W0 ahb aiP acJ KS aey X4)
 (NI:kc_ K KS "Pair.wish_of_other")
 (Ho:kq_ K At)
 (Ll:W.plainGet K z7 Str.empty=true)
 (R5:W.hasDictIn K z7=true)
 (R9:W.plainOver K z7=true)
 (OJ:W.findIn K (.ref z7) "__setattr__" = some (some (.builtin "object.__setattr__")))
 (KN:W.makesIn K z7=true)
 (KD:kq_ K z7)
 (UG:W.findIn K (.ref z7) "one" = some none)
 (Ti:W.findIn K (.ref z7) "other" = some none)
 (Vw:kg_ K z7 "wish" BY)
 (Tx:W.isFn K (.ref BY)=true)
 (QL:kf_ K BY aeY ag2 "wish" "Together.wish" dN ach abx adR ajX QI aja aly)
 (K8:kc_ K QI "Together.wish")
 (HK:kq_ K BY)
 (Kw:kg_ K z7 "__init__" BC)
 (Ul:W.isFn K (.ref BC)=true)
 (TL:kf_ K BC akC aiY "__init__" "Pair.__init__" aN XQ acA W5 afK PU agv aa2)
 (Up:kc_ K PU "Pair.__init__")
 (He:kq_ K BC)
 (NT:kg_ K z7 "minds" AW)
 (Mm:W.isFn K (.ref AW)=true)
 (Mg:kf_ K AW agy ahA "minds" "Pair.minds" be Ye abQ Y6 aj4 Mf akn aca)
 (KG:kc_ K Mf "Pair.minds")
 (HC:kq_ K AW)
 (Po:kg_ K z7 "size" BK)
 (Oy:W.isFn K (.ref BK)=true)
 (MW:kf_ K BK ab1 akU "size" "Pair.size" bp aiE afN aah aak Vc ag5 acF)
 (VW:kc_ K Vc "Pair.size")
 (GP:kq_ K BK)
 (Md:kg_ K z7 "after" Db)
 (PQ:W.isFn K (.ref Db)=true)
 (Px:kf_ K Db Yo Y4 "after" "Pair.after" bc agD ZL aev ad0 PM aeS ZJ)
 (SK:kc_ K PM "Pair.after")
 (Hv:kq_ K Db)
 (RX:kg_ K z7 "wish_of_one" Bn)
 (PF:W.isFn K (.ref Bn)=true)
 (Nd:kf_ K Bn aez aks "wish_of_one" "Pair.wish_of_one" aH agi ajC agh akE RK agU WY)
 (Qd:kc_ K RK "Pair.wish_of_one")
 (Hq:kq_ K Bn)
 (Lx:kg_ K z7 "wish_of_other" Cy)
 (Py:W.isFn K (.ref Cy)=true)
 (TM:kf_ K Cy acd ZZ "wish_of_other" "Pair.wish_of_other" aF YR acY akG alH TY ab9 ajL)
 (Ud:kc_ K TY "Pair.wish_of_other")
 (Hl:kq_ K Cy)
 (On:W.plainGet K z8 Str.empty=true)
 (U4:W.hasDictIn K z8=true)
 (NL:W.plainOver K z8=true)
 (M8:W.findIn K (.ref z8) "__setattr__" = some (some (.builtin "object.__setattr__")))
 (Vr:W.makesIn K z8=true)
 (NF:kq_ K z8)
 (Tj:W.findIn K (.ref z8) "one" = some none)
 (Vf:W.findIn K (.ref z8) "other" = some none)
 (VH:W.findIn K (.ref z8) "room" = some none)
 (RE:W.findIn K (.ref z8) "band" = some none)
 (P5:kg_ K z8 "__init__" AI)
 (Nz:W.isFn K (.ref AI)=true)
 (R6:kf_ K AI aaw age "__init__" "Below.__init__" dB ahy ai8 Xt acE PY Zv ac8)
 (Ol:kc_ K PY "Below.__init__")
 (G0:kq_ K AI)
 (Td:kg_ K z8 "wish" B5)
 (MN:W.isFn K (.ref B5)=true)
 (UM:kf_ K B5 acR adW "wish" "Below.wish" fO aiz aai abu aih Vg aeK akz)
 (Nl:kc_ K Vg "Below.wish")
 (GA:kq_ K B5)
 (QY:kg_ K z8 "minds" Ck)
 (Nj:W.isFn K (.ref Ck)=true)
 (TU:kf_ K Ck Yl aaE "minds" "Pair.minds" be W6 acw ae6 agG Me aag ZP)
 (P3:kc_ K Me "Pair.minds")
 (Hf:kq_ K Ck)
 (KQ:kg_ K z8 "size" Bp)
 (K6:W.isFn K (.ref Bp)=true)
 (Th:kf_ K Bp afz aia "size" "Pair.size" bp acQ ZE ahu XA Tk agJ Xk)
 (VT:kc_ K Tk "Pair.size")
 (GZ:kq_ K Bp)
 (KE:kg_ K z8 "after" Dm)
 (LF:W.isFn K (.ref Dm)=true)
 (NY:kf_ K Dm alj ae5 "after" "Pair.after" bc aix ZV ZW aiB OE agP ag3)
 (MG:kc_ K OE "Pair.after")
 (Ic:kq_ K Dm)
 (P6:kg_ K z8 "wish_of_one" AM)
 (V2:W.isFn K (.ref AM)=true)
 (UC:kf_ K AM Ys aeH "wish_of_one" "Pair.wish_of_one" aH ag8 afZ ahW aeh Tq ahh alv)
 (SH:kc_ K Tq "Pair.wish_of_one")
 (Hc:kq_ K AM)
 (Q0:kg_ K z8 "wish_of_other" AV)
 (Nx:W.isFn K (.ref AV)=true)
 (OT:kf_ K AV afb aa5 "wish_of_other" "Pair.wish_of_other" aF ajI ag9 acv aec Rz ag1 afA)
 (SM:kc_ K Rz "Pair.wish_of_other")
 (G2:kq_ K AV)
 (Q3:W.plainGet K z9 Str.empty=true)
 (LN:W.hasDictIn K z9=true)
 (MP:W.plainOver K z9=true)
 (Vh:W.findIn K (.ref z9) "__setattr__" = some (some (.builtin "object.__setattr__")))
 (Lj:W.makesIn K z9=true)
 (Ks:kq_ K z9)
 (Os:W.findIn K (.ref z9) "rows" = some none)
 (Rl:kg_ K z9 "__init__" BX)
 (Om:W.isFn K (.ref BX)=true)
 (K0:kf_ K BX acf afM "__init__" "Apart.__init__" dm agm adn aap ads TX adE aiT)
 (O6:kc_ K TX "Apart.__init__")
 (Hw:kq_ K BX)
 (LG:kg_ K z9 "minds" Dh)
 (Mh:W.isFn K (.ref Dh)=true)
 (Kt:kf_ K Dh Xg aiU "minds" "Apart.minds" fi agO aaO ac4 YV Ug YS afQ)
 (Rq:kc_ K Ug "Apart.minds")
 (Hr:kq_ K Dh)
 (Q5:kg_ K z9 "size" DK)
 (QS:W.isFn K (.ref DK)=true)
 (NU:kf_ K DK ad3 acZ "size" "Apart.size" fX ZK alt Zj adZ R4 acK aep)
 (Kz:kc_ K R4 "Apart.size")
 (Hn:kq_ K DK)
 (K9:kg_ K z9 "wish" DN)
 (Ph:W.isFn K (.ref DN)=true)
 (Qt:kf_ K DN aaC ajF "wish" "Apart.wish" fW ajl Y2 ac6 aim VZ abY afu)
 (NZ:kc_ K VZ "Apart.wish")
 (Ib:kq_ K DN)
 (TD:kg_ K z9 "after" BW)
 (MV:W.isFn K (.ref BW)=true)
 (OV:kf_ K BW ak7 aeQ "after" "Apart.after" fv aft Y3 aeZ agz Qq akf adp)
 (SV:kc_ K Qq "Apart.after")
 (Ii:kq_ K BW)
 (R0:kg_ K z9 "own_minds" Au)
 (VQ:W.isFn K (.ref Au)=true)
 (Qk:kf_ K Au af9 af0 "own_minds" "Apart.own_minds" cP ag6 afG aiM acm Oi acS ah4)
 (QX:kc_ K Oi "Apart.own_minds")
 (HL:kq_ K Au)
 (TK:W.specialIn K (.ref z5) "__getattribute__" = some (some (.builtin "type.__getattribute__")))
 (Ve:W.findCls K (.ref z5) (.type "type") "__init__" = some (.val (.ref FU)))
 (Qx:W.readsIn K z5 (.type "type")=true)
 (MA:kf_ K FU XG ajo "__init__" "Pair.__init__" aN adP XZ WU ahB Um ah5 akD)
 (Rg:kc_ K Um "Pair.__init__")
 (Gy:kq_ K FU)
 (NX:kn_ K "has_room" Ek)
 (Sm:kf_ K Ek acx aeW "has_room" "has_room" ie ajS ad8 abc aeL VJ aiC Y0)
 (Qz:kc_ K VJ "has_room")
 (KI:kq_ K Ek)
 (LR:kn_ K "with_room" F3)
 (O3:kf_ K F3 ZO aa6 "with_room" "with_room" gC adw aat ad5 YC MT ajB aiG)
 (Uj:kc_ K MT "with_room")
 (Lv:kq_ K F3)
 (UL:kn_ K "bits_of" EO)
 (SW:kf_ K EO agN Yw "bits_of" "bits_of" jA akP aeD Zk acU Mq Zg XO)
 (Mt:kc_ K Mq "bits_of")
 (LJ:kq_ K EO)
 (Ut:kn_ K "look_at_size" D9)
 (TH:kf_ K D9 abn ahK "look_at_size" "look_at_size" ek Zq afw akj ZH To afn aa8)
 (SF:kc_ K To "look_at_size")
 (K7:kq_ K D9)
 (P8:kn_ K "portion" Fm)
 (RD:kf_ K Fm ajb agg "portion" "portion" jB aaU YY abH Ya OC abR ajw)
 (Pw:kc_ K OC "portion")
 (Vz:kq_ K Fm)
 (Lm:kn_ K "chosen" ED)
 (Rj:kf_ K ED Zr adb "chosen" "chosen" lC aex WV afI WS LB ai6 ac1)
 (Re:kc_ K LB "chosen")
 (Uy:kq_ K ED)
 (Kx:kn_ K "colder" FZ)
 (TQ:K.lookup FZ=some ⟨ai1,alu,.func (W.fnOf "colder" "colder" (aY eD) (aI eD) (ai eD) .none aba adQ Yv aal (.ref A0) akd),agY⟩)
 (Sk:W.codeIn K (.ref A0) "colder" = true)
 (K3:kq_ K FZ)
 (amu:K.lookup A0=some ⟨.type "code",aes,.fields Nh,adC⟩)
 (alQ:Nh[11]?=some (.ref Ga))
 (PP:W.codeHdIn K A0 Ga=true)
 (SZ:kn_ K "burns" F0)
 (Sw:K.lookup F0=some ⟨ajR,aj5,.func (W.fnOf "burns" "burns" (aY fL) (aI fL) (ai fL) .none Y8 akq agu aib (.ref BE) akX),ajd⟩)
 (OQ:W.codeIn K (.ref BE) "burns" = true)
 (VU:kq_ K F0)
 (amk:K.lookup BE=some ⟨.type "code",agC,.fields SA,ahv⟩)
 (amT:SA[11]?=some (.ref Ff))
 (Ms:W.codeHdIn K BE Ff=true)
 (Mu:kn_ K "one_of" EB)
 (OD:K.lookup EB=some ⟨W8,agn,.func (W.fnOf "one_of" "one_of" (aY dI) (aI dI) (ai dI) .none aky aaA aka af4 (.ref C0) ZR),aeJ⟩)
 (LY:W.codeIn K (.ref C0) "one_of" = true)
 (Ox:kq_ K EB)
 (ame:K.lookup C0=some ⟨.type "code",Zo,.fields Qu,alG⟩)
 (amN:Qu[11]?=some (.ref FG))
 (RH:W.codeHdIn K C0 FG=true)
 (Pj:kn_ K "_law_cell_at" EZ)
 (Sd:kf_ K EZ Yu adV "_law_cell_at" "_law_cell_at" e9 abG aa9 ahE aaX PN aaf agV)
 (Oz:kc_ K PN "_law_cell_at")
 (Su:kq_ K EZ)
 (Tf:kn_ K "_law_mix" FX)
 (SX:kf_ K FX aj9 akV "_law_mix" "_law_mix" jw XE aip aea ae4 QN W9 abC)
 (Pp:kc_ K QN "_law_mix")
 (SO:kq_ K FX)
 (QC:kn_ K "_law_keeper" FW)
 (Ky:kf_ K FW akS ZC "_law_keeper" "_law_keeper" fK alz ajP XC aiv UE aho akZ)
 (PR:kc_ K UE "_law_keeper")
 (Pl:kq_ K FW)
 (NQ:kn_ K "_law_rows" Go)
 (R1:kf_ K Go YG ajz "_law_rows" "_law_rows" iu abE acP acX adc TN agt abj)
 (Pu:kc_ K TN "_law_rows")
 (Ua:kq_ K Go)
 (Pf:kn_ K "_law_state" Fs)
 (RZ:kf_ K Fs Y5 agk "_law_state" "_law_state" gI akx aeF ah6 ajg Q8 Xz akM)
 (VI:kc_ K Q8 "_law_state")
 (Nr:kq_ K Fs)
 (KL:kn_ K "_law_portion" Fh)
 (Qy:kf_ K Fh afj Yi "_law_portion" "_law_portion" fw XS ad6 aed agW Pg X2 Yf)
 (QZ:kc_ K Pg "_law_portion")
 (OI:kq_ K Fh)
 (Vd:kn_ K "_law_wished" Ev)
 (Nm:kf_ K Ev afl adD "_law_wished" "_law_wished" fP ai2 aln agQ adx Q4 akT akp)
 (Vi:kc_ K Q4 "_law_wished")
 (Nc:kq_ K Ev)
 (Rh:kn_ K "_law_whole" FY)
 (RL:kf_ K FY ail Za "_law_whole" "_law_whole" gF aji ac0 Xa ah7 Lz aaH aen)
 (Tl:kc_ K Lz "_law_whole")
 (VB:kq_ K FY)
 (SD:kn_ K "_law_refused" FA)
 (TB:kf_ K FA Xu Zi "_law_refused" "_law_refused" fb adU ah3 ah2 akK N6 aiq X9)
 (Sl:kc_ K N6 "_law_refused")
 (Qg:kq_ K FA)
 (Ob:kn_ K "_law_deep" EE)
 (Lu:kf_ K EE aar ain "_law_deep" "_law_deep" hZ ab2 ag4 Yh agL PC alB XN)
 (Q6:kc_ K PC "_law_deep")
 (Rx:kq_ K EE)
 (Vs:kn_ K "_law_just_let" EV)
 (L6:kf_ K EV afT WX "_law_just_let" "_law_just_let" eA abt aaS akc YO Sa aaV aby)
 (TF:kc_ K Sa "_law_just_let")
 (UF:kq_ K EV)
 (Lh:kn_ K "_law_too_many" D7)
 (Oe:kf_ K D7 Ym afm "_law_too_many" "_law_too_many" eC YB agB abf alm SE afs agH)
 (SG:kc_ K SE "_law_too_many")
 (UK:kq_ K D7)
 (N9:kn_ K "_law_within" D5)
 (N8:kf_ K D5 ajO af3 "_law_within" "_law_within" fM ahp Yn Yc Zt SS ZI adB)
 (Ku:kc_ K SS "_law_within")
 (LU:kq_ K D5)
 (Qw:kn_ K "_law_within_wish" FQ)
 (VX:kf_ K FQ abN aeB "_law_within_wish" "_law_within_wish" cR aeO akH X6 acy RJ ai4 Yy)
 (Ri:kc_ K RJ "_law_within_wish")
 (Sr:kq_ K FQ)
 (NW:kn_ K "_law_within_right" Gd)
 (Qm:kf_ K Gd aaa Xv "_law_within_right" "_law_within_right" cH ahX ac7 adG abZ QG ahq ahV)
 (RQ:kc_ K QG "_law_within_right")
 (NG:kq_ K Gd)
 (ML:kn_ K "_law_sums" DY)
 (PB:kf_ K DY ajD afF "_law_sums" "_law_sums" ir YZ XI ahT Xb TV Xx YT)
 (Vn:kc_ K TV "_law_sums")
 (Ln:kq_ K DY)
 (Sn:kn_ K "_law_step" EL)
 (OS:kf_ K EL abd aco "_law_step" "_law_step" ij ak2 afP acp agp Np aif afH)
 (Pb:kc_ K Np "_law_step")
 (LA:kq_ K EL)
 (Pm:kn_ K "law" Fa)
 (Qs:kf_ K Fa aid XY "law" "law" uE acr alE ad9 ahF Qb aab Zn)
 (UO:kc_ K Qb "law")
 (Pn:kq_ K Fa)
 (UD:W.nsIn K mainGlobals "ValueError" = some none)
 (Rb:W.nsIn K mainGlobals "bool" = some none)
 (OM:W.nsIn K mainGlobals "dict" = some none)
 (Od:W.nsIn K mainGlobals "divmod" = some none)
 (RV:W.nsIn K mainGlobals "enumerate" = some none)
 (OP:W.nsIn K mainGlobals "int" = some none)
 (RT:W.nsIn K mainGlobals "isinstance" = some none)
 (LD:W.nsIn K mainGlobals "len" = some none)
 (Tu:W.nsIn K mainGlobals "list" = some none)
 (KZ:W.nsIn K mainGlobals "range" = some none)
 (Mr:W.nsIn K mainGlobals "sorted" = some none)
 (R3:W.nsIn K mainGlobals "sum" = some none)
 (Ql:W.nsIn K mainGlobals "tuple" = some none)
 (Pz:W.nsIn K mainGlobals "zip" = some none)
 (Ml:([Ga,Ff,FG]:List Addr).Nodup)
 : Txt K mg ⟨z0,z1,z2,z3,z4,z5,z6,z7,z8,z9,z10,wr,YW,z13,z14,z15,z16,z17,JI,Ga,Ff,FG⟩ :=
⟨aeG X G aef,
aeG X G alx,
aeG X G afk,
aeG X G aic,
aeG X G aeE,
aeG X G ahJ,
aeG X G aj1,
aeG X G afq,
aeG X G ahP,
aeG X G aha,
aeG X G akO,
aeG X G ahz,
aeG X G ah8,
aeG X G alA,
aeG X G YM,
aeG X G Xo,
aeG X G ahl,
aeG X G ajA,
afW,
ac2,
YL,
aju,
ajq,
YX,
akF,
YA,
abi,
aeo,
afR,
ajV,
acV,
aiS,
acz,
Zm,
aeb,
aiK,
ah1,
abg,
adj,
acL,
ai3,
aaD,
ajJ,
Xc,
YU,
adl,
ae7,
adt,
abo,
ak6,
ahn,
afO,
aeu,
adY,
Zb,
ags,
ajH,
adS,
ajW,
XM,
Xp,
ah9,
ady,
⟨_,aeG X G ak4⟩,
⟨_,aeG X G ael⟩,
⟨_,aeG X G Zz⟩,
⟨aaT,agR,aam,adk⟩,
⟨abe,ajj⟩,
⟨P9,_,⟨aiX,akJ,SR⟩,aC (st:=br) abB aiw SR⟩,
⟨Uk,_,⟨adv,YD,RU⟩,aC (st:=bb) YF ahd RU⟩,
⟨ON,_,⟨ahZ,ada,KU⟩,aC (st:=e7) ak0 adf KU⟩,
⟨UR,_,⟨Xj,Zc,Of⟩,aC (st:=bt) Zu X5 Of⟩,
⟨K4,Ry,O4,Tp⟩,
⟨Lb,Uu⟩,
KC,
⟨Rf,_,⟨RC,VF,Hk⟩,aC (st:=dq) Nt QO Hk⟩,
⟨KO,_,⟨M7,NA,Gv⟩,aC (st:=fR) Mx MJ Gv⟩,
⟨QE,_,⟨O5,Uq,HP⟩,aC (st:=br) QK Pd HP⟩,
⟨LQ,_,⟨V0,Ni,HH⟩,aC (st:=bb) La Rs HH⟩,
⟨Cq,_,⟨Tc,Tv,HS⟩,aC (st:=bt) L4 Ng HS⟩,
⟨VO,K2,Vm,Ot⟩,
⟨L8,PL⟩,
Vl,
⟨DB,_,⟨QH,T0,Gx⟩,aC (st:=dh) Sq OZ Gx⟩,
⟨Aq,_,⟨MM,OY,GO⟩,aC (st:=fU) Uf N4 GO⟩,
⟨CU,_,⟨Qn,Q2,Gz⟩,aC (st:=cS) Oj Ru Gz⟩,
⟨As,_,⟨VE,RG,GM⟩,aC (st:=br) KP SU GM⟩,
⟨BN,_,⟨Sc,VS,Ig⟩,aC (st:=bb) UH Lf Ig⟩,
⟨Co,_,⟨RO,NR,HX⟩,aC (st:=bt) Nb No HX⟩,
⟨Qh,Rc,R8,N2⟩,
⟨O0,O9⟩,
KB,
⟨AN,_,⟨Ux,UU,Hm⟩,aC (st:=dv) Rp RS Hm⟩,
⟨CO,_,⟨KM,P1,HB⟩,aC (st:=fq) L5 L0 HB⟩,
⟨BB,_,⟨UY,Rk,HG⟩,aC (st:=fS) U9 Mw HG⟩,
⟨Av,_,⟨M9,LW,HF⟩,aC (st:=fh) MO Nw HF⟩,
⟨Do,_,⟨Se,MH,GX⟩,aC (st:=bb) QW VD GX⟩,
⟨My,NP,Oo,O8⟩,
⟨Lg,Oa⟩,
LM,
L7,
⟨Ao,_,⟨Pa,Qj,HE⟩,aC (st:=bG) KJ RB HE⟩,
⟨_,_,_,OO,rfl,(.cons rfl .nil)⟩,
⟨Cn,_,⟨MZ,RR,GC⟩,aC (st:=fg) Lq Pt GC⟩,
⟨CJ,_,⟨OG,K1,GB⟩,aC (st:=fV) Ur VC GB⟩,
⟨Bl,_,⟨LS,Nv,GQ⟩,aC (st:=fQ) LC Mj GQ⟩,
⟨AL,_,⟨Le,Qf,GV⟩,aC (st:=fm) QM MR GV⟩,
⟨Va,TZ,SL,QF⟩,
⟨Mn,PK⟩,
SC,
SY,
⟨DM,_,⟨Uv,Tr,HD⟩,aC (st:=aN) U1 Ra HD⟩,
⟨B7,_,⟨PZ,Tn,G8⟩,aC (st:=be) RM Mp G8⟩,
⟨CS,_,⟨VP,UW,HI⟩,aC (st:=bp) QA LV HI⟩,
⟨DO,_,⟨MY,NV,HR⟩,aC (st:=gy) QP PH HR⟩,
⟨DA,_,⟨SJ,Rw,Gu⟩,aC (st:=bc) Si KW Gu⟩,
⟨Cu,_,⟨Oc,NS,GN⟩,aC (st:=aH) Vt QV GN⟩,
⟨Dr,_,⟨Qi,Lc,Gw⟩,aC (st:=aF) P2 P0 Gw⟩,
⟨R7,Pq,UT,M4⟩,
⟨Nu,Oh⟩,
UN,
LK,
⟨CH,_,⟨TW,Nk,G4⟩,aC (st:=fk) Uw QR G4⟩,
⟨Cc,_,⟨MK,Q7,G9⟩,aC (st:=aN) Mb SI G9⟩,
⟨AC,_,⟨KH,LO,Ie⟩,aC (st:=be) UP MS Ie⟩,
⟨BQ,_,⟨UB,Vb,Hy⟩,aC (st:=bp) Sb Ny Hy⟩,
⟨Dt,_,⟨Mi,Ss,HU⟩,aC (st:=bc) VY LZ HU⟩,
⟨CV,_,⟨LX,Vv,HY⟩,aC (st:=aH) NM LP HY⟩,
⟨At,_,⟨N0,Op,Ho⟩,aC (st:=aF) Rr NI Ho⟩,
⟨Ll,R5,R9,OJ⟩,
⟨KN,KD⟩,
UG,
Ti,
⟨BY,_,⟨Vw,Tx,HK⟩,aC (st:=dN) QL K8 HK⟩,
⟨BC,_,⟨Kw,Ul,He⟩,aC (st:=aN) TL Up He⟩,
⟨AW,_,⟨NT,Mm,HC⟩,aC (st:=be) Mg KG HC⟩,
⟨BK,_,⟨Po,Oy,GP⟩,aC (st:=bp) MW VW GP⟩,
⟨Db,_,⟨Md,PQ,Hv⟩,aC (st:=bc) Px SK Hv⟩,
⟨Bn,_,⟨RX,PF,Hq⟩,aC (st:=aH) Nd Qd Hq⟩,
⟨Cy,_,⟨Lx,Py,Hl⟩,aC (st:=aF) TM Ud Hl⟩,
⟨On,U4,NL,M8⟩,
⟨Vr,NF⟩,
Tj,
Vf,
VH,
RE,
⟨AI,_,⟨P5,Nz,G0⟩,aC (st:=dB) R6 Ol G0⟩,
⟨B5,_,⟨Td,MN,GA⟩,aC (st:=fO) UM Nl GA⟩,
⟨Ck,_,⟨QY,Nj,Hf⟩,aC (st:=be) TU P3 Hf⟩,
⟨Bp,_,⟨KQ,K6,GZ⟩,aC (st:=bp) Th VT GZ⟩,
⟨Dm,_,⟨KE,LF,Ic⟩,aC (st:=bc) NY MG Ic⟩,
⟨AM,_,⟨P6,V2,Hc⟩,aC (st:=aH) UC SH Hc⟩,
⟨AV,_,⟨Q0,Nx,G2⟩,aC (st:=aF) OT SM G2⟩,
⟨Q3,LN,MP,Vh⟩,
⟨Lj,Ks⟩,
Os,
⟨BX,_,⟨Rl,Om,Hw⟩,aC (st:=dm) K0 O6 Hw⟩,
⟨Dh,_,⟨LG,Mh,Hr⟩,aC (st:=fi) Kt Rq Hr⟩,
⟨DK,_,⟨Q5,QS,Hn⟩,aC (st:=fX) NU Kz Hn⟩,
⟨DN,_,⟨K9,Ph,Ib⟩,aC (st:=fW) Qt NZ Ib⟩,
⟨BW,_,⟨TD,MV,Ii⟩,aC (st:=fv) OV SV Ii⟩,
⟨Au,_,⟨R0,VQ,HL⟩,aC (st:=cP) Qk QX HL⟩,
⟨FU,_,⟨TK,⟨_,Qx,Ve⟩,Gy⟩,aC (st:=aN) MA Rg Gy⟩,
Ml,
⟨Ek,_,aeG X G NX,bV (st:=ie) Sm Qz KI⟩,
⟨F3,_,aeG X G LR,bV (st:=gC) O3 Uj Lv⟩,
⟨EO,_,aeG X G UL,bV (st:=jA) SW Mt LJ⟩,
⟨D9,_,aeG X G Ut,bV (st:=ek) TH SF K7⟩,
⟨Fm,_,aeG X G P8,bV (st:=jB) RD Pw Vz⟩,
⟨ED,_,aeG X G Lm,bV (st:=lC) Rj Re Uy⟩,
⟨FZ,A0,_,_,_,_,_,_,_,_,aeG X G Kx,TQ,Sk,K3,PP⟩,
⟨F0,BE,_,_,_,_,_,_,_,_,aeG X G SZ,Sw,OQ,VU,Ms⟩,
⟨EB,C0,_,_,_,_,_,_,_,_,aeG X G Mu,OD,LY,Ox,RH⟩,
⟨EZ,_,aeG X G Pj,bV (st:=e9) Sd Oz Su⟩,
⟨FX,_,aeG X G Tf,bV (st:=jw) SX Pp SO⟩,
⟨FW,_,aeG X G QC,bV (st:=fK) Ky PR Pl⟩,
⟨Go,_,aeG X G NQ,bV (st:=iu) R1 Pu Ua⟩,
⟨Fs,_,aeG X G Pf,bV (st:=gI) RZ VI Nr⟩,
⟨Fh,_,aeG X G KL,bV (st:=fw) Qy QZ OI⟩,
⟨Ev,_,aeG X G Vd,bV (st:=fP) Nm Vi Nc⟩,
⟨FY,_,aeG X G Rh,bV (st:=gF) RL Tl VB⟩,
⟨FA,_,aeG X G SD,bV (st:=fb) TB Sl Qg⟩,
⟨EE,_,aeG X G Ob,bV (st:=hZ) Lu Q6 Rx⟩,
⟨EV,_,aeG X G Vs,bV (st:=eA) L6 TF UF⟩,
⟨D7,_,aeG X G Lh,bV (st:=eC) Oe SG UK⟩,
⟨D5,_,aeG X G N9,bV (st:=fM) N8 Ku LU⟩,
⟨FQ,_,aeG X G Qw,bV (st:=cR) VX Ri Sr⟩,
⟨Gd,_,aeG X G NW,bV (st:=cH) Qm RQ NG⟩,
⟨DY,_,aeG X G ML,bV (st:=ir) PB Vn Ln⟩,
⟨EL,_,aeG X G Sn,bV (st:=ij) OS Pb LA⟩,
⟨Fa,_,aeG X G Pm,bV (st:=uE) Qs UO Pn⟩,
agM X G UD,
agM X G Rb,
agM X G OM,
agM X G Od,
agM X G RV,
agM X G OP,
agM X G RT,
agM X G LD,
agM X G Tu,
agM X G KZ,
agM X G Mr,
agM X G R3,
agM X G Ql,
agM X G Pz⟩
section
variable {P:Program} {w:World} {K:W.Frag} {mg:Str->Option Value} {base:Heap} {Ad:HV}
def cX {lo:Int} {n:Nat} {g:TG} {tb:TS} {D:Ends} {σ:L2.St} {H:Hp} (Pv:Nat->L2.St->Hp->Prop) (h0:Pv 0 σ H) (hs:let G:Nat->L2.St->Hp->Prop:=λ i σ H=>g (.int (lo+i)) σ H λ σ2 H2=>tb { D with nx:=Pv (i+1),ct:=Pv (i+1),bk:=D.nx } σ2 H2
   ∀ (i:Nat) (σ:L2.St) (H:Hp),i<n->Pv i σ H->G i σ H) (hd:∀ σ H,Pv n σ H->D.nx σ H):=se (lo:=lo) (n:=n) (g:=g) (tb:=tb) (D:=D) (σ:=σ) (H:=H) Pv h0 hs hd
def gY {K:W.Frag} {a:Addr} {xs:List V} {g:TG} {tb:TS} {D:Ends} {σ:L2.St} {H:Hp} (Pv:Nat->L2.St->Hp->Prop) (h0:Pv 0 σ H) (hl:∀ i σ H,i<=xs.length->Pv i σ H->bh K H a xs) (hs:let G:Nat->V->L2.St->Hp->Prop:=λ i x σ H=>g x σ H λ σ2 H2=>tb { D with nx:=Pv (i+1),ct:=Pv (i+1),bk:=D.nx } σ2 H2
   ∀ (i:Nat) (x:V) (σ:L2.St) (H:Hp),xs[i]?=some x->Pv i σ H->G i x σ H) (hd:∀ σ H,Pv xs.length σ H->D.nx σ H):=Dk (K:=K) (a:=a) (xs:=xs) (g:=g) (tb:=tb) (D:=D) (σ:=σ) (H:=H) Pv h0 hl hs hd
theorem gD (T:Txt K mg Ad):Def P w K mg base "has_room" 1 ["bits","room"] vv:=by
 refine T.wG.gS vL λ f aP A outer s H vs Q E hr h=>?_
 obtain ⟨n,r,rfl,k⟩:=h
 refine ⟨_,(am (ax (fu cO (az aS (az EX (pv 0) (pv 1)) ag) ag (aK _)))),?_⟩
 try dsimp only [fj,aX]
 refine ⟨_,rfl,_,rfl,_,_,rfl,rfl,alU _,λ s es=>⟨_,_,rfl,rfl,by decide,λ m _ _ em=>⟨rfl,?_⟩⟩⟩
 rw [E6 n r es em]
 exact k
theorem uf (T:Txt K mg Ad):Def P w K mg base "with_room" 1 ["bits","room"] ue:=by
 refine T.vN.gS tR λ f aP A outer s H vs Q E hr h=>?_
 obtain ⟨n,r,rfl,hr1,k⟩:=h
 refine ⟨_,(am (ax (az sE (pv 0) (az F4 ag (pv 1))))),?_⟩
 try dsimp only [fj,aX]
 refine ⟨_,rfl,_,rfl,_,_,rfl,rfl,⟨alU _,by lia,by decide⟩,λ s es=>⟨_,_,rfl,rfl,λ m em=>?_⟩⟩
 have e1:s=((2 ^ r:Nat):Int):=by rw [es,alp,Int.one_mul,Int.natCast_pow];rfl
 rw [em,e1,jp]
 exact k
def pI (A:HV):List Addr:=[A.jj,A.kR,A.iN]
theorem E7 (T:Txt K mg Ad):∀ t∈pI Ad,∃ c,W.codeHdIn K c t=true:=by
 have of:∀ {x:Str} {st:Stmt} {t:Addr},rB K mg x st t->∃ c,W.codeHdIn K c t=true:=λ h=>by
   obtain ⟨_,cd,_,_,_,_,_,_,_,_,_,_,_,_,h⟩:=h
   exact ⟨cd,h⟩
 intro t ht
 unfold pI at ht
 simp only [ae1,acn,ajE] at ht
 rcases ht with rfl|rfl|rfl
 . exact of T.vP
 . exact of T.xz
 . exact of T.vq
def TT (A:HV):List (Addr×Pos×Str):=[(A.jj,lM eD,"colder" ++ ".<locals>." ++ "<lambda>"),(A.kR,lM fL,"burns" ++ ".<locals>." ++ "<lambda>"),(A.iN,lM dI,"one_of" ++ ".<locals>." ++ "<lambda>")]
abbrev spM (A:HV) (x:Str) (st:Stmt) (ps:List Str):Sp:=JU (TT A) (x ++ ".<locals>." ++ "<lambda>") (lr st) (nS st) (fB st) ps
theorem yT (T:Txt K mg Ad) (B:Bs K mg base):Def P w K mg base "colder" 1 ["room","band"] (spM Ad "colder" eD ["room","band"]) :=
 T.vP.def (clo:=λ L=>[("room",L+1),("band",L+1+1)]) B rfl zC (by decide +kernel) (by simp [TT]) (λ e he q=>jz (l:=TT Ad) T.nd he (by simp [TT]) q) (λ _ _ _=>rfl) (λ _ _ _=>rfl)
   (λ L y c h=>by
     rcases List.mem_cons.mp h with h|h
     . cases h;rfl
     . cases List.mem_singleton.mp h;rfl)
   (λ L y h=>by
     rcases List.mem_cons.mp h with rfl|h
     . exact ⟨_,rfl⟩
     . cases List.mem_singleton.mp h;exact ⟨_,rfl⟩) (λ _ _ _ _ _ _ us hl=>uo hl λ _ _=>rfl)
theorem BZ (T:Txt K mg Ad) (B:Bs K mg base):Def P w K mg base "burns" 2 ["room"] (spM Ad "burns" fL ["room"]) :=
 T.xz.def (clo:=λ L=>[("room",L+1)]) B rfl BO (by decide +kernel) (by simp [TT]) (λ e he q=>jz (l:=TT Ad) T.nd he (by simp [TT]) q) (λ _ _ _=>rfl) (λ _ _ _=>rfl)
   (λ L y c h=>by cases List.mem_singleton.mp h;rfl) (λ L y h=>by cases List.mem_singleton.mp h;exact ⟨_,rfl⟩) (λ _ _ _ _ _ _ us hl=>xF hl λ _=>rfl)
theorem zV (T:Txt K mg Ad) (B:Bs K mg base):Def P w K mg base "one_of" 1 ["one","other"] (spM Ad "one_of" dI ["one","other"]) :=
 T.vq.def (clo:=λ L=>[("other",L+1+1),("one",L+1)]) B rfl zM (by decide +kernel) (by simp [TT]) (λ e he q=>jz (l:=TT Ad) T.nd he (by simp [TT]) q) (λ _ _ _=>rfl) (λ _ _ _=>rfl)
   (λ L y c h=>by
     rcases List.mem_cons.mp h with h|h
     . cases h;rfl
     . cases List.mem_singleton.mp h;rfl)
   (λ L y h=>by
     rcases List.mem_cons.mp h with rfl|h
     . exact ⟨L+1,rfl⟩
     . cases List.mem_singleton.mp h;exact ⟨L+1+1,rfl⟩) (λ _ _ _ _ _ _ us hl=>uo hl λ _ _=>rfl)
inductive Cd where
 | il (r:Nat) (b:Int)|kY (r:Nat)|one (a b:Cd)
def Cd.dep:Cd->Nat
 | .one a b=>Nat.max a.dep b.dep+1
 | _=>1
def Cd.Ok (n:Nat):Cd->Prop
 | .il r _=>r<n
 | .kY r=>r<n
 | .one a b=>a.Ok n/\b.Ok n
def Cd.val (bs ws:List Int) (bu:Nat) (hp:Int):Cd->Bool
 | .il r b=>decide (bs.getD r 0<b)
 | .kY r=>bu.testBit r
 | .one a b=>a.val bs ws bu hp || b.val bs ws bu hp
def xX (H:Hp) (f:Addr) (x:Str) (st:Stmt) (cl:List (Str×Addr)) (ps:List Str) (vs:List V):Prop:=o8 H f (x ++ ".<locals>." ++ "<lambda>") (lr st) (nS st) (fB st) cl ps vs
def nG (H:Hp):Cd->Addr->Prop
 | .il r b,f=>∃ cl,xX H f "colder" eD cl ["room","band"] [ao r,.int b]
 | .kY r,f=>∃ cl,xX H f "burns" fL cl ["room"] [ao r]
 | .one a b,f=>∃ cl f1 f2,xX H f "one_of" dI cl ["one","other"] [.ref f1,.ref f2]/\(∀ y c,(y,c)∈cl->f1<c)/\(∀ y c,(y,c)∈cl->f2<c)/\nG H a f1/\nG H b f2
theorem nG.obj {H:Hp}:∀ {t:Cd} {f:Addr},nG H t f->∃ o fd,H f=some (Fz o)/\o.data = .func fd
 | .il _ _,_,⟨_,L⟩=>o8.obj L
 | .kY _,_,⟨_,L⟩=>o8.obj L
 | .one _ _,_,⟨_,_,_,L,_⟩=>o8.obj L
theorem nG.mono {H H':Hp}:∀ {t:Cd} {f:Addr},nG H t f->(∀ b o,b<=f->H b=some (Fz o)->H' b=some (Fz o))->nG H' t f
 | .il _ _,_,⟨cl,L⟩,h=>⟨cl,o8.mono L h⟩
 | .kY _,_,⟨cl,L⟩,h=>⟨cl,o8.mono L h⟩
 | .one _ _,_,⟨cl,f1,f2,L,h1,h2,q1,q2⟩,h=>⟨cl,f1,f2,o8.mono L h,h1,h2,q1.mono λ b o hb=>h b o (afi hb (ahw (o8.lt L adu h1))),q2.mono λ b o hb=>h b o (afi hb (ahw (o8.lt L adu h2)))⟩
theorem nG.gr {H H':Hp} {t:Cd} {f:Addr} (h:nG H t f) (g:Gr H H'):nG H' t f:=h.mono λ _ _ _ e=>g.fz e
theorem nG.wo {H:Hp} {t:Cd} {f:Addr} {cl:List (Str×Addr)} (h:nG H t f) (hc:∀ y c,(y,c)∈cl->f<c):nG (wo H (cl.map (·.2))) t f:=h.mono λ b o hb e=>by
 rw [eJ]
 . exact e
 . intro hm
   obtain ⟨⟨y,c⟩,m,rfl⟩:=List.mem_map.mp hm
   exact absurd (alb hb (hc y c m)) (ahc _)
theorem sD {sc:Scope} {fr:List Str} (h:∀ p∈sc.names,p.2 = .free->p.1∈fr):∀ y,sc.names.lookup y=some .free->y∈fr:=λ y e=>h (y,.free) (acH e) rfl
theorem zw:kF "state" ["room","band"] (fB eD):=⟨rfl,rfl,rfl,rfl,by decide +kernel,by decide +kernel,sD (by decide +kernel)⟩
theorem Dp:kF "state" ["room"] (fB fL):=⟨rfl,rfl,rfl,rfl,by decide +kernel,by decide +kernel,sD (by decide +kernel)⟩
theorem zZ:kF "state" ["one","other"] (fB dI):=⟨rfl,rfl,rfl,rfl,by decide +kernel,by decide +kernel,sD (by decide +kernel)⟩
theorem sR {H:Hp} {ps:Addr} {bs ws fs:List Int} {bu hp:Int} {cs:List Addr} (h:oF H ps bs ws fs bu hp) (hc:∀ c∈cs,∃ o,H c=some (Fz o)):oF (wo H cs) ps bs ws fs bu hp:=by
 obtain ⟨pb,pw,pf,h1,h2,h3,h4⟩:=h
 exact ⟨pb,pw,pf,nP hc h1 nI,nP hc h2 nI,nP hc h3 nI,nP hc h4 nI⟩
theorem lZ {l:List Int} {r n:Nat} (hl:l.length=n) (h:r<n):uh (l.map V.int) (r:Int)=some (.int (l.getD r 0)):=by
 have h':r<l.length:=by lia
 rw [adO,xJ h']
 exact dy (by rw [aei,xJ h'];rfl)
theorem wv (T:Txt K mg Ad) {bs ws fs:List Int} {bu:Nat} {hp:Int} {n:Nat} (lb:bs.length=n) (lw:ws.length=n):∀ (t:Cd) {H:Hp} {f ps:Addr} {A:Around} {outer:List Env} {s:Shared} {u:Value},nG H t f->t.Ok n->oF H ps bs ws fs (bu:Int) hp->bL (t.dep+1) A->pT P w K mg base A outer s H->RelV (.ref ps) u ->
   codeAny (model P w) A (.call (.ref f) ⟨[u],[]⟩) (CR l6 outer P w H s (λ v H'=>v = .bl (t.val bs ws bu hp)/\av H H') E0) s
 | .il r b,H,f,ps,A,outer,s,u,⟨cl,L⟩,ok,st,hr,e0,ru=>by
   refine sZ (k:=1) hr e0 L zw (λ _ _ _ _ _=>rfl) ru λ c' hr=>⟨_,(fu jP (aQ aO (aQ aO (pv 0) ag (λ _ _=>rfl)) (pv 1) (λ _ _=>rfl)) (pv 2) (aK _)),?_⟩
   obtain ⟨pb,pw,pf,h1,h2,h3,h4⟩:=sR st (o8.cs L)
   have ok:r<n:=ok
   exact ⟨_,rfl,_,_,_,_,rfl,rfl,.inr (bQ.of h1),rfl,_,rfl,_,_,_,_,rfl,rfl,.inr (bQ.of h2),lZ lb ok,_,rfl,_,_,rfl,rfl,rfl,nH (av.refl _)⟩
 | .kY r,H,f,ps,A,outer,s,u,⟨cl,L⟩,ok,st,hr,e0,ru=>by
   refine sZ (k:=1) hr e0 L Dp (λ _ _ _ _ _=>rfl) ru λ c' hr=>⟨_,(ay (gD T) (hr.mono (by decide)) (aa (aQ aO (pv 0) ag (λ _ _=>rfl)) (aa (pv 1) ah))),?_⟩
   obtain ⟨pb,pw,pf,h1,h2,h3,h4⟩:=sR st (o8.cs L)
   exact ⟨_,rfl,_,_,_,_,rfl,rfl,.inr (bQ.of h1),rfl,_,rfl,bu,r,rfl,rfl,nH (av.refl _)⟩
 | .one a b,H,f,ps,A,outer,s,u,⟨cl,f1,f2,L,c1,c2,q1,q2⟩,ok,st,hr,e0,ru=>by
   refine sZ (k:=(Cd.one a b).dep) hr e0 L zZ (λ _ _ _ _ _=>rfl) ru λ c' hr=>⟨_,(DI (vU (i:=1) rfl (by first|exact Or.inl rfl|exact Or.inr (Or.inl rfl)|exact Or.inr (Or.inr rfl)) (aa (pv 0) ah)) (iY (vU (i:=2) rfl (by first|exact Or.inl rfl|exact Or.inr (Or.inl rfl)|exact Or.inr (Or.inr rfl)) (aa (pv 0) ah)))),?_⟩
   have qe:=sR st (o8.cs L)
   obtain ⟨o1,fd1,e1,d1⟩:=(q1.wo c1).obj
   obtain ⟨o2,fd2,e2,d2⟩:=(q2.wo c2).obj
   refine ⟨f1,o1,fd1,rfl,d1,⟨_,rfl,e1,λ s' us QD rv=>?_⟩⟩
   match us,rv with
   | [u'],.cons Qo .nil =>
     refine aiL (wv T lb lw a (q1.wo c1) ok.1 qe (hr.mono (amB (Nat.le_max_left _ _))) QD Qo) λ r s2 h=>CR.mono (λ v H1 hv=>?_) h
     obtain ⟨rfl,sm⟩:=hv
     refine ⟨_,rfl,?_⟩
     show if _ then _ else _
     cases hv:a.val bs ws bu hp with
     | true =>
       rw [aeA rfl]
       exact ⟨by show _=V.bl (a.val bs ws bu hp || b.val bs ws bu hp);rw [hv];rfl,nH sm⟩
     | false =>
       rw [adH abS]
       refine ⟨f2,o2,fd2,rfl,d2,⟨_,rfl,sm _ _ e2,λ s3 us QD rv=>?_⟩⟩
       match us,rv with
       | [u'],.cons Qo .nil =>
         refine aiL (wv T lb lw b ((q2.wo c2).gr (.of sm)) ok.2 (qe.same sm) (hr.mono (amB (Nat.le_max_right _ _))) QD Qo) λ r s2 h=>CR.mono (λ v H2 hv2=>?_) h
         obtain ⟨rfl,Ab⟩:=hv2
         exact ⟨by show _=V.bl (a.val bs ws bu hp || b.val bs ws bu hp);rw [hv];rfl,nH (sm.trans Ab)⟩
inductive wE (K:W.Frag) (vs:List V) (H:Hp) (Q:VK) (_E:XK):Prop
 | mk (p l:_) (_:vs=[.ref p]) (_:bh K H p (l.map ao)) (_:(∀ r∈l,r<=1000)) (_:Q (ao (i3 l 0)) H)
theorem ix (T:Txt K mg Ad):Def P w K mg base "bits_of" 2 ["rooms"] (wE K):=by
 refine T.yN.gS ip λ f aP A outer s H vs Q E hr h=>?_
 obtain ⟨p,l,rfl,hp,hl,k⟩:=h
 refine ⟨_,(ak (aG (i:=1) ip.nd rfl (lc rfl) ag)
     (ak (df aem rfl (dQ (pv 0)) (aA (i:=2) ip.nd rfl (lc rfl)) (am (aG (i:=1) ip.nd rfl (lc rfl) (ay (uf (K:=K) T) hr.m (aa (pv 1) (aa (pv 2) ah))))))
     (am (ax (pv 1))))),?_⟩
 try dsimp only [fj,aX]
 first|(refine dM ?_;intro _ _ _ _)|skip
 refine ⟨_,rfl,p,rfl,⟨_,hp⟩,?_⟩
 refine gY (K:=K) (a:=p) (xs:=l.map ao) (λ i σ H'=>H'=H/\∃ v,σ=[some (.ref p),some (ao (i3 (l.take i) 0)),v]) ⟨rfl,none,rfl⟩ (λ i σ H' _ e=>by rw [e.1];exact hp) ?_ ?_
 . rintro _ i x σ H' hx ⟨rfl,v,rfl⟩
   obtain ⟨r,er,rfl⟩:=eM hx
   exact ⟨_,rfl,_,rfl,_,r,rfl,hl r (afB er),rfl,_,by rw [Aj er];rfl⟩
 . rintro σ H' ⟨rfl,v,rfl⟩
   rw [aad,adg]
   exact ⟨_,rfl,k⟩
inductive jC  (vs:List V) (H:Hp) (Q:VK) (_E:XK):Prop
 | mk (v:_) (_:vs=[v]) (_:Q (.int 1) H)
inductive nN  (vs:List V) (H:Hp) (Q:VK) (_E:XK):Prop
 | mk (a b c:_) (_:vs=[a,b,c]) (_:Q (.int 0) H)
theorem lX (T:Txt K mg Ad):bD P w K mg base Ad.Keeper "minds" 1 ["self"] [] jC:=by
 refine T.oV.bS fE λ f aP A outer s H vs Q E hr h=>?_
 obtain ⟨v,rfl,k⟩:=h
 exact ⟨_,(am (ax ag)),k⟩
theorem nh (T:Txt K mg Ad):bD P w K mg base Ad.Keeper "size" 1 ["self"] [] jC:=by
 refine T.qr.bS eE λ f aP A outer s H vs Q E hr h=>?_
 obtain ⟨v,rfl,k⟩:=h
 exact ⟨_,(am (ax ag)),k⟩
theorem m4 (T:Txt K mg Ad):bD P w K mg base Ad.Keeper "wish" 1 ["self","mind","state"] [] nN:=by
 refine T.qJ.bS oG λ f aP A outer s H vs Q E hr h=>?_
 obtain ⟨a,b,c,rfl,k⟩:=h
 exact ⟨_,(am (ax ag)),k⟩
theorem lG (T:Txt K mg Ad):bD P w K mg base Ad.Keeper "after" 1 ["self","mind","state"] [] nN:=by
 refine T.pN.bS fC λ f aP A outer s H vs Q E hr h=>?_
 obtain ⟨a,b,c,rfl,k⟩:=h
 exact ⟨_,(am (ax ag)),k⟩
theorem m6 (T:Txt K mg Ad):bD P w K mg base Ad.cy "minds" 1 ["self"] [] jC:=by
 refine T.qL.bS fE λ f aP A outer s H vs Q E hr h=>?_
 obtain ⟨v,rfl,k⟩:=h
 exact ⟨_,(am (ax ag)),k⟩
theorem oJ (T:Txt K mg Ad):bD P w K mg base Ad.cy "size" 1 ["self"] [] jC:=by
 refine T.sW.bS eE λ f aP A outer s H vs Q E hr h=>?_
 obtain ⟨v,rfl,k⟩:=h
 exact ⟨_,(am (ax ag)),k⟩
theorem mY (T:Txt K mg Ad):bD P w K mg base Ad.cy "after" 1 ["self","mind","state"] [] nN:=by
 refine T.qH.bS fC λ f aP A outer s H vs Q E hr h=>?_
 obtain ⟨a,b,c,rfl,k⟩:=h
 exact ⟨_,(am (ax ag)),k⟩
def p6 (H:Hp) (kvs:List (Key×V)) (S:List (Nat×Int×Int)):Prop:=kvs.length=S.length/\∀ (i:Nat) (kv:Key×V) (r:Nat×Int×Int),kvs[i]?=some kv->S[i]?=some r->kv.1 = .inl (r.1:Int)/\∃ p,kv.2 = .ref p/\H p=some (.tup [.int r.2.1,.int r.2.2])
theorem p6.gr {H H':Hp} {kvs:List (Key×V)} {S:List (Nat×Int×Int)} (h:p6 H kvs S) (g:∀ b xs,H b=some (.tup xs)->H' b=some (.tup xs)):p6 H' kvs S :=
 ⟨h.1,λ i kv r a b=>by obtain ⟨e,p,e2,hp⟩:=h.2 i kv r a b;exact ⟨e,p,e2,g _ _ hp⟩⟩
theorem Ij {H:Hp} {a:Addr} {o:HO} (h:H a=some o):upd H a o=H:=by
 funext b;unfold upd;split
 . subst_vars;exact h.symm
 . rfl
def SlD (H:Hp) (d:Addr) (kvs:List (Key×V)) (S:List (Nat×Int×Int)):Prop:=H d=some (.dK kvs)/\p6 H kvs S
inductive we (C:Addr) (vs:List V) (H:Hp) (Q:VK) (_E:XK):Prop
 | mk (x dx p kvs S:_) (_:vs=[.ref x,.ref p]) (_:H x=some (.ins C dx [])) (_:H dx=some (.own x)) (_:SlD H p kvs S) (_:(∀ r∈S,r.2.1<=r.2.2)) (_:∀ pd H',(∀ b o,H b=some o->b≠x->H' b=some o)->H' x=some (.ins C dx [("sills",.ref pd)])->H pd=none->H' pd=some (.dK kvs)->Q .dC H')
theorem gh (T:Txt K mg Ad):bD P w K mg base Ad.cy "__init__" 1 ["self","sills"] [] (we Ad.cy):=by
 refine T.lJ.bS eL λ f aP A outer s H vs Q E hr h=>?_
 obtain ⟨x,dx,p,kvs,S,rfl,hx,gq,⟨hp,hv⟩,ok,k⟩:=h
 refine ⟨_,(ak (FT (df aem rfl (F8 (pv 1)) (bW (K:=K) (n:=2) rfl rfl (aE (aA (i:=2) eL.nd rfl (lc rfl)) (aE (aA (i:=3) eL.nd rfl (lc rfl)) bU))) (am (bx (aJ kW (pv 2) (pv 3) (aK _)) (am vc) aM))))
     (am (gR (pv 0) (bO qZ (by rfl) T.Ci yE (aa (pv 1) ah)) rfl))),?_⟩
 try dsimp only [fj,aX]
 refine ⟨p,kvs,hp,λ ob=>⟨_,rfl,p,ob,kvs,rfl,ac,?_⟩⟩
 refine Bx (λ i σ H'=>H'=upd H p (Fd ob kvs)/\E2 λ (v1 v2:Option V)=>σ=[some (.ref x),some (.ref p),v1,v2]) ⟨rfl,none,none,rfl⟩ (λ i σ H' _ e=>by rw [e.1];exact ac) ?_ ?_
 .
  rintro i kv σ H' hk ⟨rfl,v1,v2,rfl⟩
  obtain ⟨r,AR⟩:∃ r,S[i]?=some r:=⟨_,Wz (by rw [← hv.1];exact (List.getElem?_eq_some_iff.mp hk).1)⟩
  obtain ⟨e,t,e2,ht⟩:=hv.2 i kv r hk AR
  have:=ok r (afB AR)
  have tp:t≠p:=DG ht hp nofun
  refine ⟨t,_,e2,bQ.of (by rw [aq tp];exact ht),rfl,_,_,rfl,_,_,rfl,rfl,?_⟩
  refine ⟨_,rfl,_,rfl,_,_,rfl,rfl,_,rfl,lR (by lia) ⟨rfl,_,_,rfl⟩⟩
 .
  rintro σ H' ⟨rfl,v1,v2,rfl⟩
  refine ⟨ac,?_⟩
  rw [D0,Ij hp]
  refine ⟨_,rfl,p,kvs,rfl,.inl hp,λ pd mO=>?_⟩
  have DV:x≠pd:=aB hx mO
  refine ⟨_,rfl,x,_,dx,_,rfl,by rw [aq DV];exact hx,T.gm,T.f6,lt1000 rfl,k pd _ (λ b o hb n=>?_) ac mO ?_⟩
  . rw [aq n,aq (aB hb mO)];exact hb
  . rw [aq DV.symm];exact ac
def rR (lo hi:Int) (bs:List Int) (bu r:Nat):Bool:=decide (bs.getD r 0<if bu.testBit r=true then hi else lo)
inductive vi (C:Addr) (vs:List V) (H:Hp) (Q:VK) (_E:XK):Prop
 | mk (a dx pd kvs:_) (r:Nat) (p ps lo hi:_) (bs ws fs:List Int) (bu:Nat) (hp:_) (n:Nat) (_:vs=[.ref a,ao r,.ref ps]) (_:H a=some (.ins C dx [("sills",.ref pd)])) (_:Rd H pd (.dK kvs)) (_:l7 kvs (.inl (r:Int))=some (.ref p)) (_:H p=some (.tup [.int lo,.int hi])) (_:oF H ps bs ws fs (bu:Int) hp) (_:bs.length=n) (_:r<n) (_:n<=4) (_:Q (.bl (rR lo hi bs bu r)) H)
theorem jE (T:Txt K mg Ad):bD P w K mg base Ad.cy "is_wished" 2 ["self","room","state"] [] (vi Ad.cy):=by
 refine T.kM.bS dS λ f aP A outer s H vs Q E hr h=>?_
 obtain ⟨a,dx,pd,kvs,r,p,ps,lo,hi,bs,ws,fs,bu,hp,n,rfl,ha,mO,hv,Jy,⟨pb,pw,pf,h1,h2,h3,h4⟩,lb,rn,n4,k⟩:=h
 refine ⟨_,(ak (gT (Fq (MC hr) (bn (pv 0) rfl) (pv 1) (λ _ _=>rfl)) (bW (K:=K) (n:=2) rfl rfl (aE (aA (i:=3) dS.nd rfl (lc rfl)) (aE (aA (i:=4) dS.nd rfl (lc rfl)) bU))))
     (am (ax (fu jP (aQ aO (aQ aO (pv 2) ag (λ _ _=>rfl)) (pv 1) (λ _ _=>rfl)) (f7 (dH (ay (gD (K:=K) T) hr.m (aa (aQ aO (pv 2) ag (λ _ _=>rfl)) (aa (pv 1) ah)))) (pv 4) (pv 3)) (aK _))))),?_⟩
 try dsimp only [fj,aX]
 refine ⟨_,rfl,a,_,dx,_,_,rfl,ha,T.gm,T.f6,rfl,_,rfl,pd,_,rfl,.inl ⟨kvs,.inl r,mO,rfl,hv.symm⟩,?_⟩
 refine ⟨p,_,rfl,bQ.of Jy,rfl,_,_,rfl,_,_,rfl,rfl,?_⟩
 refine ⟨_,rfl,_,_,_,_,rfl,rfl,.inr (bQ.of h1),rfl,_,rfl,_,_,_,_,rfl,rfl,.inr (bQ.of h2),lZ lb rn,?_⟩
 refine ⟨_,rfl,_,_,_,_,rfl,rfl,.inr (bQ.of h1),rfl,_,rfl,bu,r,rfl,_,rfl,?_⟩
 unfold rR at k
 cases q:bu.testBit r with
 | true=>rw [q,aeA rfl] at k;exact j9 ⟨_,rfl,_,_,rfl,rfl,k⟩
 | false=>rw [q,adH abS] at k;exact gw ⟨_,rfl,_,_,rfl,rfl,k⟩
def jS (S:List (Nat×Int×Int)) (bs:List Int) (bu:Nat):List Nat:=(S.filter λ r=>rR r.2.1 r.2.2 bs bu r.1).map (·.1)
def B6 (C:Addr) (H:Hp) (a:Addr) (kvs:List (Key×V)) (S:List (Nat×Int×Int)):Prop:=∃ dx pd,H a=some (.ins C dx [("sills",.ref pd)])/\H dx=some (.own a)/\SlD H pd kvs S
theorem xf {S:List (Nat×Int×Int)} {bs:List Int} {bu i:Nat} {r:Nat×Int×Int} (h:S[i]?=some r):(jS (S.take (i+1)) bs bu).map ao=(jS (S.take i) bs bu).map ao++(if rR r.2.1 r.2.2 bs bu r.1=true then [ao r.1] else []):=by
 have:S.take (i+1)=S.take i++[r]:=by rw [ahe,h];rfl
 unfold jS
 rw [this,amp,acT,acT]
 by_cases q:rR r.2.1 r.2.2 bs bu r.1=true<;>simp [q]
theorem Ak:∀ {kvs:List (Key×V)} {i:Nat} {kv:Key×V},(kvs.map (·.1)).Nodup->kvs[i]?=some kv->l7 kvs kv.1=some kv.2
 | c::kvs,0,kv,_,e=>by cases e;simp [l7]
 | c::kvs,i+1,kv,nd,e=>by
   have e:kvs[i]?=some kv:=e
   have nd':=List.nodup_cons.mp nd
   have ne:¬ c.1=kv.1:=λ z=>nd'.1 (by show c.1∈_;rw [z];exact List.mem_map.mpr ⟨kv,afB e,rfl⟩)
   have:=Ak nd'.2 e
   unfold l7 at this ⊢
   rw [List.find?_cons_of_neg (by simpa using ne)]
   exact this
inductive B8 (C:Addr) (vs:List V) (H:Hp) (Q:VK) (_E:XK):Prop
 | mk (a m ps kvs S:_) (bs ws fs:List Int) (bu:Nat) (hp:_) (n:Nat) (_:vs=[.ref a,m,.ref ps]) (_:B6 C H a kvs S) (_:(kvs.map (·.1)).Nodup) (_:oF H ps bs ws fs (bu:Int) hp) (_:bs.length=n) (_:n<=4) (_:S.length<=10) (_:(∀ r∈S,r.1<n)) (_:∀ H',av H H'->Q (ao (i3 (jS S bs bu) 0)) H')
theorem o0 (T:Txt K mg Ad):bD P w K mg base Ad.cy "wish" 5 ["self","mind","state"] [] (B8 Ad.cy):=by
 refine T.sY.bS qq λ f aP A outer s H vs Q E hr h=>?_
 obtain ⟨a,m,ps,kvs,S,bs,ws,fs,bu,hp,n,rfl,⟨dx,pd,ha,gq,mO,hv⟩,nd,sa,lb,n4,IL,ok,k⟩:=h
 refine ⟨_,(am (ax (ay (ix (K:=K) T) hr.m (aa (D4 (gJ ["room"] ["state","self"] [2,0] (.cons ⟨rfl,rfl,.inl rfl⟩ (.cons ⟨rfl,rfl,.inl rfl⟩ .nil)) rfl (EC (bn (pv 0) rfl)) (λ _ _ _ _ _=>(aA (i:=0) (show (["room","state","self"]:List Str).Nodup by decide +kernel) rfl (lc rfl))) (λ _ _ _ _ _=>(nJ (dH (bP (P:=P) (w:=w) (K:=K) (mg:=mg) (base:=base) (k:=4) ⟨rfl,rfl,rfl,rfl,rfl⟩ (pv 2) hr (aa (pv 0) (aa (pv 1) ah)))))) (λ _ _ _ _ _=>(pv 0)) rfl (by decide +kernel) (by decide +kernel) (by decide +kernel))) ah)))),?_⟩
 try dsimp only [fj,aX]
 have na:a≠pd:=DG ha mO nofun
 refine ⟨pd,kvs,mO,λ ob=>⟨_,rfl,a,_,dx,_,_,rfl,by rw [aq na];exact ha,T.gm,T.f6,rfl,pd,ob,kvs,rfl,ac,λ D hD=>?_⟩⟩
 have s0:=al (o:=.lst []) hD
 have tp:∀ b xs,H b=some (.tup xs)->upd H pd (Fd ob kvs) b=some (.tup xs):=λ b xs e=>by rw [aq (DG e mO nofun)];exact e
 refine zn (d:=pd) (ob:=ob) (kvs:=kvs) (λ i acc σ H'=>A4 (av (upd H pd (Fd ob kvs)) H') (H' D=some (.lst acc)) (acc=(jS (S.take i) bs bu).map ao) (∃ (v1:Option V),σ=[v1,some (.ref ps),some (.ref a)]))
   ⟨s0,ac,rfl,none,rfl⟩ (λ i acc σ H' _ e=>e.1 _ _ ac) ?_ ?_
 .
  rintro i kv acc σ H' hk ⟨s1,jR,rfl,v1,rfl⟩
  obtain ⟨r,AR⟩:∃ r,S[i]?=some r:=⟨_,Wz (by rw [← hv.1];exact (List.getElem?_eq_some_iff.mp hk).1)⟩
  obtain ⟨e,t,e2,ht⟩:=hv.2 i kv r hk AR
  have okr:=ok r (afB AR)
  have vk:=Ak nd hk
  rw [e,e2] at vk
  have sa':oF H' ps bs ws fs (bu:Int) hp:=by
    obtain ⟨pb,pw,pf,h1,h2,h3,h4⟩:=sa
    exact ⟨pb,pw,pf,s1 _ _ (tp _ _ h1),s1 _ _ (tp _ _ h2),s1 _ _ (tp _ _ h3),s1 _ _ (tp _ _ h4)⟩
  have ha':H' a=some (.ins Ad.cy dx [("sills",.ref pd)]):=s1 _ _ (by rw [aq na];exact ha)
  have nx:=xf (bs:=bs) (bu:=bu) AR
  have ln:((jS (S.take i) bs bu).map ao).length<=10:=by
    unfold jS
    rw [aad,aad]
    exact afi (al9 _ _) (by rw [aaP];lia)
  rw [e]
  refine ⟨_,rfl,Ad.cy,a,dx,_,_,_,rfl,ha',rfl,T.gm,(jE T).mono (by decide),_,rfl,_,rfl,a,dx,pd,kvs,r.1,t,ps,r.2.1,r.2.2,bs,ws,fs,bu,hp,n,rfl,ha',.inr ⟨ob,s1 _ _ ac⟩,vk,s1 _ _ (tp _ _ ht),sa',lb,okr,n4,_,rfl,?_⟩
  cases q:rR r.2.1 r.2.2 bs bu r.1 with
  | true =>
    rw [q,aeA rfl] at nx
    exact j9 ⟨_,rfl,jR,bq (by lia),s1.put hD,ac,nx.symm,_,rfl⟩
  | false =>
    rw [q,adH abS,agb] at nx
    exact gw ⟨s1,jR,nx.symm,_,rfl⟩
 .
  rintro acc σ H' ⟨s1,jR,rfl,v1,rfl⟩
  rw [hv.1,adg] at jR
  have nD:D≠pd:=λ z=>by rw [z,ac] at hD;cases hD
  refine ⟨s1 _ _ ac,D,_,rfl,bh.of (by rw [aq nD];exact jR),λ r hr=>?_,k _ λ b o hb=>?_⟩
  . obtain ⟨x,hm,rfl⟩:=List.mem_map.mp hr
    have:=ok x (List.mem_filter.mp hm).1
    lia
  . by_cases hb2:b=pd
    . subst hb2;rw [ac,← mO,hb]
    . rw [aq hb2];exact s1 _ _ (by rw [aq hb2];exact hb)
theorem mQ (T:Txt K mg Ad):bD P w K mg base Ad.Clock "minds" 1 ["self"] [] (yZ Ad.Clock):=by
 refine T.qo.bS o7 λ f aP A outer s H vs Q E hr h=>?_
 obtain ⟨a,ws,rfl,⟨dx,pw,ha,gq,xI,_⟩,k⟩:=h
 refine ⟨_,(am (ax (aZ ce (by rfl) T.hU eY (aa (bn (pv 0) rfl) ah)))),?_⟩
 try dsimp only [fj,aX]
 exact ⟨_,rfl,a,_,dx,_,_,rfl,ha,T.gl,T.dO,rfl,pw,_,rfl,.inl (bh.of xI),λ r er=>by rw [er,aad];exact k⟩
theorem pL (T:Txt K mg Ad):bD P w K mg base Ad.Clock "size" 1 ["self"] [] DH:=by
 refine T.sF.bS eE λ f aP A outer s H vs Q E hr h=>?_
 obtain ⟨v,rfl,k⟩:=h
 exact ⟨_,(am (ax ag)),k⟩
theorem oE (T:Txt K mg Ad):bD P w K mg base Ad.Clock "wish" 1 ["self","mind","state"] [] (AG Ad.Clock):=by
 refine T.tu.bS qM λ f aP A outer s H vs Q E hr h=>?_
 obtain ⟨a,ws,i,z,st,rfl,⟨dx,pw,ha,gq,xI,_⟩,hz,k⟩:=h
 refine ⟨_,(am (ax (aQ aO (bn (pv 0) rfl) (pv 1) (λ _ _=>rfl)))),?_⟩
 try dsimp only [fj,aX]
 exact ⟨_,rfl,a,_,dx,_,_,rfl,ha,T.gl,T.dO,rfl,_,rfl,pw,_,_,_,rfl,rfl,.inl (bh.of xI),dy (by rw [aei,hz];rfl),k⟩
theorem m7 (T:Txt K mg Ad):bD P w K mg base Ad.Clock "after" 1 ["self","mind","state"] [] (yP Ad.Clock):=by
 refine T.rh.bS pK λ f aP A outer s H vs Q E hr h=>?_
 obtain ⟨a,ws,i,st,rfl,⟨dx,pw,ha,gq,xI,l1,_⟩,k⟩:=h
 refine ⟨_,(am (ax (az aS (az bg (pv 1) ag) (aZ ce (by rfl) T.hU eY (aa (bn (pv 0) rfl) ah))))),?_⟩
 try dsimp only [fj,aX]
 refine ⟨_,rfl,_,_,rfl,rfl,λ y ey=>⟨_,rfl,a,_,dx,_,_,rfl,ha,T.gl,T.dO,rfl,pw,_,rfl,.inl (bh.of xI),λ r er=>⟨_,_,rfl,rfl,by rw [er,aad];lia,λ q q0 q1 eq=>?_⟩⟩⟩
 have e:q=(((i+1) % ws.length:Nat):Int):=by rw [eq,ey,er,aad];push_cast;rfl
 rw [e]
 exact k
inductive oy (C:Addr) (K:W.Frag) (vs:List V) (H:Hp) (Q:VK) (_E:XK):Prop
 | mk (x dx p:_) (ws:List Int) (_:vs=[.ref x,.ref p]) (_:H x=some (.ins C dx [])) (_:H dx=some (.own x)) (_:bh K H p (ws.map V.int)) (_:1<=ws.length) (_:ws.length<=24) (_:∀ pw H',(∀ b o,H b=some o->b≠x->H' b=some o)->H pw=none->H' x=some (.ins C dx [("wishes",.ref pw)])->H' dx=some (.own x)->H' pw=some (.lst (ws.map V.int))->Q .dC H')
theorem bF (T:Txt K mg Ad):bD P w K mg base Ad.Clock "__init__" 1 ["self","wishes"] [] (oy Ad.Clock K):=by
 refine T.ma.bS lA λ f aP A outer s H vs Q E hr h=>?_
 obtain ⟨x,dx,p,ws,rfl,hx,gq,hp,l1,l2,k⟩:=h
 refine ⟨_,(ak (bx (gU (CC Gq Gq ag (aZ ce (by rfl) T.hU eY (aa (pv 1) ah)) (oi rfl T.rl))) (am vc) aM)
     (am (gR (pv 0) (bO ic (by rfl) T.wz sP (aa (pv 1) ah)) rfl))),?_⟩
 try dsimp only [fj,aX]
 refine ⟨_,rfl,p,_,rfl,.inl hp,λ r er=>?_⟩
 rw [aad] at er
 refine ⟨_,_,rfl,rfl,_,rfl,Kv (by lia) ⟨_,_,rfl,rfl,_,rfl,ME (by lia) ?_⟩⟩
 refine ⟨_,rfl,p,_,rfl,.inl hp,λ pw xI=>?_⟩
 have DV:x≠pw:=aB hx xI
 refine ⟨_,rfl,x,_,dx,_,rfl,by rw [aq DV];exact hx,T.gl,T.dO,lt1000 rfl,k pw _ (λ b o hb n=>?_) xI ac ?_ ?_⟩
 . rw [aq n,aq (aB hb xI)];exact hb
 . rw [aq (iz gq hx nofun),aq (aB gq xI)];exact gq
 . rw [aq DV.symm];exact ac
theorem mS (T:Txt K mg Ad):bD P w K mg base Ad.d6 "minds" 1 ["self"] [] jC:=by
 refine T.qF.bS fE λ f aP A outer s H vs Q E hr h=>?_
 obtain ⟨v,rfl,k⟩:=h
 exact ⟨_,(am (ax ag)),k⟩
theorem oq (T:Txt K mg Ad):bD P w K mg base Ad.d6 "size" 1 ["self"] [] jC:=by
 refine T.sO.bS eE λ f aP A outer s H vs Q E hr h=>?_
 obtain ⟨v,rfl,k⟩:=h
 exact ⟨_,(am (ax ag)),k⟩
theorem ni (T:Txt K mg Ad):bD P w K mg base Ad.d6 "after" 1 ["self","mind","state"] [] nN:=by
 refine T.qp.bS fC λ f aP A outer s H vs Q E hr h=>?_
 obtain ⟨a,b,c,rfl,k⟩:=h
 exact ⟨_,(am (ax ag)),k⟩
def Rows (H:Hp) (ts:List Addr) (rows:List (Nat×Cd)):Prop:=ts.length=rows.length/\∀ (i:Nat) (t:Addr) (rc:Nat×Cd),ts[i]?=some t->rows[i]?=some rc->∃ f,H t=some (.tup [ao rc.1,.ref f])/\nG H rc.2 f
theorem Rows.gr {H H':Hp} {ts:List Addr} {rows:List (Nat×Cd)} (h:Rows H ts rows) (g:Gr H H'):Rows H' ts rows :=
 ⟨h.1,λ i t rc a b=>by obtain ⟨f,e,c⟩:=h.2 i t rc a b;exact ⟨f,g.tup e,c.gr g⟩⟩
def Ct (C:Addr) (H:Hp) (a:Addr) (rows:List (Nat×Cd)):Prop:=∃ dx pr ts,H a=some (.ins C dx [("rows",.ref pr)])/\H dx=some (.own a)/\H pr=some (.lst (ts.map V.ref))/\Rows H ts rows
inductive Bh (C:Addr) (K:W.Frag) (vs:List V) (H:Hp) (Q:VK) (_E:XK):Prop
 | mk (x dx p xs:_) (_:vs=[.ref x,.ref p]) (_:H x=some (.ins C dx [])) (_:H dx=some (.own x)) (_:bh K H p xs) (_:∀ pr H',(∀ b o,H b=some o->b≠x->H' b=some o)->H' x=some (.ins C dx [("rows",.ref pr)])->H pr=none->H' pr=some (.lst xs)->Q .dC H')
theorem kl (T:Txt K mg Ad):bD P w K mg base Ad.d6 "__init__" 1 ["self","rows"] [] (Bh Ad.d6 K):=by
 refine T.lO.bS kZ λ f aP A outer s H vs Q E hr h=>?_
 obtain ⟨x,dx,p,xs,rfl,hx,gq,hp,k⟩:=h
 refine ⟨_,(am (gR (pv 0) (bO ic (by rfl) T.wz sP (aa (pv 1) ah)) rfl)),?_⟩
 try dsimp only [fj,aX]
 refine ⟨_,rfl,p,_,rfl,.inl hp,λ pr mM=>?_⟩
 have DV:x≠pr:=aB hx mM
 refine ⟨_,rfl,x,_,dx,_,rfl,by rw [aq DV];exact hx,T.iT,T.jT,lt1000 rfl,k pr _ (λ b o hb n=>?_) ac mM ?_⟩
 . rw [aq n,aq (aB hb mM)];exact hb
 . rw [aq DV.symm];exact ac
def mF (rows:List (Nat×Cd)) (bs ws:List Int) (bu:Nat) (hp:Int):List Nat:=(rows.filter λ rc=>rc.2.val bs ws bu hp).map (·.1)
inductive Dw (C:Addr) (vs:List V) (H:Hp) (Q:VK) (_E:XK):Prop
 | mk (a m ps rows:_) (bs ws fs:List Int) (bu:Nat) (hp:_) (n:Nat) (_:vs=[.ref a,m,.ref ps]) (_:Ct C H a rows) (_:oF H ps bs ws fs (bu:Int) hp) (_:bs.length=n) (_:ws.length=n) (_:n<=4) (_:rows.length<=10) (_:(∀ rc∈rows,rc.1<n/\rc.2.Ok n/\rc.2.dep<=2)) (_:∀ H',av H H'->Q (ao (i3 (mF rows bs ws bu hp) 0)) H')
theorem wC {rows:List (Nat×Cd)} {bs ws:List Int} {bu:Nat} {hp:Int} {i:Nat} {rc:Nat×Cd} (h:rows[i]?=some rc):(mF (rows.take (i+1)) bs ws bu hp).map ao=(mF (rows.take i) bs ws bu hp).map ao++(if rc.2.val bs ws bu hp=true then [ao rc.1] else []):=by
 have:rows.take (i+1)=rows.take i++[rc]:=by rw [ahe,h];rfl
 unfold mF
 rw [this,amp,acT,acT]
 by_cases q:rc.2.val bs ws bu hp=true<;>simp [q]
theorem ph (T:Txt K mg Ad):bD P w K mg base Ad.d6 "wish" 5 ["self","mind","state"] [] (Dw Ad.d6):=by
 refine T.t9.bS qI λ f aP A outer s H vs Q E hr h=>?_
 obtain ⟨a,m,ps,rows,bs,ws,fs,bu,hp,n,rfl,⟨dx,pr,ts,ha,gq,mM,hrw⟩,sa,lb,lw,n4,IL,ok,k⟩:=h
 refine ⟨_,(am (ax (ay (ix (K:=K) T) hr.m (aa (gJ ["room","condition"] ["state"] [2] (.cons ⟨rfl,rfl,.inl rfl⟩ .nil) rfl (dQ (bn (pv 0) rfl)) (λ _ _ _ _ _=>(bW (K:=K) (n:=2) rfl rfl (aE (aA (i:=0) (show (["room","condition","state"]:List Str).Nodup by decide +kernel) rfl (lc rfl)) (aE (aA (i:=1) (show (["room","condition","state"]:List Str).Nodup by decide +kernel) rfl (lc rfl)) bU)))) (λ _ _ _ _ _=>(nJ (dH (zX (P:=P) (w:=w) (K:=K) (mg:=mg) (base:=base) (k:=4) (i:=1) ⟨rfl,rfl,rfl,rfl,rfl⟩ hr rfl (by first|exact Or.inl rfl|exact Or.inr (Or.inl rfl)|exact Or.inr (Or.inr rfl)) (aa (pv 2) ah))))) (λ _ _ _ _ _=>(pv 0)) rfl (by decide +kernel) (by decide +kernel) (by decide +kernel)) ah)))),?_⟩
 try dsimp only [fj,aX]
 refine ⟨_,rfl,a,_,dx,_,_,rfl,ha,T.iT,T.jT,rfl,pr,rfl,⟨_,bh.of mM⟩,λ D hD=>?_⟩
 have t0:=al (o:=.lst []) hD
 refine eX (K:=K) (a:=pr) (xs:=ts.map V.ref) (λ i acc σ H'=>A4 (av H H') (H' D=some (.lst acc)) (acc=(mF (rows.take i) bs ws bu hp).map ao) (E2 λ (v1 v2:Option V)=>σ=[v1,v2,some (.ref ps)]))
   ⟨t0,ac,rfl,none,none,rfl⟩ (λ i acc σ H' _ e=>bh.of (e.1 _ _ mM)) ?_ ?_
 .
  rintro i x acc σ H' hx ⟨s1,jR,rfl,v1,v2,rfl⟩
  obtain ⟨t,ht,rfl⟩:∃ t,ts[i]?=some t/\x = .ref t:=by
    rw [aei] at hx
    cases e:ts[i]? with
    | none=>rw [e] at hx;cases hx
    | some t=>rw [e] at hx;cases hx;exact ⟨t,rfl,rfl⟩
  have hi:i<rows.length:=by
    rw [← hrw.1]
    exact (List.getElem?_eq_some_iff.mp ht).1
  obtain ⟨rc,OA⟩:∃ rc,rows[i]?=some rc:=⟨_,Wz hi⟩
  obtain ⟨fc,Kl,hC⟩:=hrw.2 i t rc ht OA
  obtain ⟨okr,okc,okd⟩:=ok rc (afB OA)
  have Rn:=hC.gr (.of s1)
  obtain ⟨o1,fd1,e1,d1⟩:=Rn.obj
  refine ⟨t,_,rfl,bQ.of (s1 _ _ Kl),rfl,_,_,rfl,_,_,rfl,rfl,?_⟩
  refine ⟨fc,o1,fd1,rfl,d1,⟨_,rfl,e1,λ A' qe s' us hr' QD rv=>?_⟩⟩
  match us,rv with
  | [u'],.cons Qo .nil =>
    refine aiL (wv T lb lw rc.2 Rn okc (sa.same s1) (hr'.mono (by lia)) QD Qo) λ r s2 h=>CR.mono (λ v H1 hv2=>?_) h
    obtain ⟨rfl,sm⟩:=hv2
    have s2:=s1.trans sm
    have ln:((mF (rows.take i) bs ws bu hp).map ao).length<=10:=by
      unfold mF
      rw [aad,aad]
      exact afi (al9 _ _) (by rw [aaP];lia)
    have nx:=wC (bs:=bs) (ws:=ws) (bu:=bu) (hp:=hp) OA
    refine ⟨_,rfl,?_⟩
    cases q:rc.2.val bs ws bu hp with
    | true =>
      rw [q,aeA rfl] at nx
      refine j9 ⟨_,rfl,sm _ _ jR,bq (by lia),s2.put hD,ac,nx.symm,_,_,rfl⟩
    | false =>
      rw [q,adH abS,agb] at nx
      refine gw ⟨s2,sm _ _ jR,nx.symm,_,_,rfl⟩
 .
  rintro acc σ H' ⟨s1,jR,rfl,v1,v2,rfl⟩
  rw [aad,hrw.1,adg] at jR
  refine ⟨D,_,rfl,bh.of jR,λ r hr=>?_,k H' s1⟩
  obtain ⟨rc,hm,rfl⟩:=List.mem_map.mp hr
  have:=(ok rc (List.mem_filter.mp hm).1).1
  lia
theorem jn (T:Txt K mg Ad) {H:Hp} {a dx:Addr} {n:Nat} (h:H a=some (.ins Ad.Keeper dx [])) (n4:n<=4):KA P w K mg base Ad.Keeper n H a 1 1 (λ _ _=>0) (λ _=>0) 5 :=
 ⟨⟨_,dx,[],_,_,_,_,h,⟨rfl,rfl,rfl,rfl⟩,T.lT,(lX T).mono (by decide),(nh T).mono (by decide),(m4 T).mono (by decide),(lG T).mono (by decide),λ _ k=>⟨_,rfl,k _ (av.refl _)⟩,λ _ k=>⟨_,rfl,k _ (av.refl _)⟩,λ _ _ _ _ k=>⟨_,_,_,rfl,k _ (av.refl _)⟩,λ _ _ _ _ k=>⟨_,_,_,rfl,k _ (av.refl _)⟩,
   .ins h T.lT T.rF T.dg T.bN T.rE,λ q => .ins (q _ _ h) T.lT T.rF T.dg T.bN T.rE,T.zD⟩,n4,by decide,by decide,by decide,λ _ _=>by decide⟩
theorem pX (T:Txt K mg Ad) {H:Hp} {a:Addr} {n:Nat} {ws:List Nat} (h:gH Ad.Clock H a (ws.map Int.ofNat)) (n4:n<=4):KA P w K mg base Ad.Keeper n H a ws.length 1 (λ i _=>ws.getD i 0) (λ i=>(i+1) % ws.length) 5:=by
 obtain ⟨dx,pw,h1,h2,h3,h4,h5⟩:=id h
 have lw:(ws.map Int.ofNat).length=ws.length:=aad ..
 rw [lw] at h4 h5
 refine ⟨⟨_,dx,_,_,_,_,_,h1,⟨rfl,rfl,rfl,rfl⟩,T.gl,(mQ T).mono (by decide),(pL T).mono (by decide),(oE T).mono (by decide),(m7 T).mono (by decide),λ q k=>⟨a,_,rfl,h.same q,by rw [lw];exact k _ (av.refl _)⟩,λ _ k=>⟨_,rfl,k _ (av.refl _)⟩,λ {H' Q i ps s} q hi _ _ k=>⟨a,_,i,(ws.getD i 0:Nat),_,rfl,h.same q,?_,k _ (av.refl _)⟩,λ {H' Q i ps s} q hi _ _ k=>⟨a,_,i,_,rfl,h.same q,by rw [lw];exact k _ (av.refl _)⟩,
   .ins h1 T.gl T.vx T.dg T.bN T.vE,λ q => .ins (q _ _ h1) T.gl T.vx T.dg T.bN T.vE,T.BI⟩,n4,h4,by lia,by decide,λ _ _=>amt _ h4⟩
 rw [aei,Wz hi,adO,Wz hi]
 rfl
theorem B6.same {H H':Hp} {C a:Addr} {kvs:List (Key×V)} {S:List (Nat×Int×Int)} (h:B6 C H a kvs S) (q:av H H'):B6 C H' a kvs S:=by
 obtain ⟨dx,pd,h1,h2,h3,h4⟩:=h
 exact ⟨dx,pd,q _ _ h1,q _ _ h2,q _ _ h3,h4.gr λ b xs e=>q _ _ e⟩
theorem Ax (T:Txt K mg Ad) {H:Hp} {a:Addr} {n:Nat} {kvs:List (Key×V)} {S:List (Nat×Int×Int)} (h:B6 Ad.cy H a kvs S) (nd:(kvs.map (·.1)).Nodup) (IL:S.length<=10) (hr:∀ r∈S,r.1<n) (n4:n<=4):KA P w K mg base Ad.Keeper n H a 1 1 (λ _ s=>i3 (jS S s.bs s.bu) 0) (λ _=>0) 5:=by
 obtain ⟨dx,pd,ha,_⟩:=id h
 exact ⟨⟨_,dx,_,_,_,_,_,ha,⟨rfl,rfl,rfl,rfl⟩,T.gm,(m6 T).mono (by decide),(oJ T).mono (by decide),o0 T,(mY T).mono (by decide),λ _ k=>⟨_,rfl,k _ (av.refl _)⟩,λ _ k=>⟨_,rfl,k _ (av.refl _)⟩,λ {H' Q i ps s} q _ hs hn k=>⟨a,_,ps,kvs,S,s.bs,s.ws,s.fs,s.bu,s.hp,n,rfl,h.same q,nd,hs,hn.1,n4,IL,hr,k⟩,λ _ _ _ _ k=>⟨_,_,_,rfl,k _ (av.refl _)⟩,
   .ins ha T.gm T.uS T.dg T.bN T.uL,λ q => .ins (q _ _ ha) T.gm T.uS T.dg T.bN T.uL,T.CD⟩,n4,by decide,by decide,by decide,λ _ _=>by decide⟩
theorem Ct.same {H H':Hp} {C a:Addr} {rows:List (Nat×Cd)} (h:Ct C H a rows) (q:av H H'):Ct C H' a rows:=by
 obtain ⟨dx,pr,ts,h1,h2,h3,h4⟩:=h
 exact ⟨dx,pr,ts,q _ _ h1,q _ _ h2,q _ _ h3,h4.gr (.of q)⟩
theorem Bi (T:Txt K mg Ad) {H:Hp} {a:Addr} {n:Nat} {rows:List (Nat×Cd)} (h:Ct Ad.d6 H a rows) (IL:rows.length<=10) (hr:∀ rc∈rows,rc.1<n/\rc.2.Ok n/\rc.2.dep<=2) (n4:n<=4):KA P w K mg base Ad.Keeper n H a 1 1 (λ _ s=>i3 (mF rows s.bs s.ws s.bu s.hp) 0) (λ _=>0) 5:=by
 obtain ⟨dx,pr,ts,ha,_⟩:=id h
 exact ⟨⟨_,dx,_,_,_,_,_,ha,⟨rfl,rfl,rfl,rfl⟩,T.iT,(mS T).mono (by decide),(oq T).mono (by decide),ph T,(ni T).mono (by decide),λ _ k=>⟨_,rfl,k _ (av.refl _)⟩,λ _ k=>⟨_,rfl,k _ (av.refl _)⟩,λ {H' Q i ps s} q _ hs hn k=>⟨a,_,ps,rows,s.bs,s.ws,s.fs,s.bu,s.hp,n,rfl,h.same q,hs,hn.1,hn.2.1,n4,IL,hr,k⟩,λ _ _ _ _ k=>⟨_,_,_,rfl,k _ (av.refl _)⟩,
   .ins ha T.iT T.u6 T.dg T.bN T.uX,λ q => .ins (q _ _ ha) T.iT T.u6 T.dg T.bN T.uX,T.CY⟩,n4,by decide,by decide,by decide,λ _ _=>by decide⟩
def i8 (b:Addr):Option (eP×Nat)->BH
 | some (key,v)=>[(pF key,b,ao v)]
 | none=>[]
noncomputable def De (o:Option (eP×Nat)) (W:Nat->eP->Nat) (i:Nat) (s:eP):Nat:=match o with
 | some (key,v)=>if pF s=pF key then v else W i s
 | none=>W i s
theorem zJ (b:Addr) (o:Option (eP×Nat)) (W:Nat->eP->Nat) (i:Nat) (s:eP):(∃ v,uT (i8 b o) (pF s)=some (ao v)/\De o W i s=v)∨(uT (i8 b o) (pF s)=none/\De o W i s=W i s):=by
 cases o with
 | none=>exact .inr ⟨rfl,rfl⟩
 | some kv =>
   obtain ⟨key,v⟩:=kv
   by_cases e:pF s=pF key
   . exact .inl ⟨v,by unfold uT i8;rw [ahD,ajv e.symm];rfl,aeA e⟩
   . exact .inr ⟨by unfold uT i8;rw [ahD,af6 (λ z=>e z.symm)];rfl,adH e⟩
structure JF (P:Program) (w:World) (K:W.Frag) (mg:Str->Option Value) (base:Heap) (CK CT:Addr) (n:Nat) (H:Hp) (a:Addr) (o:Option (eP×Nat)) (m sz:Nat) (W:Nat->eP->Nat) (F:Nat->Nat) (k:Nat):Prop where
 ex:∃ dx pr b b0,H a=some (.ins CT dx [("rows",.ref pr),("other",.ref b)])/\gu P w K H pr (i8 b0 o)/\KA P w K mg base CK n H b m sz W F k
theorem JF.same {CT a:Addr} {n m sz k:Nat} {H H':Hp} {o:Option (eP×Nat)} {W:Nat->eP->Nat} {F:Nat->Nat} (h:JF P w K mg base Ad.Keeper CT n H a o m sz W F k) (q:av H H'):JF P w K mg base Ad.Keeper CT n H' a o m sz W F k:=by
 obtain ⟨dx,pr,b,b0,h1,h2,h3⟩:=h.ex
 exact ⟨dx,pr,b,b0,q _ _ h1,h2.same q,h3.same q⟩
inductive Da (P:Program) (w:World) (K:W.Frag) (mg:Str->Option Value) (base:Heap) (CK CT:Addr) (k:Nat) (f:Nat->Nat->Nat) (vs:List V) (H:Hp) (Q:VK) (_E:XK):Prop
 | mk (a n o m sz W F:_) (_:vs=[.ref a]) (_:JF P w K mg base CK CT n H a o m sz W F k) (_:∀ H',av H H'->Q (ao (f m sz)) H')
inductive Cm (P:Program) (w:World) (K:W.Frag) (mg:Str->Option Value) (base:Heap) (CK CT:Addr) (k:Nat) (f:Option (eP×Nat)->(Nat->eP->Nat)->(Nat->Nat)->Nat->eP->Nat) (vs:List V) (H:Hp) (Q:VK) (_E:XK):Prop
 | mk (a n o m sz W F:_) (i:Nat) (ps s:_) (_:vs=[.ref a,ao i,.ref ps]) (_:JF P w K mg base CK CT n H a o m sz W F k) (_:i<m) (_:tL H ps s) (_:Sz n s) (_:∀ H',av H H'->Q (ao (f o W F i s)) H')
theorem iD (T:Txt K mg Ad) {k:Nat}:bD P w K mg base Ad.Table "minds" (k+1) ["self"] [] (Da P w K mg base Ad.Keeper Ad.Table k λ m _=>m):=by
 refine T.qC.bS nY λ f aP A outer s H vs Q E hr h=>?_
 obtain ⟨a,n,o,m,sz,W,F,rfl,⟨dx,pr,b,b0,ha,hd,kx⟩,q⟩:=h
 refine ⟨_,(am (ax (f7 (aJ lW (bn (pv 0) rfl) iM (aK _)) ag (bv (P:=P) (w:=w) (K:=K) (mg:=mg) (base:=base) (k:=k) ⟨rfl,rfl,rfl,rfl,rfl⟩ (bn (pv 0) rfl) hr)))),?_⟩
 try dsimp only [fj,aX]
 obtain ⟨C,JJ,fs,uk,uP,CQ,AX,h1,h2,h3,h4,h5,h6,h7,h8,h9,_⟩:=kx.ex
 exact ⟨_,rfl,a,_,dx,_,_,rfl,ha,T.bR,T.bz,rfl,rfl,_,rfl,lR nofun ⟨_,rfl,a,_,dx,_,_,rfl,ha,T.bR,T.bz,rfl,C,b,JJ,fs,_,uk,rfl,h1,h2.1,h3,h4,h8 (av.refl _) q⟩⟩
theorem ja (T:Txt K mg Ad) {k:Nat}:bD P w K mg base Ad.Table "size" (k+1) ["self"] [] (Da P w K mg base Ad.Keeper Ad.Table k λ _ sz=>1+sz):=by
 refine T.uc.bS qP λ f aP A outer s H vs Q E hr h=>?_
 obtain ⟨a,n,o,m,sz,W,F,rfl,⟨dx,pr,b,b0,ha,hd,kx⟩,q⟩:=h
 refine ⟨_,(am (ax (f7 (aJ lW (bn (pv 0) rfl) iM (aK _)) ag (az bg ag (bv (P:=P) (w:=w) (K:=K) (mg:=mg) (base:=base) (k:=k) ⟨rfl,rfl,rfl,rfl,rfl⟩ (bn (pv 0) rfl) hr))))),?_⟩
 try dsimp only [fj,aX]
 obtain ⟨C,JJ,fs,uk,uP,CQ,AX,h1,h2,h3,h4,h5,h6,h7,h8,h9,_⟩:=kx.ex
 refine ⟨_,rfl,a,_,dx,_,_,rfl,ha,T.bR,T.bz,rfl,rfl,_,rfl,lR nofun ⟨_,rfl,a,_,dx,_,_,rfl,ha,T.bR,T.bz,rfl,C,b,JJ,fs,_,uP,rfl,h1,h2.2.1,h3,h5,h9 (av.refl _) λ H' S=>⟨_,_,rfl,rfl,λ y ey=>?_⟩⟩⟩
 have e:y=((1+sz:Nat):Int):=by rw [ey];push_cast;rfl
 rw [e];exact q H' S
theorem oH (T:Txt K mg Ad) {k:Nat}:bD P w K mg base Ad.Table "wish" (k+1) ["self","mind","state"] [] (Cm P w K mg base Ad.Keeper Ad.Table k λ o W _ i s=>De o W i s):=by
 refine T.tU.bS re λ f aP A outer s H vs Q E hr h=>?_
 obtain ⟨a,n,o,m,sz,W,F,i,ps,st,rfl,⟨dx,pr,b,b0,ha,hd,kx⟩,hi,hs,hn,q⟩:=h
 refine ⟨_,(ak (bx (aJ (IE (P:=P) (w:=w) (K:=K) rfl rfl rfl hr.Xl) (pv 2) (bn (pv 0) rfl) (by with_unfolding_all rfl)) (am (ax (Eu (P:=P) (w:=w) (K:=K) rfl rfl rfl hr.Xl (bn (pv 0) rfl) (pv 2) (λ _ _=>rfl)))) aM)
     (am (ax (f7 (aJ lW (bn (pv 0) rfl) iM (aK _)) ag (bP (P:=P) (w:=w) (K:=K) (mg:=mg) (base:=base) (k:=k) ⟨rfl,rfl,rfl,rfl,rfl⟩ (bn (pv 0) rfl) hr (aa (pv 1) (aa (pv 2) ah))))))),?_⟩
 try dsimp only [fj,aX]
 obtain ⟨C,JJ,fs,uk,uP,CQ,AX,h1,h2,h3,h4,h5,h6,h7,h8,h9,Km,_⟩:=kx.ex
 refine ⟨_,rfl,_,rfl,a,_,dx,_,_,rfl,ha,T.bR,T.gL,rfl,pr,ps,_,_,rfl,rfl,hd,Ro hs,_,rfl,?_⟩
 rcases zJ b0 o W i st with ⟨v,ev,e⟩|⟨ev,e⟩
 . rw [ev]
   rw [e] at q
   exact j9 ⟨_,rfl,a,_,dx,_,_,rfl,ha,T.bR,T.gL,rfl,_,rfl,pr,ps,_,_,_,rfl,rfl,hd,Ro hs,ev,q H (av.refl _)⟩
 . rw [ev]
   rw [e] at q
   exact gw ⟨_,rfl,a,_,dx,_,_,rfl,ha,T.bR,T.bz,rfl,rfl,_,rfl,lR nofun ⟨_,rfl,a,_,dx,_,_,rfl,ha,T.bR,T.bz,rfl,C,b,JJ,fs,_,CQ,rfl,h1,h2.2.2.1,h3,h6,_,rfl,_,rfl,Km (av.refl _) hi hs hn q⟩⟩
theorem nj (T:Txt K mg Ad) {k:Nat}:bD P w K mg base Ad.Table "after" (k+1) ["self","mind","state"] [] (Cm P w K mg base Ad.Keeper Ad.Table k λ _ _ F i _=>F i):=by
 refine T.qm.bS oM λ f aP A outer s H vs Q E hr h=>?_
 obtain ⟨a,n,o,m,sz,W,F,i,ps,st,rfl,⟨dx,pr,b,b0,ha,hd,kx⟩,hi,hs,hn,q⟩:=h
 refine ⟨_,(am (ax (f7 (aJ lW (bn (pv 0) rfl) iM (aK _)) ag (bP (P:=P) (w:=w) (K:=K) (mg:=mg) (base:=base) (k:=k) ⟨rfl,rfl,rfl,rfl,rfl⟩ (bn (pv 0) rfl) hr (aa (pv 1) (aa (pv 2) ah)))))),?_⟩
 try dsimp only [fj,aX]
 obtain ⟨C,JJ,fs,uk,uP,CQ,AX,h1,h2,h3,h4,h5,h6,h7,h8,h9,Km,h11,_⟩:=kx.ex
 exact ⟨_,rfl,a,_,dx,_,_,rfl,ha,T.bR,T.bz,rfl,rfl,_,rfl,lR nofun ⟨_,rfl,a,_,dx,_,_,rfl,ha,T.bR,T.bz,rfl,C,b,JJ,fs,_,AX,rfl,h1,h2.2.2.2,h3,h7,_,rfl,_,rfl,h11 (av.refl _) hi hs hn q⟩⟩
theorem kN (T:Txt K mg Ad) {H:Hp} {a:Addr} {n m sz k:Nat} {o:Option (eP×Nat)} {W:Nat->eP->Nat} {F:Nat->Nat} (h:JF P w K mg base Ad.Keeper Ad.Table n H a o m sz W F k) (hs:sz<=15):KA P w K mg base Ad.Keeper n H a m (1+sz) (De o W) F (k+1):=by
 obtain ⟨dx,pr,b,b0,h1,h2,h3⟩:=h.ex
 exact ⟨⟨_,dx,_,_,_,_,_,h1,⟨rfl,rfl,rfl,rfl⟩,T.bR,iD T,ja T,oH T,nj T,λ q k'=>⟨a,n,o,m,sz,W,F,rfl,h.same q,k'⟩,λ q k'=>⟨a,n,o,m,sz,W,F,rfl,h.same q,k'⟩,
   λ q hi i5 hn k'=>⟨a,n,o,m,sz,W,F,_,_,_,rfl,h.same q,hi,i5,hn,k'⟩,λ q hi i5 hn k'=>⟨a,n,o,m,sz,W,F,_,_,_,rfl,h.same q,hi,i5,hn,k'⟩,
   .ins h1 T.bR T.vI T.dg T.bN T.uK,λ q => .ins (q _ _ h1) T.bR T.vI T.dg T.bN T.uK,T.Bc⟩,h3.n4,h3.m1,h3.hm,by lia,h3.fl⟩
structure PD where
 m1:Nat
 s1:Nat
 W1:Nat->eP->Nat
 F1:Nat->Nat
 m2:Nat
 s2:Nat
 W2:Nat->eP->Nat
 F2:Nat->Nat
def HN (way:Nat) (d:PD) (r:Nat) (bd:Int) (i:Nat) (s:eP):Nat:=ND.mix way (d.W1 (i / d.m2) s) (d.W2 (i % d.m2) s) (decide (s.bs.getD r 0<bd))
def HZ (P:Program) (w:World) (K:W.Frag) (mg:Str->Option Value) (base:Heap) (CK C:Addr) (n:Nat) (H:Hp) (a:Addr) (d:PD) (ex:List (Str×V)) (k:Nat):Prop:=PCl K C/\(ex.lookup ("minds" : Str)=none/\ex.lookup ("size" : Str)=none/\ex.lookup ("wish" : Str)=none/\ex.lookup ("after" : Str)=none/\ex.lookup ("wish_of_one" : Str)=none/\ex.lookup ("wish_of_other" : Str)=none)/\∃ dx b c,H a=some (.ins C dx (("one",.ref b)::("other",.ref c)::ex))/\KA P w K mg base CK n H b d.m1 d.s1 d.W1 d.F1 k/\KA P w K mg base CK n H c d.m2 d.s2 d.W2 d.F2 k
theorem HZ.same {C a:Addr} {n k:Nat} {H H':Hp} {d:PD} {ex:List (Str×V)} (h:HZ P w K mg base Ad.Keeper C n H a d ex k) (q:av H H'):HZ P w K mg base Ad.Keeper C n H' a d ex k:=by
 obtain ⟨pc,e,dx,b,c,h1,h2,h3⟩:=h
 exact ⟨pc,e,dx,b,c,q _ _ h1,h2.same q,h3.same q⟩
inductive sy (P:Program) (w:World) (K:W.Frag) (mg:Str->Option Value) (base:Heap) (CK:Addr) (k:Nat) (f:PD->Nat) (vs:List V) (H:Hp) (Q:VK) (_E:XK):Prop
 | mk (C a n d ex:_) (_:vs=[.ref a]) (_:HZ P w K mg base CK C n H a d ex k) (_:∀ H',av H H'->Q (ao (f d)) H')
inductive lU (P:Program) (w:World) (K:W.Frag) (mg:Str->Option Value) (base:Heap) (CK:Addr) (k:Nat) (f:PD->Nat->eP->Nat) (vs:List V) (H:Hp) (Q:VK) (_E:XK):Prop
 | mk (C a n d ex:_) (i:Nat) (ps s:_) (_:vs=[.ref a,ao i,.ref ps]) (_:HZ P w K mg base CK C n H a d ex k) (_:i<d.m1 * d.m2) (_:tL H ps s) (_:Sz n s) (_:∀ H',av H H'->Q (ao (f d i s)) H')
theorem fo (T:Txt K mg Ad) {k:Nat} {f:Addr} {fd:FuncData} (F:gx K "minds" "Pair.minds" be .none f fd):dn P w K mg base l6 (k+1) f fd ["self"] (sy P w K mg base Ad.Keeper k λ d=>d.m1 * d.m2):=by
 refine F.ok ql (λ vs H Q E h=>?_) (λ aP A outer s H vs Q E hr h=>?_)
 . obtain ⟨C,a,n,d,ex,rfl,_⟩:=h
   rfl
 .
  obtain ⟨C,a,n,d,ex,rfl,⟨pc,e0,dx,b,c,ha,hb,hc⟩,q⟩:=h
  refine ⟨_,(am (ax (az eN (bv (P:=P) (w:=w) (K:=K) (mg:=mg) (base:=base) (k:=k) ⟨rfl,rfl,rfl,rfl,rfl⟩ (bn (pv 0) rfl) hr) (bv (P:=P) (w:=w) (K:=K) (mg:=mg) (base:=base) (k:=k) ⟨rfl,rfl,rfl,rfl,rfl⟩ (bn (pv 0) rfl) hr)))),?_⟩
  try dsimp only [fj,aX]
  obtain ⟨C1,d1,f1,nW,qA,sr,sx,b1,b2,b3,b4,b5,b6,b7,b8,b9,rG,sv,_⟩:=hb.ex
  obtain ⟨C2,d2,f2,Ab,JD,JP,EM,c1,c2,c3,c4,c5,c6,c7,c8,c9,En,DU,_⟩:=hc.ex
  refine ⟨_,rfl,a,_,dx,_,_,rfl,ha,pc.cl,pc.n1,rfl,C1,b,d1,f1,_,nW,rfl,b1,b2.1,b3,b4,b8 (av.refl _) λ H1 S1=>?_⟩
  refine ⟨_,rfl,a,_,dx,_,_,rfl,S1 _ _ ha,pc.cl,pc.n2,rfl,C2,c,d2,f2,_,Ab,rfl,S1 _ _ c1,c2.1,c3,c4,c8 S1 λ H2 S2=>?_⟩
  have:=hb.hm
  have:=hc.hm
  refine ⟨_,_,rfl,rfl,⟨12,12,(show Int.natAbs _<2 ^ 12 by lia),(show Int.natAbs _<2 ^ 12 by lia),by decide⟩,λ r er=>?_⟩
  have e:r=((d.m1 * d.m2:Nat):Int):=by rw [er];push_cast;rfl
  rw [e]
  exact q H2 (S1.trans S2)
theorem fN (T:Txt K mg Ad) {k:Nat} {f:Addr} {fd:FuncData} (F:gx K "size" "Pair.size" bp .none f fd):dn P w K mg base l6 (k+1) f fd ["self"] (sy P w K mg base Ad.Keeper k λ d=>1+d.s1+d.s2):=by
 refine F.ok tw (λ vs H Q E h=>?_) (λ aP A outer s H vs Q E hr h=>?_)
 . obtain ⟨C,a,n,d,ex,rfl,_⟩:=h
   rfl
 .
  obtain ⟨C,a,n,d,ex,rfl,⟨pc,e0,dx,b,c,ha,hb,hc⟩,q⟩:=h
  refine ⟨_,(am (ax (az bg (az bg ag (bv (P:=P) (w:=w) (K:=K) (mg:=mg) (base:=base) (k:=k) ⟨rfl,rfl,rfl,rfl,rfl⟩ (bn (pv 0) rfl) hr)) (bv (P:=P) (w:=w) (K:=K) (mg:=mg) (base:=base) (k:=k) ⟨rfl,rfl,rfl,rfl,rfl⟩ (bn (pv 0) rfl) hr)))),?_⟩
  try dsimp only [fj,aX]
  obtain ⟨C1,d1,f1,nW,qA,sr,sx,b1,b2,b3,b4,b5,b6,b7,b8,b9,rG,sv,_⟩:=hb.ex
  obtain ⟨C2,d2,f2,Ab,JD,JP,EM,c1,c2,c3,c4,c5,c6,c7,c8,c9,En,DU,_⟩:=hc.ex
  refine ⟨_,rfl,a,_,dx,_,_,rfl,ha,pc.cl,pc.n1,rfl,C1,b,d1,f1,_,qA,rfl,b1,b2.2.1,b3,b5,b9 (av.refl _) λ H1 S1=>⟨_,_,rfl,rfl,λ y' ey=>?_⟩⟩
  refine ⟨_,rfl,a,_,dx,_,_,rfl,S1 _ _ ha,pc.cl,pc.n2,rfl,C2,c,d2,f2,_,JD,rfl,S1 _ _ c1,c2.2.1,c3,c5,c9 S1 λ H2 S2=>⟨_,_,rfl,rfl,λ z ez=>?_⟩⟩
  have e:z=((1+d.s1+d.s2:Nat):Int):=by rw [ez,ey];push_cast;rfl
  rw [e]
  exact q H2 (S1.trans S2)
theorem cA (T:Txt K mg Ad) {k:Nat} {f:Addr} {fd:FuncData} (F:gx K "wish_of_one" "Pair.wish_of_one" aH .none f fd):dn P w K mg base l6 (k+1) f fd ["self","mind","state"] (lU P w K mg base Ad.Keeper k λ d i s=>d.W1 (i / d.m2) s):=by
 refine F.ok jF (λ vs H Q E h=>?_) (λ aP A outer s H vs Q E hr h=>?_)
 . obtain ⟨C,a,n,d,ex,i,ps,s,rfl,_⟩:=h
   rfl
 .
  obtain ⟨C,a,n,d,ex,i,ps,st,rfl,⟨pc,e0,dx,b,c,ha,hb,hc⟩,hi,hs,hn,q⟩:=h
  refine ⟨_,(am (ax (bP (P:=P) (w:=w) (K:=K) (mg:=mg) (base:=base) (k:=k) ⟨rfl,rfl,rfl,rfl,rfl⟩ (bn (pv 0) rfl) hr (aa (az bE (pv 1) (bv (P:=P) (w:=w) (K:=K) (mg:=mg) (base:=base) (k:=k) ⟨rfl,rfl,rfl,rfl,rfl⟩ (bn (pv 0) rfl) hr)) (aa (pv 2) ah))))),?_⟩
  try dsimp only [fj,aX]
  obtain ⟨C1,d1,f1,nW,qA,sr,sx,b1,b2,b3,b4,b5,b6,b7,b8,b9,rG,sv,_⟩:=hb.ex
  obtain ⟨C2,d2,f2,Ab,JD,JP,EM,c1,c2,c3,c4,c5,c6,c7,c8,c9,En,DU,_⟩:=hc.ex
  have:=hc.hm
  have py:=hc.m1
  refine ⟨_,rfl,a,_,dx,_,_,rfl,ha,pc.cl,pc.n1,rfl,C1,b,d1,f1,_,sr,rfl,b1,b2.2.2.1,b3,b6,?_⟩
  refine ⟨_,rfl,_,rfl,a,_,dx,_,_,rfl,ha,pc.cl,pc.n2,rfl,C2,c,d2,f2,_,Ab,rfl,c1,c2.1,c3,c4,c8 (av.refl _) λ H1 S1=>?_⟩
  refine ⟨_,_,rfl,rfl,⟨by lia,(show Int.natAbs _<2 ^ 8999 from aav (show Int.natAbs _<2 ^ 12 by lia) (afd (by decide) (by decide)))⟩,λ q' eq=>?_⟩
  have e:q'=((i / d.m2:Nat):Int):=by rw [eq,agx _ (by lia)];push_cast;rfl
  rw [e]
  exact ⟨_,rfl,rG S1 (amd (by rw [alT];exact hi)) (hs.same S1) hn λ H2 S2=>q H2 (S1.trans S2)⟩
theorem ci (T:Txt K mg Ad) {k:Nat} {f:Addr} {fd:FuncData} (F:gx K "wish_of_other" "Pair.wish_of_other" aF .none f fd):dn P w K mg base l6 (k+1) f fd ["self","mind","state"] (lU P w K mg base Ad.Keeper k λ d i s=>d.W2 (i % d.m2) s):=by
 refine F.ok iF (λ vs H Q E h=>?_) (λ aP A outer s H vs Q E hr h=>?_)
 . obtain ⟨C,a,n,d,ex,i,ps,s,rfl,_⟩:=h
   rfl
 .
  obtain ⟨C,a,n,d,ex,i,ps,st,rfl,⟨pc,e0,dx,b,c,ha,hb,hc⟩,hi,hs,hn,q⟩:=h
  refine ⟨_,(am (ax (bP (P:=P) (w:=w) (K:=K) (mg:=mg) (base:=base) (k:=k) ⟨rfl,rfl,rfl,rfl,rfl⟩ (bn (pv 0) rfl) hr (aa (az aS (pv 1) (bv (P:=P) (w:=w) (K:=K) (mg:=mg) (base:=base) (k:=k) ⟨rfl,rfl,rfl,rfl,rfl⟩ (bn (pv 0) rfl) hr)) (aa (pv 2) ah))))),?_⟩
  try dsimp only [fj,aX]
  obtain ⟨C2,d2,f2,Ab,JD,JP,EM,c1,c2,c3,c4,c5,c6,c7,c8,c9,En,DU,_⟩:=hc.ex
  have:=hc.hm
  have py:=hc.m1
  refine ⟨_,rfl,a,_,dx,_,_,rfl,ha,pc.cl,pc.n2,rfl,C2,c,d2,f2,_,JP,rfl,c1,c2.2.2.1,c3,c6,?_⟩
  refine ⟨_,rfl,_,rfl,a,_,dx,_,_,rfl,ha,pc.cl,pc.n2,rfl,C2,c,d2,f2,_,Ab,rfl,c1,c2.1,c3,c4,c8 (av.refl _) λ H1 S1=>?_⟩
  refine ⟨_,_,rfl,rfl,by lia,λ q' q0 q1 eq=>?_⟩
  have e:q'=((i % d.m2:Nat):Int):=by rw [eq];push_cast;rfl
  rw [e]
  exact ⟨_,rfl,En S1 (amt _ py) (hs.same S1) hn λ H2 S2=>q H2 (S1.trans S2)⟩
theorem ff (T:Txt K mg Ad) {k:Nat} {f:Addr} {fd:FuncData} (F:gx K "after" "Pair.after" bc .none f fd):dn P w K mg base l6 (k+1) f fd ["self","mind","state"] (lU P w K mg base Ad.Keeper k λ d i _=>d.F1 (i / d.m2) * d.m2+d.F2 (i % d.m2)):=by
 refine F.ok gP (λ vs H Q E h=>?_) (λ aP A outer s H vs Q E hr h=>?_)
 . obtain ⟨C,a,n,d,ex,i,ps,s,rfl,_⟩:=h
   rfl
 .
  obtain ⟨C,a,n,d,ex,i,ps,st,rfl,px,hi,hs,hn,q⟩:=h
  obtain ⟨pc,e0,dx,b,c,ha,hb,hc⟩:=id px
  refine ⟨_,(ak (gT (aZ sL (by rfl) T.AD zT (aa (pv 1) (aa (bv (P:=P) (w:=w) (K:=K) (mg:=mg) (base:=base) (k:=k) ⟨rfl,rfl,rfl,rfl,rfl⟩ (bn (pv 0) rfl) hr) ah))) (bW (K:=K) (n:=2) rfl rfl (aE (aA (i:=3) gP.nd rfl (lc rfl)) (aE (aA (i:=4) gP.nd rfl (lc rfl)) bU))))
    (am (ax (az bg (az eN (bP (P:=P) (w:=w) (K:=K) (mg:=mg) (base:=base) (k:=k) ⟨rfl,rfl,rfl,rfl,rfl⟩ (bn (pv 0) rfl) hr (aa (pv 3) (aa (pv 2) ah))) (bv (P:=P) (w:=w) (K:=K) (mg:=mg) (base:=base) (k:=k) ⟨rfl,rfl,rfl,rfl,rfl⟩ (bn (pv 0) rfl) hr)) (bP (P:=P) (w:=w) (K:=K) (mg:=mg) (base:=base) (k:=k) ⟨rfl,rfl,rfl,rfl,rfl⟩ (bn (pv 0) rfl) hr (aa (pv 4) (aa (pv 2) ah))))))),?_⟩
  try dsimp only [fj,aX]
  obtain ⟨C1,d1,f1,nW,qA,sr,sx,b1,b2,b3,b4,b5,b6,b7,b8,b9,rG,sv,_⟩:=hb.ex
  obtain ⟨C2,d2,f2,Ab,JD,JP,EM,c1,c2,c3,c4,c5,c6,c7,c8,c9,En,DU,_⟩:=hc.ex
  have:=hc.hm
  have:=hb.hm
  have py:=hc.m1
  have di:i / d.m2<d.m1:=amd (by rw [alT];exact hi)
  have mi:i % d.m2<d.m2:=amt _ py
  have ab4:∀ {z:Int},0<=z->z<=4000->Bd 8999 z:=λ h0 h1=>aav (show Int.natAbs _<2 ^ 12 by lia) (afd (by decide) (by decide))
  refine ⟨_,rfl,_,rfl,a,_,dx,_,_,rfl,ha,pc.cl,pc.n2,rfl,C2,c,d2,f2,_,Ab,rfl,c1,c2.1,c3,c4,c8 (av.refl _) λ H0 S0=>⟨_,_,rfl,by lia,ab4 (by lia) (by lia),λ pq rW=>?_⟩⟩
  have e1:((i:Int)).fdiv (d.m2:Int)=((i / d.m2:Nat):Int):=by rw [agx _ (by lia)];push_cast;rfl
  have e2:((i:Int)).fmod (d.m2:Int)=((i % d.m2:Nat):Int):=by rw [amI _ (by lia)];push_cast;rfl
  rw [e1,e2]
  have S:=al (o:=.tup [.int ((i / d.m2:Nat):Int),.int ((i % d.m2:Nat):Int)]) rW
  have kq:(upd H0 pq (.tup [ao (i / d.m2),ao (i % d.m2)])) pq=some (.tup [ao (i / d.m2),ao (i % d.m2)]):=ac
  refine ⟨pq,_,rfl,bQ.of kq,rfl,_,_,rfl,_,_,rfl,rfl,?_⟩
  have S:=S0.trans S
  generalize upd H0 pq (.tup [.int ((i / d.m2:Nat):Int),.int ((i % d.m2:Nat):Int)])=H1 at S ⊢
  refine ⟨_,rfl,a,_,dx,_,_,rfl,S _ _ ha,pc.cl,pc.n1,rfl,C1,b,d1,f1,_,sx,rfl,S _ _ b1,b2.2.2.2,b3,b7,_,rfl,_,rfl,sv S di (hs.same S) hn λ H2 S2=>?_⟩
  have S2:=S.trans S2
  refine ⟨_,rfl,a,_,dx,_,_,rfl,S2 _ _ ha,pc.cl,pc.n2,rfl,C2,c,d2,f2,_,Ab,rfl,S2 _ _ c1,c2.1,c3,c4,c8 S2 λ H2' S2'=>?_⟩
  have S2:=S2.trans S2'
  have lt1:=hb.fl _ di
  refine ⟨_,_,rfl,rfl,⟨12,12,(show Int.natAbs _<2 ^ 12 by lia),(show Int.natAbs _<2 ^ 12 by lia),by decide⟩,λ y' ey=>?_⟩
  refine ⟨_,rfl,a,_,dx,_,_,rfl,S2 _ _ ha,pc.cl,pc.n2,rfl,C2,c,d2,f2,_,EM,rfl,S2 _ _ c1,c2.2.2.2,c3,c7,_,rfl,_,rfl,DU S2 mi (hs.same S2) hn λ H3 S3=>⟨_,_,rfl,rfl,λ z ez=>?_⟩⟩
  have e:z=((d.F1 (i / d.m2) * d.m2+d.F2 (i % d.m2):Nat):Int):=by rw [ez,ey];push_cast;rfl
  rw [e]
  exact q H3 (S2.trans S3)
structure Kh (P:Program) (w:World) (K:W.Frag) (mg:Str->Option Value) (base:Heap) (CK C:Addr):Prop where
 pc:PCl K C
 mi:∀ k,bD P w K mg base C "minds" (k+1) ["self"] [] (sy P w K mg base CK k λ d=>d.m1 * d.m2)
 si:∀ k,bD P w K mg base C "size" (k+1) ["self"] [] (sy P w K mg base CK k λ d=>1+d.s1+d.s2)
 on:∀ k,bD P w K mg base C "wish_of_one" (k+1) ["self","mind","state"] [] (lU P w K mg base CK k λ d i s=>d.W1 (i / d.m2) s)
 ot:∀ k,bD P w K mg base C "wish_of_other" (k+1) ["self","mind","state"] [] (lU P w K mg base CK k λ d i s=>d.W2 (i % d.m2) s)
 af:∀ k,bD P w K mg base C "after" (k+1) ["self","mind","state"] [] (lU P w K mg base CK k λ d i _=>d.F1 (i / d.m2) * d.m2+d.F2 (i % d.m2))
theorem GG {m qual:Str} {st:Stmt} (h:∀ (kV doc pm:Value) (an:Option Addr) (aP ct u:Value),bindArgs (W.fnOf m qual (aY st) (aI st) (ai st) .none kV doc pm an aP ct) ⟨[u],[]⟩=pure ((["self"]:List Str).zip [u])) (kV doc pm:Value) (an:Option Addr) (aP ct:Value) (us:List Value) (hl:us.length=(["self"]:List Str).length) :
   bindArgs (W.fnOf m qual (aY st) (aI st) (ai st) .none kV doc pm an aP ct) ⟨us,[]⟩=pure ((["self"]:List Str).zip us):=match us,hl with | [u],_=>h kV doc pm an aP ct u
theorem Af {m qual:Str} {st:Stmt} (h:∀ (kV doc pm:Value) (an:Option Addr) (aP ct u v z:Value),bindArgs (W.fnOf m qual (aY st) (aI st) (ai st) .none kV doc pm an aP ct) ⟨[u,v,z],[]⟩=pure ((["self","mind","state"]:List Str).zip [u,v,z])) (kV doc pm:Value) (an:Option Addr) (aP ct:Value) (us:List Value) (hl:us.length=(["self","mind","state"]:List Str).length) :
   bindArgs (W.fnOf m qual (aY st) (aI st) (ai st) .none kV doc pm an aP ct) ⟨us,[]⟩=pure ((["self","mind","state"]:List Str).zip us):=match us,hl with | [u,v,z],_=>h kV doc pm an aP ct u v z
theorem ya (T:Txt K mg Ad):Kh P w K mg base Ad.Keeper Ad.Pair:=⟨⟨T.xY,T.vV,T.rp⟩,λ _=>T.tI.of (GG λ _ _ _ _ _ _ _=>rfl) λ _ _ F=>fo T F,λ _=>T.vT.of (GG λ _ _ _ _ _ _ _=>rfl) λ _ _ F=>fN T F,λ _=>T.j2.of (Af λ _ _ _ _ _ _ _ _ _=>rfl) λ _ _ F=>cA T F,λ _=>T.je.of (Af λ _ _ _ _ _ _ _ _ _=>rfl) λ _ _ F=>ci T F,λ _=>T.sw.of (Af λ _ _ _ _ _ _ _ _ _=>rfl) λ _ _ F=>ff T F⟩
theorem jx (T:Txt K mg Ad):Kh P w K mg base Ad.Keeper Ad.cm:=⟨⟨T.rZ,T.qu,T.nc⟩,λ _=>T.oR.of (GG λ _ _ _ _ _ _ _=>rfl) λ _ _ F=>fo T F,λ _=>T.qY.of (GG λ _ _ _ _ _ _ _=>rfl) λ _ _ F=>fN T F,λ _=>T.iO.of (Af λ _ _ _ _ _ _ _ _ _=>rfl) λ _ _ F=>cA T F,λ _=>T.ib.of (Af λ _ _ _ _ _ _ _ _ _=>rfl) λ _ _ F=>ci T F,λ _=>T.p4.of (Af λ _ _ _ _ _ _ _ _ _=>rfl) λ _ _ F=>ff T F⟩
theorem i6 (T:Txt K mg Ad):Kh P w K mg base Ad.Keeper Ad.bw:=⟨⟨T.mz,T.m3,T.kO⟩,λ _=>T.lP.of (GG λ _ _ _ _ _ _ _=>rfl) λ _ _ F=>fo T F,λ _=>T.nl.of (GG λ _ _ _ _ _ _ _=>rfl) λ _ _ F=>fN T F,λ _=>T.hW.of (Af λ _ _ _ _ _ _ _ _ _=>rfl) λ _ _ F=>cA T F,λ _=>T.gQ.of (Af λ _ _ _ _ _ _ _ _ _=>rfl) λ _ _ F=>ci T F,λ _=>T.lE.of (Af λ _ _ _ _ _ _ _ _ _=>rfl) λ _ _ F=>ff T F⟩
theorem kL (T:Txt K mg Ad):Kh P w K mg base Ad.Keeper Ad.Below:=⟨⟨T.gX,T.t4,T.oN⟩,λ _=>T.qG.of (GG λ _ _ _ _ _ _ _=>rfl) λ _ _ F=>fo T F,λ _=>T.tZ.of (GG λ _ _ _ _ _ _ _=>rfl) λ _ _ F=>fN T F,λ _=>T.jL.of (Af λ _ _ _ _ _ _ _ _ _=>rfl) λ _ _ F=>cA T F,λ _=>T.iH.of (Af λ _ _ _ _ _ _ _ _ _=>rfl) λ _ _ F=>ci T F,λ _=>T.qx.of (Af λ _ _ _ _ _ _ _ _ _=>rfl) λ _ _ F=>ff T F⟩
inductive oZ (P:Program) (w:World) (K:W.Frag) (mg:Str->Option Value) (base:Heap) (CK C:Addr) (way k:Nat) (vs:List V) (H:Hp) (Q:VK) (_E:XK):Prop
 | mk (a n d:_) (r i:Nat) (bd ps s:_) (_:vs=[.ref a,ao i,.ref ps]) (_:HZ P w K mg base CK C n H a d (if way=4 then [("room",ao r),("band",.int bd)] else []) k) (_:i<d.m1 * d.m2) (_:r<n) (_:tL H ps s) (_:Sz n s) (_:∀ H',av H H'->Q (ao (HN way d r bd i s)) H')
theorem qk (T:Txt K mg Ad) {k:Nat}:bD P w K mg base Ad.Pair "wish" (k+2) ["self","mind","state"] [] (oZ P w K mg base Ad.Keeper Ad.Pair 1 k):=by
 refine T.vn.bS tT λ f aP A outer s H vs Q E hr h=>?_
 obtain ⟨a,n,d,r,i,bd,ps,st,rfl,px,hi,AR,hs,hn,q⟩:=h
 refine ⟨_,(am (ax (bP (P:=P) (w:=w) (K:=K) (mg:=mg) (base:=base) (k:=(k+1)) ⟨rfl,rfl,rfl,rfl,rfl⟩ (pv 0) hr (aa (pv 1) (aa (pv 2) ah))))),?_⟩
 try dsimp only [fj,aX]
 obtain ⟨pc,e0,dx,b,c,ha,hb,hc⟩:=id px
 exact ⟨_,rfl,_,a,dx,_,_,_,rfl,ha,e0.2.2.2.2.1,pc.cl,(ya T).on k,_,rfl,_,rfl,_,a,n,d,_,i,ps,st,rfl,px,hi,hs,hn,q⟩
theorem mV (T:Txt K mg Ad) {k:Nat}:bD P w K mg base Ad.cm "wish" (k+2) ["self","mind","state"] [] (oZ P w K mg base Ad.Keeper Ad.cm 2 k):=by
 refine T.qU.bS pH λ f aP A outer s H vs Q E hr h=>?_
 obtain ⟨a,n,d,r,i,bd,ps,st,rfl,px,hi,AR,hs,hn,q⟩:=h
 refine ⟨_,(am (ax (az sE (bP (P:=P) (w:=w) (K:=K) (mg:=mg) (base:=base) (k:=(k+1)) ⟨rfl,rfl,rfl,rfl,rfl⟩ (pv 0) hr (aa (pv 1) (aa (pv 2) ah))) (bP (P:=P) (w:=w) (K:=K) (mg:=mg) (base:=base) (k:=(k+1)) ⟨rfl,rfl,rfl,rfl,rfl⟩ (pv 0) hr (aa (pv 1) (aa (pv 2) ah)))))),?_⟩
 try dsimp only [fj,aX]
 obtain ⟨pc,e0,dx,b,c,ha,hb,hc⟩:=id px
 refine ⟨_,rfl,_,a,dx,_,_,_,rfl,ha,e0.2.2.2.2.1,pc.cl,(jx T).on k,_,rfl,_,rfl,_,a,n,d,_,i,ps,st,rfl,px,hi,hs,hn,λ H1 S1=>?_⟩
 refine ⟨_,rfl,_,a,dx,_,_,_,rfl,S1 _ _ ha,e0.2.2.2.2.2,pc.cl,(jx T).ot k,_,rfl,_,rfl,_,a,n,d,_,i,ps,st,rfl,px.same S1,hi,hs.same S1,hn,λ H2 S2=>⟨_,_,rfl,rfl,λ z ez=>?_⟩⟩
 rw [ez,jp]
 exact q H2 (S1.trans S2)
theorem kE (T:Txt K mg Ad) {k:Nat}:bD P w K mg base Ad.bw "wish" (k+2) ["self","mind","state"] [] (oZ P w K mg base Ad.Keeper Ad.bw 3 k):=by
 refine T.nA.bS lI λ f aP A outer s H vs Q E hr h=>?_
 obtain ⟨a,n,d,r,i,bd,ps,st,rfl,px,hi,AR,hs,hn,q⟩:=h
 refine ⟨_,(am (ax (az yu (bP (P:=P) (w:=w) (K:=K) (mg:=mg) (base:=base) (k:=(k+1)) ⟨rfl,rfl,rfl,rfl,rfl⟩ (pv 0) hr (aa (pv 1) (aa (pv 2) ah))) (bP (P:=P) (w:=w) (K:=K) (mg:=mg) (base:=base) (k:=(k+1)) ⟨rfl,rfl,rfl,rfl,rfl⟩ (pv 0) hr (aa (pv 1) (aa (pv 2) ah)))))),?_⟩
 try dsimp only [fj,aX]
 obtain ⟨pc,e0,dx,b,c,ha,hb,hc⟩:=id px
 refine ⟨_,rfl,_,a,dx,_,_,_,rfl,ha,e0.2.2.2.2.1,pc.cl,(i6 T).on k,_,rfl,_,rfl,_,a,n,d,_,i,ps,st,rfl,px,hi,hs,hn,λ H1 S1=>?_⟩
 refine ⟨_,rfl,_,a,dx,_,_,_,rfl,S1 _ _ ha,e0.2.2.2.2.2,pc.cl,(i6 T).ot k,_,rfl,_,rfl,_,a,n,d,_,i,ps,st,rfl,px.same S1,hi,hs.same S1,hn,λ H2 S2=>⟨_,_,rfl,rfl,λ z ez=>?_⟩⟩
 rw [ez,pi]
 exact q H2 (S1.trans S2)
theorem oO (T:Txt K mg Ad) {k:Nat}:bD P w K mg base Ad.Below "wish" (k+2) ["self","mind","state"] [] (oZ P w K mg base Ad.Keeper Ad.Below 4 k):=by
 refine T.sS.bS qW λ f aP A outer s H vs Q E hr h=>?_
 obtain ⟨a,n,d,r,i,bd,ps,st,rfl,px,hi,AR,hs,hn,q⟩:=h
 refine ⟨_,(ak (bx (aJ jP (aQ aO (aQ aO (pv 2) ag (λ _ _=>rfl)) (bn (pv 0) rfl) (λ _ _=>rfl)) (bn (pv 0) rfl) (aK _)) (am (ax (bP (P:=P) (w:=w) (K:=K) (mg:=mg) (base:=base) (k:=(k+1)) ⟨rfl,rfl,rfl,rfl,rfl⟩ (pv 0) hr (aa (pv 1) (aa (pv 2) ah))))) aM)
     (am (ax (bP (P:=P) (w:=w) (K:=K) (mg:=mg) (base:=base) (k:=(k+1)) ⟨rfl,rfl,rfl,rfl,rfl⟩ (pv 0) hr (aa (pv 1) (aa (pv 2) ah)))))),?_⟩
 try dsimp only [fj,aX]
 obtain ⟨pc,e0,dx,b,c,ha,hb,hc⟩:=id px
 obtain ⟨pb,pw,pf,h1,h2,h3,h4⟩:=id hs
 refine ⟨_,rfl,ps,_,_,_,rfl,rfl,.inr (bQ.of h1),dy (j:=0) rfl,_,rfl,a,_,dx,_,_,rfl,ha,T.gX,T.jW,rfl,pb,_,_,_,rfl,rfl,.inr (bQ.of h2),lZ hn.1 AR,_,rfl,a,_,dx,_,_,rfl,ha,T.gX,T.jY,rfl,_,_,rfl,rfl,_,rfl,?_⟩
 refine dL (λ h=>?_) (λ h=>?_)
 .
  refine ⟨_,rfl,_,a,dx,_,_,_,rfl,ha,e0.2.2.2.2.1,pc.cl,(kL T).on k,_,rfl,_,rfl,_,a,n,d,_,i,ps,st,rfl,px,hi,hs,hn,λ H1 S1=>?_⟩
  have:=q H1 S1
  unfold HN ND.mix at this
  rw [adH (by decide),aeA rfl,ajv h] at this
  exact this
 .
  refine ⟨_,rfl,_,a,dx,_,_,_,rfl,ha,e0.2.2.2.2.2,pc.cl,(kL T).ot k,_,rfl,_,rfl,_,a,n,d,_,i,ps,st,rfl,px,hi,hs,hn,λ H1 S1=>?_⟩
  have:=q H1 S1
  unfold HN ND.mix at this
  rw [adH (by decide),aeA rfl,af6 h] at this
  exact this
structure JZ (P:Program) (w:World) (K:W.Frag) (mg:Str->Option Value) (base:Heap) (CK C:Addr) (way:Nat):Prop where
 pk:Kh P w K mg base CK C
 wi:∀ k,bD P w K mg base C "wish" (k+2) ["self","mind","state"] [] (oZ P w K mg base CK C way k)
 ty:∀ {H:Hp} {a dx:Addr} {fs},H a=some (.ins C dx fs)->jI K H (.ref a) (.ref C)
 kk:W.kitOne K (.ref C) (.ref CK)=some true
abbrev DR (way r:Nat) (bd:Int):List (Str×V):=if way=4 then [("room",ao r),("band",.int bd)] else []
theorem uW {way r:Nat} {bd:Int}:(DR way r bd).lookup ("minds" : Str)=none/\(DR way r bd).lookup ("size" : Str)=none/\(DR way r bd).lookup ("wish" : Str)=none/\(DR way r bd).lookup ("after" : Str)=none/\(DR way r bd).lookup ("wish_of_one" : Str)=none/\(DR way r bd).lookup ("wish_of_other" : Str)=none:=by
 unfold DR
 split<;>exact ⟨rfl,rfl,rfl,rfl,rfl,rfl⟩
def Tw (d:PD) (i:Nat):Nat:=d.F1 (i / d.m2) * d.m2+d.F2 (i % d.m2)
theorem ug {C:Addr} {way:Nat} (pk:JZ P w K mg base Ad.Keeper C way) {H:Hp} {a dx b c:Addr} {n k r:Nat} {bd:Int} {d:PD} (ha:H a=some (.ins C dx (("one",.ref b)::("other",.ref c)::DR way r bd))) (hb:KA P w K mg base Ad.Keeper n H b d.m1 d.s1 d.W1 d.F1 k) (hc:KA P w K mg base Ad.Keeper n H c d.m2 d.s2 d.W2 d.F2 k) (hr:r<n) (hm:d.m1 * d.m2<=4000) (hs:1+d.s1+d.s2<=100):KA P w K mg base Ad.Keeper n H a (d.m1 * d.m2) (1+d.s1+d.s2) (HN way d r bd) (Tw d) (k+2):=by
 have px:HZ P w K mg base Ad.Keeper C n H a d (DR way r bd) k:=⟨pk.pk.pc,uW,dx,b,c,ha,hb,hc⟩
 have e:=@uW way r bd
 refine ⟨⟨C,dx,_,_,_,_,_,ha,⟨e.1,e.2.1,e.2.2.1,e.2.2.2.1⟩,pk.pk.pc.cl,(pk.pk.mi k).mono (by lia),(pk.pk.si k).mono (by lia),pk.wi k,(pk.pk.af k).mono (by lia),λ q k'=>⟨C,a,n,d,_,rfl,px.same q,k'⟩,λ q k'=>⟨C,a,n,d,_,rfl,px.same q,k'⟩,
   λ q hi i5 hn k'=>⟨a,n,d,r,_,bd,_,_,rfl,px.same q,hi,hr,i5,hn,k'⟩,λ q hi i5 hn k'=>⟨C,a,n,d,_,_,_,_,rfl,px.same q,hi,i5,hn,k'⟩,pk.ty ha,λ q=>pk.ty (q _ _ ha),pk.kk⟩,hb.n4,Nat.mul_pos hb.m1 hc.m1,hm,hs,λ i hi=>?_⟩
 have pb:=hc.m1
 have h1:=hb.fl (i / d.m2) (amd (by rw [alT];exact hi))
 have h2:=hc.fl (i % d.m2) (amt _ pb)
 show d.F1 (i / d.m2) * d.m2+d.F2 (i % d.m2)<d.m1 * d.m2
 have:(d.F1 (i / d.m2)+1) * d.m2<=d.m1 * d.m2:=Nat.mul_le_mul_right _ h1
 rw [Nat.succ_mul] at this
 lia
theorem xE (T:Txt K mg Ad):JZ P w K mg base Ad.Keeper Ad.Pair 1:=⟨ya T,λ _=>qk T,λ h => .ins h T.xY T.FK T.dg T.bN T.Eo,T.EH⟩
theorem l5 (T:Txt K mg Ad):JZ P w K mg base Ad.Keeper Ad.cm 2:=⟨jx T,λ _=>mV T,λ h => .ins h T.rZ T.zx T.dg T.bN T.zN,T.zy⟩
theorem vM (T:Txt K mg Ad):JZ P w K mg base Ad.Keeper Ad.bw 3:=⟨i6 T,λ _=>kE T,λ h => .ins h T.mz T.uu T.dg T.bN T.vC,T.vB⟩
theorem AE (T:Txt K mg Ad):JZ P w K mg base Ad.Keeper Ad.Below 4:=⟨kL T,λ _=>oO T,λ h => .ins h T.gX T.B4 T.dg T.bN T.AT,T.BV⟩
inductive Bk (P:Program) (w:World) (K:W.Frag) (mg:Str->Option Value) (base:Heap) (N:Addr) (vs:List V) (H:Hp) (Q:VK) (E:XK):Prop
 | mk (a C dx fs uk uP:_) (m s:Nat) (_:vs=[.ref a]) (_:H a=some (.ins C dx fs)) (_:fs.lookup ("minds" : Str)=none) (_:fs.lookup ("size" : Str)=none) (_:qf K C) (_:bD P w K mg base C "minds" 37 ["self"] [] uk) (_:bD P w K mg base C "size" 37 ["self"] [] uP) (_:(∀ {Q:VK},(∀ H',av H H'->Q (ao m) H')->uk [.ref a] H Q E0)) (_:(∀ {H'} {Q:VK},av H H'->(∀ qi,av H' qi->Q (ao s) qi)->uP [.ref a] H' Q E0)) (_:(m<=60->s<=15->∀ H',av H H'->Q .dC H')) (_:(60<m∨15<s->∀ H',av H H'->E (.ref N) none H'))
theorem eV (T:Txt K mg Ad):CW P w K mg base "look_at_size" 38 ["keeper"] (Bk P w K mg base Ad.ba):=by
 refine T.o9.Tg nv (λ vs H Q E h=>?_) (λ _ _ _ _ _ _ us hl=>xF hl λ _=>rfl) (λ f _ _ _ s H vs Q E hr h=>?_)
 . obtain ⟨a,C,dx,fs,uk,uP,m,s,rfl,_⟩:=h
   rfl
 .
  obtain ⟨a,C,dx,fs,uk,uP,m,s,rfl,ha,e1,e2,cl,d1,d2,p1,p2,q1,q2⟩:=h
  refine ⟨_,(ak (bx (aJ kW (bv (P:=P) (w:=w) (K:=K) (mg:=mg) (base:=base) (k:=37) ⟨rfl,rfl,rfl,rfl,rfl⟩ (pv 0) hr) (oi rfl T.tH) (aK _)) (am (vo rfl amH T.jk T.rX (Dg λ _ _ _ z=>z) (aa AH ah))) aM)
    (am (bx (aJ kW (bv (P:=P) (w:=w) (K:=K) (mg:=mg) (base:=base) (k:=37) ⟨rfl,rfl,rfl,rfl,rfl⟩ (pv 0) hr) (oi rfl T.wb) (aK _)) (am (vo rfl amH T.jk T.rX (Dg λ _ _ _ z=>z) (aa AH ah))) aM))),?_⟩
  try dsimp only [fj,aX]
  refine ⟨_,rfl,C,a,dx,fs,_,uk,rfl,ha,e1,cl,d1,p1 λ H1 S1=>⟨_,_,rfl,rfl,_,rfl,dL (λ z=>?_) λ z=>?_⟩⟩
  . exact ⟨rD,q2 (.inl (by have z:(60:Int)<(m:Int):=z;lia)) H1 S1⟩
  .
   have z:¬ (60:Int)<(m:Int):=z
   refine ⟨_,rfl,C,a,dx,fs,_,uP,rfl,S1 _ _ ha,e2,cl,d2,p2 S1 λ H2 S2=>⟨_,_,rfl,rfl,_,rfl,dL (λ z2=>?_) λ z2=>?_⟩⟩
   . exact ⟨rD,q2 (.inr (by have z2:(15:Int)<(s:Int):=z2;lia)) H2 (S1.trans S2)⟩
   . have z2:¬ (15:Int)<(s:Int):=z2
     exact q1 (by lia) (by lia) H2 (S1.trans S2)
inductive ki (P:Program) (w:World) (K:W.Frag) (mg:Str->Option Value) (base:Heap) (CK N:Addr) (vs:List V) (H:Hp) (Q:VK) (E:XK):Prop
 | mk (C x dx b c n k:_) (d:PD) (_:vs=[.ref x,.ref b,.ref c]) (_:Kh P w K mg base CK C) (_:H x=some (.ins C dx [])) (_:(∃ H0,av H0 H/\H0 x=none/\KA P w K mg base CK n H0 b d.m1 d.s1 d.W1 d.F1 k/\KA P w K mg base CK n H0 c d.m2 d.s2 d.W2 d.F2 k)) (_:k<=35) (_:(d.m1 * d.m2<=60->1+d.s1+d.s2<=15->∀ H',(∀ b o,H b=some o->b≠x->H' b=some o)->H' x=some (.ins C dx [("one",.ref b),("other",.ref c)])->Q .dC H')) (_:(60<d.m1 * d.m2∨15<1+d.s1+d.s2->∀ H',(∀ b o,H b=some o->b≠x->H' b=some o)->E (.ref N) none H'))
theorem dz (T:Txt K mg Ad) {f:Addr} {fd:FuncData} (F:gx K "__init__" "Pair.__init__" aN .none f fd):dn P w K mg base (mZ P w) 39 f fd ["self","one","other"] (ki P w K mg base Ad.Keeper Ad.ba):=by
 refine F.Mv lN (λ vs H Q E h=>?_) (λ aP A outer s H vs Q E hr h=>?_)
 . obtain ⟨C,x,dx,b,c,n,k,d,rfl,_⟩:=h
   rfl
 .
  obtain ⟨C,x,dx,b,c,n,k,d,rfl,pk,hx,⟨H0,S0,f0,hb,hc⟩,k35,q1,q2⟩:=h
  refine ⟨_,(ak (gR (pv 0) (pv 1) rfl)
    (ak (gR (pv 0) (pv 2) rfl)
    (am (gE (oz (eV (K:=K) T) hr.m (dA λ _ _ _ z=>z) (aa (pv 0) ah)))))),?_⟩
  try dsimp only [fj,aX]
  first|(refine dM ?_;intro _ _ _ _)|skip
  have B0:sI K C x dx H H []:=.start hx
  refine ⟨_,rfl,_,rfl,x,_,dx,_,rfl,B0.at_,pk.pc.cl,pk.pc.n1,lt1000 rfl,?_⟩
  have B1:=B0.put (fs':=dE "one" (.ref b) [])
  refine ⟨_,rfl,_,rfl,x,_,dx,_,rfl,B1.at_,pk.pc.cl,pk.pc.n2,lt1000 rfl,?_⟩
  have B2:=B1.put (fs':=dE "other" (.ref c) (dE "one" (.ref b) []))
  generalize upd (upd H x (.ins C dx (dE "one" (.ref b) []))) x (.ins C dx (dE "other" (.ref c) (dE "one" (.ref b) [])))=H2 at B2 ⊢
  have S2:av H0 H2:=λ a o e=>B2.st a o (S0 _ _ e) (aB e f0)
  have px:HZ P w K mg base Ad.Keeper C n H2 x d [] k:=⟨pk.pc,⟨rfl,rfl,rfl,rfl,rfl,rfl⟩,dx,b,c,B2.at_,hb.same S2,hc.same S2⟩
  exact ⟨_,rfl,x,C,dx,_,_,_,d.m1 * d.m2,1+d.s1+d.s2,rfl,B2.at_,rfl,rfl,pk.pc.cl,(pk.mi k).mono (by lia),(pk.si k).mono (by lia),λ q'=>⟨C,x,n,d,[],rfl,px,q'⟩,λ S q'=>⟨C,x,n,d,[],rfl,px.same S,q'⟩,λ z1 z2 H3 S3=>q1 z1 z2 H3 (λ b o hb n=>S3 _ _ (B2.st b o hb n)) (S3 _ _ B2.at_),λ z H3 S3=>q2 z H3 λ b o hb n=>S3 _ _ (B2.st b o hb n)⟩
theorem gz (T:Txt K mg Ad):iA P w K mg base Ad.Pair "__init__" 39 ["self","one","other"] [] (ki P w K mg base Ad.Keeper Ad.ba):=T.nF.ofX (λ _ _ _ _ _ _ us hl=>rV hl λ _ _ _=>rfl) (λ _ _ F=>dz T F)
theorem dD (T:Txt K mg Ad):iA P w K mg base Ad.cm "__init__" 39 ["self","one","other"] [] (ki P w K mg base Ad.Keeper Ad.ba):=T.li.ofX (λ _ _ _ _ _ _ us hl=>rV hl λ _ _ _=>rfl) (λ _ _ F=>dz T F)
theorem iE (T:Txt K mg Ad):iA P w K mg base Ad.bw "__init__" 39 ["self","one","other"] [] (ki P w K mg base Ad.Keeper Ad.ba):=T.jJ.ofX (λ _ _ _ _ _ _ us hl=>rV hl λ _ _ _=>rfl) (λ _ _ F=>dz T F)
theorem j8 (T:Txt K mg Ad):Cs P w K mg base Ad.Pair "__init__" 39 ["self","one","other"] (ki P w K mg base Ad.Keeper Ad.ba):=CN T.mX (λ _ _ _ _ _ _ us hl=>rV hl λ _ _ _=>rfl) (λ _ _ F=>dz T F)
theorem jG (T:Txt K mg Ad):bD P w K mg base Ad.cm "__init__" 39 ["self","one","other"] [] (λ vs H Q _=>ki P w K mg base Ad.Keeper Ad.ba vs H Q E0):=(dD T).Jr
inductive CL (P:Program) (w:World) (K:W.Frag) (mg:Str->Option Value) (base:Heap) (CK C N:Addr) (vs:List V) (H:Hp) (Q:VK) (E:XK):Prop
 | mk (x dx b c n k:_) (d:PD) (r bd:Int) (_:vs=[.ref x,.int r,.int bd,.ref b,.ref c]) (_:H x=some (.ins C dx [])) (_:(∃ H0,av H0 H/\H0 x=none/\KA P w K mg base CK n H0 b d.m1 d.s1 d.W1 d.F1 k/\KA P w K mg base CK n H0 c d.m2 d.s2 d.W2 d.F2 k)) (_:k<=35) (_:(d.m1 * d.m2<=60->1+d.s1+d.s2<=15->∀ H',(∀ b o,H b=some o->b≠x->H' b=some o)->H' x=some (.ins C dx [("one",.ref b),("other",.ref c),("room",.int r),("band",.int bd)])->Q .dC H')) (_:(60<d.m1 * d.m2∨15<1+d.s1+d.s2->∀ H',(∀ b o,H b=some o->b≠x->H' b=some o)->E (.ref N) none H'))
theorem f9 (T:Txt K mg Ad):iA P w K mg base Ad.Below "__init__" 40 ["self","room","band","one","other"] [] (CL P w K mg base Ad.Keeper Ad.Below Ad.ba):=by
 refine T.lF.xM kJ (λ vs H Q E h=>?_) (λ _ _ _ _ _ _ us hl=>Bu hl λ _ _ _ _ _=>rfl) (λ f _ _ _ s H vs Q E hr h=>?_)
 . obtain ⟨x,dx,b,c,n,k,d,r,bd,rfl,_⟩:=h
   rfl
 .
  obtain ⟨x,dx,b,c,n,k,d,r,bd,rfl,hx,ik,k35,q1,q2⟩:=h
  refine ⟨_,(ak (gE (FM (j8 T) hr.m (dA λ _ _ _ z=>z) T.wI (aa (pv 0) (aa (pv 3) (aa (pv 4) ah)))))
    (ak (gR (pv 0) (pv 1) rfl)
    (am (gR (pv 0) (pv 2) rfl)))),?_⟩
  try dsimp only [fj,aX]
  first|(refine dM ?_;intro _ _ _ _)|skip
  refine ⟨_,rfl,_,rfl,_,rfl,Ad.Below,x,dx,b,c,n,k,d,rfl,kL T,hx,ik,k35,λ y1 y2 H1 st1 vf=>?_,q2⟩
  have B0:sI K Ad.Below x dx H1 H1 [("one",.ref b),("other",.ref c)]:=.start vf
  refine ⟨_,rfl,_,rfl,x,_,dx,_,rfl,B0.at_,T.gX,T.jW,lt1000 rfl,?_⟩
  have B1:=B0.put (fs':=dE "room" (.int r) [("one",.ref b),("other",.ref c)])
  refine ⟨_,rfl,_,rfl,x,_,dx,_,rfl,B1.at_,T.gX,T.jY,lt1000 rfl,?_⟩
  have B2:=B1.put (fs':=dE "band" (.int bd) (dE "room" (.int r) [("one",.ref b),("other",.ref c)]))
  exact q1 y1 y2 _ (λ b o hb n=>B2.st b o (st1 b o hb n) n) B2.at_
inductive wt (P:Program) (w:World) (K:W.Frag) (mg:Str->Option Value) (base:Heap) (CK C N:Addr) (vs:List V) (H:Hp) (Q:VK) (E:XK):Prop
 | mk (x dx p b b0 n k o m sz W F:_) (_:vs=[.ref x,.ref p,.ref b]) (_:H x=some (.ins C dx [])) (_:gu P w K H p (i8 b0 o)) (_:(∃ H0,av H0 H/\H0 x=none/\KA P w K mg base CK n H0 b m sz W F k)) (_:k<=36) (_:m<=60) (_:(1+sz<=15->∀ pr H',(∀ b o,H b=some o->b≠x->H' b=some o)->H' x=some (.ins C dx [("rows",.ref pr),("other",.ref b)])->H pr=none->gu P w K H' pr (i8 b0 o)->Q .dC H')) (_:(15<1+sz->∀ H',(∀ b o,H b=some o->b≠x->H' b=some o)->E (.ref N) none H'))
theorem Cz (b:Addr) (o:Option (eP×Nat)):(i8 b o).length<=1:=by
 cases o with
 | none=>exact afL _
 | some kv=>exact aau _
theorem lB (T:Txt K mg Ad):EI P w K mg base Ad.Table "__init__" "Table.__init__" bG (.ref Ad.eT) 39 ["self","rows","other"] (wt P w K mg base Ad.Keeper Ad.Table Ad.ba):=by
 refine T.l8.ahS kB (λ vs H Q E h=>?_) (λ f _ _ _ s H vs Q E hr h=>?_)
 . obtain ⟨x,dx,p,b,b0,n,k,o,m,sz,W,F,rfl,_⟩:=h
   rfl
 .
  obtain ⟨x,dx,p,b,b0,n,k,o,m,sz,W,F,rfl,hx,hp,⟨H0,S0,f0,hb⟩,k36,z1,q1,q2⟩:=h
  refine ⟨_,(ak (gR (pv 0) (bO (qX (P:=P) (w:=w) (K:=K) rfl rfl rfl) (by rfl) T.Ci yE (aa (pv 1) ah)) rfl)
    (ak (gR (pv 0) (pv 2) rfl)
    (am (gE (oz (eV (K:=K) T) hr.m (dA λ _ _ _ z=>z) (aa (pv 0) ah)))))),?_⟩
  try dsimp only [fj,aX]
  first|(refine dM ?_;intro _ _ _ _)|skip
  refine ⟨_,rfl,p,_,rfl,hp,Cz b0 o,λ pr mM=>?_⟩
  have DV:x≠pr:=aB hx mM
  have s1:=al (o:=jU P w pr (i8 b0 o)) mM
  have Uc:(upd H pr (jU P w pr (i8 b0 o))) pr=some (jU P w pr (i8 b0 o)):=ac
  generalize upd H pr (jU P w pr (i8 b0 o))=H1 at s1 Uc ⊢
  have B0:sI K Ad.Table x dx H1 H1 []:=.start (s1 _ _ hx)
  refine ⟨_,rfl,x,_,dx,_,rfl,B0.at_,T.bR,T.gL,lt1000 rfl,?_⟩
  have B1:=B0.put (fs':=dE "rows" (.ref pr) [])
  refine ⟨_,rfl,_,rfl,x,_,dx,_,rfl,B1.at_,T.bR,T.bz,lt1000 rfl,?_⟩
  have B2:=B1.put (fs':=dE "other" (.ref b) (dE "rows" (.ref pr) []))
  generalize upd (upd H1 x (.ins Ad.Table dx (dE "rows" (.ref pr) []))) x (.ins Ad.Table dx (dE "other" (.ref b) (dE "rows" (.ref pr) [])))=H2 at B2 ⊢
  have S2:av H0 H2:=λ a o e=>B2.st a o (s1 _ _ (S0 _ _ e)) (aB e f0)
  have dd:gu P w K H2 pr (i8 b0 o):=⟨B2.st _ _ Uc DV.symm,λ e he=>((hp.keys e he).ts s1.ts).ts B2.ts⟩
  have tb:JF P w K mg base Ad.Keeper Ad.Table n H2 x o m sz W F k:=⟨dx,pr,b,b0,B2.at_,dd,hb.same S2⟩
  have hz:=hb.hs
  exact ⟨_,rfl,x,_,dx,_,_,_,m,1+sz,rfl,B2.at_,rfl,rfl,T.bR,(iD T (k:=k)).mono (by lia),(ja T (k:=k)).mono (by lia),λ q'=>⟨x,n,o,m,sz,W,F,rfl,tb,q'⟩,λ S q'=>⟨x,n,o,m,sz,W,F,rfl,tb.same S,q'⟩,λ _ y2 H3 S3=>q1 y2 pr H3 (λ b o hb n=>S3 _ _ (B2.st b o (s1 _ _ hb) n)) (S3 _ _ B2.at_) mM (dd.same S3),λ y H3 S3=>q2 (by lia) H3 λ b o hb n=>S3 _ _ (B2.st b o (s1 _ _ hb) n)⟩
theorem fA (T:Txt K mg Ad):om P w K mg base Ad.Table "__init__" 39 ["self","rows","other"] [] (wt P w K mg base Ad.Keeper Ad.Table Ad.ba) :=
 (lB T).xM T.mj λ items hv=>by
   obtain ⟨u1,rfl,r1⟩:=IZ hv
   exact ⟨[],.nil,λ _ _ _ _ _ _ us hl=>match us,hl with | [_,_,_],_=>⟨_,rfl,rfl⟩⟩
theorem cV (T:Txt K mg Ad):CB P w K mg base Ad.Table "__init__" 39 ["self","rows","other"] [] (λ vs H Q _=>wt P w K mg base Ad.Keeper Ad.Table Ad.ba vs H Q E0):=(fA T).Jr
inductive wX (K:W.Frag) (vs:List V) (H:Hp) (Q:VK) (_E:XK):Prop
 | mk (pr p:_) (zs:List Int) (rs:List Nat) (_:vs=[.ref pr,.ref p]) (_:bQ K H pr (zs.map V.int)) (_:bQ K H p (rs.map ao)) (_:(∀ r∈rs,r<zs.length)) (_:rs.length<=4) (_:∀ q H',av H H'->H' q=some (.tup ((rs.map λ r=>zs.getD r 0).map V.int))->Q (.ref q) H')
theorem Ly {l:List Int} {i:Nat} (h:i<l.length):l[i]?=some (l.getD i 0):=by rw [adO,Wz h];rfl
theorem lY (T:Txt K mg Ad):Def P w K mg base "chosen" 1 ["row","rooms"] (wX K):=by
 refine T.BF.gS zj λ f aP A outer s H vs Q E hr h=>?_
 obtain ⟨pr,p,zs,rs,rfl,hz,hp,dF,h4,k⟩:=h
 refine ⟨_,(am (ax (bO cc (by rfl) T.gG fx (aa (gJ ["room"] ["row"] [0] (.cons ⟨rfl,rfl,.inl rfl⟩ .nil) rfl (IH (pv 1)) (λ _ _ _ _ _=>(aA (i:=0) (show (["room","row"]:List Str).Nodup by decide +kernel) rfl (lc rfl))) (λ _ _ _ _ _=>eK) (λ _ _ _ _ _=>(aQ (cQ (K:=K) rfl) (pv 1) (pv 0) (λ _ _=>rfl))) rfl (by decide +kernel) (by decide +kernel) (by decide +kernel)) ah)))),?_⟩
 try dsimp only [fj,aX]
 refine ⟨_,rfl,p,rfl,⟨_,hp⟩,λ D hD=>?_⟩
 refine BD (K:=K) (a:=p) (xs:=rs.map ao) (λ j acc σ H3=>A4 (av H H3) (H3 D=some (.lst acc)) (acc=((rs.take j).map λ r=>zs.getD r 0).map V.int) (∃ v,σ=[v,some (.ref pr)])) ⟨al hD,ac,rfl,none,rfl⟩ (λ j acc σ H3 _ e=>e.1.tup hp) ?_ ?_
 .
  rintro j y acc σ H3 hy ⟨s3,mT,rfl,v,rfl⟩
  obtain ⟨r,er,rfl⟩:=eM hy
  have GF:=(List.getElem?_eq_some_iff.mp er).1
  refine ⟨_,rfl,_,rfl,pr,_,_,.int (zs.getD r 0),rfl,rfl,.inr (s3.tup hz),dy (by rw [aei,Ly (dF r (afB er))];rfl),mT,bq (by rw [aad,aad,aaP];lia),s3.put hD,ac,?_,_,rfl⟩
  rw [ahe,er,acT,acT];rfl
 . rintro acc σ H3 ⟨s3,mT,rfl,v,rfl⟩
   rw [aad,adg] at mT
   exact ⟨D,_,rfl,.inl ⟨bh.of mT,λ q hq=>k q _ (s3.trans (al hq)) ac⟩⟩
inductive ve (K:W.Frag) (vs:List V) (H:Hp) (Q:VK) (_E:XK):Prop
 | mk (q p n:_) (s:eP) (rs:List Nat) (_:vs=[.ref q,.ref p]) (_:tL H q s) (_:Sz n s) (_:bQ K H p (rs.map ao)) (_:(∀ r∈rs,r<n)) (_:rs.length<=4) (_:∀ t H',av H H'->tL H' t (Ap.qg s rs)->Q (.ref t) H')
theorem oA (T:Txt K mg Ad):Def P w K mg base "portion" 3 ["state","rooms"] (ve K):=by
 refine T.zt.gS dW λ f aP A outer s H vs Q E hr h=>?_
 obtain ⟨q,p,n,st,rs,rfl,⟨pb,pw,pf,hq,hb,hw,hf⟩,⟨lb,lw,lf⟩,hp,dF,h4,k⟩:=h
 refine ⟨_,(ak (gT (pv 0) (bW (K:=K) (n:=5) rfl rfl (aE (aA (i:=2) dW.nd rfl (lc rfl)) (aE (aA (i:=3) dW.nd rfl (lc rfl)) (aE (aA (i:=4) dW.nd rfl (lc rfl)) (aE (aA (i:=5) dW.nd rfl (lc rfl)) (aE (aA (i:=6) dW.nd rfl (lc rfl)) bU)))))))
     (ak (aG (i:=7) dW.nd rfl (lc rfl) (ay (ix (K:=K) T) hr.m (aa (gJ ["place","room"] ["burning"] [3] (.cons ⟨rfl,rfl,.inl rfl⟩ .nil) rfl (Ch rfl T.mE (aa (pv 1) ah)) (λ _ _ _ _ _=>(bW (K:=K) (n:=2) rfl rfl (aE (aA (i:=0) (show (["place","room","burning"]:List Str).Nodup by decide +kernel) rfl (lc rfl)) (aE (aA (i:=1) (show (["place","room","burning"]:List Str).Nodup by decide +kernel) rfl (lc rfl)) bU)))) (λ _ _ _ _ _=>(nJ (dH (ay (gD (K:=K) T) hr.m (aa (pv 2) (aa (pv 1) ah)))))) (λ _ _ _ _ _=>(pv 0)) rfl (by decide +kernel) (by decide +kernel) (by decide +kernel)) ah)))
     (am (ax (bH (aa (ay (lY (K:=K) T) hr.m (aa (pv 2) (aa (pv 1) ah))) (aa (pv 7) (aa (ay (lY (K:=K) T) hr.m (aa (pv 4) (aa (pv 1) ah))) (aa (ay (lY (K:=K) T) hr.m (aa (pv 5) (aa (pv 1) ah))) (aa (pv 6) ah)))))))))),?_⟩
 try dsimp only [fj,aX]
 first|(refine dM ?_;intro _ _ _ _)|skip
 refine ⟨_,rfl,q,_,rfl,bQ.of hq,rfl,_,_,rfl,_,_,rfl,_,_,rfl,_,_,rfl,_,_,rfl,rfl,?_⟩
 refine ⟨_,rfl,p,rfl,⟨_,hp⟩,λ D hD=>?_⟩
 refine yh (a:=p) (xs:=rs.map ao) (λ i acc σ H'=>A4 (av H H') (H' D=some (.lst acc)) (acc=(Ap.places (λ j=>st.bu.testBit (rs.getD j 0)) i).map ao) (E2 λ v0 v1=>σ=[v0,v1,some (ao st.bu)])) ⟨al hD,ac,rfl,none,none,rfl⟩ (λ i acc σ H' _ e=>e.1.tup hp) ?_ ?_
 .
  rintro i x pp acc σ H' hx Jy ⟨s1,jR,rfl,v0,v1,rfl⟩
  obtain ⟨r,er,rfl⟩:=eM hx
  have sp:=al (o:=.tup [ao i,ao r]) Jy
  have hil:=(List.getElem?_eq_some_iff.mp er).1
  have lp:=Ap.places_len (λ j=>st.bu.testBit (rs.getD j 0)) i
  have en:=Ap.jf (λ j=>st.bu.testBit (rs.getD j 0)) i
  have eg:rs.getD i 0=r:=by rw [adO,er];rfl
  rw [eg] at en
  refine ⟨pp,_,rfl,bQ.of ac,rfl,_,_,rfl,_,_,rfl,rfl,?_⟩
  refine ⟨_,rfl,_,rfl,st.bu,r,rfl,_,rfl,?_⟩
  cases tb:st.bu.testBit r with
  | true =>
    rw [tb,aeA rfl] at en
    refine j9 ⟨_,rfl,sp _ _ jR,bq (by rw [aad];lia),(s1.trans sp).put hD,ac,?_,_,_,rfl⟩
    rw [en,acT];rfl
  | false =>
    rw [tb,adH abS,agb] at en
    exact gw ⟨s1.trans sp,sp _ _ jR,by rw [en],_,_,rfl⟩
 .
  rintro acc σ H1 ⟨s1,jR,rfl,v0,v1,rfl⟩
  rw [aad] at jR
  refine ⟨D,_,rfl,bh.of jR,λ r hr=>?_,?_⟩
  . have:=(Ap.gf hr).1
    lia
  refine ⟨_,rfl,_,rfl,pb,p,st.bs,rs,rfl,bQ.of (s1 _ _ hb),s1.tup hp,λ r hr=>by rw [lb];exact dF r hr,h4,λ q1 H2 s2 h2=>?_⟩
  have S2:=s1.trans s2
  refine ⟨_,rfl,_,rfl,_,rfl,pw,p,st.ws,rs,rfl,bQ.of (S2 _ _ hw),S2.tup hp,λ r hr=>by rw [lw];exact dF r hr,h4,λ q2 H3 s3 h3=>?_⟩
  have S3:=S2.trans s3
  refine ⟨_,rfl,_,rfl,pf,p,st.fs,rs,rfl,bQ.of (S3 _ _ hf),S3.tup hp,λ r hr=>by rw [lf];exact dF r hr,h4,λ q3 H4 s4 h4'=>?_⟩
  refine ⟨_,rfl,(by show 5<=sizeLine;decide),λ t ht=>?_⟩
  have s5:=al (o:=.tup [.ref q1,ao (i3 (Ap.places (λ j=>st.bu.testBit (rs.getD j 0)) rs.length) 0),.ref q2,.ref q3,.int st.hp]) ht
  exact k t _ ((S3.trans s4).trans s5) ⟨q1,q2,q3,ac,((s3.trans s4).trans s5) _ _ h2,(s4.trans s5) _ _ h3,s5 _ _ h4'⟩
def xQ (P:Program) (w:World) (K:W.Frag) (mg:Str->Option Value) (base:Heap) (CK:Addr) (n:Nat) (H:Hp) (v:V) (r:cI) (k:Nat):Prop:=∃ t p b,v = .ref t/\H t=some (.tup [.ref p,.ref b])/\H p=some (.tup (r.rooms.map ao))/\KA P w K mg base CK r.rooms.length H b r.m r.sz r.W r.F k/\(∀ x∈r.rooms,x<n)/\r.rooms.length<=4
theorem xQ.same {n k:Nat} {H H':Hp} {v:V} {r:cI} (h:xQ P w K mg base Ad.Keeper n H v r k) (q:av H H'):xQ P w K mg base Ad.Keeper n H' v r k:=by
 obtain ⟨t,p,b,e,h1,h2,h3,h4⟩:=h
 exact ⟨t,p,b,e,q _ _ h1,q _ _ h2,h3.same q,h4⟩
structure nE (P:Program) (w:World) (K:W.Frag) (mg:Str->Option Value) (base:Heap) (CK CA:Addr) (n:Nat) (H:Hp) (a:Addr) (rows:List cI) (k:Nat):Prop where
 ex:∃ dx pr,∃ vs:List V,H a=some (.ins CA dx [("rows",.ref pr)])/\H pr=some (.lst vs)/\vs.length=rows.length/\∀ (i:Nat) (v:V) (r:cI),vs[i]?=some v->rows[i]?=some r->xQ P w K mg base CK n H v r k
 l4:rows.length<=4
 hm:Ap.mul rows<=4000
 n4:n<=4
theorem nE.same {n k:Nat} {H H':Hp} {CA a:Addr} {rows:List cI} (h:nE P w K mg base Ad.Keeper CA n H a rows k) (q:av H H'):nE P w K mg base Ad.Keeper CA n H' a rows k:=by
 obtain ⟨⟨dx,pr,vs,h1,h2,h3,h4⟩,l4,hm,n4⟩:=h
 exact ⟨⟨dx,pr,vs,q _ _ h1,q _ _ h2,h3,λ i v r a b=>(h4 i v r a b).same q⟩,l4,hm,n4⟩
theorem Ap.take_snoc {rows:List cI} {i:Nat} {r:cI} (h:rows[i]?=some r):rows.take (i+1)=rows.take i++[r]:=by rw [ahe,h];rfl
theorem Ap.qb {rows:List cI} (ok:Ap.Ok rows) (i:Nat):Ap.mul (rows.take i)<=Ap.mul rows:=by
 induction rows generalizing i with
 | nil=>rw [List.take_nil];exact aau _
 | cons r rows ih =>
   cases i with
   | zero=>exact Ap.mul_pos ok
   | succ i=>exact anj _ (ih (λ x hx=>ok x (aaN _ hx)) i)
theorem nE.ok {n k:Nat} {H:Hp} {CA a:Addr} {rows:List cI} (h:nE P w K mg base Ad.Keeper CA n H a rows k):Ap.Ok rows:=λ r hr=>by
 obtain ⟨dx,pr,vs,h1,h2,h3,h4⟩:=h.ex
 obtain ⟨i,hi,rfl⟩:=List.mem_iff_getElem.mp hr
 obtain ⟨t,p,b,e,_,_,ka,_⟩:=h4 i _ _ (Wz (by rw [h3];exact hi)) (Wz hi)
 exact ⟨ka.m1,ka.fl⟩
inductive Ds (P:Program) (w:World) (K:W.Frag) (mg:Str->Option Value) (base:Heap) (CK CA:Addr) (k:Nat) (f:List cI->Nat) (vs:List V) (H:Hp) (Q:VK) (_E:XK):Prop
 | mk (a n rows:_) (_:vs=[.ref a]) (_:nE P w K mg base CK CA n H a rows k) (_:∀ H',av H H'->Q (ao (f rows)) H')
theorem iC (T:Txt K mg Ad) {k:Nat}:bD P w K mg base Ad.Apart "minds" (k+6) ["self"] [] (Ds P w K mg base Ad.Keeper Ad.Apart (k+5) Ap.mul):=by
 refine T.qV.bS cU λ f aP A outer s H vs Q E hr h=>?_
 obtain ⟨a,n,rows,rfl,ap,q⟩:=h
 obtain ⟨dx,pr,vs,ha,mM,lv,eO⟩:=ap.ex
 refine ⟨_,(ak (aG (i:=1) cU.nd rfl (lc rfl) ag)
     (ak (df aem rfl (dQ (bn (pv 0) rfl)) (bW (K:=K) (n:=2) rfl rfl (aE (aA (i:=2) cU.nd rfl (lc rfl)) (aE (aA (i:=3) cU.nd rfl (lc rfl)) bU))) (am (aG (i:=1) cU.nd rfl (lc rfl) (az eN (pv 1) (bv (P:=P) (w:=w) (K:=K) (mg:=mg) (base:=base) (k:=(k+5)) ⟨rfl,rfl,rfl,rfl,rfl⟩ (pv 3) hr)))))
     (am (ax (pv 1))))),?_⟩
 try dsimp only [fj,aX]
 first|(refine dM ?_;intro _ _ _ _)|skip
 have ok:=ap.ok
 have hm:=ap.hm
 refine ⟨_,rfl,a,_,dx,_,_,rfl,ha,T.cK,T.cM,rfl,pr,rfl,⟨_,bh.of mM⟩,?_⟩
 refine gY (K:=K) (a:=pr) (xs:=vs) (λ i σ H'=>av H H'/\E2 λ v1 v2=>σ=[some (.ref a),some (ao (Ap.mul (rows.take i))),v1,v2]) ⟨av.refl _,none,none,rfl⟩ (λ i σ H' _ e=>bh.of (e.1 _ _ mM)) ?_ ?_
 .
  rintro _ i x σ H1 hx ⟨S,v1,v2,rfl⟩
  have hi:i<rows.length:=by rw [← lv];exact (List.getElem?_eq_some_iff.mp hx).1
  have er:=Wz hi
  obtain ⟨t,p,b,rfl,ht,hp,kb,dF,l4⟩:=(eO i _ _ hx er).same S
  obtain ⟨C1,d1,f1,nW,qA,sr,sx,b1,b2,b3,b4,b5,b6,b7,b8,b9,rG,sv,_⟩:=kb.ex
  refine ⟨t,_,rfl,bQ.of ht,rfl,_,_,rfl,_,_,rfl,rfl,?_⟩
  refine ⟨_,rfl,_,rfl,C1,b,d1,f1,_,nW,rfl,b1,b2.1,b3,b4,b8 (av.refl _) λ H2 S2=>?_⟩
  have h1:=Ap.qb ok i
  have h2:=kb.hm
  refine ⟨_,_,rfl,rfl,⟨12,12,(show Int.natAbs _<2 ^ 12 by lia),(show Int.natAbs _<2 ^ 12 by lia),by decide⟩,λ r er'=>?_⟩
  have ez:r=((Ap.mul (rows.take (i+1)):Nat):Int):=by rw [er',Ap.take_snoc er,Ap.hJ];push_cast;rfl
  rw [ez]
  exact ⟨S.trans S2,_,_,rfl⟩
 . rintro σ H1 ⟨S,v1,v2,rfl⟩
   rw [lv,adg]
   exact ⟨_,rfl,q H1 S⟩
inductive Jt (P:Program) (w:World) (K:W.Frag) (mg:Str->Option Value) (base:Heap) (CK CA:Addr) (k:Nat) (vs:List V) (H:Hp) (Q:VK) (_E:XK):Prop
 | mk (a n rows:_) (i:Nat) (_:vs=[.ref a,ao i]) (_:nE P w K mg base CK CA n H a rows k) (_:i<Ap.mul rows) (_:∀ p H',av H H'->H p=none->H' p=some (.lst ((Ap.cT rows i).map ao))->Q (.ref p) H')
theorem fH (T:Txt K mg Ad) {k:Nat}:bD P w K mg base Ad.Apart "own_minds" (k+6) ["self","mind"] [] (Jt P w K mg base Ad.Keeper Ad.Apart (k+5)):=by
 refine T.ly.bS bI λ f aP A outer s H vs Q E hr h=>?_
 obtain ⟨a,n,rows,mi,rfl,ap,WQ,q⟩:=h
 obtain ⟨dx,pr,vs,ha,mM,lv,eO⟩:=ap.ex
 refine ⟨_,(ak (aG (i:=2) bI.nd rfl (lc rfl) (aU ah))
     (ak (aG (i:=3) bI.nd rfl (lc rfl) (pv 1))
     (ak (df aem rfl (dQ (bn (pv 0) rfl)) (bW (K:=K) (n:=2) rfl rfl (aE (aA (i:=4) bI.nd rfl (lc rfl)) (aE (aA (i:=5) bI.nd rfl (lc rfl)) bU))) (ak (gE (GL ak9 amR amQ lQ (pv 2) (aa (az aS (pv 3) (bv (P:=P) (w:=w) (K:=K) (mg:=mg) (base:=base) (k:=(k+5)) ⟨rfl,rfl,rfl,rfl,rfl⟩ (pv 5) hr)) ah)))
     (am (aG (i:=3) bI.nd rfl (lc rfl) (az bE (pv 3) (bv (P:=P) (w:=w) (K:=K) (mg:=mg) (base:=base) (k:=(k+5)) ⟨rfl,rfl,rfl,rfl,rfl⟩ (pv 5) hr))))))
     (am (ax (pv 2)))))),?_⟩
 try dsimp only [fj,aX]
 first|(refine lq ?_;intro _ _ _ _ _)|skip
 have ok:=ap.ok
 have hm:=ap.hm
 have l4:=ap.l4
 refine ⟨sz0,λ po uJ=>?_⟩
 have S0:=al (o:=.lst []) uJ
 refine ⟨_,rfl,_,rfl,a,_,dx,_,_,rfl,S0 _ _ ha,T.cK,T.cM,rfl,pr,rfl,⟨_,bh.of (S0 _ _ mM)⟩,?_⟩
 refine gY (K:=K) (a:=pr) (xs:=vs) (λ i σ H'=>A3 (av H H') (H' po=some (.lst ((Ap.cT (rows.take i) mi).map ao))) (E2 λ v1 v2=>σ=[some (.ref a),some (ao mi),some (.ref po),some (ao (mi / Ap.mul (rows.take i))),v1,v2])) ⟨S0,ac,none,none,by rw [show Ap.mul (rows.take 0)=1 from rfl,Nat.div_one];rfl⟩ (λ i σ H' _ e=>bh.of (e.1 _ _ mM)) ?_ ?_
 .
  rintro _ i x σ H1 hx ⟨S,ho,v1,v2,rfl⟩
  have hi:i<rows.length:=by rw [← lv];exact (List.getElem?_eq_some_iff.mp hx).1
  have er:=Wz hi
  obtain ⟨t,p,b,rfl,ht,hp,kb,dF,Al⟩:=eO i _ _ hx er
  obtain ⟨C1,d1,f1,nW,qA,sr,sx,b1,b2,b3,b4,b5,b6,b7,b8,b9,rG,sv,_⟩:=kb.ex
  have hm1:=kb.m1
  have h2:=kb.hm
  refine ⟨t,_,rfl,bQ.of (S _ _ ht),rfl,_,_,rfl,_,_,rfl,rfl,?_⟩
  refine ⟨_,rfl,.inl ⟨rfl,_,bh.of ho⟩,_,rfl,_,rfl,C1,b,d1,f1,_,nW,rfl,S _ _ b1,b2.1,b3,b4,b8 S λ H2 S2=>⟨_,_,rfl,rfl,by lia,λ q' q0 q1 eq=>?_⟩⟩
  have dl:=Ap.kC (rows.take i) mi
  rw [aaP] at dl
  refine ⟨po,_,_,rfl,rfl,S2 _ _ ho,bq (by rw [aad];lia),?_⟩
  have S3:=(S.trans S2).put (o:=.lst ((Ap.cT (rows.take i) mi).map ao++[.int q'])) uJ
  have WF:(upd H2 po (.lst ((Ap.cT (rows.take i) mi).map ao++[.int q']))) po=some (.lst ((Ap.cT (rows.take (i+1)) mi).map ao)):=by
    have eq':q'=((mi / Ap.mul (rows.take i) % rows[i].m:Nat):Int):=by rw [eq];push_cast;rfl
    rw [Ap.take_snoc er,Ap.rQ,acT,eq']
    exact ac
  generalize upd H2 po (.lst ((Ap.cT (rows.take i) mi).map ao++[.int q']))=H3 at S3 WF ⊢
  refine ⟨_,rfl,_,rfl,C1,b,d1,f1,_,nW,rfl,S3 _ _ b1,b2.1,b3,b4,b8 S3 λ H4 S4=>⟨_,_,rfl,rfl,⟨by lia,(show Int.natAbs _<2 ^ 8999 from aav (show Int.natAbs _<2 ^ 12 by lia) (afd (by decide) (by decide)))⟩,λ z ez=>?_⟩⟩
  have e:z=((mi / Ap.mul (rows.take (i+1)):Nat):Int):=by
    rw [ez,agx _ (by lia),Ap.take_snoc er,Ap.hJ,← am4]
    push_cast;rfl
  rw [e]
  exact ⟨S3.trans S4,S4 _ _ WF,_,_,rfl⟩
 . rintro σ H1 ⟨S,ho,v1,v2,rfl⟩
   rw [lv,adg] at ho
   exact ⟨_,rfl,q po H1 S uJ ho⟩
theorem dZ (ws:List Nat):(ws.map Int.ofNat).map V.int=ws.map ao:=by rw [amx];rfl
theorem Ap.jr:∀ {rs:List cI} {os:List Nat} {i o:Nat} {r:cI},Ap.Own rs os->rs[i]?=some r->os[i]?=some o->o<r.m
 | r::rs,o::os,0,_,_,q,e1,e2=>by cases e1;cases e2;exact q.1
 | r::rs,o::os,i+1,_,_,q,e1,e2=>Ap.jr (rs:=rs) (os:=os) (i:=i) q.2 e1 e2
 | [],_,_,_,_,_,e1,_=>by simp at e1
 | _::_,[],_,_,_,q,_,_=>q.elim
theorem Ap.vO (l:List Nat) (x j:Nat):Ap.sel l x (j+1)=Ap.sel l x j++(if x.testBit j=true then [l.getD j 0] else []):=by
 unfold Ap.sel
 rw [Ap.jf,acT]
 cases x.testBit j<;>rfl
theorem Ap.Fw (l:List Nat) (x j:Nat):(Ap.sel l x j).length<=j:=by unfold Ap.sel;rw [aad];exact Ap.places_len _ _
theorem ou {l:List Nat} {i o:Nat} (h:l[i]?=some o):l.take (i+1)=l.take i++[o]:=by rw [ahe,h];rfl
theorem ye:∀ l:List Nat,(l.map Int.ofNat).sum=((l.sum:Nat):Int)
 | []=>rfl
 | x::l=>by rw [afS,am1,am1,ye l];push_cast;rfl
theorem Ap.x6:∀ rows:List cI,(rows.map (·.sz)).sum=Ap.sum rows
 | []=>rfl
 | r::rows=>by rw [afS,am1,Ap.x6 rows];rfl
theorem iV (T:Txt K mg Ad) {k:Nat}:bD P w K mg base Ad.Apart "size" (k+6) ["self"] [] (Ds P w K mg base Ad.Keeper Ad.Apart (k+5) λ rows=>1+Ap.sum rows):=by
 refine T.sM.bS qK λ f aP A outer s H vs Q E hr h=>?_
 obtain ⟨a,n,rows,rfl,ap,q⟩:=h
 obtain ⟨dx,pr,vs,ha,mM,lv,eO⟩:=ap.ex
 refine ⟨_,(am (ax (az bg ag (aZ (zf rfl) (by rfl) T.UI IT (aa (gJ ["rooms","keeper"] [] [] .nil rfl (dQ (bn (pv 0) rfl)) (λ _ _ _ _ _=>(bW (K:=K) (n:=2) rfl rfl (aE (aA (i:=0) (show (["rooms","keeper"]:List Str).Nodup by decide +kernel) rfl (lc rfl)) (aE (aA (i:=1) (show (["rooms","keeper"]:List Str).Nodup by decide +kernel) rfl (lc rfl)) bU)))) (λ _ _ _ _ _=>eK) (λ _ _ _ _ _=>(bv (P:=P) (w:=w) (K:=K) (mg:=mg) (base:=base) (k:=(k+5)) ⟨rfl,rfl,rfl,rfl,rfl⟩ (pv 1) hr)) rfl (by decide +kernel) (by decide +kernel) (by decide +kernel)) ah))))),?_⟩
 try dsimp only [fj,aX]
 have l4:=ap.l4
 refine ⟨_,rfl,a,_,dx,_,_,rfl,ha,T.cK,T.cM,rfl,pr,rfl,⟨_,bh.of mM⟩,λ D hD=>?_⟩
 refine eX (K:=K) (a:=pr) (xs:=vs) (λ i acc σ H'=>A4 (av H H') (H' D=some (.lst acc)) (acc=((rows.take i).map (·.sz)).map ao) (E2 λ v1 v2=>σ=[v1,v2])) ⟨al hD,ac,rfl,none,none,rfl⟩ (λ i acc σ H' _ e=>bh.of (e.1 _ _ mM)) ?_ ?_
 .
  rintro i x acc σ H1 hx ⟨S,jR,rfl,v1,v2,rfl⟩
  have hi:i<rows.length:=by rw [← lv];exact (List.getElem?_eq_some_iff.mp hx).1
  have er:=Wz hi
  obtain ⟨t,p,b,rfl,ht,hp,kb,dF,Al⟩:=eO i _ _ hx er
  obtain ⟨C1,d1,f1,nW,qA,sr,sx,b1,b2,b3,b4,b5,b6,b7,b8,b9,rG,sv,_⟩:=kb.ex
  refine ⟨t,_,rfl,bQ.of (S _ _ ht),rfl,_,_,rfl,_,_,rfl,rfl,?_⟩
  refine ⟨_,rfl,C1,b,d1,f1,_,qA,rfl,S _ _ b1,b2.2.1,b3,b5,b9 S λ H2 S2=>⟨S2 _ _ jR,bq (by rw [aad,aad,aaP];lia),(S.trans S2).put hD,ac,?_,_,_,rfl⟩⟩
  rw [Ap.take_snoc er,acT,acT];rfl
 .
  rintro acc σ H1 ⟨S,jR,rfl,v1,v2,rfl⟩
  rw [lv,adg] at jR
  refine ⟨D,(rows.map (·.sz)).map Int.ofNat,rfl,bh.of (by rw [dZ];exact jR),λ r er=>⟨_,_,rfl,rfl,λ y ey=>?_⟩⟩
  have e:y=((1+Ap.sum rows:Nat):Int):=by rw [ey,er,ye,Ap.x6];push_cast;rfl
  rw [e]
  exact q H1 S
inductive BJ (P:Program) (w:World) (K:W.Frag) (mg:Str->Option Value) (base:Heap) (CK CA:Addr) (k:Nat) (f:List cI->Nat->eP->Nat) (vs:List V) (H:Hp) (Q:VK) (_E:XK):Prop
 | mk (a n rows:_) (i:Nat) (ps s:_) (_:vs=[.ref a,ao i,.ref ps]) (_:nE P w K mg base CK CA n H a rows k) (_:i<Ap.mul rows) (_:tL H ps s) (_:Sz n s) (_:∀ H',av H H'->Q (ao (f rows i s)) H')
theorem p3 (T:Txt K mg Ad) {k:Nat}:bD P w K mg base Ad.Apart "wish" (k+7) ["self","mind","state"] [] (BJ P w K mg base Ad.Keeper Ad.Apart (k+5) λ rows i s=>Ap.cD rows (Ap.cT rows i) s):=by
 refine T.t8.bS bY λ f aP A outer s H vs Q E hr h=>?_
 obtain ⟨a,n,rows,mi,ps,st,rfl,ap,WQ,hs,hn,q⟩:=h
 obtain ⟨dx,pr,vs,ha,mM,lv,eO⟩:=ap.ex
 refine ⟨_,(ak (aG (i:=3) bY.nd rfl (lc rfl) ag)
     (ak (df aem rfl (Bt rfl T.Ht (aa (bn (pv 0) rfl) (aa (bP (P:=P) (w:=w) (K:=K) (mg:=mg) (base:=base) (k:=(k+6)) ⟨rfl,rfl,rfl,rfl,rfl⟩ (pv 0) hr (aa (pv 1) ah)) ah))) (bW (K:=K) (n:=2) rfl rfl (aE (aA (i:=4) bY.nd rfl (lc rfl)) (aE (aA (i:=5) bY.nd rfl (lc rfl)) bU))) (ak (gT (pv 4) (bW (K:=K) (n:=2) rfl rfl (aE (aA (i:=6) bY.nd rfl (lc rfl)) (aE (aA (i:=7) bY.nd rfl (lc rfl)) bU))))
     (ak (aG (i:=8) bY.nd rfl (lc rfl) (bP (P:=P) (w:=w) (K:=K) (mg:=mg) (base:=base) (k:=(k+6)) ⟨rfl,rfl,rfl,rfl,rfl⟩ (pv 7) hr (aa (pv 5) (aa (ay (oA (K:=K) T) (hr.mono (by lia)) (aa (pv 2) (aa (pv 6) ah))) ah))))
     (am (aG (i:=3) bY.nd rfl (lc rfl) (az sE (pv 3) (ay (ix (K:=K) T) (hr.mono (by lia)) (aa (gJ ["place","room"] ["wished"] [8] (.cons ⟨rfl,rfl,.inl rfl⟩ .nil) rfl (Ch rfl T.mE (aa (pv 6) ah)) (λ _ _ _ _ _=>(bW (K:=K) (n:=2) rfl rfl (aE (aA (i:=0) (show (["place","room","wished"]:List Str).Nodup by decide +kernel) rfl (lc rfl)) (aE (aA (i:=1) (show (["place","room","wished"]:List Str).Nodup by decide +kernel) rfl (lc rfl)) bU)))) (λ _ _ _ _ _=>(nJ (dH (ay (gD (K:=K) T) (hr.mono (by lia)) (aa (pv 2) (aa (pv 0) ah)))))) (λ _ _ _ _ _=>(pv 1)) rfl (by decide +kernel) (by decide +kernel) (by decide +kernel)) ah))))))))
     (am (ax (pv 3))))),?_⟩
 try dsimp only [fj,aX]
 first|(refine dM ?_;intro _ _ _ _)|skip
 have l4:=ap.l4
 have ok:=ap.ok
 have dl:=Ap.kC rows mi
 have own:=Ap.kI (i:=mi) ok
 refine ⟨_,rfl,a,_,dx,_,_,rfl,ha,T.cK,T.cM,rfl,_,rfl,Ad.Apart,a,dx,_,_,_,rfl,ha,rfl,T.cK,fH T,_,rfl,a,n,rows,mi,rfl,ap,WQ,λ po H1 S1 uJ ho=>?_⟩
 refine ⟨pr,po,rfl,⟨_,bh.of (S1 _ _ mM)⟩,⟨_,bh.of ho⟩,?_⟩
 refine yd (K:=K) (a:=pr) (b:=po) (xs:=vs) (ys:=(Ap.cT rows mi).map ao) (λ i σ H'=>av H1 H'/\E5 λ v4 v5 v6 v7 v8=>σ=[some (.ref a),some (ao mi),some (.ref ps),some (ao (Ap.cD (rows.take i) ((Ap.cT rows mi).take i) st)),v4,v5,v6,v7,v8]) ⟨av.refl _,none,none,none,none,none,rfl⟩ (λ i σ H' _ e=>⟨bh.of (e.1 _ _ (S1 _ _ mM)),bh.of (e.1 _ _ ho)⟩) ?_ ?_
 .
  rintro i x y pp σ H2 hx hy Jy ⟨S2,v4,v5,v6,v7,v8,rfl⟩
  have hi:i<rows.length:=by rw [← lv];exact (List.getElem?_eq_some_iff.mp hx).1
  have er:=Wz hi
  obtain ⟨t,p,b,rfl,ht,hp,kb,dF,Al⟩:=eO i _ _ hx er
  obtain ⟨o,eo,rfl⟩:=eM hy
  have wk:=Ap.jr own er eo
  generalize rows[i]=r at er hp kb dF Al wk
  obtain ⟨C1,d1,f1,nW,qA,sr,sx,b1,b2,b3,b4,b5,b6,b7,b8,b9,rG,sv,_⟩:=kb.ex
  have sp:=al (o:=.tup [.ref t,ao o]) Jy
  have qd:=S1.trans S2
  have T2:=qd.trans sp
  have Nq:=S2.trans sp
  refine ⟨pp,_,rfl,bQ.of ac,rfl,_,_,rfl,_,_,rfl,rfl,?_⟩
  generalize upd H2 pp (.tup [.ref t,ao o])=H3 at T2 Nq ⊢
  refine ⟨_,rfl,t,_,rfl,bQ.of (T2 _ _ ht),rfl,_,_,rfl,_,_,rfl,rfl,?_⟩
  refine ⟨_,rfl,C1,b,d1,f1,_,sr,rfl,T2 _ _ b1,b2.2.2.1,b3,b6.mono (by lia),_,rfl,_,rfl,_,rfl,ps,p,n,st,r.rooms,rfl,hs.same T2,hn,bQ.of (T2 _ _ hp),dF,Al,λ tq H4 S4 h4=>?_⟩
  have T4:=T2.trans S4
  refine rG T4 wk h4 (Ap.oS st r.rooms) λ H5 S5=>?_
  have T5:=T4.trans S5
  refine ⟨_,rfl,_,rfl,p,rfl,⟨_,bQ.of (T5 _ _ hp)⟩,λ D hD=>?_⟩
  refine yh (a:=p) (xs:=r.rooms.map ao) (λ j acc σ H'=>A4 (av H5 H') (H' D=some (.lst acc)) (acc=(Ap.sel r.rooms (r.W o (Ap.qg st r.rooms)) j).map ao) (E2 λ v0 v1=>σ=[v0,v1,some (ao (r.W o (Ap.qg st r.rooms)))])) ⟨al hD,ac,rfl,none,none,rfl⟩ (λ j acc σ H' _ e=>bQ.of (e.1 _ _ (T5 _ _ hp))) ?_ ?_
  .
   rintro j x p2 acc σ H6 JR Fn ⟨S6,DT,rfl,v0,v1,rfl⟩
   obtain ⟨rm,em,rfl⟩:=eM JR
   have GF:=(List.getElem?_eq_some_iff.mp em).1
   have WN:=al (o:=.tup [ao j,ao rm]) Fn
   have ln:=Ap.Fw r.rooms (r.W o (Ap.qg st r.rooms)) j
   have en:=Ap.vO r.rooms (r.W o (Ap.qg st r.rooms)) j
   have eg:r.rooms.getD j 0=rm:=by rw [adO,em];rfl
   rw [eg] at en
   refine ⟨p2,_,rfl,bQ.of ac,rfl,_,_,rfl,_,_,rfl,rfl,?_⟩
   refine ⟨_,rfl,_,rfl,_,j,rfl,_,rfl,?_⟩
   cases tb:(r.W o (Ap.qg st r.rooms)).testBit j with
   | true =>
     rw [tb,aeA rfl] at en
     refine j9 ⟨_,rfl,WN _ _ DT,bq (by rw [aad];lia),(S6.trans WN).put hD,ac,?_,_,_,rfl⟩
     rw [en,acT];rfl
   | false =>
     rw [tb,adH abS,agb] at en
     exact gw ⟨S6.trans WN,WN _ _ DT,by rw [en],_,_,rfl⟩
  .
   rintro acc σ H6 ⟨S6,DT,rfl,v0,v1,rfl⟩
   rw [aad] at DT
   refine ⟨D,_,rfl,bh.of DT,λ x hx=>?_,_,_,rfl,rfl,λ z ez=>?_⟩
   . obtain ⟨j,hj,rfl⟩:=List.mem_map.mp hx
     have hj:=(Ap.gf hj).1
     have:=dF (r.rooms.getD j 0) (by rw [adO,Wz hj];exact ahU hj)
     have:=ap.n4
     lia
   . have ew:z=((Ap.cD (rows.take (i+1)) ((Ap.cT rows mi).take (i+1)) st:Nat):Int):=by
       rw [ez,jp,Ap.take_snoc er,ou eo,Ap.md (by rw [aaP,aaP,dl])]
     rw [ew]
     exact ⟨Nq.trans (S4.trans (S5.trans S6)),_,_,_,_,_,rfl⟩
 .
  rintro σ H2 ⟨S2,v4,v5,v6,v7,v8,rfl⟩
  have e1:min vs.length ((Ap.cT rows mi).map ao).length=rows.length:=by rw [aad,dl,lv];lia
  have e2:(Ap.cT rows mi).take rows.length=Ap.cT rows mi:=by rw [← dl,adg]
  rw [e1,adg,e2]
  exact ⟨_,rfl,q H2 (S1.trans S2)⟩
theorem Ap.lh:∀ {rs:List cI} {os:List Nat},os.length=rs.length->(Ap.cL rs os).length=os.length
 | [],[],_=>rfl
 | _::rs,_::os,h=>by show (Ap.cL rs os).length+1=os.length+1;rw [Ap.lh (by simpa using h)]
 | [],_::_,h=>by simp at h
 | _::_,[],h=>by simp at h
theorem m8 (T:Txt K mg Ad) {k:Nat}:bD P w K mg base Ad.Apart "after" (k+7) ["self","mind","state"] [] (BJ P w K mg base Ad.Keeper Ad.Apart (k+5) λ rows i _=>Ap.after rows i):=by
 refine T.qj.bS bC λ f aP A outer s H vs Q E hr h=>?_
 obtain ⟨a,n,rows,mi,ps,st,rfl,ap,WQ,hs,hn,q⟩:=h
 obtain ⟨dx,pr,vs,ha,mM,lv,eO⟩:=ap.ex
 refine ⟨_,(ak (aG (i:=3) bC.nd rfl (lc rfl) ag)
     (ak (aG (i:=4) bC.nd rfl (lc rfl) ag)
     (ak (df aem rfl (Bt rfl T.Ht (aa (bn (pv 0) rfl) (aa (bP (P:=P) (w:=w) (K:=K) (mg:=mg) (base:=base) (k:=(k+6)) ⟨rfl,rfl,rfl,rfl,rfl⟩ (pv 0) hr (aa (pv 1) ah)) ah))) (bW (K:=K) (n:=2) rfl rfl (aE (aA (i:=5) bC.nd rfl (lc rfl)) (aE (aA (i:=6) bC.nd rfl (lc rfl)) bU))) (ak (gT (pv 5) (bW (K:=K) (n:=2) rfl rfl (aE (aA (i:=7) bC.nd rfl (lc rfl)) (aE (aA (i:=8) bC.nd rfl (lc rfl)) bU))))
     (ak (Iz (i:=3) bC.nd rfl (lc rfl) (az eN (pv 4) (bP (P:=P) (w:=w) (K:=K) (mg:=mg) (base:=base) (k:=(k+6)) ⟨rfl,rfl,rfl,rfl,rfl⟩ (pv 8) hr (aa (pv 6) (aa (ay (oA (K:=K) T) (hr.mono (by lia)) (aa (pv 2) (aa (pv 7) ah))) ah)))) JH)
     (am (aG (i:=4) bC.nd rfl (lc rfl) (az eN (pv 4) (bv (P:=P) (w:=w) (K:=K) (mg:=mg) (base:=base) (k:=(k+6)) ⟨rfl,rfl,rfl,rfl,rfl⟩ (pv 8) hr)))))))
     (am (ax (pv 3)))))),?_⟩
 try dsimp only [fj,aX]
 first|(refine lq ?_;intro _ _ _ _ _)|skip
 have l4:=ap.l4
 have hm:=ap.hm
 have ok:=ap.ok
 have dl:=Ap.kC rows mi
 have own:=Ap.kI (i:=mi) ok
 refine ⟨_,rfl,a,_,dx,_,_,rfl,ha,T.cK,T.cM,rfl,_,rfl,Ad.Apart,a,dx,_,_,_,rfl,ha,rfl,T.cK,fH T,_,rfl,a,n,rows,mi,rfl,ap,WQ,λ po H1 S1 uJ ho=>?_⟩
 refine ⟨pr,po,rfl,⟨_,bh.of (S1 _ _ mM)⟩,⟨_,bh.of ho⟩,?_⟩
 refine yd (K:=K) (a:=pr) (b:=po) (xs:=vs) (ys:=(Ap.cT rows mi).map ao) (λ i σ H'=>av H1 H'/\E4 λ v5 v6 v7 v8=>σ=[some (.ref a),some (ao mi),some (.ref ps),some (ao (Ap.join (rows.take i) (Ap.cL (rows.take i) ((Ap.cT rows mi).take i)))),some (ao (Ap.mul (rows.take i))),v5,v6,v7,v8]) ⟨av.refl _,none,none,none,none,rfl⟩ (λ i σ H' _ e=>⟨bh.of (e.1 _ _ (S1 _ _ mM)),bh.of (e.1 _ _ ho)⟩) ?_ ?_
 .
  rintro i x y pp σ H2 hx hy Jy ⟨S2,v5,v6,v7,v8,rfl⟩
  have hi:i<rows.length:=by rw [← lv];exact (List.getElem?_eq_some_iff.mp hx).1
  have er:=Wz hi
  obtain ⟨t,p,b,rfl,ht,hp,kb,dF,Al⟩:=eO i _ _ hx er
  obtain ⟨o,eo,rfl⟩:=eM hy
  have wk:=Ap.jr own er eo
  have h1:=Ap.qb ok i
  generalize rows[i]=r at er hp kb dF Al wk
  obtain ⟨C1,d1,f1,nW,qA,sr,sx,b1,b2,b3,b4,b5,b6,b7,b8,b9,rG,sv,_⟩:=kb.ex
  have fl:=kb.fl o wk
  have h2:=kb.hm
  have sp:=al (o:=.tup [.ref t,ao o]) Jy
  have qd:=S1.trans S2
  have T2:=qd.trans sp
  have Nq:=S2.trans sp
  refine ⟨pp,_,rfl,bQ.of ac,rfl,_,_,rfl,_,_,rfl,rfl,?_⟩
  generalize upd H2 pp (.tup [.ref t,ao o])=H3 at T2 Nq ⊢
  refine ⟨_,rfl,t,_,rfl,bQ.of (T2 _ _ ht),rfl,_,_,rfl,_,_,rfl,rfl,?_⟩
  refine ⟨_,rfl,_,rfl,_,rfl,C1,b,d1,f1,_,sx,rfl,T2 _ _ b1,b2.2.2.2,b3,b7.mono (by lia),_,rfl,_,rfl,_,rfl,ps,p,n,st,r.rooms,rfl,hs.same T2,hn,bQ.of (T2 _ _ hp),dF,Al,λ tq H4 S4 h4=>?_⟩
  have T4:=T2.trans S4
  refine sv T4 wk h4 (Ap.oS st r.rooms) λ H5 S5=>?_
  have T5:=T4.trans S5
  refine ⟨_,_,rfl,rfl,⟨12,12,(show Int.natAbs _<2 ^ 12 by lia),(show Int.natAbs _<2 ^ 12 by lia),by decide⟩,λ y1 e1=>⟨_,_,rfl,rfl,?_⟩⟩
  have ej:((Ap.join (rows.take i) (Ap.cL (rows.take i) ((Ap.cT rows mi).take i)):Nat):Int)+y1=((Ap.join (rows.take (i+1)) (Ap.cL (rows.take (i+1)) ((Ap.cT rows mi).take (i+1))):Nat):Int):=by
    have ll:((Ap.cT rows mi).take i).length=(rows.take i).length:=by rw [aaP,aaP,dl]
    rw [e1,Ap.take_snoc er,ou eo,Ap.rT ll,Ap.join_snoc (by rw [Ap.lh ll];exact ll)]
    push_cast;rfl
  refine ⟨_,rfl,_,rfl,C1,b,d1,f1,_,nW,rfl,T5 _ _ b1,b2.1,b3,b4.mono (by lia),b8 T5 λ H6 S6=>⟨_,_,rfl,rfl,⟨12,12,(show Int.natAbs _<2 ^ 12 by lia),(show Int.natAbs _<2 ^ 12 by lia),by decide⟩,λ y2 e2=>?_⟩⟩
  have em:y2=((Ap.mul (rows.take (i+1)):Nat):Int):=by rw [e2,Ap.take_snoc er,Ap.hJ];push_cast;rfl
  rw [em]
  exact ⟨Nq.trans (S4.trans (S5.trans S6)),some (.ref t),some (ao o),some (.ref p),some (.ref b),alR (λ z:Int=>[some (.ref a),some (ao mi),some (.ref ps),some (V.int z),some (ao (Ap.mul (rows.take (i+1)))),some (.ref t),some (ao o),some (.ref p),some (.ref b)]) ej⟩
 .
  rintro σ H2 ⟨S2,v5,v6,v7,v8,rfl⟩
  have e1:min vs.length ((Ap.cT rows mi).map ao).length=rows.length:=by rw [aad,dl,lv];lia
  have e2:(Ap.cT rows mi).take rows.length=Ap.cT rows mi:=by rw [← dl,adg]
  rw [e1,adg,e2]
  exact ⟨_,rfl,q H2 (S1.trans S2)⟩
theorem kX (T:Txt K mg Ad) {H:Hp} {a:Addr} {n k:Nat} {rows:List cI} (h:nE P w K mg base Ad.Keeper Ad.Apart n H a rows (k+5)) (hs:Ap.sum rows<=99):KA P w K mg base Ad.Keeper n H a (Ap.mul rows) (1+Ap.sum rows) (λ i s=>Ap.cD rows (Ap.cT rows i) s) (Ap.after rows) (k+7):=by
 obtain ⟨dx,pr,vs,ha,mM,lv,eO⟩:=h.ex
 exact ⟨⟨_,dx,_,_,_,_,_,ha,⟨rfl,rfl,rfl,rfl⟩,T.cK,(iC T (k:=k)).mono (by lia),(iV T (k:=k)).mono (by lia),p3 T,m8 T,λ q k'=>⟨a,n,rows,rfl,h.same q,k'⟩,λ q k'=>⟨a,n,rows,rfl,h.same q,k'⟩,
   λ q hi i5 hn k'=>⟨a,n,rows,_,_,_,rfl,h.same q,hi,i5,hn,k'⟩,λ q hi i5 hn k'=>⟨a,n,rows,_,_,_,rfl,h.same q,hi,i5,hn,k'⟩,
   .ins ha T.cK T.vZ T.dg T.bN T.wa,λ q => .ins (q _ _ ha) T.cK T.vZ T.dg T.bN T.wa,T.CF⟩,h.n4,Ap.mul_pos h.ok,h.hm,by lia,λ i _=>Ap.Cj h.ok i⟩
def jZ (P:Program) (w:World) (K:W.Frag) (mg:Str->Option Value) (base:Heap) (CK:Addr) (n:Nat) (H H0:Hp) (v:V) (r:cI) (k:Nat):Prop:=∃ t p b,v = .ref t/\H t=some (.tup [.ref p,.ref b])/\H p=some (.lst (r.rooms.map ao))/\KA P w K mg base CK r.rooms.length H0 b r.m r.sz r.W r.F k/\(∀ x∈r.rooms,x<n)/\r.rooms.length<=4
inductive By (P:Program) (w:World) (K:W.Frag) (mg:Str->Option Value) (base:Heap) (CK CA N:Addr) (vs:List V) (H:Hp) (Q:VK) (E:XK):Prop
 | mk (x dx p n k rows:_) (us:List V) (H0:_) (_:vs=[.ref x,.ref p]) (_:H x=some (.ins CA dx [])) (_:av H0 H) (_:H0 x=none) (_:H p=some (.lst us)) (_:us.length=rows.length) (_:(∀ (i:Nat) (v:V) (r:cI),us[i]?=some v->rows[i]?=some r->jZ P w K mg base CK n H H0 v r (k+5))) (_:rows.length<=4) (_:Ap.mul rows<=4000) (_:Ap.sum rows<=99) (_:n<=4) (_:k<=30) (_:(Ap.mul rows<=60->1+Ap.sum rows<=15->∀ Hb H',av H0 Hb->av Hb H'->(∀ b o,H b=some o->b≠x->H' b=some o)->(∀ b o,H b=some o->b≠x->H0 b=none->Hb b=none)->nE P w K mg base CK CA n Hb x rows (k+5)->Q .dC H')) (_:(60<Ap.mul rows∨15<1+Ap.sum rows->∀ H',(∀ b o,H b=some o->b≠x->H' b=some o)->E (.ref N) none H'))
def p7 (H0 H H':Hp) (x:Addr):Hp:=λ b=>if ((H b).isNone || decide (b=x))=true then H' b else H0 b
def vJ (P:Program) (w:World) (K:W.Frag) (mg:Str->Option Value) (base:Heap) (CK:Addr) (n:Nat) (H H0 H':Hp) (v:V) (r:cI) (k:Nat):Prop:=∃ t p b,v = .ref t/\H' t=some (.tup [.ref p,.ref b])/\H' p=some (.tup (r.rooms.map ao))/\H t=none/\H p=none/\KA P w K mg base CK r.rooms.length H0 b r.m r.sz r.W r.F k/\(∀ x∈r.rooms,x<n)/\r.rooms.length<=4
theorem vJ.moved {n k:Nat} {H H0 H' qi:Hp} {v:V} {r:cI} {D:Addr} {l l':List V} (h:vJ P w K mg base Ad.Keeper n H H0 H' v r k) (s:av H' qi) (hD:qi D=some (.lst l)):vJ P w K mg base Ad.Keeper n H H0 (upd qi D (.lst l')) v r k:=by
 obtain ⟨t,p,b,e,h1,h2,h3⟩:=h
 exact ⟨t,p,b,e,by rw [aq (iz (s _ _ h1) hD nofun)];exact s _ _ h1,by rw [aq (iz (s _ _ h2) hD nofun)];exact s _ _ h2,h3⟩
theorem dX (T:Txt K mg Ad):iA P w K mg base Ad.Apart "__init__" 39 ["self","rows"] [] (By P w K mg base Ad.Keeper Ad.Apart Ad.ba):=by
 refine T.lS.xM kA (λ vs H Q E h=>?_) (λ _ _ _ _ _ _ us hl=>uo hl λ _ _=>rfl) (λ f _ _ _ s H vs Q E hr h=>?_)
 . obtain ⟨x,dx,p,n,k,rows,us,H0,rfl,_⟩:=h
   rfl
 .
  obtain ⟨x,dx,p,n,k,rows,us,H0,rfl,hx,S0,f0,hp,lu,eO,l4,hm,hsm,n4,k30,q1,q2⟩:=h
  refine ⟨_,(ak (gR (pv 0) (gJ ["rooms","keeper"] [] [] .nil rfl (dQ (pv 1)) (λ _ _ _ _ _=>(bW (K:=K) (n:=2) rfl rfl (aE (aA (i:=0) (show (["rooms","keeper"]:List Str).Nodup by decide +kernel) rfl (lc rfl)) (aE (aA (i:=1) (show (["rooms","keeper"]:List Str).Nodup by decide +kernel) rfl (lc rfl)) bU)))) (λ _ _ _ _ _=>eK) (λ _ _ _ _ _=>(bH (aa (bO (uN (K:=K) rfl) (by rfl) T.gG fx (aa (pv 0) ah)) (aa (pv 1) ah)))) rfl (by decide +kernel) (by decide +kernel) (by decide +kernel)) rfl)
    (am (gE (oz (eV (K:=K) T) hr.m (dA λ _ _ _ z=>z) (aa (pv 0) ah))))),?_⟩
  try dsimp only [fj,aX]
  have nr0:∀ {H1:Hp},av H H1->∀ {b:Addr},H1 b=none->H b=none:=λ {H1} S {b} e=>by
    cases q:H b with
    | none=>rfl
    | some o=>rw [S _ _ q] at e;cases e
  refine ⟨_,rfl,p,rfl,⟨_,bh.of hp⟩,λ D hD=>?_⟩
  refine eX (K:=K) (a:=p) (xs:=us) (λ j acc σ H'=>A5 (av H H') (H' D=some (.lst acc)) (acc.length=j) (∀ (i:Nat) (v:V) (r:cI),acc[i]?=some v->rows[i]?=some r->vJ P w K mg base Ad.Keeper n H H0 H' v r (k+5)) (E2 λ v1 v2=>σ=[v1,v2])) ⟨al hD,ac,rfl,λ i v r e=>by simp at e,none,none,rfl⟩ (λ j acc σ H' _ e=>by obtain ⟨e,_⟩:=e;exact bh.of (e _ _ hp)) ?_ ?_
  .
   rintro j y acc σ H1 hy ⟨S,jR,la,tF,v1,v2,rfl⟩
   have hj:j<rows.length:=by rw [← lu];exact (List.getElem?_eq_some_iff.mp hy).1
   obtain ⟨t,pq,b,rfl,ht,rW,kb,dF,Al⟩:=eO j _ _ hy (Wz hj)
   refine ⟨t,_,rfl,bQ.of (S _ _ ht),rfl,_,_,rfl,_,_,rfl,rfl,?_⟩
   refine ⟨_,rfl,pq,_,rfl,.inl ⟨bh.of (S _ _ rW),λ tp Kl=>⟨_,rfl,kh,λ tt WG=>?_⟩⟩⟩
   have S2:=al (o:=.tup (rows[j].rooms.map ao)) Kl
   have S3:=al (o:=.tup [.ref tp,.ref b]) WG
   have Kd:=S2.trans S3
   have e1:=S3 _ _ (show (upd H1 tp (.tup (rows[j].rooms.map ao))) tp=some (.tup (rows[j].rooms.map ao)) from ac)
   have e2:(upd (upd H1 tp (.tup (rows[j].rooms.map ao))) tt (.tup [.ref tp,.ref b])) tt=some (.tup [.ref tp,.ref b]):=ac
   have n1:=nr0 S Kl
   have n2:=nr0 (S.trans S2) WG
   generalize upd (upd H1 tp (.tup (rows[j].rooms.map ao))) tt (.tup [.ref tp,.ref b])=H3 at Kd e1 e2 ⊢
   refine ⟨Kd _ _ jR,bq (by lia),(S.trans Kd).put hD,ac,by rw [acC,la];rfl,λ i v r ev er=>?_,_,_,rfl⟩
   by_cases c:i<acc.length
   . rw [ahg c] at ev
     exact (tF i v r ev er).moved Kd (Kd _ _ jR)
   .
    have hi:i=acc.length:=by
      have:=(List.getElem?_eq_some_iff.mp ev).1
      rw [acC] at this
      have:i<acc.length+1:=this
      lia
    subst hi
    rw [aew (aau _),alS] at ev
    cases ev
    rw [la,Wz hj] at er
    cases er
    exact vJ.moved ⟨tt,tp,b,rfl,e2,e1,n2,n1,kb,dF,Al⟩ (av.refl _) (Kd _ _ jR)
  .
   rintro acc σ H1 ⟨S,jR,la,tF,v1,v2,rfl⟩
   rw [lu] at la
   have B0:sI K Ad.Apart x dx H1 H1 []:=.start (S _ _ hx)
   refine ⟨_,rfl,x,_,dx,_,rfl,B0.at_,T.cK,T.cM,lt1000 rfl,?_⟩
   have B1:=B0.put (fs':=dE "rows" (.ref D) [])
   generalize upd H1 x (.ins Ad.Apart dx (dE "rows" (.ref D) []))=H2 at B1 ⊢
   have xD:D≠x:=(aB hx hD).symm
   have S2:av H0 H2:=λ a o e=>B1.st a o (S _ _ (S0 _ _ e)) (aB e f0)
   have mk:∀ (Hz:Hp),av H0 Hz->Hz x=some (.ins Ad.Apart dx [("rows",.ref D)])->Hz D=some (.lst acc)->(∀ b o,H b=none->H1 b=some o->Hz b=some o)->nE P w K mg base Ad.Keeper Ad.Apart n Hz x rows (k+5):=λ Hz Sz ZN hD' hn=>⟨⟨dx,D,acc,ZN,hD',la,λ i v r ev er=>by
     obtain ⟨t,p',b,rfl,q1,q2,q3,q4,kb,q5⟩:=tF i v r ev er
     exact ⟨t,p',b,rfl,hn _ _ q3 q1,hn _ _ q4 q2,kb.same Sz,q5⟩⟩,l4,hm,n4⟩
   have ap:nE P w K mg base Ad.Keeper Ad.Apart n H2 x rows (k+5):=mk H2 S2 B1.at_ (B1.st _ _ jR xD) λ b o e1 e2=>B1.st _ _ e2 (aB hx e1).symm
   have kp:∀ {H3:Hp},av H2 H3->∀ b o,H b=some o->b≠x->H3 b=some o:=λ S3 b o hb n=>S3 _ _ (B1.st b o (S _ _ hb) n)
   refine ⟨_,rfl,x,_,dx,_,_,_,Ap.mul rows,1+Ap.sum rows,rfl,B1.at_,rfl,rfl,T.cK,(iC T (k:=k)).mono (by lia),(iV T (k:=k)).mono (by lia),λ q'=>⟨x,n,rows,rfl,ap,q'⟩,λ S q'=>⟨x,n,rows,rfl,ap.same S,q'⟩,λ z1 z2 H3 S3=>?_,λ z H3 S3=>q2 z H3 (kp S3)⟩
   have nw:∀ {b:Addr},H b=none∨b=x->p7 H0 H H3 x b=H3 b:=λ {b} h=>by unfold p7;rw [aeA (by rcases h with h|h<;>simp [h])]
   have S4:av H0 (p7 H0 H H3 x):=λ b o e=>by unfold p7;rw [adH (by simp [S0 _ _ e,aB e f0])];exact e
   refine q1 z1 z2 (p7 H0 H H3 x) H3 S4 (λ b o e=>?_) (kp S3) (λ b o e n z=>by unfold p7;rw [adH (by simp [e,n])];exact z) (mk _ S4 ((nw (.inr rfl)).trans (S3 _ _ B1.at_)) ((nw (.inl hD)).trans (S3 _ _ (B1.st _ _ jR xD))) λ b o e1 e2=>(nw (.inl e1)).trans (S3 _ _ (B1.st _ _ e2 (aB hx e1).symm)))
   unfold p7 at e
   split at e
   . exact e
   . rename_i c
     simp only [Bool.or_eq_true,decide_eq_true_eq,not_or] at c
     exact kp S3 b o (S0 _ _ e) c.2
inductive IK  (vs:List V) (H:Hp) (Q:VK) (_E:XK):Prop
 | mk (c k t:Int) (_:vs=[.int c,.int k,.int t]) (_:0<=k) (_:k<=1000) (_:0<=t) (_:t<=7) (_:∀ H' r,av H H'->0<=r->r<=65537->Q (.int r) H')
theorem zG {t:Int} (h0:0<=t) (h1:t<=7):∃ p:Int,uh ([.int 65537,.int 65521,.int 65519,.int 65497,.int 65479,.int 65449,.int 65447,.int 65437]:List V) t=some (.int p)/\65437<=p/\p<=65537:=by
 have:t=0∨t=1∨t=2∨t=3∨t=4∨t=5∨t=6∨t=7:=by lia
 rcases this with rfl|rfl|rfl|rfl|rfl|rfl|rfl|rfl<;>exact ⟨_,rfl,by decide,by decide⟩
theorem dU (T:Txt K mg Ad):Def P w K mg base "_law_mix" 1 ["_law_cell","_law_k","_law_turn"] IK:=by
 refine T.zK.gS oW λ f aP A outer s H vs Q E hr h=>?_
 obtain ⟨c,k,t,rfl,k0,k1,t0,t1,q⟩:=h
 refine ⟨_,(ak (aG (i:=3) oW.nd rfl (lc rfl) (aQ aO (aU (aa ag (aa ag (aa ag (aa ag (aa ag (aa ag (aa ag (aa ag ah))))))))) (pv 2) (λ _ _=>rfl)))
     (am (ax (az aS (az eN (az bg (az aS (pv 0) ag) ag) (az bg (az bg (az eN (pv 1) (pv 1)) ag) (az eN ag (pv 2)))) (pv 3))))),?_⟩
 try dsimp only [fj,aX]
 obtain ⟨pr,epr,p0,p1⟩:=zG t0 t1
 refine ⟨(by show 8<=sizeLine;decide),λ pl fD=>⟨_,rfl,pl,_,_,_,rfl,rfl,.inl (bh.of ac),epr,?_⟩⟩
 refine ⟨_,rfl,_,_,rfl,rfl,by decide,λ m m0 m1 _=>⟨_,_,rfl,rfl,λ a ea=>⟨_,rfl,_,rfl,_,_,rfl,rfl,⟨100,100,Kp 100 (by lia) (by lia),Kp 100 (by lia) (by lia),by decide⟩,λ kk ekk=>?_⟩⟩⟩
 have kk0:0<=kk:=by rw [ekk];exact Int.mul_nonneg k0 k0
 have kk1:kk<=1000 * 1000:=by rw [ekk];exact Int.mul_le_mul k1 k1 k0 (by decide)
 refine ⟨_,_,rfl,rfl,λ s1 es1=>⟨_,rfl,_,_,rfl,rfl,⟨100,100,Kp 100 (by lia) (by lia),Kp 100 (by lia) (by lia),by decide⟩,λ tt ett=>⟨_,_,rfl,rfl,λ s2 es2=>?_⟩⟩⟩
 refine ⟨_,_,rfl,rfl,⟨100,100,Kp 100 (by lia) (by lia),Kp 100 (by lia) (by lia),by decide⟩,λ pp epp=>⟨_,rfl,_,_,rfl,rfl,by lia,λ r r0 r1 _=>?_⟩⟩
 exact q _ r (al fD) r0 (by lia)
theorem cE (T:Txt K mg Ad):Def P w K mg base "_law_cell_at" 1 ["_law_script","_law_k"] (xn K):=by
 refine T.qT.gS pG λ f aP A outer s H vs Q E hr h=>?_
 obtain ⟨a,ns,z,rfl,hS,hz,k⟩:=h
 refine ⟨_,(ak (bx (aJ jP (pv 1) (aZ ce (by rfl) T.hU eY (aa (pv 0) ah)) (aK _)) (am (ax (aQ aO (pv 0) (pv 1) (λ _ _=>rfl)))) aM)
     (am (ax ag))),?_⟩
 try dsimp only [fj,aX]
 refine ⟨_,rfl,_,rfl,_,_,rfl,.inl hS,λ n en=>⟨_,_,rfl,rfl,_,rfl,?_⟩⟩
 rw [aad] at en
 refine dL (λ h=>?_) (λ h=>?_)
 .
  have hl:z.toNat<ns.length:=by lia
  have e:(ns.map V.int)[z.toNat]?=some (.int (ns[z.toNat]'hl)):=by simp [hl]
  have e2:=dy e
  rw [Int.toNat_of_nonneg hz] at e2
  refine ⟨_,rfl,_,rfl,_,_,_,_,rfl,rfl,.inl hS,e2,k _ (.inl (ahU hl))⟩
 . exact k 0 (.inr rfl)
def fZ (H:Hp):Hp:=λ b=>match H b with
 | some (.jX _)=>none
 | o=>o
theorem cN {H:Hp} {b:Addr} {o:HO} (h:H b=some o) (n:∀ ps,o ≠ .jX ps):fZ H b=some o:=by
 unfold fZ
 rw [h]
 cases o<;>first|rfl|exact absurd rfl (n _)
theorem gN {H:Hp}:av (fZ H) H:=λ b o h=>by
 unfold fZ at h
 split at h
 . cases h
 . exact h
theorem wY {H H':Hp} (g:Gr H H'):av (fZ H) (fZ H'):=λ b o h=>by
 have h1:=gN _ _ h
 have n:∀ ps,o ≠ .jX ps:=λ ps e=>by
   subst e
   unfold fZ at h
   rw [h1] at h
   cases h
 exact cN (g b o h1 n) n
inductive F9  (vs:List V) (H:Hp) (Q:VK) (_E:XK):Prop
 | mk (c:Int) (k:Nat) (_:vs=[.int c,ao k]) (_:k<=100) (_:∀ ps s H',av H H'->tL H' ps s->Sz 4 s->s.bu<16->Q (.ref ps) H')
theorem kS (T:Txt K mg Ad):Def P w K mg base "_law_state" 2 ["_law_cell","_law_k"] F9:=by
 refine T.wf.gS fT λ f aP A outer s H vs Q E hr h=>?_
 obtain ⟨c,k,rfl,hk,q⟩:=h
 refine ⟨_,(ak (aG (i:=2) fT.nd rfl (lc rfl) (bO cc (by rfl) T.gG fx (aa (gJ ["_law_j"] ["_law_cell","_law_k"] [0,1] (.cons ⟨rfl,rfl,.inl rfl⟩ (.cons ⟨rfl,rfl,.inl rfl⟩ .nil)) rfl (cg rfl T.du (aa ag ah)) (λ _ _ _ _ _=>(aA (i:=0) (show (["_law_j","_law_cell","_law_k"]:List Str).Nodup by decide +kernel) rfl (lc rfl))) (λ _ _ _ _ _=>eK) (λ _ _ _ _ _=>(az aS (ay (dU (K:=K) T) hr.m (aa (pv 1) (aa (az bg (pv 2) (pv 0)) (aa ag ah)))) ag)) rfl (by decide +kernel) (by decide +kernel) (by decide +kernel)) ah)))
     (ak (aG (i:=3) fT.nd rfl (lc rfl) (bO cc (by rfl) T.gG fx (aa (gJ ["_law_j"] ["_law_cell","_law_k"] [0,1] (.cons ⟨rfl,rfl,.inl rfl⟩ (.cons ⟨rfl,rfl,.inl rfl⟩ .nil)) rfl (cg rfl T.du (aa ag ah)) (λ _ _ _ _ _=>(aA (i:=0) (show (["_law_j","_law_cell","_law_k"]:List Str).Nodup by decide +kernel) rfl (lc rfl))) (λ _ _ _ _ _=>eK) (λ _ _ _ _ _=>(az aS (ay (dU (K:=K) T) hr.m (aa (pv 1) (aa (az bg (pv 2) (pv 0)) (aa ag ah)))) ag)) rfl (by decide +kernel) (by decide +kernel) (by decide +kernel)) ah)))
     (ak (aG (i:=4) fT.nd rfl (lc rfl) (bO cc (by rfl) T.gG fx (aa (gJ ["_law_j"] ["_law_cell","_law_k"] [0,1] (.cons ⟨rfl,rfl,.inl rfl⟩ (.cons ⟨rfl,rfl,.inl rfl⟩ .nil)) rfl (cg rfl T.du (aa ag ah)) (λ _ _ _ _ _=>(aA (i:=0) (show (["_law_j","_law_cell","_law_k"]:List Str).Nodup by decide +kernel) rfl (lc rfl))) (λ _ _ _ _ _=>eK) (λ _ _ _ _ _=>(az aS (ay (dU (K:=K) T) hr.m (aa (pv 1) (aa (az bg (pv 2) (pv 0)) (aa ag ah)))) ag)) rfl (by decide +kernel) (by decide +kernel) (by decide +kernel)) ah)))
     (am (ax (bH (aa (pv 2) (aa (az aS (ay (dU (K:=K) T) hr.m (aa (pv 0) (aa (pv 1) (aa ag ah)))) ag) (aa (pv 3) (aa (pv 4) (aa (az aS (ay (dU (K:=K) T) hr.m (aa (pv 0) (aa (pv 1) (aa ag ah)))) ag) ah))))))))))),?_⟩
 try dsimp only [fj,aX]
 first|(refine lq ?_;intro _ _ _ _ _)|skip
 refine ⟨_,rfl,by lia,by lia,λ D1 jR=>?_⟩
 refine ig (lo:=0) (n:=4) (λ i acc σ H'=>A4 (av H H') (H' D1=some (.lst acc)) (∃ (bs:List Int),acc=bs.map V.int/\bs.length=i) (∃ v,σ=[v,some (.int c),some (ao k)]))
   ⟨al jR,ac,⟨[],rfl,rfl⟩,none,rfl⟩ ?_ ?_
 . rintro i acc σ H' hi ⟨s1,hD,⟨bs,rfl,lb⟩,v,rfl⟩
   refine ⟨_,rfl,_,rfl,_,rfl,_,_,rfl,rfl,λ y ey=>⟨c,y,2,rfl,by lia,by lia,by decide,by decide,λ H2 r S2 r0 r1=>⟨_,_,rfl,rfl,by decide,λ z z0 z1 ez=>?_⟩⟩⟩
   exact ⟨S2 _ _ hD,bq (by rw [aad];lia),(s1.trans S2).put jR,ac,⟨bs++[z],by rw [acT];rfl,by rw [acC,lb];rfl⟩,_,rfl⟩
 .
  rintro acc σ H1 ⟨s1,hD,⟨bs,rfl,lb⟩,v,rfl⟩
  refine ⟨D1,_,rfl,.inl ⟨bh.of hD,λ pb Ki=>?_⟩⟩
  have t1:=s1.trans (al (o:=.tup (bs.map V.int)) Ki)
  have kb:(upd H1 pb (.tup (bs.map V.int))) pb=some (.tup (bs.map V.int)):=ac
  generalize upd H1 pb (.tup (bs.map V.int))=H2 at t1 kb ⊢
  refine ⟨_,rfl,by lia,by lia,λ D2 RN=>?_⟩
  refine ig (lo:=0) (n:=4) (λ i acc σ H'=>A4 (av H2 H') (H' D2=some (.lst acc)) (∃ (bs:List Int),acc=bs.map V.int/\bs.length=i) (∃ v,σ=[v,some (.int c),some (ao k)]))
    ⟨al RN,ac,⟨[],rfl,rfl⟩,none,rfl⟩ ?_ ?_
  . rintro i acc σ H' hi ⟨s1,hD,⟨bs,rfl,lb⟩,v,rfl⟩
    refine ⟨_,rfl,_,rfl,_,rfl,_,_,rfl,rfl,λ y ey=>⟨c,y,3,rfl,by lia,by lia,by decide,by decide,λ H2 r S2 r0 r1=>⟨_,_,rfl,rfl,by decide,λ z z0 z1 ez=>?_⟩⟩⟩
    exact ⟨S2 _ _ hD,bq (by rw [aad];lia),(s1.trans S2).put RN,ac,⟨bs++[z],by rw [acT];rfl,by rw [acC,lb];rfl⟩,_,rfl⟩
  .
   rintro acc σ H3 ⟨s3,hD,⟨us,rfl,lu⟩,v,rfl⟩
   refine ⟨D2,_,rfl,.inl ⟨bh.of hD,λ pw xI=>?_⟩⟩
   have t3:=s3.trans (al (o:=.tup (us.map V.int)) xI)
   have ku:(upd H3 pw (.tup (us.map V.int))) pw=some (.tup (us.map V.int)):=ac
   generalize upd H3 pw (.tup (us.map V.int))=H4 at t3 ku ⊢
   refine ⟨_,rfl,by lia,by lia,λ D3 mT=>?_⟩
   refine ig (lo:=0) (n:=4) (λ i acc σ H'=>A4 (av H4 H') (H' D3=some (.lst acc)) (∃ (bs:List Int),acc=bs.map V.int/\bs.length=i) (∃ v,σ=[v,some (.int c),some (ao k)]))
     ⟨al mT,ac,⟨[],rfl,rfl⟩,none,rfl⟩ ?_ ?_
   . rintro i acc σ H' hi ⟨s1,hD,⟨bs,rfl,lb⟩,v,rfl⟩
     refine ⟨_,rfl,_,rfl,_,rfl,_,_,rfl,rfl,λ y ey=>⟨c,y,4,rfl,by lia,by lia,by decide,by decide,λ H2 r S2 r0 r1=>⟨_,_,rfl,rfl,by decide,λ z z0 z1 ez=>?_⟩⟩⟩
     exact ⟨S2 _ _ hD,bq (by rw [aad];lia),(s1.trans S2).put mT,ac,⟨bs++[z],by rw [acT];rfl,by rw [acC,lb];rfl⟩,_,rfl⟩
   .
    rintro acc σ H5 ⟨s5,hD,⟨fs,rfl,lf⟩,v,rfl⟩
    refine ⟨D3,_,rfl,.inl ⟨bh.of hD,λ pf hpf=>?_⟩⟩
    have t5:=s5.trans (al (o:=.tup (fs.map V.int)) hpf)
    have kf:(upd H5 pf (.tup (fs.map V.int))) pf=some (.tup (fs.map V.int)):=ac
    generalize upd H5 pf (.tup (fs.map V.int))=H6 at t5 kf ⊢
    refine ⟨_,rfl,_,rfl,_,rfl,c,(k:Int),5,rfl,by lia,by lia,by decide,by decide,λ H7 r S7 r0 r1=>⟨_,_,rfl,rfl,by decide,λ bu b0 b1 eb=>?_⟩⟩
    obtain ⟨bu,rfl⟩:=aga b0
    refine ⟨_,rfl,_,rfl,_,rfl,_,rfl,c,(k:Int),6,rfl,by lia,by lia,by decide,by decide,λ H8 r2 S8 r20 r21=>⟨_,_,rfl,rfl,by decide,λ hp h0 h1 eh=>⟨af8 rfl,λ ps WR=>?_⟩⟩⟩
    have S9:=S8.trans (al (o:=.tup [.ref pb,.int (bu:Int),.ref pw,.ref pf,.int hp]) WR)
    have T9:=S7.trans S9
    exact q ps ⟨bs,us,fs,bu,hp⟩ _ (t1.trans (t3.trans (t5.trans T9))) ⟨pb,pw,pf,ac,(t3.trans (t5.trans T9)) _ _ kb,(t5.trans T9) _ _ ku,T9 _ _ kf⟩ ⟨lb,lu,lf⟩ (by lia)
theorem Am {r:Nat} (h:r<4):uh [V.int 1,V.int 2,V.int 4,V.int 8] (r:Int)=some (ao (2 ^ r)):=by
 have:r=0∨r=1∨r=2∨r=3:=by lia
 rcases this with rfl|rfl|rfl|rfl<;>rfl
theorem xy {r:Nat} (h:r<2):uh [V.int 1,V.int 2] (r:Int)=some (ao (2 ^ r)):=by
 have:r=0∨r=1:=by lia
 rcases this with rfl|rfl<;>rfl
theorem C9 {b r:Nat} {y z:Int} (e:y=Int.fdiv (b:Int) ((2 ^ r:Nat):Int)) (e2:z=y % 2):decide (V.int z=V.int 1)=b.testBit r:=by
 have e3:z=((b / 2 ^ r % 2:Nat):Int):=by rw [e2,e,agx _ (alU _)];push_cast;rfl
 rw [yp,amr]
 show decide (z=1)=_
 rw [decide_eq_decide,e3]
 lia
theorem um (l:List Nat) (r:Nat):i3 (l++[r]) 0=i3 l 0 ||| 2 ^ r:=by unfold i3;rw [List.foldl_append];rfl
theorem EW {l:List Nat} {r:Nat} (h:r∉l):i3 l 0+2 ^ r=i3 (l++[r]) 0:=by
 rw [um]
 exact Bit.C7 (by rw [nU];simp [h])
inductive FN  (vs:List V) (H:Hp) (Q:VK) (_E:XK):Prop
 | mk (z:Int) (_:vs=[.int z,.int z]) (_:Q (.bl true) H)
theorem cx (T:Txt K mg Ad):Def P w K mg base "_law_whole" 1 ["_law_found","_law_due"] FN:=by
 refine T.uU.gS tf λ f aP A outer s H vs Q E hr h=>?_
 obtain ⟨z,rfl,k⟩:=h
 refine ⟨_,(am (ax (mq (aZ d4 (by rfl) T.bX bK (aa (pv 0) (aa (jv (v:=V.ty "int") rfl T.yB tJ rfl) ah))) (mq (Jx (aZ d4 (by rfl) T.bX bK (aa (pv 0) (aa (jv (v:=V.ty "bool") rfl T.Bg yf rfl) ah)))) (iY (fu cO (pv 0) (pv 1) (aK _))))))),?_⟩
 try dsimp only [fj,aX]
 refine ⟨_,rfl,_,_,_,_,_,rfl,.int z,rfl,rfl,_,rfl,j9 ⟨_,rfl,_,_,_,_,_,rfl,.int z,rfl,kK K,_,rfl,_,rfl,j9 ⟨_,rfl,_,rfl,rfl,?_⟩⟩⟩
 rw [ajv rfl]
 exact k
inductive Fo (K:W.Frag) (vs:List V) (H:Hp) (Q:VK) (_E:XK):Prop
 | mk (ps p s:_) (l:List Nat) (_:vs=[.ref ps,.ref p]) (_:tL H ps s) (_:Sz 4 s) (_:bh K H p (l.map ao)) (_:l.length<=2) (_:(∀ r∈l,r<4)) (_:∀ t H',av H H'->tL H' t (Ap.qg s l)->Q (.ref t) H')
theorem gp (T:Txt K mg Ad):Def P w K mg base "_law_portion" 1 ["_law_state_here","_law_some"] (Fo K):=by
 refine T.qD.gS cC λ f aP A outer s H vs Q E hr h=>?_
 obtain ⟨ps,p,st,l,rfl,⟨pb,pw,pf,h1,h2,h3,h4⟩,⟨lb,lw,lf⟩,hp,l2,dF,q⟩:=h
 refine ⟨_,(ak (aG (i:=2) cC.nd rfl (lc rfl) ag)
     (ak (df aem rfl (cg rfl T.du (aa (aZ ce (by rfl) T.hU eY (aa (pv 1) ah)) ah)) (aA (i:=3) cC.nd rfl (lc rfl)) (am (bx (aJ cO (az aS (az bE (aQ aO (pv 0) ag (λ _ _=>rfl)) (aQ aO (aU (aa ag (aa ag (aa ag (aa ag ah))))) (aQ aO (pv 1) (pv 3) (λ _ _=>rfl)) (λ _ _=>rfl))) ag) ag (aK _)) (am (aG (i:=2) cC.nd rfl (lc rfl) (az bg (pv 2) (aQ aO (aU (aa ag (aa ag ah))) (pv 3) (λ _ _=>rfl))))) aM)))
     (ak (aG (i:=4) cC.nd rfl (lc rfl) (bO cc (by rfl) T.gG fx (aa (gJ ["_law_one"] ["_law_state_here"] [0] (.cons ⟨rfl,rfl,.inl rfl⟩ .nil) rfl (dQ (pv 1)) (λ _ _ _ _ _=>(aA (i:=0) (show (["_law_one","_law_state_here"]:List Str).Nodup by decide +kernel) rfl (lc rfl))) (λ _ _ _ _ _=>eK) (λ _ _ _ _ _=>(aQ (cQ (K:=K) rfl) (aQ (cQ (K:=K) rfl) (pv 1) ag (λ _ _=>rfl)) (pv 0) (λ _ _=>rfl))) rfl (by decide +kernel) (by decide +kernel) (by decide +kernel)) ah)))
     (ak (aG (i:=5) cC.nd rfl (lc rfl) (bO cc (by rfl) T.gG fx (aa (gJ ["_law_one"] ["_law_state_here"] [0] (.cons ⟨rfl,rfl,.inl rfl⟩ .nil) rfl (dQ (pv 1)) (λ _ _ _ _ _=>(aA (i:=0) (show (["_law_one","_law_state_here"]:List Str).Nodup by decide +kernel) rfl (lc rfl))) (λ _ _ _ _ _=>eK) (λ _ _ _ _ _=>(aQ (cQ (K:=K) rfl) (aQ (cQ (K:=K) rfl) (pv 1) ag (λ _ _=>rfl)) (pv 0) (λ _ _=>rfl))) rfl (by decide +kernel) (by decide +kernel) (by decide +kernel)) ah)))
     (am (ax (bH (aa (pv 4) (aa (pv 2) (aa (pv 5) (aa (bO cc (by rfl) T.gG fx (aa (gJ ["_law_one"] ["_law_state_here"] [0] (.cons ⟨rfl,rfl,.inl rfl⟩ .nil) rfl (dQ (pv 1)) (λ _ _ _ _ _=>(aA (i:=0) (show (["_law_one","_law_state_here"]:List Str).Nodup by decide +kernel) rfl (lc rfl))) (λ _ _ _ _ _=>eK) (λ _ _ _ _ _=>(aQ (cQ (K:=K) rfl) (aQ (cQ (K:=K) rfl) (pv 1) ag (λ _ _=>rfl)) (pv 0) (λ _ _=>rfl))) rfl (by decide +kernel) (by decide +kernel) (by decide +kernel)) ah)) (aa (aQ aO (pv 0) ag (λ _ _=>rfl)) ah)))))))))))),?_⟩
 try dsimp only [fj,aX]
 first|(refine uI ?_;intro _ _ _ _ _ _)|skip
 refine ⟨_,rfl,p,_,rfl,.inl hp,λ m em=>⟨m,rfl,by rw [aad] at em;lia,by rw [aad] at em;lia,?_⟩⟩
 rw [aad] at em
 have hm:m.toNat=l.length:=by lia
 refine cX (lo:=0) (n:=m.toNat) (λ i σ H'=>av H H'/\E3 λ v3 v4 v5=>σ=[some (.ref ps),some (.ref p),some (ao (i3 (Ap.places (λ j=>st.bu.testBit (l.getD j 0)) i) 0)),v3,v4,v5]) ⟨av.refl _,none,none,none,rfl⟩ ?_ ?_
 .
  rintro _ i σ H1 hi ⟨S,v3,v4,v5,rfl⟩
  have hil:i<l.length:=by lia
  have er:=Wz hil
  have hr4:=dF _ (ahU hil)
  have eg:l.getD i 0=l[i]:=by rw [adO,er];rfl
  have p8:2 ^ l[i]<=2 ^ 3:=afd (by decide) (by lia)
  have p1:=Nat.two_pow_pos l[i]
  refine ⟨_,rfl,ps,_,_,_,rfl,rfl,.inr (bQ.of (S _ _ h1)),rfl,GI,λ pl fD=>?_⟩
  have S1:=al (o:=.lst [.int 1,.int 2,.int 4,.int 8]) fD
  have T1:=S.trans S1
  refine ⟨_,rfl,_,rfl,p,_,_,ao l[i],rfl,rfl,.inl (T1.seq hp),(by rw [agd];exact dy (by rw [aei,er];rfl)),pl,_,_,_,rfl,rfl,.inl (bh.of ac),Am hr4,_,_,rfl,rfl,⟨by lia,(show Int.natAbs _<2 ^ 8999 from aav (show Int.natAbs _<2 ^ 12 by lia) (afd (by decide) (by decide)))⟩,λ y ey=>⟨_,_,rfl,rfl,by decide,λ z z0 z1 ez=>⟨rfl,_,rfl,?_⟩⟩⟩
  rw [C9 ey ez]
  have en:=Ap.jf (λ j=>st.bu.testBit (l.getD j 0)) i
  rw [eg] at en
  cases tb:st.bu.testBit l[i] with
  | true =>
    rw [tb,aeA rfl] at en
    refine j9 ⟨_,rfl,kh,λ CM xc=>⟨_,rfl,CM,_,_,_,rfl,rfl,.inl (bh.of ac),(by rw [agd];exact xy (by lia)),_,_,rfl,rfl,λ y2 e2=>?_⟩⟩
    have e3:y2=((i3 (Ap.places (λ j=>st.bu.testBit (l.getD j 0)) (i+1)) 0:Nat):Int):=by
      rw [e2,en,← EW (λ h=>ahc _ (Ap.gf h).1)]
      push_cast;rfl
    rw [e3]
    exact ⟨T1.trans (al xc),_,_,_,rfl⟩
  | false =>
    rw [tb,adH abS,agb] at en
    exact gw ⟨T1,some (.int (0+(i:Int))),v4,v5,by rw [en];rfl⟩
 .
  rintro σ H1 ⟨S,v3,v4,v5,rfl⟩
  rw [hm]
  have at_:∀ {zs:List Int} {j r:Nat},zs.length=4->l[j]?=some r->uh (zs.map V.int) (r:Int)=some (.int (zs.getD r 0)):=λ {zs j r} lz e=>lZ lz (dF r (afB e))
  refine ⟨_,rfl,p,rfl,⟨_,S.seq hp⟩,λ D hD=>?_⟩
  refine eX (K:=K) (a:=p) (xs:=l.map ao) (λ j acc σ H3=>A4 (av H1 H3) (H3 D=some (.lst acc)) (acc=((l.take j).map λ r=>st.bs.getD r 0).map V.int) (∃ v,σ=[v,some (.ref ps)])) ⟨al hD,ac,rfl,none,rfl⟩ (λ j acc σ H3 _ e=>e.1.seq (S.seq hp)) ?_ ?_
  .
   rintro j y acc σ H3 hy ⟨s3,mT,rfl,v,rfl⟩
   obtain ⟨r,er,rfl⟩:=eM hy
   have GF:=(List.getElem?_eq_some_iff.mp er).1
   have T3:=S.trans s3
   refine ⟨_,rfl,ps,_,_,_,rfl,rfl,.inr (bQ.of (T3 _ _ h1)),rfl,_,rfl,pb,_,_,_,rfl,rfl,.inr (bQ.of (T3 _ _ h2)),at_ lb er,mT,bq (by rw [aad,aad,aaP];lia),s3.put hD,ac,?_,_,rfl⟩
   rw [ahe,er,acT,acT];rfl
  .
   rintro acc σ H3 ⟨s3,mT,rfl,v,rfl⟩
   rw [aad,adg] at mT
   refine ⟨D,_,rfl,.inl ⟨bh.of mT,λ q1 Hd=>?_⟩⟩
   have S4:=al (o:=.tup ((l.map λ r=>st.bs.getD r 0).map V.int)) Hd
   have k1:(upd H3 q1 (.tup ((l.map λ r=>st.bs.getD r 0).map V.int))) q1=some (.tup ((l.map λ r=>st.bs.getD r 0).map V.int)):=ac
   have T4:=S.trans (s3.trans S4)
   generalize upd H3 q1 (.tup ((l.map λ r=>st.bs.getD r 0).map V.int))=H4 at T4 k1 ⊢
   refine ⟨_,rfl,p,rfl,⟨_,T4.seq hp⟩,λ D2 RN=>?_⟩
   refine eX (K:=K) (a:=p) (xs:=l.map ao) (λ j acc σ H3=>A4 (av H4 H3) (H3 D2=some (.lst acc)) (acc=((l.take j).map λ r=>st.ws.getD r 0).map V.int) (∃ v,σ=[v,some (.ref ps)])) ⟨al RN,ac,rfl,none,rfl⟩ (λ j acc σ H3 _ e=>e.1.seq (T4.seq hp)) ?_ ?_
   .
    rintro j y acc σ H3 hy ⟨s3,mT,rfl,v,rfl⟩
    obtain ⟨r,er,rfl⟩:=eM hy
    have GF:=(List.getElem?_eq_some_iff.mp er).1
    have T3:=T4.trans s3
    refine ⟨_,rfl,ps,_,_,_,rfl,rfl,.inr (bQ.of (T3 _ _ h1)),rfl,_,rfl,pw,_,_,_,rfl,rfl,.inr (bQ.of (T3 _ _ h3)),at_ lw er,mT,bq (by rw [aad,aad,aaP];lia),s3.put RN,ac,?_,_,rfl⟩
    rw [ahe,er,acT,acT];rfl
   .
    rintro acc σ H5 ⟨s5,Te,rfl,v,rfl⟩
    rw [aad,adg] at Te
    refine ⟨D2,_,rfl,.inl ⟨bh.of Te,λ q2 G6=>?_⟩⟩
    have S6:=al (o:=.tup ((l.map λ r=>st.ws.getD r 0).map V.int)) G6
    have k2:(upd H5 q2 (.tup ((l.map λ r=>st.ws.getD r 0).map V.int))) q2=some (.tup ((l.map λ r=>st.ws.getD r 0).map V.int)):=ac
    have Kj:=s5.trans S6
    generalize upd H5 q2 (.tup ((l.map λ r=>st.ws.getD r 0).map V.int))=H6 at Kj k2 ⊢
    have T6:=T4.trans Kj
    refine ⟨_,rfl,_,rfl,_,rfl,_,rfl,p,rfl,⟨_,T6.seq hp⟩,λ D3 Ui=>?_⟩
    refine eX (K:=K) (a:=p) (xs:=l.map ao) (λ j acc σ H3=>A4 (av H6 H3) (H3 D3=some (.lst acc)) (acc=((l.take j).map λ r=>st.fs.getD r 0).map V.int) (∃ v,σ=[v,some (.ref ps)])) ⟨al Ui,ac,rfl,none,rfl⟩ (λ j acc σ H3 _ e=>e.1.seq (T6.seq hp)) ?_ ?_
    . rintro j y acc σ H3 hy ⟨s3,mT,rfl,v,rfl⟩
      obtain ⟨r,er,rfl⟩:=eM hy
      have GF:=(List.getElem?_eq_some_iff.mp er).1
      have T3:=T6.trans s3
      refine ⟨_,rfl,ps,_,_,_,rfl,rfl,.inr (bQ.of (T3 _ _ h1)),rfl,_,rfl,pf,_,_,_,rfl,rfl,.inr (bQ.of (T3 _ _ h4)),at_ lf er,mT,bq (by rw [aad,aad,aaP];lia),s3.put Ui,ac,?_,_,rfl⟩
      rw [ahe,er,acT,acT];rfl
    .
     rintro acc σ H7 ⟨s7,hD7,rfl,v,rfl⟩
     rw [aad,adg] at hD7
     refine ⟨D3,_,rfl,.inl ⟨bh.of hD7,λ q3 Ow=>?_⟩⟩
     have S8:=al (o:=.tup ((l.map λ r=>st.fs.getD r 0).map V.int)) Ow
     have k3:(upd H7 q3 (.tup ((l.map λ r=>st.fs.getD r 0).map V.int))) q3=some (.tup ((l.map λ r=>st.fs.getD r 0).map V.int)):=ac
     have Wn:=s7.trans S8
     generalize upd H7 q3 (.tup ((l.map λ r=>st.fs.getD r 0).map V.int))=H8 at Wn k3 ⊢
     have T8:=T6.trans Wn
     refine ⟨_,rfl,ps,_,_,_,rfl,rfl,.inr (bQ.of (T8 _ _ h1)),rfl,af8 rfl,λ t ht=>?_⟩
     have S9:=al (o:=.tup [.ref q1,ao (i3 (Ap.places (λ j=>st.bu.testBit (l.getD j 0)) l.length) 0),.ref q2,.ref q3,.int st.hp]) ht
     exact q t _ (T8.trans S9) ⟨q1,q2,q3,ac,S9 _ _ (Wn _ _ (Kj _ _ k1)),S9 _ _ (Wn _ _ k2),S9 _ _ k3⟩
theorem jZ.gr {n k:Nat} {H H':Hp} {v:V} {r:cI} (h:jZ P w K mg base Ad.Keeper n H (fZ H) v r k) (g:Gr H H'):jZ P w K mg base Ad.Keeper n H' (fZ H') v r k:=by
 obtain ⟨t,p,b,e,h1,h2,h3,h4⟩:=h
 exact ⟨t,p,b,e,g _ _ h1 nofun,g _ _ h2 nofun,h3.same (wY g),h4⟩
structure d7 (P:Program) (w:World) (K:W.Frag) (mg:Str->Option Value) (base:Heap) (CK:Addr) (H H0:Hp) (p:Addr) (rows:List cI) (k:Nat):Prop where
 le:av H0 H
 ex:∃ us:List V,H p=some (.lst us)/\us.length=rows.length/\∀ (i:Nat) (v:V) (r:cI),us[i]?=some v->rows[i]?=some r->jZ P w K mg base CK 4 H H0 v r k
 l4:rows.length<=4
 r2:∀ r∈rows,r.rooms.length<=2
 nd:(rows.flatMap (·.rooms)).Nodup
 hm:Ap.mul rows<=4000
 ok:Ap.Ok rows
theorem d7.gr {k:Nat} {H H':Hp} {p:Addr} {rows:List cI} (h:d7 P w K mg base Ad.Keeper H (fZ H) p rows k) (g:Gr H H'):d7 P w K mg base Ad.Keeper H' (fZ H') p rows k:=by
 obtain ⟨_,⟨us,h1,h2,h3⟩,a,b,c,d,e⟩:=h
 exact ⟨gN,⟨us,g _ _ h1 nofun,h2,λ i v r x y=>(h3 i v r x y).gr g⟩,a,b,c,d,e⟩
theorem d7.same {k:Nat} {H H0 H':Hp} {p:Addr} {rows:List cI} (h:d7 P w K mg base Ad.Keeper H H0 p rows k) (s:av H H'):d7 P w K mg base Ad.Keeper H' H0 p rows k:=by
 obtain ⟨l,⟨us,h1,h2,h3⟩,a,b,c,d,e⟩:=h
 refine ⟨l.trans s,⟨us,s _ _ h1,h2,λ i v r x y=>?_⟩,a,b,c,d,e⟩
 obtain ⟨t,p,b,e,q1,q2,q3⟩:=h3 i v r x y
 exact ⟨t,p,b,e,s _ _ q1,s _ _ q2,q3⟩
theorem oC {x:Nat} {s:eP}:∀ {rs:List cI} {os:List Nat},(Ap.cD rs os s).testBit x=true->∃ r∈rs,x∈r.rooms
 | r::rs,o::os,h=>by
   have h:(i3 (Ap.sel r.rooms (r.W o (Ap.qg s r.rooms)) r.rooms.length) 0 ||| Ap.cD rs os s).testBit x=true:=h
   rw [amK,Bool.or_eq_true] at h
   rcases h with h|h
   . rw [nU,amA,Bool.false_or,anm] at h
     obtain ⟨j,hj,rfl⟩:=List.mem_map.mp h
     have hj:=(Ap.gf hj).1
     exact ⟨r,adu,by rw [adO,Wz hj];exact ahU hj⟩
   . obtain ⟨r',m,q⟩:=oC h
     exact ⟨r',aaN _ m,q⟩
 | [],_,h=>by unfold Ap.cD at h;simp at h
 | _::_,[],h=>by unfold Ap.cD at h;simp at h
theorem vh {rows:List cI} {i:Nat} {r:cI} (nd:(rows.flatMap (·.rooms)).Nodup) (h:rows[i]?=some r):r.rooms.Nodup/\∀ x∈r.rooms,∀ r'∈rows.take i,x∉r'.rooms:=by
 have hi:=(List.getElem?_eq_some_iff.mp h).1
 have e:rows=rows.take i++r::rows.drop (i+1):=by
   conv=>lhs;rw [← List.take_append_drop i rows]
   rw [amM hi,(List.getElem?_eq_some_iff.mp h).2]
 rw [e,anl,List.flatMap_cons,List.nodup_append,List.nodup_append] at nd
 refine ⟨nd.2.1.1,λ x hx r' hr' ZN=>?_⟩
 exact nd.2.2 x (List.mem_flatMap.mpr ⟨r',hr',ZN⟩) x (aik _ hx) rfl
inductive EA (P:Program) (w:World) (K:W.Frag) (mg:Str->Option Value) (base:Heap) (CK:Addr) (vs:List V) (H:Hp) (Q:VK) (_E:XK):Prop
 | mk (p po ps rows os st k H0:_) (_:vs=[.ref p,.ref po,.ref ps]) (_:d7 P w K mg base CK H H0 p rows k) (_:k<=37) (_:bh K H po (os.map ao)) (_:Ap.Own rows os) (_:tL H ps st) (_:Sz 4 st) (_:∀ H',av H H'->Q (ao (Ap.cD rows os st)) H')
theorem jV (T:Txt K mg Ad):Def P w K mg base "_law_wished" 40 ["_law_rows_here","_law_minds","_law_state_here"] (EA P w K mg base Ad.Keeper):=by
 refine T.tO.gS bZ λ f aP A outer s H vs Q E hr h=>?_
 obtain ⟨p,po,ps,rows,os,st,k,H0,rfl,mh,k37,ho,own,hs,hn,q⟩:=h
 obtain ⟨us,hp,lu,eO⟩:=mh.ex
 refine ⟨_,(ak (aG (i:=3) bZ.nd rfl (lc rfl) ag)
     (ak (df aem rfl (cg rfl T.du (aa (aZ ce (by rfl) T.hU eY (aa (pv 0) ah)) ah)) (aA (i:=4) bZ.nd rfl (lc rfl)) (ak (gT (aQ aO (pv 0) (pv 4) (λ _ _=>rfl)) (bW (K:=K) (n:=2) rfl rfl (aE (aA (i:=5) bZ.nd rfl (lc rfl)) (aE (aA (i:=6) bZ.nd rfl (lc rfl)) bU))))
     (ak (aG (i:=7) bZ.nd rfl (lc rfl) (bP (P:=P) (w:=w) (K:=K) (mg:=mg) (base:=base) (k:=39) ⟨rfl,rfl,rfl,rfl,rfl⟩ (pv 6) hr (aa (aQ aO (pv 1) (pv 4) (λ _ _=>rfl)) (aa (ay (gp (K:=K) T) hr.m (aa (pv 2) (aa (pv 5) ah))) ah))))
     (am (df aem rfl (cg rfl T.du (aa (aZ ce (by rfl) T.hU eY (aa (pv 5) ah)) ah)) (aA (i:=8) bZ.nd rfl (lc rfl)) (am (bx (aJ cO (az aS (az bE (pv 7) (aQ aO (aU (aa ag (aa ag ah))) (pv 8) (λ _ _=>rfl))) ag) ag (aK _)) (am (aG (i:=3) bZ.nd rfl (lc rfl) (az bg (pv 3) (aQ aO (aU (aa ag (aa ag (aa ag (aa ag ah))))) (aQ aO (pv 5) (pv 8) (λ _ _=>rfl)) (λ _ _=>rfl))))) aM)))))))
     (am (ax (pv 3))))),?_⟩
 try dsimp only [fj,aX]
 first|(refine dM ?_;intro _ _ _ _)|skip
 have l4:=mh.l4
 have lo:=Ap.nO own
 refine ⟨_,rfl,p,_,rfl,.inl (bh.of hp),λ m em=>⟨m,rfl,by lia,by lia,?_⟩⟩
 have hm:m.toNat=rows.length:=by lia
 refine cX (lo:=0) (n:=m.toNat) (λ i σ H'=>av H H'/\E5 λ v4 v5 v6 v7 v8=>σ=[some (.ref p),some (.ref po),some (.ref ps),some (ao (Ap.cD (rows.take i) (os.take i) st)),v4,v5,v6,v7,v8]) ⟨av.refl _,none,none,none,none,none,rfl⟩ ?_ ?_
 .
  rintro _ i σ H1 hi ⟨S,v4,v5,v6,v7,v8,rfl⟩
  have hir:i<rows.length:=by lia
  have er:=Wz hir
  have eu:=Wz (show i<us.length by lia)
  have eo:=Wz (show i<os.length by lia)
  obtain ⟨t,pq,b,et,ht,rW,kb,dF,_⟩:=eO i _ _ eu er
  have r2:=mh.r2 _ (ahU hir)
  obtain ⟨ndr,apr⟩:=vh mh.nd er
  have wk:=Ap.jr own er eo
  generalize rows[i]=r at er rW kb dF r2 ndr apr wk
  generalize os[i]=o at eo wk
  obtain ⟨C1,d1,f1,nW,qA,sr,sx,b1,b2,b3,b4,b5,b6,b7,b8,b9,rG,sv,_⟩:=(kb.mono (j:=39) (by lia)).ex
  refine ⟨_,rfl,_,rfl,p,_,_,.ref t,rfl,rfl,.inl (bh.of (S _ _ hp)),(by rw [agd,← et];exact dy eu),?_⟩
  refine ⟨t,_,rfl,bQ.of (S _ _ ht),rfl,_,_,rfl,_,_,rfl,rfl,?_⟩
  refine ⟨_,rfl,C1,b,d1,f1,_,sr,rfl,S _ _ (mh.le _ _ b1),b2.2.2.1,b3,b6,_,rfl,_,rfl,po,_,_,ao o,rfl,rfl,.inl (S.seq ho),(by rw [agd];exact dy (by rw [aei,eo];rfl)),_,rfl,_,rfl,ps,pq,st,r.rooms,rfl,hs.same S,hn,bh.of (S _ _ rW),r2,dF,λ tq H2 S2 h2=>?_⟩
  have T2:=S.trans S2
  refine rG (mh.le.trans T2) wk h2 (Ap.oS st r.rooms) λ H3 S3=>?_
  have T3:=T2.trans S3
  refine ⟨_,rfl,pq,_,rfl,.inl (bh.of (T3 _ _ rW)),λ m2 J2=>⟨m2,rfl,by rw [aad] at J2;lia,by rw [aad] at J2;lia,?_⟩⟩
  rw [aad] at J2
  have hm2:m2.toNat=r.rooms.length:=by lia
  refine cX (lo:=0) (n:=m2.toNat) (λ j σ H'=>av H3 H'/\∃ v8,σ=[some (.ref p),some (.ref po),some (.ref ps),some (ao (Ap.cD (rows.take i) (os.take i) st ||| i3 (Ap.sel r.rooms (r.W o (Ap.qg st r.rooms)) j) 0)),some (.int (0+(i:Int))),some (.ref pq),some (.ref b),some (ao (r.W o (Ap.qg st r.rooms))),v8]) ⟨av.refl _,v8,by rw [show i3 (Ap.sel r.rooms (r.W o (Ap.qg st r.rooms)) 0) 0=0 from rfl,ani];rfl⟩ ?_ ?_
  .
   rintro _ j σ H4 hj ⟨S4,v8,rfl⟩
   have GF:j<r.rooms.length:=by lia
   have em:=Wz GF
   have hr4:=dF _ (ahU GF)
   have eg:r.rooms.getD j 0=r.rooms[j]:=by rw [adO,em];rfl
   have p8:2 ^ j<=2 ^ 1:=afd (by decide) (by lia)
   have p1:=Nat.two_pow_pos j
   have T4:=T3.trans S4
   refine ⟨_,rfl,kh,λ pl fD=>⟨_,rfl,pl,_,_,_,rfl,rfl,.inl (bh.of ac),(by rw [agd];exact xy (by lia)),_,_,rfl,rfl,⟨by lia,(show Int.natAbs _<2 ^ 8999 from aav (show Int.natAbs _<2 ^ 12 by lia) (afd (by decide) (by decide)))⟩,λ y ey=>⟨_,_,rfl,rfl,by decide,λ z z0 z1 ez=>⟨rfl,_,rfl,?_⟩⟩⟩⟩
   rw [C9 ey ez]
   have S5:=al (o:=.lst [.int 1,.int 2]) fD
   have en:=Ap.vO r.rooms (r.W o (Ap.qg st r.rooms)) j
   rw [eg] at en
   cases tb:(r.W o (Ap.qg st r.rooms)).testBit j with
   | true =>
     rw [tb,aeA rfl] at en
     refine j9 ⟨_,rfl,GI,λ CM xc=>?_⟩
     have S6:=al (o:=.lst [.int 1,.int 2,.int 4,.int 8]) xc
     refine ⟨_,rfl,_,rfl,pq,_,_,ao r.rooms[j],rfl,rfl,.inl (bh.of (S6 _ _ (S5 _ _ (T4 _ _ rW)))),(by rw [agd];exact dy (by rw [aei,em];rfl)),CM,_,_,_,rfl,rfl,.inl (bh.of ac),Am hr4,_,_,rfl,rfl,λ y2 e2=>?_⟩
     have nb:(Ap.cD (rows.take i) (os.take i) st ||| i3 (Ap.sel r.rooms (r.W o (Ap.qg st r.rooms)) j) 0).testBit r.rooms[j]=false:=by
       rw [amK,Bool.or_eq_false_iff]
       refine ⟨?_,?_⟩
       . cases c:(Ap.cD (rows.take i) (os.take i) st).testBit r.rooms[j] with
         | false=>rfl
         | true =>
           obtain ⟨r',m',q'⟩:=oC c
           exact absurd q' (apr _ (ahU GF) r' m')
       . rw [nU,amA,Bool.false_or,decide_eq_false_iff_not]
         intro Qr
         obtain ⟨j',hj',e'⟩:=List.mem_map.mp Qr
         have hj':=(Ap.gf hj').1
         have hl':j'<r.rooms.length:=by lia
         rw [adO,Wz hl'] at e'
         have:=(List.getElem_inj ndr).mp e'
         lia
     have e3:y2=((Ap.cD (rows.take i) (os.take i) st ||| i3 (Ap.sel r.rooms (r.W o (Ap.qg st r.rooms)) (j+1)) 0:Nat):Int):=by
       rw [e2,en,um,← Nat.or_assoc,← Bit.C7 nb]
       push_cast;rfl
     rw [e3]
     exact ⟨S4.trans (S5.trans S6),_,rfl⟩
   | false =>
     rw [tb,adH abS,agb] at en
     exact gw ⟨S4.trans S5,some (.int (0+(j:Int))),by rw [en];rfl⟩
  . rintro σ H4 ⟨S4,v8,rfl⟩
    refine ⟨(T3.trans S4),some (.int (0+(i:Int))),some (.ref pq),some (.ref b),some (ao (r.W o (Ap.qg st r.rooms))),v8,?_⟩
    rw [hm2,Ap.take_snoc er,ou eo,Ap.md (by rw [aaP,aaP,lo])]
 . rintro σ H1 ⟨S,v4,v5,v6,v7,v8,rfl⟩
   rw [hm,adg,← lo,adg]
   exact ⟨_,rfl,q H1 S⟩
inductive Gk (P:Program) (w:World) (K:W.Frag) (mg:Str->Option Value) (base:Heap) (CK:Addr) (vs:List V) (H:Hp) (Q:VK) (_E:XK):Prop
 | mk (p rows k H0:_) (_:vs=[.ref p]) (_:d7 P w K mg base CK H H0 p rows k) (_:k<=37) (_:∀ t H',av H H'->H' t=some (.tup [ao (Ap.mul rows),ao (1+Ap.sum rows)])->Q (.ref t) H')
theorem vy (T:Txt K mg Ad):Def P w K mg base "_law_sums" 40 ["_law_rows_here"] (Gk P w K mg base Ad.Keeper):=by
 refine T.wJ.gS db λ f aP A outer s H vs Q E hr h=>?_
 obtain ⟨p,rows,k,H0,rfl,mh,k37,q⟩:=h
 obtain ⟨us,hp,lu,eO⟩:=mh.ex
 refine ⟨_,(ak (aG (i:=1) db.nd rfl (lc rfl) ag)
     (ak (aG (i:=2) db.nd rfl (lc rfl) ag)
     (ak (df aem rfl (dQ (pv 0)) (bW (K:=K) (n:=2) rfl rfl (aE (aA (i:=3) db.nd rfl (lc rfl)) (aE (aA (i:=4) db.nd rfl (lc rfl)) bU))) (ak (aG (i:=1) db.nd rfl (lc rfl) (az eN (pv 1) (bv (P:=P) (w:=w) (K:=K) (mg:=mg) (base:=base) (k:=39) ⟨rfl,rfl,rfl,rfl,rfl⟩ (pv 4) hr)))
     (am (aG (i:=2) db.nd rfl (lc rfl) (az bg (pv 2) (bv (P:=P) (w:=w) (K:=K) (mg:=mg) (base:=base) (k:=39) ⟨rfl,rfl,rfl,rfl,rfl⟩ (pv 4) hr))))))
     (am (ax (bH (aa (pv 1) (aa (pv 2) ah)))))))),?_⟩
 try dsimp only [fj,aX]
 first|(refine lq ?_;intro _ _ _ _ _)|skip
 have l4:=mh.l4
 have hm:=mh.hm
 have ok:=mh.ok
 refine ⟨_,rfl,p,rfl,⟨_,bh.of hp⟩,?_⟩
 refine gY (K:=K) (a:=p) (xs:=us) (λ i σ H'=>av H H'/\E2 λ v3 v4=>σ=[some (.ref p),some (ao (Ap.mul (rows.take i))),some (ao (1+Ap.sum (rows.take i))),v3,v4]) ⟨av.refl _,none,none,rfl⟩ (λ i σ H' _ e=>bh.of (e.1 _ _ hp)) ?_ ?_
 .
  rintro _ i x σ H1 hx ⟨S,v3,v4,rfl⟩
  have hi:i<rows.length:=by rw [← lu];exact (List.getElem?_eq_some_iff.mp hx).1
  have er:=Wz hi
  obtain ⟨t,pq,b,rfl,ht,rW,kb,dF,_⟩:=eO i _ _ hx er
  obtain ⟨C1,d1,f1,nW,qA,sr,sx,b1,b2,b3,b4,b5,b6,b7,b8,b9,rG,sv,_⟩:=(kb.mono (j:=39) (by lia)).ex
  refine ⟨t,_,rfl,bQ.of (S _ _ ht),rfl,_,_,rfl,_,_,rfl,rfl,?_⟩
  refine ⟨_,rfl,_,rfl,C1,b,d1,f1,_,nW,rfl,S _ _ (mh.le _ _ b1),b2.1,b3,b4,b8 (mh.le.trans S) λ H2 S2=>?_⟩
  have h1:=Ap.qb ok i
  have h2:=kb.hm
  have T2:=S.trans S2
  refine ⟨_,_,rfl,rfl,⟨12,12,(show Int.natAbs _<2 ^ 12 by lia),(show Int.natAbs _<2 ^ 12 by lia),by decide⟩,λ y ey=>?_⟩
  have ez:y=((Ap.mul (rows.take (i+1)):Nat):Int):=by rw [ey,Ap.take_snoc er,Ap.hJ];push_cast;rfl
  rw [ez]
  refine ⟨_,rfl,_,rfl,C1,b,d1,f1,_,qA,rfl,T2 _ _ (mh.le _ _ b1),b2.2.1,b3,b5,b9 (mh.le.trans T2) λ H3 S3=>⟨_,_,rfl,rfl,λ y2 ey2=>?_⟩⟩
  have ez2:y2=((1+Ap.sum (rows.take (i+1)):Nat):Int):=by rw [ey2,Ap.take_snoc er,Ap.pJ];push_cast;lia
  rw [ez2]
  exact ⟨T2.trans S3,_,_,rfl⟩
 . rintro σ H1 ⟨S,v3,v4,rfl⟩
   rw [lu,adg]
   exact ⟨_,rfl,_,rfl,kh,λ t ht=>q t _ (S.trans (al ht)) ac⟩
def kn (q:Addr) (H:Hp):Hp:=λ b=>if b=q then none else fZ H b
theorem tV {q b:Addr} {H:Hp} {o:HO} (ne:b≠q) (h:H b=some o) (n:∀ ps,o ≠ .jX ps):kn q H b=some o:=by
 unfold kn
 rw [adH ne]
 exact cN h n
theorem cZ {q b:Addr} {H:Hp} {o:HO} {l:List V} (hq:H q=some (.lst l)) (h:H b=some o) (n:∀ ps,o ≠ .jX ps) (n2:∀ l,o ≠ .lst l):kn q H b=some o:=tV (λ e=>by
 rw [e,hq] at h
 exact n2 _ (abb h).symm) h n
theorem yb {q:Addr} {H:Hp}:av (kn q H) (fZ H):=λ b o h=>by
 unfold kn at h
 split at h
 . cases h
 . exact h
theorem wA {q:Addr} {H:Hp}:av (kn q H) H:=yb.trans gN
theorem w4 {q:Addr} {H H':Hp} (g:Gr H H'):av (kn q H) (kn q H'):=λ b o h=>by
 unfold kn at h ⊢
 split at h
 . cases h
 . rename_i n
   rw [adH n]
   exact wY g _ _ h
theorem uj {q b:Addr} {H:Hp} (h:H b=none):kn q H b=none:=by
 unfold kn
 split
 . rfl
 . unfold fZ;rw [h]
theorem ES {q:Addr} {H:Hp} {l:List V}:kn q (upd H q (.lst l))=kn q H:=by
 funext b
 unfold kn
 split
 . rfl
 . rename_i n
   unfold fZ
   rw [aq n]
inductive FJ (P:Program) (w:World) (K:W.Frag) (mg:Str->Option Value) (base:Heap) (A:HV) (vs:List V) (H:Hp) (Q:VK) (_E:XK):Prop
 | mk (x:Int) (n:Nat) (q0 l0:_) (_:vs=[.int x,ao n]) (_:0<=x) (_:x<=65537) (_:1<=n) (_:n<=2) (_:iB (TT A) H) (_:H q0=some (.lst l0)) (_:∀ b m sz W F H',Gr H H'->iB (TT A) H'->KA P w K mg base A.Keeper n (kn q0 H') b m sz W F 12->m<=5->sz<=3->Q (.ref b) H')
theorem acB {a b c d e:V} {u:Int} (h1:1<=u) (h5:u<=5):uy [a,b,c,d,e] none (some u)=[a,b,c,d,e].take u.toNat:=by
 have:u=1∨u=2∨u=3∨u=4∨u=5:=by lia
 rcases this with rfl|rfl|rfl|rfl|rfl<;>rfl
theorem ajm {n:Nat} {y:Int} (h1:1<=n) (h2:n<=2) (e:y=(n:Int) - 1):uh [V.int 1,V.int 3] y=some (ao (2 * n - 1)):=by
 have:n=1∨n=2:=by lia
 rcases this with rfl|rfl<;>(rw [e];rfl)
theorem eR {H H':Hp} (s:av H H'):av (fZ H) (fZ H'):=wY (.of s)
theorem aV {H:Hp} {C x dx:Addr} (hx:H x=none) (gq:H dx=none):av H (upd (upd H dx (.own x)) x (.ins C dx [])):=λ b o hb=>by
 rw [aq (aB hb hx),aq (aB hb gq)];exact hb
theorem aW {H H':Hp} {C x dx:Addr} (hx:H x=none) (gq:H dx=none) (q:∀ b o,(upd (upd H dx (.own x)) x (.ins C dx [])) b=some o->b≠x->H' b=some o):av H H':=λ b o hb=>q b o (aV hx gq b o hb) (aB hb hx)
theorem gk {H:Hp} {C x dx:Addr} (n:dx≠x):(upd (upd H dx (.own x)) x (.ins C dx [])) dx=some (.own x):=by rw [aq n];exact ac
theorem nG.on {H H':Hp} {t u:Cd} {fc fd f:Addr} {cl:List (Str×Addr)} (hc:nG H t fc) (hd:nG H u fd) (g:Gr H H') (L:xX H' f "one_of" dI cl ["one","other"] [.ref fc,.ref fd]) (lt:∀ b o,H b=some o->∀ y c,(y,c)∈cl->b<c):nG H' (.one t u) f:=by
 obtain ⟨o,_,e,_⟩:=hc.obj
 obtain ⟨o',_,e',_⟩:=hd.obj
 exact ⟨cl,fc,fd,L,λ y c hm=>lt _ _ e y c hm,λ y c hm=>lt _ _ e' y c hm,hc.gr g,hd.gr g⟩
theorem mn {q:Addr} {H H':Hp} (s:av H H'):av (kn q H) (kn q H'):=w4 (.of s)
theorem Er {H:Hp} {t:Cd} {f q0:Addr} {l0:List V} (hq:H q0=some (.lst l0)) (h:nG H t f):nG (kn q0 H) t f:=h.mono λ b o _ e=>cZ hq e (λ ps z=>by unfold Fz at z;cases z) λ ps z=>by unfold Fz at z;cases z
theorem AJ {H:Hp}:gc K H (fZ H):=λ a xs h=>by
 rcases h with (h|⟨ob,h⟩)|h
 . exact .inl (.inl (cN h nofun))
 . exact .inl (.inr ⟨ob,cN h nofun⟩)
 . exact .inr h
theorem IM {H:Hp} {q0:Addr} {l0:List V} (hq:H q0=some (.lst l0)):gc K H (kn q0 H):=λ a xs h=>by
 rcases h with (h|⟨ob,h⟩)|h
 . exact .inl (.inl (cZ hq h nofun nofun))
 . exact .inl (.inr ⟨ob,cZ hq h nofun nofun⟩)
 . exact .inr h
theorem Sf {H:Hp} {p pb pw pf:Addr} {s:eP} (h0:H p=some (.tup [.ref pb,.int (s.bu:Int),.ref pw,.ref pf,.int s.hp])) (h1:bQ K H pb (s.bs.map V.int)) (h2:bQ K H pw (s.ws.map V.int)) (h3:bQ K H pf (s.fs.map V.int)):hV K H (pF s) p:=by
 have t:∀ {q:Addr} {l:List Int},bQ K H q (l.map V.int)->Dn K H (rA l) (.ref q):=λ e=>sC e (g0 _)
 refine ⟨pF s,sC (bQ.of h0) (eI (t h1) (eI rfl (eI (t h2) (eI (t h3) (eI rfl sU))))),?_,eS (n:=2) ?_ (by decide),?_,?_⟩
 . simp only [pF,kd,sV,i0];rfl
 .
  intro d hd
  simp only [ae1,acn,ajE] at hd
  rcases hd with rfl|rfl|rfl|rfl|rfl
  . exact g2 _
  . exact trivial
  . exact g2 _
  . exact g2 _
  . exact trivial
 .
  have:=eQ s.bs
  have:=eQ s.ws
  have:=eQ s.fs
  simp only [pF,pC,ox]
  lia
 . simp only [pF,mW,iL,gZ]
theorem nX (T:Txt K mg Ad) {H5:Hp} {x dx pd:Addr} {n:Nat} {kvs:List (Key×V)} {S:List (Nat×Int×Int)} {R:Hp->Prop} {q0:Addr} {l0:List V} (hq:H5 q0=some (.lst l0)) (hd:H5 pd=some (.dK kvs)) (pv:p6 H5 kvs S) (le:∀ r∈S,r.2.1<=r.2.2) (nd:(kvs.map (·.1)).Nodup) (IL:S.length<=10) (hr:∀ r∈S,r.1<n) (n4:n<=4) (hx:H5 x=none) (gq:H5 dx=none) (ne:dx≠x)
   (k:∀ H6,av H5 H6->KA P w K mg base Ad.Keeper n (kn q0 H6) x 1 1 (λ _ s=>i3 (jS S s.bs s.bu) 0) (λ _=>0) 5->R H6):we Ad.cy [.ref x,.ref pd] (upd (upd H5 dx (.own x)) x (.ins Ad.cy dx [])) (λ v H2=>v=V.dC/\R H2) E0:=by
 have S4:=aV (C:=Ad.cy) hx gq
 refine ⟨x,dx,pd,kvs,S,rfl,ac,gk ne,⟨S4 _ _ hd,pv.gr λ b xs e=>S4 _ _ e⟩,le,λ pd' H' st h1 h2 h3=>⟨rfl,k H' (aW hx gq st) ?_⟩⟩
 have wl:=aW hx gq st _ _ hq
 exact Ax T ⟨dx,pd',cZ wl h1 nofun nofun,cZ wl (st _ _ (gk ne) ne) nofun nofun,cZ wl h3 nofun nofun,pv.gr λ b xs e=>cZ wl (aW hx gq st _ _ e) nofun nofun⟩ nd IL hr n4
theorem qE (T:Txt K mg Ad) (B:Bs K mg base):Def P w K mg base "_law_keeper" 41 ["_law_x","_law_many"] (FJ P w K mg base Ad):=by
 refine T.tD.gS e8 λ f aP A outer s H vs Q E hr h=>?_
 obtain ⟨x,n,q0,l0,rfl,x0,x1,n1,n2,tab,Kn,q⟩:=h
 refine ⟨_,(ak (aG (i:=2) e8.nd rfl (lc rfl) (aQ aO (aU (aa ag (aa ag ah))) (az nM (pv 1) ag) (λ _ _=>rfl)))
     (ak (aG (i:=3) e8.nd rfl (lc rfl) (cp T.g3 (bF (K:=K) T) .nil hr.m T.jo (aa (iS yA (aU (aa (az aS (az bE (pv 0) ag) (az bg (pv 2) ag)) (aa (az aS (az bE (pv 0) ag) (az bg (pv 2) ag)) (aa ag (aa (pv 2) (aa ag ah)))))) nR (jm (az bg ag (az aS (az bE (pv 0) ag) ag)))) ah)))
     (ak (aG (i:=4) e8.nd rfl (lc rfl) (az aS (pv 0) ag))
     (ak (bx (aJ cO (pv 4) ag (aK _)) (am (ax (kP ⟨T.d9.makes,T.jD,T.d9.kp⟩ T.iQ))) aM)
     (ak (bx (aJ cO (pv 4) ag (aK _)) (am (ax (cp T.vF (gh (K:=K) T) .nil hr.m T.yk (aa (@yc _ _ _ _ _ (@kD _ _ _ _ _ _ _ _ _ ag (bH (aa (az bg ag (az aS (az bE (pv 0) ag) ag)) (aa ag ah))) (@kD _ _ _ _ _ _ _ _ _ (az nM (pv 1) ag) (bH (aa ag (aa (az bg ag (az aS (az bE (pv 0) ag) ag)) ah))) sX)) rfl rfl (amC _ _) (af8 rfl)) ah)))) aM)
     (ak (bx (aJ cO (pv 4) ag (aK _)) (am (ax (cp T.AQ (kl (K:=K) T) .nil hr.m T.Gi (aa (aU (aa (bH (aa (az nM (pv 1) ag) (aa (ay (zV (K:=K) T B) hr.m (aa (ay (yT (K:=K) T B) hr.m (aa ag (aa (az aS (az bE (pv 0) ag) ag) ah))) (aa (ay (BZ (K:=K) T B) hr.m (aa (az nM (pv 1) ag) ah)) ah))) ah))) ah)) ah)))) aM)
     (ak (bx (aJ cO (pv 4) ag (aK _)) (am (ax (pZ T.kQ (cV (K:=K) T) hr.m T.nQ (aa (Dv (P:=P) (w:=w) (K:=K) rfl rfl rfl hr.Xl (@kD _ _ _ _ _ _ _ _ _ (bH (aa (iS tE (bH (aa ag (aa ag ah))) nR (jm (pv 1))) (aa ag (aa (iS tE (bH (aa ag (aa ag ah))) nR (jm (pv 1))) (aa (iS tE (bH (aa ag (aa ag ah))) nR (jm (pv 1))) (aa ag ah)))))) (pv 2) sX) rfl rfl (amC _ _) (af8 rfl)) (aa (pv 3) ah))))) aM)
     (ak (bx (aJ cO (pv 4) ag (aK _)) (am (ax (cp T.l9 (jG (K:=K) T) .nil hr.m T.pB (aa (pv 3) (aa (cp T.vF (gh (K:=K) T) .nil hr.m T.yk (aa (@yc _ _ _ _ _ (@kD _ _ _ _ _ _ _ _ _ ag (bH (aa ag (aa (az bg ag (az aS (az bE (pv 0) ag) ag)) ah))) sX) rfl rfl (amC _ _) (af8 rfl)) ah)) ah))))) aM)
     (am (ax (pv 3))))))))))),?_⟩
 try dsimp only [fj,aX]
 first|(refine AB ?_;intro _ _ _ _ _ _ _ _ _ _)|skip
 have ad:∀ {y:Int},y=Int.fdiv x 7->0<=y:=λ e=>by rw [e,agx _ (by decide)];lia
 refine ⟨kh,λ pl fD=>⟨_,rfl,_,_,rfl,rfl,λ y ey=>⟨pl,_,_,ao (2 * n - 1),rfl,rfl,.inl (bh.of ac),ajm n1 n2 ey,?_⟩⟩⟩
 have S1:=al (o:=.lst [.int 1,.int 3]) fD
 generalize upd H pl (.lst [.int 1,.int 3])=H1 at S1 ⊢
 refine ⟨_,rfl,_,_,rfl,rfl,⟨by decide,yC⟩,λ a1 e1=>⟨_,rfl,_,_,rfl,rfl,λ b1 eb1=>⟨_,_,rfl,rfl,by lia,λ c1 En DU ec1=>?_⟩⟩⟩
 refine ⟨_,rfl,_,_,rfl,rfl,⟨by decide,yC⟩,λ a2 e2=>⟨_,rfl,_,_,rfl,rfl,λ b2 eb2=>⟨_,_,rfl,rfl,by lia,λ c2 c20 c21 ec2=>?_⟩⟩⟩
 obtain ⟨c1,rfl⟩:=aga En
 obtain ⟨c2,rfl⟩:=aga c20
 refine ⟨_,rfl,af8 rfl,λ CM xc=>?_⟩
 have S2:=al (o:=.lst [.int (c1:Int),.int (c2:Int),.int 0,ao (2 * n - 1),.int 1]) xc
 have k2:(upd H1 CM (.lst [.int (c1:Int),.int (c2:Int),.int 0,ao (2 * n - 1),.int 1])) CM=some (.lst [.int (c1:Int),.int (c2:Int),.int 0,ao (2 * n - 1),.int 1]):=ac
 generalize upd H1 CM (.lst [.int (c1:Int),.int (c2:Int),.int 0,ao (2 * n - 1),.int 1])=H2 at S2 k2 ⊢
 refine ⟨_,rfl,_,_,rfl,rfl,⟨by decide,yC⟩,λ a3 e3=>⟨_,_,rfl,rfl,by decide,λ d3 d30 d31 ed3=>⟨_,_,rfl,rfl,λ u eu=>⟨u,rfl,CM,_,rfl,bh.of k2,λ pc Xm=>?_⟩⟩⟩⟩
 have hw:∃ ws:List Nat,uy [.int (c1:Int),.int (c2:Int),.int 0,ao (2 * n - 1),.int 1] none (some u)=ws.map ao/\1<=ws.length/\ws.length<=5:=by
   refine ⟨[c1,c2,0,2 * n - 1,1].take u.toNat,?_,?_,?_⟩
   . rw [acB (by lia) (by lia),am2];rfl
   . rw [aaP];show 1<=min u.toNat 5;lia
   . rw [aaP];show min u.toNat 5<=5;lia
 obtain ⟨ws,ew,lw1,lw5⟩:=hw
 rw [ew]
 have S3:=al (o:=.lst (ws.map ao)) Xm
 have k3:(upd H2 pc (.lst (ws.map ao))) pc=some (.lst (ws.map ao)):=ac
 generalize upd H2 pc (.lst (ws.map ao))=H3 at S3 k3 ⊢
 refine λ xk dk DQ DX nk=>⟨xk,dk,pc,ws.map Int.ofNat,rfl,ac,gk nk,bh.of (by rw [dZ];exact aV DQ DX _ _ k3),by rw [aad];lia,by rw [aad];lia,λ pw H4 J3 z0 z1 z2 z3=>⟨rfl,?_⟩⟩
 have S4:=aW DQ DX J3
 have T4:=S1.trans (S2.trans (S3.trans S4))
 have BS:=T4 _ _ Kn
 have npw:pw≠q0:=(aB (aV DQ DX _ _ (S3 _ _ (S2 _ _ (S1 _ _ Kn)))) z0).symm
 have ck:gH Ad.Clock (kn q0 H4) xk (ws.map Int.ofNat):=⟨dk,pw,cZ BS z1 nofun nofun,cZ BS z2 nofun nofun,tV npw z3 nofun,by rw [aad];lia,by rw [aad];lia⟩
 have kc:KA P w K mg base Ad.Keeper n (kn q0 H4) xk ws.length 1 (λ i _=>ws.getD i 0) (λ i=>(i+1) % ws.length) 5:=pX T ck (by lia)
 have zl:=dJ tab T4
 have g4:Gr H H4:=.of T4
 refine ⟨_,rfl,_,_,rfl,rfl,by decide,λ way w0 w1 ewy=>?_⟩
 refine ⟨_,rfl,rfl,_,rfl,dL (λ z=>?_) λ z=>?_⟩
 . refine λ xx dx hx gq ne=>?_
   have S5:=aV (C:=Ad.Keeper) hx gq
   exact q xx 1 1 _ _ _ (g4.trans (.of S5)) (dJ zl S5) ((jn T (cZ (S5 _ _ BS) ac nofun nofun) (by lia)).mono (by decide)) (by decide) (by decide)
 refine ⟨_,rfl,rfl,_,rfl,dL (λ z=>?_) λ z=>?_⟩
 .
  refine λ pd mO=>?_
  have S5:=al (o:=.dK []) mO
  have Ae:(upd H4 pd (.dK [])) pd=some (.dK []):=ac
  generalize upd H4 pd (.dK [])=H5 at S5 Ae ⊢
  refine ⟨_,rfl,_,_,rfl,rfl,⟨by decide,yC⟩,λ a4 e4=>⟨_,_,rfl,rfl,by decide,λ l l0 l1 el=>⟨_,_,rfl,rfl,λ lo elo=>⟨kh,λ t1 wq=>?_⟩⟩⟩⟩
  have S6:=al (o:=.tup [.int lo,.int 3]) wq
  have k6:(upd H5 t1 (.tup [.int lo,.int 3])) t1=some (.tup [.int lo,.int 3]):=ac
  generalize upd H5 t1 (.tup [.int lo,.int 3])=H6 at S6 k6 ⊢
  refine ⟨_,rfl,_,_,rfl,rfl,λ ky eky=>⟨_,rfl,_,_,rfl,rfl,⟨by decide,yC⟩,λ a5 e5=>⟨_,_,rfl,rfl,by decide,λ l' l0' l1' el'=>⟨_,_,rfl,rfl,λ hi ehi=>⟨kh,λ t2 Bz=>?_⟩⟩⟩⟩⟩
  have S7:=al (o:=.tup [.int 1,.int hi]) Bz
  have k7:(upd H6 t2 (.tup [.int 1,.int hi])) t2=some (.tup [.int 1,.int hi]):=ac
  generalize upd H6 t2 (.tup [.int 1,.int hi])=H7 at S7 k7 ⊢
  have SQ:=S7 _ _ (S6 _ _ Ae)
  have k67:=S7 _ _ k6
  refine ⟨SQ,[(.inl 0,.ref t1),(.inl ky,.ref t2)],rfl,by show 2<=15;decide,λ xx dx hx gq ne=>?_⟩
  have T7:=(S5.trans (S6.trans S7)).put (o:=.dK (dR [] [(.inl 0,.ref t1),(.inl ky,.ref t2)])) mO
  have u7:∀ {b:Addr} {xs:List V},H7 b=some (.tup xs)->(upd H7 pd (.dK (dR [] [(.inl 0,.ref t1),(.inl ky,.ref t2)]))) b=some (.tup xs):=λ e=>by rw [aq (iz e SQ nofun)];exact e
  have kp:(upd H7 pd (.dK (dR [] [(.inl 0,.ref t1),(.inl ky,.ref t2)]))) pd=some (.dK (dR [] [(.inl 0,.ref t1),(.inl ky,.ref t2)])):=ac
  have u1:=u7 k67
  have u2:=u7 k7
  generalize upd H7 pd (.dK (dR [] [(.inl 0,.ref t1),(.inl ky,.ref t2)]))=H8 at T7 kp u1 u2 hx gq ⊢
  have fin:∀ {W:Nat->eP->Nat} (H9:Hp),av H8 H9->KA P w K mg base Ad.Keeper n (kn q0 H9) xx 1 1 W (λ _=>0) 5->Q (.ref xx) H9:=λ H9 S9 ka=>q xx 1 1 _ _ H9 (g4.trans (.of (T7.trans S9))) (dJ zl (T7.trans S9)) (ka.mono (by decide)) (by decide) (by decide)
  have nn:n=1∨n=2:=by lia
  rcases nn with rfl|rfl
  .
   have ey0:ky=0:=by rw [eky];rfl
   subst ey0
   exact nX (S:=[(0,1,hi)]) T (T7 _ _ BS) kp ⟨rfl,λ i kv r e1 e2=>by
     cases i with
     | zero=>cases e1;cases e2;exact ⟨rfl,t2,rfl,u2⟩
     | succ i=>simp at e2⟩ (λ r hr=>by rw [List.mem_singleton.mp hr];show (1:Int)<=hi;lia) (by show ([Sum.inl 0]:List Key).Nodup;decide) (by show 1<=10;decide) (λ r hr=>by rw [List.mem_singleton.mp hr];show 0<1;decide) (by decide) hx gq ne fin
  .
   have ey0:ky=1:=by rw [eky];rfl
   subst ey0
   refine nX (S:=[(0,lo,3),(1,1,hi)]) T (T7 _ _ BS) kp ⟨rfl,λ i kv r e1 e2=>?_⟩ (λ r hr=>?_) (by show ([Sum.inl 0,Sum.inl 1]:List Key).Nodup;decide) (by show 2<=10;decide) (λ r hr=>?_) (by decide) hx gq ne fin
   . match i,e1,e2 with
     | 0,e1,e2=>cases e1;cases e2;exact ⟨rfl,t1,rfl,u1⟩
     | 1,e1,e2=>cases e1;cases e2;exact ⟨rfl,t2,rfl,u2⟩
     | i+2,e1,e2=>simp at e2
   . simp only [ae1,acn,ajE] at hr
     rcases hr with rfl|rfl
     . show lo<=3;lia
     . show (1:Int)<=hi;lia
   . simp only [ae1,acn,ajE] at hr
     rcases hr with rfl|rfl
     . show 0<2;decide
     . show 1<2;decide
 refine ⟨_,rfl,rfl,_,rfl,dL (λ z=>?_) λ z=>?_⟩
 .
  refine ⟨_,rfl,_,_,rfl,rfl,λ rm erm=>?_⟩
  obtain rfl:rm=((n - 1:Nat):Int):=by rw [erm];show (n:Int) - 1=_;lia
  refine ⟨_,rfl,_,_,rfl,rfl,⟨by decide,yC⟩,λ a5 e5=>⟨_,_,rfl,rfl,by decide,λ bd b0 b1 eb=>?_⟩⟩
  refine ⟨rfl,zl,λ f1 cl1 H5 g5 t5 L1 o1 n1'=>?_⟩
  refine ⟨_,rfl,_,_,rfl,rfl,λ rm2 ak5=>?_⟩
  obtain rfl:rm2=((n - 1:Nat):Int):=by rw [ak5];show (n:Int) - 1=_;lia
  refine ⟨rfl,t5,λ f2 cl2 H6 g6 t6 L2' o2 n2'=>?_⟩
  refine ⟨rfl,t6,λ f3 cl3 H7 g7 t7 L3 o3 n3'=>?_⟩
  have C1:nG H5 (.il 0 bd) f1:=⟨cl1,L1⟩
  have C2:nG H6 (.kY (n - 1)) f2:=⟨cl2,L2'⟩
  have C3:nG H7 (.one (.il 0 bd) (.kY (n - 1))) f3:=nG.on (C1.gr g6) C2 g7 L3 o3
  have g47:=g4.trans (g5.trans (g6.trans g7))
  refine ⟨kh,λ t ht=>?_⟩
  have S8:=al (o:=.tup [.int ((n - 1:Nat):Int),.ref f3]) ht
  have k8:(upd H7 t (.tup [.int ((n - 1:Nat):Int),.ref f3])) t=some (.tup [.int ((n - 1:Nat):Int),.ref f3]):=ac
  generalize upd H7 t (.tup [.int ((n - 1:Nat):Int),.ref f3])=H8 at S8 k8 ⊢
  refine ⟨rD,λ WB ZS=>?_⟩
  have S9:=al (o:=.lst [.ref t]) ZS
  have k9:(upd H8 WB (.lst [.ref t])) WB=some (.lst [.ref t]):=ac
  generalize upd H8 WB (.lst [.ref t])=H9 at S9 k9 ⊢
  refine λ xr dr hxr hdr nr=>⟨xr,dr,WB,_,rfl,ac,gk nr,bh.of (aV hxr hdr _ _ k9),λ pr sK yY h1 h2 h3=>⟨rfl,?_⟩⟩
  have wQ:=aW hxr hdr yY
  have wg:=S8.trans (S9.trans wQ)
  have J1:=(g5.trans (g6.trans g7)) _ _ BS nofun
  have ul:=wg _ _ J1
  have npr:pr≠q0:=(aB (aV hxr hdr _ _ (S9 _ _ (S8 _ _ J1))) h2).symm
  refine q xr 1 1 _ _ sK (g47.trans (.of wg)) (dJ t7 wg) ((Bi (rows:=[(n - 1,.one (.il 0 bd) (.kY (n - 1)))]) T ⟨dr,pr,[t],cZ ul h1 nofun nofun,cZ ul (yY _ _ (gk nr) nr) nofun nofun,tV npr h3 nofun,rfl,λ i t' rc e1 e2=>?_⟩ (by show 1<=10;decide) (λ rc OA=>?_) (by lia)).mono (by decide)) (by decide) (by decide)
  . cases i with
    | zero=>cases e1;cases e2;exact ⟨f3,cZ ul ((S9.trans wQ) _ _ k8) nofun nofun,Er ul (C3.gr (.of wg))⟩
    | succ i=>simp at e1
  . rw [List.mem_singleton.mp OA]
    exact ⟨by show n - 1<n;lia,⟨by show 0<n;lia,by show n - 1<n;lia⟩,by show Nat.max 1 1+1<=2;decide⟩
 refine ⟨_,rfl,rfl,_,rfl,dL (λ z=>?_) λ z=>?_⟩
 .
  refine λ pd mO=>?_
  have S5:=al (o:=jU P w pd []) mO
  have Ae:(upd H4 pd (jU P w pd [])) pd=some (jU P w pd []):=ac
  generalize upd H4 pd (jU P w pd [])=H5 at S5 Ae ⊢
  refine ⟨kh,λ t1 wq=>⟨_,rfl,(n:Int),rfl,t1,_,n,rfl,bQ.of ac,rfl,rfl,by show n<=2;lia,λ q1 H6 S6 k6=>?_⟩⟩
  refine ⟨kh,λ t2 Bz=>⟨_,rfl,(n:Int),rfl,t2,_,n,rfl,bQ.of ac,rfl,rfl,by show n<=2;lia,λ q2 H7 S7 k7=>?_⟩⟩
  refine ⟨kh,λ t3 ht3=>⟨_,rfl,(n:Int),rfl,t3,_,n,rfl,bQ.of ac,rfl,rfl,by show n<=2;lia,λ q3 H8 S8 k8=>?_⟩⟩
  refine ⟨af8 rfl,λ tk We=>?_⟩
  have S9:=al (o:=.tup [.ref q1,.int 0,.ref q2,.ref q3,.int 3]) We
  have k9:(upd H8 tk (.tup [.ref q1,.int 0,.ref q2,.ref q3,.int 3])) tk=some (.tup [.ref q1,.int 0,.ref q2,.ref q3,.int 3]):=ac
  generalize upd H8 tk (.tup [.ref q1,.int 0,.ref q2,.ref q3,.int 3])=H9 at S9 k9 ⊢
  have U7:=(al Bz).trans S7
  have U8:=(al ht3).trans S8
  have U6:=(al wq).trans S6
  have U69:=U7.trans (U8.trans S9)
  have T9:=S5.trans (U6.trans U69)
  have hd9:=(U6.trans U69) _ _ Ae
  let st:eP:=⟨[1,0].take n,[0,0].take n,[0,0].take n,0,3⟩
  have em:∀ a b:Int,([a,b].take n).map V.int=[V.int a,V.int b].take n:=λ a b=>am2
  have hk:hV K H9 (pF st) tk:=Sf (s:=st) k9 (by show bQ K H9 q1 (([1,0].take n).map V.int);rw [em];exact U69.tup k6) (by show bQ K H9 q2 (([0,0].take n).map V.int);rw [em];exact (U8.trans S9).tup k7) (by show bQ K H9 q3 (([0,0].take n).map V.int);rw [em];exact S9.tup k8)
  refine ⟨_,rfl,hd9,_,tk,_,rfl,hk,?_⟩
  have wg:=T9.put (o:=jU P w pd [(pF st,tk,ao (2 * n - 1))]) mO
  have dd:gu P w K (upd H9 pd (jU P w pd [(pF st,tk,ao (2 * n - 1))])) pd (i8 tk (some (st,2 * n - 1))):=⟨ac,λ e he=>by rw [List.mem_singleton.mp he];exact hk.ts (Dl hd9 rfl)⟩
  generalize upd H9 pd (jU P w pd [(pF st,tk,ao (2 * n - 1))])=sK at wg dd ⊢
  refine ⟨_,rfl,λ xt dt rK wj nt=>?_⟩
  have QT:=kc.same (mn wg)
  have yX:kn q0 sK xt=none:=uj rK
  have GS:=aV (C:=Ad.Table) rK wj
  refine ⟨xt,dt,pd,xk,tk,n,5,some (st,2 * n - 1),ws.length,1,_,_,rfl,ac,dd.same GS,⟨kn q0 sK,wA.trans GS,yX,QT⟩,by decide,by lia,λ _ pr Kb ajf h1 Bj d12=>⟨rfl,?_⟩,λ z _ _=>by have z:15<1+1:=z;lia⟩
  have qd:=aW rK wj ajf
  have PJ:=wg.trans qd
  refine q xt _ _ _ _ Kb (g4.trans (.of PJ)) (dJ zl PJ) ((kN (o:=some (st,2 * n - 1)) T ⟨dt,pr,xk,tk,cZ (PJ _ _ BS) h1 nofun nofun,⟨cZ (PJ _ _ BS) d12.ob nofun nofun,λ e he=>(d12.keys e he).ts (IM (PJ _ _ BS))⟩,QT.same (mn qd)⟩ (by decide)).mono (by decide)) lw5 (by decide)
 refine ⟨_,rfl,rfl,_,rfl,dL (λ z=>?_) λ z=>?_⟩
 .
  refine ⟨_,rfl,λ pd mO=>?_⟩
  have S5:=al (o:=.dK []) mO
  have Ae:(upd H4 pd (.dK [])) pd=some (.dK []):=ac
  generalize upd H4 pd (.dK [])=H5 at S5 Ae ⊢
  refine ⟨_,rfl,_,_,rfl,rfl,⟨by decide,yC⟩,λ a5 e5=>⟨_,_,rfl,rfl,by decide,λ l' l0' l1' el'=>⟨_,_,rfl,rfl,λ hi ehi=>⟨kh,λ t2 Bz=>?_⟩⟩⟩⟩
  have S7:=al (o:=.tup [.int 1,.int hi]) Bz
  have k7:(upd H5 t2 (.tup [.int 1,.int hi])) t2=some (.tup [.int 1,.int hi]):=ac
  generalize upd H5 t2 (.tup [.int 1,.int hi])=H7 at S7 k7 ⊢
  have SQ:=S7 _ _ Ae
  refine ⟨SQ,[(.inl 0,.ref t2)],rfl,by show 1<=15;decide,λ xx dx hx gq ne=>?_⟩
  have T7:=(S5.trans S7).put (o:=.dK (dR [] [(.inl 0,.ref t2)])) mO
  have kp:(upd H7 pd (.dK (dR [] [(.inl 0,.ref t2)]))) pd=some (.dK (dR [] [(.inl 0,.ref t2)])):=ac
  have u2:(upd H7 pd (.dK (dR [] [(.inl 0,.ref t2)]))) t2=some (.tup [.int 1,.int hi]):=by rw [aq (iz k7 SQ nofun)];exact k7
  generalize upd H7 pd (.dK (dR [] [(.inl 0,.ref t2)]))=H8 at T7 kp u2 hx gq ⊢
  refine nX (P:=P) (w:=w) (base:=base) (n:=n) (S:=[(0,1,hi)]) T (T7 _ _ BS) kp ⟨rfl,λ i kv r e1 e2=>by
      cases i with
      | zero=>cases e1;cases e2;exact ⟨rfl,t2,rfl,u2⟩
      | succ i=>simp at e2⟩ (λ r hr=>by rw [List.mem_singleton.mp hr];show (1:Int)<=hi;lia) (by show ([Sum.inl 0]:List Key).Nodup;decide) (by show 1<=10;decide) (λ r hr=>by rw [List.mem_singleton.mp hr];show 0<n;lia) (by lia) hx gq ne λ H9 S9 ka=>?_
  refine λ xe de hxe hde nee=>?_
  have T9:=T7.trans S9
  let d:PD:=⟨ws.length,1,λ i _=>ws.getD i 0,λ i=>(i+1) % ws.length,1,1,λ _ s=>i3 (jS [(0,1,hi)] s.bs s.bu) 0,λ _=>0⟩
  have kc9:=kc.same (mn T9)
  have yX:kn q0 H9 xe=none:=uj hxe
  refine ⟨Ad.cm,xe,de,xk,xx,n,5,d,rfl,jx T,ac,⟨kn q0 H9,wA.trans (aV hxe hde),yX,kc9,ka⟩,by decide,λ _ _ sK yY Km=>⟨rfl,?_⟩,λ z _ _=>?_⟩
  . have wQ:=aW hxe hde yY
    have wg:=T9.trans wQ
    have kj:=ug (P:=P) (w:=w) (base:=base) (l5 T) (r:=0) (bd:=0) (d:=d) (cZ (wg _ _ BS) Km nofun nofun) (kc9.same (mn wQ)) (ka.same (mn wQ)) (by lia) (by show ws.length * 1<=4000;lia) (by show 1+1+1<=100;decide)
    exact q xe _ _ _ _ sK (g4.trans (.of wg)) (dJ zl wg) (kj.mono (by decide)) (by show ws.length * 1<=5;lia) (by show 1+1+1<=3;decide)
  .
   rcases z with z|z
   . have z:60<ws.length * 1:=z
     lia
   . have z:15<1+1+1:=z
     lia
 exact ⟨_,rfl,q xk _ 1 _ _ _ g4 zl (kc.mono (by decide)) lw5 (by decide)⟩
def rS (way:Nat) (s:eP) (bd:Int) (a b:Nat):Nat:=if way<2 then a ||| b else if way=2 then a &&& b else if way=4 then 0 else if way=6 then (if s.bs.getD 0 0<bd then a else b) else if way=7 then (if s.bs.getD 1 0<bd then b else a) else a
inductive FO  (vs:List V) (H:Hp) (Q:VK) (_E:XK):Prop
 | mk (way ps st:_) (bd:Int) (a b:Nat) (_:vs=[ao way,.ref ps,.int bd,ao a,ao b]) (_:way<9) (_:tL H ps st) (_:Sz 4 st) (_:Q (ao (rS way st bd a b)) H)
theorem ke (T:Txt K mg Ad):Def P w K mg base "_law_within_wish" 1 ["_law_way","_law_state_here","_law_band","_law_wish","_law_beside"] FO:=by
 refine T.kG.gS kg λ f aP A outer s H vs Q E hr h=>?_
 obtain ⟨way,ps,st,bd,a,b,rfl,w9,⟨pb,pw,pf,h1,h2,h3,h4⟩,hn,q⟩:=h
 refine ⟨_,(ak (bx (aJ jP (pv 0) ag (aK _)) (am (ax (az sE (pv 3) (pv 4)))) aM)
     (ak (bx (aJ cO (pv 0) ag (aK _)) (am (ax (az yu (pv 3) (pv 4)))) aM)
     (ak (bx (aJ cO (pv 0) ag (aK _)) (am (ax ag)) aM)
     (ak (bx (aJ cO (pv 0) ag (aK _)) (am (ax (f7 (aJ jP (aQ aO (aQ aO (pv 1) ag (λ _ _=>rfl)) ag (λ _ _=>rfl)) (pv 2) (aK _)) (pv 3) (pv 4)))) aM)
     (ak (bx (aJ cO (pv 0) ag (aK _)) (am (ax (f7 (aJ jP (aQ aO (aQ aO (pv 1) ag (λ _ _=>rfl)) ag (λ _ _=>rfl)) (pv 2) (aK _)) (pv 4) (pv 3)))) aM)
     (am (ax (pv 3)))))))),?_⟩
 try dsimp only [fj,aX]
 first|(refine pO ?_;intro _ _ _ _ _ _ _)|skip
 unfold rS at q
 refine ⟨_,rfl,_,_,rfl,rfl,_,rfl,dL (λ z=>?_) λ z=>?_⟩
 . rw [aeA (by have z:(way:Int)<2:=z;lia)] at q
   exact ⟨_,rfl,_,rfl,_,_,rfl,rfl,λ r er=>by rw [er,jp];exact q⟩
 rw [adH (by have z:¬ (way:Int)<2:=z;lia)] at q
 refine ⟨_,rfl,rfl,_,rfl,dL (λ z=>?_) λ z=>?_⟩
 . rw [aeA (by have z:=V.int.inj z;lia)] at q
   exact ⟨_,rfl,_,rfl,_,_,rfl,rfl,λ r er=>by rw [er,pi];exact q⟩
 rw [adH (λ e=>z (by rw [e];rfl))] at q
 refine ⟨_,rfl,rfl,_,rfl,dL (λ z=>?_) λ z=>?_⟩
 . rw [aeA (by have z:=V.int.inj z;lia)] at q
   exact q
 rw [adH (λ e=>z (by rw [e];rfl))] at q
 refine ⟨_,rfl,rfl,_,rfl,dL (λ z=>?_) λ z=>?_⟩
 .
  rw [aeA (by have z:=V.int.inj z;lia)] at q
  refine ⟨_,rfl,ps,_,_,_,rfl,rfl,.inr (bQ.of h1),rfl,pb,_,_,_,rfl,rfl,.inr (bQ.of h2),lZ (r:=0) hn.1 (by decide),_,rfl,_,_,rfl,rfl,_,rfl,dL (λ y=>?_) λ y=>?_⟩
  . rw [aeA y] at q
    exact ⟨_,rfl,q⟩
  . rw [adH y] at q
    exact ⟨_,rfl,q⟩
 rw [adH (λ e=>z (by rw [e];rfl))] at q
 refine ⟨_,rfl,rfl,_,rfl,dL (λ z=>?_) λ z=>?_⟩
 .
  rw [aeA (by have z:=V.int.inj z;lia)] at q
  refine ⟨_,rfl,ps,_,_,_,rfl,rfl,.inr (bQ.of h1),rfl,pb,_,_,_,rfl,rfl,.inr (bQ.of h2),lZ (r:=1) hn.1 (by decide),_,rfl,_,_,rfl,rfl,_,rfl,dL (λ y=>?_) λ y=>?_⟩
  . rw [aeA y] at q
    exact ⟨_,rfl,q⟩
  . rw [adH y] at q
    exact ⟨_,rfl,q⟩
 rw [adH (λ e=>z (by rw [e];rfl))] at q
 exact ⟨_,rfl,q⟩
inductive Ey (P:Program) (w:World) (K:W.Frag) (mg:Str->Option Value) (base:Heap) (CK:Addr) (vs:List V) (H:Hp) (Q:VK) (_E:XK):Prop
 | mk (m n:Nat) (_:vs=[ao m]) (_:m<=14) (_:n<=4) (_:∀ b W H',av H H'->KA P w K mg base CK n (fZ H') b 1 (1+m) W (λ _=>0) (5+m)->Q (.ref b) H')
theorem mx (T:Txt K mg Ad):Def P w K mg base "_law_deep" 41 ["_law_many"] (Ey P w K mg base Ad.Keeper):=by
 refine T.wV.gS gA λ f aP A outer s H vs Q E hr h=>?_
 obtain ⟨m,n,rfl,m14,n4,q⟩:=h
 refine ⟨_,(ak (aG (i:=1) gA.nd rfl (lc rfl) (kP ⟨T.d9.makes,T.jD,T.d9.kp⟩ T.iQ))
     (ak (df aem rfl (cg rfl T.du (aa (pv 0) ah)) (aA (i:=2) gA.nd rfl (lc rfl)) (am (aG (i:=1) gA.nd rfl (lc rfl) (pZ T.kQ (cV (K:=K) T) hr.m T.nQ (aa (tS (P:=P) (w:=w) rfl rfl) (aa (pv 1) ah))))))
     (am (ax (pv 1))))),?_⟩
 try dsimp only [fj,aX]
 first|(refine dM ?_;intro _ _ _ _)|skip
 refine λ x dx hx gq ne=>?_
 have S1:=aV (C:=Ad.Keeper) hx gq
 have k1:(upd (upd H dx (.own x)) x (.ins Ad.Keeper dx [])) x=some (.ins Ad.Keeper dx []):=ac
 generalize upd (upd H dx (.own x)) x (.ins Ad.Keeper dx [])=H1 at S1 k1 ⊢
 refine ⟨_,rfl,_,rfl,by lia,by lia,?_⟩
 refine cX (lo:=0) (n:=m) (λ i σ H'=>av H H'/\(E2 λ b W=>KA P w K mg base Ad.Keeper n (fZ H') b 1 (1+i) W (λ _=>0) (5+i)/\∃ v,σ=[some (ao m),some (.ref b),v])) ⟨S1,x,_,jn T (cN k1 nofun) n4,none,rfl⟩ ?_ ?_
 .
  rintro _ i σ H2 hi ⟨S2,b,W,kb,v,rfl⟩
  refine λ pd mO=>⟨_,rfl,λ xt dt rK wj nt=>?_⟩
  have S3:=al (o:=jU P w pd []) mO
  have d3:gu P w K (upd H2 pd (jU P w pd [])) pd (i8 0 none):=gu.nil ac
  generalize upd H2 pd (jU P w pd [])=H3 at S3 d3 rK wj ⊢
  have kb3:=kb.same (eR S3)
  have yX:fZ H3 xt=none:=by unfold fZ;rw [rK]
  have S4:=aV (C:=Ad.Table) rK wj
  refine ⟨xt,dt,pd,b,0,n,_,none,1,_,_,_,rfl,ac,d3.same S4,⟨fZ H3,gN.trans S4,yX,kb3⟩,by lia,by decide,λ _ pr H5 Ac h1 Bj d5=>⟨rfl,?_⟩,λ z _ _=>by lia⟩
  have S5:=aW rK wj Ac
  have kt:=kN (o:=none) T ⟨dt,pr,b,0,cN h1 nofun,⟨cN d5.ob nofun,λ e he=>(d5.keys e he).ts AJ⟩,kb3.same (eR S5)⟩ (by lia)
  rw [show 1+(1+i)=1+(i+1) by lia] at kt
  exact ⟨S2.trans (S3.trans S5),xt,_,kt,_,rfl⟩
 . rintro σ H2 ⟨S2,b,W,kb,v,rfl⟩
   exact ⟨_,rfl,q b W H2 S2 kb⟩
theorem ajx {C1 C2 C3 C4 C5 C6:Addr} {x:V} (hx:x∈[V.ref C1,V.ref C2,V.ref C3,V.ref C4,V.ref C5,V.ref C6]):∃ C,x = .ref C:=by
 simp only [ae1,acn,ajE] at hx
 rcases hx with rfl|rfl|rfl|rfl|rfl|rfl<;>exact ⟨_,rfl⟩
theorem jg (T:Txt K mg Ad):ui K Ad.ba:=⟨T.uG,T.uY,T.uB,T.dg,T.bN,T.wd,T.vd,T.vD⟩
structure Jm (P:Program) (w:World) (K:W.Frag) (mg:Str->Option Value) (base:Heap) (CK:Addr) (H H0:Hp) (p:Addr) (rows:List cI) (k:Nat):Prop where
 ex:∃ us:List V,H p=some (.lst us)/\us.length=rows.length/\∀ (i:Nat) (v:V) (r:cI),us[i]?=some v->rows[i]?=some r->jZ P w K mg base CK 4 H H0 v r (k+5)
 l4:rows.length<=4
 hm:Ap.mul rows<=4000
 hs:Ap.sum rows<=99
 k30:k<=30
inductive Ej (P:Program) (w:World) (K:W.Frag) (mg:Str->Option Value) (base:Heap) (CK:Addr) (vs:List V) (H:Hp) (Q:VK) (_E:XK):Prop
 | mk (p rows k:_) (_:vs=[.ref p]) (_:Jm P w K mg base CK H (fZ H) p rows k) (_:(60<Ap.mul rows∨15<1+Ap.sum rows)) (_:∀ H',av H H'->Q (.bl true) H')
theorem iR (T:Txt K mg Ad):Def P w K mg base "_law_refused" 42 ["_law_rows_here"] (Ej P w K mg base Ad.Keeper):=by
 refine T.qQ.gS cW λ f aP A outer s H vs Q E hr h=>?_
 obtain ⟨p,rows,k,rfl,⟨⟨us,hp,lu,eO⟩,l4,hm,hsm,k30⟩,bad,q⟩:=h
 refine ⟨_,(ak (aG (i:=1) cW.nd rfl (lc rfl) lx)
     (ak (IC (i:=2) rfl rfl cW.nd rfl rfl T.sT (BL (FI T.iZ (dX (K:=K) T) .nil hr.m T.kr (aa (pv 0) ah))) (λ _ _ _ wn=>(ak (aG (i:=1) cW.nd rfl (lc rfl) (mq (aZ (oQ K rfl (acO _ (List.mem_singleton.mpr rfl)) wn) (by rfl) T.bX bK (aa (pv 2) (aa (fe (v:=V.ref _) rfl T.jk rfl) ah))) (iY (aZ (oQ K rfl (acO _ (List.mem_singleton.mpr rfl)) wn) (by rfl) T.bX bK (aa (pv 2) (aa (jv (v:=V.ty "ValueError") rfl T.tY qO rfl) ah))))))
     (am (bx (dH (aZ (oQ K rfl (acO _ (List.mem_singleton.mpr rfl)) wn) (by rfl) T.bX bK (aa (pv 2) (aa (bH (aa (fe (v:=V.ref _) rfl T.xi rfl) (aa (fe (v:=V.ref _) rfl T.zm rfl) (aa (fe (v:=V.ref _) rfl T.zr rfl) (aa (fe (v:=V.ref _) rfl T.Bw rfl) (aa (fe (v:=V.ref _) rfl T.C8 rfl) (aa (fe (v:=V.ref _) rfl T.zp rfl) ah))))))) ah)))) (am (aG (i:=1) cW.nd rfl (lc rfl) lx)) aM)))))
     (am (ax (pv 1))))),?_⟩
 try dsimp only [fj,aX]
 first|(refine dM ?_;intro _ _ _ _)|skip
 refine ⟨_,rfl,λ x dx hx gq ne=>?_⟩
 have S1:=aV (C:=Ad.Apart) hx gq
 have yX:fZ H x=none:=by unfold fZ;rw [hx]
 refine ⟨x,dx,p,4,k,rows,us,fZ H,rfl,ac,gN.trans S1,yX,S1 _ _ hp,lu,λ i v r e1 e2=>?_,l4,hm,hsm,by decide,k30,λ z1 z2=>by lia,λ _ H1 k1=>⟨T.ex,λ e he=>?_⟩⟩
 . obtain ⟨t,pq,b,e,a1,a2,a3⟩:=eO i v r e1 e2
   exact ⟨t,pq,b,e,S1 _ _ a1,S1 _ _ a2,a3⟩
 have S2:=aW hx gq k1
 refine ⟨_,rfl,_,_,_,rfl,rfl,jg T,Kq.one (b:=true) rfl T.k3,_,rfl,j9 ?_⟩
 refine ⟨_,rfl,_,_,_,rfl,rfl,jg T,Kq.one (b:=true) rfl T.k1,?_⟩
 refine ⟨_,rfl,(by show 6<=sizeLine;decide),λ pt hpt=>⟨_,_,_,rfl,rfl,jg T,Kq.many ac (λ x hx=>?_) T.k0,_,rfl,gw ?_⟩⟩
 . obtain ⟨C,rfl⟩:=ajx hx
   rfl
 exact ⟨_,rfl,q _ (S2.trans (al hpt))⟩
theorem dY (T:Txt K mg Ad):bD P w K mg base Ad.Apart "__init__" 39 ["self","rows"] [] (λ vs H Q _=>By P w K mg base Ad.Keeper Ad.Apart Ad.ba vs H Q E0):=(dX T).Jr
theorem jq (T:Txt K mg Ad) {H:Hp} {p x dx:Addr} {n m v:Nat} {R:Hp->Prop} (hp:H p=some (.lst (List.replicate m (ao v)))) (m1:1<=m) (m24:m<=24) (n4:n<=4) (hx:H x=none) (gq:H dx=none) (ne:dx≠x) (k:∀ H',av H H'->(∃ W F,KA P w K mg base Ad.Keeper n (fZ H') x m 1 W F 5)->R H') :
   oy Ad.Clock K [.ref x,.ref p] (upd (upd H dx (.own x)) x (.ins Ad.Clock dx [])) (λ u H2=>u=V.dC/\R H2) E0:=by
 have e:((List.replicate m v).map Int.ofNat).map V.int=List.replicate m (ao v):=by rw [dZ,List.map_replicate]
 have ll:((List.replicate m v).map Int.ofNat).length=m:=by rw [aad,aki]
 refine ⟨x,dx,p,(List.replicate m v).map Int.ofNat,rfl,ac,gk ne,bh.of (by rw [e];exact aV hx gq _ _ hp),by rw [ll];exact m1,by rw [ll];exact m24,λ pw H' st z0 z1 z2 z3=>⟨rfl,k H' (aW hx gq st) ?_⟩⟩
 have:=pX (P:=P) (w:=w) (base:=base) T (n:=n) (ws:=List.replicate m v) ⟨dx,pw,cN z1 nofun,cN z2 nofun,cN z3 nofun,by rw [ll];exact m1,by rw [ll];exact m24⟩ n4
 rw [aki] at this
 exact ⟨_,_,this⟩
inductive EN (P:Program) (w:World) (K:W.Frag) (mg:Str->Option Value) (base:Heap) (CK:Addr) (vs:List V) (H:Hp) (Q:VK) (_E:XK):Prop
 | mk (x:Int) (_:vs=[.int x]) (_:∀ p rows k H',av H H'->Jm P w K mg base CK H' (fZ H') p rows k->(60<Ap.mul rows∨15<1+Ap.sum rows)->Q (.ref p) H')
theorem mR (T:Txt K mg Ad):Def P w K mg base "_law_too_many" 43 ["_law_x"] (EN P w K mg base Ad.Keeper):=by
 refine T.pP.gS dP λ f aP A outer s H vs Q E hr h=>?_
 obtain ⟨x,rfl,q⟩:=h
 refine ⟨_,(ak (aG (i:=1) dP.nd rfl (lc rfl) (cp T.g3 (bF (K:=K) T) .nil hr.m T.jo (aa (az j6 (aU (aa ag ah)) ag) ah)))
     (ak (aG (i:=2) dP.nd rfl (lc rfl) (cp T.g3 (bF (K:=K) T) .nil hr.m T.jo (aa (az j6 (aU (aa ag ah)) ag) ah)))
     (ak (bx (aJ cO (az aS (pv 0) ag) ag (aK _)) (am (ax (aU (aa (bH (aa (aU (aa ag ah)) (aa (pv 1) ah))) (aa (bH (aa (aU (aa ag (aa ag ah))) (aa (pv 2) ah))) ah))))) aM)
     (ak (aG (i:=3) dP.nd rfl (lc rfl) (ay (mx (K:=K) T) hr.m (aa (az bg ag (az eN (az aS (az bE (pv 0) ag) ag) (bO zE (by rfl) T.yB tJ (aa (fu cO (az aS (pv 0) ag) ag (aK _)) ah)))) ah)))
     (ak (bx (aJ cO (az aS (pv 0) ag) ag (aK _)) (am (ax (aU (aa (bH (aa (aU (aa ag ah)) (aa (pZ T.kQ (cV (K:=K) T) hr.m T.nQ (aa (tS (P:=P) (w:=w) rfl rfl) (aa (pv 3) ah))) ah))) ah)))) aM)
     (am (ax (aU (aa (bH (aa (aU (aa ag ah)) (aa (pv 3) ah))) (aa (bH (aa (aU (aa ag ah)) (aa (kP ⟨T.d9.makes,T.jD,T.d9.kp⟩ T.iQ) ah))) ah)))))))))),?_⟩
 try dsimp only [fj,aX]
 first|(refine pO ?_;intro _ _ _ _ _ _ _)|skip
 refine ⟨rD,λ l1 ym=>?_⟩
 have S1:=al (o:=.lst [.int 0]) ym
 have k1:(upd H l1 (.lst [.int 0])) l1=some (.lst [.int 0]):=ac
 generalize upd H l1 (.lst [.int 0])=H1 at S1 k1 ⊢
 refine ⟨l1,9,_,rfl,rfl,k1,by decide,by decide,by show 1 * 9<=sizeLine;decide,λ p1 hp1 x1 d1 vf xo n1=>?_⟩
 have S2:=al (o:=.lst (List.replicate (Int.toNat 9) [V.int 0]).flatten) hp1
 refine jq (P:=P) (w:=w) (base:=base) (n:=1) (m:=9) (v:=0) T ac (by decide) (by decide) (by decide) vf xo n1 λ H3 S3 ⟨W1,F1,Ls⟩=>?_
 have T3:=S1.trans (S2.trans S3)
 refine ⟨rD,λ l2 Jg=>?_⟩
 have S4:=al (o:=.lst [.int 0]) Jg
 refine ⟨l2,7,_,rfl,rfl,ac,by decide,by decide,by show 1 * 7<=sizeLine;decide,λ p2 Fn x2 d2 JR hd2 n2=>?_⟩
 have S5:=al (o:=.lst (List.replicate (Int.toNat 7) [V.int 0]).flatten) Fn
 refine jq (P:=P) (w:=w) (base:=base) (n:=2) (m:=7) (v:=0) T ac (by decide) (by decide) (by decide) JR hd2 n2 λ H6 S6 ⟨W2,F2,ka2⟩=>?_
 have eP:=S4.trans (S5.trans S6)
 have T6:=T3.trans eP
 have Ls:=Ls.same (eR eP)
 refine ⟨_,rfl,_,_,rfl,rfl,by decide,λ y y0 y1 ey=>⟨rfl,_,rfl,dL (λ z=>?_) λ z=>?_⟩⟩
 .
  refine ⟨rD,λ a1 AZ=>⟨_,rfl,kh,λ t1 wq=>⟨kh,λ a2 TR=>⟨_,rfl,kh,λ t2 Bz=>⟨kh,λ po uJ=>?_⟩⟩⟩⟩⟩
  have A1:=al (o:=.lst [.int 1]) AZ
  have A2:=al (o:=.tup [.ref a1,.ref x1]) wq
  have A3:=al (o:=.lst [.int 0,.int 2]) TR
  have A4:=al (o:=.tup [.ref a2,.ref x2]) Bz
  have A5:=al (o:=.lst [.ref t1,.ref t2]) uJ
  have A25:=A2.trans (A3.trans (A4.trans A5))
  have Xs:=A1.trans A25
  refine q po [⟨[1],9,1,W1,F1⟩,⟨[0,2],7,1,W2,F2⟩] 0 _ (T6.trans Xs) ⟨⟨_,ac,rfl,λ i v r e1 e2=>?_⟩,by show 2<=4;decide,by show 9 * (7 * 1)<=4000;decide,by show 1+(1+0)<=99;decide,by decide⟩ (.inl (by show 60<9 * (7 * 1);decide))
  match i,e1,e2 with
  | 0,e1,e2 =>
    cases e1;cases e2
    exact ⟨t1,a1,x1,rfl,(A3.trans (A4.trans A5)) _ _ ac,A25 _ _ ac,Ls.same (eR Xs),λ x hx=>by rw [List.mem_singleton.mp hx];decide,by show 1<=4;decide⟩
  | 1,e1,e2 =>
    cases e1;cases e2
    exact ⟨t2,a2,x2,rfl,A5 _ _ ac,(A4.trans A5) _ _ ac,ka2.same (eR Xs),λ x hx=>by simp only [ae1,acn,ajE] at hx;lia,by show 2<=4;decide⟩
  | i+2,e1,e2=>simp at e2
 refine ⟨_,rfl,_,_,rfl,rfl,⟨by decide,yC⟩,λ a ea=>⟨_,_,rfl,rfl,by decide,λ b b0 b1 eb=>⟨_,rfl,_,_,rfl,rfl,by decide,λ c c0 c1 ec=>⟨rfl,.inr ⟨_,rfl,_,_,rfl,rfl,⟨1,1,(show Int.natAbs _<2 ^ 1 by lia),(show Int.natAbs _<2 ^ 1 by split<;>decide),by decide⟩,λ d ed=>⟨_,_,rfl,rfl,λ e ee=>?_⟩⟩⟩⟩⟩⟩
 have dc:d=0∨d=1:=by
   rw [ed]
   split<;>lia
 obtain ⟨m,rfl⟩:=aga (show 0<=e by lia)
 refine ⟨m,1,rfl,by lia,by decide,λ x3 W3 H7 S7 Iu=>?_⟩
 have T7:=T6.trans S7
 refine ⟨_,rfl,_,_,rfl,rfl,by decide,λ y' y0' y1' ey'=>⟨rfl,_,rfl,dL (λ z'=>?_) λ z'=>?_⟩⟩
 .
  have z1:y'=1:=V.int.inj z'
  have d0:d=0:=by
    have hc:¬ (V.int c=V.int 2):=λ h=>by
      have:=V.int.inj h
      lia
    rw [ed,af6 hc]
    simp
  obtain rfl:m=13:=by lia
  refine ⟨rD,λ a1 AZ=>λ pd mO=>⟨_,rfl,λ xt dt rK wj nt=>?_⟩⟩
  have A1:=al (o:=.lst [.int 0]) AZ
  have q1:(upd H7 a1 (.lst [.int 0])) a1=some (.lst [.int 0]):=ac
  generalize upd H7 a1 (.lst [.int 0])=H8 at A1 q1 mO rK wj ⊢
  have A2:=al (o:=jU P w pd []) mO
  have d3:gu P w K (upd H8 pd (jU P w pd [])) pd (i8 0 none):=gu.nil ac
  generalize upd H8 pd (jU P w pd [])=H9 at A2 d3 rK wj ⊢
  have x4:=A1.trans A2
  have ka9:=Iu.same (eR x4)
  have yX:fZ H9 xt=none:=by unfold fZ;rw [rK]
  have A3:=aV (C:=Ad.Table) rK wj
  refine ⟨xt,dt,pd,x3,0,1,_,none,1,_,_,_,rfl,ac,d3.same A3,⟨fZ H9,gN.trans A3,yX,ka9⟩,by decide,by decide,λ _ pr sK yY h1 Bj d10=>⟨rfl,?_⟩,λ z _ _=>absurd z (by decide)⟩
  have A4:=aW rK wj yY
  have kt:=kN (o:=none) T ⟨dt,pr,x3,0,cN h1 nofun,⟨cN d10.ob nofun,λ e he=>(d10.keys e he).ts AJ⟩,ka9.same (eR A4)⟩ (by decide)
  refine ⟨kh,λ t1 wq=>⟨rD,λ po uJ=>?_⟩⟩
  have A5:=al (o:=.tup [.ref a1,.ref xt]) wq
  have A6:=al (o:=.lst [.ref t1]) uJ
  refine q po [⟨[0],1,15,De none W3,λ _=>0⟩] 14 _ (T7.trans (x4.trans (A4.trans (A5.trans A6)))) ⟨⟨_,ac,rfl,λ i v r e1 e2=>?_⟩,by show 1<=4;decide,by show 1 * 1<=4000;decide,by show 15+0<=99;decide,by decide⟩ (.inr (by show 15<1+(15+0);decide))
  cases i with
  | zero =>
    cases e1;cases e2
    exact ⟨t1,a1,xt,rfl,A6 _ _ ac,(A2.trans (A4.trans (A5.trans A6))) _ _ q1,kt.same (eR (A5.trans A6)),λ x hx=>by rw [List.mem_singleton.mp hx];decide,by show 1<=4;decide⟩
  | succ i=>simp at e2
 .
  refine ⟨rD,λ a1 AZ=>⟨_,rfl,kh,λ t1 wq=>⟨rD,λ a2 TR xk dk DQ DX nk=>⟨kh,λ t2 Bz=>⟨kh,λ po uJ=>?_⟩⟩⟩⟩⟩
  have A1:=al (o:=.lst [.int 2]) AZ
  have A2:=al (o:=.tup [.ref a1,.ref x3]) wq
  have A3:=al (o:=.lst [.int 3]) TR
  have A4:=aV (C:=Ad.Keeper) DQ DX
  have A5:=al (o:=.tup [.ref a2,.ref xk]) Bz
  have A6:=al (o:=.lst [.ref t1,.ref t2]) uJ
  have A56:=A5.trans A6
  have A46:=A4.trans A56
  have A36:=A3.trans A46
  have A26:=A2.trans A36
  have A16:=A1.trans A26
  refine q po [⟨[2],1,1+m,W3,λ _=>0⟩,⟨[3],1,1,λ _ _=>0,λ _=>0⟩] 14 _ (T7.trans A16) ⟨⟨_,ac,rfl,λ i v r e1 e2=>?_⟩,by show 2<=4;decide,by show 1 * (1 * 1)<=4000;decide,by show 1+m+(1+0)<=99;lia,by decide⟩ (.inr (by show 15<1+(1+m+(1+0));lia))
  match i,e1,e2 with
  | 0,e1,e2 =>
    cases e1;cases e2
    exact ⟨t1,a1,x3,rfl,A36 _ _ ac,A26 _ _ ac,(Iu.same (eR A16)).mono (by lia),λ x hx=>by rw [List.mem_singleton.mp hx];decide,by show 1<=4;decide⟩
  | 1,e1,e2 =>
    cases e1;cases e2
    exact ⟨t2,a2,xk,rfl,A6 _ _ ac,A46 _ _ ac,((jn T (cN ac nofun) (by decide)).same (eR A56)).mono (by decide),λ x hx=>by rw [List.mem_singleton.mp hx];decide,by show 1<=4;decide⟩
  | i+2,e1,e2=>simp at e2
inductive FF  (vs:List V) (H:Hp) (Q:VK) (_E:XK):Prop
 | mk (x:Int) (_:vs=[.int x]) (_:∀ H',av H H'->Q (.bl true) H')
theorem nB (T:Txt K mg Ad):Def P w K mg base "_law_just_let" 43 ["_law_x"] FF:=by
 refine T.oB.gS ny λ f aP A outer s H vs Q E hr h=>?_
 obtain ⟨x,rfl,q⟩:=h
 refine ⟨_,(ak (bx (aJ cO (az aS (pv 0) ag) ag (aK _)) (am (ax (ay (cx (K:=K) T) hr.m (aa (bv (P:=P) (w:=w) (K:=K) (mg:=mg) (base:=base) (k:=42) ⟨rfl,rfl,rfl,rfl,rfl⟩ (cp T.iZ (dY (K:=K) T) .nil hr.m T.kr (aa (aU (aa (bH (aa (aU (aa (az aS (az bE (pv 0) ag) ag) ah)) (aa (ay (mx (K:=K) T) hr.m (aa ag ah)) ah))) ah)) ah)) hr) (aa ag ah))))) aM)
     (am (ax (ay (cx (K:=K) T) hr.m (aa (bv (P:=P) (w:=w) (K:=K) (mg:=mg) (base:=base) (k:=42) ⟨rfl,rfl,rfl,rfl,rfl⟩ (cp T.iZ (dY (K:=K) T) .nil hr.m T.kr (aa (aU (aa (bH (aa (aU (aa ag (aa ag ah))) (aa (cp T.g3 (bF (K:=K) T) .nil hr.m T.jo (aa (az j6 (aU (aa ag ah)) ag) ah)) ah))) (aa (bH (aa (aU (aa ag ah)) (aa (cp T.g3 (bF (K:=K) T) .nil hr.m T.jo (aa (az j6 (aU (aa ag ah)) ag) ah)) ah))) ah))) ah)) hr) (aa ag ah)))))),?_⟩
 try dsimp only [fj,aX]
 refine ⟨_,rfl,_,_,rfl,rfl,by decide,λ y y0 y1 ey=>⟨rfl,_,rfl,dL (λ z=>?_) λ z=>?_⟩⟩
 .
  refine ⟨_,rfl,_,_,rfl,rfl,⟨by decide,yC⟩,λ a ea=>⟨_,_,rfl,rfl,by decide,λ r r0 r1 er=>⟨rD,λ a1 AZ=>?_⟩⟩⟩
  obtain ⟨r,rfl⟩:=aga r0
  have A1:=al (o:=.lst [.int (r:Int)]) AZ
  have k1:(upd H a1 (.lst [.int (r:Int)])) a1=some (.lst [.int (r:Int)]):=ac
  generalize upd H a1 (.lst [.int (r:Int)])=H1 at A1 k1 ⊢
  refine ⟨13,1,rfl,by decide,by decide,λ x3 W3 H2 A2 Iu=>⟨kh,λ t1 wq=>⟨rD,λ pl fD xa da wm yL na=>?_⟩⟩⟩
  have A3:=al (o:=.tup [.ref a1,.ref x3]) wq
  have A4:=al (o:=.lst [.ref t1]) fD
  have k3:=A4 _ _ (show (upd H2 t1 (.tup [.ref a1,.ref x3])) t1=some (.tup [.ref a1,.ref x3]) from ac)
  have k4:(upd (upd H2 t1 (.tup [.ref a1,.ref x3])) pl (.lst [.ref t1])) pl=some (.lst [.ref t1]):=ac
  have WE:=A3.trans A4
  generalize upd (upd H2 t1 (.tup [.ref a1,.ref x3])) pl (.lst [.ref t1])=H4 at WE k3 k4 wm yL ⊢
  have A5:=aV (C:=Ad.Apart) wm yL
  have yX:fZ H4 xa=none:=by unfold fZ;rw [wm]
  refine ⟨xa,da,pl,4,13,[⟨[r],1,1+13,W3,λ _=>0⟩],[.ref t1],fZ H4,rfl,ac,gN.trans A5,yX,A5 _ _ k4,rfl,λ i v rr e1 e2=>?_,by show 1<=4;decide,by show 1 * 1<=4000;decide,by show 1+13+0<=99;decide,by decide,by decide,λ _ _ H0 H6 s1 s2 kp _ ap=>⟨rfl,?_⟩,λ z _ _=>?_⟩
  .
   cases i with
   | zero =>
     cases e1;cases e2
     exact ⟨t1,a1,x3,rfl,A5 _ _ k3,(WE.trans A5) _ _ (A2 _ _ k1),Iu.same (eR WE),λ x hx=>by rw [List.mem_singleton.mp hx];lia,by show 1<=4;decide⟩
   | succ i=>simp at e2
  . have ka:=((kX T ap (by show 1+13+0<=99;decide)).same s2).mono (j:=42) (by decide)
    obtain ⟨C1,d1,f1,nW,qA,sr,sx,b1,b2,b3,b4,b5,b6,b7,b8,b9,rG,sv,_⟩:=ka.ex
    have S6:=aW wm yL kp
    exact ⟨C1,xa,d1,f1,_,qA,rfl,b1,b2.2.1,b3,b5,b9 (av.refl _) λ H7 S7=>⟨15,rfl,q H7 (A1.trans (A2.trans (WE.trans (S6.trans S7))))⟩⟩
  . rcases z with z|z
    . exact absurd (show 60<1 * 1 from z) (by decide)
    . exact absurd (show 15<1+(1+13+0) from z) (by decide)
 .
  refine ⟨kh,λ a1 AZ=>⟨rD,λ l1 ym=>?_⟩⟩
  have A1:=al (o:=.lst [.int 0,.int 3]) AZ
  have k1:(upd H a1 (.lst [.int 0,.int 3])) a1=some (.lst [.int 0,.int 3]):=ac
  generalize upd H a1 (.lst [.int 0,.int 3])=H1 at A1 k1 ym ⊢
  have A2:=al (o:=.lst [.int 0]) ym
  refine ⟨l1,5,_,rfl,rfl,ac,by decide,by decide,by show 1 * 5<=sizeLine;decide,λ p1 hp1 x1 d1 vf xo n1=>?_⟩
  have A3:=al (o:=.lst (List.replicate (Int.toNat 5) [V.int 0]).flatten) hp1
  refine jq (P:=P) (w:=w) (base:=base) (n:=2) (m:=5) (v:=0) T ac (by decide) (by decide) (by decide) vf xo n1 λ H3 S3 ⟨W1,F1,Ls⟩=>?_
  have B1:=A2.trans (A3.trans S3)
  refine ⟨kh,λ t1 wq=>?_⟩
  have A4:=al (o:=.tup [.ref a1,.ref x1]) wq
  have k4:(upd H3 t1 (.tup [.ref a1,.ref x1])) t1=some (.tup [.ref a1,.ref x1]):=ac
  generalize upd H3 t1 (.tup [.ref a1,.ref x1])=H4 at A4 k4 ⊢
  refine ⟨rD,λ a2 TR=>?_⟩
  have A5:=al (o:=.lst [.int 1]) TR
  have k5:(upd H4 a2 (.lst [.int 1])) a2=some (.lst [.int 1]):=ac
  generalize upd H4 a2 (.lst [.int 1])=H5 at A5 k5 ⊢
  refine ⟨rD,λ l2 Jg=>?_⟩
  have A6:=al (o:=.lst [.int 1]) Jg
  refine ⟨l2,12,_,rfl,rfl,ac,by decide,by decide,by show 1 * 12<=sizeLine;decide,λ p2 Fn x2 d2 JR hd2 n2=>?_⟩
  have A7:=al (o:=.lst (List.replicate (Int.toNat 12) [V.int 1]).flatten) Fn
  refine jq (P:=P) (w:=w) (base:=base) (n:=1) (m:=12) (v:=1) T ac (by decide) (by decide) (by decide) JR hd2 n2 λ H8 S8 ⟨W2,F2,ka2⟩=>?_
  have B2:=A6.trans (A7.trans S8)
  refine ⟨kh,λ t2 Bz=>⟨kh,λ pl fD xa da wm yL na=>?_⟩⟩
  have A9:=al (o:=.tup [.ref a2,.ref x2]) Bz
  have A10:=al (o:=.lst [.ref t1,.ref t2]) fD
  have k9:=A10 _ _ (show (upd H8 t2 (.tup [.ref a2,.ref x2])) t2=some (.tup [.ref a2,.ref x2]) from ac)
  have Hi:(upd (upd H8 t2 (.tup [.ref a2,.ref x2])) pl (.lst [.ref t1,.ref t2])) pl=some (.lst [.ref t1,.ref t2]):=ac
  have B3:=A9.trans A10
  generalize upd (upd H8 t2 (.tup [.ref a2,.ref x2])) pl (.lst [.ref t1,.ref t2])=sK at B3 k9 Hi wm yL ⊢
  have JY:=aV (C:=Ad.Apart) wm yL
  have yX:fZ sK xa=none:=by unfold fZ;rw [wm]
  have C23:=B2.trans B3
  have C53:=A5.trans C23
  have Ze:=A4.trans C53
  refine ⟨xa,da,pl,4,0,[⟨[0,3],5,1,W1,F1⟩,⟨[1],12,1,W2,F2⟩],[.ref t1,.ref t2],fZ sK,rfl,ac,gN.trans JY,yX,JY _ _ Hi,rfl,λ i v rr e1 e2=>?_,by show 2<=4;decide,by show 5 * (12 * 1)<=4000;decide,by show 1+(1+0)<=99;decide,by decide,by decide,λ _ _ H0 Kb s1 s2 kp _ ap=>⟨rfl,?_⟩,λ z _ _=>?_⟩
  .
   match i,e1,e2 with
   | 0,e1,e2 =>
     cases e1;cases e2
     exact ⟨t1,a1,x1,rfl,JY _ _ (C53 _ _ k4),JY _ _ (Ze _ _ (B1 _ _ k1)),Ls.same (eR Ze),λ x hx=>by simp only [ae1,acn,ajE] at hx;lia,by show 2<=4;decide⟩
   | 1,e1,e2 =>
     cases e1;cases e2
     exact ⟨t2,a2,x2,rfl,JY _ _ k9,JY _ _ (C23 _ _ k5),ka2.same (eR B3),λ x hx=>by rw [List.mem_singleton.mp hx];decide,by show 1<=4;decide⟩
   | i+2,e1,e2=>simp at e2
  . have ka:=((kX T ap (by show 1+(1+0)<=99;decide)).same s2).mono (j:=42) (by decide)
    obtain ⟨C1,Kg,f1',nW,qA,sr,sx,b1,b2,b3,b4,b5,b6,b7,b8,b9,rG,sv,_⟩:=ka.ex
    have qd:=aW wm yL kp
    exact ⟨C1,xa,Kg,f1',_,nW,rfl,b1,b2.1,b3,b4,b8 (av.refl _) λ Wl IG=>⟨60,rfl,q Wl (A1.trans (B1.trans (Ze.trans (qd.trans IG))))⟩⟩
  . rcases z with z|z
    . exact absurd (show 60<5 * (12 * 1) from z) (by decide)
    . exact absurd (show 15<1+(1+(1+0)) from z) (by decide)
theorem xC {q d:Addr} {H:Hp} {l l':List V} {s:eP} (hd:H d=some (.lst l)) (h:tL H q s):tL (upd H d (.lst l')) q s:=by
 obtain ⟨pb,pw,pf,h1,h2,h3,h4⟩:=h
 have n:∀ {b:Addr} {xs:List V},H b=some (.tup xs)->(upd H d (.lst l')) b=some (.tup xs):=λ e=>by rw [aq (iz e hd nofun)];exact e
 exact ⟨pb,pw,pf,n h1,n h2,n h3,n h4⟩
theorem Ap.oU:∀ {rs:List cI} {os:List Nat} {i o:Nat} {r:cI},os.length=rs.length->rs[i]?=some r->os[i]?=some o->(Ap.cL rs os)[i]?=some (r.F o)
 | r::rs,o::os,0,_,_,_,e1,e2=>by cases e1;cases e2;rfl
 | r::rs,o::os,i+1,_,_,h,e1,e2=>Ap.oU (rs:=rs) (os:=os) (i:=i) (by simpa using h) e1 e2
 | [],_,_,_,_,_,e1,_=>by simp at e1
 | _::_,[],_,_,_,h,_,_=>by simp at h
theorem Fy {α:Type} {G os:List α} {j:Nat} {x:α} (hG:G[j]?=some x) (hl:j<os.length):(G.take j++os.drop j).set j x=G.take (j+1)++os.drop (j+1):=by
 have hj:=(List.getElem?_eq_some_iff.mp hG).1
 have lj:(G.take j).length=j:=by rw [aaP];lia
 rw [List.set_append_right _ _ (by lia),lj,alS,amM hl,List.set_cons_zero,ahe,hG]
 simp
theorem xS:∀ {a b:List Nat},a.map Int.ofNat=b.map Int.ofNat->a=b
 | [],[],_=>rfl
 | x::a,y::b,h=>by
   obtain ⟨h1,h2⟩:=List.cons.inj h
   rw [Int.ofNat.inj h1,xS h2]
theorem kU:∀ k:Nat,(List.replicate k [V.int 0]).flatten=((List.replicate k 0).map Int.ofNat).map V.int
 | 0=>rfl
 | k+1=>by rw [aiI,aiI,ali,kU k];rfl
inductive DZ (P:Program) (w:World) (K:W.Frag) (mg:Str->Option Value) (base:Heap) (CK:Addr) (vs:List V) (H:Hp) (Q:VK) (_E:XK):Prop
 | mk (zY ps p a po pa rows os st k sz kk H0:_) (_:vs=[.ref zY,.ref ps]) (_:H zY=some (.tup [.ref p,.ref a,ao (Ap.mul rows),.ref po,.ref pa])) (_:av H0 H) (_:d7 P w K mg base CK H0 H0 p rows k) (_:k<=37) (_:H0 po=none) (_:H0 pa=none) (_:po≠pa) (_:KA P w K mg base CK 4 H0 a (Ap.mul rows) sz (λ i s=>Ap.cD rows (Ap.cT rows i) s) (Ap.after rows) kk) (_:kk<=41) (_:H po=some (.lst (os.map ao))) (_:H pa=some (.lst [ao (Ap.join rows os)])) (_:Ap.Own rows os) (_:tL H ps st) (_:Sz 4 st) (_:∀ H',av H0 H'->(∀ b o,H b=some o->b≠po->b≠pa->H' b=some o)->H' po=some (.lst ((Ap.cL rows os).map ao))->H' pa=some (.lst [ao (Ap.join rows (Ap.cL rows os))])->Q (.bl true) H')
theorem vp (T:Txt K mg Ad):Def P w K mg base "_law_step" 44 ["_law_walk","_law_state_here"] (DZ P w K mg base Ad.Keeper):=by
 refine T.wP.gS cY λ f aP A outer s H vs Q E hr h=>?_
 obtain ⟨zY,ps,p,a,po,pa,rows,os,st,k,sz,kk,H0,rfl,EJ,S0,zg,k37,f1',f2',Wp,ka,apS,ho,HJ,own,hs,hn,q⟩:=h
 refine ⟨_,(ak (gT (pv 0) (bW (K:=K) (n:=5) rfl rfl (aE (aA (i:=2) cY.nd rfl (lc rfl)) (aE (aA (i:=3) cY.nd rfl (lc rfl)) (aE (aA (i:=4) cY.nd rfl (lc rfl)) (aE (aA (i:=5) cY.nd rfl (lc rfl)) (aE (aA (i:=6) cY.nd rfl (lc rfl)) bU)))))))
     (ak (bx (gU (dH (ay (cx (K:=K) T) hr.m (aa (bP (P:=P) (w:=w) (K:=K) (mg:=mg) (base:=base) (k:=43) ⟨rfl,rfl,rfl,rfl,rfl⟩ (pv 3) hr (aa (aQ aO (pv 6) ag (λ _ _=>rfl)) (aa (pv 1) ah))) (aa (ay (jV (K:=K) T) hr.m (aa (pv 2) (aa (pv 5) (aa (pv 1) ah)))) ah))))) (am (ax lx)) aM)
     (ak (gT (bP (P:=P) (w:=w) (K:=K) (mg:=mg) (base:=base) (k:=43) ⟨rfl,rfl,rfl,rfl,rfl⟩ (pv 3) hr (aa (aQ aO (pv 6) ag (λ _ _=>rfl)) (aa (pv 1) ah))) (Dz (pv 6) ag set_list))
     (ak (df aem rfl (cg rfl T.du (aa (aZ ce (by rfl) T.hU eY (aa (pv 2) ah)) ah)) (aA (i:=7) cY.nd rfl (lc rfl)) (am (gT (bP (P:=P) (w:=w) (K:=K) (mg:=mg) (base:=base) (k:=43) ⟨rfl,rfl,rfl,rfl,rfl⟩ (aQ aO (aQ aO (pv 2) (pv 7) (λ _ _=>rfl)) ag (λ _ _=>rfl)) hr (aa (aQ aO (pv 5) (pv 7) (λ _ _=>rfl)) (aa (ay (gp (K:=K) T) hr.m (aa (pv 1) (aa (aQ aO (aQ aO (pv 2) (pv 7) (λ _ _=>rfl)) ag (λ _ _=>rfl)) ah))) ah))) (Dz (pv 5) (pv 7) set_list))))
     (ak (bx (PW.pt (jQ (gU (dH (aZ d4 (by rfl) T.bX bK (aa (aQ aO (pv 6) ag (λ _ _=>rfl)) (aa (jv (v:=V.ty "int") rfl T.yB tJ rfl) ah))))) (jQ (dH (aZ d4 (by rfl) T.bX bK (aa (aQ aO (pv 6) ag (λ _ _=>rfl)) (aa (jv (v:=V.ty "bool") rfl T.Bg yf rfl) ah)))) (jQ (aJ jP (aQ aO (pv 6) ag (λ _ _=>rfl)) ag (aK _)) (pW (aJ GK (aQ aO (pv 6) ag (λ _ _=>rfl)) (pv 4) (aK _))))))) (am (ax lx)) aM)
     (am (ax (DI (fu cO (aQ aO (pv 6) ag (λ _ _=>rfl)) ag (aK _)) (iY (fu (Df hr.units) (pv 5) (az j6 (aU (aa ag ah)) (aZ ce (by rfl) T.hU eY (aa (pv 2) ah))) (aK _))))))))))),?_⟩
 try dsimp only [fj,aX]
 first|(refine pO ?_;intro _ _ _ _ _ _ _)|skip
 have rws:=zg.same S0
 have jl:=Ap.jt own
 obtain ⟨C1,d1,f1,nW,qA,sr,sx,b1,b2,b3,b4,b5,b6,b7,b8,b9,rG,sv,_⟩:=(ka.mono (j:=43) (by lia)).ex
 refine ⟨_,rfl,zY,_,rfl,bQ.of EJ,rfl,_,_,rfl,_,_,rfl,_,_,rfl,_,_,rfl,_,_,rfl,rfl,?_⟩
 refine ⟨_,rfl,C1,a,d1,f1,_,sr,rfl,S0 _ _ b1,b2.2.2.1,b3,b6,_,rfl,pa,_,_,_,rfl,rfl,.inl (bh.of HJ),rfl,_,rfl,rG S0 jl hs hn λ H1 S1=>?_⟩
 have dj:=Ap.jy own
 refine ⟨_,rfl,_,rfl,_,rfl,p,po,ps,rows,os,st,k,H0,rfl,rws.same S1,k37,bh.of (S1 _ _ ho),own,hs.same S1,hn,λ H2 S2=>?_⟩
 rw [dj]
 refine ⟨_,rfl,_,rfl,gw ?_⟩
 have T2:=S1.trans S2
 refine ⟨_,rfl,C1,a,d1,f1,_,sx,rfl,T2 _ _ (S0 _ _ b1),b2.2.2.2,b3,b7,_,rfl,pa,_,_,_,rfl,rfl,.inl (bh.of (T2 _ _ HJ)),rfl,_,rfl,sv (S0.trans T2) jl (hs.same T2) hn λ H3 S3=>?_⟩
 have T3:=T2.trans S3
 rw [Ap.pA own]
 refine ⟨_,rfl,pa,_,0,0,rfl,rfl,T3 _ _ HJ,rfl,?_⟩
 have U3:∀ b o,H b=some o->b≠po->b≠pa->(upd H3 pa (.lst [ao (Ap.join rows (Ap.cL rows os))])) b=some o:=λ b o hb _ n=>by rw [aq n];exact T3 _ _ hb
 have S03:av H0 (upd H3 pa (.lst [ao (Ap.join rows (Ap.cL rows os))])):=(S0.trans T3).put f2'
 have a3:(upd H3 pa (.lst [ao (Ap.join rows (Ap.cL rows os))])) pa=some (.lst [ao (Ap.join rows (Ap.cL rows os))]):=ac
 have o3:(upd H3 pa (.lst [ao (Ap.join rows (Ap.cL rows os))])) po=some (.lst (os.map ao)):=by rw [aq Wp];exact T3 _ _ ho
 have s3:tL (upd H3 pa (.lst [ao (Ap.join rows (Ap.cL rows os))])) ps st:=xC (T3 _ _ HJ) (hs.same T3)
 show (λ H3=>_) (upd H3 pa (.lst [ao (Ap.join rows (Ap.cL rows os))]))
 generalize upd H3 pa (.lst [ao (Ap.join rows (Ap.cL rows os))])=H4 at U3 S03 a3 o3 s3 ⊢
 obtain ⟨us,hp,lu,eO⟩:=zg.ex
 have lo:=Ap.nO own
 have lg:=(Ap.lh lo).trans lo
 have l4:=zg.l4
 refine ⟨_,rfl,p,_,rfl,.inl (bh.of (S03 _ _ hp)),λ m em=>⟨m,rfl,by lia,by lia,?_⟩⟩
 have hm:m.toNat=rows.length:=by lia
 refine se (lo:=0) (n:=m.toNat) (λ j σ H'=>A6 (av H0 H') (∀ b o,H b=some o->b≠po->b≠pa->H' b=some o) (H' pa=some (.lst [ao (Ap.join rows (Ap.cL rows os))])) (H' po=some (.lst (((Ap.cL rows os).take j++os.drop j).map ao))) (tL H' ps st) (∃ v7,σ=[some (.ref zY),some (.ref ps),some (.ref p),some (.ref a),some (ao (Ap.mul rows)),some (.ref po),some (.ref pa),v7]))
   ⟨S03,U3,a3,by rw [List.take_zero,List.nil_append,List.drop_zero];exact o3,s3,none,rfl⟩ ?_ ?_
 .
  rintro j σ H5 hj ⟨S5,U5,a5,o5,s5,v7,rfl⟩
  have Pr:j<rows.length:=by lia
  have er:=Wz Pr
  have eu:=Wz (show j<us.length by lia)
  have eo:=Wz (show j<os.length by lia)
  have eg:=Wz (show j<(Ap.cL rows os).length by lia)
  obtain ⟨t,pq,b,et,ht,rW,kb,dF,_⟩:=eO j _ _ eu er
  have r2:=zg.r2 _ (ahU Pr)
  have wk:=Ap.jr own er eo
  obtain ⟨C2,d2,f2,Ab,JD,JP,EM,c1,c2,c3,c4,c5,c6,c7,c8,c9,En,DU,_⟩:=(kb.mono (j:=43) (by lia)).ex
  have gj:=Ap.oU lo er eo
  have ej:((Ap.cL rows os).take j++os.drop j)[j]?=some os[j]:=by
    rw [aew (by rw [aaP];lia),aaP,Nat.min_eq_left (by lia),alS,List.getElem?_drop,Nat.add_zero,eo]
  have JN:∀ {Hx:Hp},av H0 Hx->bh K Hx p us/\uh us (0+(j:Int))=some (.ref t):=λ Sx=>⟨bh.of (Sx _ _ hp),by rw [agd,← et];exact dy eu⟩
  refine ⟨_,rfl,_,rfl,p,_,_,_,rfl,rfl,.inl (JN S5).1,(JN S5).2,t,_,_,_,rfl,rfl,.inr (bQ.of (S5 _ _ ht)),rfl,C2,b,d2,f2,_,EM,rfl,S5 _ _ c1,c2.2.2.2,c3,c7,_,rfl,_,rfl,po,_,_,ao os[j],rfl,rfl,.inl (bh.of o5),(by rw [agd];exact dy (by rw [aei,ej];rfl)),_,rfl,_,rfl,_,rfl,p,_,_,_,rfl,rfl,.inl (JN S5).1,(JN S5).2,t,_,_,_,rfl,rfl,.inr (bQ.of (S5 _ _ ht)),rfl,ps,pq,st,rows[j].rooms,rfl,s5,hn,bh.of (S5 _ _ rW),r2,dF,λ tq H6 S6 h6=>?_⟩
  refine DU (S5.trans S6) wk h6 (Ap.oS st rows[j].rooms) λ H7 S7=>?_
  have T7:=S6.trans S7
  refine ⟨_,rfl,_,rfl,po,_,_,j,rfl,rfl,T7 _ _ o5,(by rw [agd];exact Ex (by rw [aad,acC,aaP,List.length_drop];lia)),(S5.trans T7).put f1',λ b o hb n1 n2=>by rw [aq n1];exact T7 _ _ (U5 b o hb n1 n2),by rw [aq Wp.symm];exact T7 _ _ a5,?_,xC (T7 _ _ o5) (s5.same T7),_,rfl⟩
  refine ac.trans ?_
  refine alR (λ z=>some (HO.lst z)) ?_
  rw [← List.map_set,Fy gj (show j<os.length by lia)]
 .
  rintro σ H5 ⟨S5,U5,a5,o5,s5,v7,rfl⟩
  have og:(Ap.cL rows os).take m.toNat++os.drop m.toNat=Ap.cL rows os:=by rw [hm,← lg,adg,lg,← lo,List.drop_length,agb]
  rw [og] at o5
  have Gg:=Ap.iX zg.ok own
  have jl':=Ap.jt Gg
  have a0:=bh.of (K:=K) a5
  refine ⟨_,rfl,pa,_,_,_,rfl,rfl,.inl a0,rfl,_,_,_,_,_,rfl,.int _,rfl,rfl,_,rfl,gw ?_⟩
  refine ⟨_,rfl,pa,_,_,_,rfl,rfl,.inl a0,rfl,_,_,_,_,_,rfl,.int _,rfl,kK K,_,rfl,gw ?_⟩
  refine ⟨_,rfl,pa,_,_,_,rfl,rfl,.inl a0,rfl,_,_,rfl,rfl,_,rfl,lR (by lia) ?_⟩
  refine ⟨_,rfl,pa,_,_,_,rfl,rfl,.inl a0,rfl,_,rfl,_,_,rfl,rfl,_,rfl,lR (by lia) ?_⟩
  refine ⟨_,rfl,pa,_,_,_,rfl,rfl,.inl a0,rfl,rfl,_,rfl,dL (λ z=>?_) λ z=>?_⟩
  . exact q H5 S5 U5 o5 a5
  have nz:Ap.cL rows os≠List.replicate rows.length 0:=λ e=>z (by rw [e,Ap.js];rfl)
  refine ⟨_,rfl,rD,λ l1 ym=>⟨_,rfl,p,_,rfl,.inl (bh.of (al ym _ _ (S5 _ _ hp))),λ m2 J2=>⟨l1,m2,_,rfl,rfl,ac,by lia,by lia,by show 1 * m2.toNat<=sizeLine;rw [amc];lia,λ l2 Jg=>?_⟩⟩⟩
  have A1:=al (o:=.lst [.int 0]) ym
  have A2:=al (o:=.lst (List.replicate m2.toNat [V.int 0]).flatten) Jg
  have x4:=A1.trans A2
  have em:m2.toNat=rows.length:=by lia
  have ef:=kU m2.toNat
  rw [em] at ef
  have k2:(upd (upd H5 l1 (.lst [.int 0])) l2 (.lst (List.replicate m2.toNat [V.int 0]).flatten)) l2=some (.lst (((List.replicate rows.length 0).map Int.ofNat).map V.int)):=by rw [em,ef];exact ac
  have k5:=x4 _ _ o5
  have eG:(Ap.cL rows os).map ao=((Ap.cL rows os).map Int.ofNat).map V.int:=(dZ _).symm
  rw [eG] at k5
  refine ⟨.list (((Ap.cL rows os).map Int.ofNat).map PyData.int),.list (((List.replicate rows.length 0).map Int.ofNat).map PyData.int),sN (bh.of k5) (g0 _),sN (bh.of k2) (g0 _),eS (n:=1) (λ d hd=>?_) (by decide),eS (n:=1) (λ d hd=>?_) (by decide),?_⟩
  . obtain ⟨x,_,rfl⟩:=List.mem_map.mp hd
    exact trivial
  . obtain ⟨x,_,rfl⟩:=List.mem_map.mp hd
    exact trivial
  have ne:PyData.eqv (.list (((Ap.cL rows os).map Int.ofNat).map PyData.int)) (.list (((List.replicate rows.length 0).map Int.ofNat).map PyData.int))=false:=by
    cases c:PyData.eqv (.list (((Ap.cL rows os).map Int.ofNat).map PyData.int)) (.list (((List.replicate rows.length 0).map Int.ofNat).map PyData.int)) with
    | false=>rfl
    | true =>
      have c:PyData.eqvAll (((Ap.cL rows os).map Int.ofNat).map PyData.int) (((List.replicate rows.length 0).map Int.ofNat).map PyData.int)=true:=by simpa only [PyData.eqv] using c
      rw [n6 _ _ (i0 _) (i0 _),gZ,gZ] at c
      have c:=uC c
      exact absurd (xS c) nz
  rw [ne]
  exact q _ (S5.trans x4) (λ b o hb n1 n2=>x4 _ _ (U5 b o hb n1 n2)) (x4 _ _ o5) (x4 _ _ a5)
theorem zI {A:HV} {H:Hp} {p:Addr} {xs:List V} {o:HO} (hp:H p=some (.lst xs)) (h:iB (TT A) H):iB (TT A) (upd H p o):=λ e he=>by
 have ne:∀ {b:Addr} {u:HO},H b=some u->(∀ xs,u ≠ .lst xs)->upd H p o b=some u:=λ {b u} e n=>by
   rw [aq (λ z=>by rw [z,hp] at e;cases e;exact n xs rfl)];exact e
 rcases h e he with q|⟨c,oc,vs,t,q1,q2,q3,q4⟩
 . exact .inl (ne q nofun)
 . exact .inr ⟨c,oc,vs,t,ne q1 nofun,ne q2 (λ xs z=>by unfold Fz at z;cases z),q3,q4⟩
theorem zU:bootBuiltins "sorted" = some (.builtin "sorted"):=boot_sorted
theorem jZ.mono {n k:Nat} {H H' H0 Hb:Hp} {v:V} {r:cI} (h:jZ P w K mg base Ad.Keeper n H H0 v r k) (s:av H H') (s0:av H0 Hb):jZ P w K mg base Ad.Keeper n H' Hb v r k:=by
 obtain ⟨t,p,b,e,h1,h2,h3,h4⟩:=h
 exact ⟨t,p,b,e,s _ _ h1,s _ _ h2,h3.same s0,h4⟩
structure qv (P:Program) (w:World) (K:W.Frag) (mg:Str->Option Value) (base:Heap) (CK:Addr) (H:Hp) (q:Addr) (ord:List Nat) (at_ i:Nat) (rows:List cI):Prop where
 ex:∃ us:List V,H q=some (.lst us)/\us.length=rows.length/\∀ (j:Nat) (v:V) (r:cI),us[j]?=some v->rows[j]?=some r->jZ P w K mg base CK 4 (kn q H) (kn q H) v r 12
 pm:(rows.flatMap (·.rooms)).Perm (ord.take at_)
 ati:at_<=2 * i
 ln:rows.length<=i
 r2:∀ r∈rows,r.rooms.length<=2
 hm:Ap.mul rows<=5 ^ i
 hs:Ap.sum rows<=3 * i
 ok:Ap.Ok rows
theorem qv.gr {H H':Hp} {q:Addr} {ord:List Nat} {at_ i:Nat} {rows:List cI} (h:qv P w K mg base Ad.Keeper H q ord at_ i rows) (g:Gr H H'):qv P w K mg base Ad.Keeper H' q ord at_ i rows:=by
 obtain ⟨⟨us,h1,h2,h3⟩,a,b,c,d,e,f,o⟩:=h
 exact ⟨⟨us,g _ _ h1 nofun,h2,λ j v r x y=>(h3 j v r x y).mono (w4 g) (w4 g)⟩,a,b,c,d,e,f,o⟩
theorem Fe {a b c d:V} {at_ m:Nat} (h1:at_<=4) (h2:m=1∨m=2) {u:Int} (eu:u=(at_:Int)+(m:Int)):uy [a,b,c,d] (some (at_:Int)) (some u)=([a,b,c,d].drop at_).take m:=by
 have:at_=0∨at_=1∨at_=2∨at_=3∨at_=4:=by lia
 rcases this with rfl|rfl|rfl|rfl|rfl<;>rcases h2 with rfl|rfl<;>(rw [eu];rfl)
theorem DE {ord:List Nat} (l4:ord.length=4) {at_ m:Nat} (h1:at_<=4) (h2:m=1∨m=2) {u:Int} (eu:u=(at_:Int)+(m:Int)):uy (ord.map ao) (some (at_:Int)) (some u)=(((ord.drop at_).take m).map Int.ofNat).map V.int:=by
 match ord,l4 with
 | [a,b,c,d],_=>rw [dZ,am2,List.map_drop];exact Fe h1 h2 eu
theorem DC {ms:List Int} {l:List Nat} (h:ms.Perm (l.map Int.ofNat)):∃ rs:List Nat,rs.Perm l/\ms=rs.map Int.ofNat:=by
 refine ⟨ms.map Int.toNat,?_,?_⟩
 .
  have:=h.map Int.toNat
  rw [amx] at this
  have e:(Int.toNat ∘ Int.ofNat)=id:=by funext x;rfl
  rw [e,List.map_id] at this
  exact this
 .
  rw [amx]
  have:∀ x∈ms,(Int.ofNat ∘ Int.toNat) x=x:=λ x hx=>by
    obtain ⟨y,_,rfl⟩:=List.mem_map.mp (h.mem_iff.mp hx)
    rfl
  rw [List.map_congr_left this,List.map_id']
theorem Fl {o1 o2 o3 o4:Addr} {H:Hp} {y:Int} (y0:0<=y) (y1:y<4) (h1:H o1=some (.lst [.int 0,.int 1,.int 2,.int 3])) (h2:H o2=some (.lst [.int 3,.int 1,.int 0,.int 2])) (h3:H o3=some (.lst [.int 2,.int 3,.int 1,.int 0])) (h4:H o4=some (.lst [.int 1,.int 2,.int 0,.int 3])) :
   ∃ po,∃ ord:List Nat,uh [V.ref o1,V.ref o2,V.ref o3,V.ref o4] y=some (V.ref po)/\H po=some (.lst (ord.map ao))/\ord.length=4/\ord.Nodup/\∀ r∈ord,r<4:=by
 have:y=0∨y=1∨y=2∨y=3:=by lia
 rcases this with rfl|rfl|rfl|rfl
 . exact ⟨o1,[0,1,2,3],rfl,h1,rfl,by decide,by decide⟩
 . exact ⟨o2,[3,1,0,2],rfl,h2,rfl,by decide,by decide⟩
 . exact ⟨o3,[2,3,1,0],rfl,h3,rfl,by decide,by decide⟩
 . exact ⟨o4,[1,2,0,3],rfl,h4,rfl,by decide,by decide⟩
theorem qv.more {H:Hp} {q t p b:Addr} {ord rs:List Nat} {at_ m i mm sz:Nat} {rows:List cI} {us:List V} {W:Nat->eP->Nat} {F:Nat->Nat} (h:qv P w K mg base Ad.Keeper H q ord at_ i rows) (hq:H q=some (.lst us)) (l4:∀ r∈ord,r<4) (m2:m<=2) (pm:rs.Perm ((ord.drop at_).take m)) (ht:H t=some (.tup [.ref p,.ref b])) (hp:H p=some (.lst (rs.map ao))) (np:p≠q) (kb:KA P w K mg base Ad.Keeper rs.length (kn q H) b mm sz W F 12) (m5:mm<=5) (s3:sz<=3) :
   qv P w K mg base Ad.Keeper (upd H q (.lst (us++[.ref t]))) q ord (at_+m) (i+1) (rows++[⟨rs,mm,sz,W,F⟩]):=by
 obtain ⟨⟨us',h1,h2,h3⟩,a,b',c,d,e,f,o⟩:=h
 rw [hq] at h1
 cases h1
 have V7:rs.length<=2:=by rw [pm.length_eq,aaP];lia
 refine ⟨⟨_,ac,by rw [acC,acC,h2];rfl,λ j v r ev er=>?_⟩,?_,by lia,by rw [acC];show rows.length+1<=i+1;lia,λ r hr=>?_,?_,?_,λ r hr=>?_⟩
 .
  rw [ES]
  by_cases cj:j<us.length
  . rw [ahg cj] at ev
    rw [ahg (by lia)] at er
    exact h3 j v r ev er
  .
   have hj:j=us.length:=by
     have:=(List.getElem?_eq_some_iff.mp ev).1
     rw [acC] at this
     have:j<us.length+1:=this
     lia
   subst hj
   rw [aew (aau _),alS] at ev
   rw [h2,aew (aau _),alS] at er
   cases ev;cases er
   exact ⟨t,p,b,rfl,cZ hq ht nofun nofun,tV np hp nofun,kb,λ x hx=>l4 x (List.mem_of_mem_drop (List.mem_of_mem_take (pm.mem_iff.mp hx))),by show rs.length<=4;lia⟩
 . rw [anl,List.take_add]
   exact a.append (by simpa using pm)
 . rcases List.mem_append.mp hr with hr|hr
   . exact d r hr
   . rw [List.mem_singleton.mp hr];exact V7
 . rw [Ap.hJ,am8]
   exact Nat.mul_le_mul e m5
 . rw [Ap.pJ]
   show Ap.sum rows+sz<=3 * (i+1)
   lia
 . rcases List.mem_append.mp hr with hr|hr
   . exact o r hr
   . rw [List.mem_singleton.mp hr];exact ⟨kb.m1,kb.fl⟩
theorem qv.skip {H:Hp} {q:Addr} {ord:List Nat} {at_ m i:Nat} {rows:List cI} (h:qv P w K mg base Ad.Keeper H q ord at_ i rows) (m2:m<=2) (e:(ord.drop at_).take m=[]):qv P w K mg base Ad.Keeper H q ord (at_+m) (i+1) rows:=by
 obtain ⟨h1,a,b',c,d,hm,f,o⟩:=h
 refine ⟨h1,by rw [List.take_add,e,agb];exact a,by lia,by lia,d,?_,by lia,o⟩
 rw [am8]
 lia
inductive El (P:Program) (w:World) (K:W.Frag) (mg:Str->Option Value) (base:Heap) (A:HV) (vs:List V) (H:Hp) (Q:VK) (_E:XK):Prop
 | mk (c:Int) (_:vs=[.int c]) (_:iB (TT A) H) (_:∀ p rows H',Gr H H'->iB (TT A) H'->d7 P w K mg base A.Keeper H' (fZ H') p rows 12->Ap.sum rows<=9->Q (.ref p) H')
theorem u9 (T:Txt K mg Ad) (B:Bs K mg base):Def P w K mg base "_law_rows" 42 ["_law_cell"] (El P w K mg base Ad):=by
 refine T.xb.gS cF λ f aP A outer s H vs Q E hr h=>?_
 obtain ⟨c,rfl,tab,q⟩:=h
 refine ⟨_,(ak (aG (i:=1) cF.nd rfl (lc rfl) (aQ aO (aU (aa (aU (aa ag (aa ag (aa ag (aa ag ah))))) (aa (aU (aa ag (aa ag (aa ag (aa ag ah))))) (aa (aU (aa ag (aa ag (aa ag (aa ag ah))))) (aa (aU (aa ag (aa ag (aa ag (aa ag ah))))) ah))))) (az aS (pv 0) ag) (λ _ _=>rfl)))
     (ak (aG (i:=2) cF.nd rfl (lc rfl) (aU ah))
     (ak (aG (i:=3) cF.nd rfl (lc rfl) ag)
     (ak (df aem rfl (cg rfl T.du (aa (az aS (az bE (pv 0) ag) ag) ah)) (aA (i:=4) cF.nd rfl (lc rfl)) (ak (aG (i:=5) cF.nd rfl (lc rfl) (az bg ag (az aS (ay (dU (K:=K) T) hr.m (aa (pv 0) (aa (pv 4) (aa ag ah)))) ag)))
     (ak (aG (i:=6) cF.nd rfl (lc rfl) (aZ sQ (by rfl) T.Cb zU (aa (iS yA (pv 1) (jm (pv 3)) (jm (az bg (pv 3) (pv 5)))) ah)))
     (ak (aG (i:=3) cF.nd rfl (lc rfl) (az bg (pv 3) (pv 5)))
     (am (bx (aJ (Df hr.units) (pv 6) (aU ah) (aK _)) (am (gE (GL ak9 amR amQ lQ (pv 2) (aa (bH (aa (pv 6) (aa (ay (qE (K:=K) T B) hr.m (aa (ay (dU (K:=K) T) hr.m (aa (pv 0) (aa (pv 4) (aa ag ah)))) (aa (aZ ce (by rfl) T.hU eY (aa (pv 6) ah)) ah))) ah))) ah)))) aM))))))
     (am (ax (pv 2))))))),?_⟩
 try dsimp only [fj,aX]
 first|(refine uI ?_;intro _ _ _ _ _ _)|skip
 refine ⟨GI,λ o1 wk=>⟨GI,λ o2 ho2=>⟨GI,λ o3 WF=>⟨GI,λ o4 ho4=>⟨GI,λ pl fD=>?_⟩⟩⟩⟩⟩
 have Z1:=al (o:=.lst [.int 0,.int 1,.int 2,.int 3]) wk
 have Z2:=al (o:=.lst [.int 3,.int 1,.int 0,.int 2]) ho2
 have Z3:=al (o:=.lst [.int 2,.int 3,.int 1,.int 0]) WF
 have Z4:=al (o:=.lst [.int 1,.int 2,.int 0,.int 3]) ho4
 have Z5:=al (o:=.lst [.ref o1,.ref o2,.ref o3,.ref o4]) fD
 have k1:_=some (HO.lst [.int 0,.int 1,.int 2,.int 3]):=(Z2.trans (Z3.trans (Z4.trans Z5))) o1 _ ac
 have k2:_=some (HO.lst [.int 3,.int 1,.int 0,.int 2]):=(Z3.trans (Z4.trans Z5)) o2 _ ac
 have k3:_=some (HO.lst [.int 2,.int 3,.int 1,.int 0]):=(Z4.trans Z5) o3 _ ac
 have k4:_=some (HO.lst [.int 1,.int 2,.int 0,.int 3]):=Z5 o4 _ ac
 have Z15:=Z1.trans (Z2.trans (Z3.trans (Z4.trans Z5)))
 have kp:(upd (upd (upd (upd (upd H o1 (.lst [.int 0,.int 1,.int 2,.int 3])) o2 (.lst [.int 3,.int 1,.int 0,.int 2])) o3 (.lst [.int 2,.int 3,.int 1,.int 0])) o4 (.lst [.int 1,.int 2,.int 0,.int 3])) pl (.lst [.ref o1,.ref o2,.ref o3,.ref o4])) pl=some (.lst [.ref o1,.ref o2,.ref o3,.ref o4]):=ac
 generalize upd (upd (upd (upd (upd H o1 (.lst [.int 0,.int 1,.int 2,.int 3])) o2 (.lst [.int 3,.int 1,.int 0,.int 2])) o3 (.lst [.int 2,.int 3,.int 1,.int 0])) o4 (.lst [.int 1,.int 2,.int 0,.int 3])) pl (.lst [.ref o1,.ref o2,.ref o3,.ref o4])=H1 at Z15 k1 k2 k3 k4 kp ⊢
 refine ⟨_,rfl,_,_,rfl,rfl,by decide,λ y y0 y1 ey=>?_⟩
 obtain ⟨po,ord,ey',uJ,l4,nd,r4⟩:=Fl y0 y1 k1 k2 k3 k4
 refine ⟨pl,_,_,_,rfl,rfl,.inl (bh.of kp),ey',?_⟩
 refine ⟨sz0,λ q0 Kn=>?_⟩
 have Z6:=al (o:=.lst []) Kn
 have kq:(upd H1 q0 (.lst [])) q0=some (.lst []):=ac
 generalize upd H1 q0 (.lst [])=H2 at Z6 kq ⊢
 refine ⟨_,rfl,_,_,rfl,rfl,⟨by decide,yC⟩,λ d ed=>⟨_,_,rfl,rfl,by decide,λ n n0 n1 en=>⟨n,rfl,by lia,by lia,?_⟩⟩⟩
 have Z16:=Z15.trans Z6
 refine cX (lo:=0) (n:=n.toNat) (λ i σ H'=>A4 (Gr H H') (iB (TT Ad) H') (H' po=some (.lst (ord.map ao))) (E2 λ at_ rows=>qv P w K mg base Ad.Keeper H' q0 ord at_ i rows/\E3 λ v4 v5 v6=>σ=[some (.int c),some (.ref po),some (.ref q0),some (ao at_),v4,v5,v6])) ⟨.of Z16,dJ tab Z16,Z6 _ _ uJ,0,[],⟨⟨[],kq,rfl,λ j v r e=>by simp at e⟩,.refl _,by decide,aau _,nofun,aau _,aau _,nofun⟩,none,none,none,rfl⟩ ?_ ?_
 .
  rintro _ i σ H3 hi ⟨g,tb,Ge,at_,rows,rg,v4,v5,v6,rfl⟩
  have hi3:i<3:=by lia
  have ati:=rg.ati
  have nq:po≠q0:=aB uJ Kn
  refine ⟨_,rfl,_,rfl,c,0+(i:Int),0,rfl,by lia,by lia,by decide,by decide,λ H4 r1 S4 J4 Nn=>⟨_,_,rfl,rfl,by decide,λ b b0 b1 eb=>⟨_,_,rfl,rfl,λ my emy=>?_⟩⟩⟩
  obtain ⟨m,rfl⟩:=aga (show 0<=my by lia)
  have m12:m=1∨m=2:=by lia
  refine ⟨_,rfl,_,rfl,(at_:Int),rfl,_,rfl,_,rfl,_,_,rfl,rfl,λ u eu=>⟨u,rfl,po,_,rfl,bh.of (S4 _ _ Ge),λ pc Xm=>?_⟩⟩
  rw [DE l4 (by lia) m12 eu]
  have S5:=al (o:=.lst ((((ord.drop at_).take m).map Int.ofNat).map V.int)) Xm
  refine ⟨pc,_,rfl,bh.of ac,by rw [aad,aaP];lia,λ ps ms WR pmm srt=>?_⟩
  obtain ⟨rs,prs,rfl⟩:=DC pmm
  have S6:=al (o:=.lst ((rs.map Int.ofNat).map V.int)) WR
  have kps:(upd (upd H4 pc (.lst ((((ord.drop at_).take m).map Int.ofNat).map V.int))) ps (.lst ((rs.map Int.ofNat).map V.int))) ps=some (.lst ((rs.map Int.ofNat).map V.int)):=ac
  have Kj:=S4.trans (S5.trans S6)
  have nps:ps≠q0:=by
    obtain ⟨us,Ow,_⟩:=rg.ex
    exact (aB ((S4.trans S5) _ _ Ow) WR).symm
  generalize upd (upd H4 pc (.lst ((((ord.drop at_).take m).map Int.ofNat).map V.int))) ps (.lst ((rs.map Int.ofNat).map V.int))=H6 at Kj kps ⊢
  refine ⟨_,rfl,_,rfl,_,_,rfl,rfl,λ u2 eu2=>?_⟩
  obtain rfl:u2=((at_+m:Nat):Int):=by rw [eu2];push_cast;rfl
  refine ⟨_,rfl,sz0,λ pe hpe=>?_⟩
  have S7:=al (o:=.lst []) hpe
  have kpe:(upd H6 pe (.lst [])) pe=some (.lst []):=ac
  have Je:=Kj.trans S7
  have Fv:=S7 _ _ kps
  generalize upd H6 pe (.lst [])=H7 at Je Fv kpe ⊢
  refine ⟨.list ((rs.map Int.ofNat).map PyData.int),.list [],sN (bh.of Fv) (g0 _),sN (bh.of kpe) sU,eS (n:=1) (λ d hd=>?_) (by decide),eS (n:=1) nofun (by decide),?_⟩
  . obtain ⟨x,_,rfl⟩:=List.mem_map.mp hd
    exact trivial
  have WM:=rg.gr (.of Je)
  cases V7:rs with
  | nil =>
    subst V7
    have e:PyData.eqv (.list ((([]:List Nat).map Int.ofNat).map PyData.int)) (.list [])=true:=by simp [PyData.eqv,PyData.eqvAll]
    rw [e]
    exact ⟨_,rfl,gw ⟨g.trans (.of Je),dJ tb Je,Je _ _ Ge,at_+m,rows,WM.skip (by lia) prs.symm.eq_nil,_,_,_,rfl⟩⟩
  | cons r0 rt =>
    have ne:PyData.eqv (.list (((r0::rt).map Int.ofNat).map PyData.int)) (.list [])=false:=by simp [PyData.eqv,PyData.eqvAll]
    rw [ne]
    refine ⟨_,rfl,j9 ?_⟩
    have lrs:rs.length<=2:=by rw [prs.length_eq,aaP];lia
    have lr1:1<=rs.length:=by rw [V7];exact amB (afL _)
    obtain ⟨us,J1,lu,eO⟩:=WM.ex
    have ln:=WM.ln
    refine ⟨_,rfl,.inl ⟨rfl,_,bh.of J1⟩,_,rfl,_,rfl,_,rfl,c,0+(i:Int),1,rfl,by lia,by lia,by decide,by decide,λ H8 r2 S8 r20 r21=>⟨_,rfl,ps,_,rfl,.inl (bh.of (S8 _ _ Fv)),λ ml eml=>?_⟩⟩
    obtain rfl:ml=(rs.length:Int):=by rw [eml,aad,aad]
    refine ⟨r2,rs.length,q0,us,rfl,r20,r21,lr1,lrs,dJ tb (Je.trans S8),S8 _ _ J1,λ b mm sz W F H9 g9 tb9 kb m5 s3=>⟨kh,λ t ht=>?_⟩⟩
    have wQ:=al (o:=.tup [.ref ps,.ref b]) ht
    have kt:(upd H9 t (.tup [.ref ps,.ref b])) t=some (.tup [.ref ps,.ref b]):=ac
    generalize upd H9 t (.tup [.ref ps,.ref b])=sK at wQ kt ⊢
    have Wh:=(Gr.of S8).trans (g9.trans (.of wQ))
    have ul:=Wh _ _ J1 nofun
    refine ⟨q0,_,_,rfl,rfl,ul,bq (by lia),?_⟩
    have agI:=(WM.gr Wh).more (m:=m) ul r4 (by lia) prs kt (by rw [← dZ];exact Wh _ _ Fv nofun) nps (kb.same (mn wQ)) m5 s3
    have G:Gr H3 sK:=(Gr.of Je).trans Wh
    refine ⟨λ b o e n=>?_,zI ul (dJ tb9 wQ),by rw [aq nq];exact G _ _ Ge nofun,at_+m,_,agI,_,_,_,rfl⟩
    rw [aq (aB (Z15 _ _ e) Kn)]
    exact (g.trans G) b o e n
 .
  rintro σ H3 ⟨g,tb,Ge,at_,rows,rg,v4,v5,v6,rfl⟩
  obtain ⟨us,Ow,lu,eO⟩:=rg.ex
  have n3:n.toNat<=3:=by lia
  have p5:5 ^ n.toNat<=5 ^ 3:=afd (by decide) n3
  have h1:=rg.ln
  have h2:=rg.hm
  have h3:=rg.hs
  exact ⟨_,rfl,q q0 rows H3 g tb ⟨gN,⟨us,Ow,lu,λ i v r e1 e2=>(eO i v r e1 e2).mono wA yb⟩,by lia,rg.r2,rg.pm.nodup_iff.mpr (nd.sublist (List.take_sublist _ _)),by lia,rg.ok⟩ (by lia)⟩
def m9 (way m i j:Nat):Nat:=if way=0∨way=3∨way=6 then i * 2+j else if way=1∨way=2∨way=7 then j * m+i else i
def mf (way:Nat):Nat:=[2,2,2,2,1,1,2,2,1].getD way 1
def addW (way:Nat):Nat:=[2,2,2,2,2,1,2,2,1].getD way 1
structure qa (P:Program) (w:World) (K:W.Frag) (mg:Str->Option Value) (base:Heap) (CK:Addr) (H:Hp) (x:Addr) (way:Nat) (bd:Int) (m sz:Nat) (W:Nat->eP->Nat) (F:Nat->Nat) (Wc:Nat->eP->Nat) (Fc:Nat->Nat):Prop where
 ex:∃ W' F',KA P w K mg base CK 4 H x (m * mf way) (sz+addW way) W' F' 20/\(∀ i j s,i<m->j<2->Sz 4 s->s.bu<16->W i s<16->W' (m9 way m i j) s=rS way s bd (W i s) (Wc j s))/\∀ i j,i<m->j<2->F' (m9 way m i j)=m9 way m (F i) (Fc j)
section
variable {H:Hp} {x:Addr} {way zc r m sz:Nat} {bd:Int} {W:Nat->eP->Nat} {F:Nat->Nat} {Wc:Nat->eP->Nat} {Fc:Nat->Nat}
theorem qa.a (ka:KA P w K mg base Ad.Keeper 4 H x (m * 2) (1+sz+1) (HN zc ⟨m,sz,W,F,2,1,Wc,Fc⟩ r bd) (Tw ⟨m,sz,W,F,2,1,Wc,Fc⟩) 16) (e:∀ a b s,ND.mix zc a b (decide (s.bs.getD r 0<bd))=rS way s bd a b) (e1:mf way=2) (e2:addW way=2) (e3:∀ i j,m9 way m i j=i * 2+j):qa P w K mg base Ad.Keeper H x way bd m sz W F Wc Fc:=by
 rw [show 1+sz+1=sz+2 by lia] at ka
 refine ⟨_,_,by rw [e1,e2];exact ka.mono (by decide),λ i j s hi hj _ _ _=>?_,λ i j hi hj=>?_⟩
 . rw [e3,← e]
   show ND.mix zc (W ((i * 2+j) / 2) s) (Wc ((i * 2+j) % 2) s) _=_
   rw [show (i * 2+j) / 2=i by lia,show (i * 2+j) % 2=j by lia]
 . rw [e3,e3]
   show F ((i * 2+j) / 2) * 2+Fc ((i * 2+j) % 2)=_
   rw [show (i * 2+j) / 2=i by lia,show (i * 2+j) % 2=j by lia]
theorem x8 {i j m:Nat} (hi:i<m):(j * m+i) / m=j/\(j * m+i) % m=i:=by
 refine ⟨?_,?_⟩
 . rw [ana,Nat.add_mul_div_right _ _ (by lia),Nat.div_eq_of_lt hi,Nat.zero_add]
 . rw [ana,Nat.add_mul_mod_self_right,agf hi]
theorem qa.b (ka:KA P w K mg base Ad.Keeper 4 H x (2 * m) (1+1+sz) (HN zc ⟨2,1,Wc,Fc,m,sz,W,F⟩ r bd) (Tw ⟨2,1,Wc,Fc,m,sz,W,F⟩) 16) (e:∀ a b s,ND.mix zc b a (decide (s.bs.getD r 0<bd))=rS way s bd a b) (e1:mf way=2) (e2:addW way=2) (e3:∀ i j,m9 way m i j=j * m+i):qa P w K mg base Ad.Keeper H x way bd m sz W F Wc Fc:=by
 rw [show 1+1+sz=sz+2 by lia,alT] at ka
 refine ⟨_,_,by rw [e1,e2];exact ka.mono (by decide),λ i j s hi hj _ _ _=>?_,λ i j hi hj=>?_⟩
 . rw [e3,← e]
   show ND.mix zc (Wc ((j * m+i) / m) s) (W ((j * m+i) % m) s) _=_
   rw [(x8 hi).1,(x8 hi).2]
 . rw [e3,e3]
   show Fc ((j * m+i) / m) * m+F ((j * m+i) % m)=_
   rw [(x8 hi).1,(x8 hi).2]
end
theorem MD:∀ x,x<16->i3 (Ap.sel [0,1,2,3] x 4) 0=x:=by decide
theorem XT:∀ x,x<16->i3 (Ap.places (λ j=>x.testBit ([0,1,2,3].getD j 0)) 4) 0=x:=by decide
theorem EF {s:eP} (h:Sz 4 s) (b:s.bu<16):Ap.qg s [0,1,2,3]=s:=by
 obtain ⟨bs,ws,fs,bu,hp⟩:=s
 obtain ⟨h1,h2,h3⟩:=h
 have z:∀ {l:List Int},l.length=4->[l.getD 0 0,l.getD 1 0,l.getD 2 0,l.getD 3 0]=l:=λ {l} e=>by
   match l,e with
   | [a,b,c,d],_=>rfl
 unfold Ap.qg
 simp only [afS,amw]
 rw [z h1,z h2,z h3]
 have:=XT bu b
 show eP.mk bs ws fs (i3 (Ap.places (λ j=>bu.testBit ([0,1,2,3].getD j 0)) 4) 0) hp=_
 rw [this]
theorem none_of {H0 H:Hp} {x:Addr} (s:av H0 H) (h:H x=none):H0 x=none:=by
 cases e:H0 x with
 | none=>rfl
 | some o=>rw [s _ _ e] at h;cases h
theorem gW {C N:Addr} {way:Nat} (pk:JZ P w K mg base Ad.Keeper C way) (n4:way≠4) {H H0:Hp} {x dx b c:Addr} {d:PD} {Q:VK} {E:XK} (S0:av H0 H) (hx:H x=none) (gq:H dx=none) (hb:KA P w K mg base Ad.Keeper 4 H0 b d.m1 d.s1 d.W1 d.F1 14) (hc:KA P w K mg base Ad.Keeper 4 H0 c d.m2 d.s2 d.W2 d.F2 14) (r:Nat) (bd:Int) (hr:r<4)
   (q1:d.m1 * d.m2<=60->1+d.s1+d.s2<=15->∀ H',av H H'->KA P w K mg base Ad.Keeper 4 H' x (d.m1 * d.m2) (1+d.s1+d.s2) (HN way d r bd) (Tw d) 16->Q .dC H') (q2:60<d.m1 * d.m2∨15<1+d.s1+d.s2->∀ H',av H H'->E (.ref N) none H') :
   ki P w K mg base Ad.Keeper N [.ref x,.ref b,.ref c] (upd (upd H dx (.own x)) x (.ins C dx [])) Q E:=by
 refine ⟨C,x,dx,b,c,4,14,d,rfl,pk.pk,ac,⟨H0,S0.trans (aV hx gq),none_of S0 hx,hb,hc⟩,by decide,λ z1 z2 H' st h=>?_,λ z H' st=>q2 z H' (aW hx gq st)⟩
 have S:=aW hx gq st
 refine q1 z1 z2 H' S (ug pk (r:=r) (bd:=bd) (dx:=dx) (by rw [show DR way r bd=[] from adH n4];exact h) (hb.same (S0.trans S)) (hc.same (S0.trans S)) hr (by lia) (by lia))
theorem pQ (T:Txt K mg Ad) {N:Addr} {H H0:Hp} {x dx b c:Addr} {d:PD} {Q:VK} {E:XK} (S0:av H0 H) (hx:H x=none) (gq:H dx=none) (hb:KA P w K mg base Ad.Keeper 4 H0 b d.m1 d.s1 d.W1 d.F1 14) (hc:KA P w K mg base Ad.Keeper 4 H0 c d.m2 d.s2 d.W2 d.F2 14) {r:Nat} {bd:Int} (hr:r<4)
   (q1:d.m1 * d.m2<=60->1+d.s1+d.s2<=15->∀ H',av H H'->KA P w K mg base Ad.Keeper 4 H' x (d.m1 * d.m2) (1+d.s1+d.s2) (HN 4 d r bd) (Tw d) 16->Q .dC H') (q2:60<d.m1 * d.m2∨15<1+d.s1+d.s2->∀ H',av H H'->E (.ref N) none H') :
   CL P w K mg base Ad.Keeper Ad.Below N [.ref x,.int (r:Int),.int bd,.ref b,.ref c] (upd (upd H dx (.own x)) x (.ins Ad.Below dx [])) Q E:=by
 refine ⟨x,dx,b,c,4,14,d,(r:Int),bd,rfl,ac,⟨H0,S0.trans (aV hx gq),none_of S0 hx,hb,hc⟩,by decide,λ z1 z2 H' st h=>?_,λ z H' st=>q2 z H' (aW hx gq st)⟩
 have S:=aW hx gq st
 exact q1 z1 z2 H' S (ug (AE T) (r:=r) (bd:=bd) (dx:=dx) h (hb.same (S0.trans S)) (hc.same (S0.trans S)) hr (by lia) (by lia))
inductive FH (P:Program) (w:World) (K:W.Frag) (mg:Str->Option Value) (base:Heap) (CK N:Addr) (vs:List V) (H:Hp) (Q:VK) (E:XK):Prop
 | mk (way a c m sz W F Wc Fc H0:_) (bd:Int) (_:vs=[ao way,.ref a,.ref c,.int bd]) (_:way<9) (_:av H0 H) (_:KA P w K mg base CK 4 H0 a m sz W F 14) (_:KA P w K mg base CK 4 H0 c 2 1 Wc Fc 14) (_:m<=60) (_:sz<=15) (_:(m * mf way<=60->sz+addW way<=15->∀ x H',av H H'->qa P w K mg base CK H' x way bd m sz W F Wc Fc->Q (.ref x) H')) (_:(60<m * mf way∨15<sz+addW way->∀ H',av H H'->E (.ref N) none H'))
theorem pj (T:Txt K mg Ad):CW P w K mg base "_law_within" 42 ["_law_way","_law_keeper_here","_law_clock","_law_band"] (FH P w K mg base Ad.Keeper Ad.ba):=by
 refine T.tQ.Tg rf (λ vs H Q E h=>?_) (λ _ _ _ _ _ _ us hl=>Cv hl λ _ _ _ _=>rfl) (λ f _ _ _ s H vs Q E hr h=>?_)
 . obtain ⟨way,a,c,m,sz,W,F,Wc,Fc,H0,bd,rfl,_⟩:=h
   rfl
 .
  obtain ⟨way,a,c,m,sz,W,F,Wc,Fc,H0,bd,rfl,w9,S0,ka,kc,m60,s15,q1,q2⟩:=h
  refine ⟨_,(ak (bx (aJ jP (pv 0) ag (aK _)) (am (ax (aQ aO (aU (aa (eB T.l9 (dD (K:=K) T) .nil hr.m (dA λ _ _ _ z=>z) T.pB (aa (pv 1) (aa (pv 2) ah))) (aa (eB T.l9 (dD (K:=K) T) .nil hr.m (dA λ _ _ _ z=>z) T.pB (aa (pv 2) (aa (pv 1) ah))) ah))) (pv 0) (λ _ _=>rfl)))) aM)
    (ak (bx (aJ cO (pv 0) ag (aK _)) (am (ax (eB T.u4 (iE (K:=K) T) .nil hr.m (dA λ _ _ _ z=>z) T.wT (aa (pv 2) (aa (pv 1) ah))))) aM)
    (ak (bx (aJ cO (pv 0) ag (aK _)) (am (ax (eB T.yG (gz (K:=K) T) .nil hr.m (dA λ _ _ _ z=>z) T.wI (aa (pv 1) (aa (pv 2) ah))))) aM)
    (ak (bx (aJ cO (pv 0) ag (aK _)) (am (ax (eB T.yG (gz (K:=K) T) .nil hr.m (dA λ _ _ _ z=>z) T.wI (aa (kP ⟨T.d9.makes,T.jD,T.d9.kp⟩ T.iQ) (aa (pv 1) ah))))) aM)
    (ak (bx (aJ cO (pv 0) ag (aK _)) (am (ax (y6 T.kQ (fA (K:=K) T) hr.m (dA λ _ _ _ z=>z) T.nQ (aa (tS (P:=P) (w:=w) rfl rfl) (aa (pv 1) ah))))) aM)
    (ak (bx (aJ cO (pv 0) ag (aK _)) (am (ax (eB T.vY (f9 (K:=K) T) .nil hr.m (dA λ _ _ _ z=>z) T.xw (aa ag (aa (pv 3) (aa (pv 1) (aa (pv 2) ah))))))) aM)
    (ak (bx (aJ cO (pv 0) ag (aK _)) (am (ax (eB T.vY (f9 (K:=K) T) .nil hr.m (dA λ _ _ _ z=>z) T.xw (aa ag (aa (pv 3) (aa (pv 2) (aa (pv 1) ah))))))) aM)
    (am (ax (eB T.iZ (dX (K:=K) T) .nil hr.m (dA λ _ _ _ z=>z) T.kr (aa (aU (aa (bH (aa (aU (aa ag (aa ag (aa ag (aa ag ah))))) (aa (pv 1) ah))) ah)) ah))))))))))),?_⟩
  try dsimp only [fj,aX]
  first|(refine AK ?_;intro _ _ _ _ _ _ _ _ _)|skip
  have fin:∀ {x y u v:Nat},(60<x∨15<y)->x=u->y=v->(60<u∨15<v):=λ h e1 e2=>by rw [← e1,← e2];exact h
  refine ⟨_,rfl,_,_,rfl,rfl,_,rfl,dL (λ z=>?_) λ z=>?_⟩
  .
   have z:(way:Int)<2:=z
   have e1:mf way=2:=by
     rcases (show way=0∨way=1 by lia) with rfl|rfl<;>rfl
   have e2:addW way=2:=by
     rcases (show way=0∨way=1 by lia) with rfl|rfl<;>rfl
   rw [e1,e2] at q1 q2
   refine ⟨_,rfl,_,rfl,λ x1 d1 vf xo n1=>gW (l5 T) (by decide) (d:=⟨m,sz,W,F,2,1,Wc,Fc⟩) S0 vf xo ka kc 0 bd (by decide) (λ y1 y2 H1 S1 k1=>⟨rfl,?_⟩) λ y H1 S1=>q2 (fin y (show m * 2=m * 2 from rfl) (show 1+sz+1=sz+2 by lia)) H1 S1⟩
   refine ⟨_,rfl,_,rfl,λ x2 d2 JR hd2 n2=>gW (l5 T) (by decide) (d:=⟨2,1,Wc,Fc,m,sz,W,F⟩) (S0.trans S1) JR hd2 (kc) (ka) 0 bd (by decide) (λ y3 y4 H2 S2 k2=>⟨rfl,?_⟩) λ y H2 S2=>q2 (fin y (show 2 * m=m * 2 by lia) (show 1+1+sz=sz+2 by lia)) H2 (S1.trans S2)⟩
   refine ⟨kh,λ pl fD=>⟨_,rfl,pl,_,_,.ref (if way=0 then x1 else x2),rfl,rfl,.inl (bh.of ac),?_,?_⟩⟩
   . rcases (show way=0∨way=1 by lia) with rfl|rfl<;>rfl
   have S3:=al (o:=.lst [.ref x1,.ref x2]) fD
   have y1:m * 2<=60:=y1
   have y2:1+sz+1<=15:=y2
   rcases (show way=0∨way=1 by lia) with rfl|rfl
   . exact q1 y1 (by lia) x1 _ (S1.trans (S2.trans S3)) (qa.a (k1.same (S2.trans S3)) (λ _ _ _=>rfl) rfl rfl λ _ _=>rfl)
   . exact q1 y1 (by lia) x2 _ (S1.trans (S2.trans S3)) (qa.b (k2.same S3) (λ a b _=>Nat.or_comm b a) rfl rfl λ _ _=>rfl)
  have z:¬ (way:Int)<2:=z
  refine ⟨_,rfl,rfl,_,rfl,dL (λ z=>?_) λ z=>?_⟩
  . obtain rfl:way=2:=by have z:=V.int.inj z;lia
    exact ⟨_,rfl,_,rfl,λ x1 d1 vf xo n1=>gW (vM T) (by decide) (d:=⟨2,1,Wc,Fc,m,sz,W,F⟩) S0 vf xo kc ka 0 bd (by decide) (λ y1 y2 H1 S1 k1=>⟨rfl,q1 (by have y1:2 * m<=60:=y1;show m * 2<=60;lia) (by have y2:1+1+sz<=15:=y2;show sz+2<=15;lia) x1 H1 S1 (qa.b k1 (λ a b _=>Nat.and_comm b a) rfl rfl λ _ _=>rfl)⟩) λ y H1 S1=>q2 (fin y (show 2 * m=m * 2 by lia) (show 1+1+sz=sz+2 by lia)) H1 S1⟩
  have nz2:way≠2:=λ e=>z (by rw [e];rfl)
  refine ⟨_,rfl,rfl,_,rfl,dL (λ z=>?_) λ z=>?_⟩
  . obtain rfl:way=3:=by have z:=V.int.inj z;lia
    exact ⟨_,rfl,_,rfl,λ x1 d1 vf xo n1=>gW (xE T) (by decide) (d:=⟨m,sz,W,F,2,1,Wc,Fc⟩) S0 vf xo ka kc 0 bd (by decide) (λ y1 y2 H1 S1 k1=>⟨rfl,q1 y1 (by have y2:1+sz+1<=15:=y2;show sz+2<=15;lia) x1 H1 S1 (qa.a k1 (λ _ _ _=>rfl) rfl rfl λ _ _=>rfl)⟩) λ y H1 S1=>q2 (fin y (show m * 2=m * 2 from rfl) (show 1+sz+1=sz+2 by lia)) H1 S1⟩
  have nz3:way≠3:=λ e=>z (by rw [e];rfl)
  refine ⟨_,rfl,rfl,_,rfl,dL (λ z=>?_) λ z=>?_⟩
  .
   obtain rfl:way=4:=by have z:=V.int.inj z;lia
   refine λ xk dk DQ DX nk=>?_
   have S1:=aV (C:=Ad.Keeper) DQ DX
   have k1:(upd (upd H dk (.own xk)) xk (.ins Ad.Keeper dk [])) xk=some (.ins Ad.Keeper dk []):=ac
   generalize upd (upd H dk (.own xk)) xk (.ins Ad.Keeper dk [])=H1 at S1 k1 ⊢
   refine ⟨_,rfl,λ x1 d1 vf xo n1=>gW (xE T) (by decide) (d:=⟨1,1,λ _ _=>0,λ _=>0,m,sz,W,F⟩) (av.refl _) vf xo ((jn T k1 (by decide)).mono (by decide)) (ka.same (S0.trans S1)) 0 bd (by decide) (λ y1 y2 H2 S2 k2=>⟨rfl,?_⟩) λ y H2 S2=>q2 (fin y (show 1 * m=m * 1 by lia) (show 1+1+sz=sz+2 by lia)) H2 (S1.trans S2)⟩
   refine q1 (by have y1:1 * m<=60:=y1;show m * 1<=60;lia) (by have y2:1+1+sz<=15:=y2;show sz+2<=15;lia) x1 H2 (S1.trans S2) ⟨_,_,(show KA P w K mg base Ad.Keeper 4 H2 x1 (m * 1) (sz+2) _ _ 20 by rw [show m * 1=1 * m by lia,show sz+2=1+1+sz by lia];exact k2.mono (by decide)),λ i j s hi hj _ _ _=>rfl,λ i j hi hj=>?_⟩
   show 0 * m+F (i % m)=F i
   rw [agf hi]
   lia
  have nz4:way≠4:=λ e=>z (by rw [e];rfl)
  refine ⟨_,rfl,rfl,_,rfl,dL (λ z=>?_) λ z=>?_⟩
  .
   obtain rfl:way=5:=by have z:=V.int.inj z;lia
   refine λ pd mO=>⟨_,rfl,λ xt dt rK wj nt=>?_⟩
   have S3:=al (o:=jU P w pd []) mO
   have d3:gu P w K (upd H pd (jU P w pd [])) pd (i8 0 none):=gu.nil ac
   generalize upd H pd (jU P w pd [])=H3 at S3 d3 rK wj ⊢
   have Iu:=ka.same (S0.trans S3)
   have S4:=aV (C:=Ad.Table) rK wj
   refine ⟨xt,dt,pd,a,0,4,_,none,m,sz,_,_,rfl,ac,d3.same S4,⟨H3,S4,rK,Iu⟩,by decide,m60,λ y pr H5 Ac h1 Bj d5=>⟨rfl,?_⟩,λ y H5 Ac=>q2 (.inr (by show 15<sz+1;lia)) H5 (S3.trans (aW rK wj Ac))⟩
   have S5:=aW rK wj Ac
   have kt:=kN (o:=none) T ⟨dt,pr,a,0,h1,d5,Iu.same S5⟩ s15
   rw [show 1+sz=sz+1 by lia] at kt
   exact q1 (by show m * 1<=60;lia) (by show sz+1<=15;lia) xt H5 (S3.trans S5) ⟨_,_,(show KA P w K mg base Ad.Keeper 4 H5 xt (m * 1) (sz+1) _ _ 20 by rw [Nat.mul_one];exact kt.mono (by decide)),λ i j s hi hj _ _ _=>rfl,λ i j hi hj=>rfl⟩
  have nz5:way≠5:=λ e=>z (by rw [e];rfl)
  refine ⟨_,rfl,rfl,_,rfl,dL (λ z=>?_) λ z=>?_⟩
  . obtain rfl:way=6:=by have z:=V.int.inj z;lia
    refine ⟨_,rfl,_,rfl,_,rfl,λ x1 d1 vf xo n1=>pQ T (r:=0) (d:=⟨m,sz,W,F,2,1,Wc,Fc⟩) S0 vf xo ka kc (by decide) (λ y1 y2 H1 S1 k1=>⟨rfl,q1 y1 (by have y2:1+sz+1<=15:=y2;show sz+2<=15;lia) x1 H1 S1 (qa.a k1 (λ a b s=>?_) rfl rfl λ _ _=>rfl)⟩) λ y H1 S1=>q2 (fin y (show m * 2=m * 2 from rfl) (show 1+sz+1=sz+2 by lia)) H1 S1⟩
    show (if decide (s.bs.getD 0 0<bd)=true then a else b)=if s.bs.getD 0 0<bd then a else b
    by_cases y:s.bs.getD 0 0<bd<;>simp [y]
  have nz6:way≠6:=λ e=>z (by rw [e];rfl)
  refine ⟨_,rfl,rfl,_,rfl,dL (λ z=>?_) λ z=>?_⟩
  . obtain rfl:way=7:=by have z:=V.int.inj z;lia
    refine ⟨_,rfl,_,rfl,_,rfl,λ x1 d1 vf xo n1=>pQ T (r:=1) (d:=⟨2,1,Wc,Fc,m,sz,W,F⟩) S0 vf xo kc ka (by decide) (λ y1 y2 H1 S1 k1=>⟨rfl,q1 (by have y1:2 * m<=60:=y1;show m * 2<=60;lia) (by have y2:1+1+sz<=15:=y2;show sz+2<=15;lia) x1 H1 S1 (qa.b k1 (λ a b s=>?_) rfl rfl λ _ _=>rfl)⟩) λ y H1 S1=>q2 (fin y (show 2 * m=m * 2 by lia) (show 1+1+sz=sz+2 by lia)) H1 S1⟩
    show (if decide (s.bs.getD 1 0<bd)=true then b else a)=if s.bs.getD 1 0<bd then b else a
    by_cases y:s.bs.getD 1 0<bd<;>simp [y]
  have nz7:way≠7:=λ e=>z (by rw [e];rfl)
  obtain rfl:way=8:=by lia
  refine ⟨GI,λ a1 AZ=>⟨_,rfl,kh,λ t1 wq=>⟨rD,λ pl fD xa da wm yL na=>?_⟩⟩⟩
  have Z1:=al (o:=.lst [.int 0,.int 1,.int 2,.int 3]) AZ
  have k1:(upd H a1 (.lst [.int 0,.int 1,.int 2,.int 3])) a1=some (.lst [.int 0,.int 1,.int 2,.int 3]):=ac
  generalize upd H a1 (.lst [.int 0,.int 1,.int 2,.int 3])=H1 at Z1 k1 wq fD wm yL ⊢
  have Z2:=al (o:=.tup [.ref a1,.ref a]) wq
  have Z3:=al (o:=.lst [.ref t1]) fD
  have k2:=Z3 _ _ (show (upd H1 t1 (.tup [.ref a1,.ref a])) t1=some (.tup [.ref a1,.ref a]) from ac)
  have k3:(upd (upd H1 t1 (.tup [.ref a1,.ref a])) pl (.lst [.ref t1])) pl=some (.lst [.ref t1]):=ac
  have Zf:=Z2.trans Z3
  generalize upd (upd H1 t1 (.tup [.ref a1,.ref a])) pl (.lst [.ref t1])=H3 at Zf k2 k3 wm yL ⊢
  have XU:=Z1.trans Zf
  have Z4:=aV (C:=Ad.Apart) wm yL
  refine ⟨xa,da,pl,4,9,[⟨[0,1,2,3],m,sz,W,F⟩],[.ref t1],H3,rfl,ac,Z4,wm,Z4 _ _ k3,rfl,λ i v rr e1 e2=>?_,by show 1<=4;decide,by show m * 1<=4000;lia,by show sz+0<=99;lia,by decide,by decide,λ y1 y2 Hb H' s1 s2 kp _ ap=>⟨rfl,?_⟩,λ y H' kp=>q2 (fin y (show m * 1=m * 1 from rfl) (show 1+(sz+0)=sz+1 by lia)) H' (XU.trans (aW wm yL kp))⟩
  .
   cases i with
   | zero =>
     cases e1;cases e2
     exact ⟨t1,a1,a,rfl,Z4 _ _ k2,Z4 _ _ (Zf _ _ k1),ka.same (S0.trans XU),λ x hx=>by simp only [ae1,acn,ajE] at hx;lia,by show 4<=4;decide⟩
   | succ i=>simp at e2
  .
   have kk:=(kX T ap (by show sz+0<=99;lia)).same s2
   refine q1 y1 (by have y2:1+(sz+0)<=15:=y2;show sz+1<=15;lia) xa H' (XU.trans (aW wm yL kp)) ⟨_,_,(show KA P w K mg base Ad.Keeper 4 H' xa (m * 1) (sz+1) _ _ 20 by rw [show sz+1=1+(sz+0) by lia];exact kk.mono (by decide)),λ i j s hi hj hn hb hw=>?_,λ i j hi hj=>?_⟩
   . show i3 (Ap.sel [0,1,2,3] (W (i % m) (Ap.qg s [0,1,2,3])) 4) 0 ||| 0=W i s
     rw [agf hi,EF hn hb,MD _ hw,ani]
   . show F (i % m)+m * 0=F i
     rw [agf hi]
     lia
theorem Zw {way:Nat} (h:way<9):uh [V.int 2,V.int 2,V.int 2,V.int 2,V.int 1,V.int 1,V.int 2,V.int 2,V.int 1] (way:Int)=some (ao (mf way)):=by
 have:way=0∨way=1∨way=2∨way=3∨way=4∨way=5∨way=6∨way=7∨way=8:=by lia
 rcases this with rfl|rfl|rfl|rfl|rfl|rfl|rfl|rfl|rfl<;>rfl
theorem aiA {way:Nat} (h:way<9):uh [V.int 2,V.int 2,V.int 2,V.int 2,V.int 2,V.int 1,V.int 2,V.int 2,V.int 1] (way:Int)=some (ao (addW way)):=by
 have:way=0∨way=1∨way=2∨way=3∨way=4∨way=5∨way=6∨way=7∨way=8:=by lia
 rcases this with rfl|rfl|rfl|rfl|rfl|rfl|rfl|rfl|rfl<;>rfl
theorem Gc {way:Nat} (h:way<9):mf way<=2/\addW way<=2:=by
 have:way=0∨way=1∨way=2∨way=3∨way=4∨way=5∨way=6∨way=7∨way=8:=by lia
 rcases this with rfl|rfl|rfl|rfl|rfl|rfl|rfl|rfl|rfl<;>decide
theorem yn {way m i j:Nat} (h:way<9) (hi:i<m) (hj:j<2):m9 way m i j<m * mf way:=by
 have:way=0∨way=1∨way=2∨way=3∨way=4∨way=5∨way=6∨way=7∨way=8:=by lia
 have e:j * m+i<m * 2:=by
   rcases (show j=0∨j=1 by lia) with rfl|rfl<;>lia
 rcases this with rfl|rfl|rfl|rfl|rfl|rfl|rfl|rfl|rfl
 . show i * 2+j<m * 2;lia
 . exact e
 . exact e
 . show i * 2+j<m * 2;lia
 . show i<m * 1;lia
 . show i<m * 1;lia
 . show i * 2+j<m * 2;lia
 . exact e
 . show i<m * 1;lia
theorem FP {rows:List cI} {os:List Nat} {s:eP} (h:∀ r∈rows,∀ x∈r.rooms,x<4):Ap.cD rows os s<16:=by
 refine Nat.lt_pow_two_of_testBit (n:=4) _ λ i hi=>?_
 cases c:(Ap.cD rows os s).testBit i with
 | false=>rfl
 | true =>
   obtain ⟨r,hr,hx⟩:=oC c
   have:=h r hr i hx
   lia
inductive Ee (P:Program) (w:World) (K:W.Frag) (mg:Str->Option Value) (base:Heap) (CK:Addr) (vs:List V) (H:Hp) (Q:VK) (_E:XK):Prop
 | mk (a:_) (ns:List Int) (way p kp pb rows sz H0:_) (_:vs=[.ref a,ao way,.ref p,.ref kp,.ref pb]) (_:bh K H a (ns.map V.int)) (_:way<9) (_:d7 P w K mg base CK H H0 p rows 12) (_:KA P w K mg base CK 4 H0 kp (Ap.mul rows) sz (λ i s=>Ap.cD rows (Ap.cT rows i) s) (Ap.after rows) 14) (_:Ap.mul rows<=60) (_:sz<=15) (_:H pb=some (.tup [ao (Ap.mul rows),ao sz])) (_:∀ H',av H H'->Q (.bl true) H')
set_option maxHeartbeats 4000000 in
theorem jK (T:Txt K mg Ad):Def P w K mg base "_law_within_right" 44 ["_law_script","_law_way","_law_rows_here","_law_keeper_here","_law_bounds"] (Ee P w K mg base Ad.Keeper):=by
 refine T.j5.gS aD λ f aP A outer s H vs Q E hr h=>?_
 obtain ⟨a,ns,way,p,kp,pb,rows,sz,H0,rfl,hS,w9,rws,ka,m60,s15,Ki,q⟩:=h
 refine ⟨_,(ak (aG (i:=5) aD.nd rfl (lc rfl) (ay (cE (K:=K) T) hr.m (aa (pv 0) (aa ag ah))))
     (ak (aG (i:=6) aD.nd rfl (lc rfl) (az aS (az bE (pv 5) ag) ag))
     (ak (aG (i:=7) aD.nd rfl (lc rfl) (aU (aa (az aS (az bE (pv 5) ag) ag) (aa (az aS (az bE (pv 5) ag) ag) ah))))
     (ak (aG (i:=8) aD.nd rfl (lc rfl) (az eN (aQ aO (pv 4) ag (λ _ _=>rfl)) (aQ aO (aU (aa ag (aa ag (aa ag (aa ag (aa ag (aa ag (aa ag (aa ag (aa ag ah)))))))))) (pv 1) (λ _ _=>rfl))))
     (ak (aG (i:=9) aD.nd rfl (lc rfl) (az bg (aQ aO (pv 4) ag (λ _ _=>rfl)) (aQ aO (aU (aa ag (aa ag (aa ag (aa ag (aa ag (aa ag (aa ag (aa ag (aa ag ah)))))))))) (pv 1) (λ _ _=>rfl))))
     (ak (aG (i:=10) aD.nd rfl (lc rfl) iM)
     (ak (Ei rfl rfl T.jk (EU (i:=10) aD.nd rfl (lc rfl) (Cr (pj (K:=K) T) hr.m (aa (pv 1) (aa (pv 3) (aa (cp T.g3 (bF (K:=K) T) .nil hr.m T.jo (aa (pv 7) ah)) (aa (pv 6) ah)))))) (λ _ _=>(am (aG (i:=10) aD.nd rfl (lc rfl) iM))))
     (ak (bx (PW.pt (jQ (aJ lW (pv 10) iM (aK _)) (jQ (aJ kW (pv 8) ag (aK _)) (pW (aJ kW (pv 9) ag (aK _)))))) (am (ax (mq (fu lW (pv 10) iM (aK _)) (iY (DI (fu kW (pv 8) ag (aK _)) (iY (fu kW (pv 9) ag (aK _)))))))) aM)
     (ak (aG (i:=11) aD.nd rfl (lc rfl) (az j6 (aU (aa ag ah)) (aZ ce (by rfl) T.hU eY (aa (pv 2) ah))))
     (ak (aG (i:=12) aD.nd rfl (lc rfl) ag)
     (ak (df aem rfl (cg rfl T.du (aa ag ah)) (aA (i:=13) aD.nd rfl (lc rfl)) (ak (aG (i:=14) aD.nd rfl (lc rfl) (ay (kS (K:=K) T) hr.m (aa (ay (cE (K:=K) T) hr.m (aa (pv 0) (aa (az bg ag (pv 13)) ah))) (aa (pv 13) ah))))
     (ak (aG (i:=15) aD.nd rfl (lc rfl) (ay (ke (K:=K) T) hr.m (aa (pv 1) (aa (pv 14) (aa (pv 6) (aa (ay (jV (K:=K) T) hr.m (aa (pv 2) (aa (pv 11) (aa (pv 14) ah)))) (aa (aQ aO (pv 7) (az aS (pv 13) ag) (λ _ _=>rfl)) ah)))))))
     (ak (bx (gU (dH (ay (cx (K:=K) T) hr.m (aa (bP (P:=P) (w:=w) (K:=K) (mg:=mg) (base:=base) (k:=43) ⟨rfl,rfl,rfl,rfl,rfl⟩ (pv 10) hr (aa (pv 12) (aa (pv 14) ah))) (aa (pv 15) ah))))) (am (ax lx)) aM)
     (ak (aG (i:=12) aD.nd rfl (lc rfl) (bP (P:=P) (w:=w) (K:=K) (mg:=mg) (base:=base) (k:=43) ⟨rfl,rfl,rfl,rfl,rfl⟩ (pv 10) hr (aa (pv 12) (aa (pv 14) ah))))
     (ak (bx (PW.pt (jQ (gU (dH (aZ d4 (by rfl) T.bX bK (aa (pv 12) (aa (jv (v:=V.ty "int") rfl T.yB tJ rfl) ah))))) (jQ (aJ jP (pv 12) ag (aK _)) (pW (aJ GK (pv 12) (pv 8) (aK _)))))) (am (ax lx)) aM)
     (am (aG (i:=11) aD.nd rfl (lc rfl) (gJ ["_law_j"] ["_law_own","_law_state_here","_law_rows_here"] [11,14,2] (.cons ⟨rfl,rfl,.inl rfl⟩ (.cons ⟨rfl,rfl,.inl rfl⟩ (.cons ⟨rfl,rfl,.inl rfl⟩ .nil))) rfl (cg rfl T.du (aa (aZ ce (by rfl) T.hU eY (aa (pv 2) ah)) ah)) (λ _ _ _ _ _=>(aA (i:=0) (show (["_law_j","_law_own","_law_state_here","_law_rows_here"]:List Str).Nodup by decide +kernel) rfl (lc rfl))) (λ _ _ _ _ _=>eK) (λ _ _ _ _ _=>(bP (P:=P) (w:=w) (K:=K) (mg:=mg) (base:=base) (k:=43) ⟨rfl,rfl,rfl,rfl,rfl⟩ (aQ (cQ (K:=K) rfl) (aQ (cQ (K:=K) rfl) (pv 3) (pv 0) (λ _ _=>rfl)) ag (λ _ _=>rfl)) hr (aa (aQ (cQ (K:=K) rfl) (pv 1) (pv 0) (λ _ _=>rfl)) (aa (ay (gp (K:=K) T) hr.m (aa (pv 2) (aa (aQ (cQ (K:=K) rfl) (aQ (cQ (K:=K) rfl) (pv 3) (pv 0) (λ _ _=>rfl)) ag (λ _ _=>rfl)) ah))) ah)))) rfl (by decide +kernel) (by decide +kernel) (by decide +kernel))))))))))
     (am (ax (mq (ay (cx (K:=K) T) hr.m (aa (bv (P:=P) (w:=w) (K:=K) (mg:=mg) (base:=base) (k:=43) ⟨rfl,rfl,rfl,rfl,rfl⟩ (pv 10) hr) (aa (pv 8) ah))) (iY (ay (cx (K:=K) T) hr.m (aa (bv (P:=P) (w:=w) (K:=K) (mg:=mg) (base:=base) (k:=43) ⟨rfl,rfl,rfl,rfl,rfl⟩ (pv 10) hr) (aa (pv 9) ah)))))))))))))))))),?_⟩
 try dsimp only [fj,aX]
 first|(refine ze ?_;intro _ _ _ _ _ _ _ _ _ _ _ _ _)|skip
 have S0:=rws.le
 obtain ⟨mw,aw⟩:=Gc w9
 refine ⟨_,rfl,a,ns,1,rfl,hS,by decide,λ x _=>?_⟩
 refine ⟨_,rfl,_,_,rfl,rfl,⟨by decide,yC⟩,λ d ed=>⟨_,_,rfl,rfl,by decide,λ bd b0 b1 eb=>?_⟩⟩
 refine ⟨_,rfl,_,_,rfl,rfl,⟨by decide,yC⟩,λ d1 ed1=>⟨_,_,rfl,rfl,by decide,λ w0 w00 w01 ew0=>?_⟩⟩
 refine ⟨_,rfl,_,_,rfl,rfl,⟨by decide,yC⟩,λ d2 ed2=>⟨_,_,rfl,rfl,by decide,λ w1 w10 w11 ew1=>⟨kh,λ pw xI=>?_⟩⟩⟩
 obtain ⟨w0,rfl⟩:=aga w00
 obtain ⟨w1,rfl⟩:=aga w10
 have S1:=al (o:=.lst [.int (w0:Int),.int (w1:Int)]) xI
 have k1:(upd H pw (.lst [.int (w0:Int),.int (w1:Int)])) pw=some (.lst [.int (w0:Int),.int (w1:Int)]):=ac
 generalize upd H pw (.lst [.int (w0:Int),.int (w1:Int)])=H1 at S1 k1 ⊢
 refine ⟨_,rfl,pb,_,_,_,rfl,rfl,.inr (bQ.of (S1 _ _ Ki)),rfl,(by show 9<=sizeLine;decide),λ pl fD=>?_⟩
 refine ⟨_,rfl,pl,_,_,_,rfl,rfl,.inl (bh.of ac),Zw w9,_,_,rfl,rfl,⟨12,12,(show Int.natAbs _<2 ^ 12 by lia),(show Int.natAbs _<2 ^ 12 by lia),by decide⟩,λ mi emi=>?_⟩
 obtain rfl:mi=((Ap.mul rows * mf way:Nat):Int):=by rw [emi];push_cast;rfl
 have S2:=al (o:=.lst [.int 2,.int 2,.int 2,.int 2,.int 1,.int 1,.int 2,.int 2,.int 1]) fD
 have qd:=S1.trans S2
 have k2:=S2 _ _ k1
 generalize upd H1 pl (.lst [.int 2,.int 2,.int 2,.int 2,.int 1,.int 1,.int 2,.int 2,.int 1])=H2 at qd k2 ⊢
 refine ⟨_,rfl,pb,_,_,_,rfl,rfl,.inr (bQ.of (qd _ _ Ki)),rfl,(by show 9<=sizeLine;decide),λ CM xc=>?_⟩
 refine ⟨_,rfl,CM,_,_,_,rfl,rfl,.inl (bh.of ac),aiA w9,_,_,rfl,rfl,λ si esi=>?_⟩
 obtain rfl:si=((sz+addW way:Nat):Int):=by rw [esi];push_cast;rfl
 have S3:=al (o:=.lst [.int 2,.int 2,.int 2,.int 2,.int 2,.int 1,.int 2,.int 2,.int 1]) xc
 have IG:=qd.trans S3
 have k3:=S3 _ _ k2
 generalize upd H2 CM (.lst [.int 2,.int 2,.int 2,.int 2,.int 2,.int 1,.int 2,.int 2,.int 1])=H3 at IG k3 ⊢
 refine ⟨_,rfl,_,rfl,_,rfl,λ xk dk DQ DX nk=>⟨xk,dk,pw,[(w0:Int),(w1:Int)],rfl,ac,gk nk,bh.of (aV DQ DX _ _ k3),by show 1<=2;decide,by show 2<=24;decide,λ pw' H4 J3 z0 z1 z2 z3=>⟨rfl,?_⟩⟩⟩
 have S4:=aW DQ DX J3
 have T4:=IG.trans S4
 have k4:=S4 _ _ k3
 have kc:KA P w K mg base Ad.Keeper 4 H4 xk 2 1 (λ i _=>[w0,w1].getD i 0) (λ i=>(i+1) % 2) 5:=pX (ws:=[w0,w1]) T ⟨dk,pw',z1,z2,z3,by show 1<=2;decide,by show 2<=24;decide⟩ (by decide)
 refine ⟨_,rfl,way,kp,xk,Ap.mul rows,sz,_,_,_,_,H4,bd,rfl,w9,av.refl _,ka.same (S0.trans T4),kc.mono (by decide),m60,s15,λ y1 y2 xt H5 S5 wi=>?_,λ y H5 S5=>⟨T.ex2,?_⟩⟩
 .
  have T5:=T4.trans S5
  obtain ⟨W',F',kt,eW,eF⟩:=wi.ex
  refine ⟨_,rfl,rfl,_,rfl,lR nofun ?_⟩
  refine ⟨_,rfl,_,_,rfl,rfl,_,rfl,lR (λ z=>by have z:(60:Int)<((Ap.mul rows * mf way:Nat):Int):=z;lia) ?_⟩
  refine ⟨_,rfl,_,_,rfl,rfl,_,rfl,lR (λ z=>by have z:(15:Int)<((sz+addW way:Nat):Int):=z;lia) ?_⟩
  obtain ⟨us,hp,lu,eO⟩:=(rws.same T5).ex
  have r4:∀ r∈rows,∀ x∈r.rooms,x<4:=λ r hr=>by
    obtain ⟨i,hi,rfl⟩:=List.mem_iff_getElem.mp hr
    obtain ⟨_,_,_,_,_,_,_,dF,_⟩:=eO i _ _ (Wz (by lia)) (Wz hi)
    exact dF
  obtain ⟨C1,Kg,f1,nW,qA,sr,sx,b1,b2,b3,b4,b5,b6,b7,b8,b9,rG,sv,_⟩:=(kt.mono (j:=43) (by decide)).ex
  have l4:=rws.l4
  refine ⟨rD,λ l1 ym=>⟨_,rfl,p,_,rfl,.inl (bh.of (al ym _ _ hp)),λ m2 J2=>⟨l1,m2,_,rfl,rfl,ac,by lia,by lia,by show 1 * m2.toNat<=sizeLine;rw [amc];lia,λ l2 Jg=>?_⟩⟩⟩
  have em:m2.toNat=rows.length:=by lia
  have ef:=kU m2.toNat
  rw [em] at ef
  have x4:=(al (o:=.lst [.int 0]) ym).trans (al (o:=.lst (List.replicate m2.toNat [V.int 0]).flatten) Jg)
  have k6:(upd (upd H5 l1 (.lst [.int 0])) l2 (.lst (List.replicate m2.toNat [V.int 0]).flatten)) l2=some (.lst ((List.replicate rows.length 0).map ao)):=by rw [em,ef,dZ];exact ac
  generalize upd (upd H5 l1 (.lst [.int 0])) l2 (.lst (List.replicate m2.toNat [V.int 0]).flatten)=H6 at x4 k6 ⊢
  refine ⟨5,rfl,by decide,by decide,?_⟩
  refine cX (lo:=0) (n:=5) (λ i σ H'=>av H5 H'/\E5 λ os po v13 v14 v15=>A3 (H' po=some (.lst (os.map ao))) (Ap.Own rows os) (σ=[some (.ref a),some (ao way),some (.ref p),some (.ref kp),some (.ref pb),some (.int x),some (.int bd),some (.ref pw),some (ao (Ap.mul rows * mf way)),some (ao (sz+addW way)),some (.ref xt),some (.ref po),some (ao (m9 way (Ap.mul rows) (Ap.join rows os) (i % 2))),v13,v14,v15]))
    ⟨x4,_,l2,none,none,none,k6,Ap.ol rws.ok,?_⟩ ?_ ?_
  .
   rw [Ap.js]
   have e0:m9 way (Ap.mul rows) 0 (0 % 2)=0:=by
     unfold m9
     split
     . rfl
     . split
       . show 0 * _+0=0;lia
       . rfl
   rw [e0]
   rfl
  .
   rintro _ i σ H7 hi ⟨S7,os,po,v13,v14,v15,ho,own,rfl⟩
   have T7:=T5.trans S7
   have jl:=Ap.jt own
   have ml:=yn w9 jl (show i % 2<2 by lia)
   refine ⟨_,rfl,_,rfl,_,_,rfl,rfl,λ z ez=>⟨a,ns,z,rfl,T7.seq hS,by lia,λ c _=>⟨_,rfl,c,i,by rw [agd];rfl,by lia,λ ps st H8 S8 hs hn hb=>?_⟩⟩⟩
   have T8:=S7.trans S8
   refine ⟨_,rfl,_,rfl,_,rfl,_,rfl,_,rfl,_,rfl,p,po,ps,rows,os,st,12,H0,rfl,rws.same (T5.trans T8),by decide,bh.of (S8 _ _ ho),own,hs,hn,λ H9 S9=>?_⟩
   have T9:=T8.trans S9
   have hs9:=hs.same S9
   refine ⟨_,rfl,_,rfl,_,_,rfl,rfl,by decide,λ y y0 y1 ey=>⟨pw,_,_,ao ([w0,w1].getD (i % 2) 0),rfl,rfl,.inl (bh.of (T9 _ _ (S5 _ _ k4))),?_,?_⟩⟩
   . rw [ey,agd]
     rcases (show i=0∨i=1∨i=2∨i=3∨i=4 by lia) with rfl|rfl|rfl|rfl|rfl<;>rfl
   refine ⟨way,ps,st,bd,_,_,rfl,w9,hs9,hn,?_⟩
   have ew:W' (m9 way (Ap.mul rows) (Ap.join rows os) (i % 2)) st=rS way st bd (Ap.cD rows (Ap.cT rows (Ap.join rows os)) st) ([w0,w1].getD (i % 2) 0):=eW (Ap.join rows os) (i % 2) st jl (by lia) hn hb (FP r4)
   rw [Ap.jy own] at ew
   have ef:F' (m9 way (Ap.mul rows) (Ap.join rows os) (i % 2))=m9 way (Ap.mul rows) (Ap.after rows (Ap.join rows os)) ((i % 2+1) % 2):=eF (Ap.join rows os) (i % 2) jl (by lia)
   rw [Ap.pA own,show (i % 2+1) % 2=(i+1) % 2 by lia] at ef
   have Gg:=Ap.iX rws.ok own
   have jl':=Ap.jt Gg
   have ml':=yn w9 jl' (show (i+1) % 2<2 by lia)
   refine ⟨_,rfl,C1,xt,Kg,f1,_,sr,rfl,T9 _ _ b1,b2.2.2.1,b3,b6,_,rfl,_,rfl,rG T9 ml hs9 hn λ sK wQ=>?_⟩
   rw [ew]
   refine ⟨_,rfl,_,rfl,_,rfl,gw ?_⟩
   have wg:=T9.trans wQ
   have QU:=hs9.same wQ
   refine ⟨_,rfl,C1,xt,Kg,f1,_,sx,rfl,wg _ _ b1,b2.2.2.2,b3,b7,_,rfl,_,rfl,sv wg ml QU hn λ WI GS=>?_⟩
   rw [ef]
   have T11:=wg.trans GS
   have ad7:=QU.same GS
   refine ⟨_,rfl,_,_,_,_,_,rfl,.int _,rfl,rfl,_,rfl,gw ?_⟩
   refine ⟨_,rfl,_,_,rfl,rfl,_,rfl,lR (by lia) ?_⟩
   refine ⟨_,rfl,_,rfl,_,_,rfl,rfl,_,rfl,lR (by lia) ?_⟩
   have alJ:=GS _ _ (wQ _ _ (S9 _ _ (S8 _ _ ho)))
   have akm:=T11 _ _ hp
   refine ⟨_,rfl,p,_,rfl,.inl (bh.of akm),λ m em3=>⟨m,rfl,by lia,by lia,λ D hD=>?_⟩⟩
   have hm:m.toNat=rows.length:=by lia
   have lo:=Ap.nO own
   refine ig (lo:=0) (n:=m.toNat) (λ j acc σ H'=>A4 (av WI H') (H' D=some (.lst acc)) (acc=((Ap.cL rows os).take j).map ao) (∃ v,σ=[v,some (.ref po),some (.ref ps),some (.ref p)])) ⟨al hD,ac,rfl,none,rfl⟩ ?_ ?_
   .
    rintro j acc σ Kb hj ⟨qd,FL,rfl,v,rfl⟩
    have Pr:j<rows.length:=by lia
    have er:=Wz Pr
    have eu:=Wz (show j<us.length by lia)
    have eo:=Wz (show j<os.length by lia)
    obtain ⟨t,pq,b,et,ht,rW,kb,dF,_⟩:=eO j _ _ eu er
    have r2:=rws.r2 _ (ahU Pr)
    have wk:=Ap.jr own er eo
    obtain ⟨C2,d2',f2,Ab,JD,JP,EM,c1,c2,c3,c4,c5,c6,c7,c8,c9,En,DU,_⟩:=(kb.mono (j:=43) (by decide)).ex
    have gj:=Ap.oU lo er eo
    have OF:=T11.trans qd
    have G12:=S0.trans (T5.trans OF)
    have JN:uh us (0+(j:Int))=some (.ref t):=by rw [agd,← et];exact dy eu
    have hpS:bh K Kb p us:=bh.of (OF _ _ hp)
    refine ⟨_,rfl,_,rfl,p,_,_,_,rfl,rfl,.inl hpS,JN,t,_,_,_,rfl,rfl,.inr (bQ.of (OF _ _ ht)),rfl,C2,b,d2',f2,_,EM,rfl,G12 _ _ c1,c2.2.2.2,c3,c7,_,rfl,_,rfl,po,_,_,ao os[j],rfl,rfl,.inl (bh.of (qd _ _ alJ)),(by rw [agd];exact dy (by rw [aei,eo];rfl)),_,rfl,_,rfl,_,rfl,p,_,_,_,rfl,rfl,.inl hpS,JN,t,_,_,_,rfl,rfl,.inr (bQ.of (OF _ _ ht)),rfl,ps,pq,st,rows[j].rooms,rfl,ad7.same qd,hn,bh.of (OF _ _ rW),r2,dF,λ tq Wl IG Wa=>?_⟩
    refine DU (G12.trans IG) wk Wa (Ap.oS st rows[j].rooms) λ Xy Il=>?_
    have U:=IG.trans Il
    refine ⟨U _ _ FL,bq (by rw [aad,aaP];lia),(qd.trans U).put hD,ac,?_,_,rfl⟩
    rw [ahe,gj,acT];rfl
   . rintro acc σ Kb ⟨qd,FL,rfl,v,rfl⟩
     have lg:=(Ap.lh lo).trans lo
     rw [hm,← lg,adg] at FL
     exact ⟨T11.trans qd,_,D,_,_,_,FL,Gg,rfl⟩
  . rintro σ H7 ⟨S7,os,po,v13,v14,v15,ho,own,rfl⟩
    refine ⟨_,rfl,C1,xt,Kg,f1,_,nW,rfl,S7 _ _ b1,b2.1,b3,b4,b8 S7 λ H8 S8=>⟨_,rfl,_,rfl,_,rfl,j9 ?_⟩⟩
    have T8:=S7.trans S8
    exact ⟨_,rfl,C1,xt,Kg,f1,_,qA,rfl,T8 _ _ b1,b2.2.1,b3,b5,b9 T8 λ H9 S9=>⟨_,rfl,_,rfl,q H9 (T5.trans (T8.trans S9))⟩⟩
 .
  have F5:=T4.trans S5
  refine ⟨_,rfl,rfl,_,rfl,dL (λ z=>?_) λ z=>absurd rfl z⟩
  refine ⟨_,rfl,rfl,_,rfl,dL (λ z=>?_) λ z=>absurd rfl z⟩
  refine ⟨_,rfl,_,_,rfl,rfl,_,rfl,dL (λ z=>?_) λ z=>?_⟩
  . exact q H5 F5
  . have z:¬ (60:Int)<((Ap.mul rows * mf way:Nat):Int):=z
    refine ⟨_,rfl,_,_,rfl,rfl,?_⟩
    rw [ajv (by show (15:Int)<((sz+addW way:Nat):Int);lia)]
    exact q H5 F5
theorem wR {X:Cx} {K:W.Frag} (hK:X.K=K):fG X (.type "list") (λ xs H Q=>∃ p ys,xs=[.ref p]/\(bh K H p ys∨bQ K H p ys)/\∀ l,H l=none->Q (.ref l) (upd H l (.lst ys))):=by subst hK;exact ic
theorem JC {H H':Hp} {a:Addr} {xs:List V} (g:Gr H H') (h:bh K H a xs):bh K H' a xs:=by
 rcases h with (h|⟨o,h⟩)|h
 . exact .inl (.inl (g _ _ h nofun))
 . exact .inl (.inr ⟨o,g _ _ h nofun⟩)
 . exact .inr h
theorem Ix {H:Hp} {a:Addr} {xs:List V} (h:bh K H a xs):bh K (fZ H) a xs:=by
 rcases h with (h|⟨o,h⟩)|h
 . exact .inl (.inl (cN h nofun))
 . exact .inl (.inr ⟨o,cN h nofun⟩)
 . exact .inr h
theorem vS {H:Hp} (h:∀ t∈pI Ad,H t=some (.jX #[])):iB (TT Ad) H:=λ e he => .inl (h e.1 (List.mem_map.mpr ⟨e,he,rfl⟩:e.1∈(TT Ad).map (·.1)))
theorem d7.low {k:Nat} {H:Hp} {p:Addr} {rows:List cI} (h:d7 P w K mg base Ad.Keeper H (fZ H) p rows k):d7 P w K mg base Ad.Keeper (fZ H) (fZ H) p rows k:=by
 obtain ⟨_,⟨us,h1,h2,h3⟩,a,b,c,d,e⟩:=h
 refine ⟨av.refl _,⟨us,cN h1 nofun,h2,λ i v r x y=>?_⟩,a,b,c,d,e⟩
 obtain ⟨t,p,b,e,q1,q2,q3⟩:=h3 i v r x y
 exact ⟨t,p,b,e,cN q1 nofun,cN q2 nofun,q3⟩
theorem d7.up {k:Nat} {H H':Hp} {p:Addr} {rows:List cI} (h:d7 P w K mg base Ad.Keeper H H p rows k) (s:av H H'):d7 P w K mg base Ad.Keeper H' H' p rows k:=by
 obtain ⟨_,⟨us,h1,h2,h3⟩,a,b,c,d,e⟩:=h
 exact ⟨av.refl _,⟨us,s _ _ h1,h2,λ i v r x y=>(h3 i v r x y).mono s s⟩,a,b,c,d,e⟩
theorem d7.gv {H:Hp} {p:Addr} {rows:List cI} (h:d7 P w K mg base Ad.Keeper H (fZ H) p rows 12) (hs:Ap.sum rows<=99):Jm P w K mg base Ad.Keeper H (fZ H) p rows 7:=⟨h.ex,h.l4,h.hm,hs,by decide⟩
def vg (P:Program) (w:World) (K:W.Frag) (mg:Str->Option Value) (base:Heap) (CK D:Addr) (H2 Z0 H':Hp) (v:V) (r:cI):Prop:=∃ t p b,v = .ref t/\H' t=some (.tup [.ref p,.ref b])/\H' p=some (.lst (r.rooms.map ao))/\H2 p=none/\p≠D/\KA P w K mg base CK r.rooms.length Z0 b r.m r.sz r.W r.F 12/\(∀ x∈r.rooms,x<4)/\r.rooms.length<=4
theorem vg.moved {D:Addr} {H2 Z0 H' qi:Hp} {v:V} {r:cI} {l l':List V} (h:vg P w K mg base Ad.Keeper D H2 Z0 H' v r) (s:av H' qi) (hD:qi D=some (.lst l)):vg P w K mg base Ad.Keeper D H2 Z0 (upd qi D (.lst l')) v r:=by
 obtain ⟨t,p,b,e,h1,h2,h3,h4,h5⟩:=h
 exact ⟨t,p,b,e,by rw [aq (iz (s _ _ h1) hD nofun)];exact s _ _ h1,by rw [aq h4];exact s _ _ h2,h3,h4,h5⟩
set_option maxHeartbeats 4000000 in
theorem IU {f:Addr} {fd:FuncData} (F:DF K "law" "law" uE f fd) (T:Txt K mg Ad) (B:Bs K mg base):dn P w K mg base l6 46 f fd ["_law_script"] (yq K (pI Ad)):=by
 refine F.ok gb (λ vs H Q E h=>?_) (λ aP A outer s H vs Q E hr h=>?_)
 . obtain ⟨a,ns,rfl,_⟩:=h
   rfl
 .
  obtain ⟨a,ns,rfl,hS,hlen,yo,hT,k⟩:=h
  have tab:=vS hT
  refine ⟨_,(ak (aG (i:=1) gb.nd rfl (lc rfl) (ay (u9 (K:=K) T B) hr.m (aa (ay (cE (K:=K) T) hr.m (aa (pv 0) (aa ag ah))) ah)))
    (ak (gT (ay (vy (K:=K) T) hr.m (aa (pv 1) ah)) (bW (K:=K) (n:=2) rfl rfl (aE (aA (i:=2) gb.nd rfl (lc rfl)) (aE (aA (i:=3) gb.nd rfl (lc rfl)) bU))))
    (ak (bx (PW.pt (jQ (aJ kW (pv 2) ag (aK _)) (pW (aJ kW (pv 3) ag (aK _))))) (am (ax (ay (iR (K:=K) T) hr.m (aa (pv 1) ah)))) aM)
    (ak (N1 (yi:=4) ["_law_one"] [] [] .nil rfl (dQ (pv 1)) (λ _ _ _ _ _=>(aA (i:=0) (show (["_law_one"]:List Str).Nodup by decide +kernel) rfl (lc rfl))) (λ _ _ _ _ _=>eK) (λ _ _ _ _ _=>(bH (aa (bO (wR (K:=K) rfl) (by rfl) T.wz sP (aa (aQ (cQ (K:=K) rfl) (pv 0) ag (λ _ _=>rfl)) ah)) (aa (aQ (cQ (K:=K) rfl) (pv 0) ag (λ _ _=>rfl)) ah)))) rfl (by decide +kernel) (by decide +kernel) (by decide +kernel) gb.nd rfl (lc rfl) rfl)
    (ak (aG (i:=5) gb.nd rfl (lc rfl) (cp T.iZ (dY (K:=K) T) .nil hr.m T.kr (aa (pv 4) ah)))
    (ak (df aem rfl (dQ (pv 4)) (aA (i:=6) gb.nd rfl (lc rfl)) (am (gE (Ar ak9 amY amX sj (aQ aO (pv 6) ag (λ _ _=>rfl))))))
    (ak (gE (Ar ak9 amY amX sj (pv 4)))
    (ak (bx (PW.pt (jQ (gU (dH (aZ d4 (by rfl) T.bX bK (aa (pv 5) (aa (fe (v:=V.ref _) rfl T.iQ rfl) ah))))) (jQ (gU (dH (ay (cx (K:=K) T) hr.m (aa (bv (P:=P) (w:=w) (K:=K) (mg:=mg) (base:=base) (k:=45) ⟨rfl,rfl,rfl,rfl,rfl⟩ (pv 5) hr) (aa (pv 2) ah))))) (pW (gU (dH (ay (cx (K:=K) T) hr.m (aa (bv (P:=P) (w:=w) (K:=K) (mg:=mg) (base:=base) (k:=45) ⟨rfl,rfl,rfl,rfl,rfl⟩ (pv 5) hr) (aa (pv 3) ah))))))))) (am (ax lx)) aM)
    (ak (aG (i:=7) gb.nd rfl (lc rfl) (bH (aa (pv 1) (aa (pv 5) (aa (pv 2) (aa (az j6 (aU (aa ag ah)) (aZ ce (by rfl) T.hU eY (aa (pv 1) ah))) (aa (aU (aa ag ah)) ah)))))))
    (ak (df aem rfl (cg rfl T.du (aa (az bg ag (az aS (az bE (ay (cE (K:=K) T) hr.m (aa (pv 0) (aa ag ah))) ag) ag)) ah)) (aA (i:=8) gb.nd rfl (lc rfl)) (am (bx (gU (dH (ay (vp (K:=K) T) hr.m (aa (pv 7) (aa (ay (kS (K:=K) T) hr.m (aa (ay (cE (K:=K) T) hr.m (aa (pv 0) (aa (az bg ag (pv 8)) ah))) (aa (pv 8) ah))) ah))))) (am (ax lx)) aM)))
    (ak (df aem rfl (cg rfl T.du (aa ag ah)) (aA (i:=9) gb.nd rfl (lc rfl)) (am (bx (gU (dH (ay (jK (K:=K) T) hr.m (aa (pv 0) (aa (pv 9) (aa (pv 1) (aa (pv 5) (aa (bH (aa (pv 2) (aa (pv 3) ah))) ah)))))))) (am (ax lx)) aM)))
    (ak (aG (i:=10) gb.nd rfl (lc rfl) (ay (cE (K:=K) T) hr.m (aa (pv 0) (aa ag ah))))
    (am (ax (mq (ay (iR (K:=K) T) hr.m (aa (ay (mR (K:=K) T) hr.m (aa (pv 10) ah)) ah)) (iY (ay (nB (K:=K) T) hr.m (aa (pv 10) ah)))))))))))))))))),?_⟩
  try dsimp only [fj,aX]
  first|(refine yO ?_;intro _ _ _ _ _ _ _ _ _ _ _ _ _ _)|skip
  refine ⟨_,rfl,a,ns,0,rfl,hS,by decide,λ c _=>⟨c,rfl,tab,λ p rows H1 g1 tb1 rw1 aqt=>?_⟩⟩
  have hS0:=Ix (JC g1 hS)
  have zg:=rw1.low
  have l4:=zg.l4
  refine ⟨_,rfl,p,rows,12,_,rfl,rw1,by decide,λ ts H2 S2 zS=>⟨ts,_,rfl,bQ.of zS,rfl,_,_,rfl,_,_,rfl,rfl,?_⟩⟩
  have rw2:d7 P w K mg base Ad.Keeper H2 (fZ H2) p rows 12:=rw1.gr (.of S2)
  have J0:av (fZ H1) H2:=gN.trans S2
  refine ⟨_,rfl,_,_,rfl,rfl,_,rfl,dL (λ z=>?_) λ z=>?_⟩
  . exact ⟨_,rfl,p,rows,7,rfl,rw2.gv (by lia),.inl (by have z:(60:Int)<(Ap.mul rows:Int):=z;lia),λ H3 _=>k H3⟩
  have z1:¬ (60:Int)<(Ap.mul rows:Int):=z
  refine ⟨_,rfl,_,_,rfl,rfl,_,rfl,dL (λ z=>?_) λ z=>?_⟩
  . exact ⟨_,rfl,p,rows,7,rfl,rw2.gv (by lia),.inr (by have z:(15:Int)<((1+Ap.sum rows:Nat):Int):=z;lia),λ H3 _=>k H3⟩
  have z2:¬ (15:Int)<((1+Ap.sum rows:Nat):Int):=z
  generalize fZ H1=Z0 at hS0 zg J0
  obtain ⟨us,hp,lu,eO⟩:=zg.ex
  refine ⟨_,rfl,p,rfl,⟨_,bh.of (J0 _ _ hp)⟩,λ D hD=>?_⟩
  refine eX (K:=K) (a:=p) (xs:=us) (λ j acc σ H'=>A5 (av H2 H') (H' D=some (.lst acc)) (acc.length=j) (∀ (i:Nat) (v:V) (r:cI),acc[i]?=some v->rows[i]?=some r->vg P w K mg base Ad.Keeper D H2 Z0 H' v r) (∃ v1,σ=[v1])) ⟨al hD,ac,rfl,λ i v r e=>by simp at e,none,rfl⟩ (λ j acc σ H' _ e=>by obtain ⟨e,_⟩:=e;exact bh.of (e _ _ (J0 _ _ hp))) ?_ ?_
  .
   rintro j y acc σ H3 hy ⟨S3,mT,la,tF,v1,rfl⟩
   have hj:j<rows.length:=by rw [← lu];exact (List.getElem?_eq_some_iff.mp hy).1
   obtain ⟨t,pq,b,rfl,ht,rW,kb,dF,Al⟩:=eO j _ _ hy (Wz hj)
   have G3:=J0.trans S3
   refine ⟨_,rfl,t,_,_,_,rfl,rfl,.inr (bQ.of (G3 _ _ ht)),rfl,pq,_,rfl,.inl (bh.of (G3 _ _ rW)),λ lp hlp=>?_⟩
   have S4:=al (o:=.lst (rows[j].rooms.map ao)) hlp
   have k4:(upd H3 lp (.lst (rows[j].rooms.map ao))) lp=some (.lst (rows[j].rooms.map ao)):=ac
   have nD:lp≠D:=(aB mT hlp).symm
   have n2:=none_of S3 hlp
   generalize upd H3 lp (.lst (rows[j].rooms.map ao))=H4 at S4 k4 ⊢
   refine ⟨_,rfl,t,_,_,_,rfl,rfl,.inr (bQ.of (S4 _ _ (G3 _ _ ht))),rfl,kh,λ tt WG=>?_⟩
   have S5:=al (o:=.tup [.ref lp,.ref b]) WG
   have k5:(upd H4 tt (.tup [.ref lp,.ref b])) tt=some (.tup [.ref lp,.ref b]):=ac
   have Kc:=S4.trans S5
   have k45:=S5 _ _ k4
   generalize upd H4 tt (.tup [.ref lp,.ref b])=H5 at Kc k45 k5 ⊢
   refine ⟨Kc _ _ mT,bq (by lia),(S3.trans Kc).put hD,ac,by rw [acC,la];rfl,λ i v r ev er=>?_,_,rfl⟩
   by_cases c:i<acc.length
   . rw [ahg c] at ev
     exact (tF i v r ev er).moved Kc (Kc _ _ mT)
   .
    have hi:i=acc.length:=by
      have:=(List.getElem?_eq_some_iff.mp ev).1
      rw [acC] at this
      have:i<acc.length+1:=this
      lia
    subst hi
    rw [aew (aau _),alS] at ev
    cases ev
    rw [la,Wz hj] at er
    cases er
    exact vg.moved ⟨tt,lp,b,rfl,k5,k45,n2,nD,kb,dF,Al⟩ (av.refl _) (Kc _ _ mT)
  .
   rintro acc σ H3 ⟨S3,mT,la,tF,v1,rfl⟩
   rw [lu] at la
   have G3:=J0.trans S3
   refine ⟨_,rfl,λ x dx hx gq ne=>?_⟩
   have M:=aV (C:=Ad.Apart) hx gq
   refine ⟨x,dx,D,4,7,rows,acc,Z0,rfl,ac,G3.trans M,none_of G3 hx,M _ _ mT,la,λ i v r e1 e2=>?_,l4,zg.hm,by lia,by decide,by decide,λ _ _ Z H5 s1 s2 kp nz ap=>⟨rfl,?_⟩,λ z _ _=>by lia⟩
   . obtain ⟨t,pq,b,e,q1,q2,_,_,q5,q6,q7⟩:=tF i v r e1 e2
     exact ⟨t,pq,b,e,M _ _ q1,M _ _ q2,q5,q6,q7⟩
   have S35:=aW hx gq kp
   have ka:=kX T ap (by lia)
   have nZ:∀ {b:Addr} {o:HO},H3 b=some o->H2 b=none->Z b=none:=λ {b o} e n=>nz b o (M _ _ e) (aB e hx) (none_of J0 n)
   have OK:∀ (i:Nat) (v:V),acc[i]?=some v->∃ t pq b l,v = .ref t/\H5 t=some (.tup [.ref pq,.ref b])/\H5 pq=some (.lst l)/\Z pq=none/\pq≠D:=λ i v e=>by
     have hi:=(List.getElem?_eq_some_iff.mp e).1
     obtain ⟨t,pq,b,ev,q1,q2,q3,q4,_⟩:=tF i v _ e (Wz (show i<rows.length by lia))
     exact ⟨t,pq,b,_,ev,S35 _ _ q1,S35 _ _ q2,nZ q2 q3,q4⟩
   have ZD:Z D=none:=nZ mT hD
   have Te:=S35 _ _ mT
   have Wo:=s1.seq hS0
   have rwZ:=zg.up s1
   clear tF
   refine ⟨_,rfl,D,rfl,⟨_,bh.of Te⟩,?_⟩
   refine gY (K:=K) (a:=D) (xs:=acc) (λ i σ H'=>A4 (av Z H') (H' D=some (.lst acc)) (∀ (i:Nat) (v:V),acc[i]?=some v->∃ t pq b l,v = .ref t/\H' t=some (.tup [.ref pq,.ref b])/\H' pq=some (.lst l)/\Z pq=none/\pq≠D) (E5 λ v6 v7 v8 v9 v10=>σ=[some (.ref a),some (.ref p),some (ao (Ap.mul rows)),some (ao (1+Ap.sum rows)),some (.ref D),some (.ref x),v6,v7,v8,v9,v10])) ⟨s2,Te,OK,none,none,none,none,none,rfl⟩ (λ i σ H' _ e=>by obtain ⟨_,e,_⟩:=e;exact bh.of e) ?_ ?_
   .
    rintro _ i y σ H6 hy ⟨SZ6,DT,ha6,v6,v7,v8,v9,v10,rfl⟩
    obtain ⟨t,pq,b,l,rfl,ht,rW,zq,nD⟩:=ha6 i y hy
    refine ⟨_,rfl,t,_,_,_,rfl,rfl,.inr (bQ.of ht),rfl,.inl ⟨rfl,_,bh.of rW⟩,pq,_,rfl,rfl,rW,SZ6.put zq,by rw [aq nD.symm];exact DT,λ i' v' e'=>?_,_,_,_,_,_,rfl⟩
    obtain ⟨t',X8,b',l',e1,WD,abX,zq',nD'⟩:=ha6 i' v' e'
    by_cases cq:X8=pq
    . subst cq
      exact ⟨t',X8,b',[],e1,by rw [aq (iz WD rW nofun)];exact WD,ac,zq',nD'⟩
    . exact ⟨t',X8,b',l',e1,by rw [aq (iz WD rW nofun)];exact WD,by rw [aq cq];exact abX,zq',nD'⟩
   .
    rintro σ H6 ⟨SZ6,DT,ha6,v6,v7,v8,v9,v10,rfl⟩
    refine ⟨_,rfl,.inl ⟨rfl,_,bh.of DT⟩,D,_,rfl,rfl,DT,?_⟩
    have Mz:av Z (upd H6 D (.lst [])):=SZ6.put ZD
    generalize upd H6 D (.lst [])=H7 at Mz ⊢
    obtain ⟨C1,d1,f1,nW,qA,sr,sx,b1,b2,b3,b4,b5,b6,b7,b8,b9,rG,sv,ty,tyS,kk⟩:=(ka.mono (j:=45) (by decide)).ex
    refine ⟨_,rfl,_,_,_,_,_,rfl,tyS Mz,rfl,kk,_,rfl,gw ?_⟩
    refine ⟨_,rfl,C1,x,d1,f1,_,nW,rfl,Mz _ _ b1,b2.1,b3,b4,b8 Mz λ H8 S8=>⟨_,rfl,_,rfl,_,rfl,gw ?_⟩⟩
    have SZ8:=Mz.trans S8
    refine ⟨_,rfl,C1,x,d1,f1,_,qA,rfl,SZ8 _ _ b1,b2.2.1,b3,b5,b9 SZ8 λ H9 S9=>⟨_,rfl,_,rfl,_,rfl,gw ?_⟩⟩
    have SZ9:=SZ8.trans S9
    obtain ⟨us',hpZ,lu',_⟩:=rwZ.ex
    refine ⟨_,rfl,_,rfl,_,rfl,rD,λ l1 ym=>⟨_,rfl,p,_,rfl,.inl (bh.of (al ym _ _ (SZ9 _ _ hpZ))),λ m2 J2=>⟨l1,m2,_,rfl,rfl,ac,by lia,by lia,by show 1 * m2.toNat<=sizeLine;rw [amc];lia,λ po uJ=>?_⟩⟩⟩
    have em:m2.toNat=rows.length:=by lia
    have ef:=kU m2.toNat
    rw [em] at ef
    have x4:=(al (o:=.lst [.int 0]) ym).trans (al (o:=.lst (List.replicate m2.toNat [V.int 0]).flatten) uJ)
    have Hi:(upd (upd H9 l1 (.lst [.int 0])) po (.lst (List.replicate m2.toNat [V.int 0]).flatten)) po=some (.lst ((List.replicate rows.length 0).map ao)):=by rw [em,ef,dZ];exact ac
    have zpo:Z po=none:=none_of (SZ9.trans (al ym)) uJ
    generalize upd (upd H9 l1 (.lst [.int 0])) po (.lst (List.replicate m2.toNat [V.int 0]).flatten)=sK at x4 Hi ⊢
    have N5:=SZ9.trans x4
    refine ⟨rD,λ pa HJ=>⟨af8 rfl,λ zY Yb=>?_⟩⟩
    have Wp:po≠pa:=aB Hi HJ
    have zpa:Z pa=none:=none_of N5 HJ
    have GS:=al (o:=.lst [.int 0]) HJ
    have qd:=al (o:=.tup [.ref p,.ref x,ao (Ap.mul rows),.ref po,.ref pa]) Yb
    have k11:=qd _ _ (show (upd sK pa (.lst [.int 0])) pa=some (.lst [.int 0]) from ac)
    have k12:(upd (upd sK pa (.lst [.int 0])) zY (.tup [.ref p,.ref x,ao (Ap.mul rows),.ref po,.ref pa])) zY=some (.tup [.ref p,.ref x,ao (Ap.mul rows),.ref po,.ref pa]):=ac
    have Az:=GS.trans qd
    generalize upd (upd sK pa (.lst [.int 0])) zY (.tup [.ref p,.ref x,ao (Ap.mul rows),.ref po,.ref pa])=Kb at Az k11 k12 ⊢
    have OL:=N5.trans Az
    have Hi:=Az _ _ Hi
    refine ⟨_,rfl,a,ns,1,rfl,OL.seq Wo,by decide,λ xx _=>⟨_,_,rfl,rfl,⟨by decide,yC⟩,λ dd edd=>⟨_,_,rfl,rfl,by decide,λ e e0 e1 ee=>⟨_,_,rfl,rfl,λ n en=>⟨n,rfl,by lia,by lia,?_⟩⟩⟩⟩⟩
    refine cX (lo:=0) (n:=n.toNat) (λ i σ H'=>A4 (av Z H') (H' zY=some (.tup [.ref p,.ref x,ao (Ap.mul rows),.ref po,.ref pa])) (∃ os,A3 (Ap.Own rows os) (H' po=some (.lst (os.map ao))) (H' pa=some (.lst [ao (Ap.join rows os)]))) (E4 λ v6 v8 v9 v10=>σ=[some (.ref a),some (.ref p),some (ao (Ap.mul rows)),some (ao (1+Ap.sum rows)),some (.ref D),some (.ref x),v6,some (.ref zY),v8,v9,v10]))
      ⟨OL,k12,⟨_,Ap.ol zg.ok,Hi,by rw [Ap.js];exact k11⟩,_,_,_,_,rfl⟩ ?_ ?_
    . rintro _ i σ Wl hi ⟨Et,EJ,⟨os,own,ho,A8⟩,v6,v8,v9,v10,rfl⟩
      refine ⟨_,rfl,_,rfl,_,rfl,_,_,rfl,rfl,λ z ez=>⟨a,ns,z,rfl,Et.seq Wo,by lia,λ c _=>⟨_,rfl,c,i,by rw [agd];rfl,by lia,λ ps st Xy Il hs hn hb=>?_⟩⟩⟩
      exact ⟨zY,ps,p,x,po,pa,rows,os,st,12,_,14,Z,rfl,Il _ _ EJ,Et.trans Il,rwZ,by decide,zpo,zpa,Wp,ka,by decide,Il _ _ ho,Il _ _ A8,own,hs,hn,λ H15 Bo aeM ak3 MI=>⟨_,rfl,gw ⟨Bo,aeM _ _ (Il _ _ EJ) (λ e=>by rw [e,ho] at EJ;cases EJ) (λ e=>by rw [e,A8] at EJ;cases EJ),⟨_,Ap.iX zg.ok own,ak3,MI⟩,_,_,_,_,rfl⟩⟩⟩
    .
     rintro σ Wl ⟨Et,EJ,⟨os,own,ho,A8⟩,v6,v8,v9,v10,rfl⟩
     refine ⟨9,rfl,by decide,by decide,?_⟩
     refine cX (lo:=0) (n:=9) (λ i σ H'=>av Z H'/\E4 λ v6 v8 v9 v10=>σ=[some (.ref a),some (.ref p),some (ao (Ap.mul rows)),some (ao (1+Ap.sum rows)),some (.ref D),some (.ref x),v6,some (.ref zY),v8,v9,v10]) ⟨Et,_,_,_,_,rfl⟩ ?_ ?_
     . rintro _ i σ Xy hi ⟨Jc,v6,v8,v9,v10,rfl⟩
       refine ⟨_,rfl,_,rfl,_,rfl,_,rfl,_,rfl,_,rfl,kh,λ pb Ki=>?_⟩
       have S15:=al (o:=.tup [ao (Ap.mul rows),ao (1+Ap.sum rows)]) Ki
       have Bo:=Jc.trans S15
       exact ⟨a,ns,i,p,x,pb,rows,1+Ap.sum rows,Z,by rw [agd];rfl,Bo.seq Wo,hi,rwZ.same Bo,ka,by lia,by lia,ac,λ H16 S16=>⟨_,rfl,gw ⟨Bo.trans S16,_,_,_,_,rfl⟩⟩⟩
     . rintro σ Xy ⟨Jc,v6,v8,v9,v10,rfl⟩
       refine ⟨_,rfl,a,ns,1,rfl,Jc.seq Wo,by decide,λ x2 _=>?_⟩
       exact ⟨_,rfl,x2,rfl,λ p' Pc k' H15 S15 gv bad=>⟨p',Pc,k',rfl,gv,bad,λ H16 S16=>⟨_,rfl,j9 ⟨_,rfl,x2,rfl,λ H17 S17=>k H17⟩⟩⟩⟩
end
theorem walk {l:W.OpenLaw} {q:Program} {loose:List Str} {XP:(Str->Option Value)->Heap->Prop} {YP:World->Heap->Prop} {d:DefRec} {K:Params->W.Frag} {ts:List Addr} (hn:l.most=some 63) (UZ:d.params.defaults=[]) (Ou:d.name = "law")
   (hY:∀ (w:World) (h:Heap),YP w h->(K w.params).In h) (hY2:∀ (w:World) (h:Heap),YP w h->∀ T∈ts,h.get? T=some (W.tabObj #[])) (hK:∀ w:World,W.noTabs (K w.params)=true)
   (F:∀ (w:World) (mg:Str->Option Value) (h:Heap),(K w.params).In h->h.Ns mainGlobals mg->∃ A,Txt (K w.params) mg A/\∀ T∈[A.jj,A.kR,A.iN],T∈ts) :
   W.WalkO q loose XP YP l.row.toRowW d [] (λ f vs=>PySem.call f vs) :=
 L2.BR (k:=46) (x:="_law_script") hn UZ ⟨rfl,by decide,by decide⟩ hY hK
   (λ w mg fa h Y KX G Ke=>by
     obtain ⟨A,T,hin⟩:=F w mg h KX G
     obtain ⟨f,fd,hm,Fd⟩:=id T.Qv
     rw [Ou] at Ke
     have e:=Ke.symm.trans hm
     cases e
     exact ⟨fd,pI A,Fd.JA (λ _ _ _ _ _ _ _=>rfl),λ t ht=>⟨hY2 w h Y t (hin t ht),E7 T t ht⟩,λ base kb _ bm=>IU Fd T ⟨kb,bm⟩⟩)
end K74
namespace PySem.W.Fast
def tw8021383380381791840:=0
def tw380936919430083339:=0
def tw4423389924239199912:=0
def tw8763618665961381590:=0
def tw13768972666431819833:=0
def tw5052007971378707162:=0
def tw1023025293829276491:=0
def tw1910416388368048967:=0
def tw11870234549461884434:=0
def tw11943095982660470139:=0
def tw3007717743899641446:=0
def tw6060541344573656201:=0
def tw15563173080641034019:=0
def tw18045768916929685368:=0
def tw15486776842149464821:=0
def tw5425240310691501537:=0
def tw17282675650531013711:=0
def tw17695809649360639357:=0
def tw5180319464520507142:=0
def tw1981517436377647496:=0
def tw16782435158098763833:=0
def tw942688079005113134:=0
def tw13231163362852385962:=0
def tw11645682560521671095:=0
def tw10627972672694255175:=0
def tw2123816897313153215:=0
def tw16669069379843787541:=0
def tw16821723597557037402:=0
def tw17529377663516383349:=0
def tw3274816344702877623:=0
def tw7074694834249591309:=0
def tw16134053599344183088:=0
def tw18428740260077127848:=0
def tw13619234666303957448:=0
def tw11563140131915006039:=0
def tw2043809682903776659:=0
def tw17785010472354071264:=0
def tw12570557744732502339:=0
def tw7299800463286291058:=0
def tw8921908589300819529:=0
def tw15224523177527403696:=0
def tw16669429604066436901:=0
def tw3519895967239321769:=0
def tw17218337723674532969:=0
def tw15859538900679257771:=0
def tw4541683639880117136:=0
def tw1234896575872659819:=0
def tw1131633709112151482:=0
def tw5692488321886022257:=0
def tw11137201928778354539:=0
def tw8094210256614950858:=0
def tw16635323054562515148:=0
def tw10247713153675143344:=0
def tw1110371392080513126:=0
def tw7483080220469655840:=0
def tw1888789531048799430:=0
def tw516479669328464222:=0
def tw3643976839953561588:=0
def tw115901499020605104:=0
def tw12463320290681015179:=0
def tw535320984809460257:=0
def tw9229485595994345388:=0
def tw1456247853850582548:=0
def tw2353593381748385540:=0
def tw3494586065244315709:=0
def tw9654165633998007352:=0
def tw6340267527694868297:=0
def tw14687862685644739699:=0
def tw12965382562739830957:=0
def tw7664004953164508473:=0
def tw3986979339876701065:=0
def tw627582109980211746:=0
def tw15584526516248978190:=0
def tw1771771783273892149:=0
def tw17630221838386746932:=0
def tw4440719426047670034:=0
end PySem.W.Fast
open PySem PySem.W PyProof.Rows
set_option maxRecDepth 100000 in
set_option maxHeartbeats 0 in
theorem PySem.Challenge.cw_stoke_k74_keepers_apart_holds : PySem.Challenge.rw_stoke_k74_keepers_apart.Holds := by
 w_on; o_law; k_head; (case hw => w_witness2)
 k_fill
 refine K74.walk (l:=PySem.Challenge.rw_stoke_k74_keepers_apart) rfl rfl rfl (fun w h Y => PySem.W.km_in_of Y) (fun w h Y => PySem.W.km_tabs_of Y) (fun w => by kernel_rfl) ?F
 case F =>
   intro w mg h KX G
   refine' ⟨_,K74.txt_mk KX G ?_ ?_ ?_ ?_ ?_ ?_ ?_ ?_ ?_ ?_ ?_ ?_ ?_ ?_ ?_ ?_ ?_ ?_ ?_ ?_ ?_ ?_ ?_ ?_ ?_ ?_ ?_ ?_ ?_ ?_ ?_ ?_ ?_ ?_ ?_ ?_ ?_ ?_ ?_ ?_ ?_ ?_ ?_ ?_ ?_ ?_ ?_ ?_ ?_ ?_ ?_ ?_ ?_ ?_ ?_ ?_ ?_ ?_ ?_ ?_ ?_ ?_ ?_ ?_ ?_ ?_ ?_ ?_ ?_ ?_ ?_ ?_ ?_ ?_ ?_ ?_ ?_ ?_ ?_ ?_ ?_ ?_ ?_ ?_ ?_ ?_ ?_ ?_ ?_ ?_ ?_ ?_ ?_ ?_ ?_ ?_ ?_ ?_ ?_ ?_ ?_ ?_ ?_ ?_ ?_ ?_ ?_ ?_ ?_ ?_ ?_ ?_ ?_ ?_ ?_ ?_ ?_ ?_ ?_ ?_ ?_ ?_ ?_ ?_ ?_ ?_ ?_ ?_ ?_ ?_ ?_ ?_ ?_ ?_ ?_ ?_ ?_ ?_ ?_ ?_ ?_ ?_ ?_ ?_ ?_ ?_ ?_ ?_ ?_ ?_ ?_ ?_ ?_ ?_ ?_ ?_ ?_ ?_ ?_ ?_ ?_ ?_ ?_ ?_ ?_ ?_ ?_ ?_ ?_ ?_ ?_ ?_ ?_ ?_ ?_ ?_ ?_ ?_ ?_ ?_ ?_ ?_ ?_ ?_ ?_ ?_ ?_ ?_ ?_ ?_ ?_ ?_ ?_ ?_ ?_ ?_ ?_ ?_ ?_ ?_ ?_ ?_ ?_ ?_ ?_ ?_ ?_ ?_ ?_ ?_ ?_ ?_ ?_ ?_ ?_ ?_ ?_ ?_ ?_ ?_ ?_ ?_ ?_ ?_ ?_ ?_ ?_ ?_ ?_ ?_ ?_ ?_ ?_ ?_ ?_ ?_ ?_ ?_ ?_ ?_ ?_ ?_ ?_ ?_ ?_ ?_ ?_ ?_ ?_ ?_ ?_ ?_ ?_ ?_ ?_ ?_ ?_ ?_ ?_ ?_ ?_ ?_ ?_ ?_ ?_ ?_ ?_ ?_ ?_ ?_ ?_ ?_ ?_ ?_ ?_ ?_ ?_ ?_ ?_ ?_ ?_ ?_ ?_ ?_ ?_ ?_ ?_ ?_ ?_ ?_ ?_ ?_ ?_ ?_ ?_ ?_ ?_ ?_ ?_ ?_ ?_ ?_ ?_ ?_ ?_ ?_ ?_ ?_ ?_ ?_ ?_ ?_ ?_ ?_ ?_ ?_ ?_ ?_ ?_ ?_ ?_ ?_ ?_ ?_ ?_ ?_ ?_ ?_ ?_ ?_ ?_ ?_ ?_ ?_ ?_ ?_ ?_ ?_ ?_ ?_ ?_ ?_ ?_ ?_ ?_ ?_ ?_ ?_ ?_ ?_ ?_ ?_ ?_ ?_ ?_ ?_ ?_ ?_ ?_ ?_ ?_ ?_ ?_ ?_ ?_ ?_ ?_ ?_ ?_ ?_ ?_ ?_ ?_ ?_ ?_ ?_ ?_ ?_ ?_ ?_ ?_ ?_ ?_ ?_ ?_ ?_ ?_ ?_ ?_ ?_ ?_ ?_ ?_ ?_ ?_ ?_ ?_ ?_ ?_ ?_ ?_ ?_ ?_ ?_ ?_ ?_ ?_ ?_ ?_ ?_ ?_ ?_ ?_ ?_ ?_ ?_ ?_ ?_ ?_ ?_ ?_ ?_ ?_ ?_ ?_ ?_ ?_ ?_ ?_ ?_ ?_ ?_ ?_ ?_ ?_ ?_ ?_ ?_ ?_ ?_ ?_ ?_ ?_ ?_ ?_ ?_ ?_ ?_ ?_ ?_ ?_ ?_ ?_ ?_ ?_ ?_ ?_ ?_ ?_ ?_ ?_ ?_ ?_ ?_ ?_ ?_ ?_ ?_ ?_ ?_ ?_ ?_ ?_ ?_ ?_ ?_ ?_ ?_ ?_ ?_ ?_ ?_ ?_ ?_ ?_ ?_ ?_ ?_ ?_ ?_ ?_ ?_ ?_ ?_ ?_ ?_ ?_ ?_ ?_ ?_ ?_ ?_ ?_ ?_ ?_ ?_ ?_ ?_ ?_ ?_ ?_ ?_ ?_ ?_ ?_ ?_ ?_ ?_ ?_ ?_ ?_ ?_ ?_ ?_ ?_ ?_ ?_ ?_ ?_ ?_ ?_ ?_ ?_ ?_ ?_ ?_ ?_ ?_ ?_ ?_ ?_ ?_ ?_ ?_ ?_ ?_ ?_ ?_ ?_ ?_ ?_ ?_ ?_ ?_ ?_ ?_ ?_ ?_ ?_ ?_ ?_ ?_ ?_ ?_ ?_ ?_ ?_ ?_ ?_ ?_ ?_ ?_ ?_ ?_ ?_ ?_,?tin⟩
   all_goals try ((try delta K74.kq_); (try delta K74.kc_); (try delta K74.kf_); (try delta K74.kn_); (try delta K74.kg_); first | ((with_reducible show (_ : Array Value)[11]? = _); exact rfl) | k_is | k_exc | kernel_rfl | kit_is | kts_exm | decide)
   try (case tin => decide)
