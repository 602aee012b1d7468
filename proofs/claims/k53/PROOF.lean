import PyProof.Rows.All
import Wide.All
import OpenK.AllK
import Wide.FinOn
import Lean
import PyProof.EqAt
import PyProof.EqKinds
import PyProof.TupleCall
import KE.KSortKey
import KE.KLam
import KE.KNestM
import PySem.Challenge.RW_relaid_k53_strands_by_walking
set_option compiler.extract_closed false
open PySem.W (Frag callWith_K codeIn emptyDict findCls findIn fnOf handedIn hasDictIn instObj isFn keepIn kitOne lookIn makesIn methodCall_KW mg_of nsIn plainGet plainGet_of plainOver readsIn specialIn takerIn)
open List (any_eq_true drop_left foldl getElem_inj getElem_map nil_append nodup_nil nodup_range pairwise_lt_range replicate sum_nil)
open PyProof.Rows (boot_bool boot_list boot_min boot_sorted boot_sum boot_tuple callWith_builtin1)
open Option (map_some)
open PySem (slot_list_append)
open PySem.F (called_set slot_dict_get type_list_index)
set_option Elab.async false
set_option linter.all false
set_option maxRecDepth 100000
set_option maxHeartbeats 4000000
section
open Lean in
def zPat0:Nat→Syntax→MacroM (TSyntax `rcasesPat)
|0,_=>Macro.throwUnsupported
|n+1,s=>do
 let s:=if s.isOfKind choiceKind then (s.getArgs.find? (·.isOfKind `«term{_}»)).getD s else s
 if s.isOfKind `«term{_}» then
  let b←s[1].getSepArgs.mapM (zPat0 n)
  return←`(rcasesPat|⟨$[$b],*⟩)
 match s with
 |`($i:ident)=>`(rcasesPat|$i:ident)
 |`(_)=>`(rcasesPat|_)
 |_=>Macro.throwUnsupported
open Lean in
local macro_rules(kind:=«term{_}»)|s=>let a:Array Term:=s[1].getSepArgs.map (⟨·⟩);`(⟨$a,*⟩)
open Lean in
local macro_rules(kind:=choice)|s=>do
 let some t:=s.getArgs.find? (·.isOfKind `«term{_}»)|Macro.throwUnsupported
 return t
local macro_rules|`(())=>`(by lia)
local macro_rules|`(tactic|let $p:term:=$e)=>do `(tactic|obtain $(←zPat0 9 p):rcasesPat:=$e)
local macro_rules|`(tactic|show $e)=>`(tactic|refine $e)
open Lean in
local macro_rules(kind:=Lean.Parser.Command.declaration)|s=>do
 let k:=s[1].getKind
 if (k==``Lean.Parser.Command.definition||k==``Lean.Parser.Command.abbrev)&&s[0].getArgs.all (·.getNumArgs==0) then return s.setArg 0 (←`(command|noncomputable def x:=1)).raw[0]
 Macro.throwUnsupported
def zA:=@PySem.wpAny_bind
def zB.{u,v}:=@List.length_map.{u,v}
def zC:=@PySem.wpAny_pure
def zD:=@Nat.le_refl
def zE:=@PySem.Heap.get?_push_of_some
def zF.{u}:=@List.mem_singleton.{u}
def zG:=@PySem.Heap.lt_size
def zH.{u}:=@List.getD_eq_getElem?_getD.{u}
def zI.{u}:=@List.mem_cons.{u}
def zJ.{u}:=@List.mem_cons_self.{u}
def zK.{u}:=@List.mem_cons_of_mem.{u}
def zL.{u,v}:=@List.map_cons.{u,v}
def zM:=@Nat.le_trans
def zN.{u}:=@List.length_append.{u}
def zO:=@Nat.zero_le
def zP.{u,v}:=@congrArg.{u,v}
def zQ:=@Nat.ne_of_lt
def zR:=@List.mem_range
def zS.{u}:=@List.size_toArray.{u}
def zT:=@PySem.Heap.get?_push_size
def zU.{u}:=@List.sum_cons.{u}
def zV.{u}:=@Option.some.inj.{u}
def zW.{u,v}:=@List.mem_map.{u,v}
def zX.{u}:=@List.mem_filter.{u}
def zY.{u,v}:=@List.getElem?_map.{u,v}
def zZ:=@decide_eq_true
def yA:=@Int.le_refl
def yB:=@Nat.lt_of_lt_of_le
def yC:=@List.length_range
def yD:=@decide_eq_false
def yE.{u,v}:=@List.map_append.{u,v}
def yF.{u}:=@List.mem_append.{u}
def yG:=@Bool.false_ne_true
def yH:=@PySem.PassesOwn.never
def yI:=@PySem.F.plainAttrs_list
def yJ:=@Nat.le_of_lt
def yK:=@PySem.wpAny_mono
def yL.{u}:=@Array.length_toList.{u}
def yM.{u}:=@List.append_nil.{u}
def yN.{u}:=@List.nodup_cons.{u}
def yO:=@PySem.mem_of_lookup
def yP.{u}:=@List.getElem?_append_right.{u}
def yQ.{u}:=@List.getElem?_append_left.{u}
def yR:=@Int.add_zero
def yS.{u}:=@List.not_mem_nil.{u}
def yT.{u}:=@List.mem_append_left.{u}
def yU:=@decide_eq_true_iff
def yV.{u}:=@List.filter_cons.{u}
def yW.{u}:=@List.mem_append_right.{u}
def yX.{u,v,w}:=@List.map_map.{u,v,w}
def yY.{u,v}:=@List.pairwise_map.{u,v}
def yZ:=@Int.zero_add
def xA:=@Int.one_mul
def xB:=@Nat.lt_of_le_of_lt
def xC.{u}:=@List.getElem_mem.{u}
def xD.{u}:=@List.length_cons.{u}
def xE:=@PySem.slot_list_append
def xF:=@PySem.type_list_append
def xG:=@PySem.wpAny_call_entry
def xH.{u}:=@List.length_set.{u}
def xI:=@PySem.Heap.SameBut.update
def xJ.{u}:=@List.Perm.refl.{u}
def xK:=@Int.zero_mul
def xL.{u}:=@List.nodup_append.{u}
def xM:=@Int.emod_lt_of_pos
def xN:=@Classical.byContradiction
def xO:=@Int.emod_nonneg
def xP:=@PySem.wpAny_holding
def xQ.{u}:=@List.length_take.{u}
def xR:=@PySem.wpAny_field
def xS.{u}:=@List.take_length.{u}
def xT:=@Nat.mod_lt
def xU.{u}:=@beq_iff_eq.{u}
def xV:=@Bool.and_eq_true
def xW.{u}:=@Array.getElem?_toList.{u}
def xX.{u}:=@List.filter_append.{u}
def xY:=@of_decide_eq_true
def xZ:=@Int.add_mul
def wA:=@Nat.ne_of_gt
def wC:=@PySem.sizeLine_eq
def wD:=@PySem.W.kia_one
def wE.{u}:=@List.length_replicate.{u}
def wF:=@PySem.call_meets
def wG.{u}:=@List.length_filter_le.{u}
def wH:=@Int.mul_comm
def wI:=@Nat.le_succ
def wJ:=@PySem.codeAny_builtin
def wK:=@List.range_succ
def wL:=@Int.mul_zero
def wM:=@Int.lt_or_le
def wN.{u,v}:=@List.mem_flatMap.{u,v}
def wO.{u,v}:=@List.map_congr_left.{u,v}
def wP.{u}:=@List.getElem?_eq_some_iff.{u}
def wQ:=@Nat.lt_irrefl
def wR:=@PySem.Heap.size_push
def wU.{u}:=@List.mem_of_getElem?.{u}
def wV.{u}:=@List.length_drop.{u}
def wW:=@PySem.wpAny_callSpecial?_slot
def wX.{u}:=@List.ext_getElem?.{u}
def wY:=@PySem.lookup_relabel_local
def wZ:=@Nat.not_lt_zero
def vA.{u}:=@List.sum_append.{u}
def vB:=@Int.mul_nonneg
def vC.{u}:=@List.take_append_getElem.{u}
def vD:=@Nat.add_mod_right
def vE:=@or_false
def vF:=@Bool.eq_iff_iff
def vG:=@PySem.wpAny_newObj_type
def vH.{u}:=@List.all_eq_true.{u}
def vI:=@PySem.AutoSeq1.wpAny_loadPart'
def vJ:=@PySem.wpAny_setField
def vK:=@Int.mul_add
def vL.{u}:=@List.nodup_iff_pairwise_ne.{u}
def vM:=@PyProof.Rows.boot_isinstance
def vN:=@PySem.wpAny_truthy_bool
def vO:=@PySem.wpAny_passesOwn
def vP:=@Nat.lt_succ_self
def vQ:=@PySem.wpAny_Call_Name_kw
def vR:=@PySem.Heap.get?_update_other
def vS.{u}:=@List.append_assoc.{u}
def vT:=@PySem.wpAny_newList
def vU:=@PyProof.Rows.listUpdate_at
def vV:=@PySem.wpAny_attempt
def vW.{u}:=@List.idxOf_lt_length_iff.{u}
def vX.{u}:=@Array.getElem?_eq_getElem.{u}
def vY.{u}:=@List.pairwise_cons.{u}
def vZ:=@List.nodup_range
def uA.{u}:=@List.getElem_of_mem.{u}
def uB:=@Int.mul_le_mul_of_nonneg_right
def uC.{u,v}:=@List.pairwise_flatMap.{u,v}
def uD:=@Int.sub_zero
def uE:=@Nat.one_mul
def uF.{u,v}:=@List.flatMap_append.{u,v}
def uG:=@Nat.mod_eq_of_lt
def uH:=@PySem.wpAny_setState_of
def uI.{u}:=@List.getElem?_set_ne.{u}
def uJ:=@PySem.codeAny_mono
def uK:=@PySem.Heap.get?_update_self
def uL:=@Nat.mul_comm
def uM:=@Bool.false_eq_true
def uN:=@PyProof.Rows.get?_update_seq
def uO:=@Int.toNat_natCast
def uP:=@PySem.Obj.data_mapFields
def uQ:=@Nat.lt_succ_of_lt
def uR:=@Int.ediv_nonneg
def uS:=@Nat.lt_trichotomy
def uT.{u}:=@List.perm_ext_iff_of_nodup.{u}
def uU:=@Int.mul_le_mul
def uV:=@Int.mul_assoc
def uW.{u}:=@List.cons_append.{u}
def uX.{u,v}:=@List.flatMap_cons.{u,v}
def uY.{u}:=@List.Pairwise.filter.{u}
def uZ:=@Int.natCast_add
def tD:=@PySem.wpAny_ite_split
def tE:=@PyProof.Rows.callWith_type1
def tF.{u}:=@beq_eq_false_iff_ne.{u}
def tG.{u}:=@List.getElem?_replicate.{u}
def tH.{u}:=@List.take_of_length_le.{u}
def tI:=@Int.natCast_mul
def tJ:=@PySem.wpAny_ite_false
def tK:=@PySem.Obj.cls_mapFields
def tL:=@PySem.wpAny_setField_rec
def tM.{u}:=@List.forall_mem_nil.{u}
def tN.{u}:=@List.forall_mem_cons.{u}
def tO.{u}:=@List.filter_eq_self.{u}
def tP.{u}:=@List.getElem_idxOf.{u}
def tQ:=@List.getElem?_range
def tR.{u,v}:=@List.length_flatMap.{u,v}
def tT.{u}:=@List.mem_of_mem_take.{u}
def tU.{u}:=@List.getElem?_eq_none.{u}
def tV.{u}:=@List.filter_congr.{u}
def tW:=@decide_eq_decide
def tX:=@PyProof.Rows.boot_range
def tY.{u}:=@List.take_append_drop.{u}
def tZ.{u}:=@List.getElem?_eq_none_iff.{u}
def sB:=@PySem.wpAny_setEntries_of
def sD:=@PySem.wpAny_pyIter_tuple
def sE:=@PySem.Calls.spliced_cons
def sF.{u}:=@Option.isSome_iff_exists.{u}
def sG:=@PySem.Calls.callWith_builtin
def sH.{u}:=@List.replicate_succ.{u}
def sI.{u}:=@List.length_eq_zero_iff.{u}
def sJ:=@PySem.F.slot_tuple_iterator_next
def sK:=@PySem.F.slot_enumerate_next
def sL:=@PySem.F.slot_list_index
def sM.{u}:=@List.length_pos_iff.{u}
def sN:=@Int.mul_le_mul_of_nonneg_left
def sO:=@Int.mul_ediv_add_emod
def sP:=@List.getElem_range
def sQ.{u}:=@List.pairwise_iff_getElem.{u}
def sR.{u}:=@List.pairwise_singleton.{u}
def sS:=@Int.ediv_eq_zero_of_lt
def sU.{u}:=@Array.getElem?_eq_some_iff.{u}
def sV:=@PySem.Calls.call_function_entry
def sW:=@Int.lt_ediv_add_one_mul_self
def sX:=@Int.add_mul_emod_self_left
def sY.{u}:=@List.exists_mem_of_length_pos.{u}
def sZ.{u}:=@Array.getD_eq_getD_getElem?.{u}
def rA:=@PyProof.Rows.F.plain_set_update_loop
theorem gEq{α:Type u}{l:List α}{i:Nat}(h:i<l.length):l[i]?=some l[i]:=List.getElem?_eq_getElem h
theorem gSm{α:Type u}{l:List α}{i:Nat}{a:α}(h:l[i]?=some a):i<l.length:=(wP.mp h).1
namespace L2
open PySem PySem.Spec PyProof.Rows
abbrev Key:=Sum Int Str
def Jj1:Key->Value->Bool
 | .inl k,v=>Value.isInt k v
 | .inr x,v=>Value.isStrOf x v
def keyH(w:World):Key->Int
 | .inl k=>hashInt k
 | .inr x=>hashStr w x
theorem J22:∀{k:Key} {v:Value},Jj1 k v=true->(∃i t,k=Sum.inl i/\v=Value.int i t)\/(∃x t,k=Sum.inr x/\v=Value.str x t)
 | .inl i,v,h=>by
  let{t,e}:=Value.isInt_shape (k:=i) (v:=v) h;show .inl {i,t,rfl,e}
 | .inr x,v,h=>by
  let{t,e}:=Value.isStrOf_shape (x:=x) (v:=v) h;show .inr {x,t,rfl,e}
theorem Jmc(i:Int)(t:Tok):Jj1 (.inl i) (.int i t)=true:=by simp[Jj1,Value.isInt]
theorem Jmb(x:Str)(t:Tok):Jj1 (.inr x) (.str x t)=true:=by simp[Jj1,Value.isStrOf]
theorem key_ll(a b:Int):decide ((Sum.inl a:Key)=Sum.inl b)=(a==b):=by
 grind
theorem key_rr(a b:Str):decide ((Sum.inr a:Key)=Sum.inr b)=decide (a=b):=by
 grind
theorem key_lr(a:Int)(b:Str):decide ((Sum.inl a:Key)=Sum.inr b)=false:=yD (fun q=>nomatch q)
theorem key_rl(a:Str)(b:Int):decide ((Sum.inr a:Key)=Sum.inl b)=false:=yD (fun q=>nomatch q)
def J2b(prog:Program)(w:World):PySem.KeyKind prog w Key where
 is:=Jj1
 hash:=keyH w
 inj:=fun v a b f hb=>by
  rcases J22 f with⟨i,t,rfl,rfl⟩|⟨x,t,rfl,rfl⟩
  .rcases J22 hb with⟨j,u,rfl,e⟩|⟨y,u,rfl,e⟩
   .injection e with e1 _;rw[e1]
   .show nomatch e
  .rcases J22 hb with⟨j,u,rfl,e⟩|⟨y,u,rfl,e⟩
   .show nomatch e
   .injection e with e1 _;rw[e1]
 byValue:=fun k v h=>by
  rcases J22 h with⟨i,t,rfl,rfl⟩|⟨x,t,rfl,rfl⟩ <;> rfl
 pyHash:=fun c h=>by
  rcases J22 c with⟨i,t,rfl,rfl⟩|⟨x,t,rfl,rfl⟩
  .show wpAny_pyHash_int h
  .show wpAny_pyHash_str h
 eqBool:=fun d c h=>by
  rcases J22 d with⟨i,t,rfl,rfl⟩|⟨x,t,rfl,rfl⟩
  .rcases J22 c with⟨j,u,rfl,rfl⟩|⟨y,u,rfl,rfl⟩
   .rw[key_ll] at h;show wpAny_eqBool_int h
   .rw[key_lr] at h;show SeqAt.EqAt.int_str i t y u _ _ _ _ h
  .rcases J22 c with⟨j,u,rfl,rfl⟩|⟨y,u,rfl,rfl⟩
   .rw[key_rl] at h;show SeqAt.EqAt.str_int x t j u _ _ _ _ h
   .rw[key_rr] at h;show wpAny_eqBool_str h
 «strs»:=fun k x t v h=>by
  rcases J22 h with⟨i,u,rfl,e⟩|⟨y,u,rfl,e⟩
  .show nomatch e
  .injection e with e1 _
   subst e1;cases v <;> rfl
theorem Jfi(prog:Program)(w:World)(i:Int)(t:Tok):(J2b prog w).is (.inl i) (.int i t)=true:=Jmc i t
theorem Jfh(prog:Program)(w:World)(x:Str)(t:Tok):(J2b prog w).is (.inr x) (.str x t)=true:=Jmb x t
inductive V where
 | non|bl (b:Bool)|int (i:Int)|str (x:Str)|byt (b:Array UInt8)|flt (b:UInt64)|ref (a:Addr)|ty (n:String)
 deriving DecidableEq
def RelV:V->Value->Prop
 | .non,u=>u=Value.none
 | .bl b,u=>u=Value.bool b
 | .int i,u=>∃t,u=Value.int i t
 | .str x,u=>∃t,u=Value.str x t
 | .byt b,u=>∃t,u=Value.bytes b t
 | .flt b,u=>∃t,u=Value.float b t
 | .ref a,u=>u=Value.ref a
 | .ty n,u=>u=Value.type n
abbrev Vals:List V->List Value->Prop:=Paired RelV
theorem Vals.length(r:Vals xs us):xs.length=us.length:=Paired.length r
theorem Vals.get:∀{xs:List V} {us:List Value} {i:Nat} {x:V},Vals xs us->xs[i]?=some x->∃u,us[i]?=some u/\RelV x u
 | _,_,_,_,.nil,e=>by simp at e
 | _,_,0,_,.cons r _,e=>by simp at e;subst e;show{_,rfl,r}
 | _,_,i+1,x,.cons _ t,e=>by
  let{u,b,a}:=Vals.get (i:=i) (x:=x) t (by simpa using e);show{u,by assumption,a}
theorem Vals.set(r:RelV x u):∀{xs:List V} {us:List Value} (i:Nat),Vals xs us->Vals (xs.set i x) (us.set i u)
 | _,_,_,.nil=>.nil
 | _,_,0,.cons _ t=>.cons r t
 | _,_,i+1,.cons q t=>.cons q (Vals.set r i t)
theorem Vals.append:∀{xs ys:List V} {us ws:List Value},Vals xs us->Vals ys ws->Vals (xs++ys) (us++ws)
 | _,_,_,_,.nil,s=>s
 | _,_,_,_,.cons r t,s=>.cons r (Vals.append t s)
theorem Vals.take:∀{xs:List V} {us:List Value} (n:Nat),Vals xs us->Vals (xs.take n) (us.take n)
 | _,_,0,_=>.nil
 | _,_,_+1,.nil=>.nil
 | _,_,n+1,.cons r t=>.cons r (Vals.take n t)
theorem Vals.drop:∀{xs:List V} {us:List Value} (n:Nat),Vals xs us->Vals (xs.drop n) (us.drop n)
 | _,_,0,r=>r
 | _,_,_+1,.nil=>.nil
 | _,_,n+1,.cons _ t=>Vals.drop n t
def RelO:Option V->Option Value->Prop
 | some v,some u=>RelV v u
 | none,none=>True
 | _,_=>False
def KV{κ:Type}:List (κ×V)->List (κ×Value)->Prop:=Paired fun(p:κ×V) (q:κ×Value)=>p.1=q.1/\RelV p.2 q.2
def kV:Key->V
 | .inl i=>.int i
 | .inr x=>.str x
inductive HO where
  | lst (xs:List V)
  | tup (xs:List V)
  | dK (kvs:List (Key×V))|dT (kvs:List (List Key×V))
  | set (S:Int->Bool) (n:Nat)
  | ins (C dx:Addr) (fs:List (Str×V))
  | own (x:Addr)
  | xd (fs:List (Str×V))
  | met (f x:Addr)
  | rng (lo hi:Int)
  | frz (o:Obj) (u:HO)
  | tbl (ps:Array Value)
  | ext (φ:Heap->Prop)
abbrev Hp:=Addr->Option HO
def upd(H:Hp)(a:Addr)(o:HO):Hp:=fun b=>if b=a then some o else H b
theorem J2 :upd H a o a=some o:=by unfold upd;rw[if_pos rfl]
theorem Jf(h:b≠a):upd H a o b=H b:=by unfold upd;rw[if_neg h]
theorem Jej :upd (upd H a o) a u=upd H a u:=by
 funext b;unfold upd;split <;> rfl
theorem Jqa{H:Hp}(h:H a=some o)(h':H b=some u)(d:o≠u):a≠b:=by
 intro e;subst e;rw[h] at h';show d (zV h')
theorem Ja{H:Hp}(h:H a=some o)(h':H b=none):a≠b:=by
 lia
section
variable(P:Program)(w:World)
def TupX(h:Heap)(a:Addr)(b:Array Value):Prop:=∃o,h.get? a=some o/\(o.cls=.type "tuple"/\o.dict=none)/\∃n,o.data=.seq b n
theorem TupX.tup(x:TupX h a items):IsTup h a items:=by let{o,e,c,r}:=x;show{o,e,c.1,r}
theorem TupX.lt(x:TupX h a items):a<h.objs.size:=by let{_,e,_}:=x;show zG e
theorem TupX.new(h:Heap)(a:Array Value):TupX (h.push { cls:=.type "tuple",data:=.seq a }) h.objs.size a:={_,zT _ rfl,{rfl,rfl},_,rfl}
def J2t(H:Hp)(h:Heap)(a:Addr):HO->Prop
 | .lst xs=>xs.length<=sizeLine/\∃(its:List Value) (n:Nat),Vals xs its/\h.get? a=some { cls:=.type "list",data:=.seq its.toArray n }
 | .tup xs=>xs.length<=sizeLine/\∃its:List Value,Vals xs its/\TupX h a its.toArray
 | .dK kvs=>kvs.length<=sizeLine/\(a==sysModules)=false/\∃vs,KV kvs vs/\h.DictOf (J2b P w) a vs
 | .dT kvs=>kvs.length<=sizeLine/\(a==sysModules)=false/\∃xs:List (List Key×Addr×Value),
   Paired (fun(p:List Key×V) (q:List Key×Addr×Value)=>p.1=q.1/\H q.2.1=some (.tup (p.1.map kV))/\RelV p.2 q.2.2) kvs xs/\
   ∃o es ep,h.get? a=some o/\o.ExactDict/\o.data=.dict es ep/\es.toList=xs.map (entryOfKey (tupleKind (J2b P w)))/\(xs.map (·.1)).Nodup
 | .set S n=>h.SetOf (intKind P w) a S n
 | .ins C dx fs=>H dx=some (.own a)/\fs.length<=1000/\dx≠a/\h.get? a=some (instObj C dx)/\
   ∃mA,h.Ns1 dx mA/\(∀f,RelO (fs.lookup f) (mA f))/\PySem.Within mA (fs.map (·.1))
 | .own _=>∃o,h.get? a=some o
 | .xd fs=>∃mA,h.Ns1 a mA/\∀f,RelO (fs.lookup f) (mA f)
 | .rng lo hi=>∃t u v,h.get? a=some { cls:=.type "range",data:=.fields #[.int lo t,.int hi u,.int 1 v] }
 | .frz o u=>h.get? a=some o/\J2t H h a u
 | .tbl ps=>h.get? a=some { cls:=.none,data:=.fields ps }
 | .met f x=>h.get? a=some (PySem.W.methodObj (.ref f) (.ref x))
 | .ext φ=>φ h/\(∃o,h.get? a=some o)/\∀h1 h2:Heap,φ h1->(∀o,h1.get? a=some o->h2.get? a=some o)->φ h2
def HOk(H:Hp)(h:Heap):Prop:=∀a o,H a=some o->J2t P w H h a o
end
section
variable{P:Program}{w:World}{H H':Hp}{h h':Heap}{a:Addr}{o:HO}
theorem J2t.lt(x:J2t P w H h a o):a<h.objs.size:=by
 cases o with
 | lst xs=>let{_,_,_,_,e}:=x;show zG e
 | tup xs=>let{_,_,_,p}:=x;show p.lt
 | dK kvs=>let{_,_,_,_,o,_,_,e,_}:=x;show zG e
 | dT kvs=>let{_,_,_,_,o,_,_,e,_}:=x;show zG e
 | set S n=>let{o,_,_,_,e,_}:=x;show zG e
 | ins C dx fs=>let{_,_,_,e,_}:=x;show zG e
 | own y=>let{_,e}:=x;show zG e
 | xd fs=>let{_,{_,_,_,e,_},_}:=x;show zG e
 | rng lo hi=>let{_,_,_,e}:=x;show zG e
 | frz ob u=>let{e,_}:=x;show zG e
 | tbl ps=>show zG (show h.get? a=some _ from x)
 | met f y=>show zG (show h.get? a=some _ from x)
 | ext φ=>let{_,{_,e},_}:=x;show zG e
theorem Paired.mapP :∀{c:List α} {l₂:List β},Paired F c l₂->(∀a b,F a b->G a b)->Paired G c l₂
 | _,_,.nil,_=>.nil
 | _,_,.cons r t,f=>.cons (f _ _ r) (Paired.mapP t f)
theorem J2t.stay(x:J2t P w H h a o)(k:∀b u,(b=a\/H b=some (.own a))->h.get? b=some u->h'.get? b=some u)(s:∀b,H b=some (.own a)->H' b=some (.own a))(m:∀b xs,H b=some (.tup xs)->H' b=some (.tup xs)):J2t P w H' h' a o:=by
 induction o with
 | lst xs=>let{z,its,n,r,e}:=x;show{z,its,n,r,k _ _ (.inl rfl) e}
 | tup xs=>let{z,its,r,g,e,c}:=x;show{z,its,r,g,k _ _ (.inl rfl) e,c}
 | dK kvs=>let{z,y,vs,r,g,i,ep,e,c}:=x;show{z,y,vs,r,g,i,ep,k _ _ (.inl rfl) e,c}
 | dT kvs =>
  let{z,y,xs,r,g,i,ep,e,c}:=x;show{z,y,xs,Paired.mapP r fun p q z=>{z.1,m _ _ z.2.1,z.2.2},g,i,ep,k _ _ (.inl rfl) e,c}
 | set S n=>let{g,i,ep,t,e,c}:=x;show{g,i,ep,t,k _ _ (.inl rfl) e,c}
 | ins C dx fs =>
  let{d,z,ne,e,l,{j,i,ep,A,c},r}:=x;show{s _ d,z,ne,k _ _ (.inl rfl) e,l,{j,i,ep,k _ _ (.inr d) A,c},r}
 | own y=>let{g,e}:=x;show{g,k _ _ (.inl rfl) e}
 | xd fs=>let{l,{j,i,ep,e,c},r}:=x;show{l,{j,i,ep,k _ _ (.inl rfl) e,c},r}
 | rng lo hi=>let{t,u,v,e}:=x;show{t,u,v,k _ _ (.inl rfl) e}
 | frz g u ih=>let{e,q}:=x;show{k _ _ (.inl rfl) e,ih q}
 | tbl ps =>
  have e:=x;show k a _ (.inl rfl) e
 | met f y =>
  have e:=x;show k a _ (.inl rfl) e
 | ext φ=>let{p,{o,e},st}:=x;show{st _ _ p fun o q=>k _ _ (.inl rfl) q,{o,k _ _ (.inl rfl) e},st}
theorem HOk.lt(x:HOk P w H h)(e:H a=some o):a<h.objs.size:=(x a o e).lt
theorem HOk.fresh(x:HOk P w H h)(e:h.objs.size<=a):H a=none:=by
 cases q:H a with
 | none=>rfl
 | some u=>show absurd (yB (x.lt q) e) (wQ _)
theorem HOk.kept(x:HOk P w H h)(k:∀b u,h.get? b=some u->h'.get? b=some u):HOk P w H h':=fun a o e =>
 (x a o e).stay (fun b u _ q=>k b u q) (fun _ q=>q) fun _ _ q=>q
theorem HOk.laid(x:HOk P w H h)(k:∀b u,h.get? b=some u->h'.get? b=some u)(f:h.objs.size<=a)(new:J2t P w (upd H a o) h' a o):HOk P w (upd H a o) h':=fun b u e=>by
 have d:=x.fresh f;by_cases hb:b=a
 .subst hb;rw[J2] at e;cases e;show new
 .rw[Jf hb] at e;show(x b u e).stay (fun c v _ q=>k c v q) (fun c q=>by rw[Jf (Ja q d)];show q) fun c xs q=>by rw[Jf (Ja q d)];show q
end
def Rd(H:Hp)(a:Addr)(u:HO):Prop:=H a=some u\/∃o,H a=some (.frz o u)
theorem Rd.ok(r:Rd H a u)(x:HOk P w H h):J2t P w H h a u:=by
 rcases r with r|⟨o,r⟩
 .show x a u r
 .let{_,q}:=x a _ r;show q
def Mut:Option HO->Prop
 | some (.lst _)=>True
 | some (.dK _)=>True
 | some (.dT _)=>True
 | some (.set _ _)=>True
 | some (.ins _ _ _)=>True
 | some (.ext _)=>True
 | _=>False
section
variable{P:Program}{w:World}{H:Hp}{h h':Heap}{x e:Addr}{o':HO}
theorem HOk.write(ok:HOk P w H h)(mu:Mut (H x))(l:e=x\/H e=some (.own x))(k:∀b u,b≠e->h.get? b=some u->h'.get? b=some u)(i:∃u,h'.get? e=some u)(new:J2t P w (upd H x o') h' x o'):HOk P w (upd H x o') h':=fun b u q=>by
 have d:∀c y,H c=some (.own y)->c≠x:=fun c y r z=>by subst z;rw[r] at mu;show mu
 have f:∀c xs,H c=some (.tup xs)->c≠x:=fun c xs r z=>by subst z;rw[r] at mu;show mu
 by_cases hb:b=x
 .subst hb;rw[J2] at q;cases q;show new
 .rw[Jf hb] at q;by_cases a:b=e
  .have j:H b=some (.own x):=by
    rcases l with z|z
    .show absurd (a.trans z) hb
    .rw[a];show z
   rw[q] at j;cases j;let{v,m}:=i;show{v,by rw[a];show m}
  .show(ok b u q).stay (fun c v g r=>k c v ?_ r) (fun c r=>by rw[Jf (d c b r)];show r) fun c xs r=>by rw[Jf (f c xs r)];show r
   rcases g with rfl|g
   .show a
   .rintro rfl;rcases l with z|z
    .show d c b g z
    .rw[g] at z;cases z;show hb rfl
end
structure Un(fs ex:List Addr)(H H':Hp)(h h':Heap):Prop where
 keep:∀b o,h.get? b=some o->H b=none->b ∉ fs->b ∉ ex->h'.get? b=some o
 slot:∀b o,h.get? b=some o->H b=none->b∈fs->b ∉ ex->∃sl,h'.get? b=some { o with slots:=sl }
 free:∀b o,h.get? b=some o->H b=none->b ∉ ex->H' b=none
 there:∀b o,h.get? b=some o->b ∉ ex->∃o',h'.get? b=some o'
 tups:∀b xs,H b=some (.tup xs)->H' b=some (.tup xs)
 frzs:∀b o u,H b=some (.frz o u)->H' b=some (.frz o u)
 tbls:∀b ps,H b=some (.tbl ps)->∃more,H' b=some (.tbl (ps++more))
section
variable{fs fs' ex ex':List Addr}{H H1 H2:Hp}{h h1 h2 h':Heap}{a x e:Addr}{o:HO}
theorem Un.any(u:Un fs ex H H1 h h1)(q:h.get? b=some ob)(n:H b=none)(a:b ∉ ex):∃c,h1.get? b=some { ob with slots:=c }:=by
 by_cases hb:b∈fs
 .show u.slot b ob q n hb a
 .show{ob.slots,u.keep b ob q n hb a}
theorem Un.kept(k:∀b u,h.get? b=some u->h'.get? b=some u):Un fs ex H H h h':=
 {fun b a q _ _ _=>k b a q,fun b a q _ _ _=>{a.slots,k b a q},fun _ _ _ n _=>n,fun b a q _=>{a,k b a q},fun _ _ q=>q,fun _ _ _ q=>q,fun _ ps q=>{#[],by rw[q];simp}}
theorem Un.refl:Un fs ex H H h h:=Un.kept fun _ _ q=>q
theorem Un.laid(k:∀b u,h.get? b=some u->h'.get? b=some u)(d:h.objs.size<=a)(c:H a=none):Un fs ex H (upd H a o) h h' where
 keep:=fun b u q _ _ _=>k b u q
 slot:=fun b u q _ _ _=>{u.slots,k b u q}
 free:=fun b u q n _=>by rw[Jf (zQ (yB (zG q) d))];show n
 there:=fun b u q _=>{u,k b u q}
 tups:=fun b xs q=>by rw[Jf (Ja q c)];show q
 frzs:=fun b u xs q=>by rw[Jf (Ja q c)];show q
 tbls:=fun b ps q=>{#[],by rw[Jf (Ja q c),q];simp}
theorem Un.write(mu:Mut (H x))(i:e=x\/H e=some (.own x))(k:∀b u,b≠e->h.get? b=some u->h'.get? b=some u)(d:∃u,h'.get? e=some u):Un fs ex H (upd H x o) h h':=by
 have g:∀b,H b=none->b≠x:=fun b n z=>by subst z;rw[n] at mu;show mu
 have hb:∀b,H b=none->b≠e:=fun b n z=>by
  simp_all
 have c:∀b u,H b=some u->¬ Mut (some u)->b≠x:=fun b u q f z=>by subst z;rw[q] at mu;show f mu
 show{fun b u q n _ _=>k b u (hb b n) q,fun b u q n _ _=>{u.slots,k b u (hb b n) q},fun b u q n _=>by rw[Jf (g b n)];show n,fun b u q _=>?_,
  fun b xs q=>by rw[Jf (c b _ q fun z=>z)];show q,fun b u xs q=>by rw[Jf (c b _ q fun z=>z)];show q,fun b ps q=>{#[],by rw[Jf (c b _ q fun z=>z),q];simp}}
 by_cases a:b=e
 .subst a;show d
 .show{u,k b u a q}
end
def trk(h:Heap)(H:Hp):List Addr:=(List.range h.objs.size).filter fun a=>(H a).isSome
def hidT(h:Heap)(H:Hp):Heap:=PySem.W.hideAll h (trk h H)
theorem Jmn(h:Heap)(H:Hp):(hidT h H).objs.size=h.objs.size:=PySem.W.hideAll_size _ _
theorem Jc5(e:h.get? b=some o)(n:H b=none):(hidT h H).get? b=some o:=
 PySem.W.hideAll_get _ e fun a=>by
  have q:=(zX.mp a).2;rw[n] at q;simp at q
theorem Jtw(e:(hidT h H).get? b=some o):h.get? b=some o/\H b=none:=by
 have a:=PySem.W.of_hideAll (trk h H) e;show{a,?_}
 cases q:H b with
 | none=>rfl
 | some x =>
  have c:b∈trk h H:=zX.mpr {zR.mpr (zG a),by simp[q]};have z:(hidT h H).get? b=none:=PySem.W.hideAll_none (trk h H) c;rw[z] at e;cases e
structure Mod(K:Frag)(mg:Str->Option Value)(base:Heap):Prop where
 kin:K.In base
 glob:base.Ns mainGlobals mg
 blt:∃mb,base.Ns builtinsNs mb/\∀x:Str,x≠"__name__"->mb x=bootBuiltins x
 nolimit:base.NoLimit
structure Cx where
 prog:Program
 w:World
 K:Frag
 mg:Str->Option Value
 base:Heap
 A:Around
 N:List Str
 s₀:Shared
 H₀:Hp
 env:Env
 outer:List Env
 stack:List Env
 ex:List Addr
 fn:Str->Bool
 calm:Bool
 pn:List (Addr×Obj)
 xe:Value->Shared->Prop
def frs(l:List Env):List Addr:=l.filterMap (·.frame)
abbrev Cx.fs(X:Cx):List Addr:=frs X.outer
def Vis(a:Scope)(x:Str):Prop:=a.names.lookup x=some .local\/a.names.lookup x=some .cell\/a.names.lookup x=some .free
def Loc(a:Scope)(x:Str):Prop:=a.names.lookup x=some .local\/a.names.lookup x=some .cell
def Look(env:Env)(h:Heap)(m:Str->Option Value)(x:Str)(u:Value):Prop:=
 (env.kindOf x=some .local/\m x=some u)\/((env.kindOf x=some .cell\/env.kindOf x=some .free)/\∃c,env.cells.lookup x=some c/\h.IsCell c (some u))
structure Cx.Ok(X:Cx):Prop where
 mod:Mod X.K X.mg X.base
 kind:X.env.scope.kind=.function
 glob:X.env.globals=mainGlobals
 blt:X.env.builtins=builtinsNs
 above:X.s₀.heap.objs.size<=X.env.locals
 inj:∀x y c,X.env.cells.lookup x=some c->X.env.cells.lookup y=some c->x=y
 has:∀x,(X.env.kindOf x=some .cell\/X.env.kindOf x=some .free)->∃c,X.env.cells.lookup x=some c
 cab:∀x c,X.fn x=true->X.env.cells.lookup x=some c->X.s₀.heap.objs.size<=c
 hd:X.calm=true->X.A.handled=none
 frames:X.A.frames=some X.stack
 stk:X.stack=X.outer\/(X.stack=X.env::X.outer/\X.env.frame=some X.env.locals)
 exf:∀b∈X.ex,b≠X.env.locals/\∀x c,X.env.cells.lookup x=some c->c≠b
 bs:∀b o,X.base.get? b=some o->X.s₀.heap.get? b=some o/\X.H₀ b=none
 bsz:X.base.objs.size<=X.s₀.heap.objs.size
 noex:∀b o,X.base.get? b=some o->b ∉ X.ex
 exfs:∀b∈X.ex,b ∉ X.fs
 funs:X.s₀.heap.FunFrames X.base X.outer
 frf:∀b∈X.fs,X.H₀ b=none
structure Inv(X:Cx)(pins:List (Addr×Obj))(σ:List (Option V))(H:Hp)(s:Shared):Prop where
 ok:X.Ok
 os:s.os=X.s₀.os
 bare:AllBare s.gens
 base:Un X.fs X.ex X.H₀ H X.s₀.heap s.heap
 loc:∃m,s.heap.Ns X.env.locals m/\∀(i:Nat) (x:Str) (v:V),X.N[i]?=some x->σ[i]?=some (some v)->Vis X.env.scope x->∃u,RelV v u/\Look X.env s.heap m x u
 cell:∀x c,X.env.cells.lookup x=some c->∃v,s.heap.IsCell c v
 free:H X.env.locals=none
 freeC:∀x c,X.env.cells.lookup x=some c->H c=none
 pin:∀p∈X.pn++pins,s.heap.get? p.1=some p.2/\H p.1=none/\p.1≠X.env.locals/\p.1 ∉ X.fs/\∀v,p.2.data≠.cell v
 hok:HOk X.prog X.w H s.heap
 len:σ.length=X.N.length
section
variable{X:Cx}{pins:List (Addr×Obj)}{σ:List (Option V)}{H H':Hp}{s:Shared}{h':Heap}
theorem Cx.Ok.nofr(ok:X.Ok)(e:X.base.get? b=some o):b ∉ X.fs:=fun hb=>by
 have:=(ok.funs.mem hb).1
 grind
theorem Inv.bs(I:Inv X pins σ H s):∀b o,X.base.get? b=some o->s.heap.get? b=some o/\H b=none:=fun b o e =>
 {I.base.keep b o (I.ok.bs b o e).1 (I.ok.bs b o e).2 (I.ok.nofr e) (I.ok.noex b o e),I.base.free b o (I.ok.bs b o e).1 (I.ok.bs b o e).2 (I.ok.noex b o e)}
theorem Inv.bk(I:Inv X pins σ H s):∀b o,X.base.get? b=some o->s.heap.get? b=some o:=fun b o e=>(I.bs b o e).1
theorem Inv.mod(I:Inv X pins σ H s):Mod X.K X.mg X.base:=I.ok.mod
theorem Inv.kIn(I:Inv X pins σ H s):X.K.In s.heap:=I.ok.mod.kin.keeps I.bk
theorem Inv.fr(I:Inv X pins σ H s):∃m,Fr X.base X.env.locals s.heap m:=
 let ⟨m,hn,_⟩:=I.loc
 {m,hn,I.bk,zM I.ok.bsz I.ok.above}
theorem Inv.lt(I:Inv X pins σ H s):X.env.locals<s.heap.objs.size:=by let{_,a,_}:=I.loc;show a.lt
theorem Inv.sz(I:Inv X pins σ H s):X.s₀.heap.objs.size<=s.heap.objs.size:=zM I.ok.above (yJ I.lt)
theorem Inv.nofs(I:Inv X pins σ H s)(h:s.heap.objs.size<=a):a ∉ X.fs:=fun hb=>by
 let{_,o,b,_}:=I.ok.funs.mem hb;show absurd (yB (zG b) (zM I.sz h)) (wQ _)
theorem Inv.cne(I:Inv X pins σ H s):∀x c,X.env.cells.lookup x=some c->c≠X.env.locals:=fun x c e z=>by
 let{v,o,f,hd}:=I.cell x c e;let{m,{d,g,ep,a,b,_},_}:=I.loc
 grind
theorem Inv.funs(I:Inv X pins σ H s):s.heap.FunFrames X.base X.outer:=by
 have all:∀(l:List Env),(∀b∈frs l,b∈X.fs)->X.s₀.heap.FunFrames X.base l->s.heap.FunFrames X.base l:=by
  intro l
  induction l with
  | nil=>intro _ _;trivial
  | cons env r ih =>
   intro d i;let{j,{L,o,a,h,g,hd},f}:=i;have c:=d L (by unfold frs;rw[List.filterMap_cons,a];show zJ);let{m,e}:=I.base.slot L o g (I.ok.frf L c) c fun z=>I.ok.exfs L z c;show{j,{L,_,a,h,e,hd},ih (fun b hb=>d b (by unfold frs;rw[List.filterMap_cons,a];show zK _ hb)) f}
 show all X.outer (fun _ hb=>hb) I.ok.funs
theorem Inv.stack(I:Inv X pins σ H s):s.heap.FunFrames X.base X.stack:=by
 rcases I.ok.stk with e|⟨e,hf⟩
 .rw[e];show I.funs
 .rw[e];let{m,a,_}:=I.loc;show .cons (by rw[I.ok.kind];decide) hf a ?_ I.funs;show Heap.get?_none_of_le (zM I.ok.bsz I.ok.above)
theorem Inv.stkSub(I:Inv X pins σ H s):∀b∈frs X.stack,b∈X.env.locals::X.fs:=fun b hb=>by
 rcases I.ok.stk with e|⟨e,hf⟩
 .simp_all
 .rw[e] at hb;unfold frs at hb;rw[List.filterMap_cons,hf] at hb;show hb
theorem Inv.stkFree(I:Inv X pins σ H s):∀b∈frs X.stack,H b=none:=fun b hb=>by
 rcases zI.mp (I.stkSub b hb) with e|hb
 .rw[e];show I.free
 .let{_,o,a,_}:=I.ok.funs.mem hb;show I.base.free b o a (I.ok.frf b hb) fun z=>I.ok.exfs b z hb
theorem Inv.step{ch:List Addr}(I:Inv X pins σ H s)(g:∀b∈ch,(b∈X.ex\/X.s₀.heap.objs.size<=b)/\b≠X.env.locals/\(∀x c,X.env.cells.lookup x=some c->c≠b)/\∀p∈X.pn++pins,p.1≠b)(keep:∀b o,b≠X.env.locals->b ∉ X.fs->b ∉ ch->s.heap.get? b=some o->H b=none->h'.get? b=some o)(slot:∀b o,b≠X.env.locals->b∈X.fs->b ∉ ch->s.heap.get? b=some o->H b=none->∃G,h'.get? b=some { o with slots:=G })(free:∀b o,b ∉ ch->s.heap.get? b=some o->H b=none->H' b=none)(there:∀b o,b ∉ ch->s.heap.get? b=some o->∃B,h'.get? b=some B)(tups:∀b xs,H b=some (.tup xs)->H' b=some (.tup xs))(frzs:∀b o u,H b=some (.frz o u)->H' b=some (.frz o u))(tbls:∀b ps,H b=some (.tbl ps)->∃D,H' b=some (.tbl (ps++D)))(ns:∀m,s.heap.Ns X.env.locals m->h'.Ns X.env.locals m)(hok:HOk X.prog X.w H' h')(Q:AllBare g'):
  Inv X pins σ H' { s with heap:=h',gens:=g',drawn:=d',toks:=t' }:=by
 have C:∀b o,X.s₀.heap.get? b=some o->b≠X.env.locals:=fun b o e=>zQ (yB (zG e) I.ok.above);have j:∀b o,X.s₀.heap.get? b=some o->b ∉ X.ex->b ∉ ch:=fun b o e a hb=>by
  rcases(g b hb).1 with z|z
  .show a z
  .show absurd (yB (zG e) z) (wQ _)
 have h:∀x c,X.env.cells.lookup x=some c->∀v,s.heap.IsCell c v->h'.IsCell c v:=fun x c e v R=>by
  let{o,A,hd}:=R;have f:=fun z=>(g c z).2.2.1 x c e rfl;by_cases L:c∈X.fs
  .let{G,q}:=slot c o (I.cne x c e) L f A (I.freeC x c e);show{_,q,hd}
  .show{o,keep c o (I.cne x c e) L f A (I.freeC x c e),hd}
 show{I.ok,I.os,Q,{fun b o e n hb a=>?_,fun b o e n hb a=>?_,fun b o e n a=>?_,fun b o e a=>?_,fun b xs e=>tups b xs (I.base.tups b xs e),fun b o xs e=>frzs b o xs (I.base.frzs b o xs e),fun b ps e=>?_},?_,fun x c e=>?_,?_,fun x c e=>?_,fun p K=>?_,hok,I.len}
 .show keep b o (C b o e) hb (j b o e a) (I.base.keep b o e n hb a) (I.base.free b o e n a)
 .let{G,y}:=I.base.slot b o e n hb a;let{F,E}:=slot b _ (C b o e) hb (j b o e a) y (I.base.free b o e n a);show{F,E}
 .let{B,y}:=I.base.there b o e a;show free b B (j b o e a) y (I.base.free b o e n a)
 .let{B,y}:=I.base.there b o e a;show there b B (j b o e a) y
 .let{N,y}:=I.base.tbls b ps e;let{M,E}:=tbls b _ y;show{N++M,by rw[E,Array.append_assoc]}
 .let{m,O,P}:=I.loc;show{m,ns m O,fun i x v y E S=>?_};let{u,r,l}:=P i x v y E S;show{u,r,?_};rcases l with l|⟨k,c,e,z⟩
  .show .inl l
  .show .inr {k,c,e,h x c e _ z}
 .let{v,z}:=I.cell x c e;show{v,h x c e v z}
 .let{m,{o,_,_,A,_},_}:=I.loc;show free _ o (fun z=>(g _ z).2.1 rfl) A I.free
 .let{v,o,A,hd}:=I.cell x c e;show free c o (fun z=>(g c z).2.2.1 x c e rfl) A (I.freeC x c e)
 .let{e,n,ne,J,d}:=I.pin p K;have f:=fun z=>(g p.1 z).2.2.2 p K rfl;show{keep p.1 p.2 ne J f e n,free p.1 p.2 f e n,ne,J,d}
theorem Inv.un(I:Inv X pins σ H s)(u:Un X.fs [] H H' s.heap h')(hok:HOk X.prog X.w H' h'):Inv X pins σ H' { s with heap:=h',toks:=t' }:=by
 let{m,{o,q,ep,f,r},_}:=id I.loc;let{j,i}:=u.any f I.free (by simp);show I.step (g':=s.gens) (d':=s.drawn) (ch:=[]) (fun _ z=>nomatch z) (fun b o _ hb _ e n=>u.keep b o e n hb (by simp)) (fun b o _ hb _ e n=>u.slot b o e n hb (by simp)) (fun b o _ e n=>u.free b o e n (by simp)) (fun b o _ e=>u.there b o e (by simp)) u.tups u.frzs u.tbls (fun p h=>by
  let{l,c,d,a,g}:=h;rw[f] at a;cases a;show{_,c,d,i,g}) hok I.bare
theorem Inv.call(I:Inv X pins σ H s)(u:Un (frs X.stack) ch H H' s.heap h')(hok:HOk X.prog X.w H' h')(v:AllBare g')(f:∀b∈ch,(b∈X.ex\/X.s₀.heap.objs.size<=b)/\b≠X.env.locals/\(∀x c,X.env.cells.lookup x=some c->c≠b)/\∀p∈X.pn++pins,p.1≠b):
  Inv X pins σ H' { s with heap:=h',gens:=g',drawn:=d',toks:=t' }:=by
 let{m,{o,C,ep,j,r},_}:=id I.loc;let{y,g}:=u.any j I.free fun z=>(f _ z).2.1 rfl;show I.step (ch:=ch) f (fun b o g hb a e n=>u.keep b o e n (fun z=>(zI.mp (I.stkSub b z)).elim g hb) a) (fun b o _ _ a e n=>u.any e n a) (fun b o a e n=>u.free b o e n a) (fun b o a e=>u.there b o e a) u.tups u.frzs u.tbls (fun B q=>by
  let{A,h,i,d,l}:=q;rw[j] at d;cases d;show{_,h,i,g,l}) hok v
theorem Inv.turned{t':Nat}{it:Addr}(I:Inv X pins σ H s)(k:∀b o,b≠it->s.heap.get? b=some o->h'.get? b=some o)(h:H it=none)(f:it≠X.env.locals)(w:it∈X.ex\/X.s₀.heap.objs.size<=it)(l:∀x c,X.env.cells.lookup x=some c->c≠it)(j:∀p∈X.pn++pins,p.1≠it):Inv X pins σ H { s with heap:=h',toks:=t' }:=by
 have d:∀b u,H b=some u->b≠it:=fun b u e z=>by rw[z,h] at e;cases e
 show I.step (g':=s.gens) (d':=s.drawn) (ch:=[it]) (fun b hb=>?_) (fun b o _ _ a e _=>k b o (fun z=>a (by simp[z])) e) (fun b o _ _ a e _=>{o.slots,k b o (fun z=>a (by simp[z])) e}) (fun _ _ _ _ n=>n)
  (fun b o a e=>{o,k b o (fun z=>a (by simp[z])) e}) (fun _ _ e=>e) (fun _ _ _ e=>e) (fun b ps e=>{#[],by rw[e];simp}) (fun m i=>?_) (fun b u e=>?_) I.bare
 .have e:b=it:=by simpa using hb
  subst e;show{w,f,l,j}
 .let{o,y,ep,g,r}:=i;show{o,y,ep,k _ o (Ne.symm f) g,r}
 .show(I.hok b u e).stay (fun c v a q=>k c v ?_ q) (fun _ q=>q) fun _ _ q=>q;rcases a with z|z
  .rw[z];show d b u e
  .show d c _ z
theorem Inv.tok(I:Inv X pins σ H s)(t:Nat):Inv X pins σ H { s with toks:=t }:=I.un (h':=s.heap) (t':=t) Un.refl I.hok
theorem Inv.kept(I:Inv X pins σ H s)(k:∀b u,s.heap.get? b=some u->h'.get? b=some u):Inv X pins σ H { s with heap:=h',toks:=t' }:=I.un (Un.kept k) (I.hok.kept k)
theorem Inv.laid(I:Inv X pins σ H s)(k:∀b u,s.heap.get? b=some u->h'.get? b=some u)(c:s.heap.objs.size<=a)(new:J2t X.prog X.w (upd H a o) h' a o):
  Inv X pins σ (upd H a o) { s with heap:=h',toks:=t' }:=I.un (Un.laid k c (I.hok.fresh c)) (I.hok.laid k c new)
theorem Inv.write(I:Inv X pins σ H s)(mu:Mut (H x))(c:e=x\/H e=some (.own x))(k:∀b u,b≠e->s.heap.get? b=some u->h'.get? b=some u)(a:∃u,h'.get? e=some u)(new:J2t X.prog X.w (upd H x o) h' x o):Inv X pins σ (upd H x o) { s with heap:=h',toks:=t' }:=I.un (Un.write mu c k a) (I.hok.write mu c k a new)
theorem Inv.pins_of(I:Inv X pins σ H s)(h:∀p∈pins',s.heap.get? p.1=some p.2/\H p.1=none/\p.1≠X.env.locals/\p.1 ∉ X.fs/\∀v,p.2.data≠.cell v):Inv X pins' σ H s:=
 {I.ok,I.os,I.bare,I.base,I.loc,I.cell,I.free,I.freeC,fun p a=>(yF.mp a).elim (fun z=>I.pin p (yT _ z)) (h p),I.hok,I.len}
theorem Jh7{N:List Str}(c:N.Nodup){i:Nat}(a:N[i]?=some x)(b:N[j]?=some x):i=j:=by
 let{g,e}:=wP.mp a;let{f,d}:=wP.mp b;show(getElem_inj c).mp (e.trans d.symm)
theorem J8u(I:Inv X pins σ H s)(hN:X.N.Nodup)(hi:X.N[i]?=some x)(C:Loc X.env.scope x)(r:RelV v u)(h:∀s',Inv X pins (σ.set i (some v)) H s'->(∃a,Heap.SameBut a s.heap s'.heap/\(a=X.env.locals\/X.env.cells.lookup x=some a))->Q Unit.unit s')(hf:X.fn x=true\/X.env.scope.names.lookup x=some .local:=by first|show .inl rfl|show .inr rfl|assumption):wpAny M A (storeName X.env x u) Q E s:=by
 let{m,hn,hl}:=id I.loc;have P:(X.env.scope.kind == .class || (X.env.scope.kind == .module&&X.env.locals != X.env.globals))=false:=by rw[I.ok.kind];rfl
 have O:i<σ.length:=by rw[I.len];show(gSm hi)
 have cne:=I.cne;have g:∀{a:Addr} {h':Heap},(∃o,s.heap.get? a=some o/\H a=none)->Heap.SameBut a s.heap h'->HOk X.prog X.w H h':=fun {a h'} ha f b ob e=>by
  let{_,_,D}:=ha;show(I.hok b ob e).stay (fun c T B q=>(f.2 c ?_).trans q) (fun _ q=>q) fun _ _ q=>q;rintro rfl;rcases B with rfl|B
  .rw[D] at e;cases e
  .rw[D] at B;cases B
 rcases C with hk|hk
 .show wpAny_storeName_local hk hn (fun h' ab f=>?_) P;let{oL,_,_,aa,_}:=id hn;show h _ {I.ok,I.os,I.bare,{fun b o e n hb C=>?_,fun b o e n hb C=>?_,I.base.free,fun b o e C=>?_,I.base.tups,I.base.frzs,I.base.tbls},{_,ab,fun j y U l F e3=>?_},fun y c e=>?_,I.free,I.freeC,fun p hp=>?_,g {oL,aa,I.free} f,by simpa using I.len} {_,f,.inl rfl}
  .show(f.2 b (zQ (yB (zG e) I.ok.above))).trans (I.base.keep b o e n hb C)
  .let{Y,l}:=I.base.slot b o e n hb C;show{Y,(f.2 b (zQ (yB (zG e) I.ok.above))).trans l}
  .let{o',l}:=I.base.there b o e C;show{o',(f.2 b (zQ (yB (zG e) I.ok.above))).trans l}
  .by_cases G:j=i
   .subst G;rw[hi] at l;cases l;rw[List.getElem?_set_self O] at F;cases F;show{u,r,.inl {hk,by simp}}
   .rw[uI (Ne.symm G)] at F;let{W,Z,q}:=hl j y U l F e3;show{W,Z,?_};rcases q with⟨k,e⟩|⟨k,c,e,z⟩
    .show .inl {k,?_};have:y≠x:=fun e=>G (Jh7 hN l (e▸hi));simp[this,e]
    .show .inr {k,c,e,z.sameBut f (cne y c e)}
  .let{T,z}:=I.cell y c e;show{T,z.sameBut f (cne y c e)}
  .let{e,n,ne,nf,d}:=I.pin p hp;show{(f.2 p.1 ne).trans e,n,ne,nf,d}
 .have J:X.fn x=true:=by
   rcases hf with z|z
   .show z
   .rw[z] at hk;cases hk
  let{c,B}:=I.ok.has x (.inl hk);let{T,z}:=I.cell x c B;show wpAny_storeName_cell I.ok.kind hk B z (fun h' S f=>?_);let{oc,L,K}:=id z;show h { s with heap:=h' } {I.ok,I.os,I.bare,{fun b o e n hb C=>?_,fun b o e n hb C=>?_,I.base.free,fun b o e C=>?_,I.base.tups,I.base.frzs,I.base.tbls},{m,hn.sameBut f (Ne.symm (cne x c B)),fun j y U l F e3=>?_},fun y c' e=>?_,I.free,I.freeC,fun p hp=>?_,g {oc,L,I.freeC x c B} f,by simpa using I.len} {c,f,.inr B}
  .show(f.2 b (zQ (yB (zG e) (I.ok.cab x c J B)))).trans (I.base.keep b o e n hb C)
  .let{Y,l}:=I.base.slot b o e n hb C;show{Y,(f.2 b (zQ (yB (zG e) (I.ok.cab x c J B)))).trans l}
  .let{o',l}:=I.base.there b o e C;show{o',(f.2 b (zQ (yB (zG e) (I.ok.cab x c J B)))).trans l}
  .by_cases G:j=i
   .subst G;rw[hi] at l;cases l;rw[List.getElem?_set_self O] at F;cases F;show{u,r,.inr {.inl hk,c,B,S}}
   .rw[uI (Ne.symm G)] at F;let{W,Z,q}:=hl j y U l F e3;show{W,Z,?_};rcases q with q|⟨k,c',e,z'⟩
    .show .inl q
    .show .inr {k,c',e,z'.sameBut f ?_};rintro rfl;show G (Jh7 hN l (I.ok.inj _ _ _ e B▸hi))
  .by_cases R:c'=c
   .subst R;show{_,S}
   .let{w2,z2}:=I.cell y c' e;show{w2,z2.sameBut f R}
  .let{e,n,ne,nf,d}:=I.pin p hp;show{(f.2 p.1 ?_).trans e,n,ne,nf,d};intro q;rw[q,L] at e;have q':=zV e;show d T (by rw[<- q'];show K)
theorem Jg9{M:Model}{A:Around}{E:Value->Shared->Prop}{i:Nat}{x:Str}{v:V}{u:Value}{Q:Unit->Shared->Prop}(I:Inv X pins σ H s)(c:X.N.Nodup)(hi:X.N[i]?=some x)(a:Loc X.env.scope x)(r:RelV v u)(h:∀s',Inv X pins (σ.set i (some v)) H s'->Q Unit.unit s')(b:X.fn x=true\/X.env.scope.names.lookup x=some .local:=by first|show .inl rfl|show .inr rfl|assumption):wpAny M A (storeName X.env x u) Q E s:=
 J8u I c hi a r (fun s' d _=>h s' d) b
theorem Inv.call'(I:Inv X pins σ H s)(d:s'.os=s.os)(u:Un (frs X.stack) ch H H' s.heap s'.heap)(hok:HOk X.prog X.w H' s'.heap)(f:AllBare s'.gens)(a:∀b∈ch,(b∈X.ex\/X.s₀.heap.objs.size<=b)/\b≠X.env.locals/\(∀x c,X.env.cells.lookup x=some c->c≠b)/\∀p∈X.pn++pins,p.1≠b):Inv X pins σ H' s':=by
 let{h',g',d',t',g}:=s';have e:=d;subst e;show I.call (g':=g') (t':=t') (d':=d') u hok f a
end
abbrev XK:=Value->Option Addr->Hp->Prop
abbrev St:=List (Option V)
abbrev VK:=V->Hp->Prop
abbrev TE:=St->Hp->VK->Prop
abbrev TT:=St->Hp->(Bool->Hp->Prop)->Prop
abbrev TA:=St->Hp->(List V->Hp->Prop)->Prop
structure Ends where
 nx:St->Hp->Prop
 rt:VK
 bk:St->Hp->Prop:=fun _ _=>False
 ct:St->Hp->Prop:=fun _ _=>False
abbrev TS:=Ends->St->Hp->Prop
def EP(X:Cx)(pins:List (Addr×Obj))(σ:St)(Q:VK)(u:Value)(s':Shared):Prop:=∃v a,Inv X pins σ a s'/\RelV v u/\Q v a
def TP(X:Cx)(pins:List (Addr×Obj))(σ:St)(Q:Bool->Hp->Prop)(b:Bool)(s':Shared):Prop:=∃a,Inv X pins σ a s'/\Q b a
def AP(X:Cx)(pins:List (Addr×Obj))(σ:St)(Q:List V->Hp->Prop)(us:List Value)(s':Shared):Prop:=∃vs a,Inv X pins σ a s'/\Vals vs us/\Q vs a
def SP(X:Cx)(pins:List (Addr×Obj))(D:Ends)(f:Flow)(s':Shared):Prop:=
 match f with
 | .next=>∃σ' H',Inv X pins σ' H' s'/\D.nx σ' H'
 | .brk=>∃σ' H',Inv X pins σ' H' s'/\D.bk σ' H'
 | .cont=>∃σ' H',Inv X pins σ' H' s'/\D.ct σ' H'
 | .ret u=>∃v σ' H',Inv X pins σ' H' s'/\RelV v u/\D.rt v H'
def PE(X:Cx)(e:Expr)(t:TE):Prop:=
 ∀(pins:List (Addr×Obj)) (s:Shared) (σ:St) (H:Hp) (Q:VK),Inv X pins σ H s->t σ H Q->wpAny (model X.prog X.w) X.A (eval e X.env) (EP X pins σ Q) X.xe s
def PT(X:Cx)(e:Expr)(t:TT):Prop:=
 ∀(pins:List (Addr×Obj)) (s:Shared) (σ:St) (H:Hp) (Q:Bool->Hp->Prop),Inv X pins σ H s->t σ H Q->wpAny (model X.prog X.w) X.A (isTrue e X.env (eval e X.env)) (TP X pins σ Q) X.xe s
def PW(X:Cx)(e:Expr)(t:TT):Prop:=
 ∀(whole:Sem Value) (pins:List (Addr×Obj)) (s:Shared) (σ:St) (H:Hp) (Q:Bool->Hp->Prop),Inv X pins σ H s->t σ H Q->wpAny (model X.prog X.w) X.A (isTrue e X.env whole) (TP X pins σ Q) X.xe s
theorem PW.pt(h:PW X e t):PT X e t:=h _
def PA(X:Cx)(a:List Expr)(t:TA):Prop:=
 ∀(pos:Pos) (pins:List (Addr×Obj)) (s:Shared) (σ:St) (H:Hp) (Q:List V->Hp->Prop),Inv X pins σ H s->t σ H Q->wpAny (model X.prog X.w) X.A (spliced (backTo pos (starEach a X.env))) (AP X pins σ Q) X.xe s
def PS(X:Cx)(st:Stmt)(t:TS):Prop:=
 ∀(pins:List (Addr×Obj)) (s:Shared) (σ:St) (H:Hp) (D:Ends),Inv X pins σ H s->t D σ H->wpAny (model X.prog X.w) X.A (exec st X.env) (SP X pins D) X.xe s
def PSs(X:Cx)(st:List Stmt)(t:TS):Prop:=
 ∀(pins:List (Addr×Obj)) (s:Shared) (σ:St) (H:Hp) (D:Ends),Inv X pins σ H s->t D σ H->wpAny (model X.prog X.w) X.A (execs st X.env) (SP X pins D) X.xe s
theorem thn(h:wpAny M A t Q E s)(b:∀a s,Q a s->Q' a s):wpAny M A t Q' E s:=yK h b fun _ _ x=>x
section
variable{X:Cx}
theorem bin{a b:Expr}{i tb:TE}(z:PE X a i)(hb:PE X b tb){pins:List (Addr×Obj)}{s:Shared}{σ:St}{H:Hp}{R:V->V->Hp->Prop}(I:Inv X pins σ H s)(h:i σ H fun x g=>tb σ g fun y c=>R x y c){α:Type}{Q:α->Shared->Prop}{f:Value->Value->Sem α}(r:∀v u d x y c,Inv X pins σ c d->RelV x v->RelV y u->R x y c->wpAny (model X.prog X.w) X.A (f v u) Q X.xe d):
  wpAny (model X.prog X.w) X.A (eval a X.env) (fun v l=>wpAny (model X.prog X.w) X.A (eval b X.env) (fun u j=>wpAny (model X.prog X.w) X.A (f v u) Q X.xe j) X.xe l) X.xe s:=by
 show thn (z pins s σ H _ I h) fun v m e=>?_;let{x,g,C,o,q}:=e;show thn (hb pins m σ g _ C q) fun u d e=>?_;let{y,c,B,n,p}:=e;show r v u d x y c B o n p
inductive tVarR(i:Nat)(σ:St)(H:Hp)(Q:VK):Prop
 | mk(v:_)(_:σ[i]?=some (some v))(_:Q v H)
def tVar(i:Nat):TE:=fun σ H Q=>tVarR i σ H Q
def tC(v:V):TE:=fun _ H Q=>Q v H
theorem pe_var(g:X.N[i]?=some x)(b:Vis X.env.scope x)(hd:(x==("__debug__":Str))=false:=by decide)(a:(x==("__classdict__":Str))=false:=by decide):PE X (.Name x pos) (tVar i):=by
 intro pins s σ H Q I h;let{v,e,h}:=h;let{m,d,f}:=I.loc;let{u,r,l}:=f i x v g e b;have fin:EP X pins σ Q u s:={v,H,I,r,h};rcases l with⟨hk,hm⟩|⟨hk,c,hc,hcell⟩
 .show wpAny_Name (wpAny_loadName_local I.ok.kind hk d hm fin) hd
 .rcases hk with hk|hk
  .show wpAny_Name (wpAny_loadName_cell I.ok.kind hk hc hcell fin) hd
  .show wpAny_Name (wpAny_loadName_free I.ok.kind hk hc hcell fin a) hd
theorem J9 :PE X (.Constant (.int i) j pos) (tC (.int i)):=fun _ _ _ H _ I h=>wpAny_Constant_int {.int i,H,I.tok _,{_,rfl},h}
theorem J4j :PE X (.Constant (.bool b) j pos) (tC (.bl b)):=fun _ _ _ H _ I h=>Constant_bool {.bl b,H,I,rfl,h}
theorem J7x :PE X (.Constant .none j pos) (tC .non):=fun _ _ _ H _ I h=>Constant_none {.non,H,I,rfl,h}
theorem J2q :PE X (.Constant (.str x) j pos) (tC (.str x)):=fun _ _ _ H _ I h=>Calls.Constant_str {.str x,H,I.tok _,{_,rfl},h}
def Gl(X:Cx)(x:Str):Prop:=X.env.kindOf x=some .globalImplicit
theorem Jc0(I:Inv X pins σ H s)(b:Gl X x)(a:X.mg x=some u)(h:Q u s)(hd:(x==("__debug__":Str))=false:=by decide):wpAny (model X.prog X.w) X.A (eval (.Name x pos) X.env) Q E s :=
 Calls.Name_function_global I.ok.kind b (Calls.loadGlobal_global (by rw[I.ok.glob];show I.mod.glob.keeps I.bk) a h) hd
theorem J75(I:Inv X pins σ H s)(d:Gl X x)(c:X.mg x=none)(a:bootBuiltins x=some u)(h:Q u s)(b:x≠"__name__":=by decide)(hd:(x==("__debug__":Str))=false:=by decide):wpAny (model X.prog X.w) X.A (eval (.Name x pos) X.env) Q E s:=by
 let{g,f,e}:=I.mod.blt;show Calls.Name_function_global I.ok.kind d (Calls.loadGlobal_builtin (by rw[I.ok.glob];show I.mod.glob.keeps I.bk) c (by rw[I.ok.blt];show f.keeps I.bk) ((e x b).trans a) h) hd
theorem Jf6(b:Gl X x)(a:X.mg x=some u)(r:RelV v u)(hd:(x==("__debug__":Str))=false:=by decide):PE X (.Name x pos) (tC v) :=
 fun _ _ _ H _ I h=>Jc0 I b a {v,H,I,r,h} hd
theorem J5a(d:Gl X x)(c:X.mg x=none)(a:bootBuiltins x=some u)(r:RelV v u)(b:x≠"__name__":=by decide)(hd:(x==("__debug__":Str))=false:=by decide):PE X (.Name x pos) (tC v) :=
 fun _ _ _ H _ I h=>J75 I d c a {v,H,I,r,h} b hd
variable{a b:Expr}{ta tb:TE}{pos:Pos}
def PC(X:Cx)(e:CmpOp)(a b:Expr)(t:TE):Prop:=
 ∀(pins:List (Addr×Obj)) (s:Shared) (σ:St) (H:Hp) (Q:VK),Inv X pins σ H s->t σ H Q->
  wpAny (model X.prog X.w) X.A (eval a X.env) (fun v d=>wpAny (model X.prog X.w) X.A (eval b X.env) (fun u c=>wpAny (model X.prog X.w) X.A (compareOp e v u) (EP X pins σ Q) X.xe c) X.xe d) X.xe s
theorem Jq7(b:Expr)(h:op≠.In)(d:op≠.NotIn):behindInMarks op b=false:=by
 have c:(op==CmpOp.In)=false:=by grind
 have a:(op==CmpOp.NotIn)=false:=by grind
 cases b <;> simp[behindInMarks,c,a]
def tIsN(a:TE):TE:=fun σ H Q=>a σ H fun x b=>Q (.bl (decide (x=.non))) b
theorem RelV.none_iff(r:RelV x v):(v==Value.none)=decide (x=.non):=by
 cases x with
 | non=>cases r;rfl
 | bl _=>cases r;rfl
 | int _=>let{t,rfl}:=r;rfl
 | str _=>let{t,rfl}:=r;rfl
 | byt _=>let{t,rfl}:=r;rfl
 | flt _=>let{t,rfl}:=r;rfl
 | ref _=>cases r;rfl
 | ty _=>cases r;rfl
theorem pc_isN(d:PE X a ta):PC X .Is a (.Constant .none j pos') (tIsN ta):=by
 intro pins s σ H Q I h;show thn (d pins s σ H _ I h) fun v i e=>?_;let{x,g,f,b,c}:=e;show Constant_none (is_none_gen {.bl _,g,f,by rw[b.none_iff];rfl,c})
inductive tBR(Q:Bool->Hp->Prop)(x:V)(a:Hp):Prop
 | mk(c:_)(_:x=.bl c)(_:Q c a)
def tB(t:TE):TT:=fun σ H Q=>t σ H fun x a=>tBR Q x a
theorem pt_cmp{e:CmpOp}{t:TE}(h:PC X e a b t)(f:behindInMarks e b=false:=by first|show Jq7 _ (by decide) (by decide)|rfl):PT X (.Compare a [e] [b] pos) (tB t):=by
 intro pins s σ H Q I hw;show wpAny_isTrue_Compare1 (thn (h pins s σ H _ I hw) fun v r f=>thn f fun u p l=>thn l fun c o j=>?_) f;let{x,n,m,g,i}:=j;let{d,rfl,q}:=i;cases g;show vN {n,m,q}
theorem J25{e:Expr}{t:TE}(h:PE X e t)(c:∀whole,isTrue e X.env whole=(do let v <- whole;standAt e.pos;holding [v] (truthy v)):=by intro _;rfl):PT X e (tB t):=by
 intro pins s σ H Q I hw;show isTrue_plain (thn (h pins s σ H _ I hw) fun v j f=>?_) (c _);let{x,i,g,a,b}:=f;let{d,rfl,q}:=b;cases a;show vN {i,g,q}
variable{tA tB':TT}{rest:List Expr}
def tAnd(t u:TT):TT:=fun σ H Q=>t σ H fun c a=>if c=true then u σ a Q else Q false a
def tOr(t u:TT):TT:=fun σ H Q=>t σ H fun c a=>if c=true then Q true a else u σ a Q
def tNot(t:TT):TT:=fun σ H Q=>t σ H fun c a=>Q (!c) a
theorem Jbn(b:PT X a tA):PW X (.BoolOp .And [a] pos) tA:=by
 intro d pins s σ H Q I h;show isTrue_and (thn (b pins s σ H Q I h) fun c f e=>?_)
 cases c with
 | true=>show isTrue_and_nil e
 | false=>show e
theorem J7u(b:PT X a tA):PW X (.BoolOp .Or [a] pos) tA:=by
 intro d pins s σ H Q I h;show isTrue_or (thn (b pins s σ H Q I h) fun c f e=>?_)
 cases c with
 | false=>show isTrue_or_nil e
 | true=>show e
theorem Jgy(j:PT X a tA)(hb:PW X (.BoolOp .And (b::rest) pos) tB'):PW X (.BoolOp .And (a::b::rest) pos) (tAnd tA tB'):=by
 intro g pins s σ H Q I h;show isTrue_and (thn (j pins s σ H _ I h) fun c i l=>?_);let{f,e,d}:=l
 cases c with
 | true=>show hb g pins i σ f Q e d
 | false=>show{f,e,d}
theorem J88(j:PT X a tA)(hb:PW X (.BoolOp .Or (b::rest) pos) tB'):PW X (.BoolOp .Or (a::b::rest) pos) (tOr tA tB'):=by
 intro g pins s σ H Q I h;show isTrue_or (thn (j pins s σ H _ I h) fun c i l=>?_);let{f,e,d}:=l
 cases c with
 | true=>show{f,e,d}
 | false=>show hb g pins i σ f Q e d
theorem J43(b:PT X a tA):PT X (.UnaryOp .Not a pos) (tNot tA):=by
 intro pins s σ H Q I h;show isTrue_not (b pins s σ H (fun c d=>Q (!c) d) I h)
inductive tAndVR(tb:TE)(σ:St)(Q:VK)(x:V)(a:Hp):Prop
 | mk(c:_)(_:x=.bl c)(_:if c=true then tb σ a Q else Q (.bl false) a)
def tAndV(a tb:TE):TE:=fun σ H Q=>a σ H fun x b=>tAndVR tb σ Q x b
inductive tOrVR(tb:TE)(σ:St)(Q:VK)(x:V)(a:Hp):Prop
 | mk(c:_)(_:x=.bl c)(_:if c=true then Q (.bl true) a else tb σ a Q)
def tOrV(a tb:TE):TE:=fun σ H Q=>a σ H fun x b=>tOrVR tb σ Q x b
inductive tNotVR(Q:VK)(x:V)(a:Hp):Prop
 | mk(c:_)(_:x=.bl c)(_:Q (.bl (!c)) a)
def tNotV(a:TE):TE:=fun σ H Q=>a σ H fun x b=>tNotVR Q x b
theorem Jkr(h:PE X a t):PE X (.BoolOp op [a] pos) t:=fun pins s σ H Q I hw=>BoolOp_one (h pins s σ H Q I hw)
theorem Jrq(j:PE X a ta)(hb:PE X (.BoolOp .And (b::rest) pos) tb):PE X (.BoolOp .And (a::b::rest) pos) (tAndV ta tb):=by
 intro pins s σ H Q I h;show BoolOp_and (thn (j pins s σ H _ I h) fun v g l=>?_);let{x,f,e,i,d}:=l;let{c,rfl,d}:=d;cases i;show vN ?_
 cases c with
 | true=>show hb pins g σ f Q e d
 | false=>show{.bl false,f,e,rfl,d}
theorem pe_or(j:PE X a ta)(hb:PE X (.BoolOp .Or (b::rest) pos) tb):PE X (.BoolOp .Or (a::b::rest) pos) (tOrV ta tb):=by
 intro pins s σ H Q I h;show BoolOp_or (thn (j pins s σ H _ I h) fun v g l=>?_);let{x,f,e,i,d}:=l;let{c,rfl,d}:=d;cases i;show vN ?_
 cases c with
 | false=>show hb pins g σ f Q e d
 | true=>show{.bl true,f,e,rfl,d}
theorem pe_not(e:PE X a ta):PE X (.UnaryOp .Not a pos) (tNotV ta):=by
 intro pins s σ H Q I h;show UnaryOp_ (thn (e pins s σ H _ I h) fun v j f=>?_);let{x,i,g,d,b}:=f;let{c,rfl,b}:=b;cases d;show not_of (vN {.bl (!c),i,g,rfl,b})
def tIf(t:TT)(b tb:TE):TE:=fun σ H Q=>t σ H fun c a=>if c=true then b σ a Q else tb σ a Q
theorem J3f(j:PT X c tA)(l:PE X a ta)(hb:PE X b tb):PE X (.IfExp c a b pos) (tIf tA ta tb):=by
 intro pins s σ H Q I h;show wpAny_IfExp (thn (j pins s σ H _ I h) fun d e m=>?_);let{i,g,f}:=m
 cases d with
 | true=>show l pins e σ i Q g f
 | false=>show hb pins e σ i Q g f
end
def SqL(K:Frag)(H:Hp)(a:Addr)(xs:List V):Prop:=
 Rd H a (.lst xs)\/
  ∃(o:Obj) (its:Array Value) (n:Nat),K.lookup a=some o/\o.cls=.type "list"/\o.dict=none/\o.data=.seq its n/\its.size<=sizeLine/\Vals xs its.toList
def SqT(K:Frag)(H:Hp)(a:Addr)(xs:List V):Prop:=
 Rd H a (.tup xs)\/
  ∃(o:Obj) (its:Array Value) (n:Nat),K.lookup a=some o/\o.cls=.type "tuple"/\o.data=.seq its n/\its.size<=sizeLine/\Vals xs its.toList
def absV:Value->Option V
 | .none=>some .non
 | .bool b=>some (.bl b)
 | .int i _=>some (.int i)
 | .str x _=>some (.str x)
 | .bytes b _=>some (.byt b)
 | .float b _=>some (.flt b)
 | .ref a=>some (.ref a)
 | .type n=>some (.ty n)
 | _=>none
theorem RelV.abs(r:RelV x u):absV u=some x:=by
 cases x with
 | non=>cases r;rfl
 | bl _=>cases r;rfl
 | int _=>let{t,rfl}:=r;rfl
 | str _=>let{t,rfl}:=r;rfl
 | byt _=>let{t,rfl}:=r;rfl
 | flt _=>let{t,rfl}:=r;rfl
 | ref _=>cases r;rfl
 | ty _=>cases r;rfl
theorem RelV.inj(r:RelV x u)(q:RelV y u):x=y:=zV (r.abs.symm.trans q.abs)
theorem Vals.inj:∀{xs ys:List V} {us:List Value},Vals xs us->Vals ys us->xs=ys
 | _,_,_,.nil,.nil=>rfl
 | _,_,_,.cons r t,.cons r' t'=>by rw[r.inj r',Vals.inj t t']
section
variable{X:Cx}{pins:List (Addr×Obj)}{σ:St}{H:Hp}{s:Shared}{a:Addr}{xs ys:List V}
theorem SqL.of{K:Frag}(h:H a=some (.lst xs)):SqL K H a xs:=.inl (.inl h)
theorem SqT.of{K:Frag}(h:H a=some (.tup xs)):SqT K H a xs:=.inl (.inl h)
theorem Inv.list(I:Inv X pins σ H s)(h:SqL X.K H a xs):∃its:List Value,Vals xs its/\PlainL s.heap a its.toArray/\xs.length<=sizeLine:=by
 rcases h with h|⟨o,its,n,hk,hc,hd,hs,hz,r⟩
 .let{z,its,n,r,e}:=h.ok I.hok;show{its,r,{_,n,e,rfl,rfl,rfl},z}
 .show{its.toList,r,{o,n,I.kIn a o hk,hc,hd,by simpa using hs},?_};have e:=r.length
  grind
theorem Inv.tuple(I:Inv X pins σ H s)(h:SqT X.K H a xs):∃its:List Value,Vals xs its/\IsTup s.heap a its.toArray/\xs.length<=sizeLine:=by
 rcases h with h|⟨o,its,n,hk,hc,hs,hz,r⟩
 .let{z,its,r,p}:=h.ok I.hok;show{its,r,p.tup,z}
 .show{its.toList,r,{o,I.kIn a o hk,hc,n,by simpa using hs},?_};have e:=r.length;simp only[yL] at e;lia
theorem Inv.list_inj(I:Inv X pins σ H s)(h:SqL X.K H a xs)(h':SqL X.K H a ys):xs=ys:=by
 let{its,r,{o,n,e,_,_,d},_}:=I.list h;let{its',b,{c,f,g,_,_,d'},_}:=I.list h';have:its=its':=by simp_all
 subst this;show r.inj b
theorem Inv.tuple_inj(I:Inv X pins σ H s)(h:SqT X.K H a xs)(h':SqT X.K H a ys):xs=ys:=by
 let{its,r,{o,e,_,n,d},_}:=I.tuple h;let{its',b,{c,g,_,f,d'},_}:=I.tuple h';have:its=its':=by simp_all
 subst this;show r.inj b
end
abbrev Cx.wish(X:Cx)(E:Value->Shared->Prop):Cx:={ X with xe:=E }
abbrev Cx.nox(X:Cx):Cx:=X.wish fun _ _=>False
theorem Cx.Ok.wish{X:Cx}(ok:X.Ok)(E:Value->Shared->Prop):(X.wish E).Ok:=
 {ok.mod,ok.kind,ok.glob,ok.blt,ok.above,ok.inj,ok.has,ok.cab,ok.hd,ok.frames,ok.stk,ok.exf,ok.bs,ok.bsz,ok.noex,ok.exfs,ok.funs,ok.frf}
theorem Cx.Ok.unwish{X:Cx}(ok:(X.wish E).Ok):X.Ok:=
 {ok.mod,ok.kind,ok.glob,ok.blt,ok.above,ok.inj,ok.has,ok.cab,ok.hd,ok.frames,ok.stk,ok.exf,ok.bs,ok.bsz,ok.noex,ok.exfs,ok.funs,ok.frf}
section
variable{X:Cx}{pins:List (Addr×Obj)}{σ:St}{H:Hp}{s:Shared}{E:Value->Shared->Prop}
theorem Inv.wish(I:Inv X pins σ H s)(E:Value->Shared->Prop):Inv (X.wish E) pins σ H s:={I.ok.wish E,I.os,I.bare,I.base,I.loc,I.cell,I.free,I.freeC,I.pin,I.hok,I.len}
theorem Inv.unwish(I:Inv (X.wish E) pins σ H s):Inv X pins σ H s:={I.ok.unwish,I.os,I.bare,I.base,I.loc,I.cell,I.free,I.freeC,I.pin,I.hok,I.len}
theorem SP.unwish(h:SP (X.wish E) pins D f s'):SP X pins D f s':=by
 cases f with
 | next=>let{σ',a,I,q}:=h;show{σ',a,I.unwish,q}
 | brk=>let{σ',a,I,q}:=h;show{σ',a,I.unwish,q}
 | cont=>let{σ',a,I,q}:=h;show{σ',a,I.unwish,q}
 | ret u=>let{v,σ',a,I,r,q}:=h;show{v,σ',a,I.unwish,r,q}
theorem PSs.nox{st:List Stmt}(h:PSs X.nox st t):PSs X st t:=fun pins s σ H D I hw =>
 yK (h pins s σ H D (I.wish _) hw) (fun _ _ q=>q.unwish) fun _ _ z=>False.elim z
end
section
variable{X:Cx}{st:Stmt}{rest:List Stmt}{t u:TS}{e:Expr}{te:TE}{pos:Pos}
def tNext:TS:=fun D σ H=>D.nx σ H
def tSeq(t u:TS):TS:=fun D σ H=>t { D with nx:=u D } σ H
theorem Jo:PSs X [] tNext:=fun _ _ σ H _ I h=>wpAny_execs_nil {σ,H,I,h}
theorem J0(c:PS X st t)(b:PSs X rest u):PSs X (st::rest) (tSeq t u):=by
 intro pins s σ H D I h;show wpAny_execs_cons (thn (c pins s σ H { D with nx:=u D } I h) fun f a q=>?_)
 cases f with
 | next =>
  let{σ',e,d,q}:=q;show b pins a σ' e D d q
 | ret v=>show q
 | brk=>show q
 | cont=>show q
theorem J3(a:PS X st t):PSs X [st] t:=by
 intro pins s σ H D I h;show wpAny_execs_cons (thn (a pins s σ H D I h) fun f b q=>?_)
 cases f with
 | next=>show wpAny_execs_nil q
 | ret v=>show q
 | brk=>show q
 | cont=>show q
theorem Inv.quiet(I:Inv X pins σ H s):interactive X.env=false:=by simp[interactive,I.ok.kind]
def tDrop(a:TE):TS:=fun D σ H=>a σ H fun _ b=>D.nx σ b
theorem J18(c:PE X e te)(b:swapsWith e none pos.line X.env=pure false:=by rfl):PS X (.Expr e pos) (tDrop te):=by
 intro pins s σ H D I h;show wpAny_Expr_any (thn (c pins s σ H _ I h) fun v i d=>by let{x,g,f,j,a}:=d;show{σ,g,f,a}) I.quiet b
def tRet(a:TE):TS:=fun D σ H=>a σ H D.rt
theorem Jd(c:PE X e te):PS X (.Return (some e) pos) (tRet te):=by
 intro pins s σ H D I h;show wpAny_Return_some (thn (c pins s σ H _ I h) fun v i d=>by let{x,g,f,a,b}:=d;show{x,σ,g,f,a,b})
def tIfS(c:TT)(t u:TS):TS:=fun D σ H=>c σ H fun b a=>if b=true then t D σ a else u D σ a
theorem J1a(j:PT X c tc)(l:PSs X a t)(hb:PSs X b u):PS X (.If c a b pos) (tIfS tc t u):=by
 intro pins s σ H D I h;show wpAny_If (thn (j pins s σ H _ I h) fun d e m=>?_);let{i,g,f}:=m
 cases d with
 | true=>show l pins e σ i D g f
 | false=>show hb pins e σ i D g f
def tNever:TS:=fun _ _ _=>False
theorem J1o:PS X st tNever:=fun _ _ _ _ _ _ h=>h.elim
end
abbrev TG:=V->St->Hp->(St->Hp->Prop)->Prop
abbrev TGs:=List V->St->Hp->(St->Hp->Prop)->Prop
def PG(X:Cx)(a:Expr)(t:TG):Prop:=
 ∀(pins:List (Addr×Obj)) (s:Shared) (σ:St) (H:Hp) (v:V) (u:Value) (Q:St->Hp->Prop),Inv X pins σ H s->RelV v u->t v σ H Q->
  wpAny (model X.prog X.w) X.A (assign a X.env u) (fun _ s'=>∃σ' b,Inv X pins σ' b s'/\Q σ' b) X.xe s
def PGs(X:Cx)(ts:List Expr)(t:TGs):Prop:=
 ∀(pins:List (Addr×Obj)) (s:Shared) (σ:St) (H:Hp) (vs:List V) (us:List Value) (Q:St->Hp->Prop),Inv X pins σ H s->Vals vs us->t vs σ H Q->
  wpAny (model X.prog X.w) X.A (assignInOrder ((assignEach ts X.env).map (·.2)) us) (fun _ s'=>∃σ' a,Inv X pins σ' a s'/\Q σ' a) X.xe s
abbrev TSet:=V->V->V->Hp->(Hp->Prop)->Prop
def PSet(X:Cx)(t:TSet):Prop:=
 ∀(pins:List (Addr×Obj)) (s:Shared) (σ:St) (H:Hp) (o i v:V) (a b u:Value) (Q:Hp->Prop),Inv X pins σ H s->RelV o a->RelV i b->RelV v u->t o i v H Q->
  wpAny (model X.prog X.w) X.A (setItem a b u) (fun _ s'=>∃c,Inv X pins σ c s'/\Q c) X.xe s
section
variable{X:Cx}{pos:Pos}
def J5e(i:Nat):TG:=fun v σ H Q=>Q (σ.set i (some v)) H
theorem J3v{i:Nat}{x:Str}(c:X.N.Nodup)(hi:X.N[i]?=some x)(a:Loc X.env.scope x)(b:X.fn x=true\/X.env.scope.names.lookup x=some .local:=by first|show .inl rfl|show .inr rfl|assumption):PG X (.Name x pos) (J5e i):=by
 intro pins s σ H v u Q I r h;show wpAny_assign_Name (Jg9 I c hi a r (fun s' d=>{_,H,d,h}) b)
def gNil:TGs:=fun vs σ H Q=>vs=[]/\Q σ H
inductive gConsR(t:TG)(u:TGs)(vs:List V)(σ:St)(H:Hp)(Q:St->Hp->Prop):Prop
 | mk(v r:_)(_:vs=v::r)(_:t v σ H fun σ' a=>u r σ' a Q)
def J9g(t:TG)(u:TGs):TGs:=fun vs σ H Q=>gConsR t u vs σ H Q
theorem J58:PGs X [] gNil:=by
 intro pins s σ H vs us Q I r h;let{e,h}:=h;show assignInOrder_nil {σ,H,I,h}
theorem J1k(g:PG X e t)(f:PGs X es u)(c:(assignEach (e::es) X.env).map (·.2)=assign e X.env::(assignEach es X.env).map (·.2):=by rfl):PGs X (e::es) (J9g t u):=by
 intro pins s σ H vs us Q I r h;let{v,m,i,h}:=h;subst i
 cases r with
 | cons r rr =>
  rw[c];show assignInOrder_cons (thn (g pins s σ H _ _ _ I r h) fun _ a d=>?_);let{σ1,l,j,b}:=d;show f pins a σ1 l _ _ Q j rr b
inductive gTupR(K:Frag)(n:Nat)(t:TGs)(v:V)(σ:St)(H:Hp)(Q:St->Hp->Prop):Prop
 | mk(a xs:_)(_:v=.ref a)(_:SqT K H a xs)(_:xs.length=n)(_:t xs σ H Q)
def gTup(K:Frag)(n:Nat)(t:TGs):TG:=fun v σ H Q=>gTupR K n t v σ H Q
theorem J7w(m:X.calm=true)(h:PGs X es t)(j:(assignEach es X.env).length=n:=by rfl)(c:(assignEach es X.env).findIdx? (·.1)=none:=by rfl):PG X (.Tuple es k pos) (gTup X.K n t):=by
 intro pins s σ H v u Q I r hw;let{a,xs,p,i,l,hw}:=hw;subst p;cases r;let{its,d,g,w}:=I.tuple i;show assign_Tuple_tuple (I.ok.hd m) g (by simp[j,<- l,d.length]) c fun h' f=>?_;have q:=I.kept (t':=s.toks) fun b o e=>f b o (zQ (zG e)) e;show h pins _ σ H xs _ Q q (by simp_all) hw
def gSub(a b:TE)(t:TSet):TG:=fun v σ H Q=>a σ H fun o e=>b σ e fun i d=>t o i v d fun c=>Q σ c
theorem Jd8{o i:Expr}{d e:TE}{t:TSet}(w:PE X o d)(hi:PE X i e)(q:PSet X t)(z:∀v,assign (.Subscript o i pos) X.env v=(do
   let a <- holding [v] (eval o X.env);let b <- holding [v,a] (eval i X.env)
   standAt pos
   holding [v,a,b] (setItem a b v)
   release [v,a,b] []):=by intro _;rfl):PG X (.Subscript o i pos) (gSub d e t):=by
 intro pins s σ H v u Q I r h;rw[z];show zA (xP (thn (w pins s σ H _ I h) fun a g c=>?_));let{x,F,C,l,p}:=c;show zA (xP (thn (hi pins g σ F _ C p) fun b f c=>?_));let{y,E,B,j,n}:=c;show zA (wpAny_standAt (zA (xP (thn (q pins f σ E x y v a b u _ B l j r n) fun _ G c=>?_))));let{D,A,m}:=c;show wpAny_release {σ,D,A,m}
def tAsg(a:TE)(g:TG):TS:=fun D σ H=>a σ H fun x b=>g x σ b D.nx
theorem Jao(i:PE X e te)(f:PG X tg g)(d:swapsWithSole [tg] e pos.line X.env=pure false:=by rfl)(hw:swappedStores [tg] e X.env=pure none:=by rfl)(l:(assignEach [tg] X.env).map (·.2)=[assign tg X.env]:=by rfl):PS X (.Assign [tg] e pos) (tAsg te g):=by
 intro pins s σ H D I h;show wpAny_Assign_stores (thn (i pins s σ H _ I h) fun v a j=>?_) d hw;let{x,n,m,b,c}:=j;rw[l];show thn (f pins a σ n x v _ m b c) fun _ o q=>q
theorem ps_set{i:Nat}{x:Str}{e:Expr}{b:TE}{a:Pos}(m:X.N.Nodup)(hi:X.N[i]?=some x)(f:Loc X.env.scope x)(l:PE X e b)(g:swapsWith e (some (.Name x a)) pos.line X.env=pure false:=by rfl)(j:X.fn x=true\/X.env.scope.names.lookup x=some .local:=by first|show .inl rfl|show .inr rfl|assumption):
  PS X (.Assign [.Name x a] e pos) (tAsg b (J5e i)):=by
 intro pins s σ H D I h;show wpAny_Assign_Name (thn (l pins s σ H _ I h) fun v u n=>?_) g;let{y,q,p,c,d}:=n;show Jg9 p m hi f c (fun r o=>{_,q,o,d}) j
end
section
variable{X:Cx}{pos:Pos}
def tWhile(c:TT)(tb:TS):TS:=fun D σ H=>∃W:Nat->St->Hp->Prop,(∃m,W m σ H)/\∀m σ H,W m σ H->
 c σ H fun b d=>if b=true then ∃N:St->Hp->Prop,(∀σ' e,N σ' e->∃a,a<m/\W a σ' e)/\tb { D with nx:=N,ct:=N,bk:=D.nx } σ d else D.nx σ d
theorem Jbo(o:PassesOwn (model X.prog X.w) X.A X.env X.xe)(G:PT X c tc)(hb:PSs X body tb):PS X (.While c body [] pos) (tWhile tc tb):=by
 intro pins s σ H D I h;let{W,{F,B},turn}:=h;show wpAny_While (codeAny_whileLoop (fun n s'=>∃σ' y,Inv X pins σ' y s'/\W n σ' y) ?_ F {σ,H,I,B});rintro n E ⟨σ1,u,K,z⟩;show vO o (thn (G pins E σ1 u _ K (turn n σ1 u z)) fun b C J=>?_);let{r,q,e}:=J
 cases b with
 | true =>
  let{N,p,e}:=e;show vO o (thn (hb pins C σ1 r _ q e) fun f L d=>?_)
  cases f with
  | next =>
   let{σ3,a,m,i}:=d;let{j,l,g}:=p σ3 a i;show{j,l,σ3,a,m,g}
  | cont =>
   let{σ3,a,m,i}:=d;let{j,l,g}:=p σ3 a i;show{j,l,σ3,a,m,g}
  | brk=>show d
  | ret v=>show d
 | false =>
  show wpAny_execs_nil {σ1,r,q,e}
end
structure It where
 go:Nat->Hp->Prop
 yld:Nat->Hp->V->Hp->Prop
 stop:Nat->Hp->Prop
def FpOk(X:Cx)(pins:List (Addr×Obj))(H:Hp)(b:Addr):Prop:=
 H b=none/\b≠X.env.locals/\b ∉ X.fs/\(b∈X.ex\/X.s₀.heap.objs.size<=b)/\(∀x c,X.env.cells.lookup x=some c->c≠b)/\∀p∈X.pn++pins,p.1≠b
theorem Inv.fpOk(I:Inv X pins σ H s)(hb:s.heap.objs.size<=b)(d:H' b=none):FpOk X pins H' b:=by
 show{d,wA (yB I.lt hb),I.nofs hb,.inr (zM I.sz hb),fun x c e z=>?_,fun p a z=>?_}
 .let{v,q}:=I.cell x c e;show absurd (yB q.lt (by rw[z];show hb)) (wQ _)
 .show absurd (yB (zG (I.pin p a).1) (by rw[z];show hb)) (wQ _)
structure Turn(P:Program)(w:World)(K:Frag)(tg:Expr)(J:It)(fp:List Addr)(it:Addr)(tn:Nat->Heap->Prop):Prop where
 mem:it∈fp
 obj:∀i h,tn i h->∀b∈fp,∃o,h.get? b=some o/\∀v,o.data≠.cell v
 keep:∀i h h',tn i h->(∀b∈fp,∀o,h.get? b=some o->h'.get? b=some o)->tn i h'
 item:∀(X:Cx),X.prog=P->X.w=w->X.K=K->X.calm=true->∀(i:Nat) (pins:List (Addr×Obj)) (s:Shared) (σ:St) (H:Hp) (E:Value->Shared->Prop),Inv X pins σ H s->(∀b∈fp,FpOk X pins H b)->tn i s.heap->J.go i H->
  wpAny (model P w) X.A (pyNext (.ref it)) (fun r s1=>∃u,r=some u/\
   wpAny (model P w) X.A (letOwnedTupleGo tg (.ref it) u) (fun _ s2=>∃x H',Inv X pins σ H' s2/\RelV x u/\J.yld i H x H'/\tn (i+1) s2.heap/\∀b∈fp,H' b=none) E s1) E s
 done:∀(X:Cx),X.prog=P->X.w=w->X.K=K->X.calm=true->∀(i:Nat) (pins:List (Addr×Obj)) (s:Shared) (σ:St) (H:Hp) (E:Value->Shared->Prop),Inv X pins σ H s->(∀b∈fp,FpOk X pins H b)->tn i s.heap->J.stop i H->
  wpAny (model P w) X.A (pyNext (.ref it)) (fun r s1=>r=none/\Inv X pins σ H s1) E s
 self:∀(A:Around) (i:Nat) (s:Shared) (Q:Value->Shared->Prop) (E:Value->Shared->Prop),tn i s.heap->Q (.ref it) s->wpAny (model P w) A (pyIter (.ref it)) Q E s
abbrev TI:=St->Hp->(It->Hp->Prop)->Prop
def PIE(X:Cx)(pins:List (Addr×Obj))(σ:St)(g:Expr)(R:It->Hp->Prop)(a:Value)(e:Shared):Prop:=
 ∃(it:Addr) (f:List Addr) (d:Nat->Heap->Prop) (J:It) (c:Hp),a=.ref it/\Inv X pins σ c e/\Turn X.prog X.w X.K g J f it d/\d 0 e.heap/\(∀b∈f,FpOk X pins c b)/\R J c
def PI(X:Cx)(c a:Expr)(b:TI):Prop:=
 ∀(pins:List (Addr×Obj)) (s:Shared) (σ:St) (H:Hp) (R:It->Hp->Prop),Inv X pins σ H s->b σ H R->
  wpAny (model X.prog X.w) X.A (eval a X.env) (fun v d=>wpAny (model X.prog X.w) X.A (pyIter v) (PIE X pins σ c R) X.xe d) X.xe s
theorem go_of(b : s.heap.get? it = some o)(d : o.cls = .type n)(hd : o.data = .fields vs)(c : ["enumerate", "zip", "dict_itemiterator", "dict_reverseitemiterator", "odict_iterator", "itertools.zip_longest", "itertools.pairwise"].contains n = false)(a : Q Unit.unit s): wpAny M A (letOwnedTupleGo tg (.ref it) u) Q E s := by
  cases tg <;> first
    | show zC a
    | (cases u <;> first
        | show zC a
        | (show zA (wpAny_load b ?_)
           rw[d, hd];change wpAny M A (if (["enumerate", "zip", "dict_itemiterator", "dict_reverseitemiterator", "odict_iterator", "itertools.zip_longest", "itertools.pairwise"].contains n&&vs[0]?==some (rawInt _)) = true then _ else _) Q E s;rw[if_neg (by intro h; rw[c, Bool.false_and] at h; cases h)];show zC a))
def Itl(K:Frag)(a:Addr):It:=
 {fun i H=>∃xs x,SqL K H a xs/\xs[i]?=some x,fun i H x b=>b=H/\∀xs,SqL K H a xs->xs[i]?=some x,fun i H=>∃xs,SqL K H a xs/\xs.length<=i}
def Itt(K:Frag)(a:Addr):It:=
 {fun i H=>∃xs x,SqT K H a xs/\xs[i]?=some x,fun i H x b=>b=H/\∀xs,SqT K H a xs->xs[i]?=some x,fun i H=>∃xs,SqT K H a xs/\xs.length<=i}
def Itr(lo:Int)(n:Nat):It:={fun i _=>i<n,fun i H x a=>a=H/\x=.int (lo+i),fun i _=>n<=i}
theorem Jjn{P:Program}{w:World}{K:Frag}{G:Expr}(a it:Addr):Turn P w K G (Itl K a) [it] it (fun i h=>h.IsListIter it a i) where
 mem:=by simp
 obj:=fun i h st b hb=>by
  have e:b=it:=by simpa using hb
  subst e;let{o,e,c,d}:=st;show{o,e,fun v z=>by rw[d] at z;cases z}
 keep:=fun i h h' st k=>st.at fun o e=>k it (by simp) o e
 item:=by
  intro X q hw r F i pins s σ H E I j st n;subst q hw r;let{xs,x,g,m}:=n;let{its,l,p,M}:=I.list g;let{u,O,L}:=l.get m;let{D,C,Q,B,A,y}:=j it (by simp);show wpAny_pyNext_list_item st p.isList (x:=u) (by simpa using O) fun h' f J=>?_;have S:Inv X pins σ H { s with heap:=h' }:=I.turned (t':=s.toks) (fun b o hb e=>(J.2 b hb).trans e) D C B A y;let{o,e,c,d}:=id f;show{u,rfl,go_of (s:={ s with heap:=h' }) e c d (by decide) {x,H,S,L,{rfl,fun ys N=>by rw[I.list_inj N g];show m},f,fun b hb=>(j b hb).1}}
 done:=by
  intro X q hw r F i pins s σ H E I j st n;subst q hw r;let{xs,g,m}:=n;let{its,l,p,M}:=I.list g;let{D,C,Q,B,A,y}:=j it (by simp);have T:=l.length;show wpAny_pyNext_list_end (I.ok.hd F) st p.isList (by simp;lia) fun h' R=>{rfl,I.turned (t':=s.toks) (fun b o hb e=>R b o hb e) D C B A y}
 self:=fun _ _ _ _ _ st h=>wpAny_pyIter_listiter st h
theorem Ji7{P:Program}{w:World}{K:Frag}{G:Expr}(a it:Addr):Turn P w K G (Itt K a) [it] it (fun i h=>h.IsTupleIter it a i) where
 mem:=by simp
 obj:=fun i h st b hb=>by
  have e:b=it:=by simpa using hb
  subst e;let{o,e,c,d}:=st;show{o,e,fun v z=>by rw[d] at z;cases z}
 keep:=fun i h h' st k=>st.at fun o e=>k it (by simp) o e
 item:=by
  intro X q hw r F i pins s σ H E I j st n;subst q hw r;let{xs,x,g,m}:=n;let{its,l,p,M}:=I.tuple g;let{u,O,L}:=l.get m;let{D,C,Q,B,A,y}:=j it (by simp);show wpAny_pyNext_tuple_item st (show s.heap.IsTuple a its.toArray from p) (x:=u) (by simpa using O) fun h' f J=>?_;have S:Inv X pins σ H { s with heap:=h' }:=I.turned (t':=s.toks) (fun b o hb e=>(J.2 b hb).trans e) D C B A y;let{o,e,c,d}:=id f;show{u,rfl,go_of (s:={ s with heap:=h' }) e c d (by decide) {x,H,S,L,{rfl,fun ys N=>by rw[I.tuple_inj N g];show m},f,fun b hb=>(j b hb).1}}
 done:=by
  intro X q hw r F i pins s σ H E I j st n;subst q hw r;let{xs,g,m}:=n;let{its,l,p,M}:=I.tuple g;let{D,C,Q,B,A,y}:=j it (by simp);have T:=l.length;show wpAny_pyNext_tuple_end (I.ok.hd F) st (show s.heap.IsTuple a its.toArray from p) (by simp;lia) fun h' R=>{rfl,I.turned (t':=s.toks) (fun b o hb e=>R b o hb e) D C B A y}
 self:=fun _ _ _ _ _ st h=>wpAny_pyIter_tupleiter st h
theorem Ji9{K:Frag}(it:Addr)(lo:Int)(n:Nat):Turn P w K tg (Itr lo n) [it] it (fun i h=>IsRangeIter h it (lo+(i:Nat)*1) ((n:Int)-(i:Nat)) 1) where
 mem:=by simp
 obj:=fun i h st b hb=>by
  simp_all
 keep:=fun i h h' st k=>k it (by simp) _ st
 item:=by
  intro X r hw u f i pins s σ H E I c st d;subst r hw u;let{p,m,A,l,j,g}:=c it (by simp);have W:=Walks.range (prog:=X.prog) (w:=X.w) (I.ok.hd f) it lo 1 n;show W.item i s _ _ d st fun v h' q z a y=>?_;let{t,rfl}:=z;have C:Inv X pins σ H { s with heap:=h',toks:=q }:=I.turned (fun b o hb e=>y b o (by simpa using hb) e) p m l j g;show{_,rfl,go_of (s:={ s with heap:=h',toks:=q }) (n:="range_iterator") a rfl rfl (by decide) {.int (lo+i),H,C,{t,?_},{rfl,rfl},a,fun b hb=>(c b hb).1}};rw[Int.mul_one]
 done:=by
  intro X r hw u f i pins s σ H E I c st d;let{p,m,A,l,j,g}:=c it (by simp);show wpAny_pyNext_range_end (I.ok.hd f) st (by have:n<=i:=d;lia) fun h' B=>{rfl,I.turned (t':=s.toks) (fun b o hb e=>B b o hb e) p m l j g}
 self:=fun _ _ _ _ _ st h=>wpAny_pyIter_rangeiter st h
section
variable{X:Cx}{tg:Expr}
inductive iListR(K:Frag)(R:It->Hp->Prop)(x:V)(b:Hp):Prop
 | mk(a:_)(_:x=.ref a)(_:(∃xs,SqL K b a xs))(_:R (Itl K a) b)
def iList(K:Frag)(tl:TE):TI:=fun σ H R=>tl σ H fun x a=>iListR K R x a
inductive iTupR(K:Frag)(R:It->Hp->Prop)(x:V)(b:Hp):Prop
 | mk(a:_)(_:x=.ref a)(_:(∃xs,SqT K b a xs))(_:R (Itt K a) b)
def iTup(K:Frag)(tl:TE):TI:=fun σ H R=>tl σ H fun x a=>iTupR K R x a
theorem J1i{l:Expr}{tl:TE}(j:PE X l tl):PI X tg l (iList X.K tl):=by
 intro pins s σ H R I h;show thn (j pins s σ H _ I h) fun v c m=>?_;let{x,n,d,f,g}:=m;let{a,e,{xs,i},q}:=g;subst e;cases f;let{its,r,p,u}:=d.list i;show wpAny_pyIter_list p.isList ?_;show{c.heap.objs.size,[c.heap.objs.size],_,_,n,rfl,d.kept (t':=c.toks) fun b o e=>zE _ e,Jjn a _,{_,zT _ rfl,rfl,rfl},fun b hb=>?_,q};have e:b=c.heap.objs.size:=by simpa using hb
 subst e;show d.fpOk (zD _) (d.hok.fresh (zD _))
theorem J7v{l:Expr}{tl:TE}(j:PE X l tl):PI X tg l (iTup X.K tl):=by
 intro pins s σ H R I h;show thn (j pins s σ H _ I h) fun v c m=>?_;let{x,n,d,f,g}:=m;let{a,e,{xs,i},q}:=g;subst e;cases f;let{its,r,p,u}:=d.tuple i;show sD (show c.heap.IsTuple a its.toArray from p) ?_;show{c.heap.objs.size,[c.heap.objs.size],_,_,n,rfl,d.kept (t':=c.toks) fun b o e=>zE _ e,Ji7 a _,{_,zT _ rfl,rfl,rfl},fun b hb=>?_,q};have e:b=c.heap.objs.size:=by simpa using hb
 subst e;show d.fpOk (zD _) (d.hok.fresh (zD _))
theorem Jp4{lo:Int}(I:Inv X pins σ H s)(g:-(2^62)<=lo)(f:lo<2^62)(d:-(2^62)<=hi)(c:hi<2^62)(q:R (Itr lo (hi-lo).toNat) H):wpAny (model X.prog X.w) X.A (pyIter (.ref s.heap.objs.size)) (PIE X pins σ tg R) E { s with heap:=s.heap.push { cls:=.type "range",data:=.fields #[.int lo t,.int hi u,.int 1 v] },toks:=tk }:=by
 show wpAny_pyIter_range (IsRange.new ..) (small_one g f d c) ?_;have a:Inv X pins σ H { s with heap:=s.heap.push { cls:=.type "range",data:=.fields #[.int lo t,.int hi u,.int 1 v] },toks:=tk }:=I.kept fun b o e=>zE _ e;show{(s.heap.push { cls:=.type "range",data:=.fields #[.int lo t,.int hi u,.int 1 v] }).objs.size,[(s.heap.push { cls:=.type "range",data:=.fields #[.int lo t,.int hi u,.int 1 v] }).objs.size],_,_,H,rfl,
  a.kept (t':=tk) fun b o e=>zE _ e,Ji9 _ lo (hi-lo).toNat,?_,fun b hb=>?_,q}
 .have i:lo+((0:Nat):Int)*1=lo:=by simp
  have h:(((hi-lo).toNat:Nat):Int)-((0:Nat):Int)=Builtin.Range.rangeSize lo hi 1:=by rw[rangeSize_one];split <;> lia
  rw[i,h];show zT _ rfl
 .have e:b=(s.heap.push { cls:=.type "range",data:=.fields #[.int lo t,.int hi u,.int 1 v] }).objs.size:=by simpa using hb
  subst e;show a.fpOk (zD _) (a.hok.fresh (zD _))
inductive iRng1R(R:It->Hp->Prop)(vs:List V)(a:Hp):Prop
 | mk(j:Int)(_:vs=[.int j])(_:-(2^62)<=j)(_:j<2^62)(_:R (Itr 0 j.toNat) a)
def iRng1(a:TA):TI:=fun σ H R=>a σ H fun vs b=>iRng1R R vs b
theorem J6v(i:Gl X "range")(g:X.mg "range"=none)(l:PA X [a] ta)(f:starEach [a] X.env=[(false,eval a X.env)]:=by rfl):PI X tg (.Call (.Name "range" p) [a] [] pos) (iRng1 ta):=by
 intro pins s σ H R I h;show Call_ (J75 I i g boot_range (tE (thn (l pos pins s σ H _ I h) fun us o m=>?_) f rfl));let{vs,u,n,c,b}:=m;let{j,e,b,d,q}:=b;subst e
 cases c with
 | cons r rr =>
  cases rr;let{t,rfl}:=r;show call_range_1 (Jp4 n () () b d (by simp_all))
def tFor(c:TI)(g:TG)(tb:TS):TS:=fun D σ H=>c σ H fun J e=>∃W:Nat->Nat->St->Hp->Prop,(∃m,W 0 m σ e)/\∀i m σ H,W i m σ H->
 (J.stop i H/\D.nx σ H)\/(J.go i H/\∃N:St->Hp->Prop,(∀σ' a,N σ' a->∃b,b<m/\W (i+1) b σ' a)/\∀x a,J.yld i H x a->g x σ a fun σ2 d=>tb { D with nx:=N,ct:=N,bk:=D.nx } σ2 d)
def Jd6(a:List Addr)(h:Heap):List (Addr×Obj):=a.filterMap fun b=>(h.get? b).map fun o=>(b,o)
theorem J5s(hb:b∈fp)(e:h.get? b=some o):(b,o)∈Jd6 fp h:=List.mem_filterMap.mpr {b,hb,by rw[e];rfl}
theorem Jlu(a:p∈Jd6 fp h):p.1∈fp/\h.get? p.1=some p.2:=by
 let{b,hb,e}:=List.mem_filterMap.mp a
 cases q:h.get? b with
 | none=>simp_all
 | some o =>
  rw[q] at e;have c:=zV e;subst c;show{hb,q}
theorem Inv.pinned(I:Inv X pins σ H s)(g:∀b∈fp,FpOk X pins H b)(f:∀b∈fp,∃o,s.heap.get? b=some o/\∀v,o.data≠.cell v):Inv X (pins++Jd6 fp s.heap) σ H s:=
 I.pins_of fun p c=>(yF.mp c).elim (fun z=>I.pin p (yW _ z)) fun z=>by
  let{hb,e}:=Jlu z;let{j,i,h,_}:=g p.1 hb;let{o,a,d}:=f p.1 hb;rw[e] at a;cases a;show{e,j,i,h,d}
theorem Inv.unpinned(I:Inv X (pins++pl) σ H s):Inv X pins σ H s:=I.pins_of fun p a=>I.pin p (yW _ (yT _ a))
theorem J2h(E:PassesOwn (model X.prog X.w) X.A X.env X.xe)(Y:X.calm=true)(hi:PI X tg iter wi)(hg:PG X tg g)(hb:PSs X body tb)(hs:∀x,foldedSetIterable iter X.env x=pure x:=by intro _;rfl):PS X (.For tg iter body [] pos) (tFor wi g tb):=by
 intro pins s σ H D I h;show wpAny_For (thn (hi pins s σ H _ I h) fun v s1 h1=>thn h1 fun aa s2 h2=>?_) hs;let{it,G,R,J,H2,e,I2,T,L,Z,W,{m0,w0},turn}:=h2;subst e;have a:∀{p:Hp},(∀b∈G,p b=none)->∀b∈G,FpOk X pins p b:=fun hn b hb=>{hn b hb,(Z b hb).2};show codeAny_forLoop_any (fun n s'=>∃i σ' p,Inv X pins σ' p s'/\R i s'.heap/\(∀b∈G,p b=none)/\W i n σ' p) ?_ m0 {0,σ,H2,I2,L,fun b hb=>(Z b hb).1,w0};rintro n U ⟨i,σ3,K,I3,B,F,w3⟩;rcases turn i n σ3 K w3 with⟨stop,qn⟩|⟨go,N,hN,step⟩
 .show vO E (thn (T.done X rfl rfl rfl Y i pins U σ3 K X.xe I3 (a F) B stop) fun r s4 z=>?_);let{O,I4}:=z;subst O;show wpAny_execs_nil {σ3,K,I4,qn}
 .show vO E (thn (T.item X rfl rfl rfl Y i pins U σ3 K X.xe I3 (a F) B go) fun r s4 z=>?_);let{u,O,h4}:=z;subst O;show vO E (thn h4 fun _ S z=>?_);let{x,H5,I5,r5,y5,y,P}:=z;have Q:=I5.pinned (a P) (T.obj _ _ y);show vO E (thn (hg _ S σ3 H5 x u _ Q r5 (step x H5 y5)) fun _ s6 z=>?_);let{σ6,H6,I6,q6}:=z;show vO E (thn (hb _ s6 σ6 H6 _ I6 q6) fun f M q=>?_);have c:∀{σ7:St} {l:Hp},Inv X (pins++Jd6 G S.heap) σ7 l M->N σ7 l->∃m,m<n/\∃i σ' p,Inv X pins σ' p M/\R i M.heap/\(∀b∈G,p b=none)/\W i m σ' p:=fun {σ7 l} j C=>by
   let{m',hm,w7}:=hN σ7 l C;show{m',hm,i+1,σ7,l,j.unpinned,T.keep _ _ _ y fun b hb o e=>(j.pin (b,o) (yW _ (yW _ (J5s hb e)))).1,fun b hb=>?_,w7};let{o,e,d}:=T.obj _ _ y b hb;show(j.pin (b,o) (yW _ (yW _ (J5s hb e)))).2.1
  cases f with
  | next=>let{σ7,l,j,C}:=q;show c j C
  | cont=>let{σ7,l,j,C}:=q;show c j C
  | brk=>let{σ7,l,j,q}:=q;show{σ7,l,j.unpinned,q}
  | ret v=>let{x7,σ7,l,j,r7,q}:=q;show{x7,σ7,l,j.unpinned,r7,q}
end
theorem J2m{K:Frag}{g:TG}{tb:TS}{D:Ends}(b:Nat->St->Hp->Prop)(o:b 0 σ H)(n:∀i σ H,i<=xs.length->b i σ H->SqL K H a xs)(l:∀i x σ H,xs[i]?=some x->b i σ H->g x σ H fun σ2 f=>tb { D with nx:=b (i+1),ct:=b (i+1),bk:=D.nx } σ2 f)(hd:∀σ H,b xs.length σ H->D.nx σ H):
  ∃W:Nat->Nat->St->Hp->Prop,(∃m,W 0 m σ H)/\∀i m σ H,W i m σ H->
   ((Itl K a).stop i H/\D.nx σ H)\/((Itl K a).go i H/\∃N:St->Hp->Prop,(∀σ' c,N σ' c->∃h,h<m/\W (i+1) h σ' c)/\∀x c,(Itl K a).yld i H x c->g x σ c fun σ2 f=>tb { D with nx:=N,ct:=N,bk:=D.nx } σ2 f):=by
 show{fun i m σ H=>m=xs.length-i/\i<=xs.length/\b i σ H,{xs.length,by simp,zO _,o},?_};rintro i m σ H ⟨rfl,hi,p⟩;have q:=n i σ H hi p;by_cases d:i<xs.length
 .show .inr {{xs,xs[i],q,by simp[d]},b (i+1),fun σ' c j=>{xs.length-(i+1),(),rfl,d,j},fun x c y=>?_};let{e,y}:=y;subst e;show l i x σ _ (y xs q) p
 .have e:i=xs.length:=()
  subst e;show .inl {{xs,q,zD _},hd σ H p}
theorem J9h{K:Frag}{g:TG}{tb:TS}{D:Ends}(b:Nat->St->Hp->Prop)(o:b 0 σ H)(n:∀i σ H,i<=xs.length->b i σ H->SqT K H a xs)(l:∀i x σ H,xs[i]?=some x->b i σ H->g x σ H fun σ2 f=>tb { D with nx:=b (i+1),ct:=b (i+1),bk:=D.nx } σ2 f)(hd:∀σ H,b xs.length σ H->D.nx σ H):
  ∃W:Nat->Nat->St->Hp->Prop,(∃m,W 0 m σ H)/\∀i m σ H,W i m σ H->
   ((Itt K a).stop i H/\D.nx σ H)\/((Itt K a).go i H/\∃N:St->Hp->Prop,(∀σ' c,N σ' c->∃h,h<m/\W (i+1) h σ' c)/\∀x c,(Itt K a).yld i H x c->g x σ c fun σ2 f=>tb { D with nx:=N,ct:=N,bk:=D.nx } σ2 f):=by
 show{fun i m σ H=>m=xs.length-i/\i<=xs.length/\b i σ H,{xs.length,by simp,zO _,o},?_};rintro i m σ H ⟨rfl,hi,p⟩;have q:=n i σ H hi p;by_cases d:i<xs.length
 .show .inr {{xs,xs[i],q,by simp[d]},b (i+1),fun σ' c j=>{xs.length-(i+1),(),rfl,d,j},fun x c y=>?_};let{e,y}:=y;subst e;show l i x σ _ (y xs q) p
 .have e:i=xs.length:=()
  subst e;show .inl {{xs,q,zD _},hd σ H p}
theorem J9i{lo:Int}{n:Nat}{g:TG}{tb:TS}{D:Ends}{σ:St}{H:Hp}(b:Nat->St->Hp->Prop)(l:b 0 σ H)(j:∀i σ H,i<n->b i σ H->g (.int (lo+i)) σ H fun σ2 d=>tb { D with nx:=b (i+1),ct:=b (i+1),bk:=D.nx } σ2 d)(hd:∀σ H,b n σ H->D.nx σ H):
  ∃W:Nat->Nat->St->Hp->Prop,(∃m,W 0 m σ H)/\∀i m σ H,W i m σ H->
   ((Itr lo n).stop i H/\D.nx σ H)\/((Itr lo n).go i H/\∃N:St->Hp->Prop,(∀σ' c,N σ' c->∃f,f<m/\W (i+1) f σ' c)/\∀x c,(Itr lo n).yld i H x c->g x σ c fun σ2 d=>tb { D with nx:=N,ct:=N,bk:=D.nx } σ2 d):=by
 show{fun i m σ H=>m=n-i/\i<=n/\b i σ H,{n,by simp,zO _,l},?_};rintro i m σ H ⟨rfl,hi,p⟩;by_cases a:i<n
 .show .inr {a,b (i+1),fun σ' c h=>{n-(i+1),(),rfl,a,h},fun x c y=>?_};let{e,y}:=y;subst e y;show j i σ _ a p
 .have e:i=n:=()
  subst e;show .inl {zD _,hd σ H p}
abbrev R2:=V->V->Hp->VK->Prop
def OpR(X:Cx)(f:Value->Value->Sem Value)(r:R2):Prop:=
 ∀(pins:List (Addr×Obj)) (s:Shared) (σ:St) (H:Hp) (x y:V) (v u:Value) (Q:VK),Inv X pins σ H s->RelV x v->RelV y u->r x y H Q->
  wpAny (model X.prog X.w) X.A (f v u) (EP X pins σ Q) X.xe s
def UnR(X:Cx)(f:Value->Sem Value)(r:V->Hp->VK->Prop):Prop:=
 ∀(pins:List (Addr×Obj)) (s:Shared) (σ:St) (H:Hp) (x:V) (v:Value) (Q:VK),Inv X pins σ H s->RelV x v->r x H Q->
  wpAny (model X.prog X.w) X.A (f v) (EP X pins σ Q) X.xe s
def J49(X:Cx)(f:Value)(r:List V->Hp->VK->Prop):Prop:=
 ∀(pins:List (Addr×Obj)) (s:Shared) (σ:St) (H:Hp) (xs:List V) (us:List Value) (Q:VK),Inv X pins σ H s->Vals xs us->r xs H Q->
  wpAny (model X.prog X.w) X.A (call f us) (EP X pins σ Q) X.xe s
def TruR(X:Cx)(r:V->Hp->(Bool->Hp->Prop)->Prop):Prop:=
 ∀(pins:List (Addr×Obj)) (s:Shared) (σ:St) (H:Hp) (x:V) (v:Value) (Q:Bool->Hp->Prop),Inv X pins σ H s->RelV x v->r x H Q->
  wpAny (model X.prog X.w) X.A (truthy v) (TP X pins σ Q) X.xe s
def tOp(r:R2)(a tb:TE):TE:=fun σ H Q=>a σ H fun x c=>tb σ c fun y b=>r x y b Q
def tUn(r:V->Hp->VK->Prop)(a:TE):TE:=fun σ H Q=>a σ H fun x b=>r x b Q
inductive rIR(C:Int->Int->Prop)(g:Int->Int->V)(x y:V)(H:Hp)(Q:VK):Prop
 | mk(i j:_)(_:x=.int i)(_:y=.int j)(_:C i j)(_:Q (g i j) H)
def rI(C:Int->Int->Prop)(g:Int->Int->V):R2:=fun x y H Q=>rIR C g x y H Q
inductive rI0R(g:Int->Int->V)(x y:V)(H:Hp)(Q:VK):Prop
 | mk(i j:_)(_:x=.int i)(_:y=.int j)(_:Q (g i j) H)
def rI0(g:Int->Int->V):R2:=fun x y H Q=>rI0R g x y H Q
inductive rUR(g:Int->V)(x:V)(H:Hp)(Q:VK):Prop
 | mk(i:_)(_:x=.int i)(_:Q (g i) H)
def rU(g:Int->V):V->Hp->VK->Prop:=fun x H Q=>rUR g x H Q
section
variable{X:Cx}{a b c:Expr}{ta tb tc:TE}{pos:Pos}
theorem binT(r:PE X a ta)(hb:PE X b tb){σ:St}{R:V->V->Hp->Prop}(I:Inv X pins σ H s)(h:ta σ H fun x g=>tb σ g fun y c=>R x y c){f:Value->Value->Sem Value}(q:∀v u d x y c,Inv X pins σ c d->RelV x v->RelV y u->R x y c->wpAny (model X.prog X.w) X.A (f v u) Q X.xe d):
  wpAny (model X.prog X.w) X.A (eval a X.env) (fun v j=>wpAny (model X.prog X.w) X.A (eval b X.env) (fun u i=>wpAny (model X.prog X.w) X.A (f v u) Q X.xe i) X.xe j) X.xe s:=by
 show thn (r pins s σ H _ I h) fun v l e=>?_;let{x,g,B,n,p}:=e;show thn (hb pins l σ g _ B p) fun u d e=>?_;let{y,c,z,m,o}:=e;show q v u d x y c z n m o
theorem Jj(f:OpR X (binaryOp op) r)(g:PE X a ta)(hb:PE X b tb):PE X (.BinOp a op b pos) (tOp r ta tb):=by
 intro pins s σ H Q I h;show wpAny_BinOp (binT g hb I h fun v u c x y j i e d q=>f pins c σ j x y v u Q i e d q)
theorem Jd9(e:UnR X (unaryOp op) r)(f:PE X a ta):PE X (.UnaryOp op a pos) (tUn r ta):=by
 intro pins s σ H Q I h;show UnaryOp_ (thn (f pins s σ H _ I h) fun v b g=>by let{x,j,i,c,d}:=g;show e pins b σ j x v Q i c d)
theorem opI{g:Int->Int->Int}(a:∀(i j:Int) (t u:Tok) (s:Shared) (Q:Value->Shared->Prop) (E:Value->Shared->Prop),C i j->Q (.int (g i j) s.toks) { s with toks:=s.toks+1 }->wpAny (model X.prog X.w) X.A (f (.int i t) (.int j u)) Q E s):
  OpR X f (rI C fun i j=>.int (g i j)):=by
 intro pins s σ H x y v u Q I c b h;let{i,j,rfl,rfl,d,q}:=h;let{t,rfl}:=c;let{t',rfl}:=b;show a i j t t' s _ _ d {.int (g i j),H,I.tok _,{_,rfl},q}
theorem opI0{g:Int->Int->Int}(a:∀(i j:Int) (t u:Tok) (s:Shared) (Q:Value->Shared->Prop) (E:Value->Shared->Prop),Q (.int (g i j) s.toks) { s with toks:=s.toks+1 }->wpAny (model X.prog X.w) X.A (f (.int i t) (.int j u)) Q E s):
  OpR X f (rI0 fun i j=>.int (g i j)):=by
 intro pins s σ H x y v u Q I c b h;let{i,j,rfl,rfl,q}:=h;let{t,rfl}:=c;let{t',rfl}:=b;show a i j t t' s _ _ {.int (g i j),H,I.tok _,{_,rfl},q}
theorem opB0{g:Int->Int->Bool}(a:∀(i j:Int) (t u:Tok) (s:Shared) (Q:Value->Shared->Prop) (E:Value->Shared->Prop),Q (.bool (g i j)) s->wpAny (model X.prog X.w) X.A (f (.int i t) (.int j u)) Q E s):
  OpR X f (rI0 fun i j=>.bl (g i j)):=by
 intro pins s σ H x y v u Q I c b h;let{i,j,rfl,rfl,q}:=h;let{t,rfl}:=c;let{t',rfl}:=b;show a i j t t' s _ _ {.bl (g i j),H,I,rfl,q}
def CDiv(i j:Int):Prop:=0<j/\j<1073741824
def CPow(i j:Int):Prop:=0<=j/\j<=1000000/\i.natAbs<2^64
def CMul(i j:Int):Prop:=(-(2^64)<i/\i<2^64)\/(-(2^64)<j/\j<2^64)
theorem CMul.ok(h:CMul i j):IntMulOk i j:=by
 rcases h with⟨h1,h2⟩|⟨h1,h2⟩
 .show .of_left (intBits_le_64 h1 h2)
 .show .of_right (intBits_le_64 h1 h2)
theorem J12:OpR X (binaryOp .Add) (rI0 fun i j=>.int (i+j)):=opI0 fun _ _ _ _ _ _ _ q=>add_int q
theorem J1j:OpR X (binaryOp .Sub) (rI0 fun i j=>.int (i-j)):=opI0 fun _ _ _ _ _ _ _ q=>sub_int q
theorem J94:OpR X (binaryOp .Mult) (rI CMul fun i j=>.int (i*j)):=opI fun _ _ _ _ _ _ _ a q=>mul_int q a.ok
theorem J4k:OpR X (binaryOp .FloorDiv) (rI CDiv fun i j=>.int (i/j)):=opI fun i j _ _ _ _ _ a q=>by
 have c:=a.1;have b:=a.2;show floordiv_int () (by rw[Int.fdiv_eq_ediv_of_nonneg i ()];show q) (.inl (PyProof.noPylong_small ()))
theorem J3c:OpR X (binaryOp .Mod) (rI (fun _ j=>0<j) fun i j=>.int (i%j)):=opI fun i j _ _ _ _ _ a q=>by
 show mod_int' () (by rw[Int.fmod_eq_emod_of_nonneg i ()];show q)
theorem Jkt:OpR X (binaryOp .Pow) (rI CPow fun i j=>.int (i^j.toNat)):=opI fun _ _ _ _ _ _ _ a q=>pow_int_small a.1 a.2.1 a.2.2 q
theorem unI{g:Int->Int}(a:∀(i:Int) (t:Tok) (s:Shared) (Q:Value->Shared->Prop) (E:Value->Shared->Prop),Q (.int (g i) s.toks) { s with toks:=s.toks+1 }->wpAny (model X.prog X.w) X.A (f (.int i t)) Q E s):
  UnR X f (rU fun i=>.int (g i)):=by
 intro pins s σ H x v Q I b h;let{i,rfl,q}:=h;let{t,rfl}:=b;show a i t s _ _ {.int (g i),H,I.tok _,{_,rfl},q}
theorem J7t:UnR X (unaryOp .USub) (rU fun i=>.int (-i)):=unI fun _ _ _ _ _ q=>neg_int q
end
def scal:V->V->Bool
 | .non,.non=>true|.non,.int _=>true|.int _,.non=>true|.non,.bl _=>true|.bl _,.non=>true|.non,.str _=>true|.str _,.non=>true
 | .int _,.int _=>true|.bl _,.bl _=>true|.str _,.str _=>true|.byt _,.byt _=>true
 | .int _,.str _=>true|.str _,.int _=>true|.bl _,.str _=>true|.str _,.bl _=>true
 | _,_=>false
def rEq:R2:=fun x y H Q=>scal x y=true/\Q (.bl (decide (x=y))) H
def rNe:R2:=fun x y H Q=>scal x y=true/\Q (.bl (!decide (x=y))) H
theorem Jne :decide (V.int i=V.int j)=(i==j):=by
 rw[vF];simp
theorem Js2 :decide (V.bl i=V.bl j)=(i==j):=by
 rw[vF];simp
theorem Jnd :decide (V.str i=V.str j)=(i==j):=by
 rw[vF];simp
theorem Jnf :decide (V.byt i=V.byt j)=(i.toList==j.toList):=by
 rw[vF];cases i;cases j;simp
section
variable{X:Cx}{a b c:Expr}{ta tb tc:TE}{pos:Pos}
theorem J1h(I:Inv X pins σ H s)(q:Q (.bl k) H)(e:k=k'):EP X pins σ Q (.bool k') s:=by
 subst e;show{.bl k,H,I,rfl,q}
theorem J44:OpR X (compareOp .Eq) rEq:=by
 intro pins s σ H x y v u Q I c a h;let{b,q}:=h
 cases x with
 | non =>
  cases c
  cases y with
  | non=>cases a;show PySem.EqNone.eq_none_none (J1h I q (by simp))
  | bl j=>cases a;show PySem.EqNone.eq_none_bool (J1h I q (by simp))
  | int j=>let{t',rfl}:=a;show PySem.EqNone.eq_none_int (J1h I q (by simp))
  | str j=>let{t',rfl}:=a;show PySem.EqNone.eq_none_str (J1h I q (by simp))
  | _=>show absurd (show false=true from b) yG
 | bl i =>
  cases c
  cases y with
  | non=>cases a;show PySem.EqNone.eq_bool_none (J1h I q (by simp))
  | bl j=>cases a;show eq_bool (J1h I q Js2)
  | str j=>let{t',rfl}:=a;show PySem.EqMixed.eq_bool_str (J1h I q (by simp))
  | _=>show absurd (show false=true from b) yG
 | int i =>
  let{t,rfl}:=c
  cases y with
  | non=>cases a;show PySem.EqNone.eq_int_none (J1h I q (by simp))
  | int j=>let{t',rfl}:=a;show eq_int (J1h I q Jne)
  | str j=>let{t',rfl}:=a;show PySem.EqMixed.eq_int_str (J1h I q (by simp))
  | _=>show absurd (show false=true from b) yG
 | str i =>
  let{t,rfl}:=c
  cases y with
  | non=>cases a;show PySem.EqNone.eq_str_none (J1h I q (by simp))
  | bl j=>cases a;show PySem.EqMixed.eq_str_bool (J1h I q (by simp))
  | int j=>let{t',rfl}:=a;show PySem.EqMixed.eq_str_int (J1h I q (by simp))
  | str j=>let{t',rfl}:=a;show eq_str (J1h I q Jnd)
  | _=>show absurd (show false=true from b) yG
 | byt i =>
  let{t,rfl}:=c
  cases y with
  | byt j=>let{t',rfl}:=a;show PySem.W.eq_bytes (J1h I q Jnf)
  | _=>show absurd (show false=true from b) yG
 | _=>cases y <;> show absurd (show false=true from b) yG
theorem J6w:OpR X (compareOp .NotEq) rNe:=by
 intro pins s σ H x y v u Q I c a h;let{b,q}:=h
 cases x with
 | non =>
  cases c
  cases y with
  | non=>cases a;show PySem.EqNone.ne_none_none (J1h I q (by simp))
  | bl j=>cases a;show PySem.EqNone.ne_none_bool (J1h I q (by simp))
  | int j=>let{t',rfl}:=a;show PySem.EqNone.ne_none_int (J1h I q (by simp))
  | str j=>let{t',rfl}:=a;show PySem.EqNone.ne_none_str (J1h I q (by simp))
  | _=>show absurd (show false=true from b) yG
 | bl i =>
  cases c
  cases y with
  | non=>cases a;show PySem.EqNone.ne_bool_none (J1h I q (by simp))
  | bl j=>cases a;show ne_bool (J1h I q (zP not Js2))
  | str j=>let{t',rfl}:=a;show PySem.EqMixed.ne_bool_str (J1h I q (by simp))
  | _=>show absurd (show false=true from b) yG
 | int i =>
  let{t,rfl}:=c
  cases y with
  | non=>cases a;show PySem.EqNone.ne_int_none (J1h I q (by simp))
  | int j=>let{t',rfl}:=a;show ne_int (J1h I q (zP not Jne))
  | str j=>let{t',rfl}:=a;show PySem.EqMixed.ne_int_str (J1h I q (by simp))
  | _=>show absurd (show false=true from b) yG
 | str i =>
  let{t,rfl}:=c
  cases y with
  | non=>cases a;show PySem.EqNone.ne_str_none (J1h I q (by simp))
  | bl j=>cases a;show PySem.EqMixed.ne_str_bool (J1h I q (by simp))
  | int j=>let{t',rfl}:=a;show PySem.EqMixed.ne_str_int (J1h I q (by simp))
  | str j=>let{t',rfl}:=a;show ne_str (J1h I q (zP not Jnd))
  | _=>show absurd (show false=true from b) yG
 | byt i =>
  let{t,rfl}:=c
  cases y with
  | byt j=>let{t',rfl}:=a;show PySem.W.ne_bytes (J1h I q (zP not Jnf))
  | _=>show absurd (show false=true from b) yG
 | _=>cases y <;> show absurd (show false=true from b) yG
theorem J95:OpR X (compareOp .Lt) (rI0 fun i j=>.bl (decide (i<j))):=opB0 fun _ _ _ _ _ _ _ q=>lt_int q
theorem op_le:OpR X (compareOp .LtE) (rI0 fun i j=>.bl (decide (i<=j))):=opB0 fun _ _ _ _ _ _ _ q=>le_int q
theorem J6x:OpR X (compareOp .Gt) (rI0 fun i j=>.bl (decide (j<i))):=opB0 fun _ _ _ _ _ _ _ q=>gt_int q
theorem Jtf:OpR X (compareOp .GtE) (rI0 fun i j=>.bl (decide (j<=i))):=opB0 fun _ _ _ _ _ _ _ q=>ge_int q
theorem op_isN:OpR X (compareOp .Is) (fun x y H Q=>y=.non/\Q (.bl (decide (x=.non))) H):=by
 intro pins s σ H x y v u Q I a b h;let{rfl,q}:=h;cases b;show is_none_gen (J1h I q ?_);cases x <;> first
  | (cases a;rfl)
  | (let{t,rfl}:=a;rfl)
theorem Jte:OpR X (compareOp .IsNot) (fun x y H Q=>y=.non/\Q (.bl (!decide (x=.non))) H):=by
 intro pins s σ H x y v u Q I a b h;let{rfl,q}:=h;cases b;show isnot_none_gen (J1h I q ?_);cases x <;> first
  | (cases a;rfl)
  | (let{t,rfl}:=a;rfl)
theorem Jp(b:Expr)(h:op≠.In:=by decide)(d:op≠.NotIn:=by decide):behindInMarks op b=false:=by
 have c:(op==CmpOp.In)=false:=by grind
 have a:(op==CmpOp.NotIn)=false:=by grind
 cases b <;> simp[behindInMarks,c,a]
theorem J69(f:OpR X (compareOp op) r)(i:PE X a ta)(hb:PE X b tb)(g:behindInMarks op b=false):PE X (.Compare a [op] [b] pos) (tOp r ta tb):=by
 intro pins s σ H Q I h;show wpAny_Compare1 (binT i hb I h fun v u c x y l j e d q=>f pins c σ l x y v u Q j e d q) g
inductive tTestR(Q:Bool->Hp->Prop)(x:V)(a:Hp):Prop
 | mk(k:_)(_:x=.bl k)(_:Q k a)
def tTest(t:TE):TT:=fun σ H Q=>t σ H fun x a=>tTestR Q x a
theorem Jk(p:OpR X (compareOp op) r)(w:PE X a ta)(hb:PE X b tb)(q:behindInMarks op b=false):PT X (.Compare a [op] [b] pos) (tTest (tOp r ta tb)):=by
 intro pins s σ H Q I h;show wpAny_isTrue_Compare1 (thn (w pins s σ H _ I h) fun v g d=>?_) q;let{x,F,C,l,o}:=d;show thn (hb pins g σ F _ C o) fun u f d=>?_;let{y,E,B,j,n}:=d;show thn (p pins f σ E x y v u _ B l j n) fun c G d=>?_;let{z,D,A,i,k,e,m}:=d;subst e;cases i;show vN {D,A,m}
def TruV(K:Frag)(x:V)(H:Hp)(k:Bool):Prop:=
 match x with
 | .non=>k=false
 | .bl b=>k=b
 | .int i=>k=(i != 0)
 | .str y=>y.length<=sizeLine/\k=((y.length:Int) != 0)
 | .byt y=>y.size<=sizeLine/\k=((y.size:Int) != 0)
 | .ref p=>(∃xs,SqL K H p xs/\k=!xs.isEmpty)\/(∃xs,SqT K H p xs/\k=!xs.isEmpty)\/∃kvs,H p=some (.dK kvs)/\k=!kvs.isEmpty
 | _=>False
theorem Jj2(r:KV kvs vs):(!vs.isEmpty)=!kvs.isEmpty:=by
 cases r <;> rfl
theorem Jav(r:Vals xs its):(!its.toArray.isEmpty)=!xs.isEmpty:=by
 cases r <;> simp
theorem Jau:(sizeLine:Nat)<2^63:=by decide
theorem tru_ok:TruR X (fun x H Q=>∃k,TruV X.K x H k/\Q k H):=by
 intro pins s σ H x v Q I d h;let{k,e,q}:=h;have n:=Jau;have l:=wC
 cases x with
 | non =>
  cases d;have a:=e;subst a;show truthy_none {H,I,q}
 | bl b =>
  cases d;have a:=e;subst a;show vN {H,I,q}
 | int i =>
  let{t,rfl}:=d;have a:=e;subst a;show PySem.P.truthy_int {H,I,q}
 | str y =>
  let{t,rfl}:=d;obtain⟨g,a⟩:y.length<=sizeLine/\k=((y.length:Int) != 0):=e;subst a;show PySem.P.truthy_str () {H,I.tok _,q}
 | byt y =>
  let{t,rfl}:=d;obtain⟨g,a⟩:y.size<=sizeLine/\k=((y.size:Int) != 0):=e;subst a;show PySem.W.truthy_bytes () {H,I.tok _,q}
 | ref p =>
  cases d;have a:(∃xs,SqL X.K H p xs/\k=!xs.isEmpty)\/(∃xs,SqT X.K H p xs/\k=!xs.isEmpty)\/∃kvs,H p=some (.dK kvs)/\k=!kvs.isEmpty:=e;rcases a with⟨xs,hx,a⟩|⟨xs,hx,a⟩|⟨kvs,hx,a⟩
  .subst a;let{its,r,pl,f}:=I.list hx;have c:=r.length;show wpAny_truthy_list pl.isList (by simp only[zS];lia) {H,I.tok _,by rw[Jav r];show q}
  .subst a;let{its,r,pl,f}:=I.tuple hx;have c:=r.length;show truthy_tuple pl (by simp only[zS];lia) {H,I.tok _,by rw[Jav r];show q}
  .subst a;obtain⟨f,j,vs,r,m⟩:kvs.length<=sizeLine/\(p==sysModules)=false/\∃vs,KV kvs vs/\s.heap.DictOf (J2b X.prog X.w) p vs:=I.hok p _ hx;have c:kvs.length=vs.length:=Paired.length r;show wpAny_truthy_dict j m () {H,I.tok _,by rw[Jj2 r];show q}
 | _=>show(show False from e).elim
theorem Jpb(g:PE X a ta)(f:∀whole,isTrue a X.env whole=(do let v <- whole;standAt a.pos;holding [v] (truthy v))):
  PT X a (fun σ H Q=>ta σ H fun x b=>∃k,TruV X.K x b k/\Q k b):=by
 intro pins s σ H Q I h;show isTrue_plain (thn (g pins s σ H _ I h) fun v c i=>by let{x,l,j,d,e}:=i;show tru_ok pins c σ l x v Q j d e) (f _)
theorem J6j(r:Vals [x] us):∃u,us=[u]/\RelV x u:=by
 cases r with
 | cons r1 r2=>cases r2;show{_,rfl,r1}
theorem Js7(r:Vals [x,y] us):∃u a,us=[u,a]/\RelV x u/\RelV y a:=by
 cases r with
 | cons r1 r2 =>
  cases r2 with
  | cons r3 r4=>cases r4;show{_,_,rfl,r1,r3}
theorem Jr0:J49 X (.builtin "abs") (fun xs H Q=>∃i,xs=[.int i]/\Q (.int (if i<0 then -i else i)) H):=by
 intro pins s σ H xs us Q I r h;let{i,rfl,q}:=h;let{u,rfl,t,rfl}:=J6j r;show call_abs_int fun u a=>{.int (if i<0 then -i else i),H,I.tok _,{_,rfl},q}
theorem Jno(b:X.calm=true):J49 X (.builtin "max") (fun xs H Q=>∃i j,xs=[.int i,.int j]/\Q (.int (if j>i then j else i)) H):=by
 intro pins s σ H xs us Q I r h;let{i,j,rfl,q}:=h;let{u,c,rfl,{t,rfl},{t',rfl}}:=Js7 r;show max_two_ints (I.ok.hd b) fun h' d k=>{_,H,I.kept k,?_,q};by_cases a:j>i
 .rw[if_pos a,if_pos a];show{_,rfl}
 .rw[if_neg a,if_neg a];show{_,rfl}
theorem Ja8(b:X.calm=true):J49 X (.builtin "min") (fun xs H Q=>∃i j,xs=[.int i,.int j]/\Q (.int (if j<i then j else i)) H):=by
 intro pins s σ H xs us Q I r h;let{i,j,rfl,q}:=h;let{u,c,rfl,{t,rfl},{t',rfl}}:=Js7 r;show min_two_ints (I.ok.hd b) fun h' d k=>{_,H,I.kept k,?_,q};by_cases a:j<i
 .rw[if_pos a,if_pos a];show{_,rfl}
 .rw[if_neg a,if_neg a];show{_,rfl}
end
structure ObjM(h:Heap)(x dx C:Addr)(mA:Str->Option Value):Prop where
 obj:h.get? x=some (instObj C dx)
 ns:h.Ns1 dx mA
 ne:dx≠x
theorem Jm2{h:Heap}(n:h.Ns1 dx mA):∃c,h.get? dx=some c/\∀name,lookIn name c=some (mA name):=by
 let{o,d,ep,g,hd,j,_,i}:=n;show{o,g,fun name=>?_};have e:=i name;unfold nsFind findBy at e;rw[<- Array.find?_toList] at e;unfold lookIn;rw[hd];dsimp only;split
 .rename_i y q;rw[q] at e;show zP some e
 .rename_i q;rw[q] at e;have a:d.toList.any (·.refKey)=false:=by
   rw[List.any_eq_false];intro y f;let{z,t,b}:=j y (Array.mem_toList_iff.mp f);simp[DictEntry.refKey,b]
  have l:¬ d.toList.any (·.refKey)=true:=by rw[a];show yG
  rw[if_neg l];show zP some e
theorem ObjM.look(I:ObjM h x dx C mA):∃a,PySem.W.InstAt h x (instObj C dx) C (some a)/\∀name,lookIn name a=some (mA name):=
 let ⟨a,ho,hl⟩:=Jm2 I.ns
 {a,{I.obj,rfl,rfl,ho},hl}
section
variable{prog:Program}{w:World}{A:Around}{E:Value->Shared->Prop}{s:Shared}{K:Frag}{x dx C f:Addr}{mA:Str->Option Value}{name:Str}{v:Value}
theorem Ju9(X:K.In s.heap)(I:ObjM s.heap x dx C mA)(e:plainGet K C name=true)(d:hasDictIn K C=true)(f:findIn K (.ref C) name=some none)(b:mA name=some v)(a:handedIn v=true)(h:Q v { s with toks:=s.toks+1 }):
  wpAny (model prog w) A (getAttr (.ref x) name expr) Q E s:=by
 let{g,J,c}:=I.look;show PySem.W.get_value X J (plainGet_of e).1 (PySem.W.findObj_own d f rfl (by rw[c,b])) a h
theorem Jqs(X:K.In s.heap)(I:ObjM s.heap x dx C mA)(a:plainGet K C name=true)(g:findIn K (.ref C) name=some (some (.ref f)))(d:isFn K (.ref f)=true)(c:mA name=none)(h:Q (.ref f,[.ref x]) s):
  wpAny (model prog w) A (getMethod (.ref x) name pl) Q E s:=by
 let{b,J,e}:=I.look;show PySem.W.method_fn X J (plainGet_of a).1 (plainGet_of a).2 g (xU.mp d) (by change(lookIn name b).map (·.isSome)=some false;rw[e,c];rfl) h
theorem Jsi(X:K.In s.heap)(I:ObjM s.heap x dx C mA)(m:findIn K (.ref C) "__setattr__"=some (some (.builtin "object.__setattr__")))(n:plainOver K C=true)(l:takerIn K C name=some none)(o:hasDictIn K C=true)(hw:PySem.Within mA ns)(hsz:ns.length<=sizeLine)(h:∀h',ObjM h' x dx C (fun y=>if y=name then some v else mA y)->Heap.SameBut dx s.heap h'->Q Unit.unit { s with heap:=h',toks:=s.toks+2 }):
  wpAny (model prog w) A (setAttr (.ref x) name v) Q E s:=by
 let{z,J,D}:=I.look;show PySem.W.set_plain X J m (PySem.W.osa_open (s:={ s with toks:=s.toks+1 }) (r:=none) X J n l fun b=>?_);let{F,p,g}:=PySem.W.any_some o;have j:=I.obj;show zA (zC (zA (zA (wpAny_loadPart j (zA (PySem.W.Looks.here (s:={ s with toks:=s.toks+1 }) (PySem.W.looks_clsIn X p) ?_))))));rw[g];show zC (a:=some dx) (zA (zC (zA ?_)));show wpAny_nsSet1 (s:={ s with toks:=s.toks+1 }) I.ns fun h' d c=>?_;let{B,q,u,e,f,i}:=d.count (PySem.Within.cons name v hw);show zA (wpAny_lookBehind e (by rw[f];show pastItsLine_dict (zM i (by grind))) ?_);show zC (h _ {(c.2 _ (Ne.symm I.ne)).trans I.obj,d,I.ne} c)
theorem Jqd(X:K.In s.heap)(a:makesIn K C=true)(hi:findIn K (.ref C) "__init__"=some (some (.ref f)))(b:PySem.W.typeIn K (.ref f)=some (.type "function"))(h:codeAny (model prog w) (A.under (.builtin "type.__call__" {.ref C::vs,kw})) (.call (.ref f) {.ref (s.heap.objs.size+1)::vs,kw}) (PySem.W.InitBack (s.heap.objs.size+1) R)
   { s with heap:=(s.heap.push emptyDict).push (instObj C s.heap.objs.size) }):
  codeAny (model prog w) A (.call (.ref C) {vs,kw}) R s:=by
 show PySem.W.make_core (PySem.W.makes_of X a) (PySem.W.looks_findIn X hi) (fun self=>PySem.W.bind_fn X self b) (.inl rfl) h
end
def putF(f:Str)(v:V):List (Str×V)->List (Str×V)
 | []=>[(f,v)]
 | (g,x)::r=>if g=f then (g,v)::r else (g,x)::putF f v r
theorem J4n(f g:Str)(v:V):∀fs ,(putF f v fs).lookup g=if g=f then some v else fs.lookup g
 | []=>by
  change List.lookup g [(f,v)]=_;by_cases h:g=f
  .have hb:=xU.mpr h;simp only[List.lookup,hb,if_pos h]
  .have hb:=tF.mpr h;simp only[List.lookup,hb,if_neg h]
 | (k,x)::r=>by
  have b:=J4n f g v r;rw[show putF f v ((k,x)::r)=(if k=f then (k,v)::r else (k,x)::putF f v r) from rfl];by_cases a:k=f
  .rw[if_pos a];by_cases h:g=k
   .have hb:=xU.mpr h;simp only[List.lookup,hb,if_pos (h.trans a)]
   .have hb:=tF.mpr h;simp only[List.lookup,hb,if_neg (fun e:g=f=>h (e.trans a.symm))]
  .rw[if_neg a];by_cases h:g=k
   .have hb:=xU.mpr h;simp only[List.lookup,hb,if_neg (fun e =>a (h.symm.trans e))]
   .have hb:=tF.mpr h;simp only[List.lookup,hb];show b
theorem J9c(f:Str)(v:V):∀fs ,f∈(putF f v fs).map (·.1)/\∀g,g∈fs.map (·.1)->g∈(putF f v fs).map (·.1)
 | []=>{by simp[putF],fun g h=>by simp at h}
 | (k,x)::r=>by
  let{b,a}:=J9c f v r;rw[show putF f v ((k,x)::r)=(if k=f then (k,v)::r else (k,x)::putF f v r) from rfl]
  grind
theorem J21(f:Str)(v:V):∀fs ,(putF f v fs).length<=fs.length+1
 | []=>by simp[putF]
 | (k,x)::r=>by
  have a:=J21 f v r;rw[show putF f v ((k,x)::r)=(if k=f then (k,v)::r else (k,x)::putF f v r) from rfl]
  grind
theorem RelO.some_of(r:RelO (some v) o):∃u,o=some u/\RelV v u:=by
 cases o with
 | none=>show(show False from r).elim
 | some u=>show{u,rfl,r}
theorem RelO.none_of(r:RelO none o):o=none:=by
 cases o with
 | none=>rfl
 | some u=>show(show False from r).elim
theorem Jmp(r:RelV v u):handedIn u=true:=by
 cases v with
 | non=>cases (show u=Value.none from r);rfl
 | bl b=>cases (show u=Value.bool b from r);rfl
 | int i=>let{t,e}:=(show ∃t,u=Value.int i t from r);cases e;rfl
 | str x=>let{t,e}:=(show ∃t,u=Value.str x t from r);cases e;rfl
 | byt b=>let{t,e}:=(show ∃t,u=Value.bytes b t from r);cases e;rfl
 | flt b=>let{t,e}:=(show ∃t,u=Value.float b t from r);cases e;rfl
 | ref a=>cases (show u=Value.ref a from r);rfl
 | ty n=>cases (show u=Value.type n from r);rfl
section
variable{P:Program}{w:World}{H H':Hp}{h h':Heap}{a C dx:Addr}{fs fs':List (Str×V)}
theorem Jc3(hok:HOk P w H h)(e:H a=some (.ins C dx fs)):∃b,ObjM h a dx C b/\(∀f,RelO (fs.lookup f) (b f))/\PySem.Within b (fs.map (·.1))/\fs.length<=1000/\H dx=some (.own a):=by
 let{d,z,ne,c,b,n,r,q}:=(show J2t P w H h a (.ins C dx fs) from hok a _ e);show{b,{c,n,ne},r,q,z,d}
end
structure Cls(K:Frag)(C:Addr):Prop where
 pg:plainGet K C Str.empty=true
 hd:hasDictIn K C=true
 po:plainOver K C=true
 sa:findIn K (.ref C) "__setattr__"=some (some (.builtin "object.__setattr__"))
theorem Cls.get{K:Frag}(c:Cls K C)(f:Str):plainGet K C f=true:=c.pg
def J17(K:Frag)(C:Addr)(f:Str):Prop:=findIn K (.ref C) f=some none
theorem J17.taker{K:Frag}(n:J17 K C f):takerIn K C f=some none:=by
 unfold takerIn;rw[show findIn K (.ref C) f=some none from n];rfl
structure Meth(K:Frag)(C:Addr)(m:Str)(f:Addr):Prop where
 at_:findIn K (.ref C) m=some (some (.ref f))
 fn:isFn K (.ref f)=true
 kp:keepIn K (.ref f)=true
section
variable{X:Cx}{pins:List (Addr×Obj)}{σ:St}{H:Hp}{s:Shared}{a C dx:Addr}{fs:List (Str×V)}{f:Str}{v:V}{A:Around}{E:Value->Shared->Prop}
theorem Jj3(I:Inv X pins σ H s)(e:H a=some (.ins C dx fs))(c:Cls X.K C)(n:J17 X.K C f)(l:fs.lookup f=some v)(h:∀u s',Inv X pins σ H s'->RelV v u->Q u s'):wpAny (model X.prog X.w) A (getAttr (.ref a) f b) Q E s:=by
 let{g,O,r,_,_,_}:=Jc3 I.hok e;let{u,i,d}:=RelO.some_of (v:=v) (o:=g f) (by rw[<- l];show r f);show Ju9 I.kIn O (c.get f) c.hd n i (Jmp d) (h u _ (I.tok _) d)
theorem Jaw(I:Inv X pins σ H s)(e:H a=some (.ins C dx fs))(c:Cls X.K C)(k:Meth X.K C m g)(l:fs.lookup m=none)(h:Q (.ref g,[.ref a]) s):wpAny (model X.prog X.w) A (getMethod (.ref a) m pl) Q E s:=by
 let{d,O,r,_,_,_}:=Jc3 I.hok e;have b:=RelO.none_of (by rw[<- l];show r m);show Jqs I.kIn O (c.get m) k.at_ k.fn b h
theorem Jic(I:Inv X pins σ H s)(e:H a=some (.ins C dx fs))(c:Cls X.K C)(n:J17 X.K C f)(F:fs.length<1000)(p:RelV y u)(h:∀s',Inv X pins σ (upd H a (.ins C dx (putF f y fs))) s'->Q Unit.unit s'):wpAny (model X.prog X.w) A (setAttr (.ref a) f u) Q E s:=by
 let{j,O,r,i,_,l}:=Jc3 I.hok e;have v:(fs.map (·.1)).length<=sizeLine:=by rw[zB,wC];lia
 show Jsi I.kIn O c.sa c.po n.taker c.hd i v fun h' d m=>h _ ?_;have hd:∃o,h'.get? dx=some o:=by let{o,_,_,D,_}:=d.ns;show{o,D}
 show I.write (x:=a) (e:=dx) (by rw[e];show True.intro) (.inr l) (fun b q hb z=>(m.2 b hb).trans z) hd ?_;show{by rw[Jf O.ne];show l,?_,O.ne,d.obj,_,d.ns,fun g=>?_,fun g B=>?_}
 .have:=J21 f y fs;lia
 .change RelO ((putF f y fs).lookup g) (if g=f then some u else j g);rw[J4n];by_cases q:g=f
  .rw[if_pos q,if_pos q];show p
  .rw[if_neg q,if_neg q];show r g
 .by_cases q:g=f
  .rw[q];show(J9c f y fs).1
  .show(J9c f y fs).2 g (i g fun z=>B ?_);change(if g=f then some u else j g)=none;rw[if_neg q];show z
theorem Inv.made(I:Inv X pins σ H s):Inv X pins σ (upd (upd H s.heap.objs.size (.own (s.heap.objs.size+1))) (s.heap.objs.size+1) (.ins C s.heap.objs.size []))
  { s with heap:=(s.heap.push emptyDict).push (instObj C s.heap.objs.size) }:=by
 have c:(s.heap.push emptyDict).get? s.heap.objs.size=some emptyDict:=zT s.heap rfl;have h:((s.heap.push emptyDict).push (instObj C s.heap.objs.size)).get? (s.heap.objs.size+1)=some (instObj C s.heap.objs.size):=by
  have:=zT (s.heap.push emptyDict) (o:=instObj C s.heap.objs.size) rfl;rwa [wR] at this
 have g:(s.heap.push emptyDict).Ns s.heap.objs.size (fun _=>none):={emptyDict,#[],_,c,rfl,(fun e f=>absurd f (by simp)),fun _=>rfl};have i:=I.laid (a:=s.heap.objs.size) (o:=.own (s.heap.objs.size+1)) (h':=s.heap.push emptyDict) (t':=s.toks) (fun b u q=>zE _ q) (zD _) {_,c};show i.laid (a:=s.heap.objs.size+1) (o:=.ins C s.heap.objs.size []) (t':=s.toks) (fun b u q=>zE _ q) (Nat.le_of_eq (wR _ _)) ?_;have ne:s.heap.objs.size≠s.heap.objs.size+1:=zQ (vP _);show{by rw[Jf ne,J2],zO _,ne,h,fun _=>none,(Heap.Ns1.of_empty g).at fun o q=>zE _ q,fun _=>True.intro,fun y d=>absurd rfl d}
theorem Jue(hb:attributeBase e f env (eval e env)=eval e env)(h:wpAny (model prog w) A (eval e env) (fun o a=>wpAny (model prog w) A (getAttr o f true) Q E a) E s):wpAny (model prog w) A (eval (.Attribute e f pos) env) Q E s:=
 Attribute_any_ h (by rw[arm_eval_Attribute,hb])
end
inductive tFldR(K:Frag)(f:Str)(Q:VK)(x:V)(b:Hp):Prop
 | mk(a C c fs v:_)(_:x=.ref a)(_:b a=some (.ins C c fs))(_:Cls K C)(_:J17 K C f)(_:fs.lookup f=some v)(_:Q v b)
def tFld(K:Frag)(a:TE)(f:Str):TE:=fun σ H Q=>a σ H fun x b=>tFldR K f Q x b
inductive sFldR(K:Frag)(f:Str)(D:Ends)(σ:St)(y x:V)(c:Hp):Prop
 | mk(a C b fs:_)(_:x=.ref a)(_:c a=some (.ins C b fs))(_:Cls K C)(_:J17 K C f)(_:fs.length<1000)(_:D.nx σ (upd c a (.ins C b (putF f y fs))))
def sFld(K:Frag)(b a:TE)(f:Str):TS:=fun D σ H=>a σ H fun y d=>b σ d fun x c=>sFldR K f D σ y x c
section
variable{X:Cx}{o e value:Expr}{f:Str}{pos pos' tpos:Pos}{ta tv:TE}
theorem J8(g:PE X e ta)(hb:attributeBase e f X.env (eval e X.env)=eval e X.env:=by rfl):PE X (.Attribute e f pos) (tFld X.K ta f):=by
 intro pins s σ H Q I h;show Jue hb (thn (g pins s σ H _ I h) fun u y i=>?_);let{x,p,o,b,a,C,z,fs,v,ex,j,c,n,l,q}:=i;subst ex;obtain rfl:u=Value.ref a:=b;show Jj3 o j c n l fun r w m d=>{v,p,m,d,q}
theorem J1s(r:PE X o ta)(m:PE X value tv)(p:swapsWith value (some (.Attribute o f pos')) pos.line X.env=pure false):PS X (.Assign [.Attribute o f pos'] value pos) (sFld X.K ta tv f):=by
 intro pins s σ H D I h;show plainObj_wpAny_Assign_Attribute (thn (m pins s σ H _ I h) fun u d b=>?_) p;let{y,B,A,e,q}:=b;show thn (r pins d σ B _ A q) fun j F b=>?_;let{x,J,z,g,a,C,G,fs,ex,v,c,n,l,i}:=b;subst ex;obtain rfl:j=Value.ref a:=g;show Jic z v c n l e fun E w=>{σ,_,w,i}
end
section
variable{X:Cx}{pins:List (Addr×Obj)}{σ:St}{H:Hp}{s:Shared}{A:Around}{E Q:Value->Shared->Prop}{c:Value}{b:Bool}
inductive TyOf(K:Frag)(H:Hp):V->Value->Prop where
 | non:TyOf K H .non (.type "NoneType")
 | bl (x:Bool):TyOf K H (.bl x) (.type "bool")
 | int (i:Int):TyOf K H (.int i) (.type "int")
 | str (x:Str):TyOf K H (.str x) (.type "str")
 | flt (x:UInt64):TyOf K H (.flt x) (.type "float")
 | lst {a:Addr} {xs:List V} (e:H a=some (.lst xs)):TyOf K H (.ref a) (.type "list")
 | frz {a:Addr} {o:Obj} {xs:List V} (e:H a=some (.frz o (.lst xs))):TyOf K H (.ref a) (.type "list")
 | tup {a:Addr} {xs:List V} (e:H a=some (.tup xs)):TyOf K H (.ref a) (.type "tuple")
 | dK {a:Addr} {kvs:List (Key×V)} (e:H a=some (.dK kvs)):TyOf K H (.ref a) (.type "dict")
 | dT {a:Addr} {kvs:List (List Key×V)} (e:H a=some (.dT kvs)):TyOf K H (.ref a) (.type "dict")
 | ins {a C dx:Addr} {fs:List (Str×V)} (e:H a=some (.ins C dx fs)) (cl:Cls K C) (ha:findIn K (.ref C) "__class__"=some (some (.builtin "object.__class__")))
   (hn:specialIn K (.builtin "object.__class__") "__get__"=some (some (.builtin "getset_descriptor.__get__"))) (htk:PySem.W.takesIn K (.builtin "object.__class__")=some true)
   (hm:PySem.W.mroIn K C (.type "object")=some true):TyOf K H (.ref a) (.ref C)
theorem Jmi(I:Inv X pins σ H s)(d:RelV x u)(j:TyOf X.K H x t)(e:kitOne X.K t c=some b)(h:∀l,Q (.bool b) { s with toks:=l }):
  wpAny (model X.prog X.w) A (call (.builtin "isinstance") [u,c]) Q E s:=by
 cases j with
 | non=>cases (show u=Value.none from d);show wD PySem.W.kitx_none I.kIn True.intro e (fun z=>nomatch z) h
 | bl y=>cases (show u=Value.bool y from d);show wD PySem.W.kitx_bool I.kIn True.intro e (fun z=>nomatch z) h
 | int i=>let{t,q}:=(show ∃t,u=Value.int i t from d);cases q;show wD PySem.W.kitx_int I.kIn True.intro e (fun z=>nomatch z) h
 | str y=>let{t,q}:=(show ∃t,u=Value.str y t from d);cases q;show wD PySem.W.kitx_str I.kIn True.intro e (fun z=>nomatch z) h
 | flt y=>let{t,q}:=(show ∃t,u=Value.float y t from d);cases q;show wD PySem.W.kitx_float I.kIn True.intro e (fun z=>nomatch z) h
 | @lst a xs ea =>
  cases (show u=Value.ref a from d);let{_,_,n,_,f}:=(show J2t X.prog X.w H s.heap a (.lst xs) from I.hok a _ ea);show wD PySem.W.kitx_list I.kIn {_,f,rfl} e (fun z=>nomatch z) h
 | @frz a ob xs ea =>
  cases (show u=Value.ref a from d);let{_,_,_,n,_,f}:=(show J2t X.prog X.w H s.heap a (.frz ob (.lst xs)) from I.hok a _ ea);show wD PySem.W.kitx_list I.kIn {_,f,rfl} e (fun z=>nomatch z) h
 | @tup a xs ea =>
  cases (show u=Value.ref a from d);let{_,_,_,p}:=(show J2t X.prog X.w H s.heap a (.tup xs) from I.hok a _ ea);let{o,f,g,_}:=p;show wD PySem.W.kitx_tuple I.kIn {o,f,g.1} e (fun z=>nomatch z) h
 | @dK a kvs ea =>
  cases (show u=Value.ref a from d);let{_,_,vs,_,p}:=(show J2t X.prog X.w H s.heap a (.dK kvs) from I.hok a _ ea);let{o,m,ep,f,g,_}:=p;show wD PySem.W.kitx_dict I.kIn {o,f,g.1} e (fun z=>nomatch z) h
 | @dT a kvs ea =>
  cases (show u=Value.ref a from d);let{_,_,xs,_,o,m,ep,f,g,_}:=(show J2t X.prog X.w H s.heap a (.dT kvs) from I.hok a _ ea);show wD PySem.W.kitx_dict I.kIn {o,f,g.1} e (fun z=>nomatch z) h
 | @ins a C dx fs ea cl ha hn htk hm =>
  cases (show u=Value.ref a from d);let{v,O,_}:=Jc3 I.hok ea;let{r,J,_}:=O.look;show wD (PySem.W.kitx_own (cl.get _) cl.hd ha hn htk hm) I.kIn J e (fun z=>nomatch z) h
end
structure Room(k:Nat)(A:Around):Prop where
 hd:A.handled=none
 dp:A.depth+3*k+5<recursionLimit
 un:A.units+16*k+200<cLine
theorem Room.mono(r:Room k A)(h:j<=k):Room j A:={r.hd,by have:=r.dp;lia,by have:=r.un;lia}
theorem Room.deeper(r:Room (k+1) A)(env:Env):Room k (A.deeper env):=
 {r.hd,by have:=r.dp;change A.depth+1+3*k+5<_;lia,by have:=r.un;change A.units+3+16*k+200<_;lia}
theorem Room.in1{k:Nat}{A:Around}(r:Room (k+1) A):Room k A.in1:=
 {r.hd,by have:=r.dp;change A.depth+3*k+5<_;lia,by have:=r.un;change A.units+1+16*k+200<_;lia}
theorem Jix{A:Around}:(A.under (.builtin "type.__call__" {.ref C::us,kw})).depth=A.depth+1:=by
 rfl
theorem Jiw{A:Around}:(A.under (.builtin "type.__call__" {.ref C::us,kw})).units=A.units+1:=by
 rfl
theorem Room.make(r:Room (k+1) A)(C:Addr)(us:List Value)(a:List (Str×Value)):Room k (A.under (.builtin "type.__call__" {.ref C::us,a})) :=
 {r.hd,by have:=r.dp;rw[Jix];lia,by have:=r.un;rw[Jiw];lia}
theorem Room.depth(r:Room k A):A.depth<recursionLimit:=by have:=r.dp;lia
theorem Room.units(r:Room k A):A.units+64<cLine:=by have:=r.un;lia
theorem Room.units0(r:Room k A):A.units<cLine:=by have:=r.un;lia
def tNil:TA:=fun _ H Q=>Q [] H
def Jny(b:TE)(a:TA):TA:=fun σ H Q=>b σ H fun x d=>a σ d fun xs c=>Q (x::xs) c
section
variable{X:Cx}{e:Expr}{es:List Expr}{te:TE}{t:TA}{pos:Pos}
theorem J1:PA X [] tNil:=fun _ _ _ _ H Q I h=>Calls.spliced_nil {[],H,I,.nil,h}
theorem dZ(l:PE X e te)(j:PA X es t)(i:starEach (e::es) X.env=(false,eval e X.env)::starEach es X.env:=by rfl):PA X (e::es) (Jny te t):=by
 intro pos pins s σ H Q I h;rw[i];show sE (thn (l pins s σ H _ I h) fun u b a=>?_);let{x,p,n,d,g}:=a;show thn (j pos pins b σ p _ n g) fun us q a=>by let{xs,o,m,c,f}:=a;show{x::xs,o,m,.cons d c,f}
def tTup(t:TA):TE:=fun σ H Q=>t σ H fun xs a=>xs.length<=sizeLine/\∀p,a p=none->Q (.ref p) (upd a p (.tup xs))
def tLst(t:TA):TE:=fun σ H Q=>t σ H fun xs a=>xs.length<=sizeLine/\∀p,a p=none->Q (.ref p) (upd a p (.lst xs))
theorem J1y(h:PA X es t):PE X (.Tuple es x1 pos) (tTup t):=by
 intro pins s σ H Q I d;show wpAny_Tuple_spliced (thn (h pos pins s σ H _ I d) fun us a g=>?_);let{xs,i,c,r,z,q}:=g;show{by rw[<- r.length];show z,?_};have f:=c.hok.fresh (zD _);show{.ref a.heap.objs.size,upd i a.heap.objs.size (.tup xs),c.laid (t':=a.toks) (fun b u e=>zE _ e) (zD _) ?_,rfl,q _ f};show{z,us,r,{_,zT _ rfl,{rfl,rfl},_,rfl}}
theorem J1z(h:PA X es t):PE X (.List es pos) (tLst t):=by
 intro pins s σ H Q I d;show wpAny_List_spliced (thn (h pos pins s σ H _ I d) fun us a g=>?_);let{xs,i,c,r,z,q}:=g;show{by rw[<- r.length];show z,?_};have f:=c.hok.fresh (zD _);show{.ref a.heap.objs.size,upd i a.heap.objs.size (.lst xs),c.laid (t':=a.toks) (fun b u e=>zE _ e) (zD _) ?_,rfl,q _ f};show{z,us,0,r,zT _ rfl}
end
abbrev Sp:=List V->Hp->VK->XK->Prop
abbrev CXT:=List Env->Hp->Shared->XK->Value->Shared->Prop
structure Env0(P:Program)(w:World)(K:Frag)(mg:Str->Option Value)(base:Heap)(A:Around)(outer:List Env)(s:Shared)(H:Hp):Prop where
 frames:A.frames=some outer
 mod:Mod K mg base
 bs:∀b o,base.get? b=some o->s.heap.get? b=some o/\H b=none
 bsz:base.objs.size<=s.heap.objs.size
 funs:s.heap.FunFrames base outer
 frf:∀b∈frs outer,H b=none
 hok:HOk P w H s.heap
 bare:AllBare s.gens
def CE(outer:List Env)(P:Program)(w:World)(H:Hp)(s:Shared)(Q:VK)(u:Value)(s':Shared):Prop:=
 ∃v a,s'.os=s.os/\AllBare s'.gens/\Un (frs outer) [] H a s.heap s'.heap/\HOk P w a s'.heap/\RelV v u/\Q v a
def CR(CX:CXT)(outer:List Env)(P:Program)(w:World)(H:Hp)(s:Shared)(Q:VK)(E:XK)(r:Result)(s':Shared):Prop:=
 match r with
 | .ok (.ret u)=>CE outer P w H s Q u s'
 | .ok _=>False
 | .error e=>CX outer H s E e s'
structure FnOk(P:Program)(w:World)(K:Frag)(mg:Str->Option Value)(base:Heap)(CX:CXT)(k:Nat)(f:Addr)(fd:FuncData)(ps:List Str)(sp:Sp):Prop where
 len:∀vs H Q E,sp vs H Q E->vs.length=ps.length
 run:∀(A:Around) (outer:List Env) (s:Shared) (H:Hp) (args:Args) (us:List Value) (vs:List V) (Q:VK) (E:XK),Room k A->Env0 P w K mg base A outer s H->BindsTo s fd args (ps.zip us)->Vals vs us->sp vs H Q E->
  codeAny (model P w) A (.call (.ref f) args) (CR CX outer P w H s Q E) s
theorem Env0.make{K:Frag}(e:Env0 P w K mg base A outer s H)(C:Addr)(us:List Value)(a:List (Str×Value)):
  Env0 P w K mg base (A.under (.builtin "type.__call__" {.ref C::us,a})) outer s H:={by first|show e.frames|grind,e.mod,e.bs,e.bsz,e.funs,e.frf,e.hok,e.bare}
theorem Env0.in1{P:Program}{w:World}{K:Frag}{mg:Str->Option Value}{base:Heap}{A:Around}{outer:List Env}{s:Shared}{H:Hp}(e:Env0 P w K mg base A outer s H):
  Env0 P w K mg base A.in1 outer s H:={e.frames,e.mod,e.bs,e.bsz,e.funs,e.frf,e.hok,e.bare}
section
variable{X:Cx}{pins:List (Addr×Obj)}{σ:St}{H:Hp}{s s':Shared}
theorem Inv.env0(I:Inv X pins σ H s):Env0 X.prog X.w X.K X.mg X.base X.A X.stack s H:=
 {I.ok.frames,I.ok.mod,I.bs,zM I.ok.bsz I.sz,I.stack,I.stkFree,I.hok,I.bare}
theorem Inv.after(I:Inv X pins σ H s)(h:CE X.stack X.prog X.w H s Q u s'):EP X pins σ Q u s':=by
 let{v,e,os,bare,un,hok,r,q}:=h;let{c,g,d,t,a}:=s';obtain rfl:a=s.os:=os;show{v,e,I.call (h':=c) (g':=g) (d':=d) (t':=t) (ch:=[]) un hok bare (fun b z=>absurd z (by simp)),r,q}
end
def Jnz(sp:Sp)(dvs:List V)(E:XK)(t:TA):TE:=fun σ H Q=>t σ H fun vs a=>sp (vs++dvs) a Q E
def tMake(C:Addr)(sp:Sp)(dvs:List V)(E:XK)(t:TA):TE:=fun σ H Q=>t σ H fun vs b=>∀x a,b x=none->b a=none->a≠x->
 sp (.ref x::(vs++dvs)) (upd (upd b a (.own x)) x (.ins C a [])) (fun v c=>v=.non/\Q (.ref x) c) E
def J33(K:Frag)(fd:FuncData)(ps:List Str)(a:List Value):Prop:=
 ∀(s:Shared) (us:List Value),K.In s.heap->(us++a).length=ps.length->BindsTo s fd {us,[]} (ps.zip (us++a))
theorem J33.all{K:Frag}(h:∀us ,us.length=ps.length->bindArgs fd {us,[]}=pure (ps.zip us)):J33 K fd ps []:=fun s us _ a=>by
 rw[yM] at a ⊢;show .of_eq (h us a)
def J5m(CX:CXT)(X:Cx)(E:XK):Prop:=∀(pins:List (Addr×Obj)) (σ:St) (H:Hp) (s:Shared) (e:Value) (s':Shared),Inv X pins σ H s->CX X.stack H s E e s'->X.xe e s'
section
variable{X:Cx}{CX:CXT}{k:Nat}{f C:Addr}{fd:FuncData}{ps:List Str}{sp:Sp}{dvs:List V}{ds:List Value}{E:XK}{x m:Str}{p pos apos:Pos}{e o:Expr}{es:List Expr}{ta:TE}{t:TA}
theorem Jgw(F:FnOk X.prog X.w X.K X.mg X.base CX k f fd ps sp)(d:Room k X.A)(hb:J33 X.K fd ps ds)(hd:Vals dvs ds)(c:J5m CX X E)(I:Inv X pins σ H s)(r:Vals vs us)(h:sp (vs++dvs) H Q E):wpAny (model X.prog X.w) X.A (call (.ref f) us) (EP X pins σ Q) X.xe s:=by
 have b:=r.append hd;have g:(us++ds).length=ps.length:=by rw[<- b.length];show F.len _ _ _ _ h
 show wpAny_call (uJ (F.run X.A X.stack s H {us,[]} (us++ds) (vs++dvs) Q E d I.env0 (hb s us I.kIn g) b h) fun r s' a=>?_)
 cases r with
 | error e=>show c pins σ H s e s' I a
 | ok fl =>
  cases fl with
  | ret u=>show I.after a
  | next=>show False.elim a
  | brk=>show False.elim a
  | cont=>show False.elim a
theorem Jtc(F:FnOk X.prog X.w X.K X.mg X.base CX k f fd ps sp)(g:Room k X.A)(l:Gl X x)(i:X.mg x=some (.ref f))(j:keepIn X.K (.ref f)=true)(hb:J33 X.K fd ps ds)(hd:Vals dvs ds)(d:J5m CX X E)(n:PA X (e::es) t)(b:(x==("__debug__":Str))=false:=by decide)(m:starEach (e::es) X.env=(false,eval e X.env)::starEach es X.env:=by rfl)(a:(backTo pos (starEach es X.env)).any (·.1)=false:=by rfl):
  PE X (.Call (.Name x p) (e::es) [] pos) (Jnz sp dvs E t):=by
 intro pins s σ H Q I h;show vQ (Jc0 I l i ?_ b);show callWith_K (h₀:=X.base) I.ok.mod.kin j (thn (n pos pins s σ H _ I h) fun us u o=>?_) m a;let{vs,v,c,r,q}:=o;show{c.kIn,?_};show Jgw F g hb hd d c r q
structure Mk(K:Frag)(C f:Addr):Prop where
 makes:makesIn K C=true
 init:findIn K (.ref C) "__init__"=some (some (.ref f))
 fn:isFn K (.ref f)=true
 kp:keepIn K (.ref C)=true
theorem Joy{pins:List (Addr×Obj)}{σ:St}{H:Hp}{s:Shared}{Q:VK}{us:List Value}{vs:List V}(M:Mk X.K C f)(F:FnOk X.prog X.w X.K X.mg X.base CX k f fd ps sp)(m:Room (k+1) X.A)(hb:J33 X.K fd ps ds)(hd:Vals dvs ds)(l:J5m CX X E)(I:Inv X pins σ H s)(r:Vals vs us)(h:∀x b,H x=none->H b=none->b≠x->sp (.ref x::(vs++dvs)) (upd (upd H b (.own x)) x (.ins C b [])) (fun v q=>v=.non/\Q (.ref x) q) E):
  wpAny (model X.prog X.w) X.A (call (.ref C) us) (EP X pins σ Q) X.xe s:=by
 have g:=h (s.heap.objs.size+1) s.heap.objs.size (I.hok.fresh (wI _)) (I.hok.fresh (zD _)) (zQ (vP _));have c:=Inv.made (C:=C) I;have d:Vals (V.ref (s.heap.objs.size+1)::(vs++dvs)) (Value.ref (s.heap.objs.size+1)::(us++ds)):=.cons rfl (r.append hd);have n:(Value.ref (s.heap.objs.size+1)::us++ds).length=ps.length:=by
  have e:=d.length;rw[F.len _ _ _ _ g] at e;show e.symm
 show wpAny_call (Jqd (f:=f) I.kIn M.makes M.init (xU.mp M.fn) (uJ (F.run _ X.stack _ _ {Value.ref (s.heap.objs.size+1)::us,[]} (Value.ref (s.heap.objs.size+1)::(us++ds)) _ _ E (m.make C us [])
  (c.env0.make C us []) (hb _ (Value.ref (s.heap.objs.size+1)::us) c.kIn n) d g) fun r s' a=>?_))
 cases r with
 | error e=>show l pins σ _ _ e s' c a
 | ok fl =>
  cases fl with
  | ret u =>
   let{v,y,p,i,o,j}:=c.after a;subst o;show{i,{V.ref (s.heap.objs.size+1),y,p,rfl,j}}
  | next=>show False.elim a
  | brk=>show False.elim a
  | cont=>show False.elim a
theorem J68(M:Mk X.K C f)(F:FnOk X.prog X.w X.K X.mg X.base CX k f fd ps sp)(g:Room (k+1) X.A)(j:Gl X x)(i:X.mg x=some (.ref C))(hb:J33 X.K fd ps ds)(hd:Vals dvs ds)(d:J5m CX X E)(m:PA X (e::es) t)(b:(x==("__debug__":Str))=false:=by decide)(l:starEach (e::es) X.env=(false,eval e X.env)::starEach es X.env:=by rfl)(a:(backTo pos (starEach es X.env)).any (·.1)=false:=by rfl):
  PE X (.Call (.Name x p) (e::es) [] pos) (tMake C sp dvs E t):=by
 intro pins s σ H Q I h;show vQ (Jc0 I j i ?_ b);show callWith_K (h₀:=X.base) I.ok.mod.kin M.kp (thn (m pos pins s σ H _ I h) fun us o n=>?_) l a;let{vs,u,c,r,q}:=n;show{c.kIn,?_};show Joy M F g hb hd d c r q
end
structure Jt(N P:List Str)(sc:Scope):Prop where
 kind:sc.kind=.function
 co:sc.isCoroutine=false
 gen:sc.isGenerator=false
 nd:N.Nodup
 pre:N.take P.length=P
 par:∀x∈P,sc.names.lookup x=some .local\/sc.names.lookup x=some .cell
 nofree:∀y∈sc.names,y.2≠.free
theorem Je6{b:Str->Option NameKind}:∀{a:List (Str×Value)} {m:Str->Option Value},(∀v,(x,v) ∉ a)->bindL b a m x=m x
 | [],_,_=>rfl
 | (n,v)::r,m,h=>by
  unfold bindL;rw[Je6 fun w hw=>h w (zK _ hw)];split
  .have:x≠n:=by rintro rfl;show h v zJ
   simp[this]
  .rfl
theorem Je8{b:Str->Option NameKind}:∀{a:List (Str×Value)} {m:Str->Option Value},(∀v,(x,v) ∉ a)->bindC b a m x=m x
 | [],_,_=>rfl
 | (n,v)::r,m,h=>by
  unfold bindC;rw[Je8 fun w hw=>h w (zK _ hw)];split
  .rfl
  .have:x≠n:=by rintro rfl;show h v zJ
   simp[this]
theorem Je7{a:Str->Option NameKind}:∀{P:List Str} {vs:List Value} {i:Nat} {m:Str->Option Value},P.Nodup->P[i]?=some x->vs[i]?=some v->a x=some .local->
  bindL a (P.zip vs) m x=some v
 | [],_,_,_,_,h,_,_=>by simp at h
 | _::_,[],_,_,_,_,h,_=>by simp at h
 | p::P,w::vs,0,m,nd,h1,h2,hk=>by
  simp at h1 h2;subst h1;subst h2;change bindL a ((p,w)::P.zip vs) m p=_;unfold bindL;rw[Je6 fun v b=>(yN.mp nd).1 (List.of_mem_zip b).1,if_pos hk];simp
 | p::P,w::vs,i+1,m,nd,h1,h2,hk=>by
  change bindL a ((p,w)::P.zip vs) m x=_;show Je7 (i:=i) (yN.mp nd).2 (by simpa using h1) (by assumption) hk
theorem Je9{a:Str->Option NameKind}:∀{P:List Str} {vs:List Value} {i:Nat} {m:Str->Option Value},P.Nodup->P[i]?=some x->vs[i]?=some v->a x≠some .local->
  bindC a (P.zip vs) m x=some v
 | [],_,_,_,_,h,_,_=>by simp at h
 | _::_,[],_,_,_,_,h,_=>by simp at h
 | p::P,w::vs,0,m,nd,h1,h2,hk=>by
  simp at h1 h2;subst h1;subst h2;change bindC a ((p,w)::P.zip vs) m p=_;unfold bindC;rw[Je8 fun v b=>(yN.mp nd).1 (List.of_mem_zip b).1,if_neg hk];simp
 | p::P,w::vs,i+1,m,nd,h1,h2,hk=>by
  change bindC a ((p,w)::P.zip vs) m x=_;show Je9 (i:=i) (yN.mp nd).2 (by simpa using h1) (by assumption) hk
def start(N:List Str)(vs:List V):St:=vs.map some++replicate (N.length-vs.length) none
def cxOf(CX:CXT)(P:Program)(w:World)(K:Frag)(mg:Str->Option Value)(base:Heap)(N:List Str)(qual:Str)(a:Scope)(f:Addr)(c:Value)(A:Around)(outer:List Env)(s:Shared)(H:Hp)(E:XK):Cx where
 prog:=P
 w:=w
 K:=K
 mg:=mg
 base:=base
 A:=A.deeper (envOfC qual a s.heap.objs.size f c)
 N:=N
 s₀:=s
 H₀:=H
 env:=envOfC qual a s.heap.objs.size f c
 outer:=outer
 stack:=envOfC qual a s.heap.objs.size f c::outer
 ex:=[]
 calm:=true
 fn:=fun _=>true
 pn:=[]
 xe:=fun e s'=>wpAny (model P w) (A.deeper (envOfC qual a s.heap.objs.size f c)) (leaving (envOfC qual a s.heap.objs.size f c) e) (fun _ b=>CX outer H s E e b) (fun d b=>CX outer H s E d b) s'
theorem Jhy{a:Scope}(h:a.names.lookup x=some .cell):∃c,(cellsFrom n a.names []).lookup x=some c:=by
 have q:=PySem.W.cellsFrom_some a.names n [] (.inl h);show sF.mp q
theorem Jmj{K:Frag}(S:Jt N ps scope)(hd:A.handled=none)(g:Env0 P w K mg base A outer s H)(L:vs.length=ps.length)(r:Vals vs us)(x:InCallC s s.heap.objs.size (bindL (envOfC qual scope s.heap.objs.size f cd).kindOf (ps.zip us) fun _=>none) (cellsFrom (s.heap.objs.size+1) scope.names []) (bindC (envOfC qual scope s.heap.objs.size f cd).kindOf (ps.zip us) fun _=>none) s1):
  Inv (cxOf CX P w K mg base N qual scope f cd A outer s H E) [] (start N vs) H s1:=by
 have G:ps.length<=N.length:=by have:=zP List.length S.pre;rw[xQ] at this;lia
 let{B,J,rfl,D}:=x.done;have j:∀b ,b ∉ (cxOf CX P w K mg base N qual scope f cd A outer s H E).ex:=fun b z=>absurd (show b∈([]:List Addr) from z) (by simp);show{{g.mod,S.kind,rfl,rfl,zD _,fun y z c B d=>?_,fun y l=>?_,fun y c _ h=>?_,fun _=>hd,Around.frames_deeper g.frames,.inr {rfl,rfl},fun b z=>absurd z (j b),g.bs,g.bsz,fun b _ _=>j b,fun b z=>absurd z (j b),g.funs,g.frf},
  rfl,g.bare,Un.kept D,{_,x.toInCall.ns,fun i y v B d M=>?_},fun y c h=>{_,x.cell y c h},g.hok.fresh (zD _),fun y c h=>?_,fun p o=>absurd (show p∈([]:List (Addr×Obj)) from o) (by simp),g.hok.kept D,?_}
 .show name_of_addr x.apart (yO B) (yO d)
 .have l:=l;rcases l with l|l
  .show Jhy l
  .show absurd rfl (S.nofree _ (yO l))
 .show yJ (x.above y c (yO h))
 .have hi:i<vs.length:=by
   unfold start at d;by_cases hi:i<vs.length
   .show hi
   .rw[yP (by simpa using hi)] at d;rw[tG] at d;split at d <;> cases d
  have I:vs[i]?=some v:=by
   unfold start at d;rw[yQ (by simpa using hi),zY] at d
   cases e:vs[i]? with
   | none=>rw[e] at d;cases d
   | some a=>rw[e] at d;cases d;rfl
  let{u,C,F}:=r.get I;have o:ps[i]?=some y:=by
   rw[<- S.pre,List.getElem?_take_of_lt ()];show B
  have m:ps.Nodup:=by rw[<- S.pre];show S.nd.sublist (List.take_sublist _ _)
  show{u,F,?_};rcases S.par y (wU o) with k|k
  .show .inl {k,Je7 m o C k}
  .let{c,e}:=Jhy (n:=s.heap.objs.size+1) k;show .inr {.inl k,c,e,?_};have q:=x.cell y c e;rw[Je9 m o C (by change scope.names.lookup y≠_;rw[k];decide)] at q;show q
 .show g.hok.fresh (yJ (x.above y c (yO h)))
 .unfold start;change _=N.length;rw[zN,zB,wE];lia
theorem Jua{K:Frag}{kV:Value}(C:K.lookup f=some {oc,od,.func (fnOf name qual params body scope dV kV doc pm an cdv ct),osl})(p:codeIn K cdv qual=true)(S:Jt N ps scope)(len:∀vs H Q E,sp vs H Q E->vs.length=ps.length)(d:∀(A:Around) (outer:List Env) (s:Shared) (H:Hp) (vs:List V) (Q:VK) (E:XK),Room k (A.deeper (envOfC qual scope s.heap.objs.size f cdv))->sp vs H Q E->
   ∃t,PSs (cxOf CX P w K mg base N qual scope f cdv A outer s H E) body t/\t { nx:=fun _ a=>Q .non a,rt:=Q } (start N vs) H):
  FnOk P w K mg base CX (k+1) f (fnOf name qual params body scope dV kV doc pm an cdv ct) ps sp:=by
 show{len,fun A outer s H args us vs Q E m i hb r h=>?_};have L:=len _ _ _ _ h;have B:=i.mod.kin.keeps fun b o e=>(i.bs b o e).1;have l:=i.mod.nolimit.keeps fun b o e=>(i.bs b o e).1;have c:∀y∈ps.zip us,scope.names.lookup y.1=some .local\/(scope.names.lookup y.1=some .cell/\((cellsFrom (s.heap.objs.size+1) scope.names []).lookup y.1).isSome=true):=fun O D=>by
  let{n,v}:=O;rcases S.par n (List.of_mem_zip D).1 with q|q
  .show .inl q
  .show .inr {q,PySem.W.cellsFrom_some _ _ _ (.inl q)}
 show codeAny_call_function m.depth (B _ _ C) rfl S.co S.gen rfl (PySem.W.codeRec_of B p) (hb _ _ _ _ ?_);show wpAny_newFunctionEnv_cells S.kind c fun env M z x=>?_;subst M;show{l.keeps x.toInCall.keep,codeAny_func ?_};let{t,F,G}:=d A outer s H vs Q E (m.deeper _) h;have I:Inv (cxOf CX P w K mg base N qual scope f cdv A outer s H E) [] (start N vs) H z:=Jmj S m.hd i L r x;show yK (F [] z (start N vs) H _ I G) (fun R s' g=>?_) fun e s' g=>g;have fin:∀{σ':St} {a:Hp} {v:V} {u:Value},Inv (cxOf CX P w K mg base N qual scope f cdv A outer s H E) [] σ' a s'->RelV v u->Q v a->CE outer P w H s Q u s':=
  fun {σ' a v u} J j q=>{v,a,J.os,J.bare,J.base,J.hok,j,q}
 cases R with
 | ret u =>
  let{v,σ',a,J,j,q}:=g;show fin J j q
 | next =>
  let{σ',a,J,q}:=g;show fin (v:=V.non) (u:=Value.none) J rfl q
 | brk =>
  let{_,_,_,q}:=g;show False.elim q
 | cont =>
  let{_,_,_,q}:=g;show False.elim q
section
variable{X:Cx}{x:Str}{p pos:Pos}{e:Expr}{es:List Expr}{t:TA}{id T:String}{r:List V->Hp->VK->Prop}
def tCB(r:List V->Hp->VK->Prop)(t:TA):TE:=fun σ H Q=>t σ H fun vs a=>r vs a Q
theorem J1d(n:J49 X (.builtin id) r)(l:Gl X x)(j:X.mg x=none)(g:bootBuiltins x=some (.builtin id))(o:PA X (e::es) t)(i:x≠"__name__":=by decide)(b:(x==("__debug__":Str))=false:=by decide)(m:starEach (e::es) X.env=(false,eval e X.env)::starEach es X.env:=by rfl)(a:(backTo pos (starEach es X.env)).any (·.1)=false:=by rfl):PE X (.Call (.Name x p) (e::es) [] pos) (tCB r t):=by
 intro pins s σ H Q I h;show vQ (J75 I l j g ?_ i b);show callWith_builtin1 (thn (o pos pins s σ H _ I h) fun us c q=>by let{vs,v,u,d,f}:=q;show n pins c σ v vs us Q u d f) m a
theorem J2z(n:J49 X (.type T) r)(l:Gl X x)(j:X.mg x=none)(g:bootBuiltins x=some (.type T))(o:PA X (e::es) t)(i:x≠"__name__":=by decide)(b:(x==("__debug__":Str))=false:=by decide)(m:starEach (e::es) X.env=(false,eval e X.env)::starEach es X.env:=by rfl)(a:(backTo pos (starEach es X.env)).any (·.1)=false:=by rfl):PE X (.Call (.Name x p) (e::es) [] pos) (tCB r t):=by
 intro pins s σ H Q I h;show vQ (J75 I l j g ?_ i b);show tE (thn (o pos pins s σ H _ I h) fun us c q=>by let{vs,v,u,d,f}:=q;show n pins c σ v vs us Q u d f) m a
end
end L2
namespace HT
open PySem PyProof.Rows
section
variable{prog:Program}{w:World}{A:Around}{E:Value->Shared->Prop}{s:Shared}
def sIx(n d:Nat):Option Int->Nat
 | none=>d
 | some v=>if v<0 then (v+(n:Int)).toNat else min v.toNat n
theorem sIx_none(n d:Nat):sIx n d none=d:=rfl
theorem sIx_nat(n d k:Nat):sIx n d (some (k:Int))=min k n:=by
 rfl
theorem sIx_le(n d:Nat)(hd:d<=n)(o:Option Int):sIx n d o<=n:=by
 cases o with
 | none=>show hd
 | some v =>
  change(if v<0 then (v+(n:Int)).toNat else min v.toNat n)<=n
  grind
theorem Jnm(v:Int)(n d:Nat):(if v<0 then max (v+(n:Int)) 0 else min v (n:Int))=((sIx n d (some v):Nat):Int):=by
 change(if v<0 then max (v+(n:Int)) 0 else min v (n:Int))=(((if v<0 then (v+(n:Int)).toNat else min v.toNat n):Nat):Int)
 grind
theorem Jjk(lo hi:Option Int)(n:Nat):Builtin.Slice.sliceAdjust lo hi 1 (n:Int)=(((sIx n 0 lo:Nat):Int),((sIx n n hi:Nat):Int)):=by
 show Prod.ext ?_ ?_
 .cases lo with
  | none=>rfl
  | some v=>show Jnm v n 0
 .cases hi with
  | none=>rfl
  | some v=>show Jnm v n n
theorem Jij(i j:Nat):Builtin.Slice.slicePlaces (i:Int) (j:Int) 1=j-i:=by
 unfold Builtin.Slice.slicePlaces
 grind
theorem Jaj(p:IsPart v o)(h:Q o s):wpAny (model prog w) A (Builtin.Slice.slicePartIndex v) Q E s:=by
 cases p with
 | none=>show slicePart_none h
 | int i t=>show slicePart_int h
theorem J87{lo:Option Int}{n:Nat}(d:s.heap.IsSliceOf sl vl vu .none)(pl:IsPart vl lo)(c:IsPart vu hi)(h:Q (((sIx n 0 lo:Nat):Int),1,sIx n n hi-sIx n 0 lo) s):wpAny (model prog w) A (Builtin.Slice.sliceApplied (.ref sl) (pure (n:Int))) Q E s:=by
 let{os,a,e,b}:=id d;show zA (zA (xR a b (x:=vl) rfl (zA (xR a b (x:=vu) rfl (zA (xR a b (x:=.none) rfl (zC ?_)))))));show zA (slicePart_none ?_);show zA (Jaj pl (zA (Jaj c (zA (zC ?_)))));change wpAny _ _ (match Builtin.Slice.sliceAdjust lo hi 1 (n:Int) with|(lo,hi)=>pure (lo,(1:Int),Builtin.Slice.slicePlaces lo hi 1)) _ _ s;rw[Jjk lo hi n];change wpAny _ _ (pure (((sIx n 0 lo:Nat):Int),(1:Int),Builtin.Slice.slicePlaces ((sIx n 0 lo:Nat):Int) ((sIx n n hi:Nat):Int) 1)) _ _ s;rw[Jij];show zC h
theorem Jpc(xs:Array Value)(i k:Nat):((List.range k).filterMap fun(m:Nat)=>xs[((i:Int)+(m:Int)*1).toNat]?).toArray=((xs.toList.drop i).take k).toArray:=by
 have e:(fun(m:Nat)=>xs[((i:Int)+(m:Int)*1).toNat]?)=fun m=>xs[i+m]?:=by
  funext m
  have:((i:Int)+(m:Int)*1).toNat=i+m:=()
  rw[this]
 rw[e];have:=pick_run xs i k;rw[List.filterMap_map] at this;have a:((fun x=>xs[x]?)∘fun x=>i+x)=fun m=>xs[i+m]?:=rfl;rw[a] at this;rw[this]
theorem getItem_tuple_cut{lo:Option Int}(b:IsTup s.heap t items)(g:s.heap.IsSliceOf sl vl vu .none)(pl:IsPart vl lo)(i:IsPart vu hi)(hw:¬ (sIx items.size 0 lo=0/\sIx items.size items.size hi=items.size))(h:Q (.ref s.heap.objs.size) { s with heap:=s.heap.push { cls:=.type "tuple",data:=.seq ((items.toList.drop (sIx items.size 0 lo)).take (sIx items.size items.size hi-sIx items.size 0 lo)).toArray } })(hsz:items.size<=sizeLine):wpAny (model prog w) A (getItem (.ref t) (.ref sl)) Q E s:=by
 have a:sizeOk (.seq ((items.toList.drop (sIx items.size 0 lo)).take (sIx items.size items.size hi-sIx items.size 0 lo)).toArray):=by
  change((items.toList.drop (sIx items.size 0 lo)).take (sIx items.size items.size hi-sIx items.size 0 lo)).toArray.size<=sizeLine;rw[zS,xQ,wV,yL];lia
 have l:sIx items.size items.size hi<=items.size:=sIx_le _ _ (zD _) hi;let{os,c,e,j}:=id g;have f:s.TypeIs (.ref sl) "slice":={os,c,e};unfold getItem
 try with_reducible show xP ?_
 show zA (wpAny_sequenceKey b.typeIs (by decide) ?_);show zA (wW (name:=Str.ofString "__getitem__") b.typeIs PyProof.Rows.slot_tuple_getitem
  (xG PyProof.Rows.slot_tuple_getitem b.typeIs entry_tuple_getitem ?_ (args_tuple_getitem _ _)))
 change wpAny _ _ (Builtin.Tuple.tupleItemsOf (.ref t) >>= _) _ _ s;show zA (tupleItemsOf_ b ?_);show zA (wpAny_typeOf f ?_);show zA (J87 g pl i ?_);have d:¬ ((((sIx items.size 0 lo:Nat):Int)==0&&(1:Int)==1&&(sIx items.size items.size hi-sIx items.size 0 lo)==items.size)=true):=by
  grind
 change wpAny _ _ (if (((sIx items.size 0 lo:Nat):Int)==0&&(1:Int)==1&&(sIx items.size items.size hi-sIx items.size 0 lo)==items.size)=true then _ else _) _ _ s;rw[if_neg d,Jpc]
 first
  | show zA (m:=Builtin.Tuple.tupleExact _) (vG (zC {_,rfl,zC h}) a)
  | grind
  | show zA (zA (m:=Builtin.Tuple.tupleExact _) (vG (zC (zC {_,rfl,zC h})) a))
  | show zA (zA (m:=Builtin.Tuple.tupleExact _) (vG (zC {_,rfl,zC h}) a))
end
end HT
namespace L2
open PySem PySem.Spec PyProof.Rows
abbrev TO:=St->Hp->(Option Int->Hp->Prop)->Prop
def PO(X:Cx)(e:Option Expr)(t:TO):Prop:=
 ∀(pins:List (Addr×Obj)) (s:Shared) (σ:St) (H:Hp) (Q:Option Int->Hp->Prop),Inv X pins σ H s->t σ H Q->
  wpAny (model X.prog X.w) X.A (evalPart e X.env) (fun u s'=>∃o a,Inv X pins σ a s'/\IsPart u o/\Q o a) X.xe s
def Js9:TO:=fun _ H Q=>Q none H
inductive tPartR(Q:Option Int->Hp->Prop)(x:V)(a:Hp):Prop
 | mk(i:_)(_:x=.int i)(_:Q (some i) a)
def tPart(t:TE):TO:=fun σ H Q=>t σ H fun x a=>tPartR Q x a
theorem J28 :∀{us:List Value},Vals (ns.map V.int) us->IntsAre us ns:=by
 induction ns with
 | nil=>intro us r;cases r;show .nil
 | cons n ns ih =>
  intro us r
  cases r with
  | cons r1 r2 =>
   let{t,e}:=r1;subst e;show .cons n t (ih r2)
section
variable{X:Cx}{e:Expr}{te:TE}{lo hi:Option Expr}{tl th:TO}{pos p2:Pos}
theorem Jf4:PO X none Js9:=by
 intro pins s σ H Q I h;show zC {none,H,I,.none,h}
theorem Jf3(h:PE X e te):PO X (some e) (tPart te):=by
 intro pins s σ H Q I hw;show thn (h pins s σ H _ I hw) fun u g c=>?_;let{x,f,d,a,b}:=c;let{i,rfl,q}:=b;let{t,rfl}:=a;show{some i,f,d,.int i t,q}
def SlR(X:Cx)(r:V->Option Int->Option Int->Hp->VK->Prop):Prop:=
 ∀(pins:List (Addr×Obj)) (s:Shared) (σ:St) (H:Hp) (x:V) (v b a:Value) (lo hi:Option Int) (c:Addr) (Q:VK),Inv X pins σ H s->RelV x v->s.heap.IsSliceOf c b a .none->IsPart b lo->IsPart a hi->r x lo hi H Q->
  ∃T id,typeLookup (.type T) "__getitem__"=pure (some (.builtin id))/\s.TypeIs v T/\wpAny (model X.prog X.w) X.A (getItem v (.ref c)) (EP X pins σ Q) X.xe s
def tSl(r:V->Option Int->Option Int->Hp->VK->Prop)(b:TE)(tl a:TO):TE:=fun σ H Q=>b σ H fun x e=>tl σ e fun l d=>a σ d fun u c=>r x l u c Q
theorem Jbr(A:SlR X r)(D:PE X e te)(B:PO X lo tl)(y:PO X hi th):PE X (.Subscript e (.Slice lo hi none p2) pos) (tSl r te tl th):=by
 intro pins s σ H Q I h;show Subscript_ (thn (D pins s σ H _ I h) fun v j c=>?_);let{x,M,K,m,p}:=c;show wpAny_Slice (thn (B pins j σ M _ K p) fun f i c=>?_);let{l,L,J,pl,o}:=c;show thn (y pins i σ L _ J o) fun d a c=>?_;let{u,g,G,w,n}:=c;show zC ?_;have F:Inv X pins σ g { a with heap:=a.heap.push { cls:=.type "slice",data:=.fields #[f,d,.none] } }:=G.kept (t':=a.toks) fun b N q=>zE _ q;let{T,id,E,z,C}:=A pins { a with heap:=a.heap.push { cls:=.type "slice",data:=.fields #[f,d,.none] } } σ g x v f d l u a.heap.objs.size Q F m (Heap.IsSliceOf.new ..) pl w n;show tail_any (ops:=[.ref a.heap.objs.size,v]) z E C (by rfl)
def cutV(xs:List V)(lo hi:Option Int):List V:=(xs.drop (HT.sIx xs.length 0 lo)).take (HT.sIx xs.length xs.length hi-HT.sIx xs.length 0 lo)
theorem Ja4(xs:List V)(lo hi:Option Int):(cutV xs lo hi).length<=xs.length:=by
 unfold cutV;rw[xQ,wV];lia
inductive rSlTR(K:Frag)(x:V)(lo hi:Option Int)(H:Hp)(Q:VK):Prop
 | mk(a xs:_)(_:x=.ref a)(_:SqT K H a xs)(_:¬ (HT.sIx xs.length 0 lo=0/\HT.sIx xs.length xs.length hi=xs.length))(_:∀p,H p=none->Q (.ref p) (upd H p (.tup (cutV xs lo hi))))
def rSlT(K:Frag):V->Option Int->Option Int->Hp->VK->Prop:=fun x lo hi H Q=>rSlTR K x lo hi H Q
theorem sl_tup:SlR X (rSlT X.K):=by
 intro pins s σ H x v m l lo hi n Q I f j pl g h;let{a,xs,rfl,i,hw,q}:=h;cases f;let{its,r,e,d}:=I.tuple i;have c:its.toArray.size=xs.length:=by show r.length.symm
 show{"tuple",_,PyProof.Rows.slot_tuple_getitem.lookup,e.typeIs,?_};show HT.getItem_tuple_cut e j pl g (by rw[c];show hw) ?_ (by rw[c];show d);rw[c];show{.ref s.heap.objs.size,_,I.laid (t':=s.toks) (o:=.tup (cutV xs lo hi)) (fun b p q=>zE _ q) (zD _) ?_,rfl,q _ (I.hok.fresh (zD _))};show{zM (Ja4 xs lo hi) d,_,(r.drop (HT.sIx xs.length 0 lo)).take (HT.sIx xs.length xs.length hi-HT.sIx xs.length 0 lo),TupX.new _ _}
end
def ixN(n:Nat)(i:Int):Option Nat:=if 0<=i then (if i<n then some i.toNat else none) else if -(n:Int)<=i then some (i+n).toNat else none
def atI{α:Type}(xs:List α)(i:Int):Option α:=(ixN xs.length i).bind fun j=>xs[j]?
theorem Jmg(h:ixN n i=some j):seqIndex? i n=some j/\j<n/\-(n:Int)<=i/\i<n:=by
 unfold ixN at h;by_cases b:0<=i
 .rw[if_pos b] at h;by_cases a:i<n
  .rw[if_pos a] at h;have e:=zV h;show{by rw[seqIndex_of b a,e],(),(),a}
  .rw[if_neg a] at h;cases h
 .rw[if_neg b] at h;by_cases a:-(n:Int)<=i
  .rw[if_pos a] at h;have e:=zV h;show{by rw[seqIndex_neg () a,e],(),a,()}
  .rw[if_neg a] at h;cases h
theorem Jnr(h:atI xs i=some v):∃j,seqIndex? i xs.length=some j/\xs[j]?=some v/\j<xs.length/\-(xs.length:Int)<=i/\i<xs.length:=by
 unfold atI at h
 cases e:ixN xs.length i with
 | none=>simp_all
 | some j =>
  rw[e] at h;let{d,c,b,a}:=Jmg e;show{j,d,h,c,b,a}
theorem Jc{xs:List α}{j:Nat}{v:α}(h:xs[j]?=some v):atI xs (j:Int)=some v:=by
 have a:=(gSm h);have e:ixN xs.length (j:Int)=some j:=by
  unfold ixN;rw[if_pos (),if_pos ()];simp
 unfold atI;rw[e];show h
theorem atI_last{α:Type}(xs:List α)(v:α):atI (xs++[v]) (-1)=some v:=by
 have a:(xs++[v]).length=xs.length+1:=by simp
 have e:ixN (xs++[v]).length (-1)=some xs.length:=by
  unfold ixN;rw[a,if_neg (by decide),if_pos ()]
  congr 1
  lia
 unfold atI;rw[e];change(xs++[v])[xs.length]?=some v;simp
def Jnu(b:Expr):Prop:=∀o i,subscripted b false o i=operate [o,i] (getItem o i)
def IxR(X:Cx)(r:R2):Prop:=
 ∀(b a:Expr) (pins:List (Addr×Obj)) (s:Shared) (σ:St) (H:Hp) (x y:V) (v u:Value) (Q:VK),Inv X pins σ H s->RelV x v->RelV y u->r x y H Q->
  subscripted a false v u=operate [v,u] (getItem v u)->wpAny (model X.prog X.w) X.A (subscriptTail b a v u) (EP X pins σ Q) X.xe s
def MtR(X:Cx)(id:String)(r:V->List V->Hp->VK->Prop):Prop:=
 ∀(pins:List (Addr×Obj)) (s:Shared) (σ:St) (H:Hp) (x:V) (xs:List V) (v:Value) (us:List Value) (Q:VK),Inv X pins σ H s->RelV x v->Vals xs us->r x xs H Q->
  wpAny (model X.prog X.w) X.A (call (.builtin id) (v::us)) (EP X pins σ Q) X.xe s
section
variable{X:Cx}{a b:Expr}{ta tb:TE}{pos:Pos}
theorem Js(g:IxR X r)(i:PE X a ta)(hb:PE X b tb)(f:Jnu b:=by show fun _ _=>rfl):PE X (.Subscript a b pos) (tOp r ta tb):=by
 intro pins s σ H Q I h;show Subscript_ (binT i hb I h fun v u c x y l j e d q=>g a b pins c σ l x y v u Q j e d q (f _ _))
inductive rIxLR(K:Frag)(x y:V)(H:Hp)(Q:VK):Prop
 | mk(p xs i v:_)(_:x=.ref p)(_:y=.int i)(_:SqL K H p xs)(_:atI xs i=some v)(_:Q v H)
def rIxL(K:Frag):R2:=fun x y H Q=>rIxLR K x y H Q
inductive rIxTR(K:Frag)(x y:V)(H:Hp)(Q:VK):Prop
 | mk(p xs i v:_)(_:x=.ref p)(_:y=.int i)(_:SqT K H p xs)(_:atI xs i=some v)(_:Q v H)
def rIxT(K:Frag):R2:=fun x y H Q=>rIxTR K x y H Q
theorem J3b:IxR X (rIxL X.K):=by
 intro b c pins s σ H x y v u Q I n m h f;let{p,xs,i,z,rfl,rfl,o,B,q}:=h;cases n;let{t,rfl}:=m;let{its,r,pl,F}:=I.list o;let{j,a,E,J,D,C}:=Jnr B;let{w,l,d}:=r.get E;have A:=r.length;have G:=Jau;have fin:EP X pins σ Q w s:={z,H,I,d,q};by_cases g:0<=i
 .have e:i.toNat=j:=by
   rw[seqIndex_of g C] at a;show zV a
  show item_listR pl.isList g () (by rw[e];simpa using l) fin f
 .have e:(i+(its.toArray.size:Int)).toNat=j:=by
   rw[seqIndex_neg () D] at a;rw[zS,<- A];show zV a
  show subscriptTail_builtinR (x:=w) pl.isList.typeIs slot_list_getitem.lookup
   (wpAny_getItem_list_neg (Q:=fun r s'=>r=w/\EP X pins σ Q r s') pl.isList () (by rw[zS] <;> lia) () (by rw[e];simpa using l) {rfl,fin}) f
theorem Jl:IxR X (rIxT X.K):=by
 intro a b pins s σ H x y v u Q I e d h f;let{p,xs,i,z,rfl,rfl,g,l,q}:=h;cases e;let{t,rfl}:=d;let{its,r,pl,o}:=I.tuple g;let{j,F,m,E,D,C}:=Jnr l;let{w,n,c}:=r.get m;have B:=r.length;have A:=Jau;have fin:EP X pins σ Q w s:={z,H,I,c,q};show subscriptTail_builtinR (x:=w) pl.typeIs slot_tuple_getitem.lookup
  (getItem_tuple (j:=j) (Q:=fun r s'=>r=w/\EP X pins σ Q r s') pl () () (by simp_all) (by simpa using n) {rfl,fin}) f
theorem Jiv(its:List Value)(n j:Nat)(u:Value):Obj.mapSeq (·.setIfInBounds j u) { cls:=.type "list",data:=.seq its.toArray n }={ cls:=.type "list",data:=.seq (its.set j u).toArray n }:=by
 simp[Obj.mapSeq]
theorem Inv.lst(I:Inv X pins σ H s)(h:H p=some (.lst xs)):
  ∃(its:List Value) (n:Nat),Vals xs its/\s.heap.get? p=some { cls:=.type "list",data:=.seq its.toArray n }/\xs.length<=sizeLine:=by
 let{z,its,n,r,e}:=I.hok p _ h;show{its,n,r,e,z}
theorem Inv.lstUpd{its:List Value}(I:Inv X pins σ H s)(h:H p=some (.lst xs))(d:s.heap.get? p=some { cls:=.type "list",data:=.seq its.toArray n })(a:f { cls:=.type "list",data:=.seq its.toArray n }={ cls:=.type "list",data:=.seq its'.toArray n' })(r:Vals ys its')(c:ys.length<=sizeLine)(t:Nat):
  Inv X pins σ (upd H p (.lst ys)) { s with heap:=s.heap.update p f,toks:=t }:=by
 have e:(s.heap.update p f).get? p=some { cls:=.type "list",data:=.seq its'.toArray n' }:=by
  rw[uK f d (by rw[a] <;> rfl),a]
 show I.write (x:=p) (e:=p) (by rw[h];trivial) (.inl rfl) (fun b u hb q=>(vR _ _ (Ne.symm hb)).trans q) {_,e} ?_;show{c,its',n',r,e}
inductive rSetLR(o i v:V)(H:Hp)(Q:Hp->Prop):Prop
 | mk(p xs k j:_)(_:o=.ref p)(_:i=.int k)(_:H p=some (.lst xs))(_:ixN xs.length k=some j)(_:Q (upd H p (.lst (xs.set j v))))
def rSetL:V->V->V->Hp->(Hp->Prop)->Prop:=fun o i v H Q=>rSetLR o i v H Q
theorem J6p:PSet X rSetL:=by
 intro pins s σ H o i v C D u Q I y z w h;let{p,xs,k,j,rfl,rfl,e,B,q}:=h;cases y;let{t,rfl}:=z;let{its,n,r,b,A}:=I.lst e;let{a,F,g,f}:=Jmg B;have c:=r.length;have E:=Jau;have m:Inv X pins σ (upd H p (.lst (xs.set j v))) { s with heap:=s.heap.update p (Obj.mapSeq (·.setIfInBounds j u)) }:=
  I.lstUpd e b (Jiv its n j u) (r.set w j) (by rw[xH];show A) s.toks
 by_cases l:0<=k
 .have d:k.toNat=j:=by
   rw[seqIndex_of l f] at a;show zV a
  show PySem.W.ki_setAt b l () (by rw[zS,<- c];show f) (by rw[d];show{_,m,q})
 .have d:(k+(its.toArray.size:Int)).toNat=j:=by
   rw[seqIndex_neg () g] at a;rw[zS,<- c];show zV a
  show PySem.W.ki_setBack b () (by rw[zS,<- c];show g) () (by rw[d];show{_,m,q})
theorem Jcv(lo hi:Option Int)(n:Nat):(sliceBounds lo hi none n).1=((HT.sIx n 0 lo:Nat):Int)/\(sliceBounds lo hi none n).2.1=((HT.sIx n n hi:Nat):Int)/\(sliceBounds lo hi none n).2.2=1:=by
 show{?_,?_,rfl}
 .cases lo with
  | none=>simp[sliceBounds,HT.sIx]
  | some i =>
   simp only[sliceBounds,HT.sIx,Option.getD_none,show(1:Int)>0 by decide,if_true];by_cases h:i<0
   .simp only[h,if_true] <;> lia
   .simp only[h,if_false] <;> lia
 .cases hi with
  | none=>simp[sliceBounds,HT.sIx]
  | some i =>
   simp only[sliceBounds,HT.sIx,Option.getD_none,show(1:Int)>0 by decide,if_true];by_cases h:i<0
   .simp only[h,if_true] <;> lia
   .simp only[h,if_false] <;> lia
theorem Jbg(its:List Value)(lo hi:Option Int):slicePick its.toArray lo hi none=((its.drop (HT.sIx its.length 0 lo)).take (HT.sIx its.length its.length hi-HT.sIx its.length 0 lo)).toArray:=by
 let{c,b,a}:=Jcv lo hi its.toArray.size;unfold slicePick;rw[c,b,a];simp only[sliceRange_one,pick_run,zS] <;> rfl
inductive rSlLR(K:Frag)(x:V)(lo hi:Option Int)(H:Hp)(Q:VK):Prop
 | mk(a xs:_)(_:x=.ref a)(_:SqL K H a xs)(_:∀p,H p=none->Q (.ref p) (upd H p (.lst (cutV xs lo hi))))
def rSlL(K:Frag):V->Option Int->Option Int->Hp->VK->Prop:=fun x lo hi H Q=>rSlLR K x lo hi H Q
theorem Jk6:SlR X (rSlL X.K):=by
 intro pins s σ H x v m l lo hi n Q I e j pl f h;let{a,xs,rfl,i,q}:=h;cases e;let{its,r,d,g}:=I.list i;have c:=r.length;show{"list",_,slot_list_getitem.lookup,d.isList.typeIs,?_};show wpAny_getItem_list_slice d.isList j pl f .none (by simp) ?_ (by grind);rw[Jbg,<- c];show{.ref s.heap.objs.size,_,I.laid (t':=s.toks) (o:=.lst (cutV xs lo hi)) (fun b p q=>zE _ q) (zD _) ?_,rfl,q _ (I.hok.fresh (zD _))};show{zM (Ja4 xs lo hi) g,_,0,(r.drop (HT.sIx xs.length 0 lo)).take (HT.sIx xs.length xs.length hi-HT.sIx xs.length 0 lo),zT _ rfl}
def J4q:V->Bool
 | .non=>true
 | .bl _=>true
 | .int _=>true
 | .str _=>true
 | _=>false
def eqV:V->V->Bool
 | .non,.non=>true
 | .bl a,.bl b=>a==b
 | .bl a,.int b=>(if a then 1 else 0)==b
 | .int a,.bl b=>a==(if b then 1 else 0)
 | .int a,.int b=>a==b
 | .str a,.str b=>a==b
 | _,_=>false
theorem Jht(d:RelV y u)(c:RelV x v)(f:J4q y=true)(e:J4q x=true):SeqAt.EqAt A s u v (eqV y x):=by
 cases y with
 | non =>
  cases d
  cases x with
  | non=>cases c;show SeqAt.EqAt.same _
  | bl b=>cases c;show SeqAt.EqAt.none_bool b
  | int b=>let{t,rfl}:=c;show SeqAt.EqAt.none_int b t
  | str b=>let{t,rfl}:=c;show SeqAt.EqAt.none_str b t
  | _=>show absurd (show false=true from e) yG
 | bl a =>
  cases d
  cases x with
  | non=>cases c;show SeqAt.EqAt.bool_none a
  | bl b=>cases c;show SeqAt.EqAt.bool_bool a b
  | int b=>let{t,rfl}:=c;show SeqAt.EqAt.bool_int a b t
  | str b=>let{t,rfl}:=c;show SeqAt.EqAt.bool_str a b t
  | _=>show absurd (show false=true from e) yG
 | int a =>
  let{t',rfl}:=d
  cases x with
  | non=>cases c;show SeqAt.EqAt.int_none a t'
  | bl b=>cases c;show SeqAt.EqAt.int_bool a t' b
  | int b=>let{t,rfl}:=c;show SeqAt.EqAt.int_int a t' b t
  | str b=>let{t,rfl}:=c;show SeqAt.EqAt.int_str a t' b t
  | _=>show absurd (show false=true from e) yG
 | str a =>
  let{t',rfl}:=d
  cases x with
  | non=>cases c;show SeqAt.EqAt.str_none a t'
  | bl b=>cases c;show SeqAt.EqAt.str_bool a t' b
  | int b=>let{t,rfl}:=c;show SeqAt.EqAt.str_int a t' b t
  | str b=>let{t,rfl}:=c;show SeqAt.EqAt.str_str a t' b t
  | _=>show absurd (show false=true from e) yG
 | _=>show absurd (show false=true from f) yG
def eqU(x:V)(u:Value):Bool:=match u with
 | .none=>eqV .non x
 | .bool b=>eqV (.bl b) x
 | .int i _=>eqV (.int i) x
 | .str z _=>eqV (.str z) x
 | _=>false
theorem Jn6(r:RelV y u)(f:J4q y=true):eqU x u=eqV y x:=by
 cases y with
 | non=>cases r;rfl
 | bl b=>cases r;rfl
 | int i=>let{t,rfl}:=r;rfl
 | str z=>let{t,rfl}:=r;rfl
 | _=>show absurd (show false=true from f) yG
theorem Jaa :∀{xs:List V} {us:List Value},Vals xs us->xs.all J4q=true->us.any (eqU x)=xs.any fun y=>eqV y x
 | _,_,.nil,_=>rfl
 | y::xs,u::us,.cons r t,f=>by
  rw[List.all_cons,xV] at f;rw[List.any_cons,List.any_cons,Jn6 r f.1,Jaa t f.2]
theorem J5t(b:RelV x v)(c:J4q x=true):∀{xs:List V} {us:List Value},Vals xs us->xs.all J4q=true->∀u∈us,SeqAt.EqAt A s u v (eqU x u)
 | _,_,.nil,_=>fun u a=>by cases a
 | y::xs,u::us,.cons r t,f=>fun d a=>by
  rw[List.all_cons,xV] at f;rcases zI.mp a with rfl|a
  .rw[Jn6 r f.1];show Jht r b f.1 c
  .show J5t b c t f.2 d a
def inV(x:V)(xs:List V):Bool:=xs.any fun y=>eqV y x
inductive rInR(K:Frag)(neg:Bool)(x y:V)(H:Hp)(Q:VK):Prop
 | mk(p xs:_)(_:y=.ref p)(_:(SqL K H p xs\/SqT K H p xs))(_:J4q x=true)(_:xs.all J4q=true)(_:Q (.bl (if neg then !inV x xs else inV x xs)) H)
def rIn(K:Frag)(neg:Bool):R2:=fun x y H Q=>rInR K neg x y H Q
theorem Jkv:OpR X (compareOp .In) (rIn X.K false):=by
 intro pins s σ H x y v u Q I b d h;let{p,xs,rfl,a,c,fs,q}:=h;cases d;rcases a with a|a
 .let{its,r,pl,e}:=I.list a;show SeqAt.in_listAt (eqU x) pl.isList (fun w hw=>J5t b c r fs w (by simpa using hw)) {.bl _,H,I,rfl,?_};rw[show its.toArray.any (eqU x)=its.any (eqU x) by simp,Jaa r fs];show q
 .let{its,r,pl,e}:=I.tuple a;show SeqAt.in_tupleAt (eqU x) pl (fun w hw=>J5t b c r fs w (by simpa using hw)) {.bl _,H,I,rfl,?_};rw[show its.toArray.any (eqU x)=its.any (eqU x) by simp,Jaa r fs];show q
theorem J7z:OpR X (compareOp .NotIn) (rIn X.K true):=by
 intro pins s σ H x y v u Q I b d h;let{p,xs,rfl,a,c,fs,q}:=h;cases d;rcases a with a|a
 .let{its,r,pl,e}:=I.list a;show SeqAt.notIn_listAt (eqU x) pl.isList (fun w hw=>J5t b c r fs w (by simpa using hw)) {.bl _,H,I,rfl,?_};rw[show its.toArray.any (eqU x)=its.any (eqU x) by simp,Jaa r fs];show q
 .let{its,r,pl,e}:=I.tuple a;show SeqAt.notIn_tupleAt (eqU x) pl (fun w hw=>J5t b c r fs w (by simpa using hw)) {.bl _,H,I,rfl,?_};rw[show its.toArray.any (eqU x)=its.any (eqU x) by simp,Jaa r fs];show q
theorem Jm:J49 X (.builtin "len") (fun xs H Q=>∃p ys,xs=[.ref p]/\(SqL X.K H p ys\/SqT X.K H p ys)/\Q (.int ys.length) H):=by
 intro pins s σ H xs us Q I r h;let{p,ys,rfl,b,q}:=h;let{u,rfl,d}:=J6j r;cases d;have f:=Jau;rcases b with b|b
 .let{its,c,pl,e}:=I.list b;have a:=c.length;show Calls.call_len_list pl.isList (by simp only[zS] <;> lia) {.int ys.length,H,I.tok _,{s.toks+1,by rw[zS,a]},q}
 .let{its,c,pl,e}:=I.tuple b;have a:=c.length;show len_tuple pl (by simp only[zS] <;> lia) {.int ys.length,H,I.tok _,{s.toks+1,by rw[zS,a]},q}
theorem J5j:J49 X (.type "list") (fun xs H Q=>∃p ys,xs=[.ref p]/\(SqL X.K H p ys\/SqT X.K H p ys)/\∀l,H l=none->Q (.ref l) (upd H l (.lst ys))):=by
 intro pins s σ H xs us Q I r h;let{p,ys,rfl,d,q}:=h;let{u,rfl,m}:=J6j r;cases m;have fin:∀(its:List Value),Vals ys its->ys.length<=sizeLine->∀(h':Heap) (c':Nat),(∀b j,s.heap.get? b=some j->h'.get? b=some j)->
   h'.get? s.heap.objs.size=some { cls:=.type "list",dict:=none,data:=.seq its.toArray c',slots:=#[] }->EP X pins σ Q (.ref s.heap.objs.size) { s with heap:=h' }:=fun its a c h' c' kp e =>
  {.ref s.heap.objs.size,_,I.laid (t':=s.toks) kp (zD _) (show J2t X.prog X.w _ h' _ (.lst ys) from{c,its,c',a,e}),rfl,q _ (I.hok.fresh (zD _))}
 rcases d with d|d
 .let{its,a,pl,c}:=I.list d;have f:=a.length;let{o,g,i,n,hd}:=pl.isList;show call_list_seq p (.inl rfl) g i hd (fun h' c' kp e=>fin its a c h' c' kp e) (by simp only[zS] <;> lia)
 .let{its,a,pl,c}:=I.tuple d;have f:=a.length;let{o,g,i,n,hd}:=pl;show call_list_seq p (.inr rfl) g i hd (fun h' c' kp e=>fin its a c h' c' kp e) (by simp only[zS] <;> lia)
theorem Jce:J49 X (.type "tuple") (fun xs H Q=>∃p ys,xs=[.ref p]/\((SqL X.K H p ys/\∀l,H l=none->Q (.ref l) (upd H l (.tup ys)))\/(SqT X.K H p ys/\Q (.ref p) H))):=by
 intro pins s σ H xs us Q I r h;let{p,ys,rfl,h}:=h;let{u,rfl,g}:=J6j r;cases g;rcases h with⟨hq,q⟩|⟨hq,q⟩
 .let{its,a,pl,c}:=I.list hq;have d:=a.length;show call_tuple_list pl.isList (fun h' kp=>?_) (by simp only[zS] <;> lia);have f:=I.kept (t':=s.toks) kp;have i:=
   f.laid (t':=s.toks) (fun b o e=>zE _ e) (zD _) (show J2t X.prog X.w _ _ _ (.tup ys) from{c,its,a,TupX.new _ _})
  show{.ref h'.objs.size,_,i,rfl,q _ (f.hok.fresh (zD _))}
 .let{its,a,pl,c}:=I.tuple hq;show call_tuple_same pl {.ref p,H,I,rfl,q}
def tyV(K:Frag)(T:String)(x:V)(H:Hp):Prop:=match x with
 | .str _=>T="str"
 | .int _=>T="int"
 | .ref p=>(T="list"/\∃xs,SqL K H p xs)\/(T="tuple"/\∃o,K.lookup p=some o/\o.cls=.type "tuple"/\o.dict=none)\/
   (T="dict"/\((∃kvs,H p=some (.dK kvs))\/∃kvs,H p=some (.dT kvs)))\/(T="set"/\∃S n,H p=some (.set S n))
 | _=>False
theorem Jr3(I:Inv X pins σ H s)(r:RelV x v)(b:tyV X.K T x H):
  s.TypeIs v T/\∀a,v=.ref a->∃f,s.heap.get? a=some f/\f.dict=none:=by
 cases x with
 | str z =>
  let{t,rfl}:=r;cases (show T="str" from b);show{typeIs_str s z t,fun _ e=>nomatch e}
 | int i =>
  let{t,rfl}:=r;cases (show T="int" from b);show{typeIs_int s i t,fun _ e=>nomatch e}
 | ref p =>
  cases r;rcases b with⟨rfl,xs,hq⟩|⟨rfl,o,hk,hc,hd⟩|⟨rfl,hk⟩|⟨rfl,S,n,hk⟩
  .let{its,_,pl,_}:=I.list hq;show{pl.isList.typeIs,fun a e=>?_};cases e;let{o,n,e,c,hd,_}:=pl;show{o,e,hd}
  .show{{o,I.kIn p o hk,hc},fun a e=>?_};cases e;show{o,I.kIn _ o hk,hd}
  .have z:∃o,s.heap.get? p=some o/\o.ExactDict:=by
    rcases hk with⟨kvs,hk⟩|⟨kvs,hk⟩
    .let{_,_,_,_,o,_,_,e,ex,_}:=I.hok p _ hk;show{o,e,ex}
    .let{_,_,_,_,o,_,_,e,ex,_}:=I.hok p _ hk;show{o,e,ex}
   let{o,e,ex}:=z;show{{o,e,ex.1},fun a d=>?_};cases d;show{o,e,ex.2.1}
  .let{o,_,_,_,e,ex,_}:=I.hok p _ hk;show{{o,e,ex.1},fun a d=>?_};cases d;show{o,e,ex.2.1}
 | _=>show False.elim b
def tBM0(K:Frag)(T:String)(r:V->List V->Hp->VK->Prop)(b:TE):TE:=fun σ H Q=>b σ H fun x a=>tyV K T x a/\r x [] a Q
def tBM(K:Frag)(T:String)(r:V->List V->Hp->VK->Prop)(b:TE)(t:TA):TE:=fun σ H Q=>b σ H fun x a=>tyV K T x a/\t σ a fun xs c=>r x xs c Q
variable{o e:Expr}{es:List Expr}{to:TE}{t:TA}{name:Str}{apos cpos:Pos}{T id:String}{r:V->List V->Hp->VK->Prop}
theorem pe_bm0(j:PlainAttrs T)(slot:Slot T name id)(c:typeOf (.builtin id)=pure (.type "method_descriptor"))(m:MtR X id r)(l:PE X o to)(b:attributeBase o name X.env (eval o X.env)=eval o X.env:=by rfl)(a:(apos.endLine==cpos.line)=true:=by rfl):PE X (.Call (.Attribute o name apos) [] [] cpos) (tBM0 X.K T r to):=by
 intro pins s σ H Q I h;show wpAny_Call_method0_late b a (thn (l pins s σ H _ I h) fun v g n=>?_);let{x,u,e,d,f,i}:=n;let{q,p}:=Jr3 e d f;show{T,id,j,slot,c,q,p,sG rfl (PySem.evalArgs_none (m pins g σ u x [] v [] Q e d .nil i))}
theorem J3w(y:PlainAttrs T)(slot:Slot T name id)(f:typeOf (.builtin id)=pure (.type "method_descriptor"))(B:MtR X id r)(A:PE X o to)(C:PA X (e::es) t)(b:attributeBase o name X.env (eval o X.env)=eval o X.env:=by rfl)(c:((backTo cpos (starEach (e::es) X.env)).all (fun x=>!x.1)&&(backToKw cpos (keywordEach [] X.env)).all (fun x=>x.1.isSome)
   && decide ((e::es).length+([]:List Keyword).length+(if ([]:List Keyword).isEmpty then 0 else 1)<30))=true:=by rfl)(a:(apos.endLine==cpos.line)=true:=by rfl)(z:starEach (e::es) X.env=(false,eval e X.env)::starEach es X.env:=by rfl)(d:(backTo cpos (starEach es X.env)).any (·.1)=false:=by rfl):
  PE X (.Call (.Attribute o name apos) (e::es) [] cpos) (tBM X.K T r to t):=by
 intro pins s σ H Q I h;show wpAny_Call_method_late b c a rfl (thn (A pins s σ H _ I h) fun v p g=>?_);let{x,J,l,i,m,w}:=g;let{E,D}:=Jr3 l i m;show{T,id,y,slot,f,E,D,?_};have j:=C cpos pins p σ J _ l w;rw[z] at j ⊢;show sG (by assumption) (Calls.evalArgs_plain ?_);show thn j fun us n g=>by let{vs,G,F,q,u}:=g;show B pins n σ G x vs v us Q F i q u
end
def MtM(X:Cx)(id:String)(r:V->List V->Hp->VK->Prop):Prop:=
 ∀(pins:List (Addr×Obj)) (s:Shared) (σ:St) (H:Hp) (x:V) (xs:List V) (v:Value) (us:List Value) (Q:VK),Inv X pins σ H s->RelV x v->Vals xs us->r x xs H Q->
  wpAny (model X.prog X.w) X.A (call (.builtin id) (v::us)) (EP X pins σ Q) X.xe s
theorem Vals.one:∀{x:V} {us:List Value},Vals [x] us->∃u,us=[u]/\RelV x u:=fun r=>J6j r
theorem Vals.zero:∀{us:List Value},Vals [] us->us=[]
 | _,.nil=>rfl
theorem Vals.dropLast{xs:List V}{us:List Value}(h:Vals xs us):Vals xs.dropLast us.dropLast:=by
 induction h with
 | nil=>show .nil
 | cons r t ih =>
  cases t with
  | nil=>show .nil
  | cons q t'=>show .cons r ih
theorem Vals.rep(h:Vals xs us):∀k ,Vals (replicate k xs).flatten (replicate k us).flatten
 | 0=>.nil
 | k+1=>by
  show Vals.append h (Vals.rep h k)
theorem Jj8{α:Type}(l:List α):l.eraseIdx (l.length-1)=l.dropLast:=by
 induction l with
 | nil=>rfl
 | cons a r ih =>
  cases r with
  | nil=>rfl
  | cons b r =>
   have e:(a::b::r).length-1=((b::r).length-1)+1:=by
    have d:(a::b::r).length=r.length+2:=rfl;have c:(b::r).length=r.length+1:=rfl;lia
   rw[e,List.eraseIdx_cons_succ,ih]
   all_goals rfl
theorem J9j(its:List Value):∀(k:Nat) (acc:List Value),
  foldl (fun b a=>b++a) acc.toArray (replicate k its.toArray)=(acc++(replicate k its).flatten).toArray
 | 0,acc=>by simp
 | k+1,acc=>by
  have e:acc.toArray++its.toArray=(acc++its).toArray:=by simp
  have c:(acc++its)++(replicate k its).flatten=acc++(replicate (k+1) its).flatten:=by
   rw[sH,List.flatten_cons,vS]
  rw[<- c,<- J9j its k (acc++its),<- e,sH,List.foldl_cons]
section
variable{X:Cx}{pins:List (Addr×Obj)}{σ:St}{H:Hp}{s:Shared}{l b:Addr}{xs ys zs:List V}
theorem Inv.lset{its:List Value}(I:Inv X pins σ H s)(g:H l=some (.lst xs))(e:s.heap.get? l=some { cls:=.type "list",data:=.seq its.toArray n })(d:f its.toArray=its'.toArray)(b:Vals ys its')(a:ys.length<=sizeLine):
  Inv X pins σ (upd H l (.lst ys)) { s with heap:=s.heap.update l (Obj.mapSeq f),toks:=t' }:=by
 have q:=PySem.IsL.update e f;rw[d] at q;show I.write (x:=l) (e:=l) (by rw[g];show trivial) (.inl rfl) (fun h u hb c=>(vR s.heap (Obj.mapSeq f) (Ne.symm hb)).trans c) {_,q} ?_;show{a,its',_,b,q}
theorem Inv.lnew(I:Inv X pins σ H s)(b:Vals ys its)(a:ys.length<=sizeLine):
  Inv X pins σ (upd H s.heap.objs.size (.lst ys)) { s with heap:=s.heap.push { cls:=.type "list",data:=.seq its.toArray },toks:=t' } :=
 I.laid (fun _ _ q=>zE _ q) (zD _) {a,its,0,b,zT _ rfl}
theorem Inv.fresh(I:Inv X pins σ H s):H s.heap.objs.size=none:=I.hok.fresh (zD _)
theorem Inv.lstM(I:Inv X pins σ H s)(a:H l=some (.lst xs)):xs.length<=sizeLine/\∃(its:List Value) (n:Nat),Vals xs its/\xs.length=its.length/\s.heap.get? l=some { cls:=.type "list",data:=.seq its.toArray n }:=by
 let{z,its,n,r,e}:=I.hok l _ a;show{z,its,n,r,r.length,e}
theorem Jh6(h:n<=sizeLine):Builtin.List.listTooLong n=false:=by
 unfold Builtin.List.listTooLong
 grind
end
section
variable{X:Cx}
inductive Jp8(x:V)(vs:List V)(H:Hp)(Q:VK):Prop
 | mk(l xs y:_)(_:x=.ref l)(_:vs=[y])(_:H l=some (.lst xs))(_:xs.length<sizeLine)(_:Q .non (upd H l (.lst (xs++[y]))))
def Jta:V->List V->Hp->VK->Prop:=fun x vs H Q=>Jp8 x vs H Q
theorem J1g:MtM X "list.append" Jta:=by
 intro pins s σ H x vs v us Q I b c h;let{l,xs,y,rfl,rfl,a,f,q}:=h;cases b;let{u,rfl,d}:=c.one;let{z,its,n,r,g,e}:=I.lstM a;show wF F.slot_list_append {_,e,rfl} F.entry_list_append (F.args_list_append_2 _ _) (PySem.list_append l its.toArray n u (by grind)) {e,?_};show{.non,_,I.lset (its':=its++[u]) a e (by simp) (r.append (.cons d .nil)) ?_,rfl,q};rw[zN,List.length_singleton];lia
inductive Jp7(x:V)(vs:List V)(H:Hp)(Q:VK):Prop
 | mk(l b xs a:_)(_:x=.ref l)(_:vs=[.ref b])(_:H l=some (.lst xs))(_:H b=some (.lst a))(_:xs.length+a.length<=sizeLine)(_:Q .non (upd H l (.lst (xs++a))))
def Jt8:V->List V->Hp->VK->Prop:=fun x vs H Q=>Jp7 x vs H Q
theorem Jdc:MtM X "list.extend" Jt8:=by
 intro pins s σ H x vs v us Q I f g h;let{l,b,xs,y,rfl,rfl,d,p,B,q}:=h;cases f;let{u,rfl,i}:=g.one;cases i;let{z,its,n,r,C,e}:=I.lstM d;let{A,a,m,j,o,w}:=I.lstM p;have hsz:its.toArray.size+a.toArray.size<=sizeLine:=by grind
 have c:¬ (!its.toArray.isEmpty&&Builtin.List.listTooLong (its.toArray.size+a.toArray.size))=true:=by
  rw[Jh6 hsz,Bool.and_false];show yG
 show wF F.slot_list_extend {_,e,rfl} F.entry_list_extend (F.args_list_extend_2 _ _)
  (AutoSeq1.list_extend_list_list_0 l its.toArray n b a.toArray m c (by grind) ()) {e,w,?_}
 show{.non,_,I.lset (its':=its++a) d e (by simp) (r.append j) ?_,rfl,q};rw[zN];lia
inductive rPopR(x:V)(vs:List V)(H:Hp)(Q:VK):Prop
 | mk(l xs y:_)(_:x=.ref l)(_:vs=[])(_:H l=some (.lst xs))(_:xs[xs.length-1]?=some y)(_:Q y (upd H l (.lst xs.dropLast)))
def rPop:V->List V->Hp->VK->Prop:=fun x vs H Q=>rPopR x vs H Q
theorem mt_pop:MtM X "list.pop" rPop:=by
 intro pins s σ H x vs v us Q I d f h;let{l,xs,y,rfl,rfl,c,i,q}:=h;cases d;have b:=f.zero;subst b;let{z,its,n,r,m,e}:=I.lstM c;let{u,j,g}:=r.get i;have a:its.toArray[its.toArray.size-1]?=some u:=by
  change its.toArray[its.length-1]?=some u;rw[<- xW,<- m];show j
 show wF F.slot_list_pop {_,e,rfl} F.entry_list_pop (F.args_list_pop_1 _) (MeetsSeq.list_pop_last l its.toArray n u a (by rw[zS];lia)) {e,?_};show{y,_,I.lset (its':=its.dropLast) c e ?_ r.dropLast ?_,g,q}
 .change its.toArray.eraseIdxIfInBounds (its.toArray.size-1)=its.dropLast.toArray;rw[zS,List.eraseIdxIfInBounds_toArray,Jj8]
 .rw[List.length_dropLast];lia
inductive rCatR(x y:V)(H:Hp)(Q:VK):Prop
 | mk(l b xs a:_)(_:x=.ref l)(_:y=.ref b)(_:H l=some (.lst xs))(_:H b=some (.lst a))(_:xs.length+a.length<=sizeLine)(_:∀p,H p=none->Q (.ref p) (upd H p (.lst (xs++a))))
def rCat:R2:=fun x y H Q=>rCatR x y H Q
theorem Jh3:OpR X (binaryOp .Add) rCat:=by
 intro pins s σ H x y v u Q I d c h;let{l,b,xs,p,rfl,rfl,i,j,B,q}:=h;cases d;cases c;let{z,its,n,r,C,e}:=I.lstM i;let{w,a,A,f,g,o}:=I.lstM j;show PySem.P.add_list e o ?_ (by simp_all);have m:its.toArray++a.toArray=(its++a).toArray:=by simp
 rw[m];show{.ref _,_,I.lnew (t':=s.toks) (r.append f) (by rw[zN];lia),rfl,q _ I.fresh}
inductive rRepR(x y:V)(H:Hp)(Q:VK):Prop
 | mk(l k xs:_)(_:x=.ref l)(_:y=.int k)(_:H l=some (.lst xs))(_:-(2^63)<=k)(_:k<2^63)(_:xs.length*k.toNat<=sizeLine)(_:∀p,H p=none->Q (.ref p) (upd H p (.lst (replicate k.toNat xs).flatten)))
def rRep:R2:=fun x y H Q=>rRepR x y H Q
theorem Jm6{α:Type}(xs:List α)(k:Nat):(replicate k xs).flatten.length=k*xs.length:=by
 simp_all
theorem Jh2:OpR X (binaryOp .Mult) rRep:=by
 intro pins s σ H x y v u Q I w p h;let{l,k,xs,rfl,rfl,B,D,C,o,q}:=h;cases w;let{t,rfl}:=p;let{z,its,n,r,A,e}:=I.lstM B;have d:its.toArray.size*k.toNat<=sizeLine:=by rw[zS,<- A];show o
 have g:¬ its.toArray.size*k.toNat>(2^63-1)/8:=by
  have:(sizeLine:Nat)<=(2^63-1)/8:=by decide
  lia
 have f:¬ (!Builtin.List.listFitsIndex k)=true:=by
  rw[fitsIndex_both D C];show yG
 have b:¬ Builtin.List.listTooLong (its.toArray.size*k.toNat)=true:=by
  rw[Jh6 d];show yG
 have c:foldl (fun j i=>j++i) #[] (replicate (if its.toArray.isEmpty=true then 0 else k.toNat) its.toArray)=(replicate k.toNat its).flatten.toArray:=by
  have E:∀m ,foldl (fun j i=>j++i) #[] (replicate m its.toArray)=(replicate m its).flatten.toArray:=fun m=>by
   have:=J9j its m [];show this
  rw[E]
  cases its with
  | nil=>simp
  | cons a r'=>rw[if_neg (by simp)]
 show wpAny_binaryOp_repeat_ref (T:="list") (U:="int") (by decide) {_,e,rfl} (fun s'=>typeIs_int s' k t) noFill_list_mul F.fills_int_mul F.slot_int_rmul repeat_list F.slot_int_index.lookup
  (wF F.slot_int_rmul (typeIs_int s k t) F.entry_int_rmul (F.args_int_rmul_2 _ _) (int___rmul___int_list k t l its.toArray n)
   {e,rfl,{_,e,rfl},wF F.slot_list_mul {_,e,rfl} F.entry_list_mul (F.args_list_mul_2 _ _) (AutoListH.list___mul___list_int_3 l its.toArray n k t f g b) {e,?_}})
 rw[c];show{.ref _,_,I.lnew (t':=s.toks) (r.rep k.toNat) (by rw[Jm6,uL];show o),rfl,q _ I.fresh}
end
section
variable{prog:Program}{w:World}{A:Around}{E:Value->Shared->Prop}{s:Shared}
set_option maxRecDepth 100000 in
end
end L2
namespace Att
open PySem PySem.W PySem.Calls PyProof.Rows
theorem J9d :∀(ns:List Int) (vs:List Value),WellAll P h vs (ns.map WData.int)->IntsAre vs ns:=by
 intro ns
 induction ns with
 | nil =>
  intro vs w;cases w;show .nil
 | cons n ns ih =>
  intro vs w
  cases w with
  | cons a b =>
   cases a;show .cons _ _ (ih _ b)
theorem Jkc{l:OpenLaw}{n:Nat}(p:l.most=some n){P:Params}{h:Heap}{args:List WData}{b:List Value}(c:l.row.toRowW.claim.pre args=true)(i:WellAll P h b args):
  ∃a vs ns,b=[Value.ref a]/\args=[WData.list (ns.map WData.int)]/\h.get? a=some { cls:=.type "list",data:=.seq vs.toArray }/\IntsAre vs ns/\ns.length<=n:=by
 have j:WShape.hasAll [] args [.list .int]=true:=(pre_splitW c).1;have m:l.pre.holds [] { args:=args }=true:=(pre_splitW c).2;let{d,r,rfl,v,u}:=hasAllW_cons j;obtain rfl:=hasAllW_nil u;let{xs,rfl,s}:=hasW_list v;let{ns,rfl}:=items_int s;have e:ns.length<=n:=by
  unfold OpenLaw.pre at m;have g:(WTm.not (.lt (.lit (.int (n:Int))) (.len (.arg 0)))).holds [] { args:=[.list (ns.map .int)] }=true:=by
   have g:=(holds_andW m).1;rw[p] at g;show g
  have f:=condW_of g (w_not (w_lt w_lit (w_len_list (w_arg rfl))));rw[zB] at f;show Nat.le_of_not_lt fun q=>?_;have o:(n:Int)<((ns.length:Nat):Int):=()
  first
   | (rw[zZ o] at f;show absurd f (by decide))
   | (simp at f;lia)
 cases i with
 | cons w1 w2 =>
  cases w2
  cases w1 with
  | list ho hall=>show{_,_,ns,rfl,rfl,ho,J9d ns _ hall,e}
theorem Jko(l:OpenLaw)(args:List WData):l.row.toRowW.claim.post args (.bool true) args=true:=
 postW_of (r:=l.row.toRowW) (X:=(true==true))
  (show WShape.has [] (.bool true) .bool=true by rfl)
  (show(WTm.eq .res (.lit (.bool true))).value [] { args:=args,res:=some (.bool true),after:=args }=some (.bool (true==true)) from w_eq_bool (w_res rfl) w_lit) rfl
theorem attach_call{l:OpenLaw}(H:l.most=some n)(y:d.params.defaults=[])(call:∀(w:World) (s₀ b:Shared) (mg s:Str->Option Value) (j:Addr) (o:Obj) (p m e:Value) (a:Addr) (vs:List Value) (ns:List Int),
   Ground q loose [] XP w s₀ mg s b.heap->YP w b.heap->
   b.heap.get? j=some o->o.data=.func (docDef d.name d.params d.body d.scope p m e)->b.heap.CodeRec m d.name->mg d.name=some (.ref j)->
   b.heap.get? a=some { cls:=.type "list",data:=.seq vs.toArray }->IntsAre vs ns->ns.length<=n->b.gens=#[]->
   codeAny (model l.prog w) callerA (.call (.ref j) {[.ref a],[]}) (fun r s'=>r=.ok (.ret (.bool true))/\OldK b.heap s'.heap/\s'.os=b.os/\AllBare s'.gens) b):
  WalkO q loose XP YP l.row.toRowW d [] (fun f vs=>PySem.call f vs):=by
 intro w s₀ b mg s G Y j o p m e O kV F hd z C v K args A as g B D u J;obtain rfl:O=.none:=Dflts.none C y;obtain rfl:kV=.none:=Dflts.noKw C;let{a,vs,ns,rfl,rfl,h,c,i}:=Jkc H g u;show enter_call (uJ (call w s₀ b mg s j o p m e a vs ns G Y F (fd_plain hd) z v h c i K) fun r s' E=>?_);let{rfl,N,M,L}:=E;show{.inl {.bool true,.bool true,[],rfl,fun _=>rfl,.bool true,Jko l _,fun _=>{List.Pairwise.nil,fun _ I=>(nomatch I)}},N,M,L}
end Att
namespace L2
open PySem PySem.Spec PyProof.Rows
theorem J4y:∀{vs:List Value} {ns:List Int},IntsAre vs ns->Vals (ns.map V.int) vs
 | _,_,.nil=>.nil
 | _,_,.cons n t h=>.cons {t,rfl} (J4y h)
def Jb(s:Stmt)(j:Nat):Stmt:=match s with
 | .ClassDef _ _ _ body _ _ _ _ _ _ _=>body.getD j (.Pass {0,0,0,0})
 | _=>.Pass {0,0,0,0}
def J2p(s:Stmt):Arguments:=match s with
 | .FunctionDef _ a _ _ _ _ _ _ _ _=>a
 | _=>{ posonlyargs:=[],args:=[],vararg:=none,kwonlyargs:=[],kw_defaults:=[],kwarg:=none,defaults:=[] }
def J1n(s:Stmt):List Stmt:=match s with
 | .FunctionDef _ _ b _ _ _ _ _ _ _=>b
 | _=>[]
def Je(s:Stmt):Scope:=match s with
 | .FunctionDef _ _ _ _ _ _ sc _ _ _=>sc
 | _=>{ kind:=.function,names:=[],isGenerator:=false,isCoroutine:=false }
abbrev CX0:CXT:=fun _ _ _ _ _ _=>False
abbrev E0:XK:=fun _ _ _=>False
theorem Jg :J5m CX0 X E0:=fun _ _ _ _ _ _ _ h=>h.elim
structure Fun(K:Frag)(x qual:Str)(st:Stmt)(f:Addr)(fd:FuncData):Prop where
 ex:∃(oc:Value) (od:Option Addr) (kV doc pm:Value) (an:Option Addr) (cdv ct:Value) (osl:Array (Option Value)),
  fd=fnOf x qual (J2p st) (J1n st) (Je st) .none kV doc pm an cdv ct/\K.lookup f=some {oc,od,.func fd,osl}/\codeIn K cdv qual=true
 kp:keepIn K (.ref f)=true
section
variable{P:Program}{w:World}{K:Frag}{mg:Str->Option Value}{base:Heap}
theorem Fun.ok{st:Stmt}(F:Fun K x qual st f fd)(S:Jt N ps (Je st))(len:∀vs H Q E,sp vs H Q E->vs.length=ps.length)(b:∀(a:Value) (A:Around) (outer:List Env) (s:Shared) (H:Hp) (vs:List V) (Q:VK) (E:XK),Room k (A.deeper (envOfC qual (Je st) s.heap.objs.size f a))->sp vs H Q E->
   ∃t,PSs (cxOf CX0 P w K mg base N qual (Je st) f a A outer s H E).nox (J1n st) t/\t { nx:=fun _ l=>Q .non l,rt:=Q } (start N vs) H):FnOk P w K mg base CX0 (k+1) f fd ps sp:=by
 let{o,n,kV,j,m,p,a,ct,e,rfl,g,d}:=F.ex;show Jua g d S len fun A outer s H vs Q E i c=>?_;let{t,h,q}:=b a A outer s H vs Q E i c;show{t,h.nox,q}
theorem Jdn{st:Stmt}{kV:Value}(l:K.lookup f=some {oc,od,.func (fnOf x qual (J2p st) (J1n st) (Je st) .none kV doc pm an cdv ct),osl})(c:codeIn K cdv qual=true)(k:keepIn K (.ref f)=true):Fun K x qual st f (fnOf x qual (J2p st) (J1n st) (Je st) .none kV doc pm an cdv ct):={{oc,od,kV,doc,pm,an,cdv,ct,osl,rfl,l,c},k}
end
theorem Jqp(a:Room k A):A.units+1<cLine:=xB (Nat.add_le_add_left (by decide:1<=64) _) a.units
theorem Jq(h:n<=1000):n<sizeLine:=xB h (by decide)
section
variable{X:Cx}
theorem pv(i:Nat){x:Str}{pos:Pos}(c:X.N[i]?=some x:=by rfl)(b:Vis X.env.scope x:=by first|show Or.inl rfl|show Or.inr (Or.inl rfl)|show Or.inr (Or.inr rfl))(hd:(x==("__debug__":Str))=false:=by decide)(a:(x==("__classdict__":Str))=false:=by decide):PE X (.Name x pos) (tVar i):=pe_var c b hd a
end
theorem iteF{A:Prop}(h:B):if false=true then A else B:=by
 simp_all
theorem iteT{A:Prop}(h:A):if true=true then A else B:=by
 simp_all
theorem Jfn{A:Prop}[Decidable c](a:c)(h:B):if (!decide c)=true then A else B:=by
 simp_all
def Same(H a:Hp):Prop:=∀b o,H b=some o->a b=some o
theorem Same.refl(H:Hp):Same H H:=fun _ _ h=>h
theorem Same.trans(a:Same H H1)(b:Same H1 H2):Same H H2:=fun c o h=>b c o (a c o h)
theorem Same.free(e:Same H H')(h:H' l=Option.none):H l=Option.none:=by
 cases q:H l with
 | none=>rfl
 | some o =>
  rw[e l o q] at h;cases h
theorem Same.seq{K:Frag}(e:Same H H')(h:SqL K H a xs):SqL K H' a xs:=by
 rcases h with(h|⟨o,h⟩)|h
 .show .inl (.inl (e _ _ h))
 .show .inl (.inr {o,e _ _ h})
 .show .inr h
abbrev Cx.block(X:Cx)(N:List Str)(a:Scope)(cl:List (Str×Addr))(C:Addr)(b:List Addr)(s:Shared)(H:Hp):Cx:=
 { X with N:=N,s₀:=s,H₀:=H,env:=compEnvC a cl C X.env,outer:=X.stack,stack:=X.stack,ex:=b,fn:=fun _=>false,pn:=[],xe:=fun _ _=>False }
theorem J91{env:Env}:∀{names:List (Str×NameKind)} {x:Str} {k:NameKind},(names.map fun(n,k)=>if (k==NameKind.free&&env.scope.kind == .function&&env.kindOf n==some .cell) then (n,NameKind.cell) else (n,k)).lookup x=some k->
  k=.cell\/k=.free->(∀p∈names,p.2≠.cell)->∃p∈names,p.1=x/\p.2=.free
 | [],_,_,h,_,_=>by simp at h
 | (n,q)::r,x,k,h,hk,hc=>by
  have d:=@J91 env r x k;have f:q≠.cell:=hc (n,q) zJ;rw[zL] at h;by_cases c:x=n
  .subst c;by_cases e:(q==NameKind.free&&env.scope.kind == .function&&env.kindOf x==some .cell)=true
   .simp only[xV] at e;show{(x,q),zJ,rfl,by simpa using e.1.1}
   .have a:List.lookup x ((x,q)::List.map (fun(n,k)=>if (k==NameKind.free&&env.scope.kind == .function&&env.kindOf n==some .cell) then (n,NameKind.cell) else (n,k)) r)=some k:=by
     simpa only [e,if_false,uM] using h
    rw[List.lookup_cons_self] at a;cases a;rcases hk with hk|hk
    .show absurd hk f
    .show{(x,q),zJ,rfl,hk}
  .have hb:(x==n)=false:=by simpa using c
   have h':(List.map (fun(n,k)=>if (k==NameKind.free&&env.scope.kind == .function&&env.kindOf n==some .cell) then (n,NameKind.cell) else (n,k)) r).lookup x=some k:=by
    by_cases e:(q==NameKind.free&&env.scope.kind == .function&&env.kindOf n==some .cell)=true
    .simp only[e,if_true,List.lookup_cons,hb] at h;show h
    .simp only[e,if_false,uM,List.lookup_cons,hb] at h;show h
   let{p,b,g,a}:=d h' hk fun p b=>hc p (zK _ b);show{p,zK _ b,g,a}
def capv(σ:St)(js:List Nat):St:=js.map fun j=>(σ[j]?).join
theorem Jhz{k:Nat}(h:(capv σ js)[k]?=some (some v)):∃j,js[k]?=some j/\σ[j]?=some (some v):=by
 unfold capv at h;rw[zY] at h
 cases e:js[k]? with
 | none=>rw[e] at h;cases h
 | some j =>
  rw[e] at h;show{j,rfl,?_}
  cases e2:σ[j]? with
  | none=>rw[map_some,e2] at h;cases h
  | some o=>simp_all
section
variable{X:Cx}{elt iter:Expr}{x y:Str}{px py:Pos}{scope:Scope}{cl:List (Str×Addr)}{pos spos:Pos}{wi:TI}{te:TE}{caps:List Str}{js:List Nat}{i:Nat}
theorem Ji2(I:Inv X pins σ H s)(m:s.heap.objs.size<=C)(j:∀b∈fp,FpOk X pins H b)(u:∀b∈fp,b<s.heap.objs.size)(f:scope.kind=.function)(g:∀p∈scope.names,p.2≠.cell)(d:∀p∈cl,X.env.cells.lookup p.1=some p.2)(i:∀p∈scope.names,p.2=.free->∃c,cl.lookup p.1=some c):
  (X.block (x::caps) scope cl C fp s H).Ok where
 mod:=I.ok.mod
 kind:=f
 glob:=I.ok.glob
 blt:=I.ok.blt
 above:=m
 inj:=fun a b c l r=>I.ok.inj a b c (d _ (yO l)) (d _ (yO r))
 has:=fun a h=>by
  have h':(∃k,(relabel scope X.env).names.lookup a=some k/\(k=.cell\/k=.free)):=by
   rcases h with h|h
   .show{_,h,.inl rfl}
   .show{_,h,.inr rfl}
  let{k,l,q}:=h';let{p,n,w,v}:=J91 l q g;rw[<- w];show i p n v
 cab:=fun _ _ h=>nomatch h
 hd:=I.ok.hd
 frames:=I.ok.frames
 stk:=.inl rfl
 exf:=fun b hb=>{zQ (yB (u b hb) m),fun a c e=>(j b hb).2.2.2.2.1 a c (d _ (yO e))}
 bs:=I.bs
 bsz:=zM I.ok.bsz I.sz
 noex:=fun b o e hb=>by
  rcases(j b hb).2.2.2.1 with z|z
  .show I.ok.noex b o e z
  .show absurd (yB (zG e) (zM I.ok.bsz z)) (wQ _)
 exfs:=fun b hb z=>by
  rcases zI.mp (I.stkSub b z) with e|e
  .show(j b hb).2.1 e
  .show(j b hb).2.2.1 e
 funs:=I.stack
 frf:=I.stkFree
end
section
variable{X:Cx}
abbrev SqI(K:Frag)(H:Hp)(p:Addr)(xs:List V):Prop:=SqL K H p xs\/SqT K H p xs
theorem J8m(hi:IntsAre its ns):∃xs:Array (Int×Tok),its.toArray=intItems xs/\preSum (numAt xs) xs.size=ns.sum/\ns=xs.toList.map (·.1):=by
 let{xs,a}:=hi.allInts.items;have b:ns=xs.toList.map (·.1):=by
  rw[<- nums_intItems,<- a];show(show numsOf its.toArray.toList=ns from hi.numsOf).symm
 show{xs,a,?_,b};rw[preSum_eq,tH (by simp),b]
theorem J23(l:X.calm=true):J49 X (.builtin "sum") (fun xs H Q=>∃(p:Addr) (ns:List Int),xs=[.ref p]/\SqI X.K H p (ns.map V.int)/\Q (.int ns.sum) H):=by
 intro pins s σ H xs us Q I r h;let{p,ns,rfl,a,q}:=h;let{u,rfl,i}:=J6j r;cases i;have f:=I.ok.hd l;rcases a with a|a
 .let{its,b,pl,j}:=I.list a;let{xs,c,e,_}:=J8m (J28 b);show sum_intListG f (c▸pl.isList) fun h' g t' d=>?_;rw[e];show{.int ns.sum,H,I.kept d,{t',rfl},q}
 .let{its,b,pl,j}:=I.tuple a;let{xs,c,e,_}:=J8m (J28 b);show PySem.W.ktm_sumG f (c▸(show s.heap.IsTuple p its.toArray from pl)) fun h' g t' d=>?_;rw[e];show{.int ns.sum,H,I.kept d,{t',rfl},q}
theorem Jde(p:A.handled=none)(d:s.heap.IsTuple l (intItems xs))(f:0<xs.size)(h:∀v h' c,(intItems xs)[argBest (fun i j=>decide (numAt xs i<numAt xs j)) (xs.size-1)]?=some v->(∀b o,s.heap.get? b=some o->h'.get? b=some o)->Q v { s with heap:=h',toks:=c }):
  wpAny (model prog w) A (call (.builtin "min") [.ref l]) Q E s:=by
 let{o,g,r,n,hd}:=id d;have a:=zQ (zG g);show call_min_walk (sD d ?_);show{s.heap.objs.size,_,_,_,_,_,_,rfl,Walks.tuple (A:=A.in1) p _ l a (intItems xs),{{_,zT _ rfl,rfl,rfl},d.at fun o e=>zE _ e},fun b hb=>?_,by simpa [intItems] using f,CmpOf.ints_lt (numAt xs) (fun _ _=>intItems_at),fun v h' c q m=>?_}
 .rcases zI.mp hb with rfl|hb
  .show zG (zT _ rfl)
  .obtain rfl:=zF.mp hb;show zG (zE _ g)
 .show h v h' c (by simpa [intItems] using q) fun b o e=>m b o (fun hb=>absurd (zG e) ((zF.mp hb)▸wQ _)) (zE _ e)
theorem Ji4(b:ns=xs.toList.map (·.1))(hsz:0<xs.size):
  numAt xs (argBest (fun i j=>decide (numAt xs i<numAt xs j)) (xs.size-1))∈ns/\∀a∈ns,numAt xs (argBest (fun i j=>decide (numAt xs i<numAt xs j)) (xs.size-1))<=a:=by
 let{f,e}:=argBest_lt (numAt xs) (xs.size-1);show{?_,fun a c=>?_}
 .rw[b,numAt_eq];show getD_mem (by rw[zB,yL];lia)
 .rw[b] at c;let{j,d,rfl}:=mem_getD c;rw[zB,yL] at d;rw[<- numAt_eq];show e j ()
theorem Ji0(y:X.calm=true):J49 X (.builtin "min") (fun xs H Q=>∃(p:Addr) (ns:List Int),xs=[.ref p]/\SqI X.K H p (ns.map V.int)/\0<ns.length/\∀M,M∈ns->(∀a∈ns,M<=a)->Q (.int M) H):=by
 intro pins s σ H xs us Q I r h;let{p,ns,rfl,c,b,q}:=h;let{u,rfl,o}:=J6j r;cases o;have m:=I.ok.hd y;rcases c with c|c
 .let{its,e,pl,w}:=I.list c;let{xs,f,_,d}:=J8m (J28 e);have hsz:0<xs.size:=by rw[d,zB,yL] at b;show b
  show min_intList m (f▸pl.isList) hsz fun v h' n g i=>?_;let{t,rfl}:=intItems_at g;let{l,j}:=Ji4 d hsz;show{.int _,H,I.kept i,{t,rfl},q _ l j}
 .let{its,e,pl,w}:=I.tuple c;let{xs,f,_,d}:=J8m (J28 e);have hsz:0<xs.size:=by rw[d,zB,yL] at b;show b
  show Jde m (f▸(show s.heap.IsTuple p its.toArray from pl)) hsz fun v h' n g i=>?_;let{t,rfl}:=intItems_at g;let{l,j}:=Ji4 d hsz;show{.int _,H,I.kept i,{t,rfl},q _ l j}
end
section
variable{prog:Program}{w:World}{A:Around}{E:Value->Shared->Prop}{s:Shared}
theorem Jc9(c:s.heap.IsTuple l vs.toArray)(h:Q vs { s with heap:=(s.heap.push (seqObj "list" #[] 0)).update s.heap.objs.size (Obj.mapSeq (· ++ vs.toArray)) })(hsz:vs.length<=sizeLine):
  wpAny (model prog w) A (collect (.ref l)) Q E s:=by
 let{o,b,d,n,hd}:=id c;unfold collect;show zA (wpAny_runValue (wJ entry_proto_collect' ?_));change wpAny _ _ (do again (.builtin "list.__iadd__" {[<- newList [],.ref l],[]})) _ _ s;show zA (vT (zC {Code.quiet_builtin _ (by decide +kernel),wJ entry_list_iadd' ?_}));change wpAny _ _ (Builtin.List.listExtendWith (.ref s.heap.objs.size) (.ref l) (.ref s.heap.objs.size)) _ _ { s with heap:=s.heap.push (seqObj "list" #[] 0) };unfold Builtin.List.listExtendWith;have a:(s.heap.push (seqObj "list" #[] 0)).get? l=some o:=zE _ b;show zA (wpAny_typeOf (T:="tuple") {o,a,d} ?_);rw[if_pos (by simp_all)];show zA (listItems_at a hd ?_);show zA (listItems_at (xs:=#[]) (n:=0) (zT _ rfl) rfl ?_);show zA (vU (xs:=#[]) (n:=0) (zT _ rfl) rfl ?_ (zO _) (by grind));show zC ?_;show zA (wpAny_load (uN (zT _ rfl) _) ?_);change wpAny _ _ (pure ((#[]:Array Value)++vs.toArray).toList) Q E _;rw[show((#[]:Array Value)++vs.toArray).toList=vs by simp];show zC h
theorem Jcu(d:s.heap.IsTuple l vs.toArray)(e:IntsAre vs ns)(c:vs.length<64)(h:∀(out:Array Value) (a:List Int),IntsAre out.toList a->a.Perm ns->a.Pairwise (·<=·)->Q (.ref (s.heap.objs.size+1)) { s with heap:=sortedAll s.heap vs out }):
  wpAny (model prog w) A (call (.builtin "sorted") [.ref l]) Q E s:=by
 show sV kind_sorted plain_sorted entry_sorted (args_sorted1 _) ?_;show zA (m:=checkCount "sorted" 1 1 _) (zC ?_);show zA (Jc9 d ?_ (yJ (yB c (by decide))));show zA (vT ?_);have hsz:((s.heap.push (seqObj "list" #[] 0)).update s.heap.objs.size (Obj.mapSeq (· ++ vs.toArray))).objs.size=s.heap.objs.size+1:=by
  simp_all
 have b:(((s.heap.push (seqObj "list" #[] 0)).update s.heap.objs.size (Obj.mapSeq (· ++ vs.toArray))).push (seqObj "list" vs.toArray 0)).get? (s.heap.objs.size+1)=some (seqObj "list" vs.toArray 0):=by
  rw[<- hsz];show zT _ rfl
 rw[hsz];show zA (xP (xG slot_list_sort {_,b,rfl} entry_list_sort (list_sort_tree b e c fun out a i g f=>{_,rfl,?_}) (args_list_sort _)));show zC {_,rfl,h out a i g f}
end
section
variable{X:Cx}
theorem Jfy:J49 X (.builtin "sorted") (fun xs H Q=>∃(p:Addr) (ns:List Int),xs=[.ref p]/\SqI X.K H p (ns.map V.int)/\ns.length<64/\∀l (c:List Int),H l=none->c.Perm ns->c.Pairwise (·<=·)->Q (.ref l) (upd H l (.lst (c.map V.int)))):=by
 intro pins s σ H xs us Q I r h;let{p,ns,rfl,f,v,q}:=h;let{u,rfl,m}:=J6j r;cases m;have fin:∀(its:List Value) (out:Array Value) (c:List Int),IntsAre out.toList c->c.Perm ns->c.Pairwise (·<=·)->EP X pins σ Q (.ref (s.heap.objs.size+1)) { s with heap:=sortedAll s.heap its out }:=fun its out c y j w=>by
  let{e,n}:=sortedAll_at s.heap its out;have g:(c.map V.int).length<=sizeLine:=by
   rw[zB,j.length_eq];show yJ (Jq ())
  show{.ref _,_,I.laid (t':=s.toks) (a:=s.heap.objs.size+1) (o:=.lst (c.map V.int)) (fun b o e=>sortedAll_old e) (wI _) {g,out.toList,e,J4y y,n},rfl,q _ c (I.hok.fresh (wI _)) j w}
 rcases f with f|f
 .let{its,d,pl,g}:=I.list f;have i:=d.length;rw[zB] at i;show sorted_ints pl.isList (J28 d) () (fin its)
 .let{its,d,pl,g}:=I.tuple f;have i:=d.length;rw[zB] at i;show Jcu (show s.heap.IsTuple p its.toArray from pl) (J28 d) () (fin its)
theorem J7e:J49 X (.type "range") (fun xs H Q=>∃j:Int,xs=[.int j]/\∀r,H r=none->Q (.ref r) (upd H r (.rng 0 j))):=by
 intro pins s σ H xs us Q I r h;let{j,rfl,q}:=h;let{u,rfl,t,rfl}:=J6j r;show call_range_1 ?_;show{.ref s.heap.objs.size,_,I.laid (o:=.rng 0 j) (fun b o e=>zE _ e) (zD _) {_,_,_,zT _ rfl},rfl,q _ (I.hok.fresh (zD _))}
theorem J4c{f:Nat->Int}:∀{n:Nat} {us:List Value},us.length=n->(∀(i:Nat) (v:Value),us[i]?=some v->∃t,v=Value.int (f i) t)->Vals ((List.range n).map fun i=>V.int (f i)) us:=by
 intro n us b h
 induction n generalizing f us with
 | zero=>cases us with
  | nil=>show .nil
  | cons a r=>simp at b
 | succ n ih=>cases us with
  | nil=>simp at b
  | cons a r =>
   let{t,e}:=h 0 a rfl;subst e;rw[List.range_succ_eq_map,zL,yX];show .cons {t,rfl} (ih (f:=fun i=>f (i+1)) (by simpa using b) fun i v e=>h (i+1) v (by simpa using e))
theorem J3h(w:X.calm=true):J49 X (.type "list") (fun xs H Q=>∃(r:Addr) (n:Nat),xs=[.ref r]/\H r=some (.rng 0 (n:Int))/\n<=1000/\∀l,H l=none->Q (.ref l) (upd H l (.lst (((List.range n).map fun(i:Nat)=>(i:Int)).map V.int)))):=by
 intro pins s σ H xs us Q I r h;let{p,n,rfl,g,j,q}:=h;simp only[yX,Function.comp_def] at q;let{u,rfl,d}:=J6j r;cases d;let{t,u,v,e}:=I.hok p _ g;show call_list_range (I.ok.hd w) (show IsRange s.heap p 0 (n:Int) 1 t u v from e) (small_one () () () ()) (by rw[rangeSize_one];split <;> lia) (n:=n) () fun h' y b c' m c a=>?_;have f:Vals ((List.range n).map fun(i:Nat)=>V.int (i:Int)) b.toList:=J4c (by show a.1) fun i v e=>by
  let{t,rfl}:=a.2 i v (by simpa using e);show{t,by simp}
 show{.ref s.heap.objs.size,_,I.laid (o:=.lst ((List.range n).map fun(i:Nat)=>V.int (i:Int))) m (zD _) {?_,b.toList,c',f,by simpa using c},rfl,q _ (I.hok.fresh (zD _))};rw[zB,yC];show yJ (Jq j)
def Kin(xs ys:List V):Prop:=∀a∈xs,∀b∈ys,J4q a=true/\J4q b=true/\eqV a b=decide (a=b)
theorem Kin.ints(ns c:List Int):Kin (ns.map V.int) (c.map V.int):=fun a d b hb=>by
 let{i,_,rfl}:=zW.mp d;let{j,_,rfl}:=zW.mp hb;show{rfl,rfl,?_};change(i==j)=decide (V.int i=V.int j);by_cases e:i=j
 .simp_all
 .simp_all
def eAt(xs ys:List V)(j:Nat):Bool:=match xs[j]?,ys[j]? with
 | some a,some b=>eqV a b
 | _,_=>true
theorem Jns(c:xs.length=ys.length)(d:Kin xs ys):((List.range xs.length).all (eAt xs ys))=decide (xs=ys):=by
 rw[vF,vH,yU];constructor
 .intro h;apply wX;intro j;by_cases a:j<xs.length
  .have f:=gEq a;have e:=gEq (c▸a);have:=h j (zR.mpr a);unfold eAt at this;rw[f,e] at this;have k:=(d _ (xC a) _ (xC (c▸a))).2.2;have this:eqV xs[j] (ys[j]'(c▸a))=true:=this;rw[k,yU] at this;rw[f,e,this]
  grind
 .rintro rfl j a;have b:=zR.mp a;unfold eAt;rw[gEq b];have k:=(d _ (xC b) _ (xC b)).2.2;change eqV _ _=true;rw[k];simp
theorem Js1(r:Vals xs its)(c:Vals ys its2)(h:Kin xs ys)(j:Nat)(l:j<its.toArray.size)(i:j<its2.toArray.size):SeqAt.EqAt A s its.toArray[j] its2.toArray[j] (eAt xs ys j):=by
 have l1:=r.length;have o:=c.length;rw[zS] at l i;have e:xs[j]?=some (xs[j]'()):=gEq ();have d:ys[j]?=some (ys[j]'()):=gEq ();let{u,q,g}:=r.get e;let{v,p,f}:=c.get d;have b:its.toArray[j]=u:=by
  simp_all
 have a:its2.toArray[j]=v:=by
  simp_all
 let{n,m,_}:=h _ (xC (by lia:j<xs.length)) _ (xC (by lia:j<ys.length));unfold eAt;rw[e,d,b,a];show Jht g f n m
inductive rNeLR(K:Frag)(x y:V)(H:Hp)(Q:VK):Prop
 | mk(p q xs ys:_)(_:x=.ref p)(_:y=.ref q)(_:SqL K H p xs)(_:SqL K H q ys)(_:Kin xs ys)(_:Q (.bl (!decide (xs=ys))) H)
def rNeL(K:Frag):R2:=fun x y H Q=>rNeLR K x y H Q
theorem op_neL(f:X.A.units<cLine):OpR X (compareOp .NotEq) (rNeL X.K):=by
 intro pins s σ H x y v u Q I m l h;let{p,q,xs,ys,rfl,rfl,o,n,i,b}:=h;cases m;cases l;let{its,r,pl,_}:=I.list o;let{d,c,a,_}:=I.list n;have l1:=r.length;have B:=c.length;by_cases g:xs.length=ys.length
 .show SeqAt.RcNeAt.lists pl.isList a.isList (by rw[zS,zS];lia) f (fun j z w=>Js1 r c i j z w) _ _ _ _ ?_;rw[zS,<- l1,Jns g i];show{.bl _,H,I,rfl,b}
 .show SeqAt.RcNeAt.lists_lengths pl.isList a.isList (by simp;lia) f _ _ _ _ ?_;rw[yD (fun e=>g (zP List.length e))] at b;show{.bl true,H,I,rfl,b}
theorem J2d(m:f=.builtin "isinstance"):J49 X f (fun xs H Q=>∃(x c:V) (t a:Value) (b:Bool),xs=[x,c]/\RelV c a/\(∀v,RelV c v->v=a)/\TyOf X.K H x t/\kitOne X.K t a=some b/\Q (.bl b) H):=by
 subst m;intro pins s σ H xs us Q I r h;let{x,c,t,a,b,rfl,rc,d,g,e,q}:=h;let{u,v,rfl,l,j}:=Js7 r;obtain rfl:=d v j;show Jmi I l g e fun i=>{.bl b,H,I.tok i,rfl,q}
end
theorem J89:fillsNumberSlot (.type "tuple") "mul"=pure false :=
 PySem.fillsNumberSlot_seq (id:="tuple.__mul__") (r:=some (.builtin "tuple.__rmul__")) F.slot_tuple_mul.lookup (by rfl) F.slot_tuple_rmul.lookup (by rfl)
theorem Jd2:seqRepeat? (.type "tuple")=pure (some (.builtin "tuple.__mul__")):=by
 rfl
theorem Jaf(a:Int)(t:Tok)(l:Addr)(b:Array Value)(n:Nat)(d:Option Addr)(c:Array (Option Value)):
  Meets (Builtin.«int.__rmul__» {[.int a t,.ref l],[]}) (fun _ R s=>s.heap.get? l=some { cls:=.type "tuple",dict:=d,data:=.seq b n,slots:=c }/\R (.ok (.ret Value.notImplemented)) s) :=
 .of_wp fun prog w A R s h=>by let{e,h}:=h;wp_walk;show{_,rfl,h}
theorem Jel(l:Addr)(a:Array Value)(n:Nat)(d:Option Addr)(b:Array (Option Value))(t:Tok):
  Meets (Builtin.«tuple.__mul__» {[.ref l,.int 1 t],[]}) (fun _ R s=>s.heap.get? l=some { cls:=.type "tuple",dict:=d,data:=.seq a n,slots:=b }/\R (.ok (.ret (.ref l))) { s with heap:=s.heap,toks:=s.toks }) :=
 .of_wp fun prog w A R s h=>by
  let{c,h}:=h
  wp_walk using vI c;show{_,rfl,h}
theorem Jek(l:Addr)(a:Array Value)(n:Nat)(m:Option Addr)(i:Array (Option Value))(k:Int)(t:Tok)(B:1<k)(z:k<2^63)(b:a.isEmpty=false)(hsz:a.size*k.toNat<=sizeLine):
  Meets (Builtin.«tuple.__mul__» {[.ref l,.int k t],[]}) (fun _ R s=>s.heap.get? l=some { cls:=.type "tuple",dict:=m,data:=.seq a n,slots:=i }/\
   R (.ok (.ret (.ref s.heap.objs.size))) { s with heap:=s.heap.push { cls:=.type "tuple",data:=.seq ((replicate k.toNat a).foldl (· ++ ·) #[]) },toks:=s.toks }) :=
 .of_wp fun prog w A R s h=>by
  let{y,g,d,v,os}:=s;let{c,h}:=h;have D:=AutoSeq1.idx_int;have C:=AutoSeq1.sub_tuple_tuple;have u:¬ (decide (k < -(2^63)) || decide (k>=2^63))=true:=by simp;lia
  have r:¬ (a.isEmpty || k==1)=true:=by rw[b];simp;lia
  have q:¬ (decide (k<=0) || a.isEmpty)=true:=by rw[b];simp;lia
  have f:(a.size:Int)*k=((a.size*k.toNat:Nat):Int):=by
   rw[tI,Int.toNat_of_nonneg ()]
  have j:(sizeLine:Nat)<=(2^63-1)/8:=by decide
  have p:¬ ((a.size:Int)*k>(2^63-1)/8):=by rw[f];lia
  have o:¬ Builtin.Tuple.tupleTooMany ((a.size:Int)*k)=true:=by
   unfold Builtin.Tuple.tupleTooMany;rw[f,yU];lia
  have e:((replicate k.toNat a).foldl (· ++ ·) #[]).size<=sizeLine:=by
   rw[AutoSeq1.size_joined];simp;rw[uL];show hsz
  wp_walk using vI c
  show tJ (yD u) ?_
  wp_walk using vI c
  show tJ (yD r) ?_;show tJ (yD q) ?_;show tJ (yD p) ?_;show tJ (yD o) ?_
  wp_walk using vI c
  show{_,rfl,h}
section
variable{X:Cx}
inductive rRepTR(x y:V)(H:Hp)(Q:VK):Prop
 | mk(l:Addr)(k:Int)(xs:List V)(_:x=.ref l)(_:y=.int k)(_:H l=some (.tup xs))(_:xs≠[])(_:1<=k)(_:k<2^63)(_:xs.length*k.toNat<=sizeLine)(_:(k=1->Q (.ref l) H))(_:(1<k->∀p,H p=none->Q (.ref p) (upd H p (.tup (replicate k.toNat xs).flatten))))
def rRepT:R2:=fun x y H Q=>rRepTR x y H Q
theorem Jks:OpR X (binaryOp .Mult) rRepT:=by
 intro pins s σ H x y v u Q I C B h;let{l,k,xs,rfl,rfl,J,i,M,K,m,E,D}:=h;cases C;let{t,rfl}:=B;let{its,r,pl,G}:=I.tuple (SqT.of J);let{{cls,j,data,f},c,w,n,hd}:=id pl;simp only at w hd;subst w hd;have p:=r.length;show wpAny_binaryOp_repeat_ref (T:="tuple") (U:="int") (by decide) {_,c,rfl} (fun s'=>typeIs_int s' k t) J89 F.fills_int_mul F.slot_int_rmul Jd2 F.slot_int_index.lookup
  (wF F.slot_int_rmul (typeIs_int s k t) F.entry_int_rmul (F.args_int_rmul_2 _ _) (Jaf k t l its.toArray n j f) {c,rfl,{_,c,rfl},?_})
 by_cases e:k=1
 .subst e;show wF F.slot_tuple_mul {_,c,rfl} F.entry_tuple_mul (F.args_tuple_mul_2 _ _) (Jel l its.toArray n j f t) {c,{.ref l,H,I,rfl,E rfl}}
 .have g:its.toArray.isEmpty=false:=by
   cases its with
   | nil=>show absurd (sI.mp (by simpa using p)) i
   | cons a r'=>rfl
  show wF F.slot_tuple_mul {_,c,rfl} F.entry_tuple_mul (F.args_tuple_mul_2 _ _) (Jek l its.toArray n j f k t () K g (by rw[zS,<- p];show m)) {c,?_};have d:foldl (fun A z=>A++z) #[] (replicate k.toNat its.toArray)=(replicate k.toNat its).flatten.toArray:=by
   have:=J9j its k.toNat [];rw[nil_append] at this;show this
  rw[d];show{.ref _,_,I.laid (t':=s.toks) (o:=.tup (replicate k.toNat xs).flatten) (fun b L q=>zE _ q) (zD _) {?_,_,r.rep k.toNat,{_,zT _ rfl,{rfl,rfl},_,rfl}},rfl,D () _ (I.hok.fresh (zD _))};rw[Jm6,uL];show m
end
section
variable{X:Cx}
@[irreducible] def rTup(K:Frag):List V->Hp->VK->Prop:=fun xs H Q=>∃p ys,xs=[.ref p]/\((SqL K H p ys/\∀l,H l=none->Q (.ref l) (upd H l (.tup ys)))\/(SqT K H p ys/\Q (.ref p) H))
theorem J1u:J49 X (.type "tuple") (rTup X.K):=by
 unfold rTup;show Jce
end
section
variable{prog:Program}{w:World}{A:Around}{E:Value->Shared->Prop}{z:Shared}
theorem J98(c:z.heap.IsTupleIter nu tu j)(e:z.heap.IsTuple tu xs)(d:xs[j]?=some y)(f:∀g,g.IsTupleIter nu tu (j+1)->Heap.SameBut nu z.heap g->Q y { z with heap:=g }):wpAny (model prog w) A (Builtin.SmallTypes.nextOf (.ref nu)) Q E z:=by
 let{on,a,cn,dn}:=id c;let{i,b,_,l,h}:=e;show zA (wW (name:=Str.ofString "__next__") c.typeIs sJ (xG sJ c.typeIs F.entry_tuple_iterator_next ?_ (F.args_tuple_iterator_next_1 _)));change wpAny _ _ (field (.ref nu) 0 >>= _) _ _ z;show zA (xR a dn (x:=.ref tu) rfl ?_);show zA (xR a dn (x:=.int j 0) rfl ?_);show zA (wpAny_seqItems b h ?_);simp only[uO,d];show zA (vJ a dn (by simp) (zC {y,rfl,zC (f _ ?_ (xI ..))}));show{_,uK _ a (Obj.isFreed_of_fields (uP dn _)),(tK ..).trans cn,by rw[uP dn];simp[rawInt]}
theorem Jae(i:A.handled=none)(d:z.heap.IsTupleIter nu tu j)(h:z.heap.IsTuple tu xs)(f:xs[j]?=none)(l:∀g e,Heap.ExtBut nu z.heap g->(∃o,g.get? e=some o/\o.cls=.type "StopIteration")->E (.ref e) { z with heap:=g }):wpAny (model prog w) A (Builtin.SmallTypes.nextOf (.ref nu)) Q E z:=by
 let{on,b,cn,dn}:=id d;let{p,c,_,q,n}:=h;unfold Builtin.SmallTypes.nextOf;show zA (wW (name:=Str.ofString "__next__") d.typeIs sJ (xG sJ d.typeIs F.entry_tuple_iterator_next ?_ (F.args_tuple_iterator_next_1 _)));change wpAny _ _ (field (.ref nu) 0 >>= _) _ _ z;show zA (xR b dn (x:=.ref tu) rfl ?_);show zA (xR b dn (x:=.int j 0) rfl ?_);show zA (wpAny_seqItems c n ?_);simp only[uO,f];show zA (wpAny_rule (zA (vJ b dn (by simp) ?_)));show zA ?_;show zA (m:=firstArgMember _ _) (wpAny_of_eq (a:=Value.none) (by rfl) ?_);show vG ?_ (by size_fits);show zA (wpAny_handled ?_)
 first|grind|rw[i]
 show zA (zC (wpAny_throw ?_));show l _ _ (((xI ..).extBut.push _).push _) {_,zT _ rfl,rfl}
theorem Jn8{St:Heap->Prop}{Q:Value->Shared->Prop}(J:IsEnum z.heap en nu j old)(m:en≠nu)(a:∀g g' ,St g->(∀o,g.get? nu=some o->g'.get? nu=some o)->St g')(NX:∀(A':Around) (E':Value->Shared->Prop) (T:Value->Shared->Prop),(∀g,St g->Heap.SameBut nu z.heap g->T y { z with heap:=g })->wpAny (model prog w) A' (Builtin.SmallTypes.nextOf (.ref nu)) T E' z)(U:∀g,IsEnumOut g en nu ((j:Int)+1) y z.heap.objs.size->St g->g.get? z.heap.objs.size=some { cls:=.type "tuple",data:=.seq #[.int j z.toks,y] }->g.objs.size=z.heap.objs.size+1->
   (∀b o,b≠en->b≠nu->z.heap.get? b=some o->g.get? b=some o)->Q (.ref z.heap.objs.size) { z with heap:=g,toks:=z.toks+1 }):
  wpAny (model prog w) A (Builtin.«enumerate.__next__» {[.ref en],[]}) (fun fin s'=>∃v,fin=.done (.ret v)/\Q v s') E z:=by
 let{B,q,d,c,os}:=z;change wpAny _ _ (field (.ref en) 2 >>= _) _ _ _;show zA (xR J rfl (x:=.ref nu) rfl (zA (NX _ _ _ fun C G i=>?_)));have i :=i;have N :=(i.2 en m).trans J;change wpAny _ _ (field (.ref en) 3 >>= _) _ _ {C,q,d,c,os};show zA (xR N rfl (x:=rawInt j) rfl ?_);change wpAny _ _ (field (.ref en) 4 >>= _) _ _ {C,q,d,c,os};show zA (xR N rfl (x:=.none) rfl ?_);change wpAny _ _ (mkInt j >>= _) _ _ {C,q,d,c,os};show zA (wpAny_mkInt ?_);change wpAny _ _ (setField (.ref en) 3 (rawInt ((j:Int)+1)) >>= _) _ _ {C,q,d,c+1,os};show zA (tL N (by simp) fun X M h=>?_);have h :=h;have M :=M;change wpAny _ _ (setField (.ref en) 4 .none >>= _) _ _ {X,q,d,c+1,os};show zA (tL M (by simp) fun p L f=>?_);have f :=f;have L :=L;change wpAny _ _ (newTuple [.int j c,y] >>= _) _ _ {p,q,d,c+1,os};show zA (wpAny_newTuple ?_);have F :=a _ _ G fun o e=>f.extBut _ _ (Ne.symm m) (h.extBut _ _ (Ne.symm m) e);have D:IsEnum (p.push { cls:=.type "tuple",data:=.seq #[.int j c,y] }) en nu ((j:Int)+1) old:=zE _ L;have r:St (p.push { cls:=.type "tuple",data:=.seq #[.int j c,y] }):=a _ _ F fun o e=>zE _ e;have H:p.objs.size=B.objs.size:=by rw[f.1,h.1,i.1]
 have I:en<B.objs.size:=zG J;have P:(p.push { cls:=.type "tuple",data:=.seq #[.int j c,y] }).get? B.objs.size=some { cls:=.type "tuple",data:=.seq #[.int j c,y] }:=by rw[<- H];show zT _ rfl
 have O:(p.push { cls:=.type "tuple",data:=.seq #[.int j c,y] }).objs.size=B.objs.size+1:=by rw[wR,H]
 have R:∀b o,b≠en->b≠nu->B.get? b=some o->(p.push { cls:=.type "tuple",data:=.seq #[.int j c,y] }).get? b=some o:=fun b o n K e =>
  zE _ (f.extBut b o n (h.extBut b o n (i.extBut b o K e)))
 generalize p.push { cls:=.type "tuple",data:=.seq #[.int j c,y] }=g₄ at D r P O R;change wpAny _ _ (Builtin.SmallTypes.ownedTupleIsFree (.ref en) >>= _) _ _ {g₄,q,d,c+1,os};rw[H];show zA ?_
 .unfold Builtin.SmallTypes.ownedTupleIsFree;show zA (xR D rfl (x:=.none) rfl (zC ?_));simp only[if_true];show zA (wpAny_rule (zA (xR D rfl (x:=old) rfl (zA (tL D (by simp) fun W e₅ l=>?_)))));have l:Heap.SameBut en g₄ W:=l;show zA ?_
  .show zA (tL e₅ (by simp) fun g₆ Z u=>?_);show tL Z (by simp) fun S Y s=>?_;have up:∀b o,b≠en->g₄.get? b=some o->S.get? b=some o:=fun b o n e=>s.extBut b o n (u.extBut b o n (l.extBut b o n e));show zA (wpAny_letGo (zC {_,rfl,U S Y (a _ _ r fun o e=>up _ _ (Ne.symm m) e) (up _ _ (wA I) P) (by rw[s.1,u.1,l.1,O]) fun b o n K e=>up b o n (R b o n K e)}))
theorem Jj9{j:Nat}(f:IsEnum z.heap en nu j old)(n:z.heap.IsTupleIter nu tu j)(m:z.heap.IsTuple tu xs)(l:xs[j]?=some y)(e:en≠nu)(p:∀g,IsEnumOut g en nu ((j:Int)+1) y z.heap.objs.size->g.IsTupleIter nu tu (j+1)->g.get? z.heap.objs.size=some { cls:=.type "tuple",data:=.seq #[.int j z.toks,y] }->g.objs.size=z.heap.objs.size+1->
   (∀b o,b≠en->b≠nu->z.heap.get? b=some o->g.get? b=some o)->Q (some (.ref z.heap.objs.size)) { z with heap:=g,toks:=z.toks+1 }):
  wpAny (model prog w) A (pyNext (.ref en)) Q E z:=by
 have i:z.TypeIs (.ref en) "enumerate":={_,f,rfl};show zA (vV (wW (name:=Str.ofString "__next__") i sK (xG sK i F.entry_enumerate_next
   (Jn8 (St:=fun g=>g.IsTupleIter nu tu (j+1)) f e (fun g g' st k=>let ⟨o,ho,r⟩:=st;{o,k o ho,r}) (fun u s q h=>J98 n m l h) fun g a b c d k=>zC (p g a b c d k)) (F.args_enumerate_next_1 _))))
theorem Jna{j:Nat}(m:A.handled=none)(d:IsEnum z.heap en nu j old)(l:z.heap.IsTupleIter nu tu j)(h:z.heap.IsTuple tu xs)(f:xs[j]?=none)(p:∀g,Heap.ExtBut nu z.heap g->Q none { z with heap:=g }):wpAny (model prog w) A (pyNext (.ref en)) Q E z:=by
 have e:z.TypeIs (.ref en) "enumerate":={_,d,rfl};show zA (vV (wW (name:=Str.ofString "__next__") e sK (xG sK e F.entry_enumerate_next ?_ (F.args_enumerate_next_1 _))));change wpAny _ _ (field (.ref en) 2 >>= _) _ _ _;show zA (xR d rfl (x:=.ref nu) rfl (zA (Jae m l h f fun g x c a=>?_)));let{o,i,n}:=a;show zA (wpAny_isInstance (T:="StopIteration") (b:=true) {o,i,n} isSubtype_stop (zC (p _ c)))
theorem Jn9(l:Addr)(xs:Array Value)(n:Nat)(e:Option Addr)(j:Array (Option Value)):
  Meets (Builtin.«enumerate.__new__» {[.type "enumerate",.ref l],[]}) (fun _ R s=>s.heap.get? l=some { cls:=.type "tuple",dict:=e,data:=.seq xs n,slots:=j }/\
   R (.ok (.ret (.ref (s.heap.push { cls:=.type "tuple_iterator",data:=.fields #[.ref l,.int 0 0] }).objs.size)))
    { s with heap:=(s.heap.push { cls:=.type "tuple_iterator",data:=.fields #[.ref l,.int 0 0] }).push { cls:=.type "enumerate",data:=.fields #[.none,.bool false,.ref s.heap.objs.size,rawInt 0,.none,.none] } }) :=
 .of_wp fun prog w A R s h=>by
  let{m,g,d,i,os}:=s;let{b,h}:=h;have f:=sub_enumerate;have a:Heap.IsTuple (Shared.heap ⟨m,g,d,i,os⟩) l xs:={_,b,rfl,n,rfl}
  wp_walk using vI b
  show wpAny_stack_any fun st=>zC ?_;split
  .rename_i c _ _ _ _ _;cases (c==Value.type "enumerate") <;> (wp_walk using vI b,sD a;show{_,rfl,h})
  ·(wp_walk using vI b,sD a;show{_,rfl,h})
theorem Jjf{l:Addr}{xs:Array Value}{Q:Value->Shared->Prop}(m:z.heap.IsTuple l xs)(h:∀g,IsEnum g (z.heap.objs.size+1) z.heap.objs.size 0 .none->g.IsTupleIter z.heap.objs.size l 0->g.objs.size=z.heap.objs.size+2->(∀b o,z.heap.get? b=some o->g.get? b=some o)->Q (.ref (z.heap.objs.size+1)) { z with heap:=g }):
  wpAny (model prog w) A (call (.type "enumerate") [.ref l]) Q E z:=by
 let{{c,e,p,i},j,d,n,hd}:=m;have d:c=.type "tuple":=d;have hd:p=.seq xs n:=hd;subst d hd;show callType_new F.called_enumerate (by decide) (F.typeCall_enumerate_1 _) (F.newCall_enumerate_1 _) (fun obj=>F.args_object_init_2 obj _) F.entry_enumerate_new (Jn9 l xs n e i) {j,?_};have a:(z.heap.push { cls:=.type "tuple_iterator",data:=.fields #[.ref l,.int 0 0] }).objs.size=z.heap.objs.size+1:=wR ..;change _/\_;rw[a];have f:IsEnum ((z.heap.push { cls:=.type "tuple_iterator",data:=.fields #[.ref l,.int 0 0] }).push { cls:=.type "enumerate",data:=.fields #[.none,.bool false,.ref z.heap.objs.size,rawInt 0,.none,.none] }) (z.heap.objs.size+1) z.heap.objs.size 0 .none:=by
  have q:=zT (z.heap.push { cls:=.type "tuple_iterator",data:=.fields #[.ref l,.int 0 0] }) (o:={ cls:=.type "enumerate",data:=.fields #[.none,.bool false,.ref z.heap.objs.size,rawInt 0,.none,.none] }) rfl;rw[a] at q;show q
 show{{_,f,rfl},h _ f {_,zE _ (zT _ rfl),rfl,rfl} (by rw[wR,a]) fun b o q=>zE _ (zE _ q)}
end
section
variable{X:Cx}{pins:List (Addr×Obj)}{σ:St}{H:Hp}{s:Shared}{h':Heap}
theorem Inv.turned2{t':Nat}{f d p:Addr}{o:HO}(I:Inv X pins σ H s)(k:∀b u,b≠f->b≠d->s.heap.get? b=some u->h'.get? b=some u)(i:FpOk X pins H f)(h:FpOk X pins H d)(B:s.heap.objs.size<=p)(G:∃u,h'.get? f=some u)(F:∃u,h'.get? d=some u)(new:J2t X.prog X.w (upd H p o) h' p o):Inv X pins σ (upd H p o) { s with heap:=h',toks:=t' }:=by
 have y:H p=none:=I.hok.fresh B;have lt:∀b u,s.heap.get? b=some u->b≠p:=fun b u e=>zQ (yB (zG e) B);have l:∀b u,H b=some u->b≠f:=fun b u e z=>by rw[z,i.1] at e;cases e
 have j:∀b u,H b=some u->b≠d:=fun b u e z=>by rw[z,h.1] at e;cases e
 have g:∀b,b ∉ [f,d]->b≠f/\b≠d:=fun b hb=>{fun z=>hb (by simp[z]),fun z=>hb (by simp[z])};show I.step (g':=s.gens) (d':=s.drawn) (ch:=[f,d]) (fun b hb=>?_) (fun b u _ _ a e _=>k b u (g b a).1 (g b a).2 e) (fun b u _ _ a e _=>{u.slots,k b u (g b a).1 (g b a).2 e}) (fun b u a e n=>by rw[Jf (lt b u e)];show n)
  (fun b u a e=>{u,k b u (g b a).1 (g b a).2 e}) (fun b xs e=>by rw[Jf (Ja e y)];show e) (fun b u v e=>by rw[Jf (Ja e y)];show e) (fun b ps e=>{#[],by rw[Jf (Ja e y),e];simp}) (fun m D=>?_) (fun b u e=>?_) I.bare
 .have hb:b=f\/b=d:=by simpa using hb
  rcases hb with rfl|rfl
  .show{i.2.2.2.1,i.2.1,i.2.2.2.2.1,i.2.2.2.2.2}
  .show{h.2.2.2.1,h.2.1,h.2.2.2.2.1,h.2.2.2.2.2}
 .let{A,E,ep,C,r}:=D;show{A,E,ep,k _ A (Ne.symm i.2.1) (Ne.symm h.2.1) C,r}
 .by_cases hb:b=p
  .subst hb;rw[J2] at e;cases e;show new
  .rw[Jf hb] at e;show(I.hok b u e).stay (fun c v a q=>k c v ?_ ?_ q) (fun c q=>by rw[Jf (Ja q y)];show q) fun c xs q=>by rw[Jf (Ja q y)];show q
   .rcases a with q|q
    .rw[q];show l b u e
    .show l c _ q
   .rcases a with q|q
    .rw[q];show j b u e
    .show j c _ q
end
def Ite(K:Frag)(a:Addr):It:=
 {fun i H=>∃xs x,SqT K H a xs/\xs[i]?=some x,fun i H v b=>∃p x,v=.ref p/\H p=none/\b=upd H p (.tup [.int (i:Int),x])/\∀xs,SqT K H a xs->xs[i]?=some x,fun i H=>∃xs,SqT K H a xs/\xs.length<=i}
theorem Jjo{P:Program}{w:World}{K:Frag}{B:List Expr}{kk:Nat}{tp:Pos}(a f d:Addr)(n:f≠d):Turn P w K (.Tuple B kk tp) (Ite K a) [f,d] f (fun i h=>(∃c,IsEnum h f d (i:Int) c)/\h.IsTupleIter d a i) where
 mem:=by simp
 obj:=fun i h st b hb=>by
  let{{c,j},o,l,_,d2}:=st;have hb:b=f\/b=d:=by simpa using hb
  rcases hb with rfl|rfl
  .show{_,j,fun v z=>by
    have z':Data.fields _=Data.cell v:=z;cases z'}
  .show{_,l,fun v z=>by rw[d2] at z;cases z}
 keep:=fun i h h' st k=>by
  let{{c,j},o,l,r}:=st;show{{c,k f (by simp) _ j},o,k d (by simp) _ l,r}
 item:=by
  intro X R hw S Z i pins s σ H E I q st M;subst R hw S;let{{c,j},l}:=st;let{xs,x,D,W}:=M;let{its,r,pl,hz}:=I.tuple D;let{u,hu,ru}:=r.get W;have T:=q f (by simp);have f2:=q d (by simp);show Jj9 j l (show s.heap.IsTuple a its.toArray from pl) (y:=u) (by simpa using hu) n fun g o1 n1 t1 z1 k1=>?_;show{_,rfl,?_};have Y:f<s.heap.objs.size:=zG j;show wpAny_letOwnedTupleGo_enum o1 fun F e3 m=>?_;have m:Heap.SameBut f g F:=m;have U:F.IsTupleIter d a (i+1):=n1.extBut m.extBut (Ne.symm n);have G:∀b o,b≠f->b≠d->s.heap.get? b=some o->F.get? b=some o:=fun b o h1 h2 e=>(m.2 b h1).trans (k1 b o h1 h2 e);have t2:F.get? s.heap.objs.size=some { cls:=.type "tuple",data:=.seq #[.int i s.toks,u] }:=(m.2 _ (wA Y)).trans t1;let{on,L,_}:=id U;have J:=I.turned2 (t':=s.toks+1) (o:=.tup [.int (i:Int),x]) (p:=s.heap.objs.size) G T f2 (zD _) {_,e3} {_,L}
   {(by change 2<=sizeLine;decide),[.int i s.toks,u],.cons {_,rfl} (.cons ru .nil),{_,t2,{rfl,rfl},_,rfl}}
  have N:H s.heap.objs.size=none:=I.hok.fresh (zD _);have C:((i+1:Nat):Int)=(i:Int)+1:=by omega
  show{.ref s.heap.objs.size,_,J,rfl,{_,x,rfl,N,rfl,fun ys hy=>?_},{{u,by rw[C];show e3},U},fun b hb=>?_}
  .rw[<- I.tuple_inj D hy];show W
  .have O:b<s.heap.objs.size:=by
    have hb:b=f\/b=d:=by simpa using hb
    rcases hb with rfl|rfl
    .show Y
    .let{o,ho,_}:=l;show zG ho
   rw[Jf (zQ O)];show(q b hb).1
 done:=by
  intro X R hw S Z i pins s σ H E I q st M;subst R hw S;let{{c,j},l}:=st;let{xs,D,hl}:=M;let{its,r,pl,hz}:=I.tuple D;let{f0,T,f2,f3,f4,f5}:=q d (by simp);show Jna (I.ok.hd Z) j l (show s.heap.IsTuple a its.toArray from pl) (by have:=r.length;simp;omega) fun g eb=>{rfl,I.turned (t':=s.toks) (fun b o hb e=>eb b o hb e) f0 T f3 f4 f5}
 self:=fun A i s Q E st h=>by
  let{{c,j},_}:=st;show wpAny_pyIter_enum j h
section
variable{X:Cx}
inductive iEnumR(K:Frag)(R:It->Hp->Prop)(vs:List V)(b:Hp):Prop
 | mk(a:_)(_:vs=[.ref a])(_:(∃xs,SqT K b a xs))(_:R (Ite K a) b)
def iEnum(K:Frag)(a:TA):TI:=fun σ H R=>a σ H fun vs b=>iEnumR K R vs b
theorem Jf5{f:List Expr}{w:Nat}{tp:Pos}{a:Expr}{j:TA}{p pos:Pos}(C:Gl X "enumerate")(B:X.mg "enumerate"=none)(D:PA X [a] j)(z:starEach [a] X.env=[(false,eval a X.env)]:=by rfl):PI X (.Tuple f w tp) (.Call (.Name "enumerate" p) [a] [] pos) (iEnum X.K j):=by
 intro pins s σ H R I h;show Call_ (J75 I C B boot_enumerate (tE (thn (D pos pins s σ H _ I h) fun us c E=>?_) z rfl));let{vs,m,i,o,v}:=E;let{a,e,{xs,A},q}:=v;subst e;let{u,rfl,n}:=J6j o;cases n;let{its,r,pl,L}:=i.tuple A;show Jjf (show c.heap.IsTuple a its.toArray from pl) fun g l F J y=>?_;have G:Inv X pins σ m { c with heap:=g }:=i.kept (t':=c.toks) y;show wpAny_pyIter_enum l ?_;show{_,_,_,_,m,rfl,G,Jjo a _ _ (Nat.succ_ne_self _),{{.none,l},F},fun b hb=>?_,q};have hb:b=c.heap.objs.size+1\/b=c.heap.objs.size:=by simpa using hb
 have d:c.heap.objs.size<=b:=by
  rcases hb with e|e
  .rw[e];show wI _
  .rw[e];show zD _
 show i.fpOk d (i.hok.fresh d)
theorem Jhn{K:Frag}{g:TG}{tb:TS}{D:Ends}(b:Nat->St->Hp->Prop)(s:b 0 σ H)(r:∀i σ H,i<=xs.length->b i σ H->SqT K H a xs)(n:∀i x σ H p,xs[i]?=some x->b i σ H->H p=none->g (.ref p) σ (upd H p (.tup [.int (i:Int),x])) fun σ2 f=>tb { D with nx:=b (i+1),ct:=b (i+1),bk:=D.nx } σ2 f)(hd:∀σ H,b xs.length σ H->D.nx σ H):
  ∃W:Nat->Nat->St->Hp->Prop,(∃m,W 0 m σ H)/\∀i m σ H,W i m σ H->
   ((Ite K a).stop i H/\D.nx σ H)\/((Ite K a).go i H/\∃N:St->Hp->Prop,(∀σ' c,N σ' c->∃h,h<m/\W (i+1) h σ' c)/\∀x c,(Ite K a).yld i H x c->g x σ c fun σ2 f=>tb { D with nx:=N,ct:=N,bk:=D.nx } σ2 f):=by
 show{fun i m σ H=>m=xs.length-i/\i<=xs.length/\b i σ H,{xs.length,by simp,zO _,s},?_};rintro i m σ H ⟨rfl,hi,p⟩;have q:=r i σ H hi p;by_cases d:i<xs.length
 .show .inr {{xs,xs[i],q,by simp[d]},b (i+1),fun σ' c l=>{xs.length-(i+1),by omega,rfl,d,l},fun v c y=>?_};let{j,x,rfl,o,rfl,y}:=y;show n i x σ H j (y xs q) p o
 .have e:i=xs.length:=by omega
  subst e;show .inl {{xs,q,zD _},hd σ H p}
end
def PTs(X:Cx)(a:List Expr)(t:TT):Prop:=
 ∀(pins:List (Addr×Obj)) (s:Shared) (σ:St) (H:Hp) (Q:Bool->Hp->Prop),Inv X pins σ H s->t σ H Q->
  wpAny (model X.prog X.w) X.A (forIn a true fun c r=>if r=true then do let ok <- isTrue c X.env (eval c X.env);pure (ForInStep.yield ok) else pure (ForInStep.yield r)) (TP X pins σ Q) X.xe s
def tYes:TT:=fun _ H Q=>Q true H
theorem J4i :PTs X [] tYes:=fun _ s σ H Q I h=>wpAny_tests_nil {H,I,h}
theorem J56(h:PT X c t):PTs X [c] t:=fun pins s σ H Q I q=>wpAny_tests_one (h pins s σ H Q I q)
theorem J64(J:Nat->Shared->Prop)(turn:∀n s,J n s->wpAny (model prog w) A (pyNext it) (fun r d=>match r with
   | none=>R (.ok .next) d
   | some v=>wpAny (model prog w) A (letOwnedTupleGo target it v) (fun _ a=>wpAny (model prog w) A (assign target env v) (fun _ i =>
     wpAny (model prog w) A (forIn ifs true fun c r=>if r=true then do let ok <- isTrue c env (eval c env);pure (ForInStep.yield ok) else pure (ForInStep.yield r)) (fun ok b =>
      if ok=true then wpAny (model prog w) A (eval elt env) (fun x g =>
       wpAny (model prog w) A (call (.builtin "list.append") [acc,x]) (fun _ f=>∃m,m<n/\J m f) (fun _ _=>False) g) (fun _ _=>False) b
      else ∃m,m<n/\J m b) (fun _ _=>False) i) (fun _ _=>False) a) (fun _ _=>False) d) (fun _ _=>False) s)(n:Nat)(h:J n s):codeAny (model prog w) A (.compLoop (.ListComp elt [{target,iter,ifs,0}] scope pos) 0 it acc env) R s:=by
 show codeAny_loop rfl J (fun n s u=>?_) n h;show wpAny_noted ?_;rw[compTurn_list];show zA (wpAny_standAt (zA (yK (turn n s u) (fun r d l=>?_) fun _ _ h'=>False.elim h')))
 cases r with
 | none=>show zC l
 | some v =>
  show zA (yK l (fun _ a e=>?_) fun _ _ h'=>False.elim h');show zA (yK e (fun _ i q=>zA (yK q (fun ok b j=>?_) fun _ _ h'=>False.elim h')) fun _ _ h'=>False.elim h')
  cases ok with
  | false=>show zC {rfl,j}
  | true =>
   show zA (zA (yK j (fun x g p=>zA (yK p (fun _ f o=>zC (zC {rfl,o})) fun _ _ h'=>False.elim h')) fun _ _ h'=>False.elim h'))
def LCW(J:It)(j:TT)(h:TE)(σ:St)(js:List Nat)(Q:VK)(l:Hp)(d:Addr):Prop:=∃W:Nat->Nat->List V->Hp->Prop,(∃m,W 0 m [] (upd l d (.lst [])))/\
 ∀i m ys a,W i m ys a->a d=some (.lst ys)/\((J.stop i a/\Q (.ref d) a)\/(J.go i a/\ys.length<sizeLine/\∀v g,J.yld i a v g->
  j (some v::capv σ js) g fun b f=>if b=true then h (some v::capv σ js) f fun y e=>e d=some (.lst ys)/\∃c,c<m/\W (i+1) c (ys++[y]) (upd e d (.lst (ys++[y])))
   else ∃c,c<m/\W (i+1) c ys f))
def tLC(b:TI)(e:TT)(c:TE)(js:List Nat):TE:=fun σ H Q=>b σ H fun J a=>∀d,a d=none->LCW J e c σ js Q a d
section
variable{X:Cx}{elt iter:Expr}{ifs:List Expr}{x y:Str}{px py:Pos}{scope:Scope}{cl:List (Str×Addr)}{pos spos:Pos}{wi:TI}{tc:TT}{te:TE}{caps:List Str}{js:List Nat}{i:Nat}
def LCWg(g:TG)(n:Nat)(J:It)(o:TT)(l:TE)(σ:St)(js:List Nat)(Q:VK)(q:Hp)(d:Addr):Prop:=∃W:Nat->Nat->List V->Hp->Prop,(∃m,W 0 m [] (upd q d (.lst [])))/\
 ∀i m ys a,W i m ys a->a d=some (.lst ys)/\((J.stop i a/\Q (.ref d) a)\/(J.go i a/\ys.length<sizeLine/\∀v j,J.yld i a v j->∀e:List (Option V),e.length=n->
  g v (e++capv σ js) j fun σ' p=>∃c:List (Option V),c.length=n/\σ'=c++capv σ js/\o σ' p fun bb h=>if bb=true then l σ' h fun y f=>f d=some (.lst ys)/\∃b,b<m/\W (i+1) b (ys++[y]) (upd f d (.lst (ys++[y])))
   else ∃b,b<m/\W (i+1) b ys h))
theorem J60(hc:X.calm=true)(hp:PI X tgt iter wi)(hg:∀(C:Addr) (i:List Addr) (s:Shared) (H:Hp),PG (X.block (x::(xr++caps)) scope cl C i s H) tgt g)(he:∀(C:Addr) (i:List Addr) (s:Shared) (H:Hp),PE (X.block (x::(xr++caps)) scope cl C i s H) elt te)(ht:∀(C:Addr) (i:List Addr) (s:Shared) (H:Hp),PTs (X.block (x::(xr++caps)) scope cl C i s H) ifs tc)(E:∀p∈scope.names,p.2≠.cell)(U:∀p∈scope.names,p.2=.local->scope.names.lookup p.1=some .local)(l:∀p∈cl,X.env.cells.lookup p.1=some p.2)(aa:∀p∈scope.names,p.2=.free->∃c,cl.lookup p.1=some c)(ak:caps.length=js.length)(ag:∀(k:Nat) (c:Str),caps[k]?=some c->∃(j:Nat) (a:Addr),js[k]?=some j/\X.N[j]?=some c/\X.env.scope.names.lookup c=some .cell/\cl.lookup c=some a/\(relabel scope X.env).names.lookup c=some .cell)(af:closureFor scope X.env=pure cl)(z:scope.kind=.function)(hs:∀v,foldedSetIterable iter X.env v=pure v)(I:Inv X pins σ H s)(h:wi σ H R)(hR:∀J H1,R J H1->∀d,H1 d=none->LCWg g (xr.length+1) J tc te σ js Q H1 d)(fin:∀(d:Addr) (n:Hp) (s5:Shared) (C:Addr),Inv X pins σ n s5->Q (.ref d) n->(∃m,s5.heap.Ns C m)->FpOk X pins n C->compPost (model X.prog X.w) X.A X.xe use QV (.ref d) C (.ok .next) s5):
  wpAny (model X.prog X.w) X.A (comprehension (.ListComp elt [{tgt,iter,ifs,0}] scope pos) scope X.env p0 (newList []) false (eval iter X.env) use) QV X.xe s:=by
 show wpAny_comprehension_free (cl:=cl) (use:=use) (Q:=QV) rfl hs af z U (thn (hp pins s σ H _ I h) fun v s1 h1=>thn h1 fun a1 f h2=>?_);let{it,i,tn,J,S,e,M,T,ad,f2,h3}:=h2;subst e;have al :=M.hok.fresh (zD _);let{W,{m0,w0},hW}:=hR _ _ h3 f.heap.objs.size al;show vG (wpAny_newFunctionEnv E (by intro y hy;simp at hy) (fun h₁ P F=>?_) z);dsimp only at P F ⊢;generalize hH2:f.heap.push { cls:=.type "list",dict:=none,data:=.seq ([]:List Value).toArray }=G at P F ⊢;have hC:G.objs.size=f.heap.objs.size+1:=by rw[<- hH2,wR]
 have an:f.heap.objs.size≠G.objs.size:=by rw[hC];show zQ (vP _)
 have B:f.heap.objs.size<=G.objs.size:=by rw[hC];show wI _
 have K:=fun b o e=>F.extBut b o (by rw[hC];show zQ (uQ (zG e))) (zE _ (hH2▸zE _ e));have am:=F.extBut _ _ an (zE _ (hH2▸zT _ rfl));have fl:∀b∈i,b<f.heap.objs.size:=fun b hb=>by
  let{o,e,_}:=T.obj _ _ ad b hb;show zG e
 have av:=fun Z=>wQ _ (fl _ Z);have aj:HOk X.prog X.w (upd S f.heap.objs.size (.lst [])) h₁:=M.hok.laid K (zD _) {zO _,[],0,.nil,am};have az:∀tk,Inv (X.block (x::(xr++caps)) scope cl G.objs.size i f S) [] (replicate (xr.length+1) none++capv σ js) (upd S f.heap.objs.size (.lst [])) { f with heap:=h₁,toks:=tk }:=fun tk=>by
  show{Ji2 M B f2 fl z E l aa,rfl,M.bare,Un.laid K (zD _) al,{_,P,fun k q v e1 e2 e3=>?_},fun q c e=>?_,?_,fun q c e=>?_,fun p hp=>absurd hp (by simp),aj,?_}
  .by_cases hk:k<xr.length+1
   .rw[yQ (by rw[wE];show hk),tG,if_pos hk] at e2;cases e2
   .obtain⟨k,rfl⟩:∃k',k=xr.length+1+k':={k-(xr.length+1),by omega};have ay:caps[k]?=some q:=by
     have e1:(x::(xr++caps))[xr.length+1+k]?=some q:=e1;rw[show xr.length+1+k=(xr.length+k)+1 by omega,List.getElem?_cons_succ,yP (by omega),show xr.length+k-xr.length=k by omega] at e1;show e1
    have ax:(capv σ js)[k]?=some (some v):=by
     rw[yP (by rw[wE];omega),wE,show xr.length+1+k-(xr.length+1)=k by omega] at e2;show e2
    let{j,a,q1,q2,q3,q4,q5}:=ag k q ay;let{j',r1,r2}:=Jhz ax;rw[q1] at r1;cases r1;let{m,Z,hl}:=M.loc;let{u,ru,lu}:=hl j q v q2 r2 (.inr (.inl q3));show{u,ru,.inr {.inl q5,a,q4,?_}};rcases lu with⟨k1,_⟩|⟨_,c,ec,o,ho,hd⟩
    .have ai:X.env.scope.names.lookup q=some .local:=k1;rw[q3] at ai;cases ai
    .have:=l _ (yO q4);rw[ec] at this;cases this;show{o,K _ _ ho,hd}
  .let{v,o,ho,hd}:=M.cell q c (l _ (yO e));show{v,o,K _ _ ho,hd}
  .change upd S f.heap.objs.size (.lst []) G.objs.size=none;rw[Jf an.symm];show M.hok.fresh B
  .have ec:=l _ (yO e);let{v,o,ho,hd}:=M.cell q c ec;rw[Jf (zQ (zG ho))];show M.freeC q c ec
  .change(replicate (xr.length+1) none++capv σ js).length=(x::(xr++caps)).length;unfold capv;simp[ak];omega
 have O:∀{n:Hp},(∀b∈i,n b=none)->∀b∈i,FpOk (X.block (x::(xr++caps)) scope cl G.objs.size i f S) [] n b:=fun hn b hb =>
  {hn b hb,zQ (yB (fl b hb) B),(Ji2 (x:=x) (caps:=xr++caps) M B f2 fl z E l aa).exfs b hb,.inl hb,fun q c e=>(f2 b hb).2.2.2.2.1 q c (l _ (yO e)),fun p hp=>absurd hp (by simp)}
 have Y:∀tk,codeAny (model X.prog X.w) X.A (.compLoop (.ListComp elt [⟨tgt,iter,ifs,0⟩] scope pos) 0 (.ref it) (.ref f.heap.objs.size) (compEnvC scope cl G.objs.size X.env))
   (compPost (model X.prog X.w) X.A X.xe use QV (.ref f.heap.objs.size) G.objs.size) { f with heap:=h₁,toks:=tk }:=fun tk=>by
  show J64 (fun m s'=>∃(k:Nat) (ou:List (Option V)) (ys:List V) (n:Hp),ou.length=xr.length+1/\Inv (X.block (x::(xr++caps)) scope cl G.objs.size i f S) [] (ou++capv σ js) n s'/\tn k s'.heap/\(∀b∈i,n b=none)/\W k m ys n) ?_ m0
   {0,_,[],_,wE,az tk,T.keep _ _ _ ad fun b hb o e=>K b o e,fun b hb=>by
    rw[Jf (show b≠f.heap.objs.size from fun e=>av (by rw[<- e];show hb))];show(f2 b hb).1,w0}
  rintro m s3 ⟨k,ou,ys,n,ar,I3,ah,ao,w3⟩;let{hd,au}:=hW k m ys n w3;rcases au with⟨stop,q⟩|⟨go,hz,step⟩
  .show thn (T.done (X.block (x::(xr++caps)) scope cl G.objs.size i f S) rfl rfl rfl hc k [] s3 _ _ (fun _ _=>False) I3 (O ao) ah stop) fun r s4 L=>?_;let{hr,I4}:=L;subst hr;have J5:Inv X pins σ n s4:=M.call' (ch:=i) I4.os I4.base I4.hok I4.bare fun b hb=>{(f2 b hb).2.2.2.1,(f2 b hb).2.1,(f2 b hb).2.2.2.2.1,(f2 b hb).2.2.2.2.2};show fin _ n s4 _ J5 q (by let{m,q,_}:=I4.loc;show{m,q}) (M.fpOk B I4.free)
  .show thn (T.item (X.block (x::(xr++caps)) scope cl G.objs.size i f S) rfl rfl rfl hc k [] s3 _ _ (fun _ _=>False) I3 (O ao) ah go) fun r s4 L=>?_;let{u,hr,h4}:=L;subst hr;show thn h4 fun _ s5 L=>?_;let{v,H5,I5,r5,y5,ac,aw}:=L;have a0:=I5.pinned (O aw) (T.obj _ _ ac);show thn (hg _ _ _ _ _ s5 _ _ _ u _ a0 r5 (step v H5 y5 ou ar)) fun _ s6 L=>?_;let{σ6,H6,I6,ov,aq,q6,stp}:=L;subst q6;show thn (ht _ _ _ _ _ s6 _ _ _ I6 stp) fun ok s7 L=>?_;let{H7,I7,q7}:=L;have back:∀{s8:Shared} {H8:Hp} {ab:List V} {D:Nat},Inv (X.block (x::(xr++caps)) scope cl G.objs.size i f S) ([]++Jd6 i s5.heap) (ov++capv σ js) H8 s8->D<m->W (k+1) D ab H8->
     ∃D,D<m/\∃(k:Nat) (ou:List (Option V)) (ys:List V) (n:Hp),ou.length=xr.length+1/\Inv (X.block (x::(xr++caps)) scope cl G.objs.size i f S) [] (ou++capv σ js) n s8/\tn k s8.heap/\(∀b∈i,n b=none)/\W k D ys n:=fun {s8 H8 ab D} I8 Z w8=>by
    show{D,Z,k+1,ov,ab,H8,aq,I8.unpinned,T.keep _ _ _ ac fun b hb o e=>(I8.pin (b,o) (yW _ (yW _ (J5s hb e)))).1,fun b hb=>?_,w8};let{o,e,d}:=T.obj _ _ ac b hb;show(I8.pin (b,o) (yW _ (yW _ (J5s hb e)))).2.1
   cases ok with
   | false =>
    have ae:∃D,D<m/\W (k+1) D ys H7:=by
     have:=q7;rwa [if_neg (by decide)] at this
    let{D,Z,w8}:=ae;show back I7 Z w8
   | true =>
    have ae:te (ov++capv σ js) H7 fun y H5=>H5 f.heap.objs.size=some (.lst ys)/\∃D,D<m/\W (k+1) D (ys++[y]) (upd H5 f.heap.objs.size (.lst (ys++[y]))):=by
     have:=q7;rwa [if_pos rfl] at this
    show(show wpAny _ _ _ _ _ _ from thn (he _ _ _ _ _ s7 _ _ _ I7 ae) fun u8 s8 L=>?_);let{v8,H8,I8,r8,as,D,Z,w8}:=L;show thn (J1g (X:=X.block (x::(xr++caps)) scope cl G.objs.size i f S) _ s8 _ _ (.ref f.heap.objs.size) [v8] (.ref f.heap.objs.size) [u8]
     (fun _ n=>n=upd H8 f.heap.objs.size (.lst (ys++[v8]))) I8 rfl (.cons r8 .nil) {f.heap.objs.size,_,v8,rfl,rfl,as,hz,rfl}) fun _ s9 L=>?_
    let{_,H9,I9,_,q9}:=L;subst q9;show back I9 Z w8
 have ap:tn 0 h₁:=T.keep _ _ _ ad fun b hb o e=>K b o e;show codeAny_compStart_list (Y _) (T.self X.A 0 _ _ _ ap (Y _))
theorem Je5(Y:X.calm=true)(T:PI X (.Name x px) iter wi)(U:∀(C:Addr) (z:List Addr) (s:Shared) (H:Hp),PE (X.block (x::caps) scope cl C z s H) elt te)(R:∀(C:Addr) (z:List Addr) (s:Shared) (H:Hp),PTs (X.block (x::caps) scope cl C z s H) ifs tc)(g:∀p∈scope.names,p.2≠.cell)(b:∀p∈scope.names,p.2=.local->scope.names.lookup p.1=some .local)(E:(x::caps).Nodup)(q:∀p∈cl,X.env.cells.lookup p.1=some p.2)(u:∀p∈scope.names,p.2=.free->∃c,cl.lookup p.1=some c)(r:caps.length=js.length)(l:∀(k:Nat) (c:Str),caps[k]?=some c->∃(j:Nat) (a:Addr),js[k]?=some j/\X.N[j]?=some c/\X.env.scope.names.lookup c=some .cell/\cl.lookup c=some a/\(relabel scope X.env).names.lookup c=some .cell)(f:closureFor scope X.env=pure cl)(e:scope.kind=.function)(P:scope.names.lookup x=some .local)(S:∀v,foldedSetIterable iter X.env v=pure v)(I:Inv X pins σ H s)(h:tLC wi tc te js σ H Q)(fin:∀(d:Addr) (F:Hp) (B:Shared) (C:Addr),Inv X pins σ F B->Q (.ref d) F->(∃m,B.heap.Ns C m)->FpOk X pins F C->compPost (model X.prog X.w) X.A X.xe use QV (.ref d) C (.ok .next) B):
  wpAny (model X.prog X.w) X.A (comprehension (.ListComp elt [{.Name x px,iter,ifs,0}] scope pos) scope X.env p0 (newList []) false (eval iter X.env) use) QV X.xe s:=by
 have n:(relabel scope X.env).names.lookup x=some .local:=wY P;show J60 (xr:=[]) Y T (fun C z s H=>J3v (X:=X.block (x::caps) scope cl C z s H) (i:=0) (pos:=px) E rfl (.inl n) (.inr n)) U R g b q u r l f e S I h (fun J H1 Z d hd=>?_) fin;let{W,L,G}:=Z d hd;show{W,L,fun i m ys K w=>{(G i m ys K w).1,(G i m ys K w).2.imp id fun⟨go,O,st⟩=>{go,O,fun v H3 y M D=>?_}}}
 match M,D with
 | [o],_=>show{[some v],rfl,rfl,st v H3 y}
def J4x(X:Cx)(a:Scope)(cl:List (Str×Addr))(caps:List Str)(js:List Nat):Bool:=
 (caps.zip js).all fun q=>X.N[q.2]?==some q.1&&X.env.scope.names.lookup q.1==some .cell&&(cl.lookup q.1).isSome&&(relabel a X.env).names.lookup q.1==some .cell
theorem J4x.get(b:caps.length=js.length)(h:J4x X scope cl caps js=true):∀(k:Nat) (c:Str),caps[k]?=some c->∃(j:Nat) (a:Addr),js[k]?=some j/\X.N[j]?=some c/\X.env.scope.names.lookup c=some .cell/\cl.lookup c=some a/\(relabel scope X.env).names.lookup c=some .cell:=fun k c e=>by
 have d:=(gSm e);have f:=gEq (b▸d);have n:(c,js[k]'(b▸d))∈caps.zip js:=by
  show List.mem_iff_getElem?.mpr {k,?_};rw[List.getElem?_zip_eq_some];show{e,f}
 have:=vH.mp h _ n;simp only[xV,xU] at this;let{{{m,l},i},g}:=this;let{a,o}:=sF.mp i;show{_,a,f,m,l,o,g}
def J3r(a:Scope)(cl:List (Str×Addr)):Bool:=a.names.all fun p=>p.2 != .free || (cl.lookup p.1).isSome
theorem J3r.get(h:J3r scope cl=true):∀p∈scope.names,p.2=.free->∃c,cl.lookup p.1=some c:=fun p a e=>by
 have:=vH.mp h p a;show sF.mp (by simp_all)
theorem Jbs(G:X.calm=true)(E:PI X (.Name x px) iter wi)(i:closureFor scope X.env=pure cl)(B:∀(C:Addr) (c:List Addr) (s:Shared) (H:Hp),PTs (X.block (x::caps) scope cl C c s H) ifs tc)(F:∀(C:Addr) (c:List Addr) (s:Shared) (H:Hp),PE (X.block (x::caps) scope cl C c s H) elt te)(j:∀p∈scope.names,p.2≠.cell:=by decide +kernel)(a:∀p∈scope.names,p.2=.local->scope.names.lookup p.1=some .local:=by decide +kernel)(y:(x::caps).Nodup:=by decide +kernel)(n:∀p∈cl,X.env.cells.lookup p.1=some p.2:=by repeat (first|show tM _|show tN.mpr {rfl,?_}))(r:J3r scope cl=true:=by rfl)(f:caps.length=js.length:=by rfl)(l:J4x X scope cl caps js=true:=by rfl)(g:scope.kind=.function:=by rfl)(A:scope.names.lookup x=some .local:=by rfl)(D:∀v,foldedSetIterable iter X.env v=pure v:=by intro _;rfl):
  PE X (.ListComp elt [{.Name x px,iter,ifs,0}] scope pos) (tLC wi tc te js):=by
 intro pins s σ H Q I h;show Je5 (use:=none) G E F B j a y n (J3r.get r) f (J4x.get f l) i g A D I h fun d L z C K q J c=>?_;let{m,u}:=J;show{m,u,fun h' w=>{.ref d,L,K.turned (h':=h') (t':=z.toks) (it:=C) (fun b o hb e=>(w.2 b hb).trans e) c.1 c.2.1 c.2.2.2.1 c.2.2.2.2.1 c.2.2.2.2.2,rfl,q}}
def Jr4(t:TE)(i:Nat):TS:=fun D σ H=>t σ H fun v a=>D.nx (σ.set i (some v)) a
theorem ps_lc(W:X.N.Nodup)(hi:X.N[i]?=some y)(K:Loc X.env.scope y)(T:X.calm=true)(Q:PI X (.Name x px) iter wi)(m:closureFor scope X.env=pure cl)(M:∀(C:Addr) (c:List Addr) (s:Shared) (H:Hp),PTs (X.block (x::caps) scope cl C c s H) ifs tc)(S:∀(C:Addr) (c:List Addr) (s:Shared) (H:Hp),PE (X.block (x::caps) scope cl C c s H) elt te)(n:∀p∈scope.names,p.2≠.cell:=by decide +kernel)(f:∀p∈scope.names,p.2=.local->scope.names.lookup p.1=some .local:=by decide +kernel)(F:(x::caps).Nodup:=by decide +kernel)(u:∀p∈cl,X.env.cells.lookup p.1=some p.2:=by repeat (first|show tM _|show tN.mpr {rfl,?_}))(w:J3r scope cl=true:=by rfl)(g:caps.length=js.length:=by rfl)(r:J4x X scope cl caps js=true:=by rfl)(R:X.fn y=true\/X.env.scope.names.lookup y=some .local:=by first|show .inl rfl|show .inr rfl|assumption)(B:swapsWith (.ListComp elt [{.Name x px,iter,ifs,0}] scope pos) (some (.Name y py)) spos.line X.env=pure true:=by rfl)(l:scope.kind=.function:=by rfl)(L:scope.names.lookup x=some .local:=by rfl)(O:∀v,foldedSetIterable iter X.env v=pure v:=by intro _;rfl):
  PS X (.Assign [.Name y py] (.ListComp elt [{.Name x px,iter,ifs,0}] scope pos) spos) (Jr4 (tLC wi tc te js) i):=by
 intro pins s σ H D I h;rw[exec_Assign_Name_used _ _ _ _ B];show zA (wpAny_standAt (zA ?_));change wpAny _ X.A (do let _ <- comprehension (.ListComp elt [⟨.Name x px,iter,ifs,0⟩] scope pos) scope X.env _ (newList []) false (eval iter X.env) (some (assign (.Name y py) X.env))) _ _ s;show zA (yK (Je5 (use:=some (assign (.Name y py) X.env)) (QV:=fun _ s'=>SP X pins D .next s') T Q S M n f F u (J3r.get w) g (J4x.get g r) m l L O I h fun d H' s5 C J5 q Y c=>?_)
  (fun _ s' P=>zC (zC P)) fun _ _ e=>e)
 let{J,z}:=Y;show wpAny_assign_Name ?_;show J8u J5 W hi K (v:=.ref d) rfl (fun G I6 j=>?_) R;let{a,sa,U}:=j;have Z:a≠C:=by
  rcases U with e|e
  .rw[e];show Ne.symm c.2.1
  .show c.2.2.2.2.1 y a e
 show{J,z.sameBut sa (Ne.symm Z),fun h' E=>{_,H',I6.turned (h':=h') (t':=G.toks) (it:=C) (fun b o hb e=>(E.2 b hb).trans e) c.1 c.2.1 c.2.2.2.1 c.2.2.2.2.1 c.2.2.2.2.2,q}}
end
theorem Jc1{J:It}{D:TT}{C:TE}{Q:VK}(n:Nat)(g:Nat->Bool)(f:Nat->V)(hd:H1 d=none)(O:n<=1000)(A:∀i H,i<n->Same H1 H->J.go i H)(z:∀H,Same H1 H->J.stop n H)(w:Nat->V)(K:∀i H v c,i<n->Same H1 H->J.yld i H v c->c=H/\v=w i)(L:∀i H F,i<n->Same H1 H->(∀c,Same H c->F (g i) c)->D (some (w i)::capv σ js) H F)(N:∀i H G,i<n->g i=true->Same H1 H->(∀c,Same H c->G (f i) c)->C (some (w i)::capv σ js) H G)(M:∀c,Same H1 c->c d=some (.lst (((List.range n).filter g).map f))->Q (.ref d) c):
  ∃W:Nat->Nat->List V->Hp->Prop,(∃m,W 0 m [] (upd H1 d (.lst [])))/\
   ∀i m ys h,W i m ys h->h d=some (.lst ys)/\((J.stop i h/\Q (.ref d) h)\/(J.go i h/\ys.length<sizeLine/\∀v q,J.yld i h v q->
    D (some v::capv σ js) q fun b s=>if b=true then C (some v::capv σ js) s fun y B=>B d=some (.lst ys)/\∃p,p<m/\W (i+1) p (ys++[y]) (upd B d (.lst (ys++[y])))
     else ∃p,p<m/\W (i+1) p ys s)):=by
 have s0:∀o,Same H1 (upd H1 d o):=fun o b u e=>by rw[Jf (Ja e hd)];show e
 show{fun i m ys H=>m=n-i/\i<=n/\ys=((List.range i).filter g).map f/\Same H1 H/\H d=some (.lst ys),{n,rfl,zO _,rfl,s0 _,J2},?_};rintro i m ys h ⟨rfl,hi,rfl,j,r⟩;show{r,?_};by_cases a:i<n
 .show .inr {A i h a j,?_,fun v q I=>?_}
  .have P:(((List.range i).filter g).map f).length<=i:=by
    rw[zB];show zM (wG _ _) (by rw[yC];show zD _)
   show Jq (by omega)
  .let{rfl,rfl}:=K i h v q a j I;show L i q _ a j fun s l=>?_
   cases hg:g i with
   | false =>
    show{n-(i+1),by omega,rfl,a,?_,j.trans l,l _ _ r};rw[wK,xX,yE];simp[hg]
   | true =>
    show N i s _ a hg (j.trans l) fun B E=>{E _ _ (l _ _ r),n-(i+1),by omega,rfl,a,?_,?_,J2}
    .rw[wK,xX,yE];simp[hg]
    .intro b u e;rw[Jf (Ja e hd)];show E _ _ (l _ _ (j _ _ e))
 .have e:i=n:=by omega
  subst e;show .inl {z h j,M h j r}
theorem Same.tup{K:Frag}(e:Same H H')(h:SqT K H a xs):SqT K H' a xs:=by
 rcases h with(h|⟨o,h⟩)|h
 .show .inl (.inl (e _ _ h))
 .show .inl (.inr {o,e _ _ h})
 .show .inr h
theorem Jgz{α:Type}(G:α->Bool)(F:α->V):∀xs:List α,
  ((List.range xs.length).filter fun i=>match xs[i]? with|some v=>G v|none=>false).map (fun i=>match xs[i]? with|some v=>F v|none=>V.non)=(xs.filter G).map F
 | []=>rfl
 | a::r=>by
  have b:=Jgz G F r;rw[xD,List.range_succ_eq_map,yV,List.filter_map,yV];have e:(fun i=>match (a::r)[i]? with|some v=>G v|none=>false)∘Nat.succ=fun i=>match r[i]? with|some v=>G v|none=>false:=by
   funext i;simp
  have c:(fun i=>match (a::r)[i]? with|some v=>F v|none=>V.non)∘Nat.succ=fun i=>match r[i]? with|some v=>F v|none=>V.non:=by
   rfl
  cases hg:G a with
  | true =>
   simp_all
  | false =>
   simp_all
section
variable{α:Type}{K:Frag}{a:Addr}{H1:Hp}{tc:TT}{te:TE}{σ:St}{js:List Nat}{Q:VK}{d:Addr}
theorem Jrx(e:α->V)(xs:List α)(G:α->Bool)(F:α->V)(m:xs.length<=1000)(hd:H1 d=none)(c:∀i H,i<xs.length->Same H1 H->J.go i H)(b:∀H,Same H1 H->J.stop xs.length H)(j:∀i H v a,i<xs.length->Same H1 H->J.yld i H v a->a=H/\(xs.map e)[i]?=some v)(p:∀v∈xs,∀H f,Same H1 H->(∀a,Same H a->f (G v) a)->tc (some (e v)::capv σ js) H f)(r:∀v∈xs,∀H g,G v=true->Same H1 H->(∀a,Same H a->g (F v) a)->te (some (e v)::capv σ js) H g)(l:∀a,Same H1 a->a d=some (.lst ((xs.filter G).map F))->Q (.ref d) a):LCW J tc te σ js Q H1 d:=by
 show Jc1 xs.length (fun i=>match xs[i]? with|some v=>G v|none=>false) (fun i=>match xs[i]? with|some v=>F v|none=>V.non) hd m c b (fun i=>((xs.map e)[i]?).getD .non)
  (fun i H v a hi s y=>?_) (fun i H f hi s k=>?_) (fun i H g hi q s k=>?_) (fun a s h=>?_)
 .let{o,n}:=j i H v a hi s y;show{o,by rw[n];rfl}
 .simp_all
 .simp_all
 .rw[Jgz] at h;show l a s h
theorem Jrw(e:α->V)(xs:List α)(G:α->Bool)(F:α->V)(c:SqT K H1 a (xs.map e))(l:xs.length<=1000)(hd:H1 d=none)(h:∀v∈xs,∀H f,Same H1 H->(∀b,Same H b->f (G v) b)->tc (some (e v)::capv σ js) H f)(m:∀v∈xs,∀H g,G v=true->Same H1 H->(∀b,Same H b->g (F v) b)->te (some (e v)::capv σ js) H g)(j:∀b,Same H1 b->b d=some (.lst ((xs.filter G).map F))->Q (.ref d) b):LCW (Itt K a) tc te σ js Q H1 d:=
 Jrx e xs G F l hd (fun i H hi s=>{_,_,s.tup c,by rw[zY,gEq hi];rfl}) (fun H s=>{_,s.tup c,by simp_all})
  (fun i H v b hi s y=>{y.1,y.2 _ (s.tup c)}) h m j
theorem lc_lst(e:α->V)(xs:List α)(G:α->Bool)(F:α->V)(c:SqL K H1 a (xs.map e))(l:xs.length<=1000)(hd:H1 d=none)(h:∀v∈xs,∀H f,Same H1 H->(∀b,Same H b->f (G v) b)->tc (some (e v)::capv σ js) H f)(m:∀v∈xs,∀H g,G v=true->Same H1 H->(∀b,Same H b->g (F v) b)->te (some (e v)::capv σ js) H g)(j:∀b,Same H1 b->b d=some (.lst ((xs.filter G).map F))->Q (.ref d) b):LCW (Itl K a) tc te σ js Q H1 d:=
 Jrx e xs G F l hd (fun i H hi s=>{_,_,s.seq c,by rw[zY,gEq hi];rfl}) (fun H s=>{_,s.seq c,by simp_all})
  (fun i H v b hi s y=>{y.1,y.2 _ (s.seq c)}) h m j
theorem lc_rng(lo:Int)(n:Nat)(G:Nat->Bool)(F:Nat->V)(g:n<=1000)(hd:H1 d=none)(e:∀i,i<n->∀H b,Same H1 H->(∀a,Same H a->b (G i) a)->tc (some (.int (lo+i))::capv σ js) H b)(j:∀i,i<n->∀H c,G i=true->Same H1 H->(∀a,Same H a->c (F i) a)->te (some (.int (lo+i))::capv σ js) H c)(f:∀a,Same H1 a->a d=some (.lst (((List.range n).filter G).map F))->Q (.ref d) a):LCW (Itr lo n) tc te σ js Q H1 d:=
 Jc1 n G F hd g (fun i H hi _=>hi) (fun H _=>zD _) (fun i=>.int (lo+i)) (fun i H v a hi _ y=>y) (fun i H b hi s k=>e i hi H b s k) (fun i H c hi h s k=>j i hi H c h s k) f
end
theorem J5y{α:Type}(xs:List α):xs.filter (fun _=>true)=xs:=tO.mpr fun _ _=>rfl
theorem J65(d:IxR X r)(e:PE X a ta)(hb:PE X b tb)(c:Jnu b:=by intro _ _;rfl):PE X (.Subscript a b pos) (tOp r ta tb):=Js d e hb c
section
variable{X:Cx}
inductive rNeTR(K:Frag)(x y:V)(H:Hp)(Q:VK):Prop
 | mk(p q xs ys:_)(_:x=.ref p)(_:y=.ref q)(_:SqT K H p xs)(_:SqT K H q ys)(_:Kin xs ys)(_:Q (.bl (!decide (xs=ys))) H)
def rNeT(K:Frag):R2:=fun x y H Q=>rNeTR K x y H Q
theorem Js8{xs ys:List V}{its a:List Value}(l1:xs.length=its.length)(c:ys.length=a.length)(d:Kin xs ys):
  ((List.range (min its.toArray.size a.toArray.size)).all (eAt xs ys)&&its.toArray.size==a.toArray.size)=decide (xs=ys):=by
 rw[zS,zS,<- l1,<- c];by_cases b:xs.length=ys.length
 .rw[b,Nat.min_self,<- b,Jns b d];simp
 .rw[yD (fun e=>b (zP List.length e)),show(xs.length==ys.length)=false from by simpa using b,Bool.and_false]
theorem op_neT(g:X.A.units<cLine):OpR X (compareOp .NotEq) (rNeT X.K):=by
 intro pins s σ H x y v u Q I f e h;let{p,q,xs,ys,rfl,rfl,l,i,d,m}:=h;cases f;cases e;let{its,r,pl,_}:=I.tuple l;let{a,c,b,_}:=I.tuple i;show SeqAt.RcNeAt.tuples (show s.heap.IsTuple p its.toArray from pl) (show s.heap.IsTuple q a.toArray from b) g (fun j o n=>Js1 r c d j o n) _ _ _ _ ?_;rw[Js8 r.length c.length d];show{.bl _,H,I,rfl,m}
def CBig(i j:Int):Prop:=i.natAbs<2^4000/\j.natAbs<2^4000
theorem Ji3(h:k.natAbs<2^4000):Builtin.Int.intBits k<=2^20:=by
 unfold Builtin.Int.intBits;split
 .show zO _
 .have:k.natAbs.log2<4000:=by
   rcases Nat.eq_zero_or_pos k.natAbs with h0|hp
   .rw[h0];decide
   .show(Nat.log2_lt (wA hp)).mpr h
  grind
theorem J6a:OpR X (binaryOp .Mult) (rI CBig fun i j=>.int (i*j)):=opI fun _ _ _ _ _ _ _ a q=>mul_int q (.of_bits (Ji3 a.1) (Ji3 a.2))
def Jui(i j:Int):Prop:=0<j/\j.natAbs<2^4000
theorem J8h:OpR X (binaryOp .FloorDiv) (rI Jui fun i j=>.int (i/j)):=opI fun i j _ _ _ _ _ a q=>by
 have d:=a.1;have b:=a.2;show floordiv_int () (by rw[Int.fdiv_eq_ediv_of_nonneg i ()];show q) (.inl (PyProof.noPylong_of_log2 ?_));have c:j.natAbs≠0:=()
 have:=(Nat.log2_lt c).mpr b;lia
inductive Jp6(K:Frag)(x:V)(vs:List V)(H:Hp)(Q:VK):Prop
 | mk(l:Addr)(ns:List Int)(k:Int)(_:x=.ref l)(_:vs=[.int k])(_:SqL K H l (ns.map V.int))(_:k∈ns)(_:Q (.int (ns.idxOf k:Nat)) H)
def Jt7(K:Frag):V->List V->Hp->VK->Prop:=fun x vs H Q=>Jp6 K x vs H Q
theorem J99:MtM X "list.index" (Jt7 X.K):=by
 intro pins s σ H x vs v us Q I i m h;let{l,ns,k,rfl,rfl,w,u,q}:=h;cases i;let{B,rfl,{t,rfl}}:=m.one;let{its,o,pl,p}:=I.list w;have hi:=J28 o;have a:=hi.length;let{{cls,A,data,g},e,f,n,hd}:=id pl.isList;simp only at f hd;subst f hd;have d:=vW.mpr u;have z:=Jau;rw[zB] at p;show wF sL {_,e,rfl} PySem.F.entry_list_index (PySem.F.args_list_index_2 _ _)
  (SeqAt.list_indexAt l its.toArray n A g (.int k t) (isInt k) (ns.idxOf k) (by simpa [a] using d) () ?_ ?_) {e,fun y r=>(eq_isInt k t hi y (by simpa using r)).at _ _,{.int _,H,I.tok _,{_,rfl},q}}
 .change isInt k its[ns.idxOf k]=true;rw[isInt_at k hi _ () d];simpa using tP d
 .intro j c b;change isInt k its[j]=false;rw[isInt_at k hi j (by simpa using c) ()];show ne_of_lt_idxOf b _
end
def HasM(P:Program)(w:World)(K:Frag)(mg:Str->Option Value)(base:Heap)(CX:CXT)(k:Nat)(m:Str)(ps:List Str)(sp:Sp)(C:Addr):Prop:=
 ∃f fd,Cls K C/\Meth K C m f/\FnOk P w K mg base CX k f fd ps sp/\J33 K fd ps []
inductive Jsa(m:Str)(cls:ι->Addr)(sp:ι->Sp)(E:XK)(t:TA)(σ:St)(Q:VK)(x:V)(b:Hp):Prop
 | mk(a k c fs:_)(_:x=.ref a)(_:b a=some (.ins (cls k) c fs))(_:fs.lookup m=none)(_:t σ b fun vs d=>sp k (x::vs) d Q E)
def Jr5{ι:Type}(m:Str)(cls:ι->Addr)(sp:ι->Sp)(E:XK)(a:TE)(t:TA):TE:=fun σ H Q=>a σ H fun x b=>Jsa m cls sp E t σ Q x b
section
variable{X:Cx}{CX:CXT}{k:Nat}{f:Addr}{fd:FuncData}{ps:List Str}{ι:Type}{cls:ι->Addr}{sp:ι->Sp}{spB:Sp}{dvs:List V}{ds:List Value}{E:XK}{x m b:Str}{p pos apos:Pos}{e o:Expr}{es:List Expr}{ta:TE}{t:TA}{B:Addr}{mc:Value}
theorem J8g(D:PE X o ta)(J:∀i,HasM X.prog X.w X.K X.mg X.base CX k m ps (sp i) (cls i))(C:Room k X.A)(z:J5m CX X E)(G:PA X (e::es) t)(b:starEach (e::es) X.env=(false,eval e X.env)::starEach es X.env:=by rfl)(d:(backTo pos (starEach es X.env)).any (·.1)=false:=by rfl)(B:eval (.Call (.Attribute o m apos) (e::es) [] pos) X.env=(do
   let ov <- eval o X.env
   standAt apos.atName
   let (f,first) <- holding [ov] (getMethod ov m pl)
   callWith pos f first (backTo pos (starEach (e::es) X.env)) (backToKw pos (keywordEach [] X.env))):=by rfl):
  PE X (.Call (.Attribute o m apos) (e::es) [] pos) (Jr5 m cls sp E ta t):=by
 intro pins s σ H Q I h;show methodCall_KW (pl:=pl) (thn (D pins s σ H _ I h) fun u v g=>?_) B;let{x,M,p,y,a,i,P,fs,ex,L,l,q}:=g;subst ex;obtain rfl:u=Value.ref a:=y;let{f,fd,c,j,F,hb}:=J i;show Jaw p L c j l ?_;show callWith_K (first:=[.ref a]) (h₀:=X.base) I.ok.mod.kin j.kp (thn (G pos pins v σ M _ p q) fun us N g=>?_) b d;let{vs,R,n,r,O}:=g;show{n.kIn,?_};show Jgw (us:=.ref a::us) (vs:=.ref a::vs) (dvs:=[]) F C hb .nil z n (.cons rfl r) (by simp_all)
theorem J93(p:PE X o ta)(r:∀i,HasM X.prog X.w X.K X.mg X.base CX k m ps (sp i) (cls i))(n:Room k X.A)(g:J5m CX X E)(j:eval (.Call (.Attribute o m apos) [] [] pos) X.env=(do
   let ov <- eval o X.env
   standAt apos.atName
   let (f,first) <- holding [ov] (getMethod ov m pl)
   callWith pos f first (backTo pos (starEach [] X.env)) (backToKw pos (keywordEach [] X.env))):=by rfl):
  PE X (.Call (.Attribute o m apos) [] [] pos) (Jr5 m cls sp E ta tNil):=by
 intro pins s σ H Q I h;show methodCall_KW (pl:=pl) (thn (p pins s σ H _ I h) fun u z v=>?_) j;let{x,C,b,e,a,i,B,fs,ex,y,l,q}:=v;subst ex;obtain rfl:u=Value.ref a:=e;let{f,fd,c,d,F,hb}:=r i;show Jaw b y c d l ?_;show PySem.W.callWith_K0 (first:=[.ref a]) b.kIn d.kp (Jgw (us:=[.ref a]) (vs:=[.ref a]) (dvs:=[]) F n hb .nil g b (.cons rfl .nil) q)
structure Juj(K:Frag)(B:Addr)(m:Str)(f:Addr):Prop where
 sp:specialIn K (.ref B) "__getattribute__"=some (some (.builtin "type.__getattribute__"))
 rd:readsIn K B (.type "type")=true
 fd:findCls K (.ref B) (.type "type") m=some (.val (.ref f))
 kp:keepIn K (.ref f)=true
theorem Jtd(M:Juj X.K B m f)(g:Gl X b)(d:X.mg b=some (.ref B))(F:FnOk X.prog X.w X.K X.mg X.base CX k f fd ps spB)(q:Room k X.A)(hb:J33 X.K fd ps ds)(hd:Vals dvs ds)(n:J5m CX X E)(u:PA X (e::es) t)(i:(b==("__debug__":Str))=false:=by decide)(a:starEach (e::es) X.env=(false,eval e X.env)::starEach es X.env:=by rfl)(c:(backTo pos (starEach es X.env)).any (·.1)=false:=by rfl)(o:eval (.Call (.Attribute (.Name b p) m apos) (e::es) [] pos) X.env=(do
   let ov <- eval (.Name b p) X.env
   standAt apos.atName
   let (f,first) <- holding [ov] (getMethod ov m pl)
   callWith pos f first (backTo pos (starEach (e::es) X.env)) (backToKw pos (keywordEach [] X.env))):=by rfl):
  PE X (.Call (.Attribute (.Name b p) m apos) (e::es) [] pos) (Jnz spB dvs E t):=by
 intro pins s σ H Q I h;show methodCall_KW (pl:=pl) (Jc0 I g d ?_ i) o;show PySem.W.method_cls I.kIn M.sp (PySem.W.cls_value I.kIn M.rd M.fd rfl ?_);have y:=I.tok (s.toks+1);show callWith_K (first:=[]) (h₀:=X.base) I.ok.mod.kin M.kp (thn (u pos pins _ σ H _ y h) fun us z v=>?_) a c;let{vs,C,j,r,l}:=v;show{j.kIn,?_};show Jgw (us:=us) (vs:=vs) F q hb hd n j r l
end
def Its(lo c:Int)(n:Nat):It:={fun i _=>i<n,fun i H x a=>a=H/\x=.int (lo+(i:Nat)*c),fun i _=>n<=i}
theorem Ji8{K:Frag}(a:Addr)(lo c:Int)(n:Nat):Turn P w K tg (Its lo c n) [a] a (fun i h=>IsRangeIter h a (lo+(i:Nat)*c) ((n:Int)-(i:Nat)) c) where
 mem:=by simp
 obj:=fun i h st b hb=>by
  simp_all
 keep:=fun i h h' st k=>k a (by simp) _ st
 item:=by
  intro X y hw z j i pins s σ H E I g st f;subst y hw z;let{r,q,C,p,m,l}:=g a (by simp);show(Walks.range (prog:=X.prog) (w:=X.w) (I.ok.hd j) a lo c n).item i s _ _ f st fun v h' u B d A=>?_;let{t,rfl}:=B;have J:Inv X pins σ H { s with heap:=h',toks:=u }:=I.turned (fun b o hb e=>A b o (by simpa using hb) e) r q p m l;show{_,rfl,go_of (s:={ s with heap:=h',toks:=u }) (n:="range_iterator") d rfl rfl (by decide) {.int (lo+(i:Nat)*c),H,J,{t,rfl},{rfl,rfl},d,fun b hb=>(g b hb).1}}
 done:=by
  intro X y hw z j i pins s σ H E I g st f;let{r,q,C,p,m,l}:=g a (by simp);have f:n<=i:=f;show wpAny_pyNext_range_end (I.ok.hd j) st () fun h' D=>{rfl,I.turned (t':=s.toks) (fun b o hb e=>D b o hb e) r q p m l}
 self:=fun _ _ _ _ _ st h=>wpAny_pyIter_rangeiter st h
theorem J5o(d:0<c)(a b:Int):Builtin.Range.rangeSize a b c=if a<b then (b-a-1)/c+1 else 0:=by
 unfold Builtin.Range.rangeSize;rw[if_pos (show c>0 from d)]
theorem Jem(h:0<=a)(g:a<=1000)(hb:-1<=b)(f:b<=1000)(d:0<c)(e:c<=1000):Builtin.Range.small a b c=true:=by
 unfold Builtin.Range.small;rw[J5o d];have j:0<=(if a<b then (b-a-1)/c+1 else 0)/\(if a<b then (b-a-1)/c+1 else 0)<=1001:=by
  split
  .have l:0<=(b-a-1)/c:=uR () ();have i:(b-a-1)/c<=b-a-1:=Int.ediv_le_self _ ();lia
  .lia
 generalize (if a<b then (b-a-1)/c+1 else 0)=n at *;simp only[Builtin.Range.rangeFitsLong,xV,Bool.or_eq_true,decide_eq_true_eq,show c>0 from d,if_true];show{?_,?_} <;> lia
inductive Ju6(R:It->Hp->Prop)(vs:List V)(d:Hp):Prop
 | mk(a b c:Int)(_:vs=[.int a,.int b,.int c])(_:(0<=a/\a<=1000/\-1<=b/\b<=1000/\0<c/\c<=1000))(_:R (Its a c (Builtin.Range.rangeSize a b c).toNat) d)
def iSteps(a:TA):TI:=fun σ H R=>a σ H fun vs b=>Ju6 R vs b
section
variable{X:Cx}{tg:Expr}
theorem Jpe(D:Gl X "range")(C:X.mg "range"=none)(E:PA X [a,b,c] ta)(B:starEach [a,b,c] X.env=[(false,eval a X.env),(false,eval b X.env),(false,eval c X.env)]:=by rfl)(g:starEach [b,c] X.env=[(false,eval b X.env),(false,eval c X.env)]:=by rfl):
  PI X tg (.Call (.Name "range" p) [a,b,c] [] pos) (iSteps ta):=by
 intro pins s σ H R I h;show Call_ (J75 I D C boot_range (tE (thn (E pos pins s σ H _ I h) fun us f F=>?_) (by rw[B,g]) (by rw[g];rfl)));let{vs,u,K,v,l}:=F;let{i,j,c,e,{l,A,z,y,n,w},q}:=l;subst e
 cases v with
 | cons r rr =>
  cases rr with
  | cons r' rr =>
   cases rr with
   | cons r'' rr =>
    cases rr;let{t,rfl}:=r;let{t',rfl}:=r';let{d,rfl}:=r'';show call_range_3 () ?_ (Or.inl (PyProof.noPylong_small ()));have m:Inv X pins σ u { f with heap:=f.heap.push { cls:=.type "range",data:=.fields #[.int i t,.int j t',.int c d] },toks:=f.toks }:=K.kept fun b o e=>zE _ e;show wpAny_pyIter_range (IsRange.new ..) (Jem l A z y n w) ?_;show{(f.heap.push { cls:=.type "range",data:=.fields #[.int i t,.int j t',.int c d] }).objs.size,[(f.heap.push { cls:=.type "range",data:=.fields #[.int i t,.int j t',.int c d] }).objs.size],_,_,u,rfl,
     m.kept (t':=f.toks) fun b o e=>zE _ e,Ji8 _ i c (Builtin.Range.rangeSize i j c).toNat,?_,fun b hb=>?_,q}
    .have J:i+((0:Nat):Int)*c=i:=by simp
     have G:(((Builtin.Range.rangeSize i j c).toNat:Nat):Int)-((0:Nat):Int)=Builtin.Range.rangeSize i j c:=by
      have:0<=Builtin.Range.rangeSize i j c:=by
       rw[J5o n];split
       .have:=uR (show 0<=j-i-1 by lia) (show 0<=c by lia);lia
       .lia
      lia
     change IsRangeIter _ _ (i+((0:Nat):Int)*c) ((((Builtin.Range.rangeSize i j c).toNat:Nat):Int)-((0:Nat):Int)) c;rw[J,G];show zT _ rfl
    .obtain rfl:b=(f.heap.push { cls:=.type "range",data:=.fields #[.int i t,.int j t',.int c d] }).objs.size:=by simpa using hb
     show m.fpOk (zD _) (m.hok.fresh (zD _))
end
theorem lc_stp(lo c:Int)(n:Nat)(F:Nat->V)(j:n<=1000)(hd:H1 d=none)(f:∀i,i<n->∀H b,Same H1 H->(∀a,Same H a->b true a)->tc (some (.int (lo+(i:Nat)*c))::capv σ js) H b)(l:∀i,i<n->∀H e,Same H1 H->(∀a,Same H a->e (F i) a)->te (some (.int (lo+(i:Nat)*c))::capv σ js) H e)(g:∀a,Same H1 a->a d=some (.lst ((List.range n).map F))->Q (.ref d) a):LCW (Its lo c n) tc te σ js Q H1 d:=
 Jc1 n (fun _=>true) F hd j (fun i H hi _=>hi) (fun H _=>zD _) (fun i=>.int (lo+(i:Nat)*c)) (fun i H v a hi _ y=>y) (fun i H b hi s k=>f i hi H b s k) (fun i H e hi _ s k=>l i hi H e s k)
  (fun a s h=>g a s (by rw[J5y] at h;show h))
theorem Jo2(d:0<c)(h:i<(Builtin.Range.rangeSize a b c).toNat):a+(i:Int)*c<b:=by
 rw[J5o d] at h;split at h
 .have e:(i:Int)<=(b-a-1)/c:=()
  have f:=Int.mul_le_of_le_ediv d e;lia
 .simp at h
theorem Jjs{b c:Int}(d:0<c):(Builtin.Range.rangeSize a b c).toNat<=(b-a).toNat:=by
 rw[J5o d];split
 .have e:(b-a-1)/c<=b-a-1:=Int.ediv_le_self _ ();lia
 .simp
theorem J8s(k:Nat)(f:Nat->β->Sem (ForInStep β))(I:Nat->β->Shared->Prop)(Q:β->Shared->Prop)(turn:∀i b s,i<k->I i b s->wpAny M A (f i b) (fun r s'=>match r with|.yield b'=>I (i+1) b' s'|.done b'=>Q b' s') E s)(fin:∀b s,I k b s->Q b s)(b:β)(h:I 0 b s):wpAny M A (forIn ([0:k]:Std.Legacy.Range) b f) Q E s:=by
 rw[Std.Legacy.Range.forIn_eq_forIn_range'];simp only[ Nat.div_one];show wpAny_forIn_list _ (fun rest b s'=>∃i,rest=List.range' i (k-i)/\i<=k/\I i b s') _ ?_ ?_ _ _ {0,by simp,zO _,h}
 .rintro x rest b s' ⟨i,g,hi,j⟩;have d:i<k:=by
   rcases Nat.lt_or_ge i k with q|q
   .show q
   .rw[Nat.sub_eq_zero_of_le q] at g;simp at g
  obtain⟨rfl,a⟩:x=i/\rest=List.range' (i+1) (k-(i+1)):=by
   have e:k-i=(k-(i+1))+1:=by omega
   rw[e,List.range'_succ] at g;injection g with h1 h2
   show{h1,h2}
  show yK (turn x b s' d j) (fun r l c=>?_) fun _ _ z=>z
  cases r with
  | done b'=>show c
  | yield b'=>show{x+1,a,d,c}
 .grind
theorem Jba(l:Addr)(a:Array Value)(n:Nat)(B:Option Addr)(r:Array (Option Value))(x:Value)(e:Value->Bool)(j:Nat)(C:j<a.size)(hit:e a[j]=true)(o:∀m (hm:m<a.size),m<j->e a[m]=false):
  Meets (Builtin.«tuple.index» {[.ref l,x],[]})
   (fun A R s=>s.heap.get? l=some { cls:=.type "tuple",dict:=B,data:=.seq a n,slots:=r }/\(∀y,y∈a->SeqAt.EqAt A.in1 s y x (e y))/\R (.ok (.ret (.int j s.toks))) { s with toks:=s.toks+1 }) :=
 .of_wp fun prog w A R s h=>by
  let{u,g,d,p,os}:=s;let{v,z,h}:=h
  wp_walk using vI v,J8s _ _ (fun i b s'=>b=(none,Unit.unit)/\s'={u,g,d,p,os}/\i<=j) _
  case turn =>
   rintro i b s' hi ⟨rfl,rfl,f⟩;have c:i<a.size:=by simpa using hi
   dsimp only;rw[vX c];show zA (z _ (Array.getElem_mem c) prog w _ _ ?_);rcases Nat.lt_or_ge i j with q|q
   .rw[o i c q]
    wp_walk
    show{rfl,rfl,q}
   .have:i=j:=by omega
    subst this;rw[hit]
    wp_walk
    show{_,rfl,h}
  case fin =>
   rintro b s' ⟨rfl,rfl,f⟩;exfalso;simp at f;omega
  case h=>show{rfl,rfl,zO _}
inductive Jp5(x:V)(vs:List V)(H:Hp)(Q:VK):Prop
 | mk(l:Addr)(ns:List Int)(k:Int)(_:x=.ref l)(_:vs=[.int k])(_:H l=some (.tup (ns.map V.int)))(_:k∈ns)(_:Q (.int (ns.idxOf k:Nat)) H)
def Jt6:V->List V->Hp->VK->Prop:=fun x vs H Q=>Jp5 x vs H Q
theorem Jlz :MtM X "tuple.index" Jt6:=by
 intro pins s σ H x vs v us Q I g i h;let{l,ns,k,rfl,rfl,u,p,q}:=h;cases g;let{z,rfl,{t,rfl}}:=i.one;let{its,m,pl,A}:=I.tuple (SqT.of u);have hi:=J28 m;have a:=hi.length;let{{cls,w,data,f},e,r,n,hd}:=id pl;subst r hd;have d:=vW.mpr p;show wF PySem.F.slot_tuple_index {_,e,rfl} PySem.F.entry_tuple_index (PySem.F.args_tuple_index_2 _ _)
  (Jba l its.toArray n w f (.int k t) (isInt k) (ns.idxOf k) (by simpa [a] using d) ?_ ?_) {e,fun y o=>(eq_isInt k t hi y (by simpa using o)).at _ _,{.int _,H,I.tok _,{_,rfl},q}}
 .change isInt k its[ns.idxOf k]=true;rw[isInt_at k hi _ (by omega) d];simpa using tP d
 .intro j c b;change isInt k its[j]=false;rw[isInt_at k hi j (by simpa using c) (by omega)];show ne_of_lt_idxOf b _
def tBMT(r:V->List V->Hp->VK->Prop)(b:TE)(t:TA):TE:=fun σ H Q=>b σ H fun x a=>(∃p xs,x=.ref p/\a p=some (.tup xs))/\t σ a fun xs c=>r x xs c Q
theorem pe_bmT{id:String}(slot:Slot "tuple" name id)(g:typeOf (.builtin id)=pure (.type "method_descriptor"))(G:MtR X id r)(E:PE X o to)(J:PA X (e::es) t)(c:attributeBase o name X.env (eval o X.env)=eval o X.env:=by rfl)(d:((backTo cpos (starEach (e::es) X.env)).all (fun x=>!x.1)&&(backToKw cpos (keywordEach [] X.env)).all (fun x=>x.1.isSome)
   && decide ((e::es).length+([]:List Keyword).length+(if ([]:List Keyword).isEmpty then 0 else 1)<30))=true:=by rfl)(b:(apos.endLine==cpos.line)=true:=by rfl)(C:starEach (e::es) X.env=(false,eval e X.env)::starEach es X.env:=by rfl)(f:(backTo cpos (starEach es X.env)).any (·.1)=false:=by rfl):
  PE X (.Call (.Attribute o name apos) (e::es) [] cpos) (tBMT r to t):=by
 intro pins s σ H Q I h;show wpAny_Call_method_late c d b rfl (thn (E pins s σ H _ I h) fun v j i=>?_);let{x,n,m,z,q,B}:=i;let{p,xs,rfl,D}:=q;obtain rfl:v=Value.ref p:=z;let{_,its,_,o,K,{L,P},_}:=(show J2t X.prog X.w n j.heap p (.tup xs) from m.hok p _ D);show{"tuple",id,PySem.F.plainAttrs_tuple,slot,g,{o,K,L},fun a O=>by simp_all,?_};have l:=J cpos pins j σ n _ m B;rw[C] at l ⊢;show sG (by assumption) (Calls.evalArgs_plain ?_);show thn l fun us u i=>by let{vs,N,M,y,A}:=i;show G pins u σ N (.ref p) vs (.ref p) us Q M rfl y A
section
variable{X:Cx}
theorem Jhg(K:Frag)(h:X.K=K:=by rfl):IxR X (rIxL K):=by subst h;show J3b
theorem J5d(K:Frag)(h:X.K=K:=by rfl):IxR X (rIxT K):=by subst h;show Jl
theorem J7y(K:Frag)(a:PE X e ta)(h:X.K=K:=by rfl)(hb:attributeBase e f X.env (eval e X.env)=eval e X.env:=by rfl):PE X (.Attribute e f pos) (tFld K ta f):=by subst h;show J8 a hb
theorem Jnn(K:Frag)(a:X.calm=true:=by rfl)(h:X.K=K:=by rfl):J49 X (.builtin "sum") (fun xs H Q=>∃(p:Addr) (ns:List Int),xs=[.ref p]/\SqI K H p (ns.map V.int)/\Q (.int ns.sum) H):=by subst h;show J23 a
theorem Jcf(K:Frag)(h:X.K=K:=by rfl):J49 X (.builtin "len") (fun xs H Q=>∃p ys,xs=[.ref p]/\(SqL K H p ys\/SqT K H p ys)/\Q (.int ys.length) H):=by subst h;show Jm
end
def Alk1(K:Frag)(H:Hp)(x y:V):Prop:=(x=y/\J4q x=true)\/∃(a b:Addr) (c:List V),x=.ref a/\y=.ref b/\SqT K H a c/\SqT K H b c/\c.all J4q=true
structure AlkL(K:Frag)(H:Hp)(xs ys:List V):Prop where
 len:xs.length=ys.length
 at_:∀(j:Nat) (a b:V),xs[j]?=some a->ys[j]?=some b->Alk1 K H a b
theorem AlkL.flat{K:Frag}{H:Hp}{xs:List V}(h:xs.all J4q=true):AlkL K H xs xs:={rfl,fun j a b d c=>by
 rw[d] at c;cases c;show .inl {rfl,vH.mp h _ (wU d)}}
theorem Jhs{x:V}(h:J4q x=true):eqV x x=true:=by
 cases x with
 | non=>rfl
 | bl a=>cases a <;> rfl
 | int a=>change(a==a)=true;show beq_self_eq_true _
 | str a=>change(a==a)=true;show beq_self_eq_true _
 | _=>cases h
theorem J8k{xs:List V}{its:List Value}(r:Vals xs its){j:Nat}(h:j<its.toArray.size):∃a,xs[j]?=some a/\RelV a its.toArray[j]:=by
 have l1:=r.length;have h':j<its.length:=by rw[zS] at h;show h
 have c:xs[j]?=some (xs[j]'()):=gEq ();let{u,e,d}:=r.get c;have b:its.toArray[j]=u:=by
  have:=gEq h';rw[e] at this;simpa using (zV this).symm
 show{_,c,by rw[b];show d}
theorem Jn7{A:Around}{s:Shared}{c:List V}{e d:List Value}(l:Vals c e)(i:Vals c d)(o:c.all J4q=true)(j:Nat)(q:j<e.toArray.size)(p:j<d.toArray.size):SeqAt.EqAt A s e.toArray[j] d.toArray[j] true:=by
 let{a,h,n}:=J8k l q;let{b,g,m}:=J8k i p;rw[h] at g;cases g;have f:=vH.mp o _ (wU h);have:=Jht (A:=A) (s:=s) n m f f;rw[Jhs f] at this;show this
theorem Juf{X:Cx}{pins:List (Addr×Obj)}{σ:St}{H:Hp}{s:Shared}(I:Inv X pins σ H s){A:Around}(y:A.units<cLine){a b:V}{u v:Value}(n:RelV a u)(m:RelV b v)(h:Alk1 X.K H a b):SeqAt.EqAt A s u v true:=by
 rcases h with⟨rfl,f⟩|⟨p,q,zs,rfl,rfl,z1,z2,hf⟩
 .have:=Jht (A:=A) (s:=s) n m f f;rw[Jhs f] at this;show this
 .cases (show u=Value.ref p from n);cases (show v=Value.ref q from m);by_cases c:p=q
  .rw[c];show SeqAt.EqAt.same _
  .let{g,l,l1,_}:=I.tuple z1;let{d,i,w,_}:=I.tuple z2;have r:=l.length;have o:=i.length;show SeqAt.EqAt.of_refs c ?_;have:=SeqAt.RcAt.tuples (A:=A) (s:=s) (e:=fun _=>true) (show s.heap.IsTuple p g.toArray from l1) (show s.heap.IsTuple q d.toArray from w) y (fun j B z=>Jn7 l i hf j B z);have e:((List.range (min g.toArray.size d.toArray.size)).all (fun _=>true)&&g.toArray.size==d.toArray.size)=true:=by
    rw[zS,zS,<- r,<- o];simp
   rw[e] at this;show this
theorem Jnt{X:Cx}{pins:List (Addr×Obj)}{σ:St}{H:Hp}{s:Shared}(I:Inv X pins σ H s){A:Around}(l:A.units<cLine){xs ys:List V}{d c:List Value}(f:Vals xs d)(e:Vals ys c)(h:AlkL X.K H xs ys)(j:Nat)(n:j<d.toArray.size)(m:j<c.toArray.size):SeqAt.EqAt A s d.toArray[j] c.toArray[j] true:=by
 let{a,p,i}:=J8k f n;let{b,o,g}:=J8k e m;show Juf I l i g (h.at_ j a b p o)
inductive rAlkR(K:Frag)(r:Bool)(x y:V)(H:Hp)(Q:VK):Prop
 | mk(p q xs ys:_)(_:x=.ref p)(_:y=.ref q)(_:((SqL K H p xs/\SqL K H q ys)\/(SqT K H p xs/\SqT K H q ys)))(_:AlkL K H xs ys)(_:Q (.bl r) H)
def rAlk(K:Frag)(r:Bool):R2:=fun x y H Q=>rAlkR K r x y H Q
theorem Jku{X:Cx}(m:X.A.units+1<cLine):OpR X (compareOp .NotEq) (rAlk X.K false):=by
 intro pins s σ H x y v u Q I w o h;let{p,q,xs,ys,rfl,rfl,d,i,n}:=h;cases w;cases o;have len:=i.len;rcases d with⟨hp,hq⟩|⟨hp,hq⟩
 .let{its,r,pl,_}:=I.list hp;let{a,c,b,_}:=I.list hq;have l1:=r.length;have l:=c.length;show SeqAt.RcNeAt.lists (e:=fun _=>true) pl.isList b.isList (by rw[zS,zS];lia) () (fun j g f=>Jnt I m r c i j g f) _ _ _ _ ?_;have e:((List.range its.toArray.size).all fun _=>true)=true:=by simp
  rw[e];show{.bl false,H,I,rfl,n}
 .let{its,r,pl,_}:=I.tuple hp;let{a,c,b,_}:=I.tuple hq;have l1:=r.length;have l:=c.length;show SeqAt.RcNeAt.tuples (e:=fun _=>true) (show s.heap.IsTuple p its.toArray from pl) (show s.heap.IsTuple q a.toArray from b) () (fun j g f=>Jnt I m r c i j g f) _ _ _ _ ?_;have e:((List.range (min its.toArray.size a.toArray.size)).all (fun _=>true)&&its.toArray.size==a.toArray.size)=true:=by
   rw[zS,zS,<- l1,<- l,len];simp
  rw[e];show{.bl false,H,I,rfl,n}
structure Refs(Pr:Addr->Nat->Prop)(xs:List V)(n:Nat):Prop where
 len:xs.length=n
 at_:∀i,i<n->∃q,xs[i]?=some (.ref q)/\Pr q i
theorem Refs.nil :Refs Pr [] 0:={rfl,fun i h=>absurd h (wZ _)}
theorem Refs.snoc(h:Refs Pr xs n)(a:Pr q n):Refs Pr (xs++[.ref q]) (n+1):=by
 show{by rw[zN,h.len];rfl,fun i hi=>?_};by_cases c:i<n
 .let{p,e,b}:=h.at_ i c;show{p,by rw[yQ (by rw[h.len];show c)];show e,b}
 .have e:i=n:=()
  subst e;show{q,?_,a};rw[yP (by rw[h.len];show zD _),h.len,Nat.sub_self];rfl
theorem Refs.mono(h:Refs Pr xs n)(m:∀q i,i<n->Pr q i->Pr' q i):Refs Pr' xs n:=
 {h.len,fun i hi=>by let{q,e,p}:=h.at_ i hi;show{q,e,m q i hi p}}
def Jr2(d:Addr)(H a:Hp):Prop:=∀b o,H b=some o->b≠d->a b=some o
end L2
namespace Rl
def eN(ns:List Int)(k:Nat):Int:=ns.getD k 0
theorem Jr6 :∀(xs:List Int),(∀a∈xs,a<=b)->xs.sum<=(xs.length:Int)*b
 | [],_=>by simp
 | x::xs,h=>by
  have e:=h x zJ;have d:=Jr6 xs fun a c=>h a (zK _ c);rw[zU,xD]
  grind
def J61(ls:List Int)(os:List Nat):Nat->List Int×Int
 | 0=>(replicate ls.length 0,0)
 | i+1=>((J61 ls os i).1.set (os.getD i 0) (J61 ls os i).2,(J61 ls os i).2+ls.getD (os.getD i 0) 0)
theorem J4z(ls:List Int)(os:List Nat):∀i,(J61 ls os i).1.length=ls.length
 | 0=>by simp[J61]
 | i+1=>by
  change((J61 ls os i).1.set _ _).length=_;rw[xH];show J4z ls os i
def eK(ls:List Int)(os:List Nat):List Int:=(J61 ls os os.length).1
theorem J35(ls:List Int)(os:List Nat):(eK ls os).length=ls.length:=J4z ls os _
theorem J8z:∀{xs ys:List Int},xs.Perm ys->xs.Pairwise (·<=·)->ys.Pairwise (·<=·)->xs=ys
 | [],ys,h,_,_=>(List.Perm.nil_eq h)
 | x::xs,[],h,_,_=>absurd h.length_eq (by simp)
 | x::xs,y::ys,h,hx,hy=>by
  have b:=vY.mp hx;have a:=vY.mp hy;have d:=h.mem_iff.mp zJ;have c:=h.mem_iff.mpr zJ;have e:x=y:=by
   grind
  subst e;rw[J8z h.cons_inv b.2 a.2]
def natI(os:List Nat):List Int:=os.map fun(n:Nat)=>(n:Int)
theorem Jd4(n:Nat):(natI (List.range n)).Pairwise (·<=·):=by
 unfold natI;rw[yY];show pairwise_lt_range.imp fun h=>()
theorem Jct(a:os.Perm (List.range n))(c:ns'.Perm (natI os))(b:ns'.Pairwise (·<=·)):ns'=natI (List.range n):=
 J8z (c.trans (a.map _)) b (Jd4 n)
def Jr(ls:List Int)(os:List Nat)(i:Nat):Int:=(J61 ls os i).2
theorem J36(ls:List Int)(os:List Nat):Jr ls os 0=0:=rfl
theorem J15(ls:List Int)(os:List Nat)(i:Nat):Jr ls os (i+1)=Jr ls os i+ls.getD (os.getD i 0) 0:=rfl
structure Ord(ls:List Int)(os:List Nat):Prop where
 pos:∀a∈ls,1<=a
 perm:os.Perm (List.range ls.length)
theorem Ord.range(h:Ord ls os):Ord ls (List.range ls.length):={h.pos,xJ _}
theorem Ord.len(h:Ord ls os):os.length=ls.length:=by rw[h.perm.length_eq,yC]
theorem Ord.nodup(h:Ord ls os):os.Nodup:=h.perm.nodup_iff.mpr vZ
theorem J2c{os:List Nat}(h:i<os.length):os.getD i 0∈os:=by
 simp_all
theorem Jdl{ls:List Int}(h:i<ls.length):ls.getD i 0∈ls:=by
 simp_all
theorem Ord.lt(h:Ord ls os)(hi:i<ls.length):os.getD i 0<ls.length:=
 zR.mp (h.perm.mem_iff.mp (J2c (by rw[h.len];show hi)))
theorem Ord.one(h:Ord ls os)(a:j<ls.length):1<=ls.getD j 0:=h.pos _ (Jdl a)
theorem Ord.inj(h:Ord ls os)(hi:i<ls.length)(a:j<ls.length)(e:os.getD i 0=os.getD j 0):i=j:=by
 rw[zH,zH,gEq (by rw[h.len];show hi),gEq (by rw[h.len];show a)] at e;show(getElem_inj h.nodup).mp e
theorem Ord.onto(h:Ord ls os)(a:j<ls.length):∃i,i<ls.length/\os.getD i 0=j:=by
 let{i,hi,e}:=uA (h.perm.mem_iff.mpr (zR.mpr a));show{i,by rw[<- h.len];show hi,?_};rw[zH,gEq hi];show e
theorem Ord.step(h:Ord ls os)(hi:i<ls.length):Jr ls os i<Jr ls os (i+1):=by
 have:=h.one (h.lt hi);rw[J15];lia
theorem Ord.mono(h:Ord ls os):∀{k:Nat},i<=k->k<=ls.length->Jr ls os i<=Jr ls os k
 | 0,h1,_=>by simp_all
 | k+1,h1,h2=>by
  by_cases e:i=k+1
  .rw[e];show yA _
  .have a:=h.mono (i:=i) (k:=k) () ();have b:=h.step (i:=k) ();lia
theorem Jf0(f:List Int)(p q:Nat)(v:Int)(a:p<f.length):(f.set p v).getD q 0=if q=p then v else f.getD q 0:=by
 rw[zH,zH];by_cases e:q=p
 .simp_all
 .rw[uI (Ne.symm e),if_neg e]
theorem Ord.at(h:Ord ls os):∀{k:Nat},i<k->k<=ls.length->(J61 ls os k).1.getD (os.getD i 0) 0=Jr ls os i
 | 0,h1,_=>absurd h1 (wZ _)
 | k+1,h1,h2=>by
  change((J61 ls os k).1.set (os.getD k 0) (J61 ls os k).2).getD (os.getD i 0) 0=_;rw[Jf0 _ _ _ _ (by rw[J4z];show h.lt ())];by_cases e:i=k
  .subst e;rw[if_pos rfl];rfl
  .rw[if_neg (fun q=>e (h.inj () () q))];show h.at () ()
theorem Ord.first(h:Ord ls os)(hi:i<ls.length):(eK ls os).getD (os.getD i 0) 0=Jr ls os i:=by
 unfold eK;rw[h.len];show h.at hi (zD _)
theorem J3x(ls:List Int):(List.range ls.length).map (fun j=>ls.getD j 0)=ls:=by
 apply wX;intro k;by_cases a:k<ls.length
 .simp_all
 .simp_all
theorem J4v(ls:List Int)(os:List Nat):∀i,i<=os.length->Jr ls os i=((os.take i).map fun j=>ls.getD j 0).sum
 | 0,_=>by rfl
 | i+1,h=>by
  rw[J15,J4v ls os i (),List.take_succ,gEq ()];simp only[ yE,vA,sum_nil];rw[zH (l:=os),gEq ()];simp
theorem Jbp{xs:List Int}(h:xs.Perm ys):xs.sum=ys.sum:=by
 induction h with
 | nil=>rfl
 | cons x _ ih=>simp_all
 | swap x y l=>rw[zU,zU,zU,zU];lia
 | trans _ _ a b=>show a.trans b
theorem Ord.whole(h:Ord ls os):Jr ls os ls.length=ls.sum:=by
 rw[J4v ls os _ (by rw[h.len];show zD _),tH (by rw[h.len];show zD _)];have p:(os.map fun j=>ls.getD j 0).Perm ((List.range ls.length).map fun j=>ls.getD j 0):=h.perm.map _;rw[Jbp p,J3x]
def Lies(fs ls:List Int)(x:Int)(j:Nat):Prop:=j<ls.length/\fs.getD j 0<=x/\x<fs.getD j 0+ls.getD j 0
theorem J5g{S:Nat->Int}:∀(k:Nat),S 0<=x->x<S k->∃i,i<k/\S i<=x/\x<S (i+1)
 | 0,h0,h1=>()
 | k+1,h0,h1=>by
  by_cases e:x<S k
  .let{i,hi,q}:=J5g k h0 e;show{i,(),q}
  .show{k,(),(),h1}
theorem Ord.lies(h:Ord ls os)(hi:i<ls.length)(b:Jr ls os i<=x)(a:x<Jr ls os (i+1)):Lies (eK ls os) ls x (os.getD i 0):=by
 show{h.lt hi,?_,?_}
 .rw[h.first hi];show b
 .rw[h.first hi];show a
theorem Ord.lies_of(h:Ord ls os)(q:Lies (eK ls os) ls x j):∃i,i<ls.length/\os.getD i 0=j/\Jr ls os i<=x/\x<Jr ls os (i+1):=by
 let{c,a,b}:=q;let{i,hi,e}:=h.onto c;subst e;rw[h.first hi] at a b;show{i,hi,rfl,a,by assumption}
theorem Ord.exists(h:Ord ls os)(d:0<=x)(c:x<ls.sum):∃j,Lies (eK ls os) ls x j:=by
 let{i,hi,a,b}:=J5g (S:=Jr ls os) ls.length (by assumption) (by rw[h.whole];show c);show{_,h.lies hi a b}
theorem Ord.unique(h:Ord ls os)(a:Lies (eK ls os) ls x j)(b:Lies (eK ls os) ls x k):j=k:=by
 let{i,hi,rfl,n,m}:=h.lies_of a;let{c,d,rfl,l,g}:=h.lies_of b;have:i=c:=by
  by_cases e:i<c
  .have:=h.mono (i:=i+1) (k:=c) e ();lia
  .by_cases f:c<i
   .have:=h.mono (i:=c+1) (k:=i) f ();lia
   .lia
 rw[this]
theorem Ord.inside(h:Ord ls os)(a:Lies (eK ls os) ls x j):0<=x/\x<ls.sum:=by
 let{i,hi,rfl,e,d}:=h.lies_of a;have c:=h.mono (i:=0) (k:=i) (zO _) ();have b:=h.mono (i:=i+1) (k:=ls.length) () (zD _);rw[h.whole] at b;rw[J36] at c;lia
def J4m(ls:List Int)(ts:List Bool)(j:Nat)(off:Int)(fs:List Int):Int:=if ts.getD j false=true then fs.getD j 0+ls.getD j 0-1-off else fs.getD j 0+off
theorem Jdd(q:Lies fs ls x j):Lies gs ls (J4m ls ts j (x-fs.getD j 0) gs) j/\J4m ls ts j (J4m ls ts j (x-fs.getD j 0) gs-gs.getD j 0) fs=x:=by
 let{c,b,a}:=q;unfold Lies J4m
 grind
def J4(ls:List Int)(row:List Nat):Int:=(row.map fun j=>ls.getD j 0).sum
theorem J6c(ls:List Int)(os:List Nat):Jr ls os os.length=J4 ls os:=by
 rw[J4v ls os _ (zD _),xS];rfl
theorem J26(ls:List Int):J4 ls []=0:=rfl
theorem Jn(ls:List Int)(j:Nat)(os:List Nat):J4 ls (j::os)=ls.getD j 0+J4 ls os:=by
 rfl
theorem Jh(ls:List Int)(xs ys:List Nat):J4 ls (xs++ys)=J4 ls xs+J4 ls ys:=by
 unfold J4;rw[yE,vA]
theorem J2s(h:xs.Perm ys):J4 ls xs=J4 ls ys:=Jbp (h.map _)
theorem J16(h:∀j∈os,0<=ls.getD j 0):0<=J4 ls os:=by
 induction os with
 | nil=>show yA _
 | cons a r ih =>
  rw[Jn];have:=h a zJ;have:=ih fun j b=>h j (zK _ b);lia
theorem J74(h:∀j∈os,1<=ls.getD j 0)(b:os≠[]):1<=J4 ls os:=by
 cases os with
 | nil=>show absurd rfl b
 | cons a r =>
  rw[Jn];have:=h a zJ;have:=J16 (ls:=ls) (os:=r) fun j c=>by grind
  lia
theorem Jm7(h:∀j∈os,0<=ls.getD j 0)(b:j∈os):ls.getD j 0<=J4 ls os:=by
 induction os with
 | nil=>cases b
 | cons a r ih =>
  rw[Jn];have d:=h a zJ;have c:=J16 (ls:=ls) (os:=r) fun j b=>h j (zK _ b)
  grind
structure Row(ls:List Int)(os:List Nat):Prop where
 nd:os.Nodup
 lt:∀j∈os,j<ls.length
 pos:∀j∈os,1<=ls.getD j 0
theorem Row.inj(h:Row ls os)(hi:i<os.length)(a:j<os.length)(e:os.getD i 0=os.getD j 0):i=j:=by
 rw[zH,zH,gEq hi,gEq a] at e;show(getElem_inj h.nd).mp e
theorem Row.at(h:Row ls os):∀{k:Nat},i<k->k<=os.length->(J61 ls os k).1.getD (os.getD i 0) 0=Jr ls os i
 | 0,h1,_=>absurd h1 (wZ _)
 | k+1,h1,h2=>by
  change((J61 ls os k).1.set (os.getD k 0) (J61 ls os k).2).getD (os.getD i 0) 0=_;rw[Jf0 _ _ _ _ (by rw[J4z];show h.lt _ (J2c ()))];by_cases e:i=k
  .subst e;rw[if_pos rfl];rfl
  .rw[if_neg (fun q=>e (h.inj () () q))];show h.at () ()
theorem Row.first(h:Row ls os)(hi:i<os.length):(eK ls os).getD (os.getD i 0) 0=Jr ls os i:=h.at hi (zD _)
theorem Row.step(h:Row ls os)(hi:i<os.length):Jr ls os i<Jr ls os (i+1):=by
 rw[J15];have:=h.pos _ (J2c hi);lia
theorem Row.mono(h:Row ls os):∀{k:Nat},i<=k->k<=os.length->Jr ls os i<=Jr ls os k
 | 0,h1,_=>by
  simp_all
 | k+1,h1,h2=>by
  by_cases e:i=k+1
  .subst e;show yA _
  .have a:=Row.mono h (i:=i) (k:=k) () ();have b:=h.step (i:=k) ();lia
def AtR(ls:List Int)(os:List Nat)(y:Int)(i:Nat):Prop:=i<os.length/\Jr ls os i<=y/\y<Jr ls os (i+1)
theorem Row.exists(h:Row ls os)(d:0<=y)(c:y<J4 ls os):∃i,AtR ls os y i:=by
 rw[<- J6c] at c;let{i,hi,a,b}:=J5g (S:=Jr ls os) os.length (by assumption) c;show{i,hi,a,b}
theorem Row.unique(h:Row ls os)(a:AtR ls os y i)(b:AtR ls os y k):i=k:=by
 let{j,g,f}:=a;let{e,d,c}:=b;rcases uS i k with q|q|q
 .have:=h.mono (i:=i+1) (k:=k) () ();lia
 .show q
 .have:=h.mono (i:=k+1) (k:=i) () ();lia
theorem Row.inside(h:Row ls os)(a:AtR ls os y i):0<=y/\y<J4 ls os:=by
 let{f,e,d}:=a;have c:=h.mono (i:=0) (k:=i) () ();have b:=h.mono (i:=i+1) (k:=os.length) () (zD _);rw[J36] at c;rw[J6c] at b;lia
structure Rst where
 top:List Nat
 bot:List Nat
 ls:List Int
 ts:List Bool
structure Rst.Ok(r:Rst):Prop where
 row:Row r.ls r.top
 perm:r.bot.Perm r.top
 zl:∀j,j ∉ r.top->r.ls.getD j 0=0
 zt:∀j,j ∉ r.top->r.ts.getD j false=false
 len:r.ts.length=r.ls.length
 few:r.ls.length<=24
def Rst.size(r:Rst):Int:=J4 r.ls r.top
theorem Rst.Ok.rowB{r:Rst}(h:r.Ok):Row r.ls r.bot:={h.perm.nodup_iff.mpr h.row.nd,fun j a=>h.row.lt j (h.perm.mem_iff.mp a),fun j a=>h.row.pos j (h.perm.mem_iff.mp a)}
theorem Rst.Ok.sizeB{r:Rst}(h:r.Ok):J4 r.ls r.bot=r.size:=J2s h.perm
def J3a(r:Rst)(y z:Int):Prop:=∃i,AtR r.ls r.top y i/\z=J4m r.ls r.ts (r.top.getD i 0) (y-Jr r.ls r.top i) (eK r.ls r.bot)
theorem Jhb{os:List Nat}(h:j∈os):∃k,k<os.length/\os.getD k 0=j:=by
 let{k,a,e}:=uA h;show{k,a,by simp_all}
theorem Rst.Ok.goes(h:r.Ok)(g:J3a r y z):∃i k,AtR r.ls r.top y i/\AtR r.ls r.bot z k/\r.bot.getD k 0=r.top.getD i 0/\
  z-Jr r.ls r.bot k=(if r.ts.getD (r.top.getD i 0) false=true then r.ls.getD (r.top.getD i 0) 0-1-(y-Jr r.ls r.top i) else y-Jr r.ls r.top i):=by
 let{i,{c,e,b},rfl}:=g;let{k,d,a}:=Jhb (h.perm.mem_iff.mpr (J2c c));have f:=h.rowB.first d;rw[a] at f;rw[J15] at b;show{i,k,{c,e,by show b},?_,a,?_}
 .unfold J4m;show{d,?_,?_}
  .rw[f];split <;> lia
  .rw[J15,a,f];split <;> lia
 .unfold J4m;rw[f];split <;> lia
theorem Rst.Ok.fun_(h:r.Ok)(a:J3a r y z)(b:J3a r y z'):z=z':=by
 let{i,hi,rfl}:=a;let{k,c,rfl}:=b;obtain rfl:=h.row.unique hi c;rfl
theorem Rst.Ok.inj(h:r.Ok)(a:J3a r y z)(b:J3a r y' z):y=y':=by
 let{i,k,hi,f,g,o1}:=h.goes a;let{m,l,d,c,e,j}:=h.goes b;obtain rfl:=h.rowB.unique f c;rw[g] at e;obtain rfl:=h.row.inj hi.1 d.1 e
 grind
theorem Rst.Ok.there(h:r.Ok)(b:0<=y)(a:y<r.size):∃z,J3a r y z:=by
 let{i,hi}:=h.row.exists b a;show{_,i,hi,rfl}
theorem Rst.Ok.stays(h:r.Ok)(a:J3a r y z):0<=z/\z<r.size:=by
 let{i,k,_,b,_,_}:=h.goes a;have:=h.rowB.inside b;rw[h.sizeB] at this;show this
theorem Jb9(c:os.Perm (List.range ls.length))(pos:∀a∈ls,1<=a)(hts:ts.length=ls.length)(few:ls.length<=24):(Rst.mk (List.range ls.length) os ls ts).Ok where
 row:={vZ,fun j b=>zR.mp b,fun j b=>pos _ (Jdl (zR.mp b))}
 perm:=c
 zl:=fun j b=>by
  grind
 zt:=fun j b=>by
  grind
 len:=hts
 few:=few
theorem Ji6(ls:List Int)(os:List Nat)(ts:List Bool):(Rst.mk (List.range ls.length) os ls ts).size=ls.sum:=by
 change((List.range ls.length).map fun j=>ls.getD j 0).sum=_;rw[J3x]
theorem J2n(h:k<n):(List.range n).getD k 0=k:=by
 simp_all
def J6(row:List Nat)(a:Nat):List Nat:=row.drop (row.idxOf a+1)
def eG(row:List Nat)(x:Nat):List Nat:=row.filter fun j=>decide (j≠x)
def putR(row:List Nat)(w l:Nat)(a:Bool):List Nat:=
 (eG row l).take (if a=true then (eG row l).idxOf w else (eG row l).idxOf w+1)++[l]++(eG row l).drop (if a=true then (eG row l).idxOf w else (eG row l).idxOf w+1)
theorem J13 :j∈eG row x↔j∈row/\j≠x:=by
 unfold eG;rw[zX,yU]
theorem J4l(h:row.Nodup)(x:Nat):(eG row x).Nodup:=h.filter _
theorem J4a(h:row.Nodup)(c:x∈row):(eG row x).length+1=row.length:=by
 induction row with
 | nil=>cases c
 | cons a r ih =>
  let{g,f}:=yN.mp h;unfold eG;rw[yV];by_cases e:a=x
  .subst e;have:r.filter (fun j=>decide (j≠a))=r:=tO.mpr fun j d=>zZ (fun q=>g (q▸d));rw[if_neg (by simp),this];rfl
  .rw[if_pos (by simpa using e)];have b:=(zI.mp c).resolve_left (fun q=>e q.symm);have:=ih f b;unfold eG at this;simp only[xD];lia
theorem J3p(h:row.Nodup)(a:x∈row):(x::eG row x).Perm row:=by
 show(uT (yN.mpr {fun q=>(J13.mp q).2 rfl,J4l h x}) h).mpr fun j=>?_;rw[zI,J13];constructor
 .rintro(rfl|q)
  .show a
  .show q.1
 .intro q;by_cases e:j=x
  .show .inl e
  .show .inr {q,e}
theorem J3e(h:row.Nodup)(b:l∈row)(a:Bool):(putR row w l a).Perm row:=by
 unfold putR;generalize (if a=true then (eG row l).idxOf w else (eG row l).idxOf w+1)=n;show List.Perm.trans ?_ (J3p h b);have e:l::eG row l=[l]++((eG row l).take n++(eG row l).drop n):=by simp_all
 rw[e,<- vS];show List.Perm.append_right _ List.perm_append_comm
theorem J59(h:xs.Perm ys)(x:Nat):(eG xs x).Perm (eG ys x):=h.filter _
theorem Jw(f:List Int)(p q:Nat)(v:Int)(a:p<f.length):(f.set p v).getD q 0=if q=p then v else f.getD q 0:=Jf0 f p q v a
theorem J2l(f:List Bool)(p q:Nat)(v:Bool)(a:p<f.length):(f.set p v).getD q false=if q=p then v else f.getD q false:=by
 rw[zH,zH];by_cases e:q=p
 .simp_all
 .rw[uI (Ne.symm e),if_neg e]
inductive Stp where
 | home (a:Nat)|even (a b:Nat)|over (a b:Nat)|under (a b:Nat)|overs (a:Nat) (t:Int)|unders (a:Nat) (t:Int)
def Stp.eD:Stp->Nat
 | .home a=>a|.even a _=>a|.over a _=>a|.under a _=>a|.overs a _=>a|.unders a _=>a
def Stp.times:Stp->Int
 | .overs _ t=>t|.unders _ t=>t|_=>1
def Stp.eE(r:Rst):Stp->List Nat
 | .home _=>[]|.even _ b=>[b]|.over _ b=>[b]|.under _ b=>[b]|.overs a _=>J6 r.bot a|.unders a _=>J6 r.top a
def Stp.own:Stp->Bool
 | .even _ _=>true|.over _ _=>true|.overs _ _=>true|_=>false
def J2g(r:Rst)(w l:Nat):List Bool:=r.ts.set l (r.ts.getD w false != r.ts.getD l false)
def Stp.eB(r:Rst):Stp->Rst
 | .home a=>{eG r.top a,eG r.bot a,r.ls.set a 0,r.ts.set a false}
 | .even a b=>{eG r.top a,eG (putR r.bot a b false) a,r.ls.set a 0,(J2g r a b).set a false}
 | .over a b=>{r.top,putR r.bot a b (r.ts.getD a false),r.ls.set a (r.ls.getD a 0-r.ls.getD b 0),J2g r a b}
 | .under a b=>{putR r.top a b (r.ts.getD a false),r.bot,r.ls.set a (r.ls.getD a 0-r.ls.getD b 0),J2g r a b}
 | .overs a t=>{r.top,r.bot,r.ls.set a (r.ls.getD a 0-t*J4 r.ls (J6 r.bot a)),r.ts}
 | .unders a t=>{r.top,r.bot,r.ls.set a (r.ls.getD a 0-t*J4 r.ls (J6 r.top a)),r.ts}
def J1r(r:Rst)(a:Nat)(row:List Nat):Int:=if r.ts.getD a false=true then 0 else (r.ls.getD a 0-1)/J4 r.ls (J6 row a)
abbrev eI(r:Rst):Nat:=r.top.getD (r.top.length-1) 0
abbrev eJ(r:Rst):Nat:=r.bot.getD (r.bot.length-1) 0
def eF(r:Rst):Stp:=
 if eI r=eJ r then .home (eI r)
 else if r.ls.getD (eI r) 0=r.ls.getD (eJ r) 0 then .even (eI r) (eJ r)
 else if r.ls.getD (eJ r) 0<r.ls.getD (eI r) 0 then
  (if 0<J1r r (eI r) r.bot then .overs (eI r) (J1r r (eI r) r.bot) else .over (eI r) (eJ r))
 else (if 0<J1r r (eJ r) r.top then .unders (eJ r) (J1r r (eJ r) r.top) else .under (eJ r) (eI r))
theorem Rst.Ok.lens{r:Rst}(h:r.Ok):r.bot.length=r.top.length:=h.perm.length_eq
theorem Rst.Ok.mT(h:r.Ok)(ne:r.top≠[]):eI r∈r.top:=J2c (by have:=sM.mpr ne;lia)
theorem Rst.Ok.mB(h:r.Ok)(ne:r.top≠[]):eJ r∈r.top:=h.perm.mem_iff.mp (J2c (by have:=sM.mpr ne;have:=h.lens;lia))
theorem J1b{row:List Nat}(h:j∈row.drop n):j∈row:=List.mem_of_mem_drop h
theorem Jeb(c:a∈row)(h:row.getD (row.length-1) 0≠a):J6 row a≠[]:=by
 have b:=vW.mpr c;intro e;have f:=List.drop_eq_nil_iff.mp e;have d:row.idxOf a=row.length-1:=()
 apply h;rw[<- d,zH,gEq b];show tP b
theorem Rst.Ok.of_rows{r:Rst}(h:r.Ok){top bot:List Nat}{ls:List Int}{ts:List Bool}(b:top.Perm r.top)(hb:bot.Perm r.top)(d:ls.length=r.ls.length)(c:ts.length=r.ts.length)(pos:∀j∈r.top,1<=ls.getD j 0)(zl:∀j,j ∉ r.top->ls.getD j 0=0)(zt:∀j,j ∉ r.top->ts.getD j false=false):(Rst.mk top bot ls ts).Ok where
 row:={b.nodup_iff.mpr h.row.nd,fun j a=>by rw[d];show h.row.lt j (b.mem_iff.mp a),fun j a=>pos j (b.mem_iff.mp a)}
 perm:=hb.trans b.symm
 zl:=fun j a=>zl j fun q=>a (b.mem_iff.mpr q)
 zt:=fun j a=>zt j fun q=>a (b.mem_iff.mpr q)
 len:=by rw[d,c];show h.len
 few:=by rw[d];show h.few
theorem J7h(h:r.Ok)(a:l∈r.top):∀j,j ∉ r.top->(J2g r w l).getD j false=false:=fun j b=>by
 unfold J2g;rw[J2l _ _ _ _ (by rw[h.len];show h.row.lt l a),if_neg (show ¬ j=l from fun e=>b (by rw[e];show a))];show h.zt j b
theorem Jbi{r:Rst}(h:r.Ok)(c:a∈r.top):∀j,j ∉ r.top->(r.ls.set a v).getD j 0=0:=fun j b=>by
 rw[Jw _ _ _ _ (h.row.lt a c),if_neg (show ¬ j=a from fun e=>b (by rw[e];show c))];show h.zl j b
theorem Jbh{r:Rst}(h:r.Ok)(d:a∈r.top)(b:1<=v):∀j∈r.top,1<=(r.ls.set a v).getD j 0:=fun j c=>by
 rw[Jw _ _ _ _ (h.row.lt a d)];split
 .show b
 .show h.row.pos j c
theorem J34(r:Rst)(w l:Nat):(J2g r w l).length=r.ts.length:=by unfold J2g;rw[xH]
theorem Rst.Ok.less{r:Rst}(h:r.Ok)(d:a∈r.top){bot:List Nat}{ts:List Bool}(hb:bot.Perm (eG r.top a))(c:ts.length=r.ts.length)(zt:∀j,j ∉ r.top->ts.getD j false=false)(f:ts.getD a false=false):(Rst.mk (eG r.top a) bot (r.ls.set a 0) ts).Ok where
 row:={J4l h.row.nd a,fun j b=>by rw[xH];show h.row.lt j (J13.mp b).1,fun j b=>by
  rw[Jw _ _ _ _ (h.row.lt a d),if_neg (J13.mp b).2];show h.row.pos j (J13.mp b).1}
 perm:=hb
 zl:=fun j b=>by
  change(r.ls.set a 0).getD j 0=0;rw[Jw _ _ _ _ (h.row.lt a d)];split
  .rfl
  .rename_i e;show h.zl j fun q=>b (J13.mpr {q,e})
 zt:=fun j b=>by
  by_cases e:j=a
  .subst e;show f
  .show zt j fun q=>b (J13.mpr {q,e})
 len:=by rw[xH,c];show h.len
 few:=by rw[xH];show h.few
theorem Jjp{la:Int}(a:1<=s):(la-1)/s*s<=la-1:=Int.ediv_mul_le _ ()
theorem J2r(h:r.Ok)(ne:r.top≠[]){p:Stp->Prop}(H:eI r=eJ r->p (.home (eI r)))(I:eI r≠eJ r->r.ls.getD (eI r) 0=r.ls.getD (eJ r) 0->p (.even (eI r) (eJ r)))(C:eI r≠eJ r->r.ls.getD (eJ r) 0<r.ls.getD (eI r) 0->(r.ts.getD (eI r) false=true\/r.ls.getD (eI r) 0<=J4 r.ls (J6 r.bot (eI r)))->p (.over (eI r) (eJ r)))(B:eI r≠eJ r->r.ls.getD (eI r) 0<r.ls.getD (eJ r) 0->(r.ts.getD (eJ r) false=true\/r.ls.getD (eJ r) 0<=J4 r.ls (J6 r.top (eJ r)))->p (.under (eJ r) (eI r)))(D:∀t,eI r≠eJ r->r.ls.getD (eJ r) 0<r.ls.getD (eI r) 0->r.ts.getD (eI r) false=false->1<=t->1<=J4 r.ls (J6 r.bot (eI r))->J4 r.ls (J6 r.bot (eI r))<r.ls.getD (eI r) 0->t=(r.ls.getD (eI r) 0-1)/J4 r.ls (J6 r.bot (eI r))->t*J4 r.ls (J6 r.bot (eI r))<r.ls.getD (eI r) 0->p (.overs (eI r) t))(A:∀t,eI r≠eJ r->r.ls.getD (eI r) 0<r.ls.getD (eJ r) 0->r.ts.getD (eJ r) false=false->1<=t->1<=J4 r.ls (J6 r.top (eJ r))->J4 r.ls (J6 r.top (eJ r))<r.ls.getD (eJ r) 0->t=(r.ls.getD (eJ r) 0-1)/J4 r.ls (J6 r.top (eJ r))->t*J4 r.ls (J6 r.top (eJ r))<r.ls.getD (eJ r) 0->p (.unders (eJ r) t)):p (eF r):=by
 unfold eF;have mT:=h.mT ne;have mB:=h.mB ne;by_cases d:eI r=eJ r
 .rw[if_pos d];show H d
 rw[if_neg d];by_cases E:r.ls.getD (eI r) 0=r.ls.getD (eJ r) 0
 .rw[if_pos E];show I d E
 rw[if_neg E];have i:∀(row:List Nat) (a:Nat),a∈row->(∀j∈row,1<=r.ls.getD j 0)->row.getD (row.length-1) 0≠a->
   1<=J4 r.ls (J6 row a)/\(0<J1r r a row->r.ts.getD a false=false/\1<=J1r r a row/\J4 r.ls (J6 row a)<r.ls.getD a 0/\J1r r a row=(r.ls.getD a 0-1)/J4 r.ls (J6 row a)/\J1r r a row*J4 r.ls (J6 row a)<r.ls.getD a 0)/\
   (¬ 0<J1r r a row->r.ts.getD a false=true\/r.ls.getD a 0<=J4 r.ls (J6 row a)):=fun row a J F G=>by
  have g:1<=J4 r.ls (J6 row a):=J74 (fun j l=>F j (J1b l)) (Jeb J G);show{g,fun hw=>?_,fun hw=>?_}
  .by_cases ct:r.ts.getD a false=true
   .unfold J1r at hw;rw[if_pos ct] at hw;lia
   .have e:J1r r a row=(r.ls.getD a 0-1)/J4 r.ls (J6 row a):=by unfold J1r;rw[if_neg ct]
    have L:=Jjp (la:=r.ls.getD a 0) g;rw[e] at hw ⊢;show{by simpa using ct,(),?_,rfl,()};have K:J4 r.ls (J6 row a)*1<=J4 r.ls (J6 row a)*((r.ls.getD a 0-1)/J4 r.ls (J6 row a)):=sN () ();rw[wH (J4 r.ls (J6 row a)) ((r.ls.getD a 0-1)/J4 r.ls (J6 row a))] at K;lia
  .by_cases ct:r.ts.getD a false=true
   .show .inl ct
   .right;have e:J1r r a row=(r.ls.getD a 0-1)/J4 r.ls (J6 row a):=by unfold J1r;rw[if_neg ct]
    rw[e] at hw;by_cases q:r.ls.getD a 0<=J4 r.ls (J6 row a)
    .show q
    .have:=(Int.le_ediv_iff_mul_le (a:=1) (b:=r.ls.getD a 0-1) (c:=J4 r.ls (J6 row a)) ()).mpr ();lia
 by_cases n:r.ls.getD (eJ r) 0<r.ls.getD (eI r) 0
 .rw[if_pos n];let{g,z,y}:=i r.bot (eI r) (h.perm.mem_iff.mpr mT) (fun j l=>h.rowB.pos j l) (fun e=>d e.symm);by_cases f:0<J1r r (eI r) r.bot
  .rw[if_pos f];let{w,v,u,s,o}:=z f;show D _ d n w v g u s o
  .rw[if_neg f];show C d n (y f)
 .rw[if_neg n];have m:r.ls.getD (eI r) 0<r.ls.getD (eJ r) 0:=()
  let{g,z,y}:=i r.top (eJ r) mB (fun j l=>h.row.pos j l) d;by_cases f:0<J1r r (eJ r) r.top
  .rw[if_pos f];let{w,v,u,s,o}:=z f;show A _ d m w v g u s o
  .rw[if_neg f];show B d m (y f)
theorem Rst.Ok.next(h:r.Ok)(ne:r.top≠[]):((eF r).eB r).Ok:=by
 have mT:=h.mT ne;have mB:=h.mB ne;have f:=h.perm.mem_iff.mpr mT;have b:=h.perm.mem_iff.mpr mB;have a:=h.rowB.nd;show J2r h ne (p:=fun s=>(s.eB r).Ok) (fun _=>?_) (fun d c=>?_) (fun d c _=>?_) (fun d c _=>?_) (fun t d c n m l _ i g=>?_) (fun t d c n m l _ i g=>?_)
 .show h.less mT (J59 h.perm _) (by rw[xH]) (fun j e=>?_) ?_
  .rw[J2l _ _ _ _ (by rw[h.len];show h.row.lt _ mT)];split
   .rfl
   .show h.zt j e
  .rw[J2l _ _ _ _ (by rw[h.len];show h.row.lt _ mT),if_pos rfl]
 .show h.less mT ((J59 (J3e a b false) _).trans (J59 h.perm _)) (by rw[xH,J34]) (fun j e=>?_) ?_
  .rw[J2l _ _ _ _ (by rw[J34,h.len];show h.row.lt _ mT)];split
   .rfl
   .show J7h h mB j e
  .rw[J2l _ _ _ _ (by rw[J34,h.len];show h.row.lt _ mT),if_pos rfl]
 .show h.of_rows (xJ _) ((J3e a b _).trans h.perm) (by rw[xH]) (J34 _ _ _) (Jbh h mT ()) (Jbi h mT) (J7h h mB)
 .show h.of_rows (J3e h.row.nd mT _) h.perm (by rw[xH]) (J34 _ _ _) (Jbh h mB ()) (Jbi h mB) (J7h h mT)
 .show h.of_rows (xJ _) h.perm (by rw[xH]) rfl (Jbh h mT ()) (Jbi h mT) h.zt
 .show h.of_rows (xJ _) h.perm (by rw[xH]) rfl (Jbh h mB ()) (Jbi h mB) h.zt
theorem J8i:∀(n:Nat) (row:List Nat),row.Nodup->(∀j∈row,j<n)->row.length<=n
 | 0,row,_,h=>by
  cases row with
  | nil=>show zD _
  | cons a r=>show absurd (h a zJ) (wZ _)
 | n+1,row,nd,h=>by
  by_cases c:n∈row
  .have d:=J4a nd c;have e:=J8i n (eG row n) (J4l nd n) fun j b=>by
    have:=h j (J13.mp b).1;have:=(J13.mp b).2;lia
   lia
  .have:=J8i n row nd fun j b=>by
    have d:=h j b
    grind
   lia
theorem Row.len_le(h:Row ls row):row.length<=ls.length:=J8i _ _ h.nd h.lt
theorem take_snoc{ks:List Nat}{i:Nat}(h:i<ks.length):ks.take (i+1)=ks.take i++[ks.getD i 0]:=by
 rw[List.take_add_one,zH,gEq h];rfl
theorem Jai(h:row≠[]):row=row.dropLast++[row.getD (row.length-1) 0]:=by
 have a:=sM.mpr h;have e:row.getD (row.length-1) 0=row.getLast h:=by
  rw[zH,gEq (),List.getLast_eq_getElem];rfl
 rw[e];show(List.dropLast_concat_getLast h).symm
theorem J1q(xs ys:List Nat)(x:Nat):eG (xs++ys) x=eG xs x++eG ys x:=by unfold eG;rw[xX]
theorem J1p(h:x ∉ xs):eG xs x=xs:=tO.mpr fun j a=>zZ (fun e=>h (e▸a))
theorem J1x(x:Nat):eG [x] x=[]:=by unfold eG;simp
theorem J9e(t:List Nat)(h:a ∉ s):(s++a::t).idxOf a=s.length:=by
 grind
theorem J82(ls:List Int)(p:Nat->Bool):∀os ,(∀j∈os,p j=false->ls.getD j 0=0)->J4 ls (os.filter p)=J4 ls os
 | [],_=>rfl
 | a::r,h=>by
  have b:=J82 ls p r fun j d=>h j (zK _ d);rw[yV,Jn]
  cases c:p a with
  | true=>rw[if_pos rfl,Jn,b]
  | false=>rw[if_neg (by decide),b,h a zJ c,yZ]
theorem Rst.Ok.size_sum{r:Rst}(h:r.Ok):r.size=r.ls.sum:=by
 have b:J4 r.ls (List.range r.ls.length)=r.ls.sum:=by unfold J4;rw[J3x]
 rw[<- b,<- J82 r.ls (fun j=>decide (j∈r.top)) (List.range r.ls.length) fun j _ a=>h.zl j (of_decide_eq_false a)];show J2s ?_;show(uT h.row.nd (nodup_range.filter _)).mpr fun j=>?_;rw[zX,zR,yU];show{fun q=>{h.row.lt j q,q},fun q=>q.2}
def J2u(r:Rst):Stp->Prop
 | .home a=>a=eI r/\a=eJ r
 | .even a b=>a=eI r/\b=eJ r/\a≠b/\r.ls.getD a 0=r.ls.getD b 0
 | .over a b=>a=eI r/\b=eJ r/\a≠b/\r.ls.getD b 0<r.ls.getD a 0
 | .under a b=>a=eJ r/\b=eI r/\a≠b/\r.ls.getD b 0<r.ls.getD a 0
 | .overs a t=>a=eI r/\a≠eJ r/\r.ts.getD a false=false/\1<=t/\1<=J4 r.ls (J6 r.bot a)/\t*J4 r.ls (J6 r.bot a)<r.ls.getD a 0
 | .unders a t=>a=eJ r/\a≠eI r/\r.ts.getD a false=false/\1<=t/\1<=J4 r.ls (J6 r.top a)/\t*J4 r.ls (J6 r.top a)<r.ls.getD a 0
theorem J62(h:r.Ok)(ne:r.top≠[]):J2u r (eF r):=
 J2r h ne (p:=J2u r) (fun c=>{rfl,c}) (fun a b=>{rfl,rfl,a,b}) (fun a b _=>{rfl,rfl,a,b}) (fun a b _=>{rfl,rfl,fun e=>a e.symm,b})
  (fun t a b i g f _ _ d=>{rfl,a,i,g,f,d}) (fun t a b i g f _ _ d=>{rfl,fun e=>a e.symm,i,g,f,d})
theorem J2u.win(h:r.Ok)(ne:r.top≠[])(n:J2u r s):s.eD∈r.top:=by
 have mT:=h.mT ne;have mB:=h.mB ne
 cases s with
 | home a=>rw[ n.1];show mT
 | even a b=>rw[ n.1];show mT
 | over a b=>rw[ n.1];show mT
 | under a b=>rw[ n.1];show mB
 | overs a t=>rw[ n.1];show mT
 | unders a t=>rw[ n.1];show mB
theorem Rst.Ok.le_size{r:Rst}(h:r.Ok)(a:j∈r.top):r.ls.getD j 0<=r.size:=Jm7 (fun j a=>by have:=h.row.pos j a;lia) a
theorem J2u.times(h:r.Ok)(ne:r.top≠[])(n:J2u r s)(i:r.size<=10^30):s.times.natAbs<=10^30:=by
 have hw:=h.le_size (n.win h ne);have c:∀{t l s:Int},1<=t->1<=s->t*s<l->t<=l:=fun {t l s} m g j=>by
  have:t*1<=t*s:=sN g ();lia
 cases s with
 | overs a t =>
  let{_,_,_,f,e,d}:=n;have:=c f e d;change t.natAbs<=10^30;have hw:r.ls.getD a 0<=r.size:=hw;lia
 | unders a t =>
  let{_,_,_,f,e,d}:=n;have:=c f e d;change t.natAbs<=10^30;have hw:r.ls.getD a 0<=r.size:=hw;lia
 | home a=>change(1:Int).natAbs<=10^30;decide
 | even a b=>change(1:Int).natAbs<=10^30;decide
 | over a b=>change(1:Int).natAbs<=10^30;decide
 | under a b=>change(1:Int).natAbs<=10^30;decide
theorem J2u.losers_lt(h:r.Ok)(ne:r.top≠[])(n:J2u r s):(∀j∈s.eE r,j∈r.top)/\(s.eE r).length<=24:=by
 have mT:=h.mT ne;have mB:=h.mB ne;have l1:=zM h.row.len_le h.few;have d:=zM h.rowB.len_le h.few
 cases s with
 | home a=>show{fun j c=>absurd c (by simp[Stp.eE]),zO _}
 | even a b=>show{fun j c=>by rw[zF.mp c,n.2.1];show mB,by change 1<=24;decide}
 | over a b=>show{fun j c=>by rw[zF.mp c,n.2.1];show mB,by change 1<=24;decide}
 | under a b=>show{fun j c=>by rw[zF.mp c,n.2.1];show mT,by change 1<=24;decide}
 | overs a t=>show{fun j c=>h.perm.mem_iff.mp (J1b c),by change(J6 r.bot a).length<=24;unfold J6;rw[wV];lia}
 | unders a t=>show{fun j c=>J1b c,by change(J6 r.top a).length<=24;unfold J6;rw[wV];lia}
theorem Jda{r:Rst}(h:r.Ok):∀{os:List Nat},os.Nodup->(∀j∈os,j∈r.top)->J4 r.ls os<=r.size:=fun {os} nd d=>by
 have e:J4 r.ls (r.top.filter fun j=>decide (j∈os))=J4 r.ls os:=J2s ((uT (h.row.nd.filter _) nd).mpr fun j=>by
  rw[zX,yU];show{fun q=>q.2,fun q=>{d j q,q}})
 have f:∀(p:Nat->Bool) (row:List Nat),(∀j∈row,0<=r.ls.getD j 0)->J4 r.ls (row.filter p)<=J4 r.ls row:=by
  intro p row c
  induction row with
  | nil=>show yA _
  | cons a t ih =>
   rw[yV,Jn];have i:=c a zJ;have g:=ih fun j b=>c j (zK _ b);split
   .rw[Jn];lia
   .lia
 rw[<- e];show f _ _ fun j b=>by have:=h.row.pos j b;lia
theorem J2u.losers_nd(h:r.Ok){s:Stp}:(s.eE r).Nodup:=by
 cases s with
 | home a=>show nodup_nil
 | even a b=>show(by simp:[b].Nodup)
 | over a b=>show(by simp:[b].Nodup)
 | under a b=>show(by simp:[b].Nodup)
 | overs a t=>show List.Sublist.nodup (List.drop_sublist _ _) h.rowB.nd
 | unders a t=>show List.Sublist.nodup (List.drop_sublist _ _) h.row.nd
theorem Ji(ls:List Int)(v:Int):∀{row:List Nat},a ∉ row->J4 (ls.set a v) row=J4 ls row
 | [],_=>rfl
 | b::row,h=>by
  have c:a≠b:=fun e=>h (e▸zJ ..);rw[Jn,Jn,Ji ls v (row:=row) fun q=>h (zK _ q)];rw[zH,zH,uI c]
theorem J5c(ls:List Int)(v:Int)(c:a<ls.length):∀{row:List Nat},row.Nodup->a∈row->J4 (ls.set a v) row=J4 ls row-ls.getD a 0+v
 | b::row,nd,h=>by
  rw[yN] at nd;rw[Jn,Jn];by_cases e:a=b
  .subst e;rw[Ji ls v nd.1,Jw _ _ _ _ c,if_pos rfl];lia
  .have d:=(zI.mp h).resolve_left e;rw[J5c ls v c nd.2 d,Jw _ _ _ _ c,if_neg (fun q=>e q.symm)];lia
theorem J73(nd:row.Nodup)(b:a∈row):J4 ls (eG row a)+ls.getD a 0=J4 ls row:=by
 rw[<- J2s (J3p nd b),Jn];lia
theorem J97(row:List Nat)(a:Nat):a ∉ eG row a:=fun h=>(J13.mp h).2 rfl
def Jiz(ls:List Int)(a:List Nat)(t:Int)(row:List Nat):Int:=(row.map fun j=>if j∈a then ls.getD j 0*(1+t) else ls.getD j 0).sum
theorem Jiy(ls:List Int)(a:List Nat)(t:Int)(j:Nat)(row:List Nat):Jiz ls a t (j::row)=(if j∈a then ls.getD j 0*(1+t) else ls.getD j 0)+Jiz ls a t row:=by
 rfl
theorem Jhc(ls:List Int)(a:List Nat)(t:Int):∀row ,Jiz ls a t row=J4 ls row+t*J4 ls (row.filter fun j=>decide (j∈a))
 | []=>by unfold Jiz;simp[J26]
 | j::row=>by
  rw[Jiy,Jn,Jhc ls a t row,yV];by_cases c:j∈a
  .rw[if_pos c,if_pos (zZ c),Jn,vK,vK,Int.mul_one,wH (ls.getD j 0) t];lia
  .rw[if_neg c,if_neg (by simpa using c)];lia
theorem J9k{row:List Nat}(nd:row.Nodup)(a:los.Nodup)(b:∀j∈los,j∈row):(row.filter fun j=>decide (j∈los)).Perm los:=by
 show(uT (nd.filter _) a).mpr fun j=>?_;rw[zX,yU];show{fun q=>q.2,fun q=>{b j q,q}}
def Stp.eL:Stp->Bool
 | .home _=>true|_=>false
def Stp.eO:Stp->Bool
 | .home _=>true|.even _ _=>true|_=>false
theorem J1w(nd:row.Nodup)(b:a∈row):a ∉ J6 row a:=fun h=>by
 unfold J6 at h;let{i,hi,e}:=uA h;rw[List.getElem_drop] at e;have d:=vW.mpr b;have c:=tP d;have f:=(getElem_inj nd).mp (e.trans c.symm);lia
structure Down(r:Rst)(s:Stp):Prop where
 size:(s.eB r).size+s.times*J4 r.ls (s.eE r)+(if s.eL=true then r.ls.getD s.eD 0 else 0)=r.size
 less:(s.eB r).size<r.size
 made:Jiz (s.eB r).ls (s.eE r) s.times (s.eB r).top=(s.eB r).size+s.times*J4 r.ls (s.eE r)
 sub:∀j∈(s.eB r).top,j∈r.top
 len:(s.eB r).top.length+(if s.eO=true then 1 else 0)=r.top.length
theorem J45{r l:Rst}(nd:l.top.Nodup)(c:los.Nodup)(d:∀j∈los,j∈l.top)(b:l.ls=r.ls.set a v)(e:a ∉ los):
  Jiz l.ls los t l.top=l.size+t*J4 r.ls los:=by
 rw[Jhc,J2s (J9k nd c d)];rw[b,Ji _ _ e,<- b];rfl
theorem Rst.Ok.down(h:r.Ok)(ne:r.top≠[]):Down r (eF r):=by
 have n:=J62 h ne;have ok:=h.next ne;have w:=n.win h ne;have mT:=h.mT ne;have mB:=h.mB ne;have nd:=h.row.nd;have C:=h.rowB.nd;have m:=J2u.losers_nd h (s:=eF r);have f:=h.row.lt;have pos:=h.row.pos;generalize eF r=s at *
 cases s with
 | home a =>
  have d:a∈r.top:=w;have sz:((Stp.home a).eB r).size=J4 r.ls (eG r.top a):=Ji _ _ (J97 _ _);have e:=J73 (ls:=r.ls) nd d;have p:=pos a d;have y:r.size=J4 r.ls r.top:=rfl;show{?_,(),?_,fun j c=>(J13.mp c).1,J4a nd d}
  .change((Stp.home a).eB r).size+1*J4 r.ls []+(if true=true then r.ls.getD a 0 else 0)=r.size;rw[if_pos rfl,J26];lia
  .show J45 (a:=a) (v:=0) ok.row.nd m (fun j c=>nomatch c) rfl (fun q=>nomatch q)
 | even a b =>
  let{A,l,i,o}:=n;have d:a∈r.top:=w;have g:b∈r.top:=by rw[l];show mB
  have sz:((Stp.even a b).eB r).size=J4 r.ls (eG r.top a):=Ji _ _ (J97 _ _);have e:=J73 (ls:=r.ls) nd d;have p:=pos a d;have y:r.size=J4 r.ls r.top:=rfl;have u:J4 r.ls [b]=r.ls.getD b 0:=by rw[Jn,J26,yR]
  show{?_,(),?_,fun j c=>(J13.mp c).1,J4a nd d}
  .change((Stp.even a b).eB r).size+1*J4 r.ls [b]+(if false=true then r.ls.getD a 0 else 0)=r.size;rw[if_neg (by decide),u];lia
  .show J45 (a:=a) (v:=0) ok.row.nd m (fun j c=>?_) rfl (fun q=>?_)
   .cases zF.mp c;show J13.mpr {g,fun e=>i e.symm}
   .show i (zF.mp q)
 | over a b =>
  let{A,l,i,o}:=n;have d:=w;have g:b∈r.top:=by rw[l];show mB
  have sz:((Stp.over a b).eB r).size=J4 r.ls r.top-r.ls.getD a 0+(r.ls.getD a 0-r.ls.getD b 0):=J5c _ _ (f a d) nd d;have p:=pos b g;have y:r.size=J4 r.ls r.top:=rfl;have u:J4 r.ls [b]=r.ls.getD b 0:=by rw[Jn,J26,yR]
  show{?_,(),?_,fun j c=>c,rfl}
  .change((Stp.over a b).eB r).size+1*J4 r.ls [b]+(if false=true then r.ls.getD a 0 else 0)=r.size;rw[if_neg (by decide),u];lia
  .show J45 (a:=a) (v:=r.ls.getD a 0-r.ls.getD b 0) ok.row.nd m (fun j c=>?_) rfl (fun q=>?_)
   .cases zF.mp c;show g
   .show i (zF.mp q)
 | under a b =>
  let{A,l,i,o}:=n;have d:a∈r.top:=w;have g:b∈r.top:=by rw[l];show mT
  have z:=J3e nd (w:=a) g (r.ts.getD a false);have sz:((Stp.under a b).eB r).size=J4 r.ls r.top-r.ls.getD a 0+(r.ls.getD a 0-r.ls.getD b 0):=(J2s z).trans (J5c _ _ (f a d) nd d);have p:=pos b g;have y:r.size=J4 r.ls r.top:=rfl;have u:J4 r.ls [b]=r.ls.getD b 0:=by rw[Jn,J26,yR]
  show{?_,(),?_,fun j c=>z.mem_iff.mp c,z.length_eq}
  .change((Stp.under a b).eB r).size+1*J4 r.ls [b]+(if false=true then r.ls.getD a 0 else 0)=r.size;rw[if_neg (by decide),u];lia
  .show J45 (a:=a) (v:=r.ls.getD a 0-r.ls.getD b 0) ok.row.nd m (fun j c=>?_) rfl (fun q=>?_)
   .cases zF.mp c;show z.mem_iff.mpr g
   .show i (zF.mp q)
 | overs a t =>
  let{A,l,i,o,D,E}:=n;have d:a∈r.top:=w;have B:a∈r.bot:=h.perm.mem_iff.mpr d;have sz:((Stp.overs a t).eB r).size=J4 r.ls r.top-r.ls.getD a 0+(r.ls.getD a 0-t*J4 r.ls (J6 r.bot a)):=J5c _ _ (f a d) nd d;have y:r.size=J4 r.ls r.top:=rfl;have p:1<=t*J4 r.ls (J6 r.bot a):=by
   have:=uU o D (by decide) ();lia
  show{?_,(),?_,fun j c=>c,rfl}
  .change((Stp.overs a t).eB r).size+t*J4 r.ls (J6 r.bot a)+(if false=true then r.ls.getD a 0 else 0)=r.size;rw[if_neg (by decide)];lia
  .show J45 (a:=a) ok.row.nd m (fun j c=>h.perm.mem_iff.mp (J1b c)) rfl (J1w C B)
 | unders a t =>
  let{A,l,i,o,D,E}:=n;have d:a∈r.top:=w;have sz:((Stp.unders a t).eB r).size=J4 r.ls r.top-r.ls.getD a 0+(r.ls.getD a 0-t*J4 r.ls (J6 r.top a)):=J5c _ _ (f a d) nd d;have y:r.size=J4 r.ls r.top:=rfl;have p:1<=t*J4 r.ls (J6 r.top a):=by
   have:=uU o D (by decide) ();lia
  show{?_,(),?_,fun j c=>c,rfl}
  .change((Stp.unders a t).eB r).size+t*J4 r.ls (J6 r.top a)+(if false=true then r.ls.getD a 0 else 0)=r.size;rw[if_neg (by decide)];lia
  .show J45 (a:=a) ok.row.nd m (fun j c=>J1b c) rfl (J1w nd d)
def fS(f:Nat->Int)(row:List Nat):Int:=(row.map f).sum
theorem fS_nil(f:Nat->Int):fS f []=0:=rfl
theorem J3l(f:Nat->Int)(j:Nat)(row:List Nat):fS f (j::row)=f j+fS f row:=by rfl
theorem Jc7(h:xs.Perm ys):fS f xs=fS f ys:=Jbp (h.map _)
theorem J8o :∀{row:List Nat},(∀j∈row,f j=g j)->fS f row=fS g row
 | [],_=>rfl
 | j::row,h=>by
  rw[J3l,J3l,h j zJ,J8o fun i hi=>h i (zK _ hi)]
theorem Js0(f g:Nat->Int):∀row ,fS (fun j=>f j+g j) row=fS f row+fS g row
 | []=>rfl
 | j::row=>by
  rw[J3l,J3l,J3l,Js0 f g row];lia
theorem Jb0(nd:row.Nodup)(b:a∈row):fS f (eG row a)+f a=fS f row:=by
 rw[<- Jc7 (J3p nd b),J3l];lia
theorem fS_if(c:Int)(f:Nat->Int)(a:List Nat):∀row ,fS (fun j=>if j∈a then c*f j else 0) row=c*fS f (row.filter fun j=>decide (j∈a))
 | []=>by simp[fS_nil]
 | j::row=>by
  rw[J3l,fS_if c f a row,yV];by_cases q:j∈a
  .rw[if_pos q,if_pos (zZ q),J3l,vK]
  .simp_all
theorem Jds :∀{row:List Nat},(∀j∈row,0<=f j)->0<=fS f row
 | [],_=>yA _
 | j::row,h=>by
  rw[J3l];have:=h j zJ;have:=Jds fun i hi=>h i (zK _ hi);lia
theorem Jrz :∀{row:List Nat},(∀j∈row,0<=f j)->∀{j:Nat},j∈row->f j<=fS f row
 | a::row,h,j,hj=>by
  rw[J3l];have c:=h a zJ;have b:=Jds fun i hi=>h i (zK _ hi);rcases zI.mp hj with rfl|hj
  .lia
  .have:=Jrz (fun i hi=>h i (zK _ hi)) hj;lia
def towB(s:Stp)(r:Rst)(T:List Int):List Int:=(List.range T.length).map fun j=>if j∈(s.eB r).top then (if j∈s.eE r then T.getD j 0+T.getD s.eD 0*s.times else T.getD j 0) else 0
theorem Jg6(s:Stp)(r:Rst)(T:List Int):(towB s r T).length=T.length:=by unfold towB;rw[zB,yC]
theorem Jg7(s:Stp)(r:Rst)(T:List Int)(h:j<T.length):(towB s r T).getD j 0=if j∈(s.eB r).top then (if j∈s.eE r then T.getD j 0+T.getD s.eD 0*s.times else T.getD j 0) else 0:=by
 unfold towB;rw[zH,zY,tQ h];rfl
def wS(ls T:List Int)(row:List Nat):Int:=fS (fun j=>ls.getD j 0*T.getD j 0) row
theorem Jjt{r l:Rst}(nd:r.top.Nodup)(i:a∈r.top)(m:a<r.ls.length)(s:los.Nodup)(u:∀j∈los,j∈l.top)(B:a ∉ los)(g:l.ls=r.ls.set a v)(d:l.top.Nodup)(w:∀j∈l.top,T'.getD j 0=T.getD j 0+(if j∈los then T.getD a 0*t else 0))(b:l.top.Perm r.top\/(l.top.Perm (eG r.top a)/\v=0)):
  wS l.ls T' l.top=wS r.ls T r.top-r.ls.getD a 0*T.getD a 0+v*T.getD a 0+T.getD a 0*t*J4 r.ls los:=by
 have z:wS l.ls T' l.top=wS l.ls T l.top+T.getD a 0*t*J4 r.ls los:=by
  have c:wS l.ls T' l.top=fS (fun j=>l.ls.getD j 0*T.getD j 0+(if j∈los then (T.getD a 0*t)*l.ls.getD j 0 else 0)) l.top:=J8o fun j h=>by
   rw[w j h,vK];by_cases q:j∈los
   .rw[if_pos q,if_pos q,wH (l.ls.getD j 0) (T.getD a 0*t)]
   .rw[if_neg q,if_neg q,wL]
  rw[c,Js0,fS_if];have e:fS (fun j=>l.ls.getD j 0) (l.top.filter fun j=>decide (j∈los))=J4 r.ls los:=by
   rw[Jc7 (J9k d s u)];change J4 l.ls los=_;rw[g,Ji _ _ B]
  rw[e];rfl
 have A:l.ls.getD a 0=v:=by rw[g,Jw _ _ _ _ m,if_pos rfl]
 have o:fS (fun j=>l.ls.getD j 0*T.getD j 0) (eG r.top a)=fS (fun j=>r.ls.getD j 0*T.getD j 0) (eG r.top a):=J8o fun j h=>by
  have q:=(J13.mp h).2;rw[g,Jw _ _ _ _ m,if_neg q]
 have n:=Jb0 (f:=fun j=>r.ls.getD j 0*T.getD j 0) nd i;have y:wS l.ls T l.top=wS r.ls T r.top-r.ls.getD a 0*T.getD a 0+v*T.getD a 0:=by
  rcases b with p|⟨p,rfl⟩
  .have e:=Jb0 (f:=fun j=>l.ls.getD j 0*T.getD j 0) nd i;unfold wS;rw[Jc7 p,<- e,o];simp only[A] at *;lia
  .unfold wS;rw[Jc7 p,o];simp only[xK] at *;lia
 rw[z,y]
theorem J6z(h:r.Ok)(ne:r.top≠[]):if (eF r).eO=true then ((eF r).eB r).top=eG r.top (eF r).eD else ((eF r).eB r).top.Perm r.top:=by
 show J2r h ne (p:=fun s=>if s.eO=true then (s.eB r).top=eG r.top s.eD else (s.eB r).top.Perm r.top) (fun _=>?_) (fun _ _=>?_) (fun _ _ _=>?_) (fun _ _ _=>?_) (fun t _ _ _ _ _ _ _ _=>?_) (fun t _ _ _ _ _ _ _ _=>?_)
 .rfl
 .rfl
 .show xJ _
 .show J3e h.row.nd (h.mT ne) _
 .show xJ _
 .show xJ _
structure LosP(r:Rst)(s:Stp):Prop where
 sub:∀j∈s.eE r,j∈(s.eB r).top
 no:s.eD ∉ s.eE r
 one:1<=s.times
 tl:s.eL=false->r.ls.getD s.eD 0-s.times*J4 r.ls (s.eE r)=(s.eB r).ls.getD s.eD 0
 ls:(s.eB r).ls=r.ls.set s.eD ((s.eB r).ls.getD s.eD 0)
 zero:s.eO=true->(s.eB r).ls.getD s.eD 0=0
theorem Jq9(h:r.Ok)(ne:r.top≠[]):LosP r (eF r):=by
 have n:=J62 h ne;have w:=n.win h ne;have mT:=h.mT ne;have mB:=h.mB ne;have nd:=h.row.nd;have u:=h.rowB.nd;have y:=h.row.lt;generalize eF r=s at *;have c:∀(v:Int),(r.ls.set s.eD v).getD s.eD 0=v:=fun v=>by rw[Jw _ _ _ _ (y _ w),if_pos rfl]
 have d:∀b,J4 r.ls [b]=r.ls.getD b 0:=fun b=>by rw[Jn,J26,yR]
 cases s with
 | home a =>
  have c:∀(v:Int),(r.ls.set a v).getD a 0=v:=c;show{fun j f=>(nomatch f),fun q=>(nomatch q),yA _,fun q=>(nomatch q),?_,fun _=>c 0};change r.ls.set a 0=r.ls.set a ((r.ls.set a 0).getD a 0);rw[c]
 | even a b =>
  let{o,i,g,m}:=n;have c:∀(v:Int),(r.ls.set a v).getD a 0=v:=c;have l:b∈r.top:=by rw[i];show mB
  show{fun j f=>?_,fun q=>g (zF.mp q),yA _,fun _=>?_,?_,fun _=>c 0}
  .cases zF.mp f;show J13.mpr {l,fun e=>g e.symm}
  .change r.ls.getD a 0-1*J4 r.ls [b]=(r.ls.set a 0).getD a 0;rw[c,d];lia
  .change r.ls.set a 0=r.ls.set a ((r.ls.set a 0).getD a 0);rw[c]
 | over a b =>
  let{o,i,g,m}:=n;have c:∀(v:Int),(r.ls.set a v).getD a 0=v:=c;have l:b∈r.top:=by rw[i];show mB
  show{fun j f=>?_,fun q=>g (zF.mp q),yA _,fun _=>?_,?_,fun q=>nomatch q}
  .cases zF.mp f;show l
  .change r.ls.getD a 0-1*J4 r.ls [b]=(r.ls.set a (r.ls.getD a 0-r.ls.getD b 0)).getD a 0;rw[c,d];lia
  .change r.ls.set a _=r.ls.set a ((r.ls.set a (r.ls.getD a 0-r.ls.getD b 0)).getD a 0);rw[c]
 | under a b =>
  let{o,i,g,m}:=n;have c:∀(v:Int),(r.ls.set a v).getD a 0=v:=c;have l:b∈r.top:=by rw[i];show mT
  have z:=J3e nd (w:=a) l (r.ts.getD a false);show{fun j f=>?_,fun q=>g (zF.mp q),yA _,fun _=>?_,?_,fun q=>nomatch q}
  .cases zF.mp f;show z.mem_iff.mpr l
  .change r.ls.getD a 0-1*J4 r.ls [b]=(r.ls.set a (r.ls.getD a 0-r.ls.getD b 0)).getD a 0;rw[c,d];lia
  .change r.ls.set a _=r.ls.set a ((r.ls.set a (r.ls.getD a 0-r.ls.getD b 0)).getD a 0);rw[c]
 | overs a t =>
  let{o,i,g,m,B,A}:=n;have c:∀(v:Int),(r.ls.set a v).getD a 0=v:=c;have p:a∈r.bot:=h.perm.mem_iff.mpr w;show{fun j f=>h.perm.mem_iff.mp (J1b f),J1w u p,m,fun _=>?_,?_,fun q=>nomatch q}
  .change r.ls.getD a 0-t*J4 r.ls (J6 r.bot a)=(r.ls.set a (r.ls.getD a 0-t*J4 r.ls (J6 r.bot a))).getD a 0;rw[c]
  .change r.ls.set a _=r.ls.set a ((r.ls.set a (r.ls.getD a 0-t*J4 r.ls (J6 r.bot a))).getD a 0);rw[c]
 | unders a t =>
  let{o,i,g,m,B,A}:=n;have c:∀(v:Int),(r.ls.set a v).getD a 0=v:=c;show{fun j f=>J1b f,J1w nd w,m,fun _=>?_,?_,fun q=>nomatch q}
  .change r.ls.getD a 0-t*J4 r.ls (J6 r.top a)=(r.ls.set a (r.ls.getD a 0-t*J4 r.ls (J6 r.top a))).getD a 0;rw[c]
  .change r.ls.set a _=r.ls.set a ((r.ls.set a (r.ls.getD a 0-t*J4 r.ls (J6 r.top a))).getD a 0);rw[c]
structure Tow(r:Rst)(T:List Int):Prop where
 len:T.length=r.ls.length
 pos:∀j∈r.top,1<=T.getD j 0
 sum:wS r.ls T r.top<=10^30
theorem Tow.le(h:r.Ok)(t:Tow r T)(a:j∈r.top):T.getD j 0<=10^30:=by
 have c:r.ls.getD j 0*T.getD j 0<=wS r.ls T r.top:=Jrz (f:=fun j=>r.ls.getD j 0*T.getD j 0) (fun i hi=>vB (by have:=h.row.pos i hi;lia) (by have:=t.pos i hi;lia)) a;have b:1*T.getD j 0<=r.ls.getD j 0*T.getD j 0:=uB (h.row.pos j a) (by have:=t.pos j a;lia);have:=t.sum;lia
theorem Jag(h:r.Ok)(ne:r.top≠[])(b:T.length=r.ls.length)(a:j∈((eF r).eB r).top):
  (towB (eF r) r T).getD j 0=T.getD j 0+(if j∈(eF r).eE r then T.getD (eF r).eD 0*(eF r).times else 0):=by
 rw[Jg7 _ _ _ (by rw[b];show h.row.lt j ((h.down ne).sub j a)),if_pos a];split <;> lia
theorem Rst.Ok.stay(h:r.Ok)(ne:r.top≠[])(g:T.length=r.ls.length):
  wS ((eF r).eB r).ls (towB (eF r) r T) ((eF r).eB r).top+(if (eF r).eL=true then r.ls.getD (eF r).eD 0*T.getD (eF r).eD 0 else 0)=wS r.ls T r.top:=by
 have n:=J62 h ne;have w:=n.win h ne;have L:=Jq9 h ne;have okl:=h.next ne;have b:=J2u.losers_nd h (s:=eF r);have tp:=J6z h ne;have a:=fun j=>Jag (j:=j) h ne (T:=T) g;have e:=Jjt (T:=T) (T':=towB (eF r) r T) (t:=(eF r).times) h.row.nd w (h.row.lt _ w) b L.sub L.no L.ls okl.row.nd (fun j f=>a j f) (by
  by_cases c:(eF r).eO=true
  .rw[if_pos c] at tp;show .inr {by rw[tp],L.zero c}
  .rw[if_neg c] at tp;show .inl tp)
 rw[e];by_cases c:(eF r).eL=true
 .have d:(eF r).eO=true:=by
   generalize eF r=s at *;cases s <;> first|rfl|show absurd c yG
  have l0:J4 r.ls ((eF r).eE r)=0:=by
   generalize eF r=s at *;cases s <;> first|rfl|show absurd c yG
  rw[if_pos c,L.zero d,l0];lia
 .rw[if_neg c];have t:=L.tl (by simpa using c);rw[<- t,Int.sub_mul,wH (T.getD (eF r).eD 0) (eF r).times,uV,uV,wH (T.getD (eF r).eD 0) (J4 r.ls ((eF r).eE r))];lia
theorem Tow.next(h:r.Ok)(ne:r.top≠[])(t:Tow r T):Tow ((eF r).eB r) (towB (eF r) r T):=by
 have L:=Jq9 h ne;have w:=(J62 h ne).win h ne;have b:=t.pos _ w;have st:=h.stay ne t.len;show{?_,fun j a=>?_,?_}
 .rw[Jg6,t.len,L.ls,xH]
 .rw[Jag h ne t.len a];have:=t.pos j ((h.down ne).sub j a);have m:=uU b L.one (by decide) ();split <;> lia
 .have:=t.sum;have z:0<=r.ls.getD (eF r).eD 0*T.getD (eF r).eD 0:=vB (by have:=h.row.pos _ w;lia) ();by_cases c:(eF r).eL=true
  .rw[if_pos c] at st;lia
  .rw[if_neg c] at st;lia
def lg(x:Int):Nat:=Nat.log2 x.toNat
theorem lg_le(d:1<=x)(h:x<=y):lg x<=lg y:=by
 unfold lg;have c:x.toNat≠0:=()
 have b:y.toNat≠0:=()
 have a:=(Nat.le_log2 c (k:=x.toNat.log2)).mp (zD _);show(Nat.le_log2 b).mpr ()
theorem lg_dbl(i:1<=x)(g:1<=y)(h:lg x<=lg y)(f:x+y<=z):lg x+1<=lg z:=by
 unfold lg at *;have e:x.toNat≠0:=()
 have d:y.toNat≠0:=()
 have c:z.toNat≠0:=()
 have a:=(Nat.le_log2 e (k:=x.toNat.log2)).mp (zD _);have b:=(Nat.le_log2 d (k:=x.toNat.log2)).mp h;show(Nat.le_log2 c).mpr ?_;rw[Nat.pow_succ];lia
theorem Jqi(b:1<=x)(h:x<=10^30):lg x<=99:=by
 unfold lg;have a:x.toNat≠0:=()
 have:=(Nat.log2_lt a (k:=100)).mpr ();lia
def nS(f:Nat->Nat)(row:List Nat):Nat:=(row.map f).sum
theorem J7m(f:Nat->Nat)(j:Nat)(row:List Nat):nS f (j::row)=f j+nS f row:=by rfl
theorem Jlw(h:xs.Perm ys):nS f xs=nS f ys:=by
 unfold nS
 grind
theorem Jtz :∀{row:List Nat},(∀j∈row,f j<=g j)->nS f row<=nS g row
 | [],_=>zD _
 | j::row,h=>by
  rw[J7m,J7m];have:=h j zJ;have:=Jtz fun i hi=>h i (zK _ hi);lia
theorem nS_lt :∀{row:List Nat},(∀j∈row,f j<=g j)->∀{b:Nat},b∈row->f b<g b->nS f row<nS g row
 | j::row,h,b,hb,hlt=>by
  rw[J7m,J7m];have c:=h j zJ;have a:=Jtz fun i hi=>h i (zK _ hi);rcases zI.mp hb with rfl|hb
  .lia
  .have:=nS_lt (fun i hi=>h i (zK _ hi)) hb hlt;lia
theorem Jas(nd:row.Nodup)(b:a∈row):nS f (eG row a)+f a=nS f row:=by
 rw[<- Jlw (J3p nd b),J7m];lia
theorem Jrt :∀{row:List Nat},(∀j∈row,f j<=c)->nS f row<=row.length*c
 | [],_=>zO _
 | j::row,h=>by
  rw[J7m,xD,Nat.succ_mul];have:=h j zJ;have:=Jrt fun i hi=>h i (zK _ hi);lia
abbrev fE(T:List Int)(row:List Nat):Nat:=nS (fun j=>100-lg (T.getD j 0)) row
def need(ls:List Int):Int->List Nat->Nat
 | _,[]=>0
 | x,b::bs=>if x<=ls.getD b 0 then 1 else 1+need ls (x-ls.getD b 0) bs
theorem Jh9(ls:List Int):∀(x:Int) (bs:List Nat),need ls x bs<=bs.length
 | _,[]=>zD _
 | x,b::bs=>by
  unfold need;have:=Jh9 ls (x-ls.getD b 0) bs;rw[xD]
  grind
theorem Jha(ls:List Int)(ys:List Nat):∀(x:Int) (bs:List Nat),1<=x->x<=J4 ls bs->need ls x (bs++ys)=need ls x bs
 | x,[],h1,h2=>by rw[J26] at h2;lia
 | x,b::bs,h1,h2=>by
  rw[Jn] at h2;rw[uW];unfold need;by_cases c:x<=ls.getD b 0
  .rw[if_pos c,if_pos c]
  .rw[if_neg c,if_neg c,Jha ls ys (x-ls.getD b 0) bs () ()]
theorem Jar :∀(x:Int) {bs:List Nat},(∀j∈bs,ls.getD j 0=ls'.getD j 0)->need ls x bs=need ls' x bs
 | _,[],_=>rfl
 | x,b::bs,h=>by
  unfold need;rw[h b zJ,Jar (x-ls'.getD b 0) fun j a=>h j (zK _ a)]
def mu(r:Rst):Stp->Nat
 | .over a _=>if r.ts.getD a false=true then (J6 r.bot a).length else need r.ls (r.ls.getD a 0) (J6 r.bot a).reverse
 | .under a _=>if r.ts.getD a false=true then (J6 r.top a).length else need r.ls (r.ls.getD a 0) (J6 r.top a).reverse
 | .overs _ _=>25
 | .unders _ _=>25
 | _=>0
theorem Jjj(row:List Nat)(a:Nat):(J6 row a).length<=row.length:=by unfold J6;rw[wV];lia
theorem J70{ts:List Bool}(h:row.length<=24):(if ts.getD a false=true then (J6 row a).length else need ls (ls.getD a 0) (J6 row a).reverse)<=24:=by
 have c:=Jjj row a;have b:=Jh9 ls (ls.getD a 0) (J6 row a).reverse
 grind
theorem Rst.Ok.len24{r:Rst}(h:r.Ok):r.top.length<=24/\r.bot.length<=24:={zM h.row.len_le h.few,zM h.rowB.len_le h.few}
theorem mu_le(h:r.Ok)(s:Stp):mu r s<=25:=by
 let{d,c}:=h.len24
 cases s with
 | over a b=>show Nat.le_succ_of_le (J70 c)
 | under a b=>show Nat.le_succ_of_le (J70 d)
 | _=>first|show zD _|show zO _
theorem J7r(t:List Nat)(h:a ∉ s):J6 (s++a::t) a=t:=by
 unfold J6;rw[J9e t h,show s++a::t=(s++[a])++t by simp,show s.length+1=(s++[a]).length by simp,drop_left]
theorem Jji(nd:row.Nodup)(h:a∈row)(hb:row.getD (row.length-1) 0=b)(c:a≠b):
  ∃q,J6 row a=q++[b]/\J6 (putR row a b false) a=b::q/\J6 (putR row a b true) a=q/\a ∉ q:=by
 have f:row≠[]:=fun e=>by rw[e] at h;cases h
 have e:=Jai f;rw[hb] at e;generalize row.dropLast=d at e;subst e;have g:=(yF.mp h).resolve_right fun q=>c (zF.mp q);let{s,t,rfl}:=List.append_of_mem g;have l:=xL.mp nd;have j:=xL.mp l.1;have o:=yN.mp j.2.1;have as:=fun q=>j.2.2 a q a zJ rfl;have p:=fun q=>l.2.2 b q b (by simp) rfl;have at_:=o.1
 have i:eG (s++a::t++[b]) b=s++a::t:=by
  rw[J1q,J1x,yM];show J1p p
 have n:(s++a::t).take (s.length+1)=s++[a]:=by
  rw[show s++a::t=(s++[a])++t by simp,show s.length+1=(s++[a]).length by simp,List.take_left]
 have m:(s++a::t).drop (s.length+1)=t:=by
  rw[show s++a::t=(s++[a])++t by simp,show s.length+1=(s++[a]).length by simp,drop_left]
 show{t,?_,?_,?_,at_}
 .rw[show s++a::t++[b]=s++a::(t++[b]) by simp];show J7r _ as
 .unfold putR;rw[i,J9e t as,if_neg (by decide),n,m];rw[show s++[a]++[b]++t=s++a::(b::t) by simp];show J7r _ as
 .unfold putR;rw[i,J9e t as,if_pos rfl,List.take_left,drop_left];show J7r _ fun q=>?_;rcases yF.mp q with q|q
  .show as q
  .show c (zF.mp q)
theorem J4p(b:a∈row)(h:row.getD (row.length-1) 0≠a):row.getD (row.length-1) 0∈J6 row a:=by
 have c:=vW.mpr b;have g:=tP c;have d:row.length-1<row.length:=()
 have e:row.getD (row.length-1) 0=row[row.length-1]:=by simp_all
 rw[e] at h ⊢;have f:row.idxOf a≠row.length-1:=fun q=>h (by simp_all);unfold J6;show List.mem_iff_getElem.mpr {row.length-1-(row.idxOf a+1),by grind,?_};rw[List.getElem_drop]
 congr 1
 lia
theorem Jbz(ls:List Int)(row:List Nat):J4 ls row.reverse=J4 ls row:=J2s (List.reverse_perm row)
theorem Jly{ts ts':List Bool}(nd:row.Nodup)(u:a∈row)(hb:row.getD (row.length-1) 0=b)(d:a≠b)(f:a<ls.length)(s:1<=ls.getD b 0)(p:ls.getD b 0<ls.getD a 0)(r:ts.getD a false=true\/ls.getD a 0<=J4 ls (J6 row a))(n:ts'.getD a false=ts.getD a false):
  ((if ts'.getD a false=true then (J6 (putR row a b (ts.getD a false)) a).length else need (ls.set a (ls.getD a 0-ls.getD b 0)) ((ls.set a (ls.getD a 0-ls.getD b 0)).getD a 0) (J6 (putR row a b (ts.getD a false)) a).reverse) <
  (if ts.getD a false=true then (J6 row a).length else need ls (ls.getD a 0) (J6 row a).reverse))/\
  (ts'.getD a false=false->¬ J4 (ls.set a (ls.getD a 0-ls.getD b 0)) (J6 (putR row a b (ts.getD a false)) a)<(ls.set a (ls.getD a 0-ls.getD b 0)).getD a 0):=by
 let{q,g,m,l,h}:=Jji nd u hb d;have i:(ls.set a (ls.getD a 0-ls.getD b 0)).getD a 0=ls.getD a 0-ls.getD b 0:=by rw[Jw _ _ _ _ f,if_pos rfl]
 rw[n,i];by_cases c:ts.getD a false=true
 .rw[c,l,g];show{by simp,fun e=>nomatch e}
 .have c':ts.getD a false=false:=by simpa using c
  have v:=r.resolve_left c;rw[c',if_neg (by decide),if_neg (by decide),m,g];rw[g,Jh,Jn,J26] at v;constructor
  .rw[List.reverse_cons,List.reverse_append,List.reverse_cons,List.reverse_nil,nil_append,uW,nil_append];have y:need ls (ls.getD a 0) (b::q.reverse)=1+need ls (ls.getD a 0-ls.getD b 0) q.reverse:=by
    rw[need,if_neg ()]
   have w:need (ls.set a (ls.getD a 0-ls.getD b 0)) (ls.getD a 0-ls.getD b 0) (q.reverse++[b])=need ls (ls.getD a 0-ls.getD b 0) (q.reverse++[b]):=Jar _ fun j o=>by
    have:j≠a:=fun e=>by
     subst e;rcases yF.mp o with x|x
     .show h (List.mem_reverse.mp x)
     .show d (zF.mp x)
    rw[Jw _ _ _ _ f,if_neg this]
   rw[y,w,Jha _ _ _ _ () (by rw[Jbz];lia)];lia
  .rw[Ji _ _ (fun x=>by
    rcases zI.mp x with x|x
    .show d x
    .show h x),Jn]
   lia
theorem Jah{x:Int}(c:1<=S)(a:t=(x-1)/S):x-t*S<=S:=by
 subst a;have d:=xM (x-1) (show 0<S by lia);have b:=sO (x-1) S;rw[wH] at b;lia
theorem Joz(h:r.Ok)(ne:r.top≠[]):(eF r).eO=false->(eF ((eF r).eB r)).eO=false->
  ((eF ((eF r).eB r)).eD=(eF r).eD/\mu ((eF r).eB r) (eF ((eF r).eB r))<mu r (eF r))\/(eF r).eD∈(eF ((eF r).eB r)).eE ((eF r).eB r):=by
 have okl:=h.next ne;have tp:=J6z h ne;have mT:=h.mT ne;have mB:=h.mB ne;have q:=h.perm.mem_iff.mpr mT;have C:=h.perm.mem_iff.mpr mB;have nd:=h.row.nd;have n:=h.rowB.nd;have i:=h.row.lt
 revert okl tp
 show J2r h ne (p:=fun s=>(s.eB r).Ok->(if s.eO=true then (s.eB r).top=eG r.top s.eD else (s.eB r).top.Perm r.top)->s.eO=false->(eF (s.eB r)).eO=false->
  ((eF (s.eB r)).eD=s.eD/\mu (s.eB r) (eF (s.eB r))<mu r s)\/s.eD∈(eF (s.eB r)).eE (s.eB r))
  (fun _ _ _ e=>nomatch e) (fun _ _ _ _ e=>nomatch e) ?_ ?_ ?_ ?_
 .intro m v u okl tp _;have tp:=tp;have b:((Stp.over (eI r) (eJ r)).eB r).top≠[]:=fun e=>ne (by rw[e] at tp;show tp.symm.eq_nil);have w:(J2g r (eI r) (eJ r)).getD (eI r) false=r.ts.getD (eI r) false:=by
   unfold J2g;rw[J2l _ _ _ _ (by rw[h.len];show i _ mB),if_neg m]
  have o:=Jly (ts':=J2g r (eI r) (eJ r)) n q rfl m (i _ mT) (h.row.pos _ mB) v u w;show J2r okl b (p:=fun s'=>s'.eO=false->(s'.eD=eI r/\mu ((Stp.over (eI r) (eJ r)).eB r) s'<mu r (.over (eI r) (eJ r)))\/eI r∈s'.eE ((Stp.over (eI r) (eJ r)).eB r))
   (fun _ e=>nomatch e) (fun _ _ e=>nomatch e) ?_ ?_ ?_ ?_
  .intro c f d _;show .inl {rfl,o.1}
  .intro c f d _;show .inr (zF.mpr rfl)
  .intro t c f d l j g _ _ _;show absurd g (o.2 d)
  .intro t c f d l j g _ _ _;show .inr (J4p (okl.mB b) c)
 .intro m v u okl tp _;have tp:=tp;have b:((Stp.under (eJ r) (eI r)).eB r).top≠[]:=fun e=>ne (by rw[e] at tp;show tp.symm.eq_nil);have w:(J2g r (eJ r) (eI r)).getD (eJ r) false=r.ts.getD (eJ r) false:=by
   unfold J2g;rw[J2l _ _ _ _ (by rw[h.len];show i _ mT),if_neg (fun e=>m e.symm)]
  have o:=Jly (ts':=J2g r (eJ r) (eI r)) nd mB rfl (fun e=>m e.symm) (i _ mB) (h.row.pos _ mT) v u w;show J2r okl b (p:=fun s'=>s'.eO=false->(s'.eD=eJ r/\mu ((Stp.under (eJ r) (eI r)).eB r) s'<mu r (.under (eJ r) (eI r)))\/eJ r∈s'.eE ((Stp.under (eJ r) (eI r)).eB r))
   (fun _ e=>nomatch e) (fun _ _ e=>nomatch e) ?_ ?_ ?_ ?_
  .intro c f d _;show .inr (zF.mpr rfl)
  .intro c f d _;show .inl {rfl,o.1}
  .intro t c f d l j g _ _ _;show .inr (J4p (okl.perm.mem_iff.mpr (okl.mT b)) (fun e=>c e.symm))
  .intro t c f d l j g _ _ _;show absurd g (o.2 d)
 .intro t m v u G z F y E okl tp _;have tp:=tp;have b:((Stp.overs (eI r) t).eB r).top≠[]:=fun e=>ne (by rw[e] at tp;show tp.symm.eq_nil);have D:=Jah z y;have A:((Stp.overs (eI r) t).eB r).ls.getD (eI r) 0=r.ls.getD (eI r) 0-t*J4 r.ls (J6 r.bot (eI r)):=by
   change(r.ls.set (eI r) _).getD (eI r) 0=_;rw[Jw _ _ _ _ (i _ mT),if_pos rfl]
  have B:J4 ((Stp.overs (eI r) t).eB r).ls (J6 r.bot (eI r))=J4 r.ls (J6 r.bot (eI r)):=Ji _ _ (J1w n q);show J2r okl b (p:=fun s'=>s'.eO=false->(s'.eD=eI r/\mu ((Stp.overs (eI r) t).eB r) s'<mu r (.overs (eI r) t))\/eI r∈s'.eE ((Stp.overs (eI r) t).eB r))
   (fun _ e=>nomatch e) (fun _ _ e=>nomatch e) ?_ ?_ ?_ ?_
  .intro c f d _;show .inl {rfl,Nat.lt_succ_of_le ?_};show J70 (ls:=((Stp.overs (eI r) t).eB r).ls) (ts:=r.ts) (a:=eI r) h.len24.2
  .intro c f d _;show .inr (zF.mpr rfl)
  .intro t' c f d l j g _ _ _;have g:J4 ((Stp.overs (eI r) t).eB r).ls (J6 r.bot (eI r))<((Stp.overs (eI r) t).eB r).ls.getD (eI r) 0:=g;rw[ A] at g;lia
  .intro t' c f d l j g _ _ _;show .inr (J4p (okl.mB b) c)
 .intro t m v u G z F y E okl tp _;have tp:List.Perm ((Stp.unders (eJ r) t).eB r).top r.top:=tp;have b:((Stp.unders (eJ r) t).eB r).top≠[]:=fun e=>ne (by rw[e] at tp;show tp.symm.eq_nil);have D:=Jah z y;have A:((Stp.unders (eJ r) t).eB r).ls.getD (eJ r) 0=r.ls.getD (eJ r) 0-t*J4 r.ls (J6 r.top (eJ r)):=by
   change(r.ls.set (eJ r) _).getD (eJ r) 0=_;rw[Jw _ _ _ _ (i _ mB),if_pos rfl]
  have B:J4 ((Stp.unders (eJ r) t).eB r).ls (J6 r.top (eJ r))=J4 r.ls (J6 r.top (eJ r)):=Ji _ _ (J1w nd mB);show J2r okl b (p:=fun s'=>s'.eO=false->(s'.eD=eJ r/\mu ((Stp.unders (eJ r) t).eB r) s'<mu r (.unders (eJ r) t))\/eJ r∈s'.eE ((Stp.unders (eJ r) t).eB r))
   (fun _ e=>nomatch e) (fun _ _ e=>nomatch e) ?_ ?_ ?_ ?_
  .intro c f d _;show .inr (zF.mpr rfl)
  .intro c f d _;show .inl {rfl,Nat.lt_succ_of_le ?_};show J70 (ls:=((Stp.unders (eJ r) t).eB r).ls) (ts:=r.ts) (a:=eJ r) h.len24.1
  .intro t' c f d l j g _ _ _;show .inr (J4p (okl.perm.mem_iff.mpr (okl.mT b)) (fun e=>c e.symm))
  .intro t' c f d l j g _ _ _;have g:J4 ((Stp.unders (eJ r) t).eB r).ls (J6 r.top (eJ r))<((Stp.unders (eJ r) t).eB r).ls.getD (eJ r) 0:=g;lia
def Up(r:Rst)(T:List Int)(s:Stp):Prop:=s.eO=true\/∃b∈s.eE r,lg (T.getD b 0)<=lg (T.getD s.eD 0)
open Classical in
noncomputable def pot(r:Rst)(T:List Int):Nat:=
 if r.top=[] then 0 else (fE T r.top*102+(if Up r T (eF r) then 0 else lg (T.getD (eF r).eD 0)+1))*26+(if Up r T (eF r) then 0 else mu r (eF r))
theorem Tow.lg99(h:r.Ok)(t:Tow r T)(a:j∈r.top):lg (T.getD j 0)<=99:=Jqi (t.pos j a) (t.le h a)
theorem pot_le(h:r.Ok)(t:Tow r T):pot r T<=6367451:=by
 unfold pot;by_cases c:r.top=[]
 .simp_all
 rw[if_neg c];have e:fE T r.top<=r.top.length*100:=Jrt fun j _=>()
 have d:=h.len24.1;have b:=t.lg99 h ((J62 h c).win h c);have a:=mu_le h (eF r);split <;> lia
theorem up_lt{r:Rst}{T:List Int}(h:r.Ok)(ne:r.top≠[])(t:Tow r T):fE (towB (eF r) r T) ((eF r).eB r).top<=fE T r.top/\(Up r T (eF r)->fE (towB (eF r) r T) ((eF r).eB r).top<fE T r.top):=by
 have L:=Jq9 h ne;have w:=(J62 h ne).win h ne;have l:=t.pos _ w;have tp:=J6z h ne;have okl:=h.next ne;have tl:=t.next h ne;have sub:=(h.down ne).sub;have one:T.getD (eF r).eD 0<=T.getD (eF r).eD 0*(eF r).times:=by
  have:T.getD (eF r).eD 0*1<=T.getD (eF r).eD 0*(eF r).times:=sN L.one ();lia
 have le:∀j∈((eF r).eB r).top,T.getD j 0<=(towB (eF r) r T).getD j 0:=fun j a=>by
  rw[Jag h ne t.len a];split <;> lia
 have mono:∀j∈((eF r).eB r).top,100-lg ((towB (eF r) r T).getD j 0)<=100-lg (T.getD j 0):=fun j a=>by
  have:=lg_le (t.pos j (sub j a)) (le j a);lia
 have m:=Jtz (f:=fun j=>100-lg ((towB (eF r) r T).getD j 0)) (g:=fun j=>100-lg (T.getD j 0)) mono;by_cases c:(eF r).eO=true
 .rw[if_pos c] at tp;have e:=Jas (f:=fun j=>100-lg (T.getD j 0)) h.row.nd w;have g:=t.lg99 h w;rw[<- tp] at e;have:fE (towB (eF r) r T) ((eF r).eB r).top<fE T r.top:=by
   change nS _ _<nS _ _;rw[<- e];lia
  show{yJ this,fun _=>this}
 .rw[if_neg c] at tp;have e:fE T ((eF r).eB r).top=fE T r.top:=Jlw tp;show{by rw[<- e];show m,fun u=>?_};rcases u with u|⟨b,hb,hg⟩
  .show absurd u c
  rw[<- e];have i:=L.sub b hb;show nS_lt mono i ?_;have n:=Jag h ne t.len i;rw[if_pos hb] at n;have d:=lg_dbl (z:=(towB (eF r) r T).getD b 0) (t.pos b (sub b i)) l hg ();have g:=tl.lg99 okl i;lia
theorem pot_lt(h:r.Ok)(ne:r.top≠[])(t:Tow r T):pot ((eF r).eB r) (towB (eF r) r T)<pot r T:=by
 let{y,p}:=up_lt h ne t;have okl:=h.next ne;have tl:=t.next h ne;have L:=Jq9 h ne;have w:=(J62 h ne).win h ne;unfold pot;rw[if_neg ne];have b:1<=fE T r.top:=by
  have e:=Jas (f:=fun j=>100-lg (T.getD j 0)) h.row.nd w;have g:=t.lg99 h w;change 1<=nS _ _;rw[<- e];lia
 by_cases c:((eF r).eB r).top=[]
 .rw[if_pos c];lia
 rw[if_neg c];have n:=(J62 okl c).win okl c;have g':=tl.lg99 okl n;have v:=mu_le okl (eF ((eF r).eB r));by_cases u:Up r T (eF r)
 .rw[ if_pos u];have:=p u;split <;> lia
 rw[if_neg u,if_neg u];by_cases a:Up ((eF r).eB r) (towB (eF r) r T) (eF ((eF r).eB r))
 .rw[if_pos a,if_pos a];lia
 rw[if_neg a,if_neg a];have i:(eF r).eO=false:=by
  cases q:(eF r).eO
  .rfl
  .show absurd (.inl q) u
 have s:(eF ((eF r).eB r)).eO=false:=by
  cases q:(eF ((eF r).eB r)).eO
  .rfl
  .show absurd (.inl q) a
 have tp:=J6z h ne;rw[if_neg (by rw[i];decide)] at tp;have l:=tp.mem_iff.mpr w;have d:(towB (eF r) r T).getD (eF r).eD 0=T.getD (eF r).eD 0:=by
  rw[Jag h ne t.len l,if_neg L.no];lia
 rcases Joz h ne i s with⟨e,m⟩|q
 .rw[e,d];lia
 .have o:¬ lg ((towB (eF r) r T).getD (eF r).eD 0)<=lg ((towB (eF r) r T).getD (eF ((eF r).eB r)).eD 0):=fun x=>a (.inr {_,q,x});rw[d] at o;lia
abbrev Cst:=Rst×List Int
def chS(p:Cst):Cst:=((eF p.1).eB p.1,towB (eF p.1) p.1 p.2)
def chN(p:Cst):Nat->Cst
 | 0=>p
 | k+1=>chS (chN p k)
abbrev Band:=Int×Int×Int×Bool
def bndB(p:Cst):List Band:=if (eF p.1).eL=true then [((chS p).1.size,p.1.ls.getD (eF p.1).eD 0,p.2.getD (eF p.1).eD 0,p.1.ts.getD (eF p.1).eD false)] else []
def bndN(p:Cst):Nat->List Band
 | 0=>[]
 | k+1=>bndN p k++bndB (chN p k)
theorem Ji1(p:Cst):(bndB p).length<=1:=by unfold bndB;split <;> simp
theorem J8r(p:Cst):∀k,(bndN p k).length<=k
 | 0=>zD _
 | k+1=>by
  have b:=J8r p k;have a:=Ji1 (chN p k);change(bndN p k++bndB (chN p k)).length<=k+1
  grind
def Long(p:Cst)(k:Nat):Prop:=∀i<k,(chN p i).1.top≠[]
structure Cok(p:Cst):Prop where
 ok:p.1.Ok
 tow:Tow p.1 p.2
theorem Cok.next(h:Cok p)(ne:p.1.top≠[]):Cok (chS p):={h.ok.next ne,h.tow.next h.ok ne}
theorem Cok.at_(h:Cok p):∀{k:Nat},Long p k->Cok (chN p k)
 | 0,_=>h
 | k+1,l=>(h.at_ fun i hi=>l i ()).next (l k ())
theorem Cok.short(h:Cok p):∀{k:Nat},Long p k->k+pot (chN p k).1 (chN p k).2<=pot p.1 p.2
 | 0,_=>by rw[Nat.zero_add];show zD _
 | k+1,l=>by
  have b:=h.short (k:=k) fun i hi=>l i ();have c:=h.at_ (k:=k) fun i hi=>l i ();have a:pot (chS (chN p k)).1 (chS (chN p k)).2<_:=pot_lt c.ok (l k ()) c.tow;change k+1+pot (chS (chN p k)).1 (chS (chN p k)).2<=_;lia
theorem Cok.few(h:Cok p)(l:Long p k):k<=6367451:=by
 have b:=h.short l;have a:=pot_le h.ok h.tow;lia
theorem Jmv :∀{row:List Nat} {n:Nat},(∀j∈row,j<n)->wS ls (replicate n 1) row=J4 ls row
 | row,n,h=>J8o fun j a=>by
  simp_all
theorem Jck(h:r.Ok)(a:r.size<=10^30):Cok (r,replicate r.ls.length 1):={h,by
 show{wE,fun j b=>?_,?_}
 .rw[zH,tG,if_pos (h.row.lt j b)];show yA _
 .rw[Jmv h.row.lt];show a}
theorem Cok.size30(h:Cok p):p.1.size<=10^30:=by
 have f:p.1.size<=wS p.1.ls p.2 p.1.top:=by
  change J4 _ _<=_;have:∀row ,(∀j∈row,j∈p.1.top)->J4 p.1.ls row<=wS p.1.ls p.2 row:=fun row=>by
   induction row with
   | nil=>intro _;show yA _
   | cons a row ih =>
    intro c;have d:=c a zJ;have f:=h.ok.row.pos a d;have e:=h.tow.pos a d;have i:p.1.ls.getD a 0*1<=p.1.ls.getD a 0*p.2.getD a 0:=sN e ();have g:=ih fun j b=>c j (zK _ b);rw[Jn];unfold wS at *;rw[J3l];lia
  show this _ fun j b=>b
 have:=h.tow.sum;lia
end Rl
namespace L2
open PySem PySem.Spec PySem.Calls PyProof.Rows PySem.W
section
variable{X:Cx}{pins:List (Addr×Obj)}{σ:St}{H:Hp}{A:Around}{E:Value->Shared->Prop}{s:Shared}{a kS:Addr}{vs:List Value}{kz:List Int}{keys:Array Value}{e e1:Nat}{P:PySem.Fin->Shared->Prop}
theorem Jc6(I:Inv X pins σ H s){b:Addr}{h':Heap}{t':Nat}(f:FpOk X pins H b)(k:Heap.SameBut b s.heap h'):Inv X pins σ H { s with heap:=h',toks:=t' }:=
 I.turned (h':=h') (t':=t') (it:=b) (fun c o a e=>(k.2 c a).trans e) f.1 f.2.1 f.2.2.2.1 f.2.2.2.2.1 f.2.2.2.2.2
theorem Jcw{st:SortSt}(I:Inv X pins σ H s)(D:FpOk X pins H kS)(F:FpOk X pins H a)(v:s.heap.get? kS=some (seqObj "list" keys e))(y:s.heap.get? a=some (seqObj "list" #[] e1))(i:kS≠a)(r:IntsAre keys.toList kz)(q:kz.length=vs.length)(B:vs.length<64)(p:(arrOf st).Perm (keys.zip vs.toArray))(z:SortedTo (arrOf st) (arrOf st).size)(j:failedOf st=none)(h:∀h' n out c,Inv X pins σ H { s with heap:=h',toks:=n }->h'.get? a=some (seqObj "list" out c)->KskOut false kz vs out.toList->P (.done (.ret .none)) { s with heap:=h',toks:=n }):
  wpAny (model X.prog X.w) A (ksk_tail a false e1 (.ref kS) st) P E s:=by
 have hsz:keys.size=vs.length:=by
  have C:=r.length;rw[yL] at C;omega
 have f:(arrOf st).size=vs.length:=by rw[p.size_eq,Array.size_zip,hsz,zS,Nat.min_self]
 have g:(if false=true then ((arrOf st).map (·.2)).reverse else (arrOf st).map (·.2)).size=vs.length:=by
  simp only[uM,if_false,Array.size_map];show f
 have o:=xI s.heap kS (Obj.mapSeq fun _=>(#[]:Array Value));have d:(s.heap.update kS (Obj.mapSeq fun _=>(#[]:Array Value))).get? a=some (seqObj "list" #[] e1):=(o.2 a i.symm).trans y;have u:=xI (s.heap.update kS (Obj.mapSeq fun _=>(#[]:Array Value))) a (Obj.mapSeq fun _=>if false=true then ((arrOf st).map (·.2)).reverse else (arrOf st).map (·.2));obtain⟨m,l⟩:∃m,((s.heap.update kS (Obj.mapSeq fun _=>(#[]:Array Value))).update a (Obj.mapSeq fun _=>if false=true then ((arrOf st).map (·.2)).reverse else (arrOf st).map (·.2))).get? a=some (seqObj "list" (if false=true then ((arrOf st).map (·.2)).reverse else (arrOf st).map (·.2)) m) :=
  {_,uN d fun _=>if false=true then ((arrOf st).map (·.2)).reverse else (arrOf st).map (·.2)}
 unfold ksk_tail
 try dsimp only
 show zA (vU v rfl ?_ (by rw[hsz,wC];omega) (zO _));show zA (wpAny_letGo ?_);show zA (seqEpoch_at d rfl ?_);show zA (vU d rfl ?_ (zO _) (zM (Nat.le_of_eq g) (by rw[wC];omega)));rw[j];simp only[bne_self_eq_false,uM,if_false];have G:Inv X pins σ H { s with heap:=s.heap.update kS (Obj.mapSeq fun _=>(#[]:Array Value)) }:=Jc6 (t':=s.toks) I D o;show zC (h _ _ _ m (Jc6 (t':=_) G F u) l (ksk_out (b:=false) r p z))
theorem Jo7(I:Inv X pins σ H s)(v:FpOk X pins H kS)(y:FpOk X pins H a)(q:s.heap.get? kS=some (seqObj "list" keys e))(r:s.heap.get? a=some (seqObj "list" #[] e1))(m:kS≠a)(n:IntsAre keys.toList kz)(d:kz.length=vs.length)(g:vs.length<64)(h:∀h' p out c,Inv X pins σ H { s with heap:=h',toks:=p }->h'.get? a=some (seqObj "list" out c)->KskOut false kz vs out.toList->P (.done (.ret .none)) { s with heap:=h',toks:=p }):
  wpAny (model X.prog X.w) A (ksk_end a false vs.toArray e1 (.ref kS) keys) P E s:=by
 have hsz:keys.size=vs.length:=by
  have F:=n.length;rw[yL] at F;omega
 have f:(keys.zip vs.toArray).size=vs.length:=by rw[Array.size_zip,hsz,zS,Nat.min_self]
 unfold ksk_end
 try dsimp only
 simp only[uM,if_false];by_cases l:vs.toArray.size<2
 .rw[if_pos l,if_pos l];show zA (zC ?_);rw[StateT.run_pure];show zA (zC ?_)
  try dsimp only
  show Jcw (st:=SortSt.mk' general' (keys.zip vs.toArray) #[] 7 none) I v y q r m n d g (Array.Perm.refl _) ?_ rfl h;intro i j C B;have o:=B;rw[f] at o;rw[zS] at l;have:i=j:=by omega
  subst this;show yA _
 .rw[if_neg l,if_neg l];rw[zS] at l;rw[ksk_kind n (by rw[hsz];omega)];show zA (zC ?_);show zA (yK (wpS_sortRuns (a₀:=keys.zip vs.toArray) (st:=SortSt.mk' oneType' (keys.zip vs.toArray) #[] 7 none)
   (Q:=fun _ b=>(arrOf b).Perm (keys.zip vs.toArray)/\failedOf b=none/\SortedTo (arrOf b) (keys.zip vs.toArray).size)
   (ksk_intKeys n) {Array.Perm.refl _,rfl,rfl,rfl} (by rw[f];omega) (by rw[f];show g) fun b K J G=>{K,J,G}) ?_ fun _ _ e=>e)
  rintro⟨⟨⟩,b⟩ s' ⟨rfl,u,D,z⟩;show Jcw I v y q r m n d g u (by rw[u.size_eq];show z) D h
def Jg2(X:Cx)(pins:List (Addr×Obj))(σ:St)(H:Hp)(A:Around)(f v:Value)(k:Int):Prop:=∀s',Inv X pins σ H s'->
 wpAny (model X.prog X.w) A (call f [v]) (fun r a=>∃t,r=.int k t/\Inv X pins σ H a/\∀b o,FpOk X pins H b->s'.heap.get? b=some o->a.heap.get? b=some o) (fun _ _=>False) s'
theorem Jk8(I:Inv X pins σ H s)(C:FpOk X pins H kS)(K:FpOk X pins H a)(M:s.heap.get? kS=some (seqObj "list" #[] 0))(N:s.heap.get? a=some (seqObj "list" #[] e1))(r:kS≠a)(p:kz.length=vs.length)(B:vs.length<64)(turn:∀(i:Nat) (v:Value) (k:Int),vs[i]?=some v->kz[i]?=some k->Jg2 X pins σ H A f v k)(h:∀s' out c,Inv X pins σ H s'->s'.heap.get? a=some (seqObj "list" out c)->KskOut false kz vs out.toList->P (.done (.ret .none)) s'):
  wpAny (model X.prog X.w) A (ksk_rest a f false vs.toArray e1 (.ref kS)) P E s:=by
 unfold ksk_rest;show zA (wpAny_rule ?_)
 first
  | rw[List.forIn_toArray]
  | (rw[<- Array.forIn_toList];simp only[List.toList_toArray])
  | rw[<- Array.forIn_toList]
 show zA (ksk_fold (fun i s'=>∃d e,Inv X pins σ H s'/\s'.heap.get? kS=some (seqObj "list" d e)/\s'.heap.get? a=some (seqObj "list" #[] e1)/\IntsAre d.toList (kz.take i)) vs 0 s
  {#[],0,I,M,N,by simpa using IntsAre.nil} ?step ?done)
 case step =>
  rintro j x s' J ⟨d,e,F,b,m,n⟩;simp only[Nat.zero_add] at n ⊢;have hj:=(gSm J);obtain⟨k,q⟩:∃k,kz[j]?=some k:={_,gEq (by omega)};have hz:d.size<=vs.length:=by
   have T:=n.length;rw[yL,xQ] at T;omega
  show zA (vV (yK (turn j x k J q s' F) (fun v l R=>?_) fun _ _ S=>S.elim));let{g,rfl,I2,keep}:=R
  try dsimp only
  have o:=keep _ _ C b;have u:=keep _ _ K m;have G:=xI l.heap kS (Obj.mapSeq (·.push (.int k g)));obtain⟨D,z⟩:∃D,(l.heap.update kS (Obj.mapSeq (·.push (.int k g)))).get? kS=some (seqObj "list" (d.push (.int k g)) D):={_,uN o (·.push (.int k g))};have U:kz.take (j+1)=kz.take j++[k]:=by rw[List.take_add_one,q];simp
  have W:(d.push (Value.int k g)).toList=d.toList++[Value.int k g]:=by simp
  show zA (vU o rfl ?_ (by rw[wC];omega) (zM (Nat.le_of_eq (Array.size_push ..)) (by rw[wC];omega)));show zC {rfl,d.push (.int k g),D,Jc6 (t':=l.toks) I2 C G,z,(G.2 a r.symm).trans u,by rw[W,U];show ksk_snoc n}
 case done =>
  rintro s' ⟨d,e,F,b,m,n⟩;have y:=by
   have Y:kz.take (0+vs.length)=kz:=tH (by omega);rw[Y] at n;show n
  show zA (listItems_at b rfl ?_);show Jo7 F C K b m r y p B fun h3 L out c Z O Q=>h _ out c Z O Q
theorem Jk7(I:Inv X pins σ H s)(p:FpOk X pins H a)(l:s.heap.get? a=some (seqObj "list" vs.toArray n))(g:kz.length=vs.length)(m:vs.length<64)(turn:∀(i:Nat) (v:Value) (k:Int),vs[i]?=some v->kz[i]?=some k->Jg2 X pins σ H A f v k)(h:∀s' out c,Inv X pins σ H s'->s'.heap.get? a=some (seqObj "list" out c)->KskOut false kz vs out.toList->P (.done (.ret .none)) s'):
  wpAny (model X.prog X.w) A (ksk_tree a f false) P E s:=by
 have u :=zG l;have r:=xI s.heap a (Obj.mapSeq fun _=>(#[]:Array Value));obtain⟨q,d⟩:∃q,(s.heap.update a (Obj.mapSeq fun _=>(#[]:Array Value))).get? a=some (seqObj "list" #[] q):={_,uN l fun _=>#[]};have j:((s.heap.update a (Obj.mapSeq fun _=>(#[]:Array Value))).push (seqObj "tuple" vs.toArray 0)).objs.size=s.heap.objs.size+1:=by rw[size_push',Heap.size_update]
 unfold ksk_tree;show zA (listItems_at l rfl ?_);show zA (vU l rfl ?_ (by rw[zS,wC];omega) (zO _));show zA (seqEpoch_at d rfl ?_);show zA (wpAny_newTuple ?_ (by change vs.length<=_;rw[wC];omega));show zA (vT ?_ (zO _));show xP ?_;have B :=Jc6 (t':=s.toks) I p r;have z:Inv X pins σ H { s with heap:=((s.heap.update a (Obj.mapSeq fun _=>(#[]:Array Value))).push (seqObj "tuple" vs.toArray 0)).push (seqObj "list" #[] 0) }:=B.kept (t':=s.toks) fun b o e=>zE _ (zE _ e);have y:FpOk X pins H ((s.heap.update a (Obj.mapSeq fun _=>(#[]:Array Value))).push (seqObj "tuple" vs.toArray 0)).objs.size:=by
  rw[j];show I.fpOk (wI _) (I.hok.fresh (wI _))
 show Jk8 (s:={ s with heap:=((s.heap.update a (Obj.mapSeq fun _=>(#[]:Array Value))).push (seqObj "tuple" vs.toArray 0)).push (seqObj "list" #[] 0) }) z y p (zT _ rfl)
  (zE _ (zE _ d)) (by rw[j];show wA (uQ u)) g m turn h
end
def Jqu(X:Cx)(A:Around)(N:List Str)(qual:Str)(a:Scope)(f:Addr)(b:Value)(cl:List (Str×Addr))(s:Shared)(H:Hp):Cx where
 prog:=X.prog
 w:=X.w
 K:=X.K
 mg:=X.mg
 base:=X.base
 A:=A.deeper (envX qual a s.heap.objs.size f b cl)
 N:=N
 s₀:=s
 H₀:=H
 env:=envX qual a s.heap.objs.size f b cl
 outer:=X.stack
 stack:=envX qual a s.heap.objs.size f b cl::X.stack
 ex:=[]
 calm:=true
 fn:=fun _=>false
 pn:=[]
 xe:=fun _ _=>False
structure Juh(X:Cx)(scope:Scope)(cl:List (Str×Addr))(x:Str)(caps:List Str)(js:List Nat):Prop where
 co:scope.isCoroutine=false
 gen:scope.isGenerator=false
 kind:scope.kind=.function
 cell:∀p∈scope.names,p.2≠.cell
 loc:scope.names.lookup x=some .local
 sub:∀p∈cl,X.env.cells.lookup p.1=some p.2
 has:∀p∈scope.names,p.2=.free->∃c,cl.lookup p.1=some c
 len:caps.length=js.length
 caps:∀(k:Nat) (c:Str),caps[k]?=some c->∃(j:Nat) (a:Addr),js[k]?=some j/\X.N[j]?=some c/\X.env.scope.names.lookup c=some .cell/\cl.lookup c=some a/\scope.names.lookup c=some .free
section
variable{X:Cx}{pins:List (Addr×Obj)}{σ:St}{H:Hp}{A:Around}{s:Shared}{name qual:Str}{params:Arguments}{body:Expr}{scope:Scope}{cl:List (Str×Addr)}{pm ctv:Value}{c' f:Addr}{x:Str}{caps:List Str}{js:List Nat}{te:TE}
theorem Ju3(I:Inv X pins σ H s)(L:Juh X scope cl x caps js)(Y:A.frames=some X.stack)(hd:A.handled=none)(r:RelV v u)(E:h₁.Ns s.heap.objs.size (fun y=>([(x,u)]:List (Str×Value)).reverse.lookup y))(C:Heap.SameBut s.heap.objs.size (s.heap.push { cls:=.type "frame",data:=.dict #[] }) h₁):
  Inv (Jqu X A (x::caps) qual scope f (.ref c') cl s H) [] (some v::capv σ js) H { s with heap:=h₁,toks:=s.toks+1 }:=by
 have keep:=fun b o e=>C.extBut b o (zQ (zG e)) (zE _ e);have n:=I.env0;have d:∀b ,b ∉ (Jqu X A (x::caps) qual scope f (.ref c') cl s H).ex:=fun b z=>absurd (show b∈([]:List Addr) from z) (by simp);show{{n.mod,L.kind,rfl,rfl,zD _,fun a b c h1 Z=>?_,fun a h=>?_,(fun _ _ h=>nomatch h),fun _=>hd,Around.frames_deeper Y,.inr {rfl,rfl},fun b z=>absurd z (d b),n.bs,n.bsz,fun b _ _=>d b,fun b z=>absurd z (d b),n.funs,n.frf},
  rfl,I.bare,Un.kept keep,{_,E,fun k q w i B e3=>?_},fun q c e=>?_,I.hok.fresh (zD _),fun q c e=>?_,fun p U=>absurd (show p∈([]:List (Addr×Obj)) from U) (by simp),I.hok.kept keep,?_}
 .show I.ok.inj a b c (L.sub _ (yO h1)) (L.sub _ (yO Z))
 .have h:=h;rcases h with h|h
  .show absurd rfl (L.cell _ (yO h))
  .show L.has _ (yO h) rfl
 .cases k with
  | zero =>
   have i:some x=some q:=i;cases i;have B:=B;cases B;show{u,r,.inl {L.loc,?_}};change(([(x,u)]:List (Str×Value)).reverse.lookup x)=some u;simp
  | succ k =>
   have i:(x::caps)[k+1]?=some q:=i;have G:=by simpa using i
   have F:=by simpa using B
   let{j,a,S,R,M,K,Q}:=L.caps k q G;let{j',J,P}:=Jhz F;rw[S] at J;cases J;let{m,hm,W}:=I.loc;let{N,O,T}:=W j q w R P (.inr (.inl M));show{N,O,.inr {.inr Q,a,K,?_}};rcases T with⟨k1,_⟩|⟨_,c,ec,o,D,g⟩
   .have l:X.env.scope.names.lookup q=some .local:=k1;rw[M] at l;cases l
   .have:=L.sub _ (yO K);rw[ec] at this;cases this;show{o,keep _ _ D,g}
 .let{w,o,D,g}:=I.cell q c (L.sub _ (yO e));show{w,o,keep _ _ D,g}
 .show I.freeC q c (L.sub _ (yO e))
 .change(some v::capv σ js).length=(x::caps).length;unfold capv;simp[L.len]
theorem Jqk{v:V}{u:Value}{k:Int}(I:Inv X pins σ H s)(L:Juh X scope cl x caps js)(F:A.frames=some X.stack)(hd:A.handled=none)(a:A.depth<recursionLimit)(r:RelV v u)(D:s.heap.get? f=some (kla_obj name qual params body scope cl pm c' ctv))(n:s.heap.CodeRec (.ref c') qual)(c:bindArgs (kla_fn name qual params body scope cl pm (.ref c') ctv) {[u],[]}=pure [(x,u)])(E:PE (Jqu X A (x::caps) qual scope f (.ref c') cl s H) body te)(q:te (some v::capv σ js) H fun y i=>y=.int k/\i=H):
  wpAny (model X.prog X.w) A (call (.ref f) [u]) (fun r g=>∃t,r=.int k t/\Inv X pins σ H g/\∀b o,FpOk X pins H b->s.heap.get? b=some o->g.heap.get? b=some o) (fun _ _=>False) s:=by
 have j:s.heap.NoLimit:=I.env0.mod.nolimit.keeps fun b o e=>(I.env0.bs b o e).1;show wpAny_call (kla_callFunE a D rfl L.co L.gen rfl n ?_);rw[c];show zC (wpAny_newFunctionEnv L.cell (fun y l=>by
  have l:y=(x,u):=by simpa using l
  rw[l];show L.loc) (fun P m h=>{j.fresh _ h,?_}) L.kind)
 show kla_codeExpr ?_;have J:=Ju3 (qual:=qual) (f:=f) (c':=c') I L F hd r m h;show yK (E [] _ _ H _ J q) (fun z s' h'=>?_) fun _ _ h'=>h'.elim;let{y,i,d,B,G,K}:=h';rw[K] at d;rw[G] at B;let{t,rfl}:=B;let{N,S,C,O,R,M}:=I.after (Q:=fun y i=>y=.int k/\i=H) (u:=.int k t) (s':=s') {.int k,H,d.os,d.bare,d.base,d.hok,{t,rfl},rfl,rfl};rw[M] at C;show{t,rfl,C,fun b o p e=>d.base.keep b o e p.1 (fun z=>?_) (fun z=>absurd (show b∈([]:List Addr) from z) (by simp))};rcases zI.mp (I.stkSub b z) with z|z
 .show p.2.1 z
 .show p.2.2.1 z
end
structure J2a(H:Hp)(P:Addr)(pos:Pos)(qual:Str):Prop where
 ex:∃ps,H P=some (.tbl ps)/\TriplesOk ps.toList/\∀cv,codeAmong pos ps.toList=some cv->∃c' oc vs t,cv=.ref c'/\H c'=some (.frz oc (.own c'))/\oc.data=.fields vs/\vs[1]?=some (.str qual t)
def isTbl:HO->Bool
 | .tbl _=>true
 | _=>false
def J3i(H a:Hp):Prop:=∀b u,H b=some u->isTbl u=false->a b=some u
structure Jcj(base:Heap)(mg:Str->Option Value)(P:Addr):Prop where
 ex:∃bm o,mg "__builtins__"=some (.ref bm)/\bm≠builtinsNs/\bm≠mainGlobals/\bm≠P/\base.get? bm=some o/\o.cls=.type "module"/\o.dict=some builtinsNs/\o.data=.plain
section
variable{X:Cx}{pins:List (Addr×Obj)}{σ:St}{H:Hp}{A:Around}{s:Shared}{params:Arguments}{body:Expr}{scope:Scope}{cl:List (Str×Addr)}{c P:Addr}{pos:Pos}
theorem Jql(I:Inv X pins σ H s)(U:defaultsOf params X.env=([],[]))(W:closureFor scope X.env=pure cl)(p:X.env.code=.ref c)(C:codeHdIn X.K c P=true)(B:Jcj X.base X.mg P)(T:J2a H P pos (X.env.qual ++ "<lambda>"))(h:∀f c' a g s',Inv X pins σ g s'->s'.heap.get? f=some (kla_obj "<lambda>" (X.env.qual ++ "<lambda>") params body scope cl ((X.mg "__name__").getD .none) c' a)->FpOk X pins g f->(∃D vs t,g c'=some (.frz D (.own c'))/\D.data=.fields vs/\vs[1]?=some (.str (X.env.qual ++ "<lambda>") t))->
   J3i H g->J2a g P pos (X.env.qual ++ "<lambda>")->(∀Q l i,Q≠P->J2a H Q l i->J2a g Q l i)->(∀b,b<s.heap.objs.size->H b=none->g b=none)->Q (.ref f) s'):
  wpAny (model X.prog X.w) A (eval (.Lambda params body scope pos) X.env) Q E s:=by
 let{ps,j,ht,hc}:=T.ex;let{bm,ob,b1,b2,b3,b4,b5,b6,b7,b8}:=B.ex;have KX:=I.env0.mod.kin.keeps fun b o e=>(I.env0.bs b o e).1;have G:s.heap.Ns mainGlobals X.mg:=by let{o,es,ep,e,r}:=I.env0.mod.glob;show{o,es,ep,(I.env0.bs _ _ e).1,r}
 have y:=I.hok P _ j;have Y:s.heap.BuiltinsAt X.mg P:={bm,ob,b1,b2,b3,b4,(I.env0.bs _ _ b5).1,b6,b7,b8};have ab:mainGlobals≠P:=fun q=>by
  let{o,es,ep,e,hd,_}:=G;rw[q,y] at e;cases e;cases hd
 have CH:=codeHd_of_K KX C;show kla_eval U ?_
 cases ca:codeAmong pos ps.toList with
 | none =>
  show kla_makeFunction (mg:=X.mg) W I.ok.glob G p CH y ht ca ab Y fun c' a h' tk hx m S N M=>?_;let{c2,D,vs,t,e2,R,hd,hv}:=N;obtain rfl:c'=c2:=by cases e2;rfl
  have hn:=I.hok.fresh m;have ae:=zQ (yB (zG y) m);obtain⟨g,eH⟩:∃g,g=upd (upd H c' (.frz D (.own c'))) P (.tbl (ps ++ #[rawInt pos.line,rawInt pos.col,.ref c'])):={_,rfl};have L:g P=some (.tbl (ps ++ #[rawInt pos.line,rawInt pos.col,.ref c'])):=by rw[eH,J2]
  have J:g c'=some (.frz D (.own c')):=by rw[eH,Jf ae.symm,J2]
  have oth:∀b,b≠P->b≠c'->g b=H b:=fun b n1 n2=>by rw[eH,Jf n1,Jf n2]
  have aa:∀b o,s.heap.get? b=some o->b≠c':=fun b o e=>zQ (yB (zG e) m);have F:∀b u,H b=some u->b≠c':=fun b u e=>Ja e hn;have kp:∀b o,b≠P->s.heap.get? b=some o->(h'.push (kla_obj "<lambda>" (X.env.qual ++ "<lambda>") params body scope cl ((X.mg "__name__").getD .none) c' a)).get? b=some o:=fun b o n e=>zE _ (hx b o n e);have O:HOk X.prog X.w g (h'.push (kla_obj "<lambda>" (X.env.qual ++ "<lambda>") params body scope cl ((X.mg "__name__").getD .none) c' a)):=fun b u e=>by
   by_cases e1:b=P
   .subst e1;rw[L] at e;cases e;show zE _ M
   .by_cases e2:b=c'
    .subst e2;rw[J] at e;cases e;show{zE _ R,_,zE _ R}
    .rw[oth b e1 e2] at e;show(I.hok b u e).stay (fun d v hd q=>kp d v ?_ q) (fun d q=>?_) fun d xs q=>?_
     .rcases hd with rfl|hd
      .show e1
      .intro z;rw[z,j] at hd;cases hd
     .rw[oth d (fun z=>by rw[z,j] at q;cases q) (F _ _ q)];show q
     .rw[oth d (fun z=>by rw[z,j] at q;cases q) (F _ _ q)];show q
  have un:Un X.fs [] H g s.heap (h'.push (kla_obj "<lambda>" (X.env.qual ++ "<lambda>") params body scope cl ((X.mg "__name__").getD .none) c' a)):=by
   show{fun b o e n _ _=>kp b o (fun z=>by rw[z,j] at n;cases n) e,fun b o e n _ _=>{o.slots,kp b o (fun z=>by rw[z,j] at n;cases n) e},fun b o e n _=>?_,fun b o e _=>?_,fun b xs e=>?_,fun b o u e=>?_,fun b qs e=>?_}
   .rw[oth b (fun z=>by rw[z,j] at n;cases n) (aa b o e)];show n
   .by_cases z:b=P
    .rw[z];show{_,zE _ M}
    .show{o,kp b o z e}
   .rw[oth b (fun z=>by rw[z,j] at e;cases e) (F _ _ e)];show e
   .rw[oth b (fun z=>by rw[z,j] at e;cases e) (F _ _ e)];show e
   .by_cases z:b=P
    .rw[z,j] at e;cases e;show{_,by rw[z];show L}
    .show{#[],by rw[oth b z (F _ _ e),e];simp}
  have hsz:s.heap.objs.size<=h'.objs.size:=zM m (yJ S);have ac:g h'.objs.size=none:=by
   rw[oth _ (wA (yB (zG y) hsz)) (wA S)];show I.hok.fresh hsz
  show h _ c' a g _ (I.un (t':=tk) un O) (zT _ rfl) (I.fpOk hsz ac) {D,vs,t,J,hd,hv} (fun b u e z=>?_) {_,L,?_,fun Z e=>?_} (fun Q l i nQ TQ=>?_) (fun b hb n=>?_)
  .rw[oth b (fun q=>by rw[q,j] at e;cases e;cases z) (F _ _ e)];show e
  .rw[Array.toList_append];show TriplesOk_snoc _ _ _ _ ht
  .rw[Array.toList_append] at e;have e':codeAmong pos (ps.toList++[rawInt pos.line,rawInt pos.col,.ref c'])=some Z:=e;rw[codeAmong_snoc _ ht ca] at e';cases e';show{c',D,vs,t,rfl,J,hd,hv}
  .let{qs,q1,q2,q3}:=TQ.ex;show{qs,by rw[oth Q nQ (F _ _ q1)];show q1,q2,fun Z e=>?_};let{d,od,ws,t',r1,r2,r3,r4}:=q3 Z e;show{d,od,ws,t',r1,by rw[oth d (fun z=>by rw[z,j] at r2;cases r2) (F _ _ r2)];show r2,r3,r4}
  .rw[oth b (fun z=>by rw[z,j] at n;cases n) (zQ (yB hb m))];show n
 | some Z =>
  let{c',D,vs,t,rfl,ad,hd,hv}:=hc Z ca;show kla_makeFunctionHit (mg:=X.mg) W I.ok.glob G p CH y ht ca Y fun a h' tk hk hsz=>?_;have kp:∀b o,s.heap.get? b=some o->(h'.push (kla_obj "<lambda>" (X.env.qual ++ "<lambda>") params body scope cl ((X.mg "__name__").getD .none) c' a)).get? b=some o:=fun b o e=>zE _ (hk b o e);show h _ c' a H _ (I.kept (t':=tk) kp) (zT _ rfl) (I.fpOk hsz (I.hok.fresh hsz)) {D,vs,t,ad,hd,hv} (fun b u e _=>e) T (fun _ _ _ _ T=>T) (fun _ _ n=>n)
end
section
variable{prog:Program}{w:World}{A:Around}{E:Value->Shared->Prop}{s:Shared}
theorem Jca{n:Nat}(m:A.handled=none)(j:IsRange s.heap r 0 (n:Int) 1 t u v)(q:n<=1000)(h:∀h' f (acc:Array Value),(∀b o,s.heap.get? b=some o->h'.get? b=some o)->ItemsOf (fun i v=>∃t,v=.int (0+(i:Int)*1) t) acc n->Q acc.toList { s with heap:=h',toks:=f }):
  wpAny (model prog w) A (collect (.ref r)) Q E s:=by
 show zA (wpAny_runValue (wJ PySem.F.entry_proto_collect ?_));show zA (vG ?_);show zC {plainId_quiet PySem.F.plain_list_iadd _,wJ PySem.F.entry_list_iadd ?_};have p:(s.heap.push { cls:=.type "list",data:=.seq ([]:List Value).toArray }).get? s.heap.objs.size=some { cls:=.type "list",data:=.seq ([]:List Value).toArray }:=zT _ rfl;show wpAny_extend_range (A:=A) (prog:=prog) (w:=w) (R:=fun(res:Result) s'=>match res with
  | .ok (.ret v)=>wpAny (model prog w) A (match v with
   | .ref a=>do
    let o <- load a
    match o.data with
    | .seq xs _=>pure xs.toList
    | _=>unsupported "internal:collect"
   | _=>unsupported "internal:collect") Q E s'
  | .ok _=>False
  | .error e=>E e s') (s:={ s with heap:=s.heap.push { cls:=.type "list",data:=.seq ([]:List Value).toArray } }) m (zE _ j) (small_one (a:=0) (b:=(n:Int)) (by omega) (by omega) (by omega) (by omega)) (n:=n) (by rw[rangeSize_one];grind) (by omega) s.heap.objs.size _ _ p fun h' f d c' l g c=>?_
 show zA (wpAny_load g ?_);show zC (h h' f d (fun b o e=>l b o (zQ (zG e)) (zE _ e)) c)
end
section
variable{X:Cx}{pins:List (Addr×Obj)}{σ:St}{H:Hp}{A:Around}{E:Value->Shared->Prop}{s:Shared}{vs:List Value}{kz:List Int}
theorem Jo8(n:kz.length=xs.length)(L:xs.length<64)(j:wpAny (model X.prog X.w) A.in1 (collect (.ref l)) (fun C a=>Vals xs C/\Inv X pins σ H a) E s)(turn:∀(i:Nat) (y:V) (v:Value) (k:Int),xs[i]?=some y->RelV y v->kz[i]?=some k->Jg2 X pins σ H A.in1.in1 (.ref f) v k)(h:∀s' D out c us,Vals xs us->Inv X pins σ H s'->FpOk X pins H D->X.s₀.heap.objs.size<=D->s'.heap.get? D=some (seqObj "list" out c)->KskOut false kz us out.toList->Q (.ref D) s'):
  wpAny (model X.prog X.w) A (call (.builtin "sorted") [.ref l] [(Str.ofString "key",.ref f)]) Q E s:=by
 show call_function_entry_kw kind_sorted plain_sorted entry_sorted (ksk_s1 _ _) ?_;unfold Builtin.«sorted»;show zA (m:=checkCount "sorted" 1 1 _) (zC ?_);show zA (yK j (fun vs a K=>?_) fun _ _ x=>x);let{r,g}:=K;have O:=r.length;show zA (vT ?_ (by rw[wC];omega));have d:(a.heap.push (seqObj "list" vs.toArray 0)).get? a.heap.objs.size=some (seqObj "list" vs.toArray 0):=zT _ rfl;have p:FpOk X pins H a.heap.objs.size:=g.fpOk (zD _) (g.hok.fresh (zD _));have J:X.s₀.heap.objs.size<=a.heap.objs.size:=g.sz;change wpAny _ _ _ _ _ { a with heap:=a.heap.push (seqObj "list" vs.toArray 0) };show zA (xP (wpAny_call_entry_kw slot_list_sort {_,d,rfl} entry_list_sort ?body (ksk_l1 _ _)))
 case body =>
  change wpAny (model X.prog X.w) A.in1.in1 (Builtin.«list.sort» {[.ref a.heap.objs.size],[(Str.ofString "key",.ref f)]}) _ _ _;rw[ksk_t1];show Jk7 (s:={ a with heap:=a.heap.push (seqObj "list" vs.toArray 0) })
   (g.kept (t':=a.toks) fun b o e=>zE _ e) p d (show kz.length=vs.length by omega) (by omega) (fun i v k B M=>?_) fun s' out c N G I=>{_,rfl,?_}
  .obtain⟨y,q⟩:∃y,xs[i]?=some y:=by
    have hi:i<vs.length:=(gSm B);show{xs[i]'(by omega),gEq _}
   let{u,z,F}:=r.get q;rw[B] at z;cases z;show turn i y v k q F M
  .show zC {_,rfl,h s' _ out c vs r N p J G I}
theorem Inv.adopt(I:Inv X pins σ H s)(f:FpOk X pins H D)(m:X.s₀.heap.objs.size<=D)(new:J2t X.prog X.w (upd H D o) s.heap D o):Inv X pins σ (upd H D o) s:=by
 let{C,B,F,E,A,y}:=f;have l:∀b u,H b=some u->b≠D:=fun b u e z=>by rw[z,C] at e;cases e
 have kp:∀b u,H b=some u->upd H D o b=some u:=fun b u e=>by rw[Jf (l b u e)];show e
 show{I.ok,I.os,I.bare,{I.base.keep,I.base.slot,fun b d q n r=>?_,I.base.there,fun b xs q=>kp _ _ (I.base.tups b xs q),fun b d u q=>kp _ _ (I.base.frzs b d u q),fun b ps q=>?_},I.loc,I.cell,?_,fun x c e=>?_,fun p g=>?_,fun b u e=>?_,I.len}
 .rw[Jf (zQ (yB (zG q) m))];show I.base.free b d q n r
 .let{a,e}:=I.base.tbls b ps q;show{a,kp _ _ e}
 .rw[Jf (Ne.symm B)];show I.free
 .rw[Jf (A x c e)];show I.freeC x c e
 .let{j,i,h}:=I.pin p g;show{j,by rw[Jf (y p g)];show i,h}
 .by_cases hb:b=D
  .subst hb;rw[J2] at e;cases e;show new
  .rw[Jf hb] at e;show(I.hok b u e).stay (fun c v _ q=>q) (fun c q=>kp _ _ q) fun c xs q=>kp _ _ q
end
theorem Jbq{α β:Type}{f:α->β}{ps h:List β}(p:ps.Perm h):∀{z:List α},h=z.map f->∃c:List α,c.Perm z/\ps=c.map f:=by
 induction p with
 | nil =>
  intro z e
  cases z with
  | nil=>show{[],.refl _,rfl}
  | cons a r=>cases e
 | cons x _ ih =>
  intro z e
  cases z with
  | nil=>cases e
  | cons a r =>
   let{o,n}:=List.cons.inj e;let{c,g,d}:=ih n;show{a::c,.cons a g,by rw[zL,<- d,<- o]}
 | swap x y l =>
  intro z e
  match z,e with
  | [],e=>cases e
  | [a],e=>simp at e
  | a::b::r,e =>
   simp only[zL,List.cons.injEq] at e;show{b::a::r,.swap _ _ _,by rw[zL,zL,e.1,e.2.1,e.2.2]}
 | trans _ _ ih1 ih2 =>
  intro z e;let{q,g,d}:=ih2 e;let{i,m,j}:=ih1 d;show{i,m.trans g,j}
theorem Jcl:∀{ks:List Int} {xs:List V} {us:List Value},ks.length=xs.length->Vals xs us->
  ∃z:List (Int×V×Value),z.map (fun t=>(t.1,t.2.1))=ks.zip xs/\z.map (fun t=>(t.1,t.2.2))=ks.zip us/\∀t∈z,RelV t.2.1 t.2.2
 | [],[],_,_,.nil=>{[],rfl,rfl,fun _ h=>by simp at h}
 | k::ks,x::xs,u::us,hl,.cons r rs=>by
  let{z,d,c,b}:=Jcl (ks:=ks) (by simpa using hl) rs;show{(k,x,u)::z,by simp[d],by simp[c],fun t a=>?_};rcases zI.mp a with rfl|a
  .show r
  .show b t a
theorem J7s:∀{z:List (Int×V×Value)},(∀t∈z,RelV t.2.1 t.2.2)->Vals ((z.map (fun t=>(t.1,t.2.1))).map Prod.snd) ((z.map (fun t=>(t.1,t.2.2))).map Prod.snd)
 | [],_=>.nil
 | a::r,h=>.cons (h a (zJ ..)) (J7s fun t b=>h t (zK _ b))
theorem kskV(f:ks.length=xs.length)(r:Vals xs us)(k:KskOut false ks us out):
  ∃ys:List (Int×V),ys.Perm (ks.zip xs)/\Vals (ys.map Prod.snd) out/\ys.Pairwise (fun p q=>p.1<=q.1):=by
 let{ps,c,rfl,b}:=k;let{z,j,i,g}:=Jcl f r;rw[<- i] at c;let{d,a,rfl}:=Jbq c rfl;show{d.map fun t=>(t.1,t.2.1),by rw[<- j];show a.map _,J7s fun t e=>g t (a.mem_iff.mp e),?_};rw[yY] at b ⊢;show b.imp fun h=>by simp_all
def SrtOf(H:Hp)(p:Addr)(xs:List V):Prop:=H p=some (.lst xs)\/∃n:Nat,H p=some (.rng 0 (n:Int))/\xs=(List.range n).map fun(i:Nat)=>V.int (i:Int)
def srtR(P:Addr)(pos:Pos)(qual:Str)(js:List Nat)(h:TE)(σ:St)(Q:VK)(v:V)(f:Hp):Prop:=∃(p:Addr) (xs:List V) (ks:List Int),v=.ref p/\SrtOf f p xs/\xs.length<64/\ks.length=xs.length/\J2a f P pos qual/\
 (∀d,J3i f d->∀(i:Nat) (y:V) (k:Int),xs[i]?=some y->ks[i]?=some k->h (some y::capv σ js) d fun z j=>z=.int k/\j=d)/\
 ∀d l (ys:List (Int×V)),J3i f d->J2a d P pos qual->(∀g e c,g≠P->J2a f g e c->J2a d g e c)->d l=none->ys.Perm (ks.zip xs)->ys.Pairwise (fun a b=>a.1<=b.1)->Q (.ref l) (upd d l (.lst (ys.map Prod.snd)))
def tSortK(P:Addr)(pos:Pos)(qual:Str)(js:List Nat)(a b:TE):TE:=fun σ H Q=>b σ H (srtR P pos qual js a σ Q)
section
variable{X:Cx}{params:Arguments}{body e1:Expr}{scope:Scope}{cl:List (Str×Addr)}{c P:Addr}{lpos kp p pos:Pos}{x:Str}{caps:List Str}{js:List Nat}{te t1:TE}
theorem Jh0(hc:X.calm=true)(hr:Room 1 X.A)(hg:Gl X "sorted")(hm:X.mg "sorted"=none)(r:defaultsOf params X.env=([],[]))(Z:closureFor scope X.env=pure cl)(g:X.env.code=.ref c)(C:codeHdIn X.K c P=true)(B:Jcj X.base X.mg P)(L:Juh X scope cl x caps js)(j:∀u pm aa a,bindArgs (kla_fn "<lambda>" (X.env.qual ++ "<lambda>") params body scope cl pm aa a) {[u],[]}=pure [(x,u)])(he:∀A f c' s H,PE (Jqu X A (x::caps) (X.env.qual ++ "<lambda>") scope f (.ref c') cl s H) body te)(h1:PE X F t1)(U:starEach [F] X.env=(false,eval F X.env)::starEach [] X.env:=by rfl):
  PE X (.Call (.Name "sorted" p) [F] [{some "key",.Lambda params body scope lpos,kp}] pos) (tSortK P lpos (X.env.qual ++ "<lambda>") js te t1):=by
 intro pins s σ H Q I h;show vQ (J75 I hg hm rfl ?_ (by decide) (by decide));show PyProof.Rows.callWith_kw ?_ (by rw[U];rfl) (by rw[U];rfl);show thn ((dZ h1 J1 U) pos pins s σ H (fun vs H1=>match vs with
  | [v]=>srtR P lpos (X.env.qual ++ "<lambda>") js te σ Q v H1
  | _=>False) I h) fun us s1 ⟨vs,H1,I1,R,S⟩=>?_
 match vs,R,S with
 | [v],R,S =>
  let{q,xs,ks,rfl,w,E,hk,T,ht,fin}:=S;let{u,rfl,rx}:=J6j R;cases rx;show kws_cons (Jql I1 r Z g C B T fun f c' a O N I2 ho ff cd M T2 TQ nn=>kws_nil ?_);let{oc,ws,t,F,e2,e3}:=cd;change wpAny _ _ (call (.builtin "sorted") [.ref q] [(Str.ofString "key",.ref f)]) _ _ N;have G:Inv X ((f,kla_obj "<lambda>" (X.env.qual ++ "<lambda>") params body scope cl ((X.mg "__name__").getD .none) c' a)::pins) σ O N:=I2.pins_of fun p W=>(zI.mp W).elim (fun z=>by
   rw[z];show{ho,ff.1,ff.2.1,ff.2.2.1,fun v q=>by cases q}) fun z=>I2.pin p (yW _ z)
  show Jo8 (pins:=(f,kla_obj "<lambda>" (X.env.qual ++ "<lambda>") params body scope cl ((X.mg "__name__").getD .none) c' a)::pins) (σ:=σ) (H:=O) hk E ?_ (fun i y v k ey ry ek s' l=>?_) fun s' D out cc ab ru l fD hz hD kk=>?_
  .rcases w with w|⟨n,w,rfl⟩
   .let{its,r',pl,hz}:=G.list (.inl (.inl (M _ _ w rfl)));show collect_list pl.isList {r',G.kept (t':=N.toks) fun b o e=>?_} (by rw[wC];have:=r'.length;omega);have m:=zG e;rw[Heap.get?_update_ne _ _ _ _ (zQ m),Heap.get?_push_ne _ _ _ (zQ m)];show e
   .let{t,u,v,e}:=G.hok q _ (M _ _ w rfl);show Jca (G.ok.hd hc) (show IsRange N.heap q 0 (n:Int) 1 t u v from e) (by rw[zB,yC] at E;omega) fun h' tk acc Y d=>{J4c (by rw[yL];show d.1) fun i v e=>?_,G.kept (t':=tk) Y};let{t,rfl}:=d.2 i v (by simpa using e);show{t,by simp}
  .have po:=(l.pin _ (yW _ (zJ ..))).1;have cr:s'.heap.CodeRec (.ref c') (X.env.qual ++ "<lambda>"):={c',oc,ws,t,rfl,(l.hok c' _ F).1,e2,e3};show Jqk l L l.ok.frames (l.ok.hd hc) hr.depth ry po cr (j _ _ _ _) (he _ _ _ _ _) (ht O M i y k ey ek)
  .let{ys,y1,y2,y3}:=kskV hk ru kk;have len:(ys.map Prod.snd).length<=sizeLine:=by
    rw[zB,y1.length_eq,List.length_zip,wC];omega
   have J:=l.adopt (o:=.lst (ys.map Prod.snd)) fD hz {len,out.toList,cc,y2,hD};show{.ref D,_,J.pins_of fun p W=>J.pin p (yW _ (zK _ W)),rfl,fin O D ys M T2 TQ fD.1 y1 y3}
end
theorem Fun.okK{K:Frag}{st:Stmt}(F:Fun K x qual st f fd)(a:fd.code=.ref c)(S:Jt N ps (Je st))(len:∀vs H Q E,sp vs H Q E->vs.length=ps.length)(b:∀(A:Around) (outer:List Env) (s:Shared) (H:Hp) (vs:List V) (Q:VK) (E:XK),Room k (A.deeper (envOfC qual (Je st) s.heap.objs.size f (.ref c)))->sp vs H Q E->
   ∃t,PSs (cxOf CX0 P w K mg base N qual (Je st) f (.ref c) A outer s H E).nox (J1n st) t/\t { nx:=fun _ n=>Q .non n,rt:=Q } (start N vs) H):FnOk P w K mg base CX0 (k+1) f fd ps sp:=by
 let{r,p,kV,m,o,u,g,ct,i,rfl,j,e}:=F.ex;obtain rfl:g=.ref c:=a;show Jua j e S len fun A outer s H vs Q E l d=>?_;let{t,h,q}:=b A outer s H vs Q E l d;show{t,h.nox,q}
theorem Jqo{K:Frag}(X:K.In h)(e:codeHdIn K c P=true):isCodeTable h P:=by
 let{o,vs,_,_,_,_,_,_,_,f,d,b,a,_}:=codeHd_of_K X e;show{c,o,vs,f,d,b,a}
theorem Jma{K:Frag}{Ps:List Addr}(KX:K.In s₁.heap)(y:s₁.heap.Ns mainGlobals mg)(hb:s₁.heap.Ns builtinsNs mb)(S:∀x:Str,x≠"__name__"->mb x=bootBuiltins x)(J:s₁.heap.NoLimit)(hg:s₁.gens=#[])(C:s₁.heap.get? a=some { cls:=.type "list",data:=.seq vs.toArray })(hi:IntsAre vs ns)(hl:ns.length<=sizeLine)(hr:Room k callerA)(c:∀P∈Ps,s₁.heap.get? P=some (tabObj #[])/\isCodeTable s₁.heap P/\K.lookup P=none)(R:∃p D,mg "__builtins__"=some (.ref p)/\p≠builtinsNs/\s₁.heap.get? p=some D/\D.cls=.type "module"/\D.dict=some builtinsNs/\D.data=.plain)(F:∀base ,K.In base->base.Ns mainGlobals mg->(∀P∈Ps,Jcj base mg P)->FnOk P w K mg base CX k fa fd [x] sp)(A:∀(s:Shared) (u:Value),BindsTo s fd {[u],[]} [(x,u)])(O:∀H ,(∀P∈Ps,H P=some (.tbl #[]))->SqL K H a (ns.map V.int)->sp [.ref a] H (fun v _=>v=.bl true) fun _ _ _=>False)(U:∀H e s',CX [] H s₁ (fun _ _ _=>False) e s'->False):
  codeAny (model P w) callerA (.call (.ref fa) {[.ref a],[]}) (fun r s'=>r=.ok (.ret (.bool true))/\OldK s₁.heap s'.heap/\s'.os=s₁.os/\AllBare s'.gens) s₁:=by
 have Z:=J4y hi;have I:=hi.length;have n:∀H ,(∀P∈Ps,H P=some (.tbl #[]))->SqL K H a (ns.map V.int)->
   (∀b u,H b=some u->(b∈Ps/\u=.tbl #[])\/(b=a/\K.lookup a=none/\u=.frz { cls:=.type "list",data:=.seq vs.toArray } (.lst (ns.map V.int))))->
   codeAny (model P w) callerA (.call (.ref fa) {[.ref a],[]}) (fun r s'=>r=.ok (.ret (.bool true))/\OldK s₁.heap s'.heap/\s'.os=s₁.os/\AllBare s'.gens) s₁:=by
  intro H hT hS M;have hok:HOk P w H s₁.heap:=fun b u e=>by
   rcases M b u e with⟨hb,rfl⟩|⟨rfl,_,rfl⟩
   .show(c b hb).1
   .show{C,by rw[zB];show hl,vs,_,Z,C}
  have f:∀{b:Addr} {o:Obj} {N:Array DictEntry} {ep:Nat},s₁.heap.get? b=some o->o.data=.dict N ep->H b=none:=fun {b o N ep} e d=>by
   cases q:H b with
   | none=>rfl
   | some u =>
    rcases M b u q with⟨hb,_⟩|⟨rfl,_⟩
    .rw[(c b hb).1] at e;cases e;cases d
    .rw[C] at e;cases e;cases d
  have i:∀{b:Addr} {m:Str->Option Value},s₁.heap.Ns b m->(hidT s₁.heap H).Ns b m:=fun {b m} h9=>by let{o,N,ep,e,d,r}:=h9;show{o,N,ep,Jc5 e (f e d),d,r}
  have L:K.In (hidT s₁.heap H):=fun b o e=>Jc5 (KX b o e) (by
   cases q:H b with
   | none=>rfl
   | some u =>
    rcases M b u q with⟨hb,_⟩|⟨rfl,hk,_⟩
    .rw[(c b hb).2.2] at e;cases e
    .rw[hk] at e;cases e)
  have hM:Mod K mg (hidT s₁.heap H):={L,i y,{mb,i hb,S},by let{mc,h1,h2}:=J;show{mc,i h1,h2}};have e0:Env0 P w K mg (hidT s₁.heap H) callerA [] s₁ H:={rfl,hM,fun b o e=>Jtw e,Nat.le_of_eq (Jmn _ _),trivial,fun b hb=>absurd (show b∈([]:List Addr) from hb) (by simp),hok,.of_eq hg};have W:∀Q∈Ps,Jcj (hidT s₁.heap H) mg Q:=fun Q hQ=>by
   let{p,D,b1,b2,j,b4,b5,E}:=R;show{p,D,b1,b2,fun e=>?_,fun e=>?_,Jc5 j ?_,b4,b5,E}
   .let{o,N,ep,e1,X,_}:=y;rw[e,e1] at j;cases j;rw[X] at E;cases E
   .rw[e,(c Q hQ).1] at j;cases j;cases E
   .cases q:H p with
    | none=>rfl
    | some u =>
     rcases M p u q with⟨hb,_⟩|⟨rfl,_⟩
     .rw[(c p hb).1] at j;cases j;cases E
     .rw[C] at j;cases j;cases E
  show uJ ((F _ L (i y) W).run callerA [] s₁ H {[.ref a],[]} [.ref a] [.ref a] _ _ hr e0 (A s₁ (.ref a)) (.cons rfl .nil) (O H hT hS)) fun r s' h=>?_
  cases r with
  | error e=>show(U H e s' h).elim
  | ok fl =>
   cases fl with
   | next=>show False.elim h
   | brk=>show False.elim h
   | cont=>show False.elim h
   | ret u =>
    let{v,H',os,bare,un,l,r',q}:=h;obtain rfl:v=.bl true:=q;obtain rfl:u=Value.bool true:=r';have kp:∀b o,s₁.heap.get? b=some o->asItWas s₁.heap s'.heap b o:=fun b o e=>by
     cases q:H b with
     | none=>show .inl (un.keep b o e q (by intro z;show absurd (show b∈([]:List Addr) from z) (by simp)) (by simp))
     | some u =>
      rcases M b u q with⟨hb,rfl⟩|⟨rfl,_,rfl⟩
      .let{G,z}:=un.tbls b #[] q;let{t1,t2,_}:=c b hb;rw[t1] at e;cases e;show .inr (.inl {t2,rfl,#[],G,rfl,l b _ z})
      .let{X,_}:=l b _ (un.frzs b _ _ q);rw[C] at e;cases e;show .inl X
    show{rfl,{kp,fun b o e=>un.there b o e (by simp)},os,bare}
 have nP:a ∉ Ps:=fun h=>by
  have e:=(c a h).1;rw[C] at e;cases e
 cases hk:K.lookup a with
 | some o =>
  have e:=KX a o hk;rw[C] at e;cases e;show n (fun b=>if b∈Ps then some (.tbl #[]) else none) (fun P T=>if_pos T) (.inr {_,vs.toArray,_,hk,rfl,rfl,rfl,by rw[zS,I];show hl,by simpa using Z}) fun b u z=>?_;by_cases hb:b∈Ps
  .have g:=(if_pos hb).symm.trans z;cases g;show .inl {hb,rfl}
  .have g:=(if_neg hb).symm.trans z;cases g
 | none =>
  show n (fun b=>if b∈Ps then some (.tbl #[]) else if b=a then some (.frz { cls:=.type "list",data:=.seq vs.toArray } (.lst (ns.map V.int))) else none) (fun P T=>if_pos T)
   (.inl (.inr {{ cls:=.type "list",data:=.seq vs.toArray },(if_neg nP).trans (if_pos rfl)})) fun b u z=>?_
  by_cases hb:b∈Ps
  .have g:=(if_pos hb).symm.trans z;cases g;show .inl {hb,rfl}
  .have Y:=(if_neg hb).symm.trans z;by_cases B:b=a
   .have g:=(if_pos B).symm.trans Y;cases g;show .inr {B,hk,rfl}
   .have g:=(if_neg B).symm.trans Y;cases g
theorem J2a.empty(h:H P=some (.tbl #[])):J2a H P pos qual:={#[],h,by first|trivial|show .nil|grind,fun a e=>by simp[codeAmong] at e}
theorem walk_ofU{l:PySem.W.OpenLaw}{K:Params->Frag}{CX:World->CXT}{sp:World->Sp}{Ps:List Addr}(J:l.most=some n)(z:n<=sizeLine)(B:d.params.defaults=[])(I:Room k callerA)(N:∀(w:World) (h:Heap),YP w h->(K w.params).In h/\∀P∈Ps,h.get? P=some (tabObj #[]))(Q:∀(w:World),∀P∈Ps,(K w.params).lookup P=none)(F:∀(w:World) (mg:Str->Option Value) (r:Addr) (h:Heap),(K w.params).In h->h.Ns mainGlobals mg->mg d.name=some (.ref r)->
   (∀P∈Ps,∃c,codeHdIn (K w.params) c P=true)/\∃fd:FuncData,(∀(s:Shared) (u:Value),BindsTo s fd {[u],[]} [(x,u)])/\
    ∀base ,(K w.params).In base->base.Ns mainGlobals mg->(∀P∈Ps,Jcj base mg P)->FnOk l.prog w (K w.params) mg base (CX w) k r fd [x] (sp w))(y:∀(w:World) (H:Hp) (a:Addr) (ns:List Int),ns.length<=n->(∀P∈Ps,H P=some (.tbl #[]))->SqL (K w.params) H a (ns.map V.int)->sp w [.ref a] H (fun v _=>v=.bl true) fun _ _ _=>False)(C:∀(w:World) (H:Hp) (s:Shared) (e:Value) (s':Shared),CX w [] H s (fun _ _ _=>False) e s'->False):
  PySem.W.WalkO q loose XP YP l.row.toRowW d [] (fun f vs=>PySem.call f vs):=by
 show Att.attach_call J B fun w s₀ E mg mb r o Z cd X a vs ns G Y ho hd M A p j i L=>?_;let{D,tb}:=N w _ Y;let{U,fd,hb,S}:=F w mg r _ D G.T.g A;show Jma D G.T.g G.T.b G.T.builtins G.T.nolimit L p j (zM i z) I (fun P m=>{tb P m,?_,Q w P m}) G.T.bmain S hb (fun H R O=>y w H a ns i R O) fun H e s'=>C w H E e s';let{c,e}:=U P m;show Jqo D e
end L2
namespace Rl
structure Sr where
 fi:Int
 le:Int
 la:Int
 tu:Bool
def fgo(s:Sr):Int:=if s.tu=true then s.la+s.le-1 else s.la
def lgo(s:Sr):Int:=if s.tu=true then s.la else s.la+s.le-1
def gtog(a b:Sr):Bool:=decide ((if fgo b-lgo a<0 then -(fgo b-lgo a) else fgo b-lgo a)=1)
def mk1(a b:Sr):Sr:={a.fi,a.le+b.le,if b.la<a.la then b.la else a.la,decide (b.la<a.la)&&decide (1<a.le+b.le)}
def lstp(acc:List Sr)(s:Sr):List Sr:=match acc.getLast? with
 | some a=>if gtog a s=true then acc.dropLast++[mk1 a s] else acc++[s]
 | none=>[s]
def lgst(a:List Sr):List Sr:=a.foldl lstp []
structure Pc(g:Int->Int)(a:Int)(s:Sr):Prop where
 fi:s.fi=a
 le:1<=s.le
 tu:s.tu=true->1<s.le
 up:s.tu=false->∀x,0<=x->x<s.le->g (a+x)=s.la+x
 dn:s.tu=true->∀x,0<=x->x<s.le->g (a+x)=s.la+s.le-1-x
def near(u v:Int):Prop:=u-v=1\/v-u=1
def Rep(g:Int->Int):Int->List Sr->Int->Prop
 | a,[],b=>a=b
 | a,s::r,b=>Pc g a s/\Rep g (a+s.le) r b
def RepS(g:Int->Int):Int->List Sr->Int->Prop
 | a,[],b=>a=b
 | a,s::r,b=>Pc g a s/\(r≠[]->¬ near (g (a+s.le)) (g (a+s.le-1)))/\RepS g (a+s.le) r b
theorem Pc.fgo(p:Pc g a s):fgo s=g a:=by
 unfold Rl.fgo;have l:=p.le;by_cases t:s.tu=true
 .rw[if_pos t];have:=p.dn t 0 () ()
  grind
 .rw[if_neg t];have:=p.up (by simpa using t) 0 () ();rw[show a+0=a by lia] at this;lia
theorem Pc.lgo(p:Pc g a s):lgo s=g (a+s.le-1):=by
 unfold Rl.lgo;have l:=p.le;by_cases t:s.tu=true
 .rw[if_pos t];have:=p.dn t (s.le-1) () ()
  grind
 .rw[if_neg t];have:=p.up (by simpa using t) (s.le-1) () ();rw[show a+(s.le-1)=a+s.le-1 by lia] at this;lia
theorem Jhm(c:Pc g a p)(b:Pc g (a+p.le) q):gtog p q=true↔near (g (a+p.le)) (g (a+p.le-1)):=by
 unfold gtog near;rw[b.fgo,c.lgo,yU];generalize g (a+p.le)=u;generalize g (a+p.le-1)=v;split <;> lia
theorem Pc.merge{g:Int->Int}{a b:Int}{p q:Sr}(inj:∀x y,a<=x->x<b->a<=y->y<b->g x=g y->x=y)(d:Pc g a p)(f:Pc g (a+p.le) q)(hb:a+p.le+q.le<=b)(h:near (g (a+p.le)) (g (a+p.le-1))):Pc g a (mk1 p q):=by
 have l1:=d.le;have w:=f.le;have n:=d.lgo;have m:=f.fgo;unfold Rl.lgo at n;unfold Rl.fgo at m;rcases h with h|h
 ·-- upward
  have pt:p.tu=false:=by
   cases t:p.tu with
   | false=>rfl
   | true =>
    have c:=d.tu t;have e:=d.dn t (p.le-2) () ();rw[if_pos t] at n;have:=inj (a+(p.le-2)) (a+p.le) () () () () ();lia
  have o:q.tu=false:=by
   cases t:q.tu with
   | false=>rfl
   | true =>
    have c:=f.tu t;have e:=f.dn t 1 () ();rw[if_pos t] at m;have:=inj (a+p.le+1) (a+p.le-1) () () () () ();lia
  rw[pt,if_neg (by decide)] at n;rw[o,if_neg (by decide)] at m;have j:¬ q.la<p.la:=()
  show{d.fi,by change 1<=p.le+q.le;lia,fun t=>by change 1<p.le+q.le;lia,fun t x i c=>?_,fun t=>?_}
  .have c:x<p.le+q.le:=c;change g (a+x)=(if q.la<p.la then q.la else p.la)+x;rw[if_neg j];rcases wM x p.le with hx|hx
   .show d.up pt x i hx
   .have:=f.up o (x-p.le) () ();rw[show a+p.le+(x-p.le)=a+x by lia] at this;lia
  .have t:(decide (q.la<p.la)&&decide (1<p.le+q.le))=true:=t;rw[yD j] at t;cases t
 ·-- downward
  have s:∀x,0<=x->x<p.le->g (a+x)=p.la+p.le-1-x:=by
   cases t:p.tu with
   | true=>show d.dn t
   | false =>
    intro x i c;rw[t,if_neg (by decide)] at n;rcases wM 1 p.le with l|l
    .have e:=d.up t (p.le-2) () ();have:=inj (a+(p.le-2)) (a+p.le) () () () () ();lia
    .have e:=d.up t x i c;lia
  have r:∀x,0<=x->x<q.le->g (a+p.le+x)=q.la+q.le-1-x:=by
   cases t:q.tu with
   | true=>show f.dn t
   | false =>
    intro x i c;rw[t,if_neg (by decide)] at m;rcases wM 1 q.le with l|l
    .have e:=f.up t 1 () ();have:=inj (a+p.le+1) (a+p.le-1) () () () () ();lia
    .have e:=f.up t x i c;lia
  have v:=s (p.le-1) () ();have u:=r 0 () ();rw[show a+(p.le-1)=a+p.le-1 by lia] at v;rw[show a+p.le+0=a+p.le by lia] at u;have j:q.la<p.la:=()
  show{d.fi,by change 1<=p.le+q.le;lia,fun t=>by change 1<p.le+q.le;lia,fun t=>?_,fun t x i c=>?_}
  .have t:(decide (q.la<p.la)&&decide (1<p.le+q.le))=false:=t;rw[zZ j,zZ (by lia:1<p.le+q.le)] at t;cases t
  .have c:x<p.le+q.le:=c;change g (a+x)=(if q.la<p.la then q.la else p.la)+(p.le+q.le)-1-x;rw[if_pos j];rcases wM x p.le with hx|hx
   .have:=s x i hx;lia
   .have:=r (x-p.le) () ();rw[show a+p.le+(x-p.le)=a+x by lia] at this;lia
theorem RepS.last :∀{init:List Sr} {a m:Int} {p:Sr},RepS g a (init++[p]) m->∃k,a<=k/\Pc g k p/\m=k+p.le/\(∀b,Pc g k b->RepS g a (init++[b]) (k+b.le))/\
  ∀q,Pc g m q->¬ near (g m) (g (m-1))->RepS g a (init++[p]++[q]) (m+q.le)
 | [],a,m,p,h=>by
  let{c,_,i}:=h;subst i;show{a,yA _,c,rfl,fun b e=>{e,fun z=>absurd rfl z,rfl},fun q d f=>{c,fun _=>f,d,fun z=>absurd rfl z,rfl}}
 | s::r,a,m,p,h=>by
  let{c,j,i}:=h;let{k,v,u,o,n,l}:=RepS.last (init:=r) i;have:=c.le;show{k,(),u,o,fun b e=>{c,fun _=>j (by simp),n b e},fun q d f=>{c,fun _=>j (by simp),l q d f}}
theorem RepS.le :∀{c:List Sr} {a b:Int},RepS g a c b->a<=b
 | [],a,b,h=>Int.le_of_eq h
 | s::r,a,b,⟨h1,_,h3⟩=>by have:=RepS.le h3;have:=h1.le;lia
theorem Jo4{acc:List Sr}(e:acc.getLast?=some a):acc=acc.dropLast++[a]:=by
 rcases List.eq_nil_or_concat acc with rfl|⟨l,b,rfl⟩
 .cases e
 .grind
theorem RepS.step(inj:∀x y,a<=x->x<b->a<=y->y<b->g x=g y->x=y)(h:RepS g a acc m)(d:Pc g m s)(hb:m+s.le<=b):RepS g a (lstp acc s) (m+s.le):=by
 unfold lstp
 cases e:acc.getLast? with
 | none =>
  have:=List.getLast?_eq_none_iff.mp e;subst this;have h:=h;subst h;show{d,fun z=>absurd rfl z,rfl}
 | some p =>
  have sp:=Jo4 e;dsimp only;rw[sp] at h;let{k,v,f,q,o,l}:=h.last;subst q;by_cases c:gtog p s=true
  .rw[if_pos c];have M:=Pc.merge (a:=k) (b:=b) (fun x y u j r i e=>inj x y () j () i e) f d () ((Jhm f d).mp c);have:=o _ M;rw[show k+p.le+s.le=k+(mk1 p s).le by change _=k+(p.le+s.le);lia];show this
  .rw[if_neg c];have:=l s d fun n=>c ((Jhm f d).mpr n);rw[<- sp] at this;show this
theorem Rep.le :∀{c:List Sr} {a b:Int},Rep g a c b->a<=b
 | [],a,b,h=>Int.le_of_eq h
 | s::r,a,b,⟨h1,h3⟩=>by have:=Rep.le h3;have:=h1.le;lia
theorem Jho(inj:∀x y,a<=x->x<b->a<=y->y<b->g x=g y->x=y):∀(c:List Sr) {acc:List Sr} {m:Int},RepS g a acc m->Rep g m c b->RepS g a (c.foldl lstp acc) b
 | [],acc,m,h,e=>by
  subst e;show h
 | s::r,acc,m,h,⟨h1,h2⟩=>by
  show Jho inj r (RepS.step inj h h1 h2.le) h2
theorem Jqh(inj:∀x y,a<=x->x<b->a<=y->y<b->g x=g y->x=y)(h:Rep g a ss b):RepS g a (lgst ss) b:=Jho inj ss (acc:=[]) (m:=a) rfl h
theorem Pc.near(p:Pc g a s)(e:a<m)(d:m<a+s.le):near (g m) (g (m-1)):=by
 cases t:s.tu with
 | false =>
  have c:=p.up t (m-a) () ();have b:=p.up t (m-1-a) () ();rw[show a+(m-a)=m by lia] at c;rw[show a+(m-1-a)=m-1 by lia] at b;left;lia
 | true =>
  have c:=p.dn t (m-a) () ();have b:=p.dn t (m-1-a) () ();rw[show a+(m-a)=m by lia] at c;rw[show a+(m-1-a)=m-1 by lia] at b;right;lia
theorem Pc.uni(b:Pc g a p)(c:Pc g a q)(e:p.le=q.le):p=q:=by
 have l:=b.le;have t:p.tu=q.tu:=by
  cases tp:p.tu with
  | false =>
   cases tq:q.tu with
   | false=>rfl
   | true =>
    have h:=c.tu tq;have i:=b.up tp 0 () ();have m:=b.up tp 1 () ();have d:=c.dn tq 0 () ();have j:=c.dn tq 1 () ();lia
  | true =>
   cases tq:q.tu with
   | true=>rfl
   | false =>
    have h:=b.tu tp;have i:=b.dn tp 0 () ();have m:=b.dn tp 1 () ();have d:=c.up tq 0 () ();have j:=c.up tq 1 () ();lia
 have la:p.la=q.la:=by
  cases tp:p.tu with
  | false =>
   have i:=b.up tp 0 () ();have d:=c.up (by rw[<- t];show tp) 0 () ();lia
  | true =>
   have i:=b.dn tp 0 () ();have d:=c.dn (by rw[<- t];show tp) 0 () ();lia
 have f:=b.fi.trans c.fi.symm;let{u,pl,v,pt}:=p;let{r,o,s,n}:=q;simp only at e t la f;rw[e,t,la,f]
theorem RepS.uni :∀{j i:List Sr} {a b:Int},RepS g a j b->RepS g a i b->j=i
 | [],[],_,_,_,_=>rfl
 | [],t::r,a,b,h,⟨h1,_,d⟩=>by
  have h:a=b:=h;have:=d.le;have:=h1.le;lia
 | s::r,[],a,b,⟨h1,_,d⟩,h=>by
  have h:a=b:=h;have:=d.le;have:=h1.le;lia
 | s::r,t::r',a,b,⟨h1,h2,d⟩,⟨k1,k2,f⟩=>by
  have l1:=h1.le;have o:=k1.le;have e:s.le=t.le:=by
   have n:=d.le;have l:=f.le;rcases Int.lt_trichotomy s.le t.le with c|c|c
   .have:r≠[]:=fun z=>by
     subst z;have d:a+s.le=b:=d;lia
    show absurd (k1.near (m:=a+s.le) () ()) (h2 this)
   .show c
   .have:r'≠[]:=fun z=>by
     subst z;have f:a+t.le=b:=f;lia
    show absurd (h1.near (m:=a+t.le) () ()) (k2 this)
  have st:=h1.uni k1 e;subst st;rw[RepS.uni d f]
def srO(ls:List Int)(os:List Nat)(ts:List Bool)(i:Nat):Sr:={(eK ls (List.range ls.length)).getD i 0,ls.getD i 0,(eK ls os).getD i 0,ts.getD i false&&decide (1<ls.getD i 0)}
def srsL(ls:List Int)(os:List Nat)(ts:List Bool):List Sr:=(List.range ls.length).map (srO ls os ts)
noncomputable def gL(ls:List Int)(os:List Nat)(ts:List Bool)(x:Int):Int:=by
 classical show if h:∃j,Lies (eK ls (List.range ls.length)) ls x j then J4m ls ts h.choose (x-(eK ls (List.range ls.length)).getD h.choose 0) (eK ls os) else 0
theorem Jdm(O:Ord ls os)(q:Lies (eK ls (List.range ls.length)) ls x j):gL ls os ts x=J4m ls ts j (x-(eK ls (List.range ls.length)).getD j 0) (eK ls os):=by
 unfold gL;have h:∃j,Lies (eK ls (List.range ls.length)) ls x j:={j,q};rw[dif_pos h,O.range.unique h.choose_spec q]
theorem J9f(O:Ord ls os)(q:Lies (eK ls (List.range ls.length)) ls x j):Lies (eK ls os) ls (gL ls os ts x) j:=by
 rw[Jdm O q];show(Jdd q).1
theorem gL_inj(O:Ord ls os)(i:0<=x)(h:x<ls.sum)(g:0<=y)(f:y<ls.sum)(e:gL ls os ts x=gL ls os ts y):x=y:=by
 let{j,d}:=O.range.exists i h;let{k,c}:=O.range.exists g f;have a:=J9f (ts:=ts) O d;have b:=J9f (ts:=ts) O c;rw[e] at a;have l:=O.unique a b;subst l;rw[Jdm O d,Jdm O c] at e;unfold J4m at e;split at e <;> lia
theorem gL_in(O:Ord ls os)(b:0<=x)(a:x<ls.sum):0<=gL ls os ts x/\gL ls os ts x<ls.sum:=by
 let{j,c}:=O.range.exists b a;show O.inside (J9f O c)
theorem J2o(O:Ord ls os)(h:k<ls.length):(eK ls (List.range ls.length)).getD k 0=Jr ls (List.range ls.length) k:=by
 have:=O.range.first h;rwa [J2n h] at this
theorem sr_pc(O:Ord ls os)(h:k<ls.length):Pc (gL ls os ts) (Jr ls (List.range ls.length) k) (srO ls os ts k):=by
 have fr:=J2o O h;have one:=O.one h;have at_:∀x,0<=x->x<ls.getD k 0->gL ls os ts (Jr ls (List.range ls.length) k+x)=if ts.getD k false=true then (eK ls os).getD k 0+ls.getD k 0-1-x else (eK ls os).getD k 0+x:=fun x b a=>by
  rw[Jdm O (j:=k) {h,(),()}];unfold J4m;rw[fr,show Jr ls (List.range ls.length) k+x-Jr ls (List.range ls.length) k=x by lia]
 show{fr,one,fun t=>?_,fun t x b a=>?_,fun t x b a=>?_}
 .have t:(ts.getD k false&&decide (1<ls.getD k 0))=true:=t;rw[xV] at t;show xY t.2
 .have a:x<ls.getD k 0:=a;have t:(ts.getD k false&&decide (1<ls.getD k 0))=false:=t;rw[at_ x b a];change _=(eK ls os).getD k 0+x;by_cases c:ts.getD k false=true
  .rw[c,Bool.true_and] at t;have:=of_decide_eq_false t;rw[if_pos c];lia
  .rw[if_neg c]
 .have t:(ts.getD k false&&decide (1<ls.getD k 0))=true:=t;rw[xV] at t;rw[at_ x b a,if_pos t.1];rfl
theorem Jga(O:Ord ls os):∀(d k:Nat),k+d=ls.length->Rep (gL ls os ts) (Jr ls (List.range ls.length) k) (((List.range ls.length).drop k).map (srO ls os ts)) ls.sum
 | 0,k,e=>by
  subst e;rw[List.drop_of_length_le (by simp)];show O.range.whole
 | d+1,k,e=>by
  have a:k<ls.length:=()
  rw[List.drop_eq_getElem_cons (by simp_all),sP,zL];show{sr_pc O a,?_};have:=Jga (ts:=ts) O d (k+1) ();rw[J15,J2n a] at this;show this
theorem J8w(O:Ord ls os):Rep (gL ls os ts) 0 (srsL ls os ts) ls.sum:=Jga O ls.length 0 ()
theorem Pc.val(p:Pc g a s)(q:Pc h a s)(e:a<=x)(d:x<a+s.le):g x=h x:=by
 cases t:s.tu with
 | false =>
  have c:=p.up t (x-a) () ();have b:=q.up t (x-a) () ()
  grind
 | true =>
  have c:=p.dn t (x-a) () ();have b:=q.dn t (x-a) () ()
  grind
theorem RepS.at :∀{L:List Sr} {a b:Int},RepS g a L b->∀(i:Nat) (s:Sr),L[i]?=some s->Pc g s.fi s/\a<=s.fi/\s.fi+s.le<=b
 | [],_,_,_,i,s,e=>by simp at e
 | t::r,a,b,⟨h1,h2,h3⟩,0,s,e=>by
  cases e;have:=h3.le;have f:=h1.fi;rw[f];show{h1,yA _,this}
 | t::r,a,b,⟨h1,h2,h3⟩,i+1,s,e=>by
  let{d,h,c}:=RepS.at h3 i s e;have:=h1.le;show{d,(),c}
theorem RepS.next :∀{L:List Sr} {a b:Int},RepS g a L b->∀(i:Nat) (s t:Sr),L[i]?=some s->L[i+1]?=some t->t.fi=s.fi+s.le
 | [],_,_,_,i,s,t,e,_=>by simp at e
 | u::r,a,b,⟨h1,h2,h3⟩,0,s,t,e,e2=>by
  cases e
  cases r with
  | nil=>simp at e2
  | cons v r' =>
   cases e2;rw[h3.1.fi,h1.fi]
 | u::r,a,b,⟨h1,h2,h3⟩,i+1,s,t,e,e2=>RepS.next h3 i s t e e2
theorem RepS.before :∀{L:List Sr} {a b:Int},RepS g a L b->∀(i j:Nat) (s t:Sr),i<j->L[i]?=some s->L[j]?=some t->s.fi+s.le<=t.fi
 | [],_,_,_,i,j,s,t,_,e,_=>by simp at e
 | u::r,a,b,⟨h1,h2,h3⟩,0,j+1,s,t,_,e,e2=>by
  cases e;let{_,c,_}:=RepS.at h3 j t e2;have:=h1.fi;lia
 | u::r,a,b,⟨h1,h2,h3⟩,i+1,j+1,s,t,h,e,e2=>RepS.before h3 i j s t () e e2
theorem RepS.tot :∀{L:List Sr} {a b:Int},RepS g a L b->a+(L.map Sr.le).sum=b
 | [],a,b,e=>by
  have e:a=b:=e;simp[e]
 | s::r,a,b,⟨_,_,h3⟩=>by
  have:=RepS.tot h3;rw[zL,zU];lia
theorem Pc.hit(p:Pc g a s)(c:s.la<=v)(b:v<s.la+s.le):∃x,a<=x/\x<a+s.le/\g x=v:=by
 cases t:s.tu with
 | false=>show{a+(v-s.la),(),(),by rw[p.up t _ () ()];lia}
 | true=>show{a+(s.la+s.le-1-v),(),(),by rw[p.dn t _ () ()];lia}
theorem Pc.low(p:Pc g a s):∃x,a<=x/\x<a+s.le/\g x=s.la:=p.hit (yA _) (by have:=p.le;lia)
theorem Pc.high(p:Pc g a s):∃x,a<=x/\x<a+s.le/\g x=s.la+s.le-1:=p.hit (by have:=p.le;lia) ()
def s0:Sr:={0,0,0,false}
section
variable{g:Int->Int}{L:List Sr}{N:Int}{os:List Nat}
theorem getL(h:i<L.length):L[i]?=some (L.getD i s0):=by simp_all
theorem leD(h:i<L.length):(L.map Sr.le).getD i 0=(L.getD i s0).le:=by
 rw[zH,zY,getL h];rfl
theorem laD(h:i<L.length):(L.map Sr.la).getD i 0=(L.getD i s0).la:=by
 rw[zH,zY,getL h];rfl
theorem tuD(h:i<L.length):(L.map Sr.tu).getD i false=(L.getD i s0).tu:=by
 rw[zH,zY,getL h];rfl
theorem RepS.ord(R:RepS g 0 L N)(p:os.Perm (List.range L.length)):Ord (L.map Sr.le) os:=
 {fun a c=>by
  let{s,b,rfl}:=zW.mp c;let{i,hi,e}:=uA b;show(R.at i s (by simp_all)).1.le,by simp_all}
theorem RepS.apart(R:RepS g 0 L N)(inj:∀x y,0<=x->x<N->0<=y->y<N->g x=g y->x=y)(hi:i<L.length)(a:j<L.length)(ne:i≠j)(h:(L.getD i s0).la<=(L.getD j s0).la):(L.getD i s0).la+(L.getD i s0).le<=(L.getD j s0).la:=by
 let{d,r,q}:=R.at i _ (getL hi);let{b,p,o}:=R.at j _ (getL a);rcases wM (L.getD j s0).la ((L.getD i s0).la+(L.getD i s0).le) with c|c
 .let{x,n,m,ex}:=d.hit h c;let{y,f,e,s}:=b.low;have:=inj x y () () () () ();subst this;rcases Nat.lt_or_gt_of_ne ne with l|l
  .have:=R.before i j _ _ l (getL hi) (getL a);lia
  .have:=R.before j i _ _ l (getL a) (getL hi);lia
 .show c
theorem RepS.laid(R:RepS g 0 L N)(inj:∀x y,0<=x->x<N->0<=y->y<N->g x=g y->x=y)(inn:∀x,0<=x->x<N->0<=g x/\g x<N)(p:os.Perm (List.range L.length))(srt:os.Pairwise (fun i j=>(L.map Sr.la).getD i 0<=(L.map Sr.la).getD j 0)):∀k,k<L.length->(L.getD (os.getD k 0) s0).la=Jr (L.map Sr.le) os k:=by
 have O:=R.ord p;have u:(L.map Sr.le).length=L.length:=zB ..;have w:os.length=L.length:=by rw[p.length_eq,yC]
 have lt:∀k,k<L.length->os.getD k 0<L.length:=fun k h=>by have:=O.lt (i:=k) ();lia
 have a:∀k,Jr (L.map Sr.le) os (k+1)=Jr (L.map Sr.le) os k+(L.map Sr.le).getD (os.getD k 0) 0:=fun k=>J15 _ _ k;have step:=fun k h=>by
  show R.apart inj (lt k ()) (lt (k+1) h) (fun e=>?_) ?_
  .have:=O.inj (i:=k) (j:=k+1) () () e;lia
  .have:=(sQ.mp srt) k (k+1) () () ();rw[<- laD (lt k ()),<- laD (lt (k+1) h)];rw[zH (l:=os),gEq (by lia:k<os.length),zH (l:=os),gEq (by lia:k+1<os.length)];show this
 have b:∀k,k<L.length->Jr (L.map Sr.le) os k<=(L.getD (os.getD k 0) s0).la:=by
  intro k
  induction k with
  | zero =>
   intro h;let{f,s,r}:=R.at _ _ (getL (lt 0 h));let{x,q,o,ex}:=f.low;have:=inn x () ();rw[J36];lia
  | succ k ih =>
   intro h;have n:=ih ();have m:=step k h;rw[a,leD (lt k ())];lia
 have tot:Jr (L.map Sr.le) os L.length=N:=by
  have h:=O.whole;rw[u] at h;have:=R.tot;lia
 have c:∀d k,k+d+1=L.length->(L.getD (os.getD k 0) s0).la+(L.getD (os.getD k 0) s0).le<=Jr (L.map Sr.le) os (k+1):=by
  intro d
  induction d with
  | zero =>
   intro k h;let{f,s,r}:=R.at _ _ (getL (lt k ()));let{x,q,o,ex}:=f.high;have:=inn x () ();rw[show k+1=L.length by lia,tot];lia
  | succ d ih =>
   intro k h;have n:=ih (k+1) ();have m:=step k ();have v:=a (k+1);rw[leD (lt (k+1) ())] at v;lia
 intro k h;have n:=b k h;have m:=c (L.length-1-k) k ();rw[a,leD (lt k h)] at m;lia
theorem RepS.fis(R:RepS g 0 L N):∀k,k<L.length->(L.getD k s0).fi=Jr (L.map Sr.le) (List.range L.length) k
 | 0,h=>by
  cases L with
  | nil=>simp at h
  | cons s r=>show R.1.fi
 | k+1,h=>by
  have b:=RepS.fis R k ();have a:=R.next k _ _ (getL ()) (getL h);rw[a,b,J15,J2n (by lia:k<L.length),leD ()]
theorem RepS.own(R:RepS g 0 L N)(inj:∀x y,0<=x->x<N->0<=y->y<N->g x=g y->x=y)(inn:∀x,0<=x->x<N->0<=g x/\g x<N)(p:os.Perm (List.range L.length))(srt:os.Pairwise (fun i j=>(L.map Sr.la).getD i 0<=(L.map Sr.la).getD j 0)):srsL (L.map Sr.le) os (L.map Sr.tu)=L:=by
 have O:=R.ord p;have a:(L.map Sr.le).length=L.length:=zB ..;apply wX;intro i;unfold srsL;rw[a,zY];by_cases h:i<L.length
 .rw[tQ h,getL h];show zP some ?_;let{k,f,b}:=O.onto (j:=i) ();have e:=R.laid inj inn p srt k ();rw[b] at e;have d:=O.first (i:=k) f;rw[b] at d;have l:=R.fis i h;have c:=J2o O (k:=i) ();rw[a] at c;have P:=(R.at i _ (getL h)).1;unfold srO;rw[a,c,<- l,leD h,d,<- e,tuD h];generalize L.getD i s0=s at *;have t:(s.tu&&decide (1<s.le))=s.tu:=by
   cases q:s.tu with
   | false=>rfl
   | true=>rw[zZ (P.tu q)];rfl
  rw[t]
 .simp_all
end
theorem RepS.rep :∀{L:List Sr} {a b:Int},RepS g a L b->Rep g a L b
 | [],_,_,h=>h
 | s::r,_,_,⟨h1,_,h3⟩=>{h1,RepS.rep h3}
theorem Rep.val :∀{d:List Sr} {a b c:Int},Rep g a d b->Rep h a d c->b=c/\∀x,a<=x->x<b->g x=h x
 | [],a,b,c,i,f=>by
  have i:a=b:=i;have f:a=c:=f
  grind
 | s::r,a,b,c,⟨h1,h3⟩,⟨k1,k3⟩=>by
  let{e,v}:=Rep.val h3 k3;show{e,fun x l j=>?_};rcases wM x (a+s.le) with c|c
  .show h1.val k1 l c
  .show v x c j
structure PlO(L:List Sr)(os:List Nat):Prop where
 perm:os.Perm (List.range L.length)
 srt:os.Pairwise (fun i j=>(L.map Sr.la).getD i 0<=(L.map Sr.la).getD j 0)
theorem flat_one{α β:Type}{f:α->List β}{g:α->β}:∀{l:List α},(∀o∈l,f o=[g o])->l.flatMap f=l.map g
 | [],_=>rfl
 | a::r,h=>by
  rw[uX,h a (zJ ..),flat_one fun o b=>h o (zK _ b)];rfl
theorem Rep.all :∀{L:List Sr} {a b:Int},Rep g a L b->∀s∈L,Pc g s.fi s/\a<=s.fi/\s.fi+s.le<=b
 | [],_,_,_,s,h=>by cases h
 | t::r,a,b,⟨h1,h2⟩,s,h=>by
  have e:=h1.fi;have l:=h1.le;have c:=h2.le;rcases zI.mp h with rfl|h
  .rw[e];show{h1,yA _,c}
  .let{f,i,d}:=Rep.all h2 s h;show{f,(),d}
theorem Rep.pair :∀{L:List Sr} {a b:Int},Rep g a L b->L.Pairwise (fun s t=>s.fi+s.le<=t.fi)
 | [],_,_,_=>.nil
 | t::r,a,b,⟨h1,h2⟩=>.cons (fun s c=>by have:=(h2.all s c).2.1;have:=h1.fi;lia) (Rep.pair h2)
theorem Rep.cover :∀{L:List Sr} {a b:Int},Rep g a L b->∀x,a<=x->x<b->∃s∈L,s.fi<=x/\x<s.fi+s.le
 | [],a,b,h,x,x0,x1=>by have h:a=b:=h;lia
 | t::r,a,b,⟨h1,h2⟩,x,x0,x1=>by
  have e:=h1.fi;by_cases c:x<a+t.le
  .grind
  .let{s,d,k}:=Rep.cover h2 x () x1;show{s,zK _ d,k}
theorem Je3 :∀(L:List Sr) (a N:Int),(∀s∈L,Pc f s.fi s)->(∀s∈L,a<=s.fi/\s.fi+s.le<=N)->L.Pairwise (fun s t=>s.fi<=t.fi)->L.Pairwise (fun s t=>s.fi+s.le<=t.fi\/t.fi+t.le<=s.fi)->
  (∀x,a<=x->x<N->∃s∈L,s.fi<=x/\x<s.fi+s.le)->a<=N->Rep f a L N
 | [],a,N,_,_,_,_,cv,h=>by
  change a=N;rcases wM a N with c|c
  .let{s,g,_}:=cv a (yA _) c;cases g
  .lia
 | s::r,a,N,hp,hb,g,hd,cv,h=>by
  let{p,o}:=vY.mp g;let{u,q}:=vY.mp hd;have d:=hp s (zJ ..);have l:=d.le;let{A,y}:=hb s (zJ ..);have e:s.fi=a:=by
   let{t,b,j,i}:=cv a (yA _) ();rcases zI.mp b with rfl|b
   .lia
   .have:=p t b;have:=(hb t (zK _ b)).1;lia
  show{e▸d,?_};show Je3 r (a+s.le) N (fun t b=>hp t (zK _ b)) (fun t b=>?_) o q (fun x v n=>?_) ()
  .let{w,m}:=hb t (zK _ b);have:=(hp t (zK _ b)).le;rcases u t b with z|z
   .show{(),m}
   .show{(),m}
  .let{t,b,j,i}:=cv x () n;rcases zI.mp b with rfl|b
   .lia
   .show{t,b,j,i}
def jb(o t:Sr):Int:=if t.fi>o.la then t.fi else o.la
def je(o t:Sr):Int:=if t.fi+t.le<o.la+o.le then t.fi+t.le else o.la+o.le
def J1m(o t:Sr):Sr:={o.fi+(if o.tu=true then o.la+o.le-je o t else jb o t-o.la),je o t-jb o t,t.la+(if t.tu=true then t.fi+t.le-je o t else jb o t-t.fi),(o.tu != t.tu)&&decide (1<je o t-jb o t)}
def J3g(o t:Sr):List Sr:=if je o t<=jb o t then [] else [J1m o t]
theorem Jmf(o t:Sr):o.la<=jb o t/\t.fi<=jb o t/\je o t<=o.la+o.le/\je o t<=t.fi+t.le:=by
 unfold jb je
 grind
theorem j_in(d:o.la<=v)(c:v<o.la+o.le)(b:t.fi<=v)(a:v<t.fi+t.le):jb o t<=v/\v<je o t:=by
 unfold jb je;show{?_,?_} <;> split <;> lia
theorem Pc.image(p:Pc g a s)(c:a<=x)(b:x<a+s.le):s.la<=g x/\g x<s.la+s.le:=by
 cases t:s.tu with
 | true =>
  have:=p.dn t (x-a) () ();rw[show a+(x-a)=x by lia] at this;lia
 | false =>
  have:=p.up t (x-a) () ()
  grind
theorem J76(po:Pc g o.fi o)(pt:Pc h t.fi t)(hb:jb o t<je o t):
  Pc (fun x=>h (g x)) (J1m o t).fi (J1m o t)/\o.fi<=(J1m o t).fi/\(J1m o t).fi+(J1m o t).le<=o.fi+o.le/\∀x,(J1m o t).fi<=x->x<(J1m o t).fi+(J1m o t).le->jb o t<=g x/\g x<je o t:=by
 let{p,n,m,l}:=Jmf o t;unfold J1m;dsimp only;generalize jb o t=b at *;generalize je o t=e at *;have go:∀x,0<=x->x<e-b->g (o.fi+(if o.tu=true then o.la+o.le-e else b-o.la)+x)=if o.tu=true then e-1-x else b+x:=fun x d a=>by
  cases tu:o.tu with
  | true =>
   rw[if_pos rfl,if_pos rfl];have:=po.dn tu (o.la+o.le-e+x) () ();rw[show o.fi+(o.la+o.le-e)+x=o.fi+(o.la+o.le-e+x) by lia,this];lia
  | false =>
   rw[if_neg (by decide),if_neg (by decide)];have:=po.up tu (b-o.la+x) () ();rw[show o.fi+(b-o.la)+x=o.fi+(b-o.la+x) by lia,this];lia
 have f:∀v,b<=v->v<e->h v=if t.tu=true then t.la+t.le-1-(v-t.fi) else t.la+(v-t.fi):=fun v j i=>by
  cases tu:t.tu with
  | true =>
   rw[if_pos rfl];have:=pt.dn tu (v-t.fi) () ();rw[show t.fi+(v-t.fi)=v by lia] at this;show this
  | false =>
   rw[if_neg (by decide)];have:=pt.up tu (v-t.fi) () ();rw[show t.fi+(v-t.fi)=v by lia] at this;show this
 have val:∀x,0<=x->x<e-b->h (g (o.fi+(if o.tu=true then o.la+o.le-e else b-o.la)+x))=if (o.tu != t.tu)=true then t.la+(if t.tu=true then t.fi+t.le-e else b-t.fi)+(e-b)-1-x else t.la+(if t.tu=true then t.fi+t.le-e else b-t.fi)+x:=fun x d a=>by
  rw[go x d a,f _ (by split <;> lia) (by split <;> lia)];cases o.tu <;> cases t.tu <;> simp <;> lia
 show{{rfl,by change 1<=e-b;lia,fun z=>?_,fun z x d a=>?_,fun z x d a=>?_},?_,?_,fun x d a=>?_}
 .have z:=z;rw[xV,yU] at z;show z.2
 .have z:=z;have a:x<e-b:=a;change h (g (o.fi+_+x))=_;rw[val x d a];by_cases c:(o.tu != t.tu)=true
  .rw[if_pos c];rw[c,Bool.true_and,decide_eq_false_iff_not] at z;change _=t.la+(if t.tu=true then t.fi+t.le-e else b-t.fi)+x;lia
  .rw[if_neg c]
 .have z:=z;rw[xV] at z;have a:=a;change h (g (o.fi+_+x))=_;rw[val x d a,if_pos z.1]
 .change o.fi<=o.fi+(if o.tu=true then o.la+o.le-e else b-o.la);split <;> lia
 .change o.fi+(if o.tu=true then o.la+o.le-e else b-o.la)+(e-b)<=o.fi+o.le;split <;> lia
 .have:=go (x-(o.fi+(if o.tu=true then o.la+o.le-e else b-o.la))) () ();rw[show o.fi+(if o.tu=true then o.la+o.le-e else b-o.la)+(x-(o.fi+(if o.tu=true then o.la+o.le-e else b-o.la)))=x by lia] at this;rw[this];by_cases tu:o.tu=true
  .rw[if_pos tu] at d a;rw[if_pos tu,if_pos tu];lia
  .rw[if_neg tu] at d a;rw[if_neg tu,if_neg tu];lia
theorem Jmd{h:Int->Int}(po:Pc g o.fi o)(f:o.fi<=x)(d:x<o.fi+o.le)(m:t.fi<=g x)(l:g x<t.fi+t.le):jb o t<je o t/\(J1m o t).fi<=x/\x<(J1m o t).fi+(J1m o t).le:=by
 let{j,i}:=po.image f d;let{c,a}:=j_in j i m l;let{r,q,p,n}:=Jmf o t;unfold J1m;dsimp only;generalize jb o t=b at *;generalize je o t=e at *;have:g x=if o.tu=true then o.la+o.le-1-(x-o.fi) else o.la+(x-o.fi):=by
  cases tu:o.tu with
  | true =>
   have:=po.dn tu (x-o.fi) () ();rwa [show o.fi+(x-o.fi)=x by lia] at this
  | false =>
   have:=po.up tu (x-o.fi) () ();rwa [show o.fi+(x-o.fi)=x by lia] at this
 rw[this] at c a;by_cases tu:o.tu=true
 .rw[if_pos tu] at c a;rw[if_pos tu];show{(),(),()}
 .rw[if_neg tu] at c a;rw[if_neg tu];show{(),(),()}
def jn(os ts:List Sr):List Sr:=os.flatMap fun o=>ts.flatMap (J3g o)
theorem J71 :s∈J3g o t↔jb o t<je o t/\s=J1m o t:=by
 unfold J3g
 grind
theorem Jru :s∈jn os ts↔∃o∈os,∃t∈ts,jb o t<je o t/\s=J1m o t:=by
 unfold jn;simp only[wN,J71]
theorem jn_rep(m:Rep g 0 os N)(q:Rep h 0 ts N)(inn:∀x,0<=x->x<N->0<=g x/\g x<N)(U:0<=N)(p:L.Perm (jn os ts))(srt:L.Pairwise (fun s t=>s.fi<=t.fi)):Rep (fun x=>h (g x)) 0 L N:=by
 have n:∀s∈jn os ts,∃o∈os,∃t∈ts,s=J1m o t/\Pc (fun x=>h (g x)) s.fi s/\o.fi<=s.fi/\s.fi+s.le<=o.fi+o.le/\∀x,s.fi<=x->x<s.fi+s.le->t.fi<=g x/\g x<t.fi+t.le:=fun s l=>by
  let{o,e,t,j,hb,rfl}:=Jru.mp l;let{D,C,B,w}:=J76 (m.all o e).1 (q.all t j).1 hb;let{b1,b2,b3,b4}:=Jmf o t;show{o,e,t,j,rfl,D,C,B,fun x A z=>by have:=w x A z;lia}
 have J:(jn os ts).Pairwise (fun s t=>s.fi+s.le<=t.fi\/t.fi+t.le<=s.fi):=by
  unfold jn;rw[uC];show{fun o e=>?_,?_}
  .rw[uC];show{fun t j=>?_,?_}
   .unfold J3g;split
    .show .nil
    .show sR _ _
   .show q.pair.imp_of_mem fun {i f} H G I s l u y=>?_;let{v,rfl}:=J71.mp l;let{r,rfl}:=J71.mp y;let{D,C,B,w}:=J76 (m.all o e).1 (q.all i H).1 v;let{K,P,O,E}:=J76 (m.all o e).1 (q.all f G).1 r;let{_,_,_,c4}:=Jmf o i;let{_,M,_,_}:=Jmf o f;have l1:=D.le;have l2:=K.le;rcases wM (J1m o i).fi (J1m o f).fi with c|c
    .rcases wM (J1m o f).fi ((J1m o i).fi+(J1m o i).le) with d|d
     .have Z:=w (J1m o f).fi () d;have Y:=E (J1m o f).fi (yA _) ();lia
     .show .inl d
    .rcases wM (J1m o i).fi ((J1m o f).fi+(J1m o f).le) with d|d
     .have Z:=w (J1m o i).fi (yA _) ();have Y:=E (J1m o i).fi c d;lia
     .show .inr d
  .show m.pair.imp_of_mem fun {o1 F} H G I s l u y=>?_;let{i,R,l}:=wN.mp l;let{f,Q,y}:=wN.mp y;let{v,rfl}:=J71.mp l;let{r,rfl}:=J71.mp y;let{D,C,B,w}:=J76 (m.all o1 H).1 (q.all i R).1 v;let{K,P,O,E}:=J76 (m.all F G).1 (q.all f Q).1 r;left;lia
 show Je3 L 0 N (fun s l=>?_) (fun s l=>?_) srt ?_ (fun x A z=>?_) U
 .let{o,_,t,_,_,k,_}:=n s (p.mem_iff.mp l);show k
 .let{o,e,t,_,_,k,C,B,_}:=n s (p.mem_iff.mp l);have:=(m.all o e).2;lia
 .show(p.pairwise_iff (fun {a b} h=>h.symm)).mpr J
 .let{o,e,o1,F}:=m.cover x A z;let{T,S}:=inn x A z;let{t,j,i,f}:=q.cover (g x) T S;let{X,M,W}:=Jmd (h:=h) (m.all o e).1 o1 F i f;show{J1m o t,p.mem_iff.mpr (Jru.mpr {o,e,t,j,X,rfl}),M,W}
theorem Jml{α:Type}(p:α->Prop)[DecidablePred p]:∀(L:List α),L.Pairwise (fun a b=>¬ (p a/\p b))->(L.map fun a=>if p a then 1 else 0).sum<=1
 | [],_=>by simp
 | a::r,h=>by
  let{e,d}:=vY.mp h;rw[zL,zU];by_cases c:p a
  .have:(r.map fun a=>if p a then 1 else 0).sum=0:=by
    have:(r.map fun a=>if p a then 1 else 0)=r.map fun _=>0:=wO fun b hb=>if_neg fun z=>e b hb {c,z};rw[this];clear this h e d
    induction r with
    | nil=>rfl
    | cons b r ih=>rw[zL,zU,ih]
   rw[if_pos c,this];lia
  .have:=Jml p r d;rw[if_neg c];lia
theorem Jbc{α:Type}(f g:α->Nat):∀L:List α,(L.map fun a=>f a+g a).sum=(L.map f).sum+(L.map g).sum
 | []=>rfl
 | a::r=>by simp only[zL,zU,Jbc f g r];lia
theorem Jg8{α β:Type}(f:α->β->Nat)(ys:List β):∀xs:List α,(xs.map fun a=>(ys.map fun b=>f a b).sum).sum=(ys.map fun b=>(xs.map fun a=>f a b).sum).sum
 | []=>by
  have:∀ys:List β,(ys.map fun _=>([]:List Nat).sum).sum=0:=fun ys=>by
   induction ys with
   | nil=>rfl
   | cons b r ih=>rw[zL,zU,ih];rfl
  show(this ys).symm
 | a::r=>by
  rw[zL,zU,Jg8 f ys r,<- Jbc]
  congr 1
theorem J6k{α:Type}{f g:α->Nat}:∀{L:List α},(∀a∈L,f a<=g a)->(L.map f).sum<=(L.map g).sum
 | [],_=>zD _
 | a::r,h=>by
  rw[zL,zU,zL,zU];have:=h a (zJ ..);have:=J6k (L:=r) fun b hb=>h b (zK _ hb);lia
theorem Jbb{α:Type}:∀L:List α,(L.map fun _=>1).sum=L.length
 | []=>rfl
 | a::r=>by rw[zL,zU,Jbb r,xD];lia
theorem Jry(a:Rep g 0 os N)(p:Rep h 0 ts N)(inj:∀x y,0<=x->x<N->0<=y->y<N->g x=g y->x=y):(jn os ts).length<=os.length+ts.length:=by
 have e:(jn os ts).length=(os.map fun o=>(ts.map fun t=>(J3g o t).length).sum).sum:=by
  unfold jn;rw[tR]
  congr 1
  show wO fun o _=>?_;rw[tR]
 have b:∀o t:Sr,(J3g o t).length<=(if t.fi<=o.la/\o.la<t.fi+t.le then 1 else 0)+(if o.la<t.fi/\t.fi<o.la+o.le then 1 else 0):=fun o t=>by
  unfold J3g;split
  .simp
  .rename_i c;change 1<=_;have c:jb o t<je o t:=()
   unfold jb je at c;by_cases d:t.fi>o.la
   .rw[if_pos d] at c;have:o.la<t.fi/\t.fi<o.la+o.le:={d,by split at c <;> lia};rw[if_pos this];lia
   .rw[if_neg d] at c;have:t.fi<=o.la/\o.la<t.fi+t.le:={(),by split at c <;> lia};rw[if_pos this];lia
 rw[e];have q:(os.map fun o=>(ts.map fun t=>(J3g o t).length).sum).sum<=(os.map fun o=>(ts.map fun t=>if t.fi<=o.la/\o.la<t.fi+t.le then 1 else 0).sum+(ts.map fun t=>if o.la<t.fi/\t.fi<o.la+o.le then 1 else 0).sum).sum:=
  J6k fun o _=>by rw[<- Jbc];show J6k fun t _=>b o t
 rw[Jbc] at q;have I:(os.map fun o=>(ts.map fun t=>if t.fi<=o.la/\o.la<t.fi+t.le then 1 else 0).sum).sum<=os.length:=by
  rw[<- Jbb os];show J6k fun o _=>Jml (fun t=>t.fi<=o.la/\o.la<t.fi+t.le) ts (p.pair.imp fun {C B} f z=>?_);lia
 have H:(os.map fun o=>(ts.map fun t=>if o.la<t.fi/\t.fi<o.la+o.le then 1 else 0).sum).sum<=ts.length:=by
  rw[Jg8,<- Jbb ts];show J6k fun t _=>Jml (fun o=>o.la<t.fi/\t.fi<o.la+o.le) os (a.pair.imp_of_mem fun {o1 l} n m f z=>?_);let{j,G,F}:=a.all o1 n;let{i,E,D}:=a.all l m;let{x,A,w,ex}:=j.hit (v:=t.fi) () ();let{y,u,s,r}:=i.hit (v:=t.fi) () ();have:=inj x y () () () () (by rw[ex,r]);lia
 lia
structure Bij(N:Int)(g k:Int->Int):Prop where
 inn:∀x,0<=x->x<N->0<=g x/\g x<N
 ink:∀x,0<=x->x<N->0<=k x/\k x<N
 kg:∀x,0<=x->x<N->k (g x)=x
 gk:∀x,0<=x->x<N->g (k x)=x
theorem Bij.inj(b:Bij N g k):∀x y,0<=x->x<N->0<=y->y<N->g x=g y->x=y:=fun x y f d c a e=>by
 rw[<- b.kg x f d,<- b.kg y c a,e]
theorem Bij.comp(a : Bij N g k)(b : Bij N h l): Bij N (fun x => h (g x)) (fun x => k (l x)):=
  {fun x d c => let ⟨i, j⟩:= a.inn x d c; b.inn _ i j, fun x d c => let ⟨i, j⟩:= b.ink x d c; a.ink _ i j,
   fun x d c => by let{i, j}:= a.inn x d c; rw[b.kg _ i j, a.kg x d c],
   fun x d c => by let{i, j}:= b.ink x d c; rw[a.gk _ i j, b.gk x d c]}
noncomputable def kL(ls:List Int)(os:List Nat)(ts:List Bool)(y:Int):Int:=by
 classical show if h:∃x,(0<=x/\x<ls.sum)/\gL ls os ts x=y then h.choose else 0
theorem gL_sur(O:Ord ls os)(c:0<=y)(b:y<ls.sum):∃x,(0<=x/\x<ls.sum)/\gL ls os ts x=y:=by
 let{j,q}:=O.exists c b;have m:=Jdd (gs:=eK ls (List.range ls.length)) (ts:=ts) q;let{a,d}:=m;have i:=O.range.inside a;show{_,i,?_};rw[Jdm O a];show d
theorem J5w(O:Ord ls os):Bij ls.sum (gL ls os ts) (kL ls os ts):=by
 have sp:∀y,0<=y->y<ls.sum->(0<=kL ls os ts y/\kL ls os ts y<ls.sum)/\gL ls os ts (kL ls os ts y)=y:=fun y e d=>by
  have h:=gL_sur (ts:=ts) O e d;unfold kL;rw[dif_pos h];show h.choose_spec
 show{fun x g f=>gL_in O g f,fun y e d=>(sp y e d).1,fun x g f=>?_,fun y e d=>(sp y e d).2};let{i,j}:=gL_in (ts:=ts) O g f;let{{a,b},c}:=sp _ i j;show gL_inj O a b g f c
structure PlG(g:Int->Int)(N:Int)(ls:List Int)(os:List Nat)(ts:List Bool):Prop where
 ex:∃L,RepS g 0 L N/\ls=L.map Sr.le/\ts=L.map Sr.tu/\PlO L os
theorem PlG.ord(h:PlG g N ls os ts):Ord ls os:=by
 let{L,R,rfl,rfl,P}:=h.ex;show R.ord P.perm
theorem PlG.len(h:PlG g N ls os ts):ts.length=ls.length:=by
 let{L,R,rfl,rfl,P}:=h.ex;rw[zB,zB]
theorem PlG.sum(h:PlG g N ls os ts):ls.sum=N:=by
 let{L,R,rfl,rfl,P}:=h.ex;have:=R.tot;lia
theorem PlG.goes(h:PlG g N ls os ts)(b:Bij N g k):∀x,0<=x->x<N->gL ls os ts x=g x:=by
 have O:=h.ord;let{L,R,rfl,rfl,P}:=h.ex;have a:=J8w (ts:=L.map Sr.tu) O;rw[R.own b.inj b.inn P.perm P.srt] at a;show fun x d c=>((R.rep.val a).2 x d c).symm
theorem Jme(a:Bij N g k)(e:Bij N h l)(c:Rep g 0 os N)(b:Rep h 0 ts N)(d:0<=N)(p:L.Perm (jn os ts))(srt:L.Pairwise (fun s t=>s.fi<=t.fi)):RepS (fun x=>h (g x)) 0 (lgst L) N:=
 Jqh (a.comp e).inj (jn_rep c b a.inn d p srt)
end Rl
namespace L2
open PySem PyProof.Rows
theorem Ju1{K:Frag}(xs:List V)(F:Nat->V)(h:SqT K H1 a xs)(z:xs.length<=sizeLine)(hd:H1 d=none)(s:∀(i:Nat) (H:Hp) (p:VK) (v:V),xs[i]?=some v->Same H1 H->(∀f,Same H f->p (F i) f)->te (some v::capv σ js) H p)(r:∀f,Same H1 f->f d=some (.lst ((List.range xs.length).map F))->Q (.ref d) f):LCW (Itt K a) tYes te σ js Q H1 d:=by
 have s0:∀o,Same H1 (upd H1 d o):=fun o b u e=>by rw[Jf (Ja e hd)];show e
 show{fun i m ys H=>m=xs.length-i/\i<=xs.length/\ys=(List.range i).map F/\Same H1 H/\H d=some (.lst ys),{xs.length,rfl,zO _,rfl,s0 _,J2},?_};rintro i m ys y ⟨rfl,hi,rfl,c,l⟩;show{l,?_};by_cases g:i<xs.length
 .show .inr {{_,_,c.tup h,gEq g},?_,fun v w q=>?_}
  .rw[zB,yC];lia
  .let{rfl,j}:=q;have j:=j _ (c.tup h);show s i w _ v j c fun A n=>{n _ _ l,xs.length-(i+1),(),rfl,g,?_,?_,J2}
   .rw[wK,yE];rfl
   .intro b u e;rw[Jf (Ja e hd)];show n _ _ (c _ _ e)
 .have e:i=xs.length:=()
  subst e;show .inl {{_,c.tup h,zD _},r y c l}
end L2
namespace L2
open PySem PySem.Spec PyProof.Rows
def LCW2(K:Frag)(J:It)(l:TT)(j:TE)(σ:St)(js:List Nat)(Q:VK)(n:Hp)(d:Addr):Prop:=∃W:Nat->Nat->List V->Hp->Prop,(∃m,W 0 m [] (upd n d (.lst [])))/\
 ∀i m ys c,W i m ys c->c d=some (.lst ys)/\((J.stop i c/\Q (.ref d) c)\/(J.go i c/\ys.length<sizeLine/\∀v f,J.yld i c v f->
  ∃p a b,v=.ref p/\SqT K f p [a,b]/\l (some a::some b::capv σ js) f fun bb h=>if bb=true then j (some a::some b::capv σ js) h fun y g=>g d=some (.lst ys)/\∃e,e<m/\W (i+1) e (ys++[y]) (upd g d (.lst (ys++[y])))
   else ∃e,e<m/\W (i+1) e ys h))
def tLC2(K:Frag)(b:TI)(e:TT)(c:TE)(js:List Nat):TE:=fun σ H Q=>b σ H fun J a=>∀d,a d=none->LCW2 K J e c σ js Q a d
section
variable{X:Cx}{elt iter:Expr}{ifs:List Expr}{x y z:Str}{px py pz tp:Pos}{kk:Nat}{scope:Scope}{cl:List (Str×Addr)}{pos spos:Pos}{wi:TI}{tc:TT}{te:TE}{caps:List Str}{js:List Nat}{i:Nat}
theorem Jja(S:X.calm=true)(hp:PI X (.Tuple [.Name x px,.Name z pz] kk tp) iter wi)(he:∀(C:Addr) (u:List Addr) (s:Shared) (H:Hp),PE (X.block (x::z::caps) scope cl C u s H) elt te)(ht:∀(C:Addr) (u:List Addr) (s:Shared) (H:Hp),PTs (X.block (x::z::caps) scope cl C u s H) ifs tc)(q:∀p∈scope.names,p.2≠.cell)(e:∀p∈scope.names,p.2=.local->scope.names.lookup p.1=some .local)(F:(x::z::caps).Nodup)(E:∀p∈cl,X.env.cells.lookup p.1=some p.2)(L:∀p∈scope.names,p.2=.free->∃c,cl.lookup p.1=some c)(G:caps.length=js.length)(r:∀(k:Nat) (c:Str),caps[k]?=some c->∃(j:Nat) (a:Addr),js[k]?=some j/\X.N[j]?=some c/\X.env.scope.names.lookup c=some .cell/\cl.lookup c=some a/\(relabel scope X.env).names.lookup c=some .cell)(l:closureFor scope X.env=pure cl)(f:scope.kind=.function)(hx:scope.names.lookup x=some .local)(O:scope.names.lookup z=some .local)(hs:∀v,foldedSetIterable iter X.env v=pure v)(I:Inv X pins σ H s)(h:tLC2 X.K wi tc te js σ H Q)(fin:∀(d:Addr) (R:Hp) (M:Shared) (C:Addr),Inv X pins σ R M->Q (.ref d) R->(∃m,M.heap.Ns C m)->FpOk X pins R C->compPost (model X.prog X.w) X.A X.xe use QV (.ref d) C (.ok .next) M):
  wpAny (model X.prog X.w) X.A (comprehension (.ListComp elt [{.Tuple [.Name x px,.Name z pz] kk tp,iter,ifs,0}] scope pos) scope X.env p0 (newList []) false (eval iter X.env) use) QV X.xe s:=by
 have D:(relabel scope X.env).names.lookup x=some .local:=wY hx;have B:(relabel scope X.env).names.lookup z=some .local:=wY O;show J60 (g:=gTup X.K 2 (J9g (J5e 0) (J9g (J5e 1) gNil))) (xr:=[z]) S hp (fun C u s H=>J7w (X:=X.block (x::z::caps) scope cl C u s H) (pos:=tp) (k:=kk) (n:=2) S
  (J1k (J3v (X:=X.block (x::z::caps) scope cl C u s H) (i:=0) (pos:=px) F rfl (.inl D) (.inr D))
   (J1k (J3v (X:=X.block (x::z::caps) scope cl C u s H) (i:=1) (pos:=pz) F rfl (.inl B) (.inr B)) J58)) rfl rfl) he ht q e E L G r l f hs I h (fun J H1 hL d hd=>?_) fin
 let{W,Y,T}:=hL d hd;show{W,Y,fun i m ys U w=>{(T i m ys U w).1,(T i m ys U w).2.imp id fun⟨go,hz,st⟩=>{go,hz,fun v H3 y Z P=>?_}}};let{p,a,b,rfl,sq,st}:=st v H3 y
 match Z,P with
 | [o,o2],_=>show{p,[a,b],rfl,sq,rfl,a,[b],rfl,b,[],rfl,rfl,[some a,some b],rfl,rfl,st}
theorem pe_lc2(L:X.calm=true)(G:PI X (.Tuple [.Name x px,.Name z pz] kk tp) iter wi)(i:closureFor scope X.env=pure cl)(E:∀(C:Addr) (c:List Addr) (s:Shared) (H:Hp),PTs (X.block (x::z::caps) scope cl C c s H) ifs tc)(J:∀(C:Addr) (c:List Addr) (s:Shared) (H:Hp),PE (X.block (x::z::caps) scope cl C c s H) elt te)(j:∀p∈scope.names,p.2≠.cell:=by decide +kernel)(a:∀p∈scope.names,p.2=.local->scope.names.lookup p.1=some .local:=by decide +kernel)(A:(x::z::caps).Nodup:=by decide +kernel)(n:∀p∈cl,X.env.cells.lookup p.1=some p.2:=by repeat (first|show tM _|show tN.mpr {rfl,?_}))(r:J3r scope cl=true:=by rfl)(f:caps.length=js.length:=by rfl)(l:J4x X scope cl caps js=true:=by rfl)(g:scope.kind=.function:=by rfl)(D:scope.names.lookup x=some .local:=by rfl)(w:scope.names.lookup z=some .local:=by rfl)(F:∀v,foldedSetIterable iter X.env v=pure v:=by intro _;rfl):
  PE X (.ListComp elt [{.Tuple [.Name x px,.Name z pz] kk tp,iter,ifs,0}] scope pos) (tLC2 X.K wi tc te js):=by
 intro pins s σ H Q I h;rw[eval_ListComp];show Jja (use:=none) L G J E j a A n (J3r.get r) f (J4x.get f l) i g D w F I h fun d O B C N q M c=>?_;let{m,u}:=M;show{m,u,fun h' y=>{.ref d,O,N.turned (h':=h') (t':=B.toks) (it:=C) (fun b o hb e=>(y.2 b hb).trans e) c.1 c.2.1 c.2.2.2.1 c.2.2.2.2.1 c.2.2.2.2.2,rfl,q}}
end
section
variable{K:Frag}{a:Addr}{H1:Hp}{tc:TT}{te:TE}{σ:St}{js:List Nat}{Q:VK}{d:Addr}
theorem Jqj(xs:List V)(r:Hp->Addr->Nat->Prop)(z:SqT K H1 a xs)(J:xs.length<=sizeLine)(hd:H1 d=none)(mono:∀H c q i,Jr2 d H c->q≠d->r H q i->r c q i)(I:∀(i:Nat) (v:V),xs[i]?=some v->∀H D,Same H1 H->(∃ys,H d=some (.lst ys))->(∀q c,Same H c->q≠d->r c q i->D (.ref q) c)->te (some (.int (i:Nat))::some v::capv σ js) H D)(F:∀ys c,Same H1 c->c d=some (.lst ys)->Refs (fun q i=>r c q i) ys xs.length->Q (.ref d) c):LCW2 K (Ite K a) tYes te σ js Q H1 d:=by
 have s0:∀o,Same H1 (upd H1 d o):=fun o b u e=>by rw[Jf (Ja e hd)];show e
 show{fun i m ys H=>m=xs.length-i/\i<=xs.length/\Same H1 H/\H d=some (.lst ys)/\Refs (fun q i=>q≠d/\r H q i) ys i,{_,rfl,zO _,s0 _,J2,Refs.nil},?_};rintro i m ys C ⟨rfl,hi,f,s,y⟩;show{s,?_};by_cases l:i<xs.length
 .show .inr {{_,_,f.tup z,gEq l},by rw[y.len];lia,fun v M E=>?_};let{p,x,rfl,G,rfl,A}:=E;have A:=A _ (f.tup z);have g:Same C (upd C p (.tup [.int (i:Int),x])):=fun b u e=>by rw[Jf (Ja e G)];show e
  show{p,_,_,rfl,SqT.of J2,?_};unfold tYes;dsimp only;rw[if_pos rfl];show I i x A _ _ (f.trans g) {_,g _ _ s} fun q L w h B=>{w _ _ (g _ _ s),xs.length-(i+1),(),rfl,l,?_,J2,?_}
  .intro b u e;rw[Jf (Ja e hd)];show w _ _ (g _ _ (f _ _ e))
  .have kd:∀H,Jr2 d H (upd H d (.lst (ys++[.ref q]))):=fun H b o e n=>by rw[Jf n];show e
   show(y.mono fun a j _ x=>{x.1,?_}).snoc {h,mono _ _ _ _ (kd _) h B};show mono _ _ _ _ (fun b o e n=>kd _ _ _ (w _ _ (g _ _ e)) n) x.1 x.2
 .have e:i=xs.length:=()
  subst e;show .inl {{_,f.tup z,zD _},F ys C f s (y.mono fun _ _ _ x=>x.2)}
end
end L2
namespace Rl
def posR(ls:List Int)(row:List Nat)(j:Nat):Int:=J4 ls (row.take (row.idxOf j))
theorem J2y(ls:List Int)(j:Nat)(ys:List Nat):posR ls (j::ys) j=0:=by
 unfold posR;rw[List.idxOf_cons_self];rfl
theorem Ju(ls:List Int)(h:i≠j)(ys:List Nat):posR ls (i::ys) j=ls.getD i 0+posR ls ys j:=by
 unfold posR;have a:(i==j)=false:=by simpa using h
 rw[List.idxOf_cons,a];change J4 ls ((i::ys).take (ys.idxOf j+1))=_;rw[List.take_succ_cons,Jn]
theorem Jy(ls:List Int)(ys:List Nat)(h:j ∉ xs):posR ls (xs++ys) j=J4 ls xs+posR ls ys j:=by
 induction xs with
 | nil=>rw[nil_append,J26,yZ]
 | cons a r ih =>
  rw[uW,Ju _ (fun e=>h (by rw[e];show zJ)),ih fun q=>h (zK _ q),Jn];lia
theorem Jx(ls:List Int)(ys:List Nat)(h:j∈xs):posR ls (xs++ys) j=posR ls xs j:=by
 induction xs with
 | nil=>cases h
 | cons a r ih =>
  by_cases e:a=j
  .subst e;rw[uW,J2y,J2y]
  .rw[uW,Ju _ e,Ju _ e,ih ((zI.mp h).resolve_left fun q=>e q.symm)]
theorem Jv(ls:List Int)(ys:List Nat)(h:j ∉ xs):posR ls (xs++j::ys) j=J4 ls xs:=by
 rw[Jy _ _ h,J2y,yR]
theorem J92(h:∀j∈row,0<=ls.getD j 0)(j:Nat):0<=posR ls row j:=J16 fun i hi=>h i (tT hi)
theorem J67(h:∀j∈row,0<=ls.getD j 0)(b:j∈row):posR ls row j+ls.getD j 0<=J4 ls row:=by
 obtain⟨s,t,rfl,c⟩:∃s t,row=s++j::t/\j ∉ s:=by
  induction row with
  | nil=>cases b
  | cons a r ih =>
   by_cases e:a=j
   .show{[],r,by rw[e];rfl,by simp}
   .let{s,t,f,d}:=ih (fun j b=>h j (zK _ b)) ((zI.mp b).resolve_left fun q=>e q.symm);show{a::s,t,by rw[f];rfl,fun q=>(zI.mp q).elim (fun q=>e q.symm) d}
 rw[Jv _ _ c,Jh,Jn];have:=J16 (ls:=ls) (os:=t) fun i hi=>h i (yW _ (zK _ hi));lia
theorem J6l{row:List Nat}(b:j∈row):∃s t,row=s++j::t/\j ∉ s:=by
 induction row with
 | nil=>cases b
 | cons a r ih =>
  by_cases e:a=j
  .show{[],r,by rw[e];rfl,by simp}
  .let{s,t,d,c}:=ih ((zI.mp b).resolve_left fun q=>e q.symm);show{a::s,t,by rw[d];rfl,fun q=>(zI.mp q).elim (fun q=>e q.symm) c}
theorem J57(ls:List Int)(nd:row.Nodup)(hi:i<row.length):posR ls row (row.getD i 0)=Jr ls row i:=by
 have e:row.idxOf (row.getD i 0)=i:=by
  simp_all
 unfold posR;rw[e,J4v ls row i ()];rfl
def Jz(r:Rst)(y:Int)(j:Nat)(o:Int):Prop:=j∈r.top/\0<=o/\o<r.ls.getD j 0/\y=posR r.ls r.top j+o
def offT(r:Rst)(j:Nat)(o:Int):Int:=if r.ts.getD j false=true then r.ls.getD j 0-1-o else o
theorem Jz.off(h:Jz r y j o):0<=offT r j o/\offT r j o<r.ls.getD j 0:=by
 let{_,b,a,_}:=h;unfold offT;grind
theorem Jz.of_at(h:r.Ok)(a:AtR r.ls r.top y i):Jz r y (r.top.getD i 0) (y-Jr r.ls r.top i):=by
 let{b,d,c}:=a;rw[J15] at c;show{J2c b,(),(),by rw[J57 _ h.row.nd b];lia}
theorem Jz.at_(h:r.Ok)(a:Jz r y j o):∃i,AtR r.ls r.top y i/\r.top.getD i 0=j/\y-Jr r.ls r.top i=o:=by
 let{b,d,c,rfl}:=a;let{i,hi,rfl}:=Jhb b;rw[J57 _ h.row.nd hi];show{i,{hi,(),by rw[J15];lia},rfl,()}
theorem Jz.same(h:r.Ok)(a:Jz r y j o)(b:Jz r y j' o'):j=j'/\o=o':=by
 let{i,d,rfl,rfl}:=a.at_ h;let{e,c,rfl,rfl}:=b.at_ h;obtain rfl:=h.row.unique d c;show{rfl,rfl}
theorem Rst.Ok.letAt(h:r.Ok)(b:0<=y)(a:y<r.size):∃j o,Jz r y j o:=by
 let{i,hi}:=h.row.exists b a;show{_,_,Jz.of_at h hi}
theorem Jz.inside(h:r.Ok)(a:Jz r y j o):0<=y/\y<r.size:=by
 let{i,b,_}:=a.at_ h;show h.row.inside b
theorem J8n(h:r.Ok):J3a r y z↔∃j o,Jz r y j o/\z=posR r.ls r.bot j+offT r j o:=by
 have b:∀j,j∈r.top->(eK r.ls r.bot).getD j 0=posR r.ls r.bot j:=fun j e=>by
  let{k,c,rfl}:=Jhb (h.perm.mem_iff.mpr e);rw[h.rowB.first c,J57 _ h.rowB.nd c]
 constructor
 .rintro⟨i,hi,rfl⟩;show{_,_,Jz.of_at h hi,?_};unfold J4m offT;rw[b _ (J2c hi.1)];split <;> lia
 .rintro⟨j,o,a,rfl⟩;let{i,d,rfl,rfl}:=a.at_ h;show{i,d,?_};unfold J4m offT;rw[b _ (J2c d.1)];split <;> lia
open Classical in
noncomputable def go(r:Rst)(y:Int):Int:=if h:∃z,J3a r y z then Classical.choose h else y
theorem go_of(h:r.Ok)(g:J3a r y z):go r y=z:=by
 unfold go;rw[dif_pos {z,g}];show h.fun_ (Classical.choose_spec {z,g}) g
theorem Ju8(h:r.Ok)(b:0<=y)(a:y<r.size):J3a r y (go r y):=by
 let{z,g}:=h.there b a;rw[go_of h g];show g
theorem J2j(h:r.Ok)(a:Jz r y j o):go r y=posR r.ls r.bot j+offT r j o:=go_of h ((J8n h).mpr {j,o,a,rfl})
theorem go_in(h:r.Ok)(b:0<=y)(a:y<r.size):0<=go r y/\go r y<r.size:=h.stays (Ju8 h b a)
theorem go_inj(h:r.Ok)(g:0<=y)(f:y<r.size)(d:0<=z)(c:z<r.size)(e:go r y=go r z):y=z:=by
 have a:=Ju8 h g f;have b:=Ju8 h d c;rw[e] at a;show h.inj a b
theorem J8f(e:row=X++w::(Y++[l]))(nd:row.Nodup)(a:Bool):putR row w l a=X++(if a=true then l::w::Y else w::l::Y):=by
 subst e;have j:X++w::(Y++[l])=(X++w::Y)++[l]:=by simp
 rw[j] at nd ⊢;have b:=xL.mp nd;have h:=xL.mp b.1;have c:=fun q=>h.2.2 w q w zJ rfl;have i:=fun q=>b.2.2 l q l (by simp) rfl;have d:eG (X++w::Y++[l]) l=X++w::Y:=by
  rw[J1q,J1x,yM];show J1p i
 unfold putR;rw[d,J9e Y c];have g:(X++w::Y).take (X.length+1)=X++[w]:=by
  rw[show X++w::Y=(X++[w])++Y by simp,show X.length+1=(X++[w]).length by simp,List.take_left]
 have f:(X++w::Y).drop (X.length+1)=Y:=by
  simp
 cases a with
 | true=>simp
 | false=>rw[ if_neg (by decide),g,f];simp
theorem J4u(h:w ∉ X):J6 (X++w::Y) w=Y:=by
 unfold J6;rw[J9e Y h,show X++w::Y=(X++[w])++Y by simp,show X.length+1=(X++[w]).length by simp,drop_left]
theorem J1e(ne:row≠[]):∃D,row=D++[row.getD (row.length-1) 0]:={_,Jai ne}
theorem J8j(ne:row≠[])(f:a∈row)(d:row.getD (row.length-1) 0≠a):∃X Y,row=X++a::(Y++[row.getD (row.length-1) 0])/\a ∉ X:=by
 let{D,e}:=J1e ne;generalize row.getD (row.length-1) 0=b at *;subst e;have c:=(yF.mp f).resolve_right fun q=>d (zF.mp q).symm;let{X,Y,rfl,g}:=J6l c;show{X,Y,by simp,g}
theorem J10(ls:List Int)(v:Int)(h:a ∉ row)(j:Nat):posR (ls.set a v) row j=posR ls row j:=Ji _ _ fun q=>h (tT q)
theorem J2f(ls:List Int)(v:Int)(h:a ∉ T)(b:j∈T++[a]):posR (ls.set a v) (T++[a]) j=posR ls (T++[a]) j:=by
 by_cases c:j∈T
 .rw[Jx _ _ c,Jx _ _ c,J10 _ _ h]
 .obtain rfl:j=a:=by simpa [c] using b
  rw[Jv _ _ c,Jv _ _ c,Ji _ _ c]
def LoseP(r l:Rst)(y:Int)(j:Nat):Stp->Prop
 | .home _=>False
 | .even w _=>(∃o',Jz r y j o')/\l.size<=go r y/\(∃o',Jz r (go r y) w o')/\go r (go r y)=go l y
 | .over w _=>(∃o',Jz r y j o')/\l.size<=go r y/\(∃o',Jz r (go r y) w o')/\go r (go r y)=go l y
 | .under w _=>(∃o',Jz r y w o')/\l.size<=go r y/\(∃o',Jz r (go r y) j o')/\go r (go r y)=go l y
 | .overs w t=>(∃o',Jz r y j o')/\(∀k:Int,0<=k->k<t->l.size<=go r y-k*J4 r.ls (J6 r.bot w)/\(∃o',Jz r (go r y-k*J4 r.ls (J6 r.bot w)) w o')/\
   go r (go r y-k*J4 r.ls (J6 r.bot w))=go r y-k*J4 r.ls (J6 r.bot w)-J4 r.ls (J6 r.bot w))/\go r y-t*J4 r.ls (J6 r.bot w)=go l y
 | .unders w t=>(∀k:Int,0<=k->k<t->(∃o',Jz r (y+k*J4 r.ls (J6 r.top w)) w o')/\go r (y+k*J4 r.ls (J6 r.top w))=y+k*J4 r.ls (J6 r.top w)+J4 r.ls (J6 r.top w)/\
   l.size<=y+k*J4 r.ls (J6 r.top w)+J4 r.ls (J6 r.top w))/\(∃o',Jz r (y+t*J4 r.ls (J6 r.top w)) j o')/\go r (y+t*J4 r.ls (J6 r.top w))=go l y
structure J7f(r:Rst)(s:Stp):Prop where
 plain:∀y j o,Jz (s.eB r) y j o->j ∉ s.eE r->(∃o',Jz r y j o')/\go r y=go (s.eB r) y
 lose:∀y j o,Jz (s.eB r) y j o->j∈s.eE r->LoseP r (s.eB r) y j s
theorem J1v{T:List Nat}(h:(T++[a]).Nodup):a ∉ T:=fun q=>(xL.mp h).2.2 a q a (by simp) rfl
theorem J80{X:List Nat}(h:(X++a::Y).Nodup):a ∉ X/\a ∉ Y/\∀j∈X,j ∉ Y:=by
 have n:=xL.mp h;have b:=yN.mp n.2.1;show{fun q=>n.2.2 a q a zJ rfl,b.1,fun j c q=>n.2.2 j c j (zK _ q) rfl}
theorem J11(ls:List Int)(a:Nat):J4 ls [a]=ls.getD a 0:=by rw[Jn,J26,yR]
theorem Jp1{r:Rst}(h:r.Ok)(ne:r.top≠[]){a:Nat}(n:J2u r (.home a))(okl:((Stp.home a).eB r).Ok):J7f r (.home a):=by
 let{w,v}:=n;have f:r.bot≠[]:=fun e=>ne (by have:=h.perm;rw[e] at this;show this.symm.eq_nil);let{T,b}:=J1e ne;let{B,c}:=J1e f;have b:r.top=T++[a]:=by rw[w];show b
 have c:r.bot=B++[a]:=by rw[v];show c
 have l:=J1v (b▸h.row.nd);have s:=J1v (c▸h.rowB.nd);have la:=h.row.lt a (by rw[b];simp);show{fun y j o A m=>?_,fun y j o A m=>nomatch m};have lt:((Stp.home a).eB r).top=T:=by change eG r.top a=T;rw[b,J1q,J1x,yM,J1p l]
 have z:((Stp.home a).eB r).bot=B:=by change eG r.bot a=B;rw[c,J1q,J1x,yM,J1p s]
 have g:=J2j okl A;let{d,F,E,A4}:=A;rw[lt] at d A4;have i:j≠a:=fun e=>l (e▸d);have p:((Stp.home a).eB r).ls.getD j 0=r.ls.getD j 0:=by change(r.ls.set a 0).getD j 0=_;rw[Jw _ _ _ _ la,if_neg i]
 have D:((Stp.home a).eB r).ts.getD j false=r.ts.getD j false:=by change(r.ts.set a false).getD j false=_;rw[J2l _ _ _ _ (by rw[h.len];show la),if_neg i]
 have C:j∈B:=by
  have:j∈r.bot:=h.perm.mem_iff.mpr (by rw[b];show yT _ d);rw[c] at this;show(yF.mp this).resolve_right fun q=>i (zF.mp q)
 have u:Jz r y j o:=by
  show{by rw[b];show yT _ d,F,by rw[<- p];show E,?_};rw[A4,b,Jx _ _ d];change posR (r.ls.set a 0) T j+o=_;rw[J10 _ _ l]
 show{{o,u},?_};rw[J2j h u,g,z,c,Jx _ _ C];change _=posR (r.ls.set a 0) B j+_;rw[J10 _ _ s];unfold offT;rw[p,D]
theorem Jp2(h:r.Ok)(ne:r.top≠[])(n:J2u r (.even a b))(okl:((Stp.even a b).eB r).Ok):J7f r (.even a b):=by
 let{S,K,B,R}:=n;have G:r.bot≠[]:=fun e=>ne (by have:=h.perm;rw[e] at this;show this.symm.eq_nil);let{T,i}:=J1e ne;have i:r.top=T++[a]:=by rw[S];show i
 have l:a∈r.top:=by rw[i];simp
 let{X,Y,f,D}:=J8j G (h.perm.mem_iff.mpr l) (fun e=>B (by rw[K];show e.symm));have f:r.bot=X++a::(Y++[b]):=by rw[K];show f
 have v:b∈r.top:=h.perm.mem_iff.mp (by rw[f];simp);have w:=J1v (i▸h.row.nd);have u:=f▸h.rowB.nd;let{_,J,XY}:=J80 u;have P:=fun q=>J (yT _ q);have O:=fun q=>XY b q (by simp);have bY:=J1v (yN.mp (xL.mp u).2.1).2;have la:=h.row.lt a l;have H:=h.row.lt b v;have pb:=h.row.pos b v;have lt:((Stp.even a b).eB r).top=T:=by change eG r.top a=T;rw[i,J1q,J1x,yM,J1p w]
 have L:((Stp.even a b).eB r).bot=X++b::Y:=by
  change eG (putR r.bot a b false) a=_;rw[J8f f h.rowB.nd,if_neg (by decide),show X++a::b::Y=X++([a]++([b]++Y)) by simp,J1q,J1q,J1q,J1x,J1p D,J1p P,J1p (xs:=[b]) (by simpa using B)];simp
 have C:∀j,j≠a->((Stp.even a b).eB r).ls.getD j 0=r.ls.getD j 0:=fun j d=>by change(r.ls.set a 0).getD j 0=_;rw[Jw _ _ _ _ la,if_neg d]
 have N:∀j,j≠a->((Stp.even a b).eB r).ts.getD j false=if j=b then (r.ts.getD a false != r.ts.getD b false) else r.ts.getD j false:=fun j d=>by
  change((J2g r a b).set a false).getD j false=_;rw[J2l _ _ _ _ (by rw[J34,h.len];show la),if_neg d];unfold J2g;rw[J2l _ _ _ _ (by rw[h.len];show H)]
 have sz:r.size=J4 r.ls T+r.ls.getD a 0:=by change J4 r.ls r.top=_;rw[i,Jh,J11]
 have E:((Stp.even a b).eB r).size=J4 r.ls T:=by change J4 (r.ls.set a 0) ((Stp.even a b).eB r).top=_;rw[lt,Ji _ _ w]
 have Q:r.size=J4 r.ls X+r.ls.getD a 0+J4 r.ls Y+r.ls.getD b 0:=by rw[<- h.sizeB,f,Jh,Jn,Jh,J11];lia
 have s:posR r.ls r.bot b=J4 r.ls X+r.ls.getD a 0+J4 r.ls Y:=by
  rw[f,Jy _ _ O,Ju _ B,Jv _ _ bY];lia
 have F:posR r.ls r.bot a=J4 r.ls X:=by rw[f,Jv _ _ D]
 have up:∀{y o:Int} {j:Nat},Jz ((Stp.even a b).eB r) y j o->j≠a/\j∈T/\Jz r y j o:=fun {y o j} A=>by
  let{z,A2,A3,A4}:=A;rw[lt] at z A4;have d:j≠a:=fun e=>w (e▸z);show{d,z,by rw[i];show yT _ z,A2,by rw[<- C j d];show A3,?_};rw[A4,i,Jx _ _ z];change posR (r.ls.set a 0) T j+o=_;rw[J10 _ _ w]
 have M:J4 ((Stp.even a b).eB r).ls X=J4 r.ls X:=Ji _ _ D;show{fun y j o A I=>?_,fun y j o A I=>?_}
 .have jb:j≠b:=fun e=>I (zF.mpr e);have g:=J2j okl A;let{d,W,p}:=up A;show{{o,p},?_};have eo:offT ((Stp.even a b).eB r) j o=offT r j o:=by unfold offT;rw[C j d,N j d,if_neg jb]
  rw[J2j h p,g,L,f,eo];have Z:j∈X++a::(Y++[b]):=by rw[<- f];show h.perm.mem_iff.mpr p.1
  congr 1
  by_cases c:j∈X
  .rw[Jx _ _ c,Jx _ _ c];change _=posR (r.ls.set a 0) X j;rw[J10 _ _ D]
  .have U:j∈Y:=by simpa [c,d,jb] using Z
   rw[Jy _ _ c,Jy _ _ c,Ju _ (Ne.symm d),Ju _ (Ne.symm jb),Jx _ _ U,M,C b (Ne.symm B)];change _=_+(_+posR (r.ls.set a 0) Y j);rw[J10 _ _ P];lia
 .cases zF.mp I;have g:=J2j okl A;let{d,W,p}:=up A;have g':=J2j h p;have of:=p.off;have m:Jz r (go r y) a (offT r b o):={l,of.1,(),by rw[g',s,i,Jv _ _ w];lia};have g2:=J2j h m;show{{o,p},by rw[E,g',s];lia,{_,m},?_};rw[g2,g,L,F,Jv _ _ O,M]
  congr 1
  unfold offT;rw[C b d,N b d,if_pos rfl,R];cases r.ts.getD a false <;> cases r.ts.getD b false <;> simp <;> lia
theorem Jp0(h:r.Ok)(ne:r.top≠[])(n:J2u r (.over a b))(okl:((Stp.over a b).eB r).Ok):J7f r (.over a b):=by
 let{U,P,l,n4}:=n;have H:r.bot≠[]:=fun e=>ne (by have:=h.perm;rw[e] at this;show this.symm.eq_nil);let{T,p}:=J1e ne;have p:r.top=T++[a]:=by rw[U];show p
 have u:a∈r.top:=by rw[p];simp
 let{X,Y,i,F}:=J8j H (h.perm.mem_iff.mpr u) (fun e=>l (by rw[P];show e.symm));have i:r.bot=X++a::(Y++[b]):=by rw[P];show i
 have E:b∈r.top:=h.perm.mem_iff.mp (by rw[i];simp);have M:=J1v (p▸h.row.nd);have C:=i▸h.rowB.nd;let{_,L,XY}:=J80 C;have aY:=fun q=>L (yT _ q);have D:=fun q=>XY b q (by simp);have bY:=J1v (yN.mp (xL.mp C).2.1).2;have la:=h.row.lt a u;have I:=h.row.lt b E;have pb:=h.row.pos b E;have lt:((Stp.over a b).eB r).top=T++[a]:=p;have Q:((Stp.over a b).eB r).bot=X++(if r.ts.getD a false=true then b::a::Y else a::b::Y):=J8f i h.rowB.nd _;have w:∀j,j≠a->((Stp.over a b).eB r).ls.getD j 0=r.ls.getD j 0:=fun j f=>by change(r.ls.set a _).getD j 0=_;rw[Jw _ _ _ _ la,if_neg f]
 have d:((Stp.over a b).eB r).ls.getD a 0=r.ls.getD a 0-r.ls.getD b 0:=by change(r.ls.set a _).getD a 0=_;rw[Jw _ _ _ _ la,if_pos rfl]
 have K:∀j,((Stp.over a b).eB r).ts.getD j false=if j=b then (r.ts.getD a false != r.ts.getD b false) else r.ts.getD j false:=fun j=>by
  change(J2g r a b).getD j false=_;unfold J2g;rw[J2l _ _ _ _ (by rw[h.len];show I)]
 have sz:r.size=J4 r.ls T+r.ls.getD a 0:=by change J4 r.ls r.top=_;rw[p,Jh,J11]
 have G:((Stp.over a b).eB r).size=J4 r.ls T+r.ls.getD a 0-r.ls.getD b 0:=by
  change J4 ((Stp.over a b).eB r).ls ((Stp.over a b).eB r).top=_;rw[lt,Jh,J11,d,show J4 ((Stp.over a b).eB r).ls T=J4 r.ls T from Ji _ _ M];lia
 have S:r.size=J4 r.ls X+r.ls.getD a 0+J4 r.ls Y+r.ls.getD b 0:=by rw[<- h.sizeB,i,Jh,Jn,Jh,J11];lia
 have z:posR r.ls r.bot b=J4 r.ls X+r.ls.getD a 0+J4 r.ls Y:=by
  rw[i,Jy _ _ D,Ju _ l,Jv _ _ bY];lia
 have B:posR r.ls r.bot a=J4 r.ls X:=by rw[i,Jv _ _ F]
 have up:∀{y o:Int} {j:Nat},Jz ((Stp.over a b).eB r) y j o->Jz r y j o:=fun {y o j} A=>by
  let{N,A2,R,A4}:=A;rw[lt] at N A4;show{by rw[p];show N,A2,?_,?_}
  .by_cases f:j=a
   .subst f;rw[d] at R;lia
   .rw[<- w j f];show R
  .rw[A4,p]
   congr 1
   show J2f _ _ M N
 have s:J4 ((Stp.over a b).eB r).ls X=J4 r.ls X:=Ji _ _ F;show{fun y j o A J=>?_,fun y j o A J=>?_}
 .have jb:j≠b:=fun e=>J (zF.mpr e);have g:=J2j okl A;have v:=up A;show{{o,v},?_};rw[J2j h v,g,Q];by_cases f:j=a
  .subst f;rw[B];unfold offT;rw[d,K,if_neg jb];by_cases ct:r.ts.getD j false=true
   .rw[if_pos ct,if_pos ct,if_pos ct,Jy _ _ F,Ju _ (Ne.symm l),J2y,s,w b (Ne.symm l)];lia
   .rw[if_neg ct,if_neg ct,if_neg ct,Jv _ _ F,s]
  .have eo:offT ((Stp.over a b).eB r) j o=offT r j o:=by unfold offT;rw[w j f,K j,if_neg jb]
   have Z:j∈X++a::(Y++[b]):=by rw[<- i];show h.perm.mem_iff.mpr v.1
   rw[i,eo]
   congr 1
   by_cases c:j∈X
   .rw[Jx _ _ c,Jx _ _ c];change _=posR (r.ls.set a _) X j;rw[J10 _ _ F]
   .have W:j∈Y:=by simpa [c,f,jb] using Z
    have O:posR ((Stp.over a b).eB r).ls Y j=posR r.ls Y j:=J10 _ _ aY _;rw[Jy _ _ c,Jy _ _ c,Ju _ (Ne.symm f),Jx _ _ W,s];split
    .rw[Ju _ (Ne.symm jb),Ju _ (Ne.symm f),O,w b (Ne.symm l),d];lia
    .rw[Ju _ (Ne.symm f),Ju _ (Ne.symm jb),O,w b (Ne.symm l),d];lia
 .cases zF.mp J;have g:=J2j okl A;have v:=up A;have g':=J2j h v;have of:=v.off;have m:Jz r (go r y) a (r.ls.getD a 0-r.ls.getD b 0+offT r b o):={u,(),(),by rw[g',z,p,Jv _ _ M];lia};have g2:=J2j h m;show{{o,v},by rw[G,g',z];lia,{_,m},?_};have ba:=Ne.symm l;rw[g2,g,Q,B];unfold offT;rw[w b ba,K b,if_pos rfl];cases ca:r.ts.getD a false <;> cases cb:r.ts.getD b false <;> simp only[uM,if_false,if_true,bne_self_eq_false,show(true != false)=true from rfl,show(false != true)=true from rfl]
  .rw[Jy _ _ D,Ju _ l,J2y,s,d];lia
  .rw[Jy _ _ D,Ju _ l,J2y,s,d];lia
  .rw[Jv _ _ D,s];lia
  .rw[Jv _ _ D,s];lia
theorem Jkl(h:r.Ok)(ne:r.top≠[])(n:J2u r (.under a b))(okl:((Stp.under a b).eB r).Ok):J7f r (.under a b):=by
 let{n1,n2,w,n4}:=n;have P:r.bot≠[]:=fun e=>ne (by have:=h.perm;rw[e] at this;show this.symm.eq_nil);let{B,C}:=J1e P;have C:r.bot=B++[a]:=by rw[n1];show C
 have L:a∈r.bot:=by rw[C];simp
 have v:=h.perm.mem_iff.mp L;let{X,Y,l,K}:=J8j ne v (fun e=>w (by rw[n2];show e.symm));have l:r.top=X++a::(Y++[b]):=by rw[n2];show l
 have i:b∈r.top:=by rw[l];simp
 have U:=J1v (C▸h.rowB.nd);have I:(X++a::(Y++[b])).Nodup:=l▸h.row.nd;let{_,T,XY}:=J80 I;have aY:a ∉ Y:=fun q=>T (yT _ q);have S:b ∉ X:=fun q=>XY b q (by simp);have bY:b ∉ Y:=J1v (yN.mp (xL.mp I).2.1).2;have la:=h.row.lt a v;have Q:=h.row.lt b i;have pb:=h.row.pos b i;have lt:((Stp.under a b).eB r).top=X++(if r.ts.getD a false=true then b::a::Y else a::b::Y):=J8f l h.row.nd _;have lb:((Stp.under a b).eB r).bot=B++[a]:=C;have D:∀j,j≠a->((Stp.under a b).eB r).ls.getD j 0=r.ls.getD j 0:=fun j s=>by change(r.ls.set a _).getD j 0=_;rw[Jw _ _ _ _ la,if_neg s]
 have f:((Stp.under a b).eB r).ls.getD a 0=r.ls.getD a 0-r.ls.getD b 0:=by change(r.ls.set a _).getD a 0=_;rw[Jw _ _ _ _ la,if_pos rfl]
 have R:∀j,((Stp.under a b).eB r).ts.getD j false=if j=b then (r.ts.getD a false != r.ts.getD b false) else r.ts.getD j false:=fun j=>by
  change(J2g r a b).getD j false=_;unfold J2g;rw[J2l _ _ _ _ (by rw[h.len];show Q)]
 have sz:r.size=J4 r.ls B+r.ls.getD a 0:=by rw[<- h.sizeB,C,Jh,J11]
 have F:((Stp.under a b).eB r).size=J4 r.ls B+r.ls.getD a 0-r.ls.getD b 0:=by
  rw[<- okl.sizeB,lb,Jh,J11,f,show J4 ((Stp.under a b).eB r).ls B=J4 r.ls B from Ji _ _ U];lia
 have aa:r.size=J4 r.ls X+r.ls.getD a 0+J4 r.ls Y+r.ls.getD b 0:=by change J4 r.ls r.top=_;rw[l,Jh,Jn,Jh,J11];lia
 have G:posR r.ls r.top b=J4 r.ls X+r.ls.getD a 0+J4 r.ls Y:=by
  rw[l,Jy _ _ S,Ju _ w,Jv _ _ bY];lia
 have p:posR r.ls r.top a=J4 r.ls X:=by rw[l,Jv _ _ K]
 have H:posR r.ls r.bot a=J4 r.ls B:=by rw[C,Jv _ _ U]
 have J:J4 ((Stp.under a b).eB r).ls X=J4 r.ls X:=Ji _ _ K;have Z:∀{j},j∈r.top->posR ((Stp.under a b).eB r).ls ((Stp.under a b).eB r).bot j=posR r.ls r.bot j:=fun {j} z=>by
  have z:=h.perm.mem_iff.mpr z;rw[lb];rw[C] at z ⊢;show J2f _ _ U z
 have tp:((Stp.under a b).eB r).top.Perm r.top:=J3e h.row.nd i _;show{fun y j o A z=>?_,fun y j o A z=>?_}
 .have jb:j≠b:=fun e=>z (zF.mpr e);have g:=J2j okl A;let{N,O,E,A4}:=A;have M:=tp.mem_iff.mp N;rw[Z M] at g;rw[lt] at A4;by_cases s:j=a
  .subst s;rw[f] at E;unfold offT at g;rw[f,R,if_neg jb] at g;by_cases ct:r.ts.getD j false=true
   .rw[if_pos ct,Jy _ _ K,Ju _ (Ne.symm w),J2y,J,D b (Ne.symm w)] at A4;have d:Jz r y j (r.ls.getD b 0+o):={M,(),(),by rw[p];lia};show{{_,d},?_};rw[J2j h d,g];unfold offT;rw[if_pos ct,if_pos ct];lia
   .rw[if_neg ct,Jv _ _ K,J] at A4;have d:Jz r y j o:={M,(),(),by rw[p];lia};show{{_,d},?_};rw[J2j h d,g];unfold offT;rw[if_neg ct,if_neg ct]
  .have eo:offT ((Stp.under a b).eB r) j o=offT r j o:=by unfold offT;rw[D j s,R j,if_neg jb]
   rw[D j s] at E;have d:Jz r y j o:=by
    show{M,O,E,?_};rw[A4]
    congr 1
    have jT:j∈X++a::(Y++[b]):=by rw[<- l];show M
    rw[l];by_cases c:j∈X
    .rw[Jx _ _ c,Jx _ _ c];change posR (r.ls.set a _) X j=_;rw[J10 _ _ K]
    .have jY:j∈Y:=by simpa [c,s,jb] using jT
     have W:posR ((Stp.under a b).eB r).ls Y j=posR r.ls Y j:=J10 _ _ aY _;rw[Jy _ _ c,Jy _ _ c,Ju _ (Ne.symm s),Jx _ _ jY,J];split
     .rw[Ju _ (Ne.symm jb),Ju _ (Ne.symm s),W,D b (Ne.symm w),f];lia
     .rw[Ju _ (Ne.symm s),Ju _ (Ne.symm jb),W,D b (Ne.symm w),f];lia
   show{{_,d},?_};rw[J2j h d,g,eo]
 .cases zF.mp z;have ba:=Ne.symm w;have g:=J2j okl A;let{N,O,E,A4}:=A;have N:=tp.mem_iff.mp N;rw[Z N] at g;rw[lt] at A4;rw[D b ba] at E;unfold offT at g;rw[D b ba,R b,if_pos rfl] at g;by_cases ct:r.ts.getD a false=true
  .rw[if_pos ct,Jv _ _ S,J] at A4;have d:Jz r y a o:={v,O,(),by rw[p];show A4};have u:=J2j h d;unfold offT at u;rw[if_pos ct,H] at u;have m:Jz r (go r y) b (r.ls.getD b 0-1-o):={i,(),(),by rw[u,G];lia};show{{_,d},by rw[F,u];lia,{_,m},?_};rw[J2j h m,g,ct];unfold offT;cases r.ts.getD b false <;> simp <;> lia
  .rw[if_neg ct,Jy _ _ S,Ju _ w,J2y,J,f] at A4;have d:Jz r y a (r.ls.getD a 0-r.ls.getD b 0+o):={v,(),(),by rw[p];lia};have u:=J2j h d;unfold offT at u;rw[if_neg ct,H] at u;have m:Jz r (go r y) b o:={i,O,E,by rw[u,G];lia};show{{_,d},by rw[F,u];lia,{_,m},?_};have cf:r.ts.getD a false=false:=by simpa using ct
   rw[J2j h m,g,cf];unfold offT;cases r.ts.getD b false <;> simp
theorem Jkm(h:r.Ok)(ne:r.top≠[])(n:J2u r (.overs a t))(okl:((Stp.overs a t).eB r).Ok):J7f r (.overs a t):=by
 let{W,n2,K,U,J,S}:=n;let{T,f}:=J1e ne;have f:r.top=T++[a]:=by rw[W];show f
 have p:a∈r.top:=by rw[f];simp
 let{X,Y,d,z}:=J6l (h.perm.mem_iff.mpr p);have H:=J1v (f▸h.row.nd);have D:(X++a::Y).Nodup:=d▸h.rowB.nd;let{_,O,XY}:=J80 D;have w:J6 r.bot a=Y:=by rw[d];show J4u z
 rw[w] at J S;have la:=h.row.lt a p;have lt:((Stp.overs a t).eB r).top=T++[a]:=f;have L:((Stp.overs a t).eB r).bot=X++a::Y:=d;have G:∀j,j≠a->((Stp.overs a t).eB r).ls.getD j 0=r.ls.getD j 0:=fun j b=>by change(r.ls.set a _).getD j 0=_;rw[Jw _ _ _ _ la,if_neg b]
 have l:((Stp.overs a t).eB r).ls.getD a 0=r.ls.getD a 0-t*J4 r.ls Y:=by change(r.ls.set a (_-t*J4 r.ls (J6 r.bot a))).getD a 0=_;rw[Jw _ _ _ _ la,if_pos rfl,w]
 have tS:1<=t*J4 r.ls Y:=by
  have:=uU U J (by decide) ();lia
 have sz:r.size=J4 r.ls T+r.ls.getD a 0:=by change J4 r.ls r.top=_;rw[f,Jh,J11]
 have B:((Stp.overs a t).eB r).size=J4 r.ls T+r.ls.getD a 0-t*J4 r.ls Y:=by
  change J4 ((Stp.overs a t).eB r).ls ((Stp.overs a t).eB r).top=_;rw[lt,Jh,J11,l,show J4 ((Stp.overs a t).eB r).ls T=J4 r.ls T from Ji _ _ H];lia
 have Q:r.size=J4 r.ls X+r.ls.getD a 0+J4 r.ls Y:=by rw[<- h.sizeB,d,Jh,Jn];lia
 have u:posR r.ls r.bot a=J4 r.ls X:=by rw[d,Jv _ _ z]
 have C:posR r.ls r.top a=J4 r.ls T:=by rw[f,Jv _ _ H]
 have M:J4 ((Stp.overs a t).eB r).ls X=J4 r.ls X:=Ji _ _ z;have up:∀{y o:Int} {j:Nat},Jz ((Stp.overs a t).eB r) y j o->Jz r y j o:=fun {y o j} A=>by
  let{I,A2,P,A4}:=A;rw[lt] at I A4;show{by rw[f];show I,A2,?_,?_}
  .by_cases b:j=a
   .subst b;rw[l] at P;lia
   .rw[<- G j b];show P
  .rw[A4,f]
   congr 1
   show J2f _ _ H I
 show{fun y j o A E=>?_,fun y j o A E=>?_}
 .have v:j ∉ Y:=fun q=>E (by change j∈J6 r.bot a;rw[w];show q);have g:=J2j okl A;have s:=up A;show{{o,s},?_};rw[J2j h s,g,L];by_cases b:j=a
  .subst b;rw[u,Jv _ _ z,M];unfold offT;rw[show((Stp.overs j t).eB r).ts=r.ts from rfl,K,if_neg (by decide),if_neg (by decide)]
  .have F:offT ((Stp.overs a t).eB r) j o=offT r j o:=by unfold offT;rw[G j b];rfl
   have jB:j∈X++a::Y:=by rw[<- d];show h.perm.mem_iff.mpr s.1
   have c:j∈X:=by simpa [v,b] using jB
   rw[d,F,Jx _ _ c,Jx _ _ c]
   congr 1
   show(J10 _ _ z _).symm
 .have v:j∈Y:=by
   have:j∈J6 r.bot a:=E;rw[w] at this;show this
  have b:j≠a:=fun e=>O (e▸v);have N:j ∉ X:=fun q=>XY j q v;have g:=J2j okl A;have s:=up A;have g':=J2j h s;have of:=s.off;have p0:=J92 (ls:=r.ls) (row:=Y) (fun i hi=>by have:=h.rowB.pos i (by rw[d];simp[hi]);lia) j;have p1:=J67 (ls:=r.ls) (row:=Y) (fun i hi=>by have:=h.rowB.pos i (by rw[d];simp[hi]);lia) v;have eg:go r y=J4 r.ls X+r.ls.getD a 0+posR r.ls Y j+offT r j o:=by rw[g',d,Jy _ _ N,Ju _ (Ne.symm b)];lia
  change(∃R,Jz r y j R)/\(∀k:Int,0<=k->k<t->_)/\_;rw[w];show{{o,s},fun k Z k1=>?_,?_}
  .have m1:k*J4 r.ls Y+J4 r.ls Y<=t*J4 r.ls Y:=by
    have:=uB (show k+1<=t by lia) (show 0<=J4 r.ls Y by lia);rw[xZ,xA] at this;show this
   have m0:0<=k*J4 r.ls Y:=vB Z ();have m:Jz r (go r y-k*J4 r.ls Y) a (go r y-k*J4 r.ls Y-J4 r.ls T):={p,(),(),by rw[C];lia};show{by rw[B];lia,{_,m},?_};rw[J2j h m,u];unfold offT;rw[K,if_neg (by decide)];lia
  .rw[g,L,Jy _ _ N,Ju _ (Ne.symm b),M,l];have F:offT ((Stp.overs a t).eB r) j o=offT r j o:=by unfold offT;rw[G j b];rfl
   rw[F,show posR ((Stp.overs a t).eB r).ls Y j=posR r.ls Y j from J10 _ _ O _,eg];lia
theorem Jii(h:r.Ok)(ne:r.top≠[])(n:J2u r (.unders a t))(okl:((Stp.unders a t).eB r).Ok):J7f r (.unders a t):=by
 let{n1,n2,P,Z,O,W}:=n;have K:r.bot≠[]:=fun e=>ne (by have:=h.perm;rw[e] at this;show this.symm.eq_nil);let{B,p}:=J1e K;have p:r.bot=B++[a]:=by rw[n1];show p
 have E:a∈r.bot:=by rw[p];simp
 have u:=h.perm.mem_iff.mp E;let{X,Y,f,D}:=J6l u;have M:=J1v (p▸h.rowB.nd);have L:(X++a::Y).Nodup:=f▸h.row.nd;let{_,T,XY}:=J80 L;have C:J6 r.top a=Y:=by rw[f];show J4u D
 rw[C] at O W;have la:=h.row.lt a u;have lt:((Stp.unders a t).eB r).top=X++a::Y:=f;have Q:((Stp.unders a t).eB r).bot=B++[a]:=p;have G:∀j,j≠a->((Stp.unders a t).eB r).ls.getD j 0=r.ls.getD j 0:=fun j b=>by change(r.ls.set a _).getD j 0=_;rw[Jw _ _ _ _ la,if_neg b]
 have s:((Stp.unders a t).eB r).ls.getD a 0=r.ls.getD a 0-t*J4 r.ls Y:=by change(r.ls.set a (_-t*J4 r.ls (J6 r.top a))).getD a 0=_;rw[Jw _ _ _ _ la,if_pos rfl,C]
 have tS:1<=t*J4 r.ls Y:=by
  have:=uU Z O (by decide) ();lia
 have sz:r.size=J4 r.ls B+r.ls.getD a 0:=by rw[<- h.sizeB,p,Jh,J11]
 have I:((Stp.unders a t).eB r).size=J4 r.ls B+r.ls.getD a 0-t*J4 r.ls Y:=by
  rw[<- okl.sizeB,Q,Jh,J11,s,show J4 ((Stp.unders a t).eB r).ls B=J4 r.ls B from Ji _ _ M];lia
 have U:r.size=J4 r.ls X+r.ls.getD a 0+J4 r.ls Y:=by change J4 r.ls r.top=_;rw[f,Jh,Jn];lia
 have w:posR r.ls r.top a=J4 r.ls X:=by rw[f,Jv _ _ D]
 have J:posR r.ls r.bot a=J4 r.ls B:=by rw[p,Jv _ _ M]
 have R:J4 ((Stp.unders a t).eB r).ls X=J4 r.ls X:=Ji _ _ D;have N:∀{j},j∈r.top->posR ((Stp.unders a t).eB r).ls ((Stp.unders a t).eB r).bot j=posR r.ls r.bot j:=fun {j} l=>by
  have l:=h.perm.mem_iff.mpr l;rw[Q];rw[p] at l ⊢;show J2f _ _ M l
 show{fun y j o A l=>?_,fun y j o A l=>?_}
 .have z:j ∉ Y:=fun q=>l (by change j∈J6 r.top a;rw[C];show q);have g:=J2j okl A;let{d,H,v,A4}:=A;have d:j∈r.top:=d;rw[N d] at g;rw[lt] at A4;have jT:j∈X++a::Y:=by rw[<- f];show d
  by_cases b:j=a
  .subst b;rw[s] at v;rw[Jv _ _ D,R] at A4;have F:Jz r y j o:={d,H,(),by rw[w];show A4};show{{o,F},?_};rw[J2j h F,g];unfold offT;rw[show((Stp.unders j t).eB r).ts=r.ts from rfl,P,if_neg (by decide),if_neg (by decide)]
  .have eo:offT ((Stp.unders a t).eB r) j o=offT r j o:=by unfold offT;rw[G j b];rfl
   have c:j∈X:=by simpa [z,b] using jT
   rw[G j b] at v;rw[Jx _ _ c,show posR ((Stp.unders a t).eB r).ls X j=posR r.ls X j from J10 _ _ D _] at A4;have F:Jz r y j o:={d,H,v,by rw[f,Jx _ _ c];show A4};show{{o,F},?_};rw[J2j h F,g,eo]
 .have z:j∈Y:=by
   have:j∈J6 r.top a:=l;rw[C] at this;show this
  have b:j≠a:=fun e=>T (e▸z);have S:j ∉ X:=fun q=>XY j q z;have g:=J2j okl A;let{d,H,v,A4}:=A;have d:j∈r.top:=d;rw[N d] at g;rw[lt,Jy _ _ S,Ju _ (Ne.symm b),R,s,show posR ((Stp.unders a t).eB r).ls Y j=posR r.ls Y j from J10 _ _ T _] at A4;rw[G j b] at v;have p0:=J92 (ls:=r.ls) (row:=Y) (fun i hi=>by have:=h.row.pos i (by rw[f];simp[hi]);lia) j;have p1:=J67 (ls:=r.ls) (row:=Y) (fun i hi=>by have:=h.row.pos i (by rw[f];simp[hi]);lia) z;change(∀k:Int,0<=k->k<t->_)/\_;rw[C];have fin:Jz r (y+t*J4 r.ls Y) j o:={d,H,v,by rw[f,Jy _ _ S,Ju _ (Ne.symm b)];lia};show{fun k k0 k1=>?_,{_,fin},?_}
  .have m1:k*J4 r.ls Y+J4 r.ls Y<=t*J4 r.ls Y:=by
    have:=uB (show k+1<=t by lia) (show 0<=J4 r.ls Y by lia);rw[xZ,xA] at this;show this
   have m0:0<=k*J4 r.ls Y:=vB k0 ();have m:Jz r (y+k*J4 r.ls Y) a (y+k*J4 r.ls Y-J4 r.ls X):={u,(),(),by rw[w];lia};show{{_,m},?_,by rw[I];lia};rw[J2j h m,J];unfold offT;rw[P,if_neg (by decide)];lia
  .rw[J2j h fin,g];unfold offT;rw[G j b];rfl
theorem Jrn(h:r.Ok)(ne:r.top≠[])(n:J2u r s)(okl:(s.eB r).Ok):J7f r s:=by
 cases s with
 | home a=>show Jp1 h ne n okl
 | even a b=>show Jp2 h ne n okl
 | over a b=>show Jp0 h ne n okl
 | under a b=>show Jkl h ne n okl
 | overs a t=>show Jkm h ne n okl
 | unders a t=>show Jii h ne n okl
def itN(f:Int->Int):Nat->Int->Int
 | 0,y=>y
 | n+1,y=>f (itN f n y)
theorem J5x(f:Int->Int)(n:Nat)(y:Int):itN f (n+1) y=f (itN f n y):=rfl
theorem J14(f:Int->Int)(n:Nat):∀(m:Nat) (y:Int),itN f (n+m) y=itN f m (itN f n y)
 | 0,_=>rfl
 | m+1,y=>by change f (itN f (n+m) y)=f (itN f m (itN f n y));rw[J14 f n m y]
theorem Jmh(f:Int->Int)(n:Nat)(y:Int):itN f (n+1) y=itN f n (f y):=by rw[Nat.add_comm,J14];rfl
structure J1l(f:Int->Int)(lo:Int)(n:Nat)(y z:Int):Prop where
 pos:0<n
 last:itN f n y=z
 mid:∀i,0<i->i<n->lo<=itN f i y
theorem J1l.one(e:f y=z):J1l f lo 1 y z:={by decide,e,fun i b a=>()}
theorem J1l.trans(a:J1l f lo n y z)(c:lo<=z)(b:J1l f lo m z z'):J1l f lo (n+m) y z':=by
 show{by have:=a.pos;lia,?_,fun i d e=>?_}
 .rw[J14,a.last,b.last]
 .rcases uS i n with q|q|q
  .show a.mid i d q
  .rw[q,a.last];show c
  .obtain⟨k,rfl⟩:∃k,i=n+k:={i-n,()};rw[J14,a.last];show b.mid k () ()
theorem J1l.low(a:J1l f lo n y z)(h:lo'<=lo):J1l f lo' n y z:={a.pos,a.last,fun i c b=>by have:=a.mid i c b;lia}
def retN(r:Rst)(s:Stp)(j:Nat):Nat:=if j∈s.eE r then 1+s.times.toNat else 1
theorem J3k(n:J2u r s):1<=s.times:=by
 cases s with
 | overs a t=>show n.2.2.2.1
 | unders a t=>show n.2.2.2.1
 | home a=>show yA _
 | even a b=>show yA _
 | over a b=>show yA _
 | under a b=>show yA _
theorem Jb8{f:Int->Int}{lo m S t:Int}(h:∀k:Int,0<=k->k<t->lo<=m-k*S/\f (m-k*S)=m-k*S-S):∀n:Nat,(n:Int)<t->J1l f lo (n+1) m (m-((n:Int)+1)*S)
 | 0,h0=>by
  have:=(h 0 () ()).2;show J1l.one ?_;rw[xK,uD] at this;rw[this];change m-S=m-(0+1)*S;rw[yZ,xA]
 | n+1,h0=>by
  have a:=Jb8 h n ();have q:=h ((n:Int)+1) () ();show a.trans q.1 (J1l.one ?_);rw[q.2];rw[show(((n+1:Nat):Int)+1)=((n:Int)+1)+1 by lia,xZ ((n:Int)+1) 1 S,xA];lia
theorem Jg4{f:Int->Int}{lo y S t:Int}(h:∀k:Int,0<=k->k<t->f (y+k*S)=y+k*S+S/\lo<=y+k*S+S):∀n:Nat,(n:Int)<t->J1l f lo (n+1) y (y+((n:Int)+1)*S)
 | 0,h0=>by
  have:=(h 0 () ()).1;show J1l.one ?_;rw[xK,yR] at this;rw[this];change y+S=y+(0+1)*S;rw[yZ,xA]
 | n+1,h0=>by
  have a:=Jg4 h n ();have p:=h (n:Int) () ();have q:=h ((n:Int)+1) () ();have e:y+((n:Int)+1)*S=y+(n:Int)*S+S:=by rw[xZ,xA];lia
  show a.trans (by rw[e];show p.2) (J1l.one ?_);rw[q.1];rw[show(((n+1:Nat):Int)+1)=((n:Int)+1)+1 by lia,xZ ((n:Int)+1) 1 S,xA];lia
theorem J7f.first{r:Rst}{s:Stp}(n:J2u r s)(R:J7f r s){y o:Int}{j:Nat}(A:Jz (s.eB r) y j o):J1l (go r) (s.eB r).size (retN r s j) y (go (s.eB r) y):=by
 unfold retN;have g:=J3k n;by_cases c:j∈s.eE r
 .rw[if_pos c];have L:=R.lose y j o A c
  cases s with
  | home a=>show L.elim
  | even a b=>show(J1l.one rfl).trans L.2.1 (J1l.one L.2.2.2)
  | over a b=>show(J1l.one rfl).trans L.2.1 (J1l.one L.2.2.2)
  | under a b=>show(J1l.one rfl).trans L.2.1 (J1l.one L.2.2.2)
  | overs a t =>
   let{_,v,u}:=L;have g:1<=t:=g;have q:=v 0 () ();rw[xK,uD] at q;obtain⟨m,l⟩:∃m:Nat,t=(m:Int)+1:={(t-1).toNat,()};have d:=Jb8 (f:=go r) (lo:=((Stp.overs a t).eB r).size) (m:=go r y) (S:=J4 r.ls (J6 r.bot a)) (t:=t) (fun k i h=>{(v k i h).1,(v k i h).2.2}) m ();rw[<- l,u] at d;have e:1+(Stp.overs a t).times.toNat=1+(m+1):=by change 1+t.toNat=_;lia
   rw[e];show(J1l.one rfl).trans q.1 d
  | unders a t =>
   let{w,_,u}:=L;have g:1<=t:=g;obtain⟨m,l⟩:∃m:Nat,t=(m:Int)+1:={(t-1).toNat,()};have d:=Jg4 (f:=go r) (lo:=((Stp.unders a t).eB r).size) (y:=y) (S:=J4 r.ls (J6 r.top a)) (t:=t) (fun k i h=>(w k i h).2) m ();have p:=(w (m:Int) () ()).2.2;have e:1+(Stp.unders a t).times.toNat=(m+1)+1:=by change 1+t.toNat=_;lia
   rw[e];rw[<- l] at d;show d.trans ?_ (J1l.one u);have z:t*J4 r.ls (J6 r.top a)=(m:Int)*J4 r.ls (J6 r.top a)+J4 r.ls (J6 r.top a):=by rw[l,xZ,xA]
   rw[z];lia
 .rw[if_neg c];show J1l.one (R.plain y j o A c).2
theorem J7q{N:Nat->Nat}(d:lo<=r.size)(F:∀y j o,Jz r y j o->J1l f r.size (N j) y (go r y))(h:∀k ,0<=k->k<t->lo<=m-k*S/\(∃i,Jz r (m-k*S) w i)/\go r (m-k*S)=m-k*S-S):∀n:Nat,(n:Int)<t->J1l f lo ((n+1)*N w) m (m-((n:Int)+1)*S)
 | 0,h0=>by
  let{l,{i,g},e}:=h 0 () ();have a:=(F _ _ _ g).low d;rw[e] at a;rw[xK,uD] at a;rw[ uE];change J1l f lo (N w) m (m-(0+1)*S);rw[yZ,xA];show a
 | n+1,h0=>by
  have a:=J7q d F h n ();let{l,{i,g},e}:=h ((n:Int)+1) () ();have b:=(F _ _ _ g).low d;rw[e] at b;have c:=a.trans l b;have q:(n+1)*N w+N w=(n+1+1)*N w:=by rw[Nat.add_mul (n+1) 1,uE]
  rw[q] at c;have p:m-((n:Int)+1)*S-S=m-(((n+1:Nat):Int)+1)*S:=by
   grind
  rw[p] at c;show c
theorem Jcd{lo t:Int}{N:Nat->Nat}(d:lo<=r.size)(F:∀y j o,Jz r y j o->J1l f r.size (N j) y (go r y))(h:∀k ,0<=k->k<t->(∃l,Jz r (y+k*S) w l)/\go r (y+k*S)=y+k*S+S/\lo<=y+k*S+S):∀n:Nat,(n:Int)<t->J1l f lo ((n+1)*N w) y (y+((n:Int)+1)*S)
 | 0,h0=>by
  let{{l,i},g,m}:=h 0 () ();have a:=(F _ _ _ i).low d;rw[g] at a;rw[xK,yR] at a;rw[ uE];change J1l f lo (N w) y (y+(0+1)*S);rw[yZ,xA];show a
 | n+1,h0=>by
  have a:=Jcd d F h n ();let{_,u,p}:=h (n:Int) () ();let{{l,i},g,m}:=h ((n:Int)+1) () ();have b:=(F _ _ _ i).low d;rw[g] at b;have e:y+((n:Int)+1)*S=y+(n:Int)*S+S:=by rw[xZ,xA];lia
  have c:=a.trans (by rw[e];show p) b;have s:(n+1)*N w+N w=(n+1+1)*N w:=by rw[Nat.add_mul (n+1) 1,uE]
  rw[s] at c;have q:y+((n:Int)+1)*S+S=y+(((n+1:Nat):Int)+1)*S:=by
   grind
  rw[q] at c;show c
def sumT(r:Rst)(s:Stp)(N:Nat->Nat)(j:Nat):Nat:=if j∈s.eE r then N j+s.times.toNat*N s.eD else N j
theorem J7f.tower(n:J2u r s)(R:J7f r s)(h:(s.eB r).size<=r.size)(F:∀y j o,Jz r y j o->J1l f r.size (N j) y (go r y))(A:Jz (s.eB r) y j o):
  J1l f (s.eB r).size (sumT r s N j) y (go (s.eB r) y):=by
 unfold sumT;have u:=J3k n;by_cases c:j∈s.eE r
 .rw[if_pos c];have L:=R.lose y j o A c;have two:∀{a b:Nat} {o1 C:Int},Jz r y a o1->Jz r (go r y) b C->(s.eB r).size<=go r y->go r (go r y)=go (s.eB r) y->J1l f (s.eB r).size (N a+N b) y (go (s.eB r) y):=fun {a b o1 C} J I H G=>by
   have x:=(F _ _ _ J).low h;have z:=(F _ _ _ I).low h;rw[G] at z;show x.trans H z
  cases s with
  | home a=>show L.elim
  | even a b =>
   let{{_,l1},g,{_,l},i}:=L;have:=two l1 l g i;change J1l f _ (N j+1*N a) _ _;rw[uE];show this
  | over a b =>
   let{{_,l1},g,{_,l},i}:=L;have:=two l1 l g i;change J1l f _ (N j+1*N a) _ _;rw[uE];show this
  | under a b =>
   let{{_,l1},g,{_,l},i}:=L;have:=two l1 l g i;change J1l f _ (N j+1*N a) _ _;rw[uE,Nat.add_comm];show this
  | overs a t =>
   let{{_,l1},D,B}:=L;have u:1<=t:=u;obtain⟨m,v⟩:∃m:Nat,t=(m:Int)+1:={(t-1).toNat,()};have d:=J7q (S:=J4 r.ls (J6 r.bot a)) (w:=a) h F D m ();rw[<- v,B] at d;have q:=D 0 () ();rw[xK,uD] at q;have e:(Stp.overs a t).times.toNat=m+1:=by change t.toNat=_;lia
   rw[e];show((F _ _ _ l1).low h).trans q.1 d
  | unders a t =>
   let{E,{_,g},B}:=L;have u:1<=t:=u;obtain⟨m,v⟩:∃m:Nat,t=(m:Int)+1:={(t-1).toNat,()};have d:=Jcd (S:=J4 r.ls (J6 r.top a)) (w:=a) h F E m ();rw[<- v] at d;have p:=(E (m:Int) () ()).2.2;have z:=(F _ _ _ g).low h;rw[B] at z;have e:N j+(Stp.unders a t).times.toNat*N (Stp.unders a t).eD=(m+1)*N a+N j:=by
    change N j+t.toNat*N a=_;rw[show t.toNat=m+1 by lia];lia
   rw[e];show d.trans ?_ z;have O:t*J4 r.ls (J6 r.top a)=(m:Int)*J4 r.ls (J6 r.top a)+J4 r.ls (J6 r.top a):=by rw[v,xZ,xA]
   lia
 .rw[if_neg c];let{{_,M},K}:=R.plain y j o A c;rw[<- K];show(F _ _ _ M).low h
theorem Cok.tower(h:Cok p)(one:∀j∈p.1.top,p.2.getD j 0=1):∀{k:Nat},Long p k->∀y j o,Jz (chN p k).1 y j o->J1l (go p.1) (chN p k).1.size ((chN p k).2.getD j 0).toNat y (go (chN p k).1 y)
 | 0,_,y,j,o,A=>by
  change J1l (go p.1) p.1.size (p.2.getD j 0).toNat y (go p.1 y);rw[one j A.1];show J1l.one rfl
 | k+1,l,y,j,o,A=>by
  have f:Long p k:=fun i hi=>l i ();have ne:=l k ();have c:=h.at_ f;have np:=J62 c.ok ne;have okl:=c.ok.next ne;have R:=Jrn c.ok ne np okl;have F:=Cok.tower h one f;have b:=A;have d:=c.ok.down ne;have t:=R.tower (N:=fun j=>((chN p k).2.getD j 0).toNat) np (Int.le_of_lt d.less) F b;have e:sumT (chN p k).1 (eF (chN p k).1) (fun j=>((chN p k).2.getD j 0).toNat) j=((chN p (k+1)).2.getD j 0).toNat:=by
   have g:=Jag c.ok ne c.tow.len b.1;have a:(chN p (k+1)).2.getD j 0=(chN p k).2.getD j 0+(if j∈(eF (chN p k).1).eE (chN p k).1 then (chN p k).2.getD (eF (chN p k).1).eD 0*(eF (chN p k).1).times else 0):=g;have w:=np.win c.ok ne;have n:=c.tow.pos _ w;have q:=c.tow.pos j (d.sub j b.1);have m:=J3k np;rw[a];unfold sumT;dsimp only;split
   .grind
   .lia
  rw[e] at t;show t
theorem Ju7(h:r.Ok)(ne:r.top≠[])(n:J2u r (.home a)):((Stp.home a).eB r).size+r.ls.getD a 0=r.size/\∀y,((Stp.home a).eB r).size<=y->y<r.size->
  Jz r y a (y-((Stp.home a).eB r).size)/\go r y=if r.ts.getD a false=true then ((Stp.home a).eB r).size+r.size-1-y else y:=by
 let{m,l}:=n;have d:r.bot≠[]:=fun e=>ne (by have:=h.perm;rw[e] at this;show this.symm.eq_nil);let{T,b}:=J1e ne;let{B,c}:=J1e d;have b:r.top=T++[a]:=by rw[m];show b
 have c:r.bot=B++[a]:=by rw[l];show c
 have f:=J1v (b▸h.row.nd);have o:=J1v (c▸h.rowB.nd);have g:a∈r.top:=by rw[b];simp
 have lt:((Stp.home a).eB r).top=T:=by change eG r.top a=T;rw[b,J1q,J1x,yM,J1p f]
 have sz:r.size=J4 r.ls T+r.ls.getD a 0:=by change J4 r.ls r.top=_;rw[b,Jh,J11]
 have j:r.size=J4 r.ls B+r.ls.getD a 0:=by rw[<- h.sizeB,c,Jh,J11]
 have i:((Stp.home a).eB r).size=J4 r.ls T:=by change J4 (r.ls.set a 0) ((Stp.home a).eB r).top=_;rw[lt,Ji _ _ f]
 show{(),fun y q p=>?_};have A:Jz r y a (y-((Stp.home a).eB r).size):={g,(),(),by rw[b,Jv _ _ f];lia};show{A,?_};rw[J2j h A,c,Jv _ _ o];unfold offT;split <;> lia
abbrev bz0:Band:=(0,0,0,false)
def J5f(b:Band)(o:Int):Int:=if b.2.2.2=true then b.2.1-1-o else o
def Bnd(f:Int->Int)(b:Band):Prop:=1<=b.2.1/\1<=b.2.2.1/\∀o,0<=o->o<b.2.1->J1l f (b.1+b.2.1) b.2.2.1.toNat (b.1+o) (b.1+J5f b o)
theorem J78(c:0<=o)(a:o<b.2.1):0<=J5f b o/\J5f b o<b.2.1:=by unfold J5f;split <;> lia
theorem Jdp(b:Band)(o:Int):J5f b (J5f b o)=o:=by unfold J5f;grind
structure Sys(f:Int->Int)(N:Int)(bs:List Band):Prop where
 inn:∀y,0<=y->y<N->0<=f y/\f y<N
 inj:∀y z,0<=y->y<N->0<=z->z<N->f y=f z->y=z
 bnd:∀b∈bs,Bnd f b
 lo:∀b∈bs,0<=b.1/\b.1+b.2.1<=N
 ord:bs.Pairwise fun b c=>c.1+c.2.1<=b.1
 sum:(bs.map fun b=>b.2.1*b.2.2.1).sum=N
theorem Sys.itin(S:Sys f N bs)(b:0<=y)(a:y<N):∀n,0<=itN f n y/\itN f n y<N
 | 0=>{b,a}
 | n+1=>by have:=S.itin b a n;show S.inn _ this.1 this.2
theorem Sys.itinj(S:Sys f N bs)(h:0<=y)(g:y<N)(d:0<=z)(c:z<N):∀n,itN f n y=itN f n z->y=z
 | 0,e=>e
 | n+1,e=>by
  have a:=S.itin h g n;have b:=S.itin d c n;show S.itinj h g d c n (S.inj _ _ a.1 a.2 b.1 b.2 e)
theorem Bnd.stays(B:Bnd f b):∀(n:Nat) (o:Int),0<=o->o<b.2.1->b.1<=itN f n (b.1+o):=by
 let{e,g,F}:=B;intro n
 induction n using Nat.strongRecOn with
 | _ n ih =>
  intro o o0 o1;have a:=F o o0 o1;by_cases d:n=0
  .subst d;change b.1<=b.1+o;lia
  by_cases c:n<b.2.2.1.toNat
  .have:=a.mid n () c;lia
  .obtain⟨k,rfl⟩:∃k,n=b.2.2.1.toNat+k:={n-b.2.2.1.toNat,()};rw[J14,a.last];have fi:=J78 o0 o1;show ih k () _ fi.1 fi.2
theorem Bnd.back(B:Bnd f b)(c:0<=o)(a:o<b.2.1):itN f b.2.2.1.toNat (b.1+o)=b.1+J5f b o:=(B.2.2 o c a).last
theorem Bnd.high(B:Bnd f b)(c:0<=o)(a:o<b.2.1){l:Nat}(l0:0<l)(l1:(l:Int)<b.2.2.1):b.1+b.2.1<=itN f l (b.1+o):=(B.2.2 o c a).mid l l0 ()
theorem Sys.meet(S:Sys f N bs)(hb:b∈bs)(n:c∈bs)(p:b=c\/c.1+c.2.1<=b.1\/b.1+b.2.1<=c.1)(o0:0<=o)(o1:o<b.2.1)(i:0<=o')(h:o'<c.2.1){l a:Nat}(B:(l:Int)<b.2.2.1)(s:(a:Int)<c.2.2.1)(le:l<=a)(e:itN f l (b.1+o)=itN f a (c.1+o')):b=c/\o=o'/\l=a:=by
 have w:=S.bnd b hb;have r:=S.bnd c n;have A:=S.lo b hb;have z:=S.lo c n;obtain⟨d,rfl⟩:∃d,a=d+l:={a-l,()};rw[J14] at e;have g:=S.itin (y:=c.1+o') () () d;have m:=S.itinj () () g.1 g.2 l e;by_cases v:d=0
 .subst v;have m:b.1+o=c.1+o':=m;rcases p with rfl|q|q
  .show{rfl,(),()}
  .lia
  .lia
 .have hi:=r.high i h (l:=d) () ();rcases p with rfl|q|q
  .lia
  .have j:=r.back i h;have fi:=J78 i h;obtain⟨k,u⟩:∃k,c.2.2.1.toNat=d+k:={c.2.2.1.toNat-d,()};rw[u,J14,<- m] at j;have:=w.stays k o o0 o1;lia
  .lia
theorem J3m{bs:List Band}(h:b<bs.length):bs.getD b bz0∈bs:=by
 simp_all
structure Adr(bs:List Band)(b:Nat)(o lv:Int):Prop where
 hb:b<bs.length
 o0:0<=o
 o1:o<(bs.getD b bz0).2.1
 l0:0<=lv
 l1:lv<(bs.getD b bz0).2.2.1
def plOf(f:Int->Int)(bs:List Band)(b:Nat)(o a:Int):Int:=itN f a.toNat ((bs.getD b bz0).1+o)
theorem Sys.apart(S:Sys f N bs)(hb:b<bs.length)(a:c<bs.length)(h:b<c):(bs.getD c bz0).1+(bs.getD c bz0).2.1<=(bs.getD b bz0).1:=by
 have:=(sQ.mp S.ord) b c hb a h;have e:bs.getD b bz0=bs[b]:=by simp_all
 have d:bs.getD c bz0=bs[c]:=by simp_all
 rw[e,d];show this
theorem Sys.uniq{f:Int->Int}{N:Int}{bs:List Band}(S:Sys f N bs){b c:Nat}{o l h d:Int}(A:Adr bs b o h)(a:Adr bs c l d)(e:plOf f bs b o h=plOf f bs c l d):b=c/\o=l/\h=d:=by
 have g:bs.getD b bz0=bs.getD c bz0\/(bs.getD c bz0).1+(bs.getD c bz0).2.1<=(bs.getD b bz0).1\/(bs.getD b bz0).1+(bs.getD b bz0).2.1<=(bs.getD c bz0).1:=by
  rcases uS b c with q|q|q
  .show .inr (.inl (S.apart A.hb a.hb q))
  .show .inl (by rw[q])
  .show .inr (.inr (S.apart a.hb A.hb q))
 have same:bs.getD b bz0=bs.getD c bz0->b=c:=fun e=>by
  have w:=(S.bnd _ (J3m a.hb)).1;rcases uS b c with q|q|q
  .have:=S.apart A.hb a.hb q;rw[e] at this;lia
  .show q
  .have:=S.apart a.hb A.hb q;rw[e] at this;lia
 have s:=A.l0;have r:=A.l1;have p:=a.l0;have n:=a.l1;unfold plOf at e;by_cases le:h.toNat<=d.toNat
 .let{j,i,m}:=S.meet (J3m A.hb) (J3m a.hb) g A.o0 A.o1 a.o0 a.o1 () () le e;show{same j,i,()}
 .let{j,i,m}:=S.meet (J3m a.hb) (J3m A.hb) (g.elim (fun q=>.inl q.symm) fun q=>.inr q.symm) a.o0 a.o1 A.o0 A.o1 () () () e.symm;show{same j.symm,i.symm,()}
theorem Sys.pl_in(S:Sys f N bs)(A:Adr bs b o lv):0<=plOf f bs b o lv/\plOf f bs b o lv<N:=by
 have l:=S.lo _ (J3m A.hb);have:=A.o0;have:=A.o1;show S.itin () () _
def J6u(f:Int->Int)(b:Band)(o:Nat):List Int:=(List.range b.2.2.1.toNat).map fun l=>itN f l (b.1+(o:Int))
def J5k(f:Int->Int)(b:Band):List Int:=(List.range b.2.1.toNat).flatMap (J6u f b)
def J6g(f:Int->Int)(bs:List Band):List Int:=bs.flatMap (J5k f)
theorem J5b :x∈J6u f b o↔∃l:Nat,(l:Int)<b.2.2.1/\x=itN f l (b.1+(o:Int)):=by
 unfold J6u
 grind
theorem J5u :x∈J5k f b↔∃o l:Nat,(o:Int)<b.2.1/\(l:Int)<b.2.2.1/\x=itN f l (b.1+(o:Int)):=by
 unfold J5k;rw[wN];constructor
 .rintro⟨o,c,d⟩;let{l,a,rfl}:=J5b.mp d;show{o,l,by have:=zR.mp c;lia,a,rfl}
 .rintro⟨o,l,c,a,rfl⟩;show{o,zR.mpr (),J5b.mpr {l,a,rfl}}
theorem Sys.eq_of(S:Sys f N bs)(hb:b∈bs)(j:c∈bs)(m:b=c\/c.1+c.2.1<=b.1\/b.1+b.2.1<=c.1){o g l d:Nat}(o1:(o:Int)<b.2.1)(h:(g:Int)<c.2.1)(i:(l:Int)<b.2.2.1)(a:(d:Int)<c.2.2.1)(e:itN f l (b.1+(o:Int))=itN f d (c.1+(g:Int))):b=c/\o=g/\l=d:=by
 by_cases le:l<=d
 .let{r,p,n}:=S.meet hb j m () o1 () h i a le e
  grind
 .let{r,p,n}:=S.meet j hb (m.elim (fun q=>.inl q.symm) fun q=>.inr q.symm) () h () o1 a i () e.symm
  grind
theorem Sys.nodup(S:Sys f N bs):(J6g f bs).Nodup:=by
 unfold J6g;show uC.mpr {fun b hb=>?_,S.ord.imp_of_mem fun {b c} hb n q x j y i e=>?_}
 .unfold J5k;show uC.mpr {fun o g=>?_,pairwise_lt_range.imp_of_mem fun {o p} g d q x j y i e=>?_}
  .unfold J6u;rw[yY];have o1:=zR.mp g;show pairwise_lt_range.imp_of_mem fun {l m} h a q e=>?_;have:=(S.eq_of hb hb (.inl rfl) () () (by have:=zR.mp h;lia) (by have:=zR.mp a;lia) e).2.2;lia
  .let{l,h,rfl}:=J5b.mp j;let{m,a,rfl}:=J5b.mp i;have:=(S.eq_of hb hb (.inl rfl) (by have:=zR.mp g;lia) (by have:=zR.mp d;lia) h a e).2.1;lia
 .let{o,l,g,h,rfl}:=J5u.mp j;let{p,m,d,a,rfl}:=J5u.mp i;have w:=(S.bnd c n).1;let{rfl,_,_}:=S.eq_of hb n (.inr (.inl q)) g d h a e;lia
theorem Jj0(c:0<=b.2.1)(a:0<=b.2.2.1):((J5k f b).length:Int)=b.2.1*b.2.2.1:=by
 have:∀n ,((List.range n).flatMap (J6u f b)).length=n*b.2.2.1.toNat:=fun n=>by
  induction n with
  | zero=>simp
  | succ n ih =>
   rw[wK,uF,zN,ih];have:([n].flatMap (J6u f b)).length=b.2.2.1.toNat:=by
    rw[List.flatMap_singleton];unfold J6u;rw[zB,yC]
   rw[this,Nat.succ_mul]
 unfold J5k
 grind
theorem Jdh :∀{bs:List Band},(∀b∈bs,Bnd f b)->((J6g f bs).length:Int)=(bs.map fun b=>b.2.1*b.2.2.1).sum
 | [],_=>rfl
 | b::bs,h=>by
  have a:=Jdh (bs:=bs) fun c d=>h c (zK _ d);have B:=h b zJ;have w:=B.1;have e:=B.2.1;rw[zL,zU,<- a,<- Jj0 (f:=f) (b:=b) () ()];unfold J6g
  grind
theorem Sys.len(S:Sys f N bs):((J6g f bs).length:Int)=N:=by rw[Jdh S.bnd,S.sum]
theorem J9a :x∈J6g f bs↔∃b o a,Adr bs b o a/\plOf f bs b o a=x:=by
 unfold J6g;rw[wN];constructor
 .rintro⟨c,i,d⟩;let{o,l,g,h,rfl}:=J5u.mp d;let{b,hb,rfl}:=uA i;have e:bs.getD b bz0=bs[b]:=by rw[zH,gEq hb];rfl
  show{b,o,l,{hb,(),by rw[e];show g,(),by rw[e];show h},?_};unfold plOf;rw[e];rfl
 .rintro⟨b,o,a,A,rfl⟩;show{_,J3m A.hb,J5u.mpr {o.toNat,a.toNat,?_,?_,?_}}
  .have:=A.o0;have:=A.o1;lia
  .have:=A.l0;have:=A.l1;lia
  .have:=A.o0;unfold plOf;rw[show((o.toNat:Nat):Int)=o by lia]
theorem Sys.all_in(S:Sys f N bs)(h:x∈J6g f bs):0<=x/\x<N:=by
 let{b,o,a,A,rfl}:=J9a.mp h;show S.pl_in A
theorem Sys.exists(S:Sys f N bs)(n:0<=x)(m:x<N):∃b o h,Adr bs b o h/\plOf f bs b o h=x:=by
 show J9a.mp ?_;apply xN;intro c;have nd:((x::J6g f bs).map Int.toNat).Nodup:=by
  show yY.mpr ((yN.mpr {c,S.nodup}).imp_of_mem fun {a b} l hb ne e=>?_);have g:∀{z},z∈x::J6g f bs->0<=z/\z<N:=fun {z} d=>by
   rcases zI.mp d with rfl|d
   .show{n,m}
   .show S.all_in d
  have:=g l;have:=g hb;show ne ()
 have lt:∀j∈(x::J6g f bs).map Int.toNat,j<N.toNat:=fun j i=>by
  let{z,d,rfl}:=zW.mp i;rcases zI.mp d with rfl|d
  .lia
  .have:=S.all_in d;lia
 have le:=J8i N.toNat _ nd lt;have p:=S.len;rw[zB,xD] at le;lia
def J3y(p:Cst):Band:=((chS p).1.size,p.1.ls.getD (eF p.1).eD 0,p.2.getD (eF p.1).eD 0,p.1.ts.getD (eF p.1).eD false)
theorem Cok.band(h:Cok p)(one:∀j∈p.1.top,p.2.getD j 0=1)(l:Long p (k+1))(r:(eF (chN p k).1).eL=true):
  Bnd (go p.1) (J3y (chN p k))/\(J3y (chN p k)).1=(chN p (k+1)).1.size/\(J3y (chN p k)).1+(J3y (chN p k)).2.1=(chN p k).1.size:=by
 have n:Long p k:=fun i hi=>l i ();have ne:=l k ();have c:=h.at_ n;have np:=J62 c.ok ne;have tow:=Cok.tower h one n;have w:=np.win c.ok ne;have m:=c.ok.row.pos _ w;have pt:=c.tow.pos _ w;obtain⟨a,b⟩:∃a,eF (chN p k).1=.home a:=by
  generalize eF (chN p k).1=s at *;cases s <;> first|show{_,rfl}|cases r
 rw[b] at np;let{y,v}:=Ju7 c.ok ne np;have g:(J3y (chN p k)).1=(chN p (k+1)).1.size:=rfl;have d:(chN p (k+1)).1.size=((Stp.home a).eB (chN p k).1).size:=by
  change((eF (chN p k).1).eB (chN p k).1).size=_;rw[b]
 have e:(J3y (chN p k)).2.1=(chN p k).1.ls.getD a 0:=by change(chN p k).1.ls.getD (eF (chN p k).1).eD 0=_;rw[b];rfl
 have q:(J3y (chN p k)).2.2.1=(chN p k).2.getD a 0:=by change(chN p k).2.getD (eF (chN p k).1).eD 0=_;rw[b];rfl
 have z:(J3y (chN p k)).2.2.2=(chN p k).1.ts.getD a false:=by change(chN p k).1.ts.getD (eF (chN p k).1).eD false=_;rw[b];rfl
 have f:(eF (chN p k).1).eD=a:=by rw[b];rfl
 rw[f] at m pt;have sz:(J3y (chN p k)).1+(J3y (chN p k)).2.1=(chN p k).1.size:=by rw[g,d,e];show y
 show{{by rw[e];show m,by rw[q];show pt,fun o o0 o1=>?_},g,sz};rw[sz];rw[g,d] at *;rw[e] at o1 sz;let{A,u}:=v (((Stp.home a).eB (chN p k).1).size+o) () ();have F:=tow _ _ _ A;rw[u] at F;rw[q];have B:(if (chN p k).1.ts.getD a false=true then ((Stp.home a).eB (chN p k).1).size+(chN p k).1.size-1-(((Stp.home a).eB (chN p k).1).size+o) else ((Stp.home a).eB (chN p k).1).size+o)=((Stp.home a).eB (chN p k).1).size+J5f (J3y (chN p k)) o:=by
  unfold J5f;rw[z,e];split <;> lia
 rw[B] at F;show F
theorem J8q :∀{m:Nat},b∈bndN p m->∃k,k<m/\(eF (chN p k).1).eL=true/\b=J3y (chN p k)
 | 0,h=>by cases h
 | m+1,h=>by
  rcases yF.mp h with h|h
  .let{k,a,q}:=J8q h;show{k,(),q}
  .unfold bndB at h;split at h
   .rename_i hh;show{m,(),hh,zF.mp h}
   .cases h
theorem Cok.sizes(h:Cok p)(l:Long p m):∀{i k:Nat},i<=k->k<=m->(chN p k).1.size<=(chN p i).1.size:=fun {i k} a b=>by
 induction k with
 | zero=>rw[Nat.le_zero.mp a];show yA _
 | succ k ih =>
  by_cases e:i=k+1
  .rw[e];show yA _
  .have c:=h.at_ (k:=k) (fun i hi=>l i ());have d:=(c.ok.down (l k ())).less;have d':(chN p (k+1)).1.size<(chN p k).1.size:=d;lia
theorem Cok.ordB(h:Cok p)(one:∀j∈p.1.top,p.2.getD j 0=1):∀{m:Nat},Long p m->(bndN p m).Pairwise fun b c=>c.1+c.2.1<=b.1
 | 0,_=>List.Pairwise.nil
 | m+1,l=>by
  have d:Long p m:=fun i hi=>l i ();change(bndN p m++bndB (chN p m)).Pairwise _;show List.pairwise_append.mpr {Cok.ordB h one d,?_,fun b hb c a=>?_}
  .unfold bndB;split
   .show sR _ _
   .show List.Pairwise.nil
  .let{k,f,e,rfl}:=J8q hb;unfold bndB at a;split at a
   .rename_i hm;obtain rfl:=zF.mp a;let{_,n,_}:=h.band one (k:=k) (fun i hi=>l i ()) e;let{_,_,g}:=h.band one (k:=m) l hm;have s:=h.sizes l (i:=k+1) (k:=m) () ();change(J3y (chN p m)).1+(J3y (chN p m)).2.1<=_;lia
   .cases a
def J6f(bs:List Band):Int:=(bs.map fun b=>b.2.1*b.2.2.1).sum
theorem Jg0(xs ys:List Band):J6f (xs++ys)=J6f xs+J6f ys:=by unfold J6f;rw[yE,vA]
theorem Cok.sumB(h:Cok p):∀{k:Nat},Long p k->wS (chN p k).1.ls (chN p k).2 (chN p k).1.top+J6f (bndN p k)=wS p.1.ls p.2 p.1.top
 | 0,_=>by change wS p.1.ls p.2 p.1.top+0=_;lia
 | k+1,l=>by
  have b:Long p k:=fun i hi=>l i ();have d:=Cok.sumB h b;have c:=h.at_ b;have st:=c.ok.stay (l k ()) c.tow.len;change wS (chS (chN p k)).1.ls (chS (chN p k)).2 (chS (chN p k)).1.top+J6f (bndN p k++bndB (chN p k))=_;have a:wS (chS (chN p k)).1.ls (chS (chN p k)).2 (chS (chN p k)).1.top+(if (eF (chN p k).1).eL=true then (chN p k).1.ls.getD (eF (chN p k).1).eD 0*(chN p k).2.getD (eF (chN p k).1).eD 0 else 0)=wS (chN p k).1.ls (chN p k).2 (chN p k).1.top:=st;rw[Jg0,<- d,<- a];unfold bndB;by_cases c:(eF (chN p k).1).eL=true
  .rw[if_pos c,if_pos c];change _+(_+(((chN p k).1.ls.getD (eF (chN p k).1).eD 0*(chN p k).2.getD (eF (chN p k).1).eD 0)+0))=_;lia
  .rw[if_neg c,if_neg c];change _+(_+0)=_;lia
theorem Cok.sys(h:Cok p)(one:∀j∈p.1.top,p.2.getD j 0=1)(a:wS p.1.ls p.2 p.1.top=p.1.size)(l:Long p m)(e:(chN p m).1.top=[]):Sys (go p.1) p.1.size (bndN p m) where
 inn:=fun y g f=>go_in h.ok g f
 inj:=fun y z g f r o q=>go_inj h.ok g f r o q
 bnd:=fun b hb=>by
  let{k,u,d,rfl}:=J8q hb;show(h.band one (fun i hi=>l i ()) d).1
 lo:=fun b hb=>by
  let{k,u,d,rfl}:=J8q hb;let{_,B,A}:=h.band one (k:=k) (fun i hi=>l i ()) d;have s:=h.sizes l (i:=0) (k:=k) () ();have s':(chN p k).1.size<=p.1.size:=s;have c:=h.at_ (k:=k+1) (fun i hi=>l i ());have w:0<=(chN p (k+1)).1.size:=J16 fun j v=>by have:=c.ok.row.pos j v;lia
  lia
 ord:=h.ordB one l
 sum:=by
  have:=h.sumB l;rw[e] at this;have n:wS (chN p m).1.ls (chN p m).2 []=0:=rfl;rw[n,a] at this;have t:J6f (bndN p m)=p.1.size:=()
  show t
structure J48(f:Int->Int)(lo:Int)(n:Nat)(y z:Int):Prop where
 last:itN f n y=z
 mid:∀i,0<i->i<=n->lo<=itN f i y
theorem J48.zero :J48 f lo 0 y y:={rfl,fun i b a=>()}
theorem J1l.reach(F:J1l f lo n y z)(h:lo<=z):J48 f lo n y z:={F.last,fun i a b=>by
 by_cases c:i<n
 .show F.mid i a c
 .rw[show i=n by lia,F.last];show h}
theorem J48.trans(a:J48 f lo n y z)(b:J48 f lo m z w):J48 f lo (n+m) y w:=by
 show{by rw[J14,a.last,b.last],fun i d e=>?_};by_cases c:i<=n
 .show a.mid i d c
 .obtain⟨k,rfl⟩:∃k,i=n+k:={i-n,()};rw[J14,a.last];show b.mid k () ()
theorem J48.low(a:J48 f lo n y z)(h:lo'<=lo):J48 f lo' n y z:={a.last,fun i c b=>by have:=a.mid i c b;lia}
theorem J48.lt(a:J48 f lo n y z)(F:J1l f lo m y w)(hw:w<lo):n<m:=by
 apply xN;intro c;have:=a.mid m F.pos ();rw[F.last] at this;lia
theorem Jj5(h:Row ls row)(b:j∈row):(eK ls row).getD j 0=posR ls row j:=by
 let{k,a,rfl}:=Jhb b;rw[h.first a,J57 _ h.nd a]
theorem Jqw(h:r.Ok)(a:AtR r.ls r.bot y i):J3a r (J4m r.ls r.ts (r.bot.getD i 0) (y-Jr r.ls r.bot i) (eK r.ls r.top)) y:=by
 let{c,g,f}:=a;rw[J15] at f;have d:=J2c c;have b:=h.perm.mem_iff.mp d;have e:=J57 r.ls h.rowB.nd c;show(J8n h).mpr {r.bot.getD i 0,if r.ts.getD (r.bot.getD i 0) false=true then r.ls.getD (r.bot.getD i 0) 0-1-(y-Jr r.ls r.bot i) else y-Jr r.ls r.bot i,{b,?_,?_,?_},?_}
 .split <;> lia
 .split <;> lia
 .unfold J4m;rw[Jj5 h.row b];split <;> lia
 .unfold offT;rw[e];split <;> lia
theorem share_of(d:Down r s)(np:J2u r s)(b:s.eL=false):(r.size-(s.eB r).size)/s.times=J4 r.ls (s.eE r)/\r.size-(s.eB r).size=s.times*J4 r.ls (s.eE r):=by
 have e:=d.size;rw[b] at e;have c:=J3k np;have a:r.size-(s.eB r).size=s.times*J4 r.ls (s.eE r):=by
  grind
 show{by rw[a,Int.mul_ediv_cancel_left _ ()],a}
theorem J7o(h:r.Ok)(ne:r.top≠[])(np:J2u r s)(f:s.eL=false):1<=J4 r.ls (s.eE r):=by
 show J74 (fun j d=>h.row.pos j ((np.losers_lt h ne).1 j d)) (fun e=>?_)
 cases s with
 | home a=>cases f
 | even a b=>cases e
 | over a b=>cases e
 | under a b=>cases e
 | overs a t =>
  have c:=np.2.2.2.2.1;have e:J6 r.bot a=[]:=e;rw[e,J26] at c;lia
 | unders a t =>
  have c:=np.2.2.2.2.1;have e:J6 r.top a=[]:=e;rw[e,J26] at c;lia
theorem Jjb{r:Rst}(h:r.Ok)(ne:r.top≠[]){s:Stp}(np:J2u r s)(okl:(s.eB r).Ok)(own:s.own=true){z m:Int}(g:J3a r z m)(p:r.size-J4 r.ls (s.eE r)<=m):
  ∃j o,Jz (s.eB r) z j o/\Jz r z j o/\j∈s.eE r:=by
 let{j,o,A,I}:=(J8n h).mp g;have of:=A.off;have y:r.bot≠[]:=fun e=>ne (by have:=h.perm;rw[e] at this;show this.symm.eq_nil);have l:∀i∈r.bot,0<=r.ls.getD i 0:=fun i hi=>by have:=h.rowB.pos i hi;lia
 cases s with
 | home a=>cases own
 | under a b=>cases own
 | unders a t=>cases own
 | even a b =>
  let{D,G,C,J}:=np;let{T,f}:=J1e ne;let{B,d}:=J1e y;have f:r.top=T++[a]:=by rw[D];show f
  have d:r.bot=B++[b]:=by rw[G];show d
  have P:=J1v (d▸h.rowB.nd);have w:=J1v (f▸h.row.nd);have sz:r.size=J4 r.ls B+r.ls.getD b 0:=by rw[<- h.sizeB,d,Jh,J11]
  have p:r.size-J4 r.ls [b]<=m:=p;rw[J11] at p;have jb:j=b:=by
   apply xN;intro c;have u:j∈B:=by
    have:=h.perm.mem_iff.mpr A.1;rw[d] at this;show(yF.mp this).resolve_right fun q=>c (zF.mp q)
   have:=J67 (ls:=r.ls) (row:=B) (fun i hi=>l i (by rw[d];show yT _ hi)) u;rw[d,Jx _ _ u] at I;lia
  subst jb;show{j,o,?_,A,zF.mpr rfl};let{n,F,E,A4}:=A;have M:j∈T:=by
   rw[f] at n;show(yF.mp n).resolve_right fun q=>C (zF.mp q).symm
  have lt:((Stp.even a j).eB r).top=T:=by change eG r.top a=T;rw[f,J1q,J1x,yM,J1p w]
  have la:=h.row.lt a (by rw[f];simp);show{by rw[lt];show M,F,?_,?_}
  .change o<(r.ls.set a 0).getD j 0;rw[Jw _ _ _ _ la,if_neg (Ne.symm C)];show E
  .rw[lt,A4,f,Jx _ _ M];change _=posR (r.ls.set a 0) T j+o;rw[J10 _ _ w]
 | over a b =>
  let{D,G,C,J}:=np;let{T,f}:=J1e ne;let{B,d}:=J1e y;have f:r.top=T++[a]:=by rw[D];show f
  have d:r.bot=B++[b]:=by rw[G];show d
  have P:=J1v (d▸h.rowB.nd);have w:=J1v (f▸h.row.nd);have sz:r.size=J4 r.ls B+r.ls.getD b 0:=by rw[<- h.sizeB,d,Jh,J11]
  have p:r.size-J4 r.ls [b]<=m:=p;rw[J11] at p;have jb:j=b:=by
   apply xN;intro c;have u:j∈B:=by
    have:=h.perm.mem_iff.mpr A.1;rw[d] at this;show(yF.mp this).resolve_right fun q=>c (zF.mp q)
   have:=J67 (ls:=r.ls) (row:=B) (fun i hi=>l i (by rw[d];show yT _ hi)) u;rw[d,Jx _ _ u] at I;lia
  subst jb;show{j,o,?_,A,zF.mpr rfl};let{n,F,E,A4}:=A;have la:=h.row.lt a (by rw[f];simp);show{n,F,?_,?_}
  .change o<(r.ls.set a _).getD j 0;rw[Jw _ _ _ _ la,if_neg (Ne.symm C)];show E
  .rw[A4];change _=posR (r.ls.set a _) r.top j+o;rw[f] at n ⊢;rw[J2f _ _ w n]
 | overs a t =>
  let{D,G,C,J,U,S}:=np;let{T,f}:=J1e ne;have f:r.top=T++[a]:=by rw[D];show f
  have w:=J1v (f▸h.row.nd);have v:a∈r.top:=by rw[f];simp
  let{X,Y,d,O}:=J6l (h.perm.mem_iff.mpr v);let{_,Q,W}:=J80 (d▸h.rowB.nd);have N:J6 r.bot a=Y:=by rw[d];show J4u O
  have p:r.size-J4 r.ls (J6 r.bot a)<=m:=p;rw[N] at p;have sz:r.size=J4 r.ls X+r.ls.getD a 0+J4 r.ls Y:=by rw[<- h.sizeB,d,Jh,Jn];lia
  have K:j∈Y:=by
   apply xN;intro c;have u:j∈X++a::Y:=by rw[<- d];show h.perm.mem_iff.mpr A.1
   by_cases H:j=a
   .subst H;rw[d,Jv _ _ O] at I;lia
   .have L:j∈X:=by simpa [c,H] using u
    have:=J67 (ls:=r.ls) (row:=X) (fun i hi=>l i (by rw[d];show yT _ hi)) L;have R:=h.row.pos a v;rw[d,Jx _ _ L] at I;lia
  have H:j≠a:=fun e=>Q (e▸K);show{j,o,?_,A,by change j∈J6 r.bot a;rw[N];show K};let{n,F,E,A4}:=A;have la:=h.row.lt a v;show{n,F,?_,?_}
  .change o<(r.ls.set a _).getD j 0;rw[Jw _ _ _ _ la,if_neg H];show E
  .rw[A4];change _=posR (r.ls.set a _) r.top j+o;rw[f] at n ⊢;rw[J2f _ _ w n]
theorem Jfu{r:Rst}(h:r.Ok)(ne:r.top≠[]){s:Stp}(np:J2u r s)(okl:(s.eB r).Ok)(hh:s.eL=false)(own:s.own=false){z y:Int}(g:J3a r z y)(h0:(s.eB r).size<=y)(h1:y<r.size){t':Int}(H:t'=(y-(s.eB r).size)/J4 r.ls (s.eE r)):
  ∃j o,Jz (s.eB r) (z-t'*J4 r.ls (s.eE r)) j o/\j∈s.eE r:=by
 let{f,o0,w,U}:=(J8n h).mp g;have D:r.bot≠[]:=fun e=>ne (by have:=h.perm;rw[e] at this;show this.symm.eq_nil);have C:∀i∈r.bot,0<=r.ls.getD i 0:=fun i hi=>by have:=h.rowB.pos i hi;lia
 have G:∀{a:Nat} {B:List Nat},r.bot=B++[a]->a∈r.top->J4 r.ls B<=y->f=a/\y=J4 r.ls B+offT r a o0:=fun {a B} d l hy=>by
  have I:=J1v (d▸h.rowB.nd);have e:f=a:=by
   apply xN;intro c;have S:f∈B:=by
    have:=h.perm.mem_iff.mpr w.1;rw[d] at this;show(yF.mp this).resolve_right fun q=>c (zF.mp q)
   have:=J67 (ls:=r.ls) (row:=B) (fun i hi=>C i (by rw[d];show yT _ hi)) S;have of:=w.off;rw[d,Jx _ _ S] at U;lia
  subst e;show{rfl,?_};rw[U,d,Jv _ _ I]
 cases s with
 | home a=>cases hh
 | even a b=>cases own
 | over a b=>cases own
 | overs a t=>cases own
 | under a b =>
  let{L,K,E,P}:=np;let{B,d}:=J1e D;have d:r.bot=B++[a]:=by rw[L];show d
  have l:=h.perm.mem_iff.mp (show a∈r.bot by rw[d];simp);let{X,Y,m,u}:=J8j ne l (fun e=>E (by rw[K];show e.symm));have m:r.top=X++a::(Y++[b]):=by rw[K];show m
  have p:b∈r.top:=by rw[m];simp
  let{_,ad,XY}:=J80 (m▸h.row.nd);have bX:b ∉ X:=fun q=>XY b q (by simp);have I:=J1v (d▸h.rowB.nd);have la:=h.row.lt a l;have pb:=h.row.pos b p;have n:((Stp.under a b).eB r).ls.getD a 0=r.ls.getD a 0-r.ls.getD b 0:=by change(r.ls.set a _).getD a 0=_;rw[Jw _ _ _ _ la,if_pos rfl]
  have N:((Stp.under a b).eB r).ls.getD b 0=r.ls.getD b 0:=by change(r.ls.set a _).getD b 0=_;rw[Jw _ _ _ _ la,if_neg (Ne.symm E)]
  have J:((Stp.under a b).eB r).size=J4 r.ls B+r.ls.getD a 0-r.ls.getD b 0:=by
   rw[<- okl.sizeB,show((Stp.under a b).eB r).bot=B++[a] from d,Jh,J11,n,show J4 ((Stp.under a b).eB r).ls B=J4 r.ls B from Ji _ _ I];lia
  have sz:r.size=J4 r.ls B+r.ls.getD a 0:=by rw[<- h.sizeB,d,Jh,J11]
  have lt:((Stp.under a b).eB r).top=X++(if r.ts.getD a false=true then b::a::Y else a::b::Y):=J8f m h.row.nd _;have F:J4 ((Stp.under a b).eB r).ls X=J4 r.ls X:=Ji _ _ u;have tp:((Stp.under a b).eB r).top.Perm r.top:=J3e h.row.nd p _;have t0:t'=0:=by
   rw[H];change(y-((Stp.under a b).eB r).size)/J4 r.ls [b]=0;rw[J11];show sS () ()
  let{rfl,v}:=G d l ();have T:z=J4 r.ls X+o0:=by rw[w.2.2.2,m,Jv _ _ u]
  have ac:=w.2.1;have ab:=w.2.2.1;subst t0;rw[xK,uD];show{b,if r.ts.getD f false=true then o0 else o0-(r.ls.getD f 0-r.ls.getD b 0),{tp.mem_iff.mpr p,?_,?_,?_},zF.mpr rfl}
  .unfold offT at v;split at v <;> rename_i ct
   .rw[if_pos ct];lia
   .rw[if_neg ct];lia
  .rw[N];unfold offT at v;split at v <;> rename_i ct
   .rw[if_pos ct];lia
   .rw[if_neg ct];lia
  .rw[lt];by_cases ct:r.ts.getD f false=true
   .rw[if_pos ct,if_pos ct,Jv _ _ bX,F];show T
   .rw[if_neg ct,if_neg ct,Jy _ _ bX,Ju _ E,J2y,F,n];lia
 | unders a t =>
  let{L,K,E,P,O,n6}:=np;let{B,d}:=J1e D;have d:r.bot=B++[a]:=by rw[L];show d
  have l:=h.perm.mem_iff.mp (show a∈r.bot by rw[d];simp);let{X,Y,m,u}:=J6l l;let{_,aY,XY}:=J80 (m▸h.row.nd);have W:J6 r.top a=Y:=by rw[m];show J4u u
  have I:=J1v (d▸h.rowB.nd);have la:=h.row.lt a l;have H:t'=(y-((Stp.unders a t).eB r).size)/J4 r.ls (J6 r.top a):=H;change ∃j o,Jz ((Stp.unders a t).eB r) (z-t'*J4 r.ls (J6 r.top a)) j o/\j∈J6 r.top a;rw[W] at H O n6 ⊢;have n:((Stp.unders a t).eB r).ls.getD a 0=r.ls.getD a 0-t*J4 r.ls Y:=by change(r.ls.set a (_-t*J4 r.ls (J6 r.top a))).getD a 0=_;rw[Jw _ _ _ _ la,if_pos rfl,W]
  have tS:1<=t*J4 r.ls Y:=by
   have:=uU P O (by decide) ();lia
  have J:((Stp.unders a t).eB r).size=J4 r.ls B+r.ls.getD a 0-t*J4 r.ls Y:=by
   rw[<- okl.sizeB,show((Stp.unders a t).eB r).bot=B++[a] from d,Jh,J11,n,show J4 ((Stp.unders a t).eB r).ls B=J4 r.ls B from Ji _ _ I];lia
  have sz:r.size=J4 r.ls B+r.ls.getD a 0:=by rw[<- h.sizeB,d,Jh,J11]
  have aa:r.size=J4 r.ls X+r.ls.getD a 0+J4 r.ls Y:=by change J4 r.ls r.top=_;rw[m,Jh,Jn];lia
  have F:J4 ((Stp.unders a t).eB r).ls X=J4 r.ls X:=Ji _ _ u;let{rfl,v}:=G d l ();have T:z=J4 r.ls X+o0:=by rw[w.2.2.2,m,Jv _ _ u]
  have eo:offT r f o0=o0:=by unfold offT;rw[E,if_neg (by decide)]
  rw[eo] at v;have d1:=Int.ediv_mul_le (y-((Stp.unders f t).eB r).size) (show J4 r.ls Y≠0 by lia);have Z:=sW (y-((Stp.unders f t).eB r).size) (show 0<J4 r.ls Y by lia);rw[<- H] at d1 Z;rw[xZ,xA] at Z;have lY:J4 r.ls X+r.ls.getD f 0-t*J4 r.ls Y<=z-t'*J4 r.ls Y:=()
  have M:0<=z-t'*J4 r.ls Y:=by
   have:0<=J4 r.ls X:=J16 fun i hi=>by have:=h.row.pos i (by rw[m];show yT _ hi);lia
   lia
  let{j,o,A}:=okl.letAt M ();show{j,o,A,?_};have jT:j∈X++f::Y:=by
   have:=A.1;rw[show((Stp.unders f t).eB r).top=X++f::Y from m] at this;show this
  apply xN;intro c;let{_,A2,A3,A4}:=A;rw[show((Stp.unders f t).eB r).top=X++f::Y from m] at A4;by_cases Q:j=f
  .subst Q;rw[Jv _ _ u,F] at A4;rw[n] at A3;lia
  .have R:j∈X:=by simpa [c,Q] using jT
   have:=J67 (ls:=((Stp.unders f t).eB r).ls) (row:=X) (fun i hi=>by have:=okl.row.pos i (by rw[show((Stp.unders f t).eB r).top=X++f::Y from m];show yT _ hi);lia) R;rw[Jx _ _ R] at A4;rw[F] at this;lia
structure Twr(f:Int->Int)(r:Rst)(T:List Int):Prop where
 pos:∀j∈r.top,1<=T.getD j 0
 fst:∀y j o,Jz r y j o->J1l f r.size (T.getD j 0).toNat y (go r y)
theorem Cok.twr(h:Cok p)(one:∀j∈p.1.top,p.2.getD j 0=1)(l:Long p k):Twr (go p.1) (chN p k).1 (chN p k).2:={(h.at_ l).tow.pos,fun y j o A=>h.tower one l y j o A}
theorem Jlx{a:Int}(c:0<=a)(hb:0<=b):(a*b).toNat=a.toNat*b.toNat:=by
 grind
theorem Jug{a:Int}(c:0<=a)(hb:0<=b):(a+b).toNat=a.toNat+b.toNat:=()
section
variable{f:Int->Int}{r:Rst}{T:List Int}{s:Stp}
theorem Jqx(h:r.Ok)(ne:r.top≠[])(np:J2u r s)(okl:(s.eB r).Ok)(d:Down r s)(R:J7f r s)(W:Twr f r T)(v:s.eL=false)(own:s.own=true)(I:(s.eB r).size<=y)(h1:y<r.size)(G:t'=(r.size-1-y)/J4 r.ls (s.eE r)):
  0<=t'/\t'<s.times/\(0<=y+t'*J4 r.ls (s.eE r)/\y+t'*J4 r.ls (s.eE r)<r.size)/\∀z,J3a r z (y+t'*J4 r.ls (s.eE r))->∃j o,Jz r z j o/\(0<=z/\z<(s.eB r).size)/\J48 f (s.eB r).size (T.getD j 0+t'*T.getD s.eD 0).toNat z y:=by
 have hs:=J7o h ne np v;let{_,Z}:=share_of d np v;have Y:=J3k np;have w:=np.win h ne;have pw:=W.pos _ w;have less:=Int.le_of_lt d.less;have K:=Int.ediv_mul_le (r.size-1-y) (show J4 r.ls (s.eE r)≠0 by lia);have B:=sW (r.size-1-y) (show 0<J4 r.ls (s.eE r) by lia);have m:0<=t':=by rw[G];show uR () ()
 rw[<- G] at K B;rw[xZ,xA] at B;have X:0<=(s.eB r).size:=J16 fun j u=>by have:=okl.row.pos j u;lia
 have P:0<=t'*J4 r.ls (s.eE r):=vB m ();have E:t'<s.times:=by
  apply xN;intro c;have:s.times*J4 r.ls (s.eE r)<=t'*J4 r.ls (s.eE r):=uB () ();lia
 show{m,E,{(),()},fun z g=>?_};let{j,o,M,A,u}:=Jjb h ne np okl own g ();have p:=go_of h g;have pj:=W.pos j A.1;have L:=R.lose z j o M u;have l:=(W.fst _ _ _ A).low less;rw[p] at l;show{j,o,A,M.inside okl,?_};have i:∀{t S:Int},J4 r.ls (s.eE r)=S->t'<t->(∀k ,0<=k->k<t->(s.eB r).size<=go r z-k*S/\(∃q,Jz r (go r z-k*S) s.eD q)/\go r (go r z-k*S)=go r z-k*S-S)->
   J48 f (s.eB r).size (T.getD j 0+t'*T.getD s.eD 0).toNat z y:=fun {t S} J Q H=>by
  rw[p,J] at H;rw[J] at l p K B P;have F:=(H 0 () ()).1;rw[xK,uD] at F;have D:=l.reach F;by_cases c:t'=0
  .subst c;rw[xK,yR] at D;rw[xK,yR];show D
  .obtain⟨n,U⟩:∃n:Nat,t'=(n:Int)+1:={(t'-1).toNat,()};have C:=J7q (f:=f) (r:=r) (N:=fun j=>(T.getD j 0).toNat) (lo:=(s.eB r).size) less W.fst H n ();rw[<- U,show y+t'*S-t'*S=y by lia] at C;have R2:=D.trans (C.reach I);have e:(T.getD j 0).toNat+(n+1)*(T.getD s.eD 0).toNat=(T.getD j 0+t'*T.getD s.eD 0).toNat:=by
    rw[Jug () (vB m ()),Jlx m (),show t'.toNat=n+1 by lia]
   rw[<- e];show R2
 have one:s.times=1->(s.eB r).size<=go r z->(∃q,Jz r (go r z) s.eD q)->J48 f (s.eB r).size (T.getD j 0+t'*T.getD s.eD 0).toNat z y:=fun e1 l2 l3=>by
  have O:t'=0:=()
  subst O;rw[xK,yR] at l p;rw[xK,yR];show l.reach I
 cases s with
 | home a=>cases v
 | under a b=>cases own
 | unders a t=>cases own
 | even a b=>show one rfl L.2.1 L.2.2.1
 | over a b=>show one rfl L.2.1 L.2.2.1
 | overs a t=>show i rfl E L.2.1
theorem Jnk(h:r.Ok)(ne:r.top≠[])(np:J2u r s)(okl:(s.eB r).Ok)(d:Down r s)(R:J7f r s)(W:Twr f r T)(l:s.eL=false)(own:s.own=false)(p:(s.eB r).size<=y)(J:y<r.size)(m:t'=(y-(s.eB r).size)/J4 r.ls (s.eE r)):
  0<=t'/\t'<s.times/\∀z,J3a r z y->(0<=z-t'*J4 r.ls (s.eE r)/\z-t'*J4 r.ls (s.eE r)<(s.eB r).size)/\J48 f (s.eB r).size ((t'+1)*T.getD s.eD 0).toNat (z-t'*J4 r.ls (s.eE r)) y:=by
 have X:=J7o h ne np l;let{_,Q}:=share_of d np l;have P:=J3k np;have w:=np.win h ne;have A:=W.pos _ w;have less:=Int.le_of_lt d.less;have D:=Int.ediv_mul_le (y-(s.eB r).size) (show J4 r.ls (s.eE r)≠0 by lia);have u:=sW (y-(s.eB r).size) (show 0<J4 r.ls (s.eE r) by lia);have v:0<=t':=by rw[m];show uR () ()
 rw[<- m] at D u;rw[xZ,xA] at u;have i:t'<s.times:=by
  apply xN;intro c;have:s.times*J4 r.ls (s.eE r)<=t'*J4 r.ls (s.eE r):=uB () ();lia
 show{v,i,fun z g=>?_};let{j,o,G,I}:=Jfu h ne np okl l own g p J m;have B:=go_of h g;have L:=R.lose _ j o G I;show{G.inside okl,?_}
 cases s with
 | home a=>cases l
 | even a b=>cases own
 | over a b=>cases own
 | overs a t=>cases own
 | under a b =>
  have i:t'<1:=i;obtain rfl:t'=0:=()
  rw[xK,uD] at L ⊢;let{{S,l1},U,_}:=L;have F:=(W.fst _ _ _ l1).low less;rw[B] at F;rw[yZ,xA];show F.reach p
 | unders a t =>
  have O:J4 r.ls ((Stp.unders a t).eE r)=J4 r.ls (J6 r.top a):=rfl;rw[O] at D u;change J48 f ((Stp.unders a t).eB r).size _ (z-t'*J4 r.ls (J6 r.top a)) y;let{E,_}:=L;obtain⟨n,H⟩:∃n:Nat,t'=n:={t'.toNat,()};have i:t'<t:=i;have C:J1l f ((Stp.unders a t).eB r).size ((n+1)*(T.getD a 0).toNat) (z-t'*J4 r.ls (J6 r.top a)) (z-t'*J4 r.ls (J6 r.top a)+((n:Int)+1)*J4 r.ls (J6 r.top a)):=Jcd (f:=f) (r:=r) (w:=a) (N:=fun j=>(T.getD j 0).toNat) (lo:=((Stp.unders a t).eB r).size) less W.fst E n ();have K:z-t'*J4 r.ls (J6 r.top a)+t'*J4 r.ls (J6 r.top a)=z:=()
  have q:go r (z-t'*J4 r.ls (J6 r.top a)+t'*J4 r.ls (J6 r.top a))=z-t'*J4 r.ls (J6 r.top a)+t'*J4 r.ls (J6 r.top a)+J4 r.ls (J6 r.top a):=(E t' v i).2.1;rw[K,B] at q;have M:z-t'*J4 r.ls (J6 r.top a)+((n:Int)+1)*J4 r.ls (J6 r.top a)=y:=by
   rw[<- H,xZ,xA];lia
  rw[M] at C;have e:(n+1)*(T.getD a 0).toNat=((t'+1)*T.getD (Stp.unders a t).eD 0).toNat:=by
   change _=((t'+1)*T.getD a 0).toNat;have A:1<=T.getD a 0:=A;rw[Jlx () (),show(t'+1).toNat=n+1 by lia]
  rw[<- e];show C.reach p
end
theorem idx_of{ns:List Int}(nd:ns.Nodup)(hb:b<ns.length)(e:ns[b]=v):ns.idxOf v=b:=by
 grind
abbrev J66(bs:List Band):List Int:=(List.range bs.length).map fun i=>(bs.getD i bz0).1
theorem Sys.starts(S:Sys f N bs)(hb:b<bs.length):(bs.getD b bz0).1∈J66 bs/\(J66 bs).idxOf (bs.getD b bz0).1=b:=by
 have nd:(J66 bs).Nodup:=by
  show yY.mpr (pairwise_lt_range.imp_of_mem fun {i j} hi a h e=>?_);have hi:=zR.mp hi;have a:=zR.mp a;have d:=S.apart hi a h;have w:=(S.bnd _ (J3m a)).1;lia
 have c:b<(J66 bs).length:=by simp_all
 have e:(J66 bs)[b]=(bs.getD b bz0).1:=by rw[getElem_map,sP]
 show{e▸xC c,idx_of nd c e}
theorem Jmm(g:k<m)(d:(eF (chN p k).1).eL=true):∃b,b<(bndN p m).length/\(bndN p m).getD b bz0=J3y (chN p k):=by
 induction m with
 | zero=>lia
 | succ m ih =>
  have e:bndN p (m+1)=bndN p m++bndB (chN p m):=rfl;by_cases c:k=m
  .subst c;have a:bndB (chN p k)=[J3y (chN p k)]:=by unfold bndB;rw[if_pos d];rfl
   show{(bndN p k).length,by rw[e,a,zN];change _<_+1;lia,?_};rw[e,a,zH,yP (zD _),Nat.sub_self];rfl
  .let{b,hb,f}:=ih ();show{b,by rw[e,zN];lia,?_};rw[e,zH,yQ hb,<- f,zH]
structure Jeh(f:Int->Int)(r:Rst)(T:List Int)(s:Stp):Prop where
 ok:r.Ok
 ne:r.top≠[]
 np:J2u r s
 okl:(s.eB r).Ok
 down:Down r s
 ret:J7f r s
 twr:Twr f r T
 len:T.length=r.ls.length
 sz:r.size<=10^30
 big:∀j∈r.top,T.getD j 0<=10^30
theorem Cok.stepF(h:Cok p)(one:∀j∈p.1.top,p.2.getD j 0=1)(l:Long p m)(b:k<m):Jeh (go p.1) (chN p k).1 (chN p k).2 (eF (chN p k).1):=by
 have a:Long p k:=fun i hi=>l i ();have c:=h.at_ a;have ne:=l k b;have np:=J62 c.ok ne;show{c.ok,ne,np,c.ok.next ne,c.ok.down ne,Jrn c.ok ne np (c.ok.next ne),h.twr one a,c.tow.len,c.size30,fun j d=>c.tow.le c.ok d}
theorem Jeh.tms(F:Jeh f r T s):1<=s.times/\s.times<=10^30:=by
 have b:=J3k F.np;have a:=F.np.times F.ok F.ne F.sz;lia
theorem Jeh.spn(F:Jeh f r T s)(a:s.eL=false):1<=J4 r.ls (s.eE r)/\J4 r.ls (s.eE r)<=10^30/\(r.size-(s.eB r).size)/s.times=J4 r.ls (s.eE r):=by
 have b:=J7o F.ok F.ne F.np a;have c:=Jda F.ok (J2u.losers_nd F.ok (s:=s)) (F.np.losers_lt F.ok F.ne).1;have:=F.sz;show{b,(),(share_of F.down F.np a).1}
theorem Jeh.win(F:Jeh f r T s):s.eD∈r.top/\1<=T.getD s.eD 0/\T.getD s.eD 0<=10^30:=by
 have w:=F.np.win F.ok F.ne;show{w,F.twr.pos _ w,F.big _ w}
def offA(b:Band)(q o:Int):Int:=if q%2=1 then J5f b o else o
theorem Jlt{b:Band}{q o:Int}(c:0<=o)(a:o<b.2.1):0<=offA b q o/\offA b q o<b.2.1:=by
 unfold offA;split
 .show J78 c a
 .show{c,a}
theorem Bnd.round{f:Int->Int}{b:Band}(B:Bnd f b){o:Int}(d:0<=o)(a:o<b.2.1):∀n:Nat,itN f (n*b.2.2.1.toNat) (b.1+o)=b.1+offA b (n:Int) o
 | 0=>by rw[Nat.zero_mul];rfl
 | n+1=>by
  rw[Nat.succ_mul,J14,B.round d a n];have i:=Jlt (b:=b) (q:=(n:Int)) d a;rw[B.back i.1 i.2]
  congr 1
  unfold offA;have e:(((n+1:Nat):Int))%2=1↔¬ (n:Int)%2=1:=()
  by_cases c:(n:Int)%2=1
  .rw[if_pos c,if_neg (fun h=>e.mp h c),Jdp]
  .rw[if_neg c,if_pos (e.mpr c)]
section
variable{f:Int->Int}{N:Int}{bs:List Band}
theorem Sys.go_on(S:Sys f N bs){b:Nat}{o a:Int}(A:Adr bs b o a){g:Int}(r:0<=g):
  Adr bs b (offA (bs.getD b bz0) ((a+g)/(bs.getD b bz0).2.2.1) o) ((a+g)%(bs.getD b bz0).2.2.1)/\itN f g.toNat (plOf f bs b o a)=plOf f bs b (offA (bs.getD b bz0) ((a+g)/(bs.getD b bz0).2.2.1) o) ((a+g)%(bs.getD b bz0).2.2.1):=by
 have B:=S.bnd _ (J3m A.hb);have s:=B.2.1;have h:=A.o0;have d:=A.o1;have w:=A.l0;have v:=A.l1;have i:=Jlt (b:=bs.getD b bz0) (q:=(a+g)/(bs.getD b bz0).2.2.1) h d;have l:=xO (a+g) (show(bs.getD b bz0).2.2.1≠0 by lia);have j:=xM (a+g) (show 0<(bs.getD b bz0).2.2.1 by lia);show{{A.hb,i.1,i.2,l,j},?_};unfold plOf;generalize bs.getD b bz0=c at *;have p:0<=(a+g)/c.2.2.1:=uR () ();have n:=sO (a+g) c.2.2.1;obtain⟨q,m⟩:∃q:Nat,(a+g)/c.2.2.1=q:={((a+g)/c.2.2.1).toNat,()};rw[m] at n ⊢;rw[<- J14];have e:a.toNat+g.toNat=q*c.2.2.1.toNat+((a+g)%c.2.2.1).toNat:=by
  have u:((q*c.2.2.1.toNat:Nat):Int)=c.2.2.1*(q:Int):=by
   rw[tI,show((c.2.2.1.toNat:Nat):Int)=c.2.2.1 by lia,wH]
  lia
 rw[e,J14,B.round h d q]
structure J47(f:Int->Int)(x:Int)(n:Nat):Prop where
 pos:0<n
 back:itN f n x=x
 least:∀i,0<i->i<n->itN f i x≠x
def lenR(b:Band)(o:Int):Int:=if b.2.2.2=true/\o≠b.2.1-1-o then 2*b.2.2.1 else b.2.2.1
theorem Sys.rnd(S:Sys f N bs)(A:Adr bs b o lv):J47 f (plOf f bs b o lv) (lenR (bs.getD b bz0) o).toNat/\1<=lenR (bs.getD b bz0) o:=by
 have B:=S.bnd _ (J3m A.hb);have u:=B.2.1;have m:=A.o0;have h:=A.o1;have w:=A.l0;have v:=A.l1;have lo:=S.lo _ (J3m A.hb);have inn:=S.itin (y:=(bs.getD b bz0).1+o) () ();unfold plOf;generalize bs.getD b bz0=c at *;have q:1<=lenR c o:=by unfold lenR;split <;> lia
 have g:=B.back m h;have fi:=J78 m h;have a:=B.back fi.1 fi.2;rw[Jdp] at a;show{{(),?_,fun i s p e=>?_},q}
 .rw[<- J14,Nat.add_comm,J14]
  congr 1
  unfold lenR;split
  .rw[show(2*c.2.2.1).toNat=c.2.2.1.toNat+c.2.2.1.toNat by lia,J14,g,a]
  .rename_i k;rw[g]
   congr 1
   unfold J5f;split
   .rename_i t;by_cases e:o=c.2.1-1-o
    .lia
    .show absurd {t,e} k
   .rfl
 .rw[<- J14,Nat.add_comm,J14] at e;have n:=inn i;have d:=S.itinj n.1 n.2 () () lv.toNat e;by_cases k:(i:Int)<c.2.2.1
  .have:=B.high m h s k;lia
  .unfold lenR at p;split at p
   .rename_i t;obtain⟨j,rfl⟩:∃j,i=c.2.2.1.toNat+j:={i-c.2.2.1.toNat,()};rw[J14,g] at d;by_cases r:j=0
    .subst r;have d:c.1+J5f c o=c.1+o:=d;unfold J5f at d;rw[if_pos t.1] at d;show t.2 ()
    .have:=B.high fi.1 fi.2 (l:=j) () ();lia
   .lia
theorem J47.mul(R:J47 f x n):∀k,itN f (k*n) x=x
 | 0=>by rw[Nat.zero_mul];rfl
 | k+1=>by rw[Nat.succ_mul,J14,R.mul k,R.back]
theorem J47.mod(R:J47 f x n)(m:Nat):itN f m x=itN f (m%n) x:=by
 have e:m=(m/n)*n+m%n:=by rw[uL];show(Nat.div_add_mod m n).symm
 conv=>lhs;rw[e]
 rw[J14,R.mul]
theorem J47.uniq(R:J47 f x n)(a:J47 f x m):n=m:=by
 rcases uS n m with h|h|h
 .show absurd R.back (a.least n R.pos h)
 .show h
 .show absurd a.back (R.least m a.pos h)
theorem Sys.rnd_inj(S:Sys f N bs)(l:0<=x)(g:x<N)(R:J47 f x n)(hi:i<n)(c:j<n)(e:itN f i x=itN f j x):i=j:=by
 have a:∀{i j:Nat},i<=j->j<n->itN f i x=itN f j x->i=j:=fun {i j} le c e=>by
  obtain⟨d,rfl⟩:∃d,j=d+i:={j-i,()};rw[J14] at e;have b:=S.itin l g d;have m:=S.itinj l g b.1 b.2 i e;by_cases o:d=0
  .lia
  .show absurd m.symm (R.least d () ())
 rcases Nat.le_total i j with h|h
 .show a h c e
 .show(a h hi e.symm).symm
theorem Sys.rnd_iff(S:Sys f N bs)(b:0<=x)(a:x<N)(R:J47 f x n)(hd:d<n)(m:Nat):itN f m x=itN f d x↔m%n=d:=by
 rw[R.mod m];constructor
 .show fun e=>S.rnd_inj b a R (xT _ R.pos) hd e
 .show fun e=>by rw[e]
def betO(bs:List Band)(b:Nat)(o d:Int)(e:Nat)(c a:Int):Option Int:=
 if b≠e then none
 else if o=c then some ((a-d)%lenR (bs.getD b bz0) o)
 else if (bs.getD b bz0).2.2.2=true/\c=(bs.getD b bz0).2.1-1-o then some ((a-d+(bs.getD b bz0).2.2.1)%lenR (bs.getD b bz0) o)
 else none
theorem Sys.bet_some(S:Sys f N bs){b w:Nat}{o g l a:Int}(A:Adr bs b o g)(z:Adr bs w l a){d:Int}(e:betO bs b o g w l a=some d):
  0<=d/\d<lenR (bs.getD b bz0) o/\itN f d.toNat (plOf f bs b o g)=plOf f bs w l a:=by
 let{R,F}:=S.rnd A;have B:=S.bnd _ (J3m A.hb);have G:=B.2.1;have I:=A.l0;have H:=A.l1;have s:=z.l0;have r:=z.l1;unfold betO at e;by_cases v:b≠w
 .rw[if_pos v] at e;cases e
 rw[if_neg v] at e;have v:b=w:=xN v;subst v;have m:∀{t:Int},0<=d->(g+d)%(bs.getD b bz0).2.2.1=a->(g+d)/(bs.getD b bz0).2.2.1=t->offA (bs.getD b bz0) t o=l->itN f d.toNat (plOf f bs b o g)=plOf f bs b l a:=fun {t} j E D C=>by
  have:=(S.go_on A j).2;rw[E,D,C] at this;show this
 generalize hc:bs.getD b bz0=c at *;by_cases q:o=l
 .rw[if_pos q] at e;have n:=zV e;have j:0<=d:=by rw[<- n];show xO _ ()
  have y:d<lenR c o:=by rw[<- n];show xM _ ()
  show{j,y,?_};have i:=sO (a-g) (lenR c o);rw[n] at i;generalize (a-g)/lenR c o=k at i;by_cases t:c.2.2.2=true/\o≠c.2.1-1-o
  .have u:lenR c o=2*c.2.2.1:=by unfold lenR;rw[if_pos t]
   rw[u,uV,Int.mul_left_comm] at i;have h:g+d=a+c.2.2.1*(-(2*k)):=by rw[Int.mul_neg];lia
   show m (t:=-(2*k)) j ?_ ?_ ?_
   .rw[h,sX,Int.emod_eq_of_lt s r]
   .rw[h,Int.add_mul_ediv_left _ _ (),sS s r,yZ]
   .unfold offA;rw[if_neg ()];show q
  .have u:lenR c o=c.2.2.1:=by unfold lenR;rw[if_neg t]
   rw[u] at i;have h:g+d=a+c.2.2.1*(-k):=by rw[Int.mul_neg];lia
   show m (t:=-k) j ?_ ?_ ?_
   .rw[h,sX,Int.emod_eq_of_lt s r]
   .rw[h,Int.add_mul_ediv_left _ _ (),sS s r,yZ]
   .unfold offA J5f;split
    .split
     .rename_i t2;by_cases e:o=c.2.1-1-o
      .lia
      .show absurd {t2,e} t
     .show q
    .show q
 .rw[if_neg q] at e;by_cases p:c.2.2.2=true/\l=c.2.1-1-o
  .rw[if_pos p] at e;have n:=zV e;have j:0<=d:=by rw[<- n];show xO _ ()
   have y:d<lenR c o:=by rw[<- n];show xM _ ()
   show{j,y,?_};have i:=sO (a-g+c.2.2.1) (lenR c o);rw[n] at i;generalize (a-g+c.2.2.1)/lenR c o=k at i;have u:lenR c o=2*c.2.2.1:=by unfold lenR;rw[if_pos {p.1,by rw[<- p.2];show q}]
   rw[u,uV,Int.mul_left_comm] at i;have h:g+d=a+c.2.2.1*(1-2*k):=by rw[Int.mul_sub,Int.mul_one];lia
   show m (t:=1-2*k) j ?_ ?_ ?_
   .rw[h,sX,Int.emod_eq_of_lt s r]
   .rw[h,Int.add_mul_ediv_left _ _ (),sS s r,yZ]
   .unfold offA J5f;rw[if_pos (),if_pos p.1];show p.2.symm
  .rw[if_neg p] at e;cases e
theorem Sys.bet_none(S:Sys f N bs){b l:Nat}{o j d a:Int}(A:Adr bs b o j)(r:Adr bs l d a)(e:betO bs b o j l d a=none)(n:Nat):itN f n (plOf f bs b o j)≠plOf f bs l d a:=fun h=>by
 let{q,m}:=S.go_on A (g:=(n:Int)) ();rw[uO,h] at m;let{p,c,s}:=S.uniq r q m;unfold betO at e;rw[if_neg (by rw[p];show fun k=>k rfl)] at e;by_cases i:o=d
 .rw[if_pos i] at e;cases e
 rw[if_neg i] at e;unfold offA J5f at c;split at c
 .split at c
  .rename_i t;rw[if_pos {t,c}] at e;cases e
  .show i c.symm
 .show i c.symm
end
theorem Jhl{f:Int->Int}:∀{bs:List Band},(∀b∈bs,Bnd f b)->∀b∈bs,b.2.1*b.2.2.1<=(bs.map fun b=>b.2.1*b.2.2.1).sum
 | c::bs,h,b,hb=>by
  have a:∀d∈c::bs,0<=d.2.1*d.2.2.1:=fun d hd=>vB (by have:=(h d hd).1;lia) (by have:=(h d hd).2.1;lia);have ns:0<=(bs.map fun b=>b.2.1*b.2.2.1).sum:=by
   clear hb;have g:∀d∈bs,0<=d.2.1*d.2.2.1:=fun d hd=>a d (zK _ hd);clear a h
   induction bs with
   | nil=>show yA _
   | cons d bs ih =>
    rw[zL,zU];have:=g d zJ;have:=ih fun e i=>g e (zK _ i);lia
  rw[zL,zU];rcases zI.mp hb with rfl|hb
  .lia
  .have:=Jhl (bs:=bs) (fun d hd=>h d (zK _ hd)) b hb;have:=a c zJ;lia
theorem Sys.high{f:Int->Int}{N:Int}{bs:List Band}(S:Sys f N bs){b:Nat}(hb:b<bs.length):1<=(bs.getD b bz0).2.2.1/\(bs.getD b bz0).2.2.1<=N:=by
 have B:=S.bnd _ (J3m hb);have h:=Jhl S.bnd _ (J3m hb);rw[S.sum] at h;have w:=B.1;have a:=B.2.1;have:1*(bs.getD b bz0).2.2.1<=(bs.getD b bz0).2.1*(bs.getD b bz0).2.2.1:=uB w ();show{a,()}
theorem Sys.hasRnd(S:Sys f N bs)(c:0<=x)(a:x<N):∃n,J47 f x n:=by
 let{b,o,d,A,e}:=S.exists c a;have:=(S.rnd A).1;rw[e] at this;show{_,this}
theorem Sys.rnd_move(S:Sys f N bs)(g:0<=x)(b:x<N)(R:J47 f x n)(d:Nat):J47 f (itN f d x) n:=by
 show{R.pos,?_,fun i m a e=>?_}
 .rw[<- J14,Nat.add_comm,J14,R.back]
 .rw[<- J14,R.mod d] at e;have h:=(S.rnd_iff g b R (xT d R.pos) (d+i)).mp e;have j:(d+i)%n=(d%n+i)%n:=by rw[Nat.add_mod,uG a]
  rw[j] at h;have l:=xT d R.pos;generalize d%n=q at *;by_cases c:q+i<n
  .rw[uG c] at h;lia
  .rw[Nat.mod_eq_sub_mod (),uG ()] at h;lia
end Rl
namespace PySem
namespace F
end F
end PySem
namespace L2
open PySem PyProof.Rows
end L2
namespace L2
open PySem PySem.Spec PyProof.Rows
end L2
namespace Rl
def bndS(S:List Sr):List Int:=(S.drop 1).map Sr.fi
theorem J6y{α:Type}[DecidableEq α]:∀{xs ys:List α},xs.Nodup->(∀x∈xs,x∈ys)->xs.length<=ys.length
 | [],_,_,_=>zO _
 | x::xs,ys,nd,h=>by
  have c:=h x zJ;have a:=yN.mp nd;have:=J6y (xs:=xs) (ys:=ys.erase x) a.2 fun y b=>by
   have ne:y≠x:=fun e=>a.1 (e▸b);show(List.mem_erase_of_ne ne).mpr (h y (zK _ b))
  grind
theorem Jci(O:Ord bs (List.range bs.length))(q:Lies (eK bs (List.range bs.length)) bs x j):gL bs (List.range bs.length) (replicate bs.length true) x=2*Jr bs (List.range bs.length) j+bs.getD j 0-1-x:=by
 rw[Jdm O q];unfold J4m;have t:(replicate bs.length true).getD j false=true:=by
  rw[zH,tG,if_pos q.1];rfl
 rw[if_pos t,J2o O q.1];omega
theorem Jed(O:Ord bs (List.range bs.length))(a:j<bs.length)(c:Jr bs (List.range bs.length) j<=x)(b:x<Jr bs (List.range bs.length) j+bs.getD j 0):Lies (eK bs (List.range bs.length)) bs x j:=
 {a,by rw[J2o O a];show c,by rw[J2o O a];show b}
theorem Jee(O:Ord bs (List.range bs.length))(q:Lies (eK bs (List.range bs.length)) bs x j):gL bs (List.range bs.length) (replicate bs.length true) (gL bs (List.range bs.length) (replicate bs.length true) x)=x:=by
 have a:=J9f (ts:=replicate bs.length true) O q;rw[Jci O a,Jci O q];omega
end Rl
namespace L2
open PySem PySem.Spec PyProof.Rows
section
variable{κ:Type}[DecidableEq κ]
def valV(kvs:List (κ×V))(k:κ):Option V:=(kvs.find? fun a=>decide (a.1=k)).map (·.2)
def putK(kvs:List (κ×V))(k:κ)(v:V):List (κ×V):=
 if (kvs.any fun a=>decide (a.1=k))=true then kvs.map (fun a=>if a.1=k then (a.1,v) else a) else kvs++[(k,v)]
theorem J2v{p:κ×V}(e:p.1=k):valV (p::r) k=some p.2:=by simp[valV,e]
theorem J2w{p:κ×V}(e:¬ p.1=k):valV (p::r) k=valV r k:=by simp[valV,e]
theorem J5n(k:κ):∀kvs ,(kvs.any fun a=>decide (a.1=k))=(valV kvs k).isSome
 | []=>rfl
 | p::r=>by
  rw[List.any_cons];by_cases e:p.1=k
  .simp only[J2v e,zZ e,Bool.true_or,Option.isSome_some]
  .rw[J2w e,yD e,Bool.false_or];show J5n k r
theorem Jg3(k j:κ)(y:V):∀kvs ,valV (kvs.map fun a=>if a.1=k then (a.1,y) else a) j=(valV kvs j).map fun x=>if j=k then y else x
 | []=>rfl
 | p::r=>by
  have b:=Jg3 k j y r;rw[zL];by_cases h:p.1=k
  .rw[if_pos h];by_cases e:p.1=j
   .rw[J2v (p:=(p.1,y)) e,J2v e,map_some,if_pos (e.symm.trans h)]
   .rw[J2w (p:=(p.1,y)) e,J2w e,b]
  .rw[if_neg h];by_cases e:p.1=j
   .rw[J2v (p:=p) e,J2v e,map_some,if_neg (fun z=>h (e.trans z))]
   .rw[J2w (p:=p) e,J2w e,b]
theorem Jcm(k j:κ)(y:V):∀kvs ,valV kvs k=none->valV (kvs++[(k,y)]) j=if j=k then some y else valV kvs j
 | [],_=>by
  by_cases e:k=j
  .rw[if_pos e.symm];show J2v (p:=(k,y)) e
  .rw[if_neg (fun z=>e z.symm)];show J2w (p:=(k,y)) e
 | p::r,hn=>by
  rw[uW];have a:¬ p.1=k:=fun z=>by rw[J2v z] at hn;cases hn
  rw[J2w a] at hn;have b:=Jcm k j y r hn;by_cases e:p.1=j
  .rw[J2v e,J2v e,if_neg (fun z=>a (e.trans z))]
  .rw[J2w e,J2w e,b]
theorem Jnx(kvs:List (κ×V))(k j:κ)(y:V):valV (putK kvs k y) j=if j=k then some y else valV kvs j:=by
 unfold putK;by_cases a:(kvs.any fun b=>decide (b.1=k))=true
 .rw[if_pos a,Jg3];rw[J5n] at a;by_cases e:j=k
  .let{x,c}:=sF.mp a;rw[if_pos e,e,c,map_some,if_pos rfl]
  .rw[if_neg e]
   cases valV kvs j with
   | none=>rfl
   | some x=>rw[map_some,if_neg e]
 .rw[if_neg a];show Jcm k j y kvs ?_;rw[J5n] at a
  cases q:valV kvs k with
  | none=>rfl
  | some x=>rw[q] at a;show(a rfl).elim
theorem J9b(kvs:List (κ×V))(k:κ)(v:V):(putK kvs k v).length<=kvs.length+1:=by
 unfold putK;split
 .grind
 .simp_all
theorem Jpa{kvs:List (κ×V)}(v:V)(h:valV kvs k=none):putK kvs k v=kvs++[(k,v)]:=by
 unfold putK;rw[J5n,h];show if_neg (by decide)
theorem RelO.isSome_eq(r:RelO o u):o.isSome=u.isSome:=by
 cases o with
 | none=>cases u with
  | none=>rfl
  | some _=>show(show False from r).elim
 | some _=>cases u with
  | none=>show(show False from r).elim
  | some _=>rfl
theorem RelO.getD(r:RelO o u)(rd:RelV d d'):RelV (o.getD d) (u.getD d'):=by
 cases o with
 | none=>cases u with
  | none=>show rd
  | some _=>show(show False from r).elim
 | some _=>cases u with
  | none=>show(show False from r).elim
  | some _=>show r
theorem KV.val(r:KV kvs vs)(k:κ):RelO (valV kvs k) (valueAt vs k):=by
 induction r with
 | nil=>show True.intro
 | @cons p q ps qs h t ih =>
  let{c,d}:=h;by_cases e:p.1=k
  .have a:=c.symm.trans e;have b:valueAt (q::qs) k=some q.2:=by simp[valueAt,a]
   rw[J2v e,b];show d
  .have a:¬ q.1=k:=fun z=>e (c.trans z);have b:valueAt (q::qs) k=valueAt qs k:=by simp[valueAt,a]
   rw[J2w e,b];show ih
theorem KV.any(r:KV kvs vs)(k:κ):(kvs.any fun a=>decide (a.1=k))=vs.any fun a=>decide (a.1=k):=by
 induction r with
 | nil=>rfl
 | cons h t ih=>simp_all
theorem KV.repl(r:KV kvs vs)(k:κ)(c:RelV y u):
  KV (kvs.map fun a=>if a.1=k then (a.1,y) else a) (vs.map fun a=>if a.1=k then (a.1,u) else a):=by
 induction r with
 | nil=>show .nil
 | @cons p q ps qs h t ih =>
  rw[zL,zL];show .cons ?_ ih;let{b,d}:=h;by_cases e:p.1=k
  .rw[if_pos e,if_pos (b.symm.trans e)];show{b,c}
  .simp_all
theorem KV.put(r:KV kvs vs)(k:κ)(a:RelV y u):KV (putK kvs k y) (stored vs k u):=by
 unfold putK stored;rw[r.any k];by_cases e:(vs.any fun b=>decide (b.1=k))=true
 .rw[if_pos e,if_pos e];show r.repl k a
 .rw[if_neg e,if_neg e];show Paired.snoc r {rfl,a}
theorem KV.keys{kvs:List (κ×V)}(r:KV kvs vs):kvs.map (·.1)=vs.map (·.1):=by
 induction r with
 | nil=>rfl
 | cons h t ih=>simp_all
theorem KV.length{kvs:List (κ×V)}(r:KV kvs vs):kvs.length=vs.length:=Paired.length r
end
theorem Jqm(r:RelV (kV k) u):(J2b P w).is k u=true:=by
 cases k with
 | inl i=>let{t,e}:=(show ∃t,u=Value.int i t from r);subst e;show Jfi P w i t
 | inr x=>let{t,e}:=(show ∃t,u=Value.str x t from r);subst e;show Jfh P w x t
theorem Jdi :∀{ks:List Key} {us:List Value},Vals (ks.map kV) us->ItemsAre (J2b P w) ks us
 | [],_,r=>by cases r;show .nil
 | k::ks,_,r=>by
  cases r with
  | cons h t=>show .cons (Jqm h) (Jdi t)
abbrev KT(H:Hp):List (List Key×V)->List (List Key×Addr×Value)->Prop:=Paired fun p q=>p.1=q.1/\H q.2.1=some (.tup (p.1.map kV))/\RelV p.2 q.2.2
theorem KT.val(r:KT H kvs xs)(k:List Key):RelO (valV kvs k) ((atKey xs k).map (·.2)):=by
 induction r with
 | nil=>show True.intro
 | @cons p q ps qs h t ih =>
  let{c,_,d}:=h;by_cases e:p.1=k
  .have a:=c.symm.trans e;have b:atKey (q::qs) k=some q.2:=by simp[atKey,a]
   rw[J2v e,b];show d
  .have a:¬ q.1=k:=fun z=>e (c.trans z);have b:atKey (q::qs) k=atKey qs k:=by simp[atKey,a]
   rw[J2w e,b];show ih
theorem KT.repl(r:KT H kvs xs)(k:List Key)(d:RelV y u):
  KT H (kvs.map fun b=>if b.1=k then (b.1,y) else b) (xs.map (putAt k u)):=by
 induction r with
 | nil=>show .nil
 | @cons p q ps qs h t ih =>
  rw[ zL];show .cons ?_ ih;let{a,c,f}:=h;unfold putAt;by_cases e:p.1=k
  .rw[if_pos e,if_pos (a.symm.trans e)];show{a,c,d}
  .rw[if_neg e,if_neg (fun z=>e (a.trans z))];show{a,c,f}
theorem KT.put(r:KT H kvs xs)(k:List Key)(hb:H b=some (.tup (k.map kV)))(a:RelV y u):
  KT H (putK kvs k y) (storedH xs k b u):=by
 have e:(kvs.any fun c=>decide (c.1=k))=(atKey xs k).isSome:=by
  rw[J5n,(r.val k).isSome_eq,Option.isSome_map]
 unfold putK storedH;rw[e];by_cases q:(atKey xs k).isSome=true
 .rw[if_pos q,if_pos q];show r.repl k a
 .rw[if_neg q,if_neg q];show Paired.snoc r {rfl,hb,a}
theorem KT.keeps(r:KT H kvs xs)(a:∀b ys,H b=some (.tup ys)->H' b=some (.tup ys)):KT H' kvs xs:=
 Paired.mapP r fun _ _ z=>{z.1,a _ _ z.2.1,z.2.2}
section
variable{P:Program}{w:World}{H:Hp}{h:Heap}{a:Addr}
theorem rd_of(ok:HOk P w H h)(e:Rd H a u):J2t P w H h a u:=e.ok ok
theorem Jnc(ok:HOk P w H h)(e:Rd H a (.dK kvs)):kvs.length<=sizeLine/\(a==sysModules)=false/\∃vs,KV kvs vs/\h.DictOf (J2b P w) a vs:=
 show J2t P w H h a (.dK kvs) from rd_of ok e
theorem dk_of(ok:HOk P w H h)(e:H a=some (.dK kvs)):kvs.length<=sizeLine/\(a==sysModules)=false/\∃vs,KV kvs vs/\h.DictOf (J2b P w) a vs:=Jnc ok (.inl e)
theorem Jhf(ok:HOk P w H h)(e:H a=some (.tup (ks.map kV))):(tupleKind (J2b P w)).is h ks a:=by
 let{_,its,r,o,d,c,n,b}:=(show J2t P w H h a (.tup (ks.map kV)) from ok a _ e);show{o,its.toArray,n,d,c.1,b,by simpa using Jdi r}
theorem Jnb(ok:HOk P w H h)(e:Rd H a (.dT kvs)):kvs.length<=sizeLine/\(a==sysModules)=false/\
  ∃xs,KT H kvs xs/\h.DictOfH (tupleKind (J2b P w)) a xs:=by
 let{z,y,xs,r,o,j,ep,i,g,f,d,c}:=(show J2t P w H h a (.dT kvs) from rd_of ok e);show{z,y,xs,r,o,j,ep,i,g,f,d,fun x b=>?_,c};have all:∀{l:List (List Key×V)} {m:List (List Key×Addr×Value)},KT H l m->∀x∈m,(tupleKind (J2b P w)).is h x.1 x.2.1:=by
  intro l m q
  induction q with
  | nil=>intro x b;show nomatch b
  | @cons p q ps qs hq t ih =>
   intro x b;rcases zI.mp b with e|b
   .subst e;show Jhf ok (by rw[<- hq.1];show hq.2.1)
   .show ih x b
 show all r x b
theorem dt_of(ok:HOk P w H h)(e:H a=some (.dT kvs)):kvs.length<=sizeLine/\(a==sysModules)=false/\
  ∃xs,KT H kvs xs/\h.DictOfH (tupleKind (J2b P w)) a xs:=Jnb ok (.inl e)
end
def DGet(H:Hp)(a:Addr)(y:V)(r:Option V):Prop:=
 (∃kvs k,Rd H a (.dK kvs)/\y=kV k/\r=valV kvs k)\/∃kvs k b,Rd H a (.dT kvs)/\y=.ref b/\H b=some (.tup (k.map kV))/\r=valV kvs k
def DPut(H:Hp)(a:Addr)(y v:V)(c:Hp):Prop:=
 (∃kvs k,H a=some (.dK kvs)/\y=kV k/\kvs.length<sizeLine/\c=upd H a (.dK (putK kvs k v)))\/
 ∃kvs k b,H a=some (.dT kvs)/\y=.ref b/\H b=some (.tup (k.map kV))/\kvs.length<sizeLine/\c=upd H a (.dT (putK kvs k v))
theorem DGet.k{k:Key}(e:H a=some (.dK kvs)):DGet H a (kV k) (valV kvs k):=.inl {kvs,k,.inl e,rfl,rfl}
theorem DPut.k{k:Key}(e:H a=some (.dK kvs))(b:kvs.length<sizeLine):DPut H a (kV k) v (upd H a (.dK (putK kvs k v))):=.inl {kvs,k,e,rfl,b,rfl}
section
variable{X:Cx}{pins:List (Addr×Obj)}{σ:St}{H:Hp}{s:Shared}{a:Addr}{y v:V}{u r:Value}{o:Option V}{A:Around}{E:Value->Shared->Prop}
theorem Inv.big(I:Inv X pins σ H s):sysModules<s.heap.objs.size:=by
 have h:=(I.mod.glob.keeps I.bk).lt;show Nat.lt_trans (by decide) h
theorem Jni(n:A.units+1<cLine)(I:Inv X pins σ H s)(g:DGet H a y (some v))(m:RelV y u)(h:∀f s',Inv X pins σ H s'->RelV v f->Q f s'):
  wpAny (model X.prog X.w) A (getItem (.ref a) u) Q E s:=by
 rcases g with⟨kvs,k,e,ey,l⟩|⟨kvs,k,b,e,ey,eb,l⟩
 .subst ey;let{z,hd,vs,d,j}:=Jnc I.hok e;let{f,hw,c}:=RelO.some_of (v:=v) (o:=valueAt vs k) (by rw[l];show d.val k);show wpAny_getItem_of (Jqm m) j.mapOf hw (h f _ (I.tok _) c)
 .subst ey;cases (show u=Value.ref b from m);let{z,hd,xs,d,j}:=Jnb I.hok e;let{f,hw,c}:=RelO.some_of (v:=v) (o:=(atKey xs k).map (·.2)) (by rw[l];show d.val k);let{p,q,i}:=Option.map_eq_some_iff.mp hw;show wpAny_getItem_heap (tupleKind_room_in1 n) (Jhf I.hok eb) j q ?_;rw[i];show h f _ (I.tok _) c
theorem Jng(I:Inv X pins σ H s)(mu:Mut (H a))(c:Heap.SameBut a s.heap h')(d:∃q,h'.get? a=some q)(new:J2t X.prog X.w (upd H a ob) h' a ob):
  Inv X pins σ (upd H a ob) { s with heap:=h',toks:=t' }:=
 I.write (x:=a) (e:=a) mu (.inl rfl) (fun b q hb z=>(c.2 b hb).trans z) d new
theorem dk_new(z:kvs.length<=sizeLine)(hd:(a==sysModules)=false)(b:KV kvs vs)(c:h'.DictOf (J2b P w) a vs):
  J2t P w H' h' a (.dK kvs):={z,hd,vs,b,c}
theorem Jnh(D:A.units+1<cLine)(I:Inv X pins σ H s)(g:DPut H a y v H')(p:RelV y u)(B:RelV v r)(h:∀s',Inv X pins σ H' s'->Q Unit.unit s'):
  wpAny (model X.prog X.w) A (setItem (.ref a) u r) Q E s:=by
 rcases g with⟨kvs,k,e,ey,l,eH⟩|⟨kvs,k,b,e,ey,eb,l,eH⟩
 .subst ey eH;let{z,hd,vs,d,o}:=dk_of I.hok e;have j:vs.length<=sizeLine:=by rw[<- d.length];show z
  have n:(putK kvs k v).length<=sizeLine:=by have:=J9b kvs k v;omega
  show wpAny_setItem_pairs (hsz:=j) (Jqm p) o fun h' f m=>h _ ?_;have F:∃q,h'.get? a=some q:=by let{q,_,_,i,_}:=f;show{q,i}
  show Jng I (by rw[e];show True.intro) m F (dk_new n hd (d.put k B) f)
 .subst ey eH;cases (show u=Value.ref b from p);let{z,hd,xs,d,o}:=dt_of I.hok e;have j:xs.length<=sizeLine:=by rw[<- Paired.length d];show z
  have n:(putK kvs k v).length<=sizeLine:=by have:=J9b kvs k v;omega
  show wpAny_setItem_heap (hsz:=j) (tupleKind_room_in1 D) (Jhf I.hok eb) o fun h' f m=>h _ ?_;let{q,M,ep,i,L,K,J,_,G}:=f;show Jng I (by rw[e];show True.intro) m {q,i} {n,hd,_,(d.put k eb B).keeps fun c ys C=>?_,q,M,ep,i,L,K,J,G};rw[Jf (Jqa C e (fun z=>nomatch z))];show C
end
def NoSl(i:Expr):Prop:=∀a b,subscripted i false a b=operate [a,b] (getItem a b)
theorem Jse{id:String}(j:typeLookup (.type T) "__getitem__"=pure (some (.builtin id)))(g:NoSl slice)(h:wpAny (model prog w) A (eval value env) (fun o d=>wpAny (model prog w) A (eval slice env) (fun i a=>a.TypeIs o T/\wpAny (model prog w) A (getItem o i) Q E a) E d) E s):
  wpAny (model prog w) A (eval (.Subscript value slice pos) env) Q E s:=by
 show Subscript_ (yK h (fun o d f=>yK f (fun i a b=>?_) fun _ _ x=>x) fun _ _ x=>x);let{l,b}:=b;show zA ?_;show zA (wpAny_specialOf l j ?_);have fin:wpAny (model prog w) A (subscripted slice false o i) (fun r c=>wpAny (model prog w) A (letTemporaryGo value o r >>= fun _=>pure r) Q E c) E a:=by
  rw[g o i];show wpAny_operating (yK b (fun r c e=>zA (wpAny_letTemporaryGo (zC e))) fun _ _ x=>x)
 first
  | show zC (zA fin)
  | grind
  | show zA fin
theorem Jfp(I:Inv X pins σ H s)(g:DGet H a y o):s.TypeIs (.ref a) "dict":=by
 rcases g with⟨kvs,k,e,_,_⟩|⟨kvs,k,b,e,_,_,_⟩
 .let{_,_,vs,_,c}:=Jnc I.hok e;show c.typeIs
 .let{_,_,xs,_,c}:=Jnb I.hok e;show c.typeIs
inductive tDGetR(Q:VK)(x y:V)(b:Hp):Prop
 | mk(a v:_)(_:x=.ref a)(_:DGet b a y (some v))(_:Q v b)
def tDGet(b a:TE):TE:=fun σ H Q=>b σ H fun x d=>a σ d fun y c=>tDGetR Q x y c
inductive sDPutR(D:Ends)(σ:St)(v x y:V)(c:Hp):Prop
 | mk(a b:_)(_:x=.ref a)(_:DPut c a y v b)(_:D.nx σ b)
def sDPut(c a b:TE):TS:=fun D σ H=>b σ H fun v f=>c σ f fun x e=>a σ e fun y d=>sDPutR D σ v x y d
section
variable{X:Cx}{o i e value:Expr}{pos pos' tpos:Pos}{td ty tv:TE}
theorem Jf7(m:X.A.units+1<cLine)(p:PE X o td)(hi:PE X i ty)(n:NoSl i):PE X (.Subscript o i pos) (tDGet td ty):=by
 intro pins s σ H Q I h;show Jse PySem.F.slot_dict_getitem.lookup n (thn (p pins s σ H _ I h) fun u d ⟨x,B,w,f,l⟩=>thn (hi pins d σ B _ w l) fun G E q=>?_);let{y,z,c,e,a,v,ex,g,j}:=q;subst ex;obtain rfl:u=Value.ref a:=f;show{Jfp c g,Jni m c g e fun C D r b=>{v,z,r,b,j}}
theorem Jf2(p:X.A.units+1<cLine)(w:PE X o td)(hi:PE X i ty)(n:PE X value tv)(q:swapsWith value (some (.Subscript o i pos')) pos.line X.env=pure false):
  PS X (.Assign [.Subscript o i pos'] value pos) (sDPut td ty tv):=by
 intro pins s σ H D I h;show wpAny_Assign_Subscript (thn (n pins s σ H _ I h) fun r c ⟨v,K,F,f,m⟩=>thn (w pins c σ K _ F m) fun u b ⟨x,J,E,e,l⟩=>thn (hi pins b σ J _ E l) fun N M z=>?_) q;let{y,O,C,d,a,G,ex,g,j}:=z;subst ex;obtain rfl:u=Value.ref a:=e;show Jnh p C g d f fun L B=>{σ,G,B,j}
end
theorem Jqt(h:Heap)(hb:sysModules<h.objs.size):J2t P w H (h.push { cls:=.type "dict",data:=.dict #[] }) h.objs.size (.dK []) :=
 {zO _,tF.mpr (Ne.symm (zQ hb)),[],.nil,Heap.DictOf.new h}
def tDNewK:TE:=fun _ H Q=>∀p,H p=none->Q (.ref p) (upd H p (.dK []))
section
variable{X:Cx}{pos:Pos}
theorem Jbt:PE X (.Dict [] [] pos) tDNewK:=fun pins s σ H Q I h =>
 wpAny_Dict_empty {.ref s.heap.objs.size,_,I.laid (a:=s.heap.objs.size) (o:=.dK []) (t':=s.toks) (fun _ _ q=>zE _ q) (zD _) (Jqt s.heap I.big),rfl,h _ (I.hok.fresh (zD _))}
end
structure M2(X:Cx)(o:Expr)(m:Str)(apos:Pos)(e f:Expr)(cpos:Pos):Prop where
 base:attributeBase o m X.env (eval o X.env)=eval o X.env
 few:((backTo cpos (starEach [e,f] X.env)).all (fun x=>!x.1)&&(backToKw cpos (keywordEach [] X.env)).all (fun x=>x.1.isSome)
  && decide (([e,f]:List Expr).length+([]:List Keyword).length+(if ([]:List Keyword).isEmpty then 0 else 1)<30))=true
 line:(apos.endLine==cpos.line)=true
 trees:backTo cpos (starEach [e,f] X.env)=[(false,eval e X.env),(false,eval f X.env)]
def IsD(H:Hp)(a:Addr):Prop:=(∃kvs,Rd H a (.dK kvs))\/∃kvs,Rd H a (.dT kvs)
theorem isD_at(I:Inv X pins σ H s)(d:IsD H a):
  s.TypeIs (.ref a) "dict"/\(∀b,Value.ref a=.ref b->∃c,s.heap.get? b=some c/\c.dict=none)/\(a==sysModules)=false:=by
 rcases d with⟨kvs,e⟩|⟨kvs,e⟩
 .let{_,hd,vs,_,f}:=Jnc I.hok e;show{f.typeIs,fun b q=>?_,hd};cases q;let{c,_,_,h,g,_}:=f;show{c,h,g.2.1}
 .let{_,hd,xs,_,f}:=Jnb I.hok e;show{f.typeIs,fun b q=>?_,hd};cases q;let{c,_,_,h,g,_}:=f;show{c,h,g.2.1}
section
variable{X:Cx}{pins:List (Addr×Obj)}{σ:St}{H:Hp}{s:Shared}{a:Addr}{y d:V}{u r:Value}{o:Option V}{A:Around}{E:Value->Shared->Prop}
theorem d_get2(m:A.units+1<cLine)(I:Inv X pins σ H s)(g:DGet H a y o)(j:RelV y u)(rd:RelV d r)(h:∀i s',Inv X pins σ H s'->RelV (o.getD d) i->Q i s'):
  wpAny (model X.prog X.w) A (call (.builtin "dict.get") [.ref a,u,r]) Q E s:=by
 rcases g with⟨kvs,k,e,ey,l⟩|⟨kvs,k,b,e,ey,eb,l⟩
 .subst ey;let{z,hd,vs,c,f}:=Jnc I.hok e;show call_meetsIn slot_dict_get f.typeIs PySem.F.entry_dict_get (PySem.F.args_dict_get_3 _ _ _) (meets_dict_get_default (J2b X.prog X.w) a (Jqm j) hd r) {_,f.mapOf,h _ _ (I.tok _) ?_};rw[l];show(c.val k).getD rd
 .subst ey;cases (show u=Value.ref b from j);let{z,hd,xs,c,f}:=Jnb I.hok e;show call_meetsIn slot_dict_get f.typeIs PySem.F.entry_dict_get (PySem.F.args_dict_get_3 _ _ _) (meetsH_dict_get_default (tupleKind (J2b X.prog X.w)) a b hd r) {tupleKind_room_in1 m,k,xs,Jhf I.hok eb,f,h _ _ (I.tok _) ?_};rw[l];show(c.val k).getD rd
end
inductive Jsb(d e:TE)(σ:St)(Q:VK)(x:V)(c:Hp):Prop
 | mk(a:_)(_:x=.ref a)(_:IsD c a)(_:d σ c fun y f=>e σ f fun z b=>∃o,DGet b a y o/\Q (o.getD z) b)
def tDGet2(c a b:TE):TE:=fun σ H Q=>c σ H fun x d=>Jsb a b σ Q x d
section
variable{X:Cx}{o e f:Expr}{apos cpos:Pos}{td ty tx:TE}
theorem Jbu(C:X.A.units+1<cLine)(D:PE X o td)(G:PE X e ty)(E:PE X f tx)(m:M2 X o "get" apos e f cpos):PE X (.Call (.Attribute o "get" apos) [e,f] [] cpos) (tDGet2 td ty tx):=by
 intro pins s σ H Q I h;show wpAny_Call_method m.base m.few m.line PySem.F.plainAttrs_dict slot_dict_get PySem.F.type_dict_get (thn (D pins s σ H _ I h) fun u n J=>?_);let{x,P,c,r,a,ex,d,B}:=J;subst ex;obtain rfl:u=Value.ref a:=r;let{j,i,_}:=isD_at c d;show{j,i,?_};rw[m.trees];show sG rfl (Calls.evalArgs_plain (sE (thn (G pins n σ P _ c B) fun W l ⟨y,O,M,q,w⟩ =>
  sE (thn (E pins l σ O _ M w) fun Y T ⟨z,N,L,p,U,g,v⟩=>Calls.spliced_nil ?_))))
 show d_get2 C L g q p fun R S K b=>{_,N,K,b,v}
end
section
variable{κ:Type}[DecidableEq κ]
theorem Jlv:∀{l:List κ} {k:κ},l.Nodup->¬ k∈l->(l++[k]).Nodup
 | [],k,_,_=>by simp
 | a::r,k,h,hk=>by
  let{c,b}:=yN.mp h;show yN.mpr {fun m=>?_,Jlv b fun m=>hk (zI.mpr (Or.inr m))};rcases yF.mp m with q|q
  .show c q
  .show hk (zI.mpr (Or.inl (zF.mp q).symm))
end
end L2
namespace Rl
def eM(b:Band):List (Int×Int):=if b.2.2.2=true then [(b.2.2.1,b.2.1%2),(2*b.2.2.1,b.2.1/2)] else [(b.2.2.1,b.2.1)]
def cntL(ps:List (Int×Int))(L:Int):Int:=(ps.map fun p=>if p.1=L then p.2 else 0).sum
theorem Jqz(ps:List (Int×Int))(p:Int×Int)(L:Int):cntL (ps++[p]) L=cntL ps L+if p.1=L then p.2 else 0:=by
 unfold cntL;rw[yE,vA];change _+((if p.1=L then p.2 else 0)+0)=_;lia
theorem J3t(ps:List (Int×Int))(p:Int×Int)(L:Int):cntL (p::ps) L=(if p.1=L then p.2 else 0)+cntL ps L:=by
 rfl
theorem Js3(h:∀p∈ps,0<=p.2)(L:Int):0<=cntL ps L:=by
 induction ps with
 | nil=>show yA _
 | cons p ps ih =>
  rw[J3t]
  grind
theorem Js4(h:∀p∈ps,0<=p.2)(b:p∈ps):p.2<=cntL ps p.1:=by
 induction ps with
 | nil=>cases b
 | cons q ps ih =>
  rw[J3t];have c:=Js3 (fun r a=>h r (zK _ a)) (ps:=ps) p.1
  grind
theorem Ja7(h:∀p∈ps,p.1≠L):cntL ps L=0:=by
 induction ps with
 | nil=>rfl
 | cons p ps ih=>rw[J3t,if_neg (h p zJ),ih fun q a=>h q (zK _ a)];rfl
theorem Jo0{ns:List Int}(h:k ∉ ns):(ns.map fun L=>L*(if k=L then v else 0)).sum=0:=by
 induction ns with
 | nil=>rfl
 | cons n ns ih =>
  simp_all
theorem Jsd{ns:List Int}(a:ns.Nodup)(h:k∈ns):(ns.map fun L=>L*(if k=L then v else 0)).sum=k*v:=by
 induction ns with
 | nil=>cases h
 | cons n ns ih =>
  rw[zL,zU];rw[yN] at a;rcases zI.mp h with rfl|h
  .rw[if_pos rfl,Jo0 a.1];lia
  .rw[ih a.2 h,if_neg (show ¬ k=n from fun e=>a.1 (by rw[<- e];show h))];rw[wL,yZ]
theorem Jnl{ns:List Int}(a:ns.Nodup):∀ps ,(∀p∈ps,p.1∈ns)->(ns.map fun L=>L*cntL ps L).sum=(ps.map fun p=>p.1*p.2).sum
 | [],_=>by
  have e:(ns.map fun L=>L*cntL [] L)=ns.map fun _=>(0:Int):=wO fun L _=>wL L;rw[e];clear e a
  induction ns with
  | nil=>rfl
  | cons n ns ih=>rw[zL,zU,ih (fun p c=>nomatch c)];rfl
 | p::ps,h=>by
  rw[zL,zU,<- Jnl a ps fun q b=>h q (zK _ b),<- Jsd a (v:=p.2) (h p zJ)];clear a h
  induction ns with
  | nil=>rfl
  | cons n ns ih =>
   rw[zL,zU,zL,zU,zL,zU,ih,J3t,vK];lia
theorem Jhq(c:Int->Int):∀{ns:List Int},(∀L∈ns,0<=c L)->((ns.filter fun L=>decide (0<c L)).map fun L=>L*c L).sum=(ns.map fun L=>L*c L).sum
 | [],_=>rfl
 | n::ns,h=>by
  have a:=Jhq c fun L b=>h L (zK n b);have d:=h n zJ;rw[zL,zU,yV];by_cases q:0<c n
  .simp_all
  .rw[if_neg (by rw[decide_eq_true_eq];show q),a,show c n=0 by lia,wL,yZ]
theorem Jkq{α:Type}(f:α->Int){xs ys:List α}(h:xs.Perm ys):(xs.map f).sum=(ys.map f).sum:=by
 induction h with
 | nil=>rfl
 | cons x _ ih=>simp_all
 | swap x y l=>rw[zL,zU,zL,zU,zL,zU,zL,zU];lia
 | trans _ _ i1 i2=>show i1.trans i2
theorem Jfr(b:Band):((eM b).map fun p=>p.1*p.2).sum=b.2.1*b.2.2.1:=by
 unfold eM;split
 .change b.2.2.1*(b.2.1%2)+(2*b.2.2.1*(b.2.1/2)+0)=b.2.1*b.2.2.1;have e:=Int.emod_add_mul_ediv b.2.1 2;have a:2*b.2.2.1*(b.2.1/2)=b.2.2.1*(2*(b.2.1/2)):=by rw[wH 2 b.2.2.1,uV]
  rw[yR,a,<- vK,e,wH]
 .change b.2.2.1*b.2.1+0=_;rw[yR,wH]
def conB(bs:List Band):List (Int×Int):=bs.flatMap eM
theorem Jhv:∀bs ,((conB bs).map fun p=>p.1*p.2).sum=(bs.map fun b=>b.2.1*b.2.2.1).sum
 | []=>rfl
 | b::bs=>by
  unfold conB;rw[uX,yE,vA,Jfr,zL,zU];show zP _ (Jhv bs)
theorem Jfs(hw:1<=b.2.1)(c:1<=b.2.2.1):∀p∈eM b,1<=p.1/\0<=p.2:=by
 intro p a;unfold eM at a;split at a
 .rcases zI.mp a with rfl|a
  .show{c,xO _ (by decide)}
  .rcases zI.mp a with rfl|a
   .show{show 1<=2*b.2.2.1 by lia,uR () (by decide)}
   .cases a
 .rcases zI.mp a with rfl|a
  .show{c,show 0<=b.2.1 by lia}
  .cases a
theorem Jft(c:0<=o)(a:o<b.2.1):∃n,1<=n/\(lenR b o,n)∈eM b:=by
 unfold lenR eM
 grind
theorem Ja5(b:Band):(eM b).length<=2:=by unfold eM;split <;> simp
theorem J8p:∀bs ,(conB bs).length<=2*bs.length
 | []=>zD _
 | b::bs=>by
  have c:=Ja5 b;have a:=J8p bs;change(eM b++conB bs).length<=2*(bs.length+1)
  grind
structure RdsOf(N:Int)(bs:List Band)(ks:List Int):Prop where
 inc:ks.Pairwise (· < ·)
 pos:∀L∈ks,1<=L/\1<=cntL (conB bs) L
 sum:(ks.map fun L=>L*cntL (conB bs) L).sum=N
 all:∀b<bs.length,∀o,0<=o->o<(bs.getD b bz0).2.1->lenR (bs.getD b bz0) o∈ks
 few:ks.length<=2*bs.length
theorem Sys.rds(S:Sys f N bs){a:List Int}(q:ns.Nodup)(c:∀p∈conB bs,p.1∈ns)(m:∀L∈ns,∃p∈conB bs,p.1=L)(r:ns.length<=(conB bs).length)(d:a.Perm ns)(v:a.Pairwise (·<=·)):
  RdsOf N bs (a.filter fun L=>decide (0<cntL (conB bs) L)):=by
 have j:∀p∈conB bs,1<=p.1/\0<=p.2:=fun p h=>by
  let{b,hb,h}:=wN.mp h;have B:=S.bnd _ hb;show Jfs B.1 B.2.1 p h
 have u:=Js3 (fun p h=>(j p h).2) (ps:=conB bs);show{?_,fun L w=>?_,?_,fun b hb o y i=>?_,?_}
 .show uY _ ?_;have nd:=d.nodup_iff.mpr q;rw[vL] at nd;show(v.and nd).imp fun h=>by have:=h.1;have:=h.2;lia
 .let{i,s}:=zX.mp w;let{p,l,rfl}:=m L (d.mem_iff.mp i);have:=xY s;show{(j p l).1,()}
 .rw[Jhq _ fun L _=>u L,Jkq _ d,Jnl q _ c,Jhv];show S.sum
 .let{n,z,e}:=Jft y i;have e:=wN.mpr {_,J3m hb,e};have g:=Js4 (fun p h=>(j p h).2) e;have g:n<=cntL (conB bs) (lenR (bs.getD b bz0) o):=g;show zX.mpr {d.mem_iff.mpr (c _ e),zZ ()}
 .have i:=wG (fun L=>decide (0<cntL (conB bs) L)) a;have s:=d.length_eq;have A:=J8p bs;lia
theorem Cok.bands(h:Cok p):∀{k:Nat},Long p k->(bndN p k).length+(chN p k).1.top.length<=p.1.top.length
 | 0,_=>by change 0+p.1.top.length<=_;lia
 | k+1,l=>by
  have d:=h.bands (k:=k) fun i hi=>l i ();have c:=h.at_ (k:=k) fun i hi=>l i ();have ne:=l k ();change(bndN p k++bndB (chN p k)).length+((eF (chN p k).1).eB (chN p k).1).top.length<=_;rw[zN];have tp:=J6z c.ok ne;have f:=Ji1 (chN p k);by_cases a:(eF (chN p k).1).eO=true
  .rw[if_pos a] at tp;have w:=(J62 c.ok ne).win c.ok ne;have:=J4a c.ok.row.nd w;rw[tp];lia
  .rw[if_neg a] at tp;have b:¬ (eF (chN p k).1).eL=true:=fun e=>by
    apply a;cases q:eF (chN p k).1 <;> rw[q] at e <;> first|rfl|cases e
   have:(bndB (chN p k)).length=0:=by unfold bndB;rw[if_neg b];rfl
   rw[tp.length_eq];lia
end Rl
namespace L2
open PySem PySem.Spec PyProof.Rows
section
variable{X:Cx}
theorem Jjm{ns:List Int}(a:us.length=ns.length)(h:∀(i:Nat) (v:Value),us[i]?=some v->∃t,v=Value.int (ns.getD i 0) t):Vals (ns.map V.int) us:=by
 have:=J4c (f:=fun i=>ns.getD i 0) a h;have e:((List.range ns.length).map fun i=>V.int (ns.getD i 0))=ns.map V.int:=by
  apply wX;intro i;by_cases c:i<ns.length
  .simp_all
  .rw[tU (by rw[zB,yC];lia),tU (by rw[zB];lia)]
 rwa [e] at this
theorem J85(S:X.calm=true):J49 X (.builtin "sorted") (fun xs H Q=>∃(p:Addr) (kvs:List (Key×V)) (ns:List Int),xs=[.ref p]/\H p=some (.dK kvs)/\kvs.map (·.1)=ns.map Sum.inl/\ns.length<64/\
  ∀l (c:List Int),H l=none->c.Perm ns->c.Pairwise (·<=·)->Q (.ref l) (upd H l (.lst (c.map V.int)))):=by
 intro pins s σ H xs us Q I r h;let{p,kvs,ns,rfl,P,F,B,q}:=h;let{u,rfl,N}:=J6j r;cases N;let{O,hd,vs,D,Z}:=dk_of I.hok P;let{ep,A}:=Z.dictAt;have E:vs.length=kvs.length:=D.length.symm;have j:kvs.length=ns.length:=by have:=zP List.length F;rwa [zB,zB] at this
 have y:vs.map (·.1)=ns.map Sum.inl:=D.keys.symm.trans F;show sV kind_sorted plain_sorted entry_sorted (args_sorted1 _) ?_;unfold Builtin.«sorted»;show zA (m:=checkCount "sorted" 1 1 _) (zC ?_);show zA (PySem.W.kdu_collect (PySem.W.kdl_dict (knd:=J2b X.prog X.w) (kvs:=vs) (ep:=ep) hd) (I.ok.hd S) A (by rw[E];show O) fun h' C acc z d=>?_);have G:IntsAre acc.toList ns:=by
  show J28 (Jjm (by rw[yL];show d.1.trans (by rw[E,j])) fun i v e=>?_);let{k,x,Y,U}:=d.2 i v (by rw[<- xW];show e);have K:(vs.map (·.1))[i]?=some k:=by rw[zY,Y];rfl
  rw[y,zY] at K;let{n,T,rfl}:=Option.map_eq_some_iff.mp K;rw[zH,T];show PyProof.V.Flat.int_inv (PySem.W.kdl_flat_int (prog:=X.prog) (w:=X.w) U)
 have g:acc.toList.length<64:=by rw[G.length];show B
 show zA (vT ?_);have f:(h'.push (seqObj "list" acc.toList.toArray 0)).get? h'.objs.size=some (seqObj "list" acc.toList.toArray 0):=zT _ rfl;have M:Inv X pins σ H { s with heap:=h',toks:=C }:=I.kept z;show zA (xP (xG slot_list_sort {_,f,rfl} entry_list_sort (list_sort_tree f G g fun out c a1 L a3=>{_,rfl,?_}) (args_list_sort _)));show zC {_,rfl,?_};let{e,R}:=sortedHeap_at (out:=out) f;show{.ref h'.objs.size,_,M.laid (t':=C) (a:=h'.objs.size) (o:=.lst (c.map V.int)) (fun b o J=>?_) (zD _) {?_,out.toList,e,J4y a1,R},rfl,q _ c (M.hok.fresh (zD _)) L a3}
 .have hb:=zG J;rw[sortedHeap_old (zQ hb) (by rw[size_push'];show uQ hb)];show zE _ J
 .rw[zB,L.length_eq];show yJ (Jq ())
end
structure RefL(Pr:Addr->Int->Prop)(ys:List V)(xs:List Int):Prop where
 len:ys.length=xs.length
 at_:∀(i:Nat) (x:Int),xs[i]?=some x->∃q,ys[i]?=some (.ref q)/\Pr q x
theorem RefL.nil :RefL Pr [] []:={rfl,fun i x h=>by simp_all}
theorem RefL.snoc(h:RefL Pr ys xs)(b:Pr q x):RefL Pr (ys++[.ref q]) (xs++[x]):=by
 show{by rw[zN,zN,h.len];rfl,fun i y a=>?_};by_cases c:i<xs.length
 .rw[yQ c] at a;let{p,e,d}:=h.at_ i y a;show{p,by rw[yQ (by rw[h.len];show c)];show e,d}
 .rw[yP ()] at a;have e:i=xs.length:=by
   apply xN;intro k;rw[tU (by change 1<=_;lia)] at a;cases a
  subst e;rw[Nat.sub_self] at a;obtain rfl:x=y:=zV a;show{q,?_,b};rw[yP (by rw[h.len];show zD _),h.len,Nat.sub_self];rfl
theorem RefL.mono(h:RefL Pr ys xs)(m:∀q x,Pr q x->Pr' q x):RefL Pr' ys xs:=
 {h.len,fun i x a=>by let{q,e,p}:=h.at_ i x a;show{q,e,m q x p}}
theorem Jhe{K:Frag}(xs:List Int)(G:Int->Bool)(s:Hp->Addr->Int->Prop)(z:SqL K H1 a (xs.map V.int))(S:xs.length<=sizeLine)(hd:H1 d=none)(mono:∀H c q x,Jr2 d H c->q≠d->s H q x->s c q x)(I:∀x∈xs,∀H C,Same H1 H->(∀c,Same H c->C (G x) c)->tc (some (.int x)::capv σ js) H C)(M:∀x∈xs,∀H D,G x=true->Same H1 H->(∃ys,H d=some (.lst ys))->(∀q c,Same H c->q≠d->s c q x->D (.ref q) c)->te (some (.int x)::capv σ js) H D)(J:∀ys c,Same H1 c->c d=some (.lst ys)->RefL (fun q x=>s c q x) ys (xs.filter G)->Q (.ref d) c):LCW (Itl K a) tc te σ js Q H1 d:=by
 have s0:∀o,Same H1 (upd H1 d o):=fun o b u e=>by rw[Jf (Ja e hd)];show e
 show{fun i m ys H=>m=xs.length-i/\i<=xs.length/\Same H1 H/\H d=some (.lst ys)/\RefL (fun q x=>q≠d/\s H q x) ys ((xs.take i).filter G),{_,rfl,zO _,s0 _,J2,RefL.nil},?_};rintro i m ys R ⟨rfl,hi,g,l,p⟩;show{l,?_};by_cases f:i<xs.length
 .have B:(xs.map V.int)[i]?=some (.int xs[i]):=by rw[zY,gEq f];rfl
  have A:=(vC f).symm;have mem:=xC f;have F:ys.length<sizeLine:=by
   rw[p.len];have T:=wG G (xs.take i);have l:=List.length_take_le i xs;lia
  show .inr {{_,_,g.seq z,B},F,fun v P E=>?_};let{rfl,w}:=E;have w:=w _ (g.seq z);obtain rfl:V.int xs[i]=v:=zV (B.symm.trans w);show I _ mem P _ g fun O j=>?_
  cases hg:G xs[i] with
  | false =>
   rw[if_neg (by decide)];show{xs.length-(i+1),(),rfl,f,g.trans j,j _ _ l,?_};rw[A,xX,yV,hg];have e:(if false=true then xs[i]::List.filter G [] else List.filter G [])=[]:=rfl;rw[e,yM];show p.mono fun q x h=>{h.1,mono _ _ _ _ (fun b o N _=>j _ _ N) h.1 h.2}
  | true =>
   rw[if_pos rfl];show M _ mem O _ hg (g.trans j) {_,j _ _ l} fun q U y r L=>{y _ _ (j _ _ l),xs.length-(i+1),(),rfl,f,?_,J2,?_}
   .intro b u e;rw[Jf (Ja e hd)];show y _ _ (j _ _ (g _ _ e))
   .have kd:∀H,Jr2 d H (upd H d (.lst (ys++[.ref q]))):=fun H b o e n=>by rw[Jf n];show e
    rw[A,xX,yV,hg];show(p.mono fun a x h=>{h.1,?_}).snoc {r,mono _ _ _ _ (kd _) r L};show mono _ _ _ _ (fun b o e n=>kd _ _ _ (y _ _ (j _ _ e)) n) h.1 h.2
 .have e:i=xs.length:=()
  subst e;show .inl {{_,g.seq z,by rw[zB];show zD _},J ys R g l ?_};rw[xS] at p;show p.mono fun _ _ h=>h.2
end L2
namespace L2
open PySem PySem.Spec PyProof.Rows Rl
theorem Jp9{kvs:List (Key×V)}(v:V)(h:valV kvs k≠none):(putK kvs k v).map (·.1)=kvs.map (·.1):=by
 unfold putK;have e:(kvs.any fun a=>decide (a.1=k))=true:=by
  rw[J5n]
  cases q:valV kvs k with
  | none=>show absurd q h
  | some x=>rfl
 rw[e,if_pos rfl,yX];show wO fun a _=>?_;change(if a.1=k then (a.1,v) else a).1=a.1;split <;> rfl
structure CntD(ps:List (Int×Int))(kvs:List (Key×V))(ns:List Int):Prop where
 keys:kvs.map (·.1)=ns.map Sum.inl
 nd:ns.Nodup
 all:∀p∈ps,p.1∈ns
 has:∀L∈ns,∃p∈ps,p.1=L
 len:ns.length<=ps.length
 val:∀L∈ns,valV kvs (Sum.inl L)=some (.int (cntL ps L))
 no:∀L,L ∉ ns->valV kvs (Sum.inl L)=none
theorem CntD.nil:CntD [] [] [] where
 keys:=rfl
 nd:=nodup_nil
 all:=fun p h=>absurd h yS
 has:=fun L h=>absurd h yS
 len:=zD _
 val:=fun L h=>absurd h yS
 no:=fun L _=>rfl
theorem CntD.get(h:CntD ps kvs ns)(L:Int):(valV kvs (Sum.inl L)).getD (.int 0)=.int (cntL ps L):=by
 by_cases c:L∈ns
 .rw[h.val L c];rfl
 .rw[h.no L c,Ja7 fun p a e=>c (by rw[<- e];show h.all p a)];rfl
theorem CntD.put(h:CntD ps kvs ns)(L n:Int):∃f,CntD (ps++[(L,n)]) (putK kvs (Sum.inl L) (.int (cntL ps L+n))) f:=by
 have d:∀j ,valV (putK kvs (Sum.inl L) (.int (cntL ps L+n))) (Sum.inl j)=if j=L then some (.int (cntL ps L+n)) else valV kvs (Sum.inl j):=fun j=>by
  rw[Jnx];by_cases e:j=L
  .rw[if_pos e,if_pos (zP _ e)]
  .rw[if_neg e,if_neg (fun q=>e (Sum.inl.inj q))]
 have g:∀j ,cntL (ps++[(L,n)]) j=if j=L then cntL ps L+n else cntL ps j:=fun j=>by
  rw[Jqz];by_cases e:j=L
  .rw[if_pos e,e,if_pos rfl]
  .rw[if_neg e,if_neg (fun q =>e q.symm)];lia
 by_cases c:L∈ns
 .show{ns,(Jp9 _ (by rw[h.val L c];show fun e=>nomatch e)).trans h.keys,h.nd,fun p b=>?_,fun j a=>?_,?_,fun j a=>?_,fun j a=>?_}
  .rcases yF.mp b with b|b
   .show h.all p b
   .rw[zF.mp b];show c
  .let{p,b,e}:=h.has j a;show{p,yT _ b,e}
  .rw[zN];have:=h.len;lia
  .rw[d,g];split
   .rfl
   .show h.val j a
  .rw[d,if_neg (show ¬ j=L from fun e=>a (by rw[e];show c))];show h.no j a
 .show{ns++[L],?_,Jlv h.nd c,fun p b=>?_,fun j a=>?_,?_,fun j a=>?_,fun j a=>?_}
  .rw[Jpa _ (h.no L c),yE,yE,h.keys];rfl
  .rcases yF.mp b with b|b
   .show yT _ (h.all p b)
   .rw[zF.mp b];show yW _ (zF.mpr rfl)
  .rcases yF.mp a with a|a
   .let{p,b,e}:=h.has j a;show{p,yT _ b,e}
   .show{(L,n),yW _ (zF.mpr rfl),(zF.mp a).symm}
  .rw[zN,zN];have:=h.len;change ns.length+1<=ps.length+1;lia
  .rw[d,g];split
   .rfl
   .rename_i e;rcases yF.mp a with a|a
    .show h.val j a
    .show absurd (zF.mp a) e
  .have l:=fun e=>a (yT _ e);have i:j≠L:=fun e=>a (by rw[e];show yW _ (zF.mpr rfl));rw[d,if_neg i];show h.no j l
theorem CntD.klen(h:CntD ps kvs ns):kvs.length=ns.length:=by
 have:=zP List.length h.keys;rwa [zB,zB] at this
end L2
namespace Rl
open Classical in
noncomputable def rOf(f:Int->Int)(x:Int):Nat:=if h:∃n,J47 f x n then h.choose else 0
theorem Jgx(R:J47 f x n):rOf f x=n:=by
 unfold rOf;rw[dif_pos {n,R}];show(Exists.choose_spec ({n,R}:∃n,J47 f x n)).uniq R
def numP(p:Nat->Bool):Nat->Nat
 | 0=>0
 | n+1=>numP p n+if p n=true then 1 else 0
theorem J3j :∀{n:Nat},(∀y<n,p y=q y)->numP p n=numP q n
 | 0,_=>rfl
 | n+1,h=>by
  change numP p n+_=numP q n+_;rw[J3j fun y a=>h y (),h n ()]
theorem J96 :∀{n:Nat},(∀y<n,p y=false)->numP p n=0
 | 0,_=>rfl
 | n+1,h=>by
  change numP p n+_=0;rw[J96 fun y a=>h y (),h n ()];rfl
theorem Jaq(p c:Nat->Bool):∀n ,numP p n=numP (fun y=>p y&&c y) n+numP (fun y=>p y && !c y) n
 | 0=>rfl
 | n+1=>by
  change numP p n+(if p n=true then 1 else 0)=(numP (fun y=>p y&&c y) n+(if (p n&&c n)=true then 1 else 0))+(numP (fun y=>p y && !c y) n+(if (p n && !c n)=true then 1 else 0));rw[Jaq p c n]
  grind
theorem Jh5(n:Nat):numP (fun _=>true) n=n:=by
 induction n with
 | zero=>rfl
 | succ n ih=>change numP _ n+1=_;rw[ih]
theorem Jh4(w:Int):∀n ,numP (fun o=>decide ((o:Int)=w-1-o)) n=if w%2=1/\w<2*(n:Int) then (if 0<w then 1 else 0) else 0
 | 0=>by
  change 0=_
  grind
 | n+1=>by
  change numP _ n+(if decide ((n:Int)=w-1-n)=true then 1 else 0)=_;rw[Jh4 w n]
  grind
def colN(b:Band)(L:Int):Nat:=numP (fun o=>decide (lenR b (o:Int)=L)) b.2.1.toNat
theorem Juc(hw:1<=b.2.1)(m:1<=b.2.2.1)(L:Int):b.2.2.1*(colN b L:Int)=L*cntL (eM b) L:=by
 unfold colN eM lenR;by_cases t:b.2.2.2=true
 .rw[if_pos t,J3t,J3t];have f:cntL [] L=0:=rfl;rw[f,yR];have mid:=Jh4 b.2.1 b.2.1.toNat;have j:numP (fun o=>decide ((o:Int)=b.2.1-1-o)) b.2.1.toNat=(b.2.1%2).toNat:=by
   rw[mid];split
   .rw[if_pos ()];lia
   .lia
  have ne:numP (fun o=>!decide ((o:Int)=b.2.1-1-o)) b.2.1.toNat=b.2.1.toNat-(b.2.1%2).toNat:=by
   have s:=Jaq (fun _=>true) (fun o=>decide ((o:Int)=b.2.1-1-o)) b.2.1.toNat;rw[Jh5] at s;have l:numP (fun y=>true&&decide ((y:Int)=b.2.1-1-y)) b.2.1.toNat=numP (fun o=>decide ((o:Int)=b.2.1-1-o)) b.2.1.toNat:=J3j fun y _=>Bool.true_and _;have n:numP (fun y=>true && !decide ((y:Int)=b.2.1-1-y)) b.2.1.toNat=numP (fun o=>!decide ((o:Int)=b.2.1-1-o)) b.2.1.toNat:=J3j fun y _=>Bool.true_and _;rw[l,j] at s;lia
  by_cases d:2*b.2.2.1=L
  .have g:¬ b.2.2.1=L:=()
   have e:numP (fun o=>decide ((if b.2.2.2=true/\(o:Int)≠b.2.1-1-o then 2*b.2.2.1 else b.2.2.1)=L)) b.2.1.toNat=numP (fun o=>!decide ((o:Int)=b.2.1-1-o)) b.2.1.toNat:=J3j fun y _=>by
    by_cases c:(y:Int)=b.2.1-1-y
    .rw[if_neg (fun h=>h.2 c),zZ c,yD g];rfl
    .rw[if_pos {t,c},yD c,zZ d];rfl
   rw[e,ne,if_neg g,if_pos d,yZ,<- d];have:((b.2.1.toNat-(b.2.1%2).toNat:Nat):Int)=2*(b.2.1/2):=()
   rw[this,<- uV,wH b.2.2.1 2]
  .by_cases a:b.2.2.1=L
   .have e:numP (fun o=>decide ((if b.2.2.2=true/\(o:Int)≠b.2.1-1-o then 2*b.2.2.1 else b.2.2.1)=L)) b.2.1.toNat=numP (fun o=>decide ((o:Int)=b.2.1-1-o)) b.2.1.toNat:=J3j fun y _=>by
     by_cases c:(y:Int)=b.2.1-1-y
     .rw[if_neg (fun h=>h.2 c),zZ c,zZ a]
     .rw[if_pos {t,c},yD c,yD d]
    rw[e,j,if_pos a,if_neg d,yR,<- a];rw[show(((b.2.1%2).toNat:Nat):Int)=b.2.1%2 by lia]
   .have e:numP (fun o=>decide ((if b.2.2.2=true/\(o:Int)≠b.2.1-1-o then 2*b.2.2.1 else b.2.2.1)=L)) b.2.1.toNat=0:=J96 fun y _=>by
     by_cases c:(y:Int)=b.2.1-1-y
     .rw[if_neg (fun h=>h.2 c),yD a]
     .rw[if_pos {t,c},yD d]
    rw[e,if_neg a,if_neg d];change b.2.2.1*0=L*(0+0);rw[wL,yR,wL]
 .rw[if_neg t,J3t];have f:cntL [] L=0:=rfl;rw[f,yR];have i:∀y:Nat,(if b.2.2.2=true/\(y:Int)≠b.2.1-1-y then 2*b.2.2.1 else b.2.2.1)=b.2.2.1:=fun y=>if_neg fun h=>t h.1;by_cases a:b.2.2.1=L
  .have e:numP (fun o=>decide ((if b.2.2.2=true/\(o:Int)≠b.2.1-1-o then 2*b.2.2.1 else b.2.2.1)=L)) b.2.1.toNat=b.2.1.toNat:=by
    rw[J3j (q:=fun _=>true) fun y _=>by rw[i,zZ a],Jh5]
   rw[e,if_pos a,<- a,show((b.2.1.toNat:Nat):Int)=b.2.1 by lia]
  .have e:numP (fun o=>decide ((if b.2.2.2=true/\(o:Int)≠b.2.1-1-o then 2*b.2.2.1 else b.2.2.1)=L)) b.2.1.toNat=0:=J96 fun y _=>by rw[i,yD a]
   rw[e,if_neg a];change b.2.2.1*0=L*0;rw[wL,wL]
theorem Jjc(ps a:List (Int×Int))(L:Int):cntL (ps++a) L=cntL ps L+cntL a L:=by
 unfold cntL;rw[yE,vA]
noncomputable def numL(f:Int->Int)(L:Nat)(xs:List Int):Nat:=xs.countP fun x=>decide (rOf f x=L)
theorem Jtx(S:Sys f N bs)(hb:b∈bs){o:Nat}(g:(o:Int)<b.2.1)(L:Nat):numL f L (J6u f b o)=if lenR b (o:Int)=L then b.2.2.1.toNat else 0:=by
 let{i,hi,rfl}:=uA hb;have e:bs.getD i bz0=bs[i]:=by rw[zH,gEq hi];rfl
 have d:∀x∈J6u f bs[i] o,(rOf f x:Int)=lenR bs[i] (o:Int):=fun x a=>by
  let{l,h,rfl}:=J5b.mp a;have A:Adr bs i (o:Int) (l:Int):={hi,(),by rw[e];show g,(),by rw[e];show h};let{R,j}:=S.rnd A;have ep:plOf f bs i (o:Int) (l:Int)=itN f l (bs[i].1+(o:Int)):=by unfold plOf;rw[e];rfl
  rw[ep] at R;rw[Jgx R];rw[e] at j ⊢;lia
 unfold numL;by_cases c:lenR bs[i] (o:Int)=L
 .rw[if_pos c,List.countP_eq_length.mpr fun x a=>zZ (by have:=d x a;lia)];unfold J6u;rw[zB,yC]
 grind
theorem Jq6(S:Sys f N bs)(hb:b∈bs)(L:Nat):(numL f L (J5k f b):Int)=L*cntL (eM b) L:=by
 have B:=S.bnd _ hb;rw[<- Juc B.1 B.2.1];have h:∀n:Nat,(n:Int)<=b.2.1->(numL f L ((List.range n).flatMap (J6u f b)):Int)=b.2.2.1*(numP (fun o=>decide (lenR b (o:Int)=L)) n:Int):=fun n=>by
  induction n with
  | zero=>intro _;change(0:Int)=b.2.2.1*0;rw[wL]
  | succ n ih =>
   intro d;have a:=ih ();have e:numL f L ((List.range (n+1)).flatMap (J6u f b))=numL f L ((List.range n).flatMap (J6u f b))+numL f L (J6u f b n):=by
    rw[wK,uF,List.flatMap_singleton];unfold numL;rw[List.countP_append]
   rw[e,Jtx S hb (),uZ,a];change _=b.2.2.1*((numP (fun o=>decide (lenR b (o:Int)=L)) n+(if decide (lenR b (n:Int)=L)=true then 1 else 0):Nat):Int);have g:=B.2.1;by_cases c:lenR b (n:Int)=L
   .rw[if_pos c,zZ c,uZ,vK];change _+((b.2.2.1.toNat:Nat):Int)=_+b.2.2.1*1;rw[Int.mul_one];lia
   .rw[if_neg c,yD c];change _+(0:Int)=b.2.2.1*((numP (fun o=>decide (lenR b (o:Int)=L)) n:Nat):Int);rw[yR]
 have w:=B.1;show h b.2.1.toNat ()
theorem Jty(S:Sys f N bs)(L:Nat):(numL f L (J6g f bs):Int)=L*cntL (conB bs) L:=by
 have h:∀cs:List Band,(∀b∈cs,b∈bs)->(numL f L (cs.flatMap (J5k f)):Int)=L*cntL (cs.flatMap eM) L:=fun cs=>by
  induction cs with
  | nil=>intro _;change(0:Int)=L*0;rw[wL]
  | cons b cs ih =>
   intro a;have d:=ih fun c g=>a c (zK _ g);have e:numL f L ((b::cs).flatMap (J5k f))=numL f L (J5k f b)+numL f L (cs.flatMap (J5k f)):=by
    rw[uX];unfold numL;rw[List.countP_append]
   rw[e,uX,Jjc,vK,<- Jq6 S (a b zJ),<- d,uZ]
 show h bs fun b hb=>hb
theorem J5i :∀n ,((List.range n).map fun(y:Nat)=>(y:Int)).countP p=numP (fun y=>p (y:Int)) n
 | 0=>rfl
 | n+1=>by
  rw[wK,yE,List.countP_append,J5i n];change _+List.countP p [(n:Int)]=numP _ n+_;rw[List.countP_singleton]
theorem Sys.places(S:Sys f N bs):(J6g f bs).Perm ((List.range N.toNat).map fun(y:Nat)=>(y:Int)):=by
 have d:((List.range N.toNat).map fun(y:Nat)=>(y:Int)).Nodup:=yY.mpr (pairwise_lt_range.imp fun {a b} h e=>());rw[List.perm_iff_count];intro x;have m:x∈J6g f bs↔x∈((List.range N.toNat).map fun(y:Nat)=>(y:Int)):=by
  constructor
  .intro h;have:=S.all_in h;show zW.mpr {x.toNat,zR.mpr (),()}
  .intro h;let{y,g,rfl}:=zW.mp h;have:=zR.mp g;show J9a.mpr (S.exists () ())
 by_cases c:x∈J6g f bs
 .rw[S.nodup.count,d.count,if_pos c,if_pos (m.mp c)]
 .rw[List.count_eq_zero.mpr c,List.count_eq_zero.mpr fun h=>c (m.mpr h)]
theorem Sys.num(S:Sys f N bs)(L:Nat):(numP (fun y=>decide (rOf f (y:Int)=L)) N.toNat:Int)=L*cntL (conB bs) L:=by
 rw[<- Jty S];unfold numL;rw[S.places.countP_eq,J5i]
end Rl
namespace Rl
structure RdsO2(N:Int)(bs:List Band)(ks:List Int):Prop where
 base:RdsOf N bs ks
 only:∀L,1<=cntL (conB bs) L->L∈ks
theorem Sys.rds2(S:Sys f N bs){b:List Int}(n:ns.Nodup)(a:∀p∈conB bs,p.1∈ns)(i:∀L∈ns,∃p∈conB bs,p.1=L)(d:ns.length<=(conB bs).length)(l:b.Perm ns)(j:b.Pairwise (·<=·)):
  RdsO2 N bs (b.filter fun L=>decide (0<cntL (conB bs) L)):=by
 show{S.rds n a i d l j,fun L h=>?_};have m:L∈ns:=by
  apply xN;intro c;rw[Ja7 fun p g e=>c (by rw[<- e];show a p g)] at h;lia
 grind
end Rl
namespace L2
open PySem PySem.Spec PyProof.Rows
class En where
 P:Program
 w:World
 K:Frag
 mg:Str->Option Value
 base:Heap
variable [n:En]{CX:CXT}{j k:Nat}{x:Str}{st:Stmt}{ps N:List Str}{ds:List Value}{dvs:List V}{sp:Sp}{C:Addr}{X:Cx}{E:XK}{p pos:Pos}{e:Expr}{es:List Expr}{t:TA}
def Fn0(x:Str)(st:Stmt)(ps:List Str):Prop:=∃f fd,Fun n.K x x st f fd/\J33 n.K fd ps []/\n.mg x=some (.ref f)
def Cal(CX:CXT)(k:Nat)(x:Str)(ps:List Str)(sp:Sp):Prop:=∃f fd,FnOk n.P n.w n.K n.mg n.base CX k f fd ps sp/\J33 n.K fd ps []/\n.mg x=some (.ref f)/\keepIn n.K (.ref f)=true
def Mak(CX:CXT)(k:Nat)(x:Str)(C:Addr)(ps:List Str)(a:List Value)(sp:Sp):Prop:=∃f fd,Mk n.K C f/\FnOk n.P n.w n.K n.mg n.base CX k f fd ps sp/\J33 n.K fd ps a/\n.mg x=some (.ref C)
theorem Fn0.cal(F:Fn0 x st ps)(h:∀f fd,Fun n.K x x st f fd->FnOk n.P n.w n.K n.mg n.base CX k f fd ps sp):Cal CX k x ps sp:=by let{f,fd,F,b,m}:=F;show{f,fd,h f fd F,b,m,F.kp}
theorem Fn0.ok(F:Fn0 x st ps)(S:Jt N ps (Je st))(a:∀(f:Addr) (b:Value) (A:Around) (outer:List Env) (s:Shared) (H:Hp) (vs:List V) (Q:VK) (E:XK),Room k (A.deeper (envOfC x (Je st) s.heap.objs.size f b))->sp vs H Q E->
   ∃t,PSs (cxOf CX0 n.P n.w n.K n.mg n.base N x (Je st) f b A outer s H E).nox (J1n st) t/\t { nx:=fun _ c=>Q .non c,rt:=Q } (start N vs) H)(len:∀vs H Q E,sp vs H Q E->vs.length=ps.length:=by rintro _ _ _ _ ⟨⟩;subst_vars;rfl):Cal CX0 (k+1) x ps sp:=F.cal fun f _ F=>F.ok S len (a f)
theorem Fun.ok1(F:Fun n.K x q st f fd)(S:Jt N ps (Je st))(a:∀(b:Value) (A:Around) (outer:List Env) (s:Shared) (H:Hp) (vs:List V) (Q:VK) (E:XK),Room k (A.deeper (envOfC q (Je st) s.heap.objs.size f b))->sp vs H Q E->
   ∃t,PSs (cxOf CX0 n.P n.w n.K n.mg n.base N q (Je st) f b A outer s H E).nox (J1n st) t/\t { nx:=fun _ c=>Q .non c,rt:=Q } (start N vs) H)(len:∀vs H Q E,sp vs H Q E->vs.length=ps.length:=by rintro _ _ _ _ ⟨⟩;subst_vars;rfl):FnOk n.P n.w n.K n.mg n.base CX0 (k+1) f fd ps sp:=F.ok S len a
theorem pcl(c:@Cal {X.prog,X.w,X.K,X.mg,X.base} CX j x ps sp)(h:Room k X.A)(g:J5m CX X E)(o:PA X (e::es) t)(l:Gl X x:=by rfl)(i:j<=k:=by decide)(d:(x==("__debug__":Str))=false:=by decide)(n:starEach (e::es) X.env=(false,eval e X.env)::starEach es X.env:=by rfl)(a:(backTo pos (starEach es X.env)).any (·.1)=false:=by rfl):PE X (.Call (.Name x p) (e::es) [] pos) (Jnz sp [] E t):=by
 let{f,fd,F,b,m,kp}:=c;show Jtc F (h.mono i) l m kp b .nil g o d n a
theorem pmk(c:@Mak {X.prog,X.w,X.K,X.mg,X.base} CX j x C ps ds sp)(i:Room k X.A)(g:J5m CX X E)(q:PA X (e::es) t)(h:Vals dvs ds:=by show .nil)(n:Gl X x:=by rfl)(l:j+1<=k:=by decide)(d:(x==("__debug__":Str))=false:=by decide)(o:starEach (e::es) X.env=(false,eval e X.env)::starEach es X.env:=by rfl)(a:(backTo pos (starEach es X.env)).any (·.1)=false:=by rfl):PE X (.Call (.Name x p) (e::es) [] pos) (tMake C sp dvs E t):=by
 let{f,fd,M,F,b,m}:=c;show J68 M F (i.mono l) n m b h g q d o a
def Bas(CX:CXT)(k:Nat)(x m:Str)(ps:List Str)(sp:Sp):Prop:=∃B f fd,Juj n.K B m f/\n.mg x=some (.ref B)/\FnOk n.P n.w n.K n.mg n.base CX k f fd ps sp/\J33 n.K fd ps []
theorem pbs(c:@Bas {X.prog,X.w,X.K,X.mg,X.base} CX j x m ps sp)(l:Room k X.A)(h:J5m CX X E)(r:PA X (e::es) t)(q:Gl X x:=by rfl)(o:j<=k:=by decide)(g:(x==("__debug__":Str))=false:=by decide)(a:starEach (e::es) X.env=(false,eval e X.env)::starEach es X.env:=by rfl)(d:(backTo pos (starEach es X.env)).any (·.1)=false:=by rfl)(i:eval (.Call (.Attribute (.Name x p) m apos) (e::es) [] pos) X.env=(do
   let ov <- eval (.Name x p) X.env
   standAt apos.atName
   let (f,first) <- holding [ov] (getMethod ov m pl)
   callWith pos f first (backTo pos (starEach (e::es) X.env)) (backToKw pos (keywordEach [] X.env))):=by rfl):PE X (.Call (.Attribute (.Name x p) m apos) (e::es) [] pos) (Jnz sp [] E t):=by
 let{B,f,fd,M,n,F,b}:=c;show Jtd M q n F (l.mono o) b .nil h r g a d i
def scOk(N P:List Str)(a:Scope):Bool:=decide (a.kind=.function) && !a.isCoroutine && !a.isGenerator&&decide N.Nodup&&decide (N.take P.length=P)&&P.all (fun x=>decide (a.names.lookup x=some .local) || decide (a.names.lookup x=some .cell))&&a.names.all fun y=>decide (y.2≠.free)
omit n in
theorem fsc{P:List Str}{i:Scope}(h:scOk N P i=true:=by decide +kernel):Jt N P i:=by
 simp only[scOk,xV,decide_eq_true_eq,Bool.not_eq_true',vH,Bool.or_eq_true] at h;let{{{{{{a,b},c},d},e},f},g}:=h;show{a,b,c,d,e,f,g}
end L2
namespace L2
open PySem PySem.Spec PyProof.Rows
theorem usOf0{P:List Value->Prop}(h:P []):∀us ,us.length=0->P us:=fun us e=>by
 grind
theorem usS{P:List Value->Prop}(h:∀a us,us.length=n->P (a::us)):∀us ,us.length=n+1->P us:=fun us e=>by
 cases us with
 | nil=>cases e
 | cons a l=>show h a l (Nat.succ.inj e)
theorem usOf1{P:List Value->Prop}(h:∀a,P [a]):∀us ,us.length=1->P us:=usS fun a=>usOf0 (P:=fun us=>P (a::us)) (h a)
theorem usOf2{P:List Value->Prop}(h:∀a b,P [a,b]):∀us ,us.length=2->P us:=usS fun a=>usOf1 (P:=fun us=>P (a::us)) (h a)
theorem usOf3{P:List Value->Prop}(h:∀a b c,P [a,b,c]):∀us ,us.length=3->P us:=usS fun a=>usOf2 (P:=fun us=>P (a::us)) (h a)
theorem usOf4{P:List Value->Prop}(h:∀a b c d,P [a,b,c,d]):∀us ,us.length=4->P us:=usS fun a=>usOf3 (P:=fun us=>P (a::us)) (h a)
theorem usOf5{P:List Value->Prop}(h:∀a b c d e,P [a,b,c,d,e]):∀us ,us.length=5->P us:=usS fun a=>usOf4 (P:=fun us=>P (a::us)) (h a)
section
variable{K:Frag}{h:Heap}{mg:Str->Option Value}{x q m:Str}{st:Stmt}{ps:List Str}{f C:Addr}{oc:Value}{od an:Option Addr}{osl:Array (Option Value)}{kV doc pm cdv ct:Value}
theorem fnk(X:K.In h)(G:h.Ns mainGlobals mg)(a:nsIn K mainGlobals x=some (some (.ref f)))(l:K.lookup f=some {oc,od,.func (fnOf x x (J2p st) (J1n st) (Je st) .none kV doc pm an cdv ct),osl})(c:codeIn K cdv x=true)(k:keepIn K (.ref f)=true)(b:∀us ,us.length=ps.length->bindArgs (fnOf x x (J2p st) (J1n st) (Je st) .none kV doc pm an cdv ct) {us,[]}=pure (ps.zip us)):
  ∃f fd,Fun K x x st f fd/\J33 K fd ps []/\mg x=some (.ref f):={f,_,Jdn l c k,.all b,mg_of X G a}
theorem mek(a:findIn K (.ref C) m=some (some (.ref f)))(i:isFn K (.ref f)=true)(l:K.lookup f=some {oc,od,.func (fnOf x q (J2p st) (J1n st) (Je st) .none kV doc pm an cdv ct),osl})(c:codeIn K cdv q=true)(k:keepIn K (.ref f)=true)(b:∀us ,us.length=ps.length->bindArgs (fnOf x q (J2p st) (J1n st) (Je st) .none kV doc pm an cdv ct) {us,[]}=pure (ps.zip us)):
  ∃f fd,Fun K x q st f fd/\J33 K fd ps []/\Meth K C m f:={f,_,Jdn l c k,.all b,a,i,k}
theorem clk(a:plainGet K C Str.empty=true)(b:hasDictIn K C=true)(c:plainOver K C=true)(d:findIn K (.ref C) "__setattr__"=some (some (.builtin "object.__setattr__"))):Cls K C:={a,b,c,d}
theorem hasm [n:En](c:Cls n.K C)(e:∃f fd,Fun n.K x q st f fd/\J33 n.K fd ps []/\Meth n.K C m f)(h:∀f fd,Fun n.K x q st f fd->FnOk n.P n.w n.K n.mg n.base CX k f fd ps sp):
  HasM n.P n.w n.K n.mg n.base CX k m ps sp C:=by let{f,fd,F,b,M}:=e;show{f,fd,c,M,h f fd F,b}
theorem makm [n:En](c:n.mg y=some (.ref C))(a:makesIn n.K C=true)(kp:keepIn n.K (.ref C)=true)(e:∃f fd,Fun n.K x q st f fd/\J33 n.K fd ps []/\Meth n.K C "__init__" f)(h:∀f fd,Fun n.K x q st f fd->FnOk n.P n.w n.K n.mg n.base CX k f fd ps sp):Mak CX k y C ps [] sp:=by let{f,fd,F,b,M}:=e;show{f,fd,{a,M.at_,M.fn,kp},h f fd F,b,c}
end
variable{X:Cx}{N P:List Str}{sc:Scope}{x:Str}{e:Expr}{te:TE}{pos pos':Pos}
theorem pst(S:Jt N P sc)(i:Nat)(d:PE X e te)(h:N=X.N:=by rfl)(hi:X.N[i]?=some x:=by rfl)(a:Loc X.env.scope x:=by first|show .inl rfl|show .inr rfl)(b:swapsWith e (some (.Name x pos')) pos.line X.env=pure false:=by rfl)(c:X.fn x=true\/X.env.scope.names.lookup x=some .local:=by first|show .inl rfl|show .inr rfl|assumption):
  PS X (.Assign [.Name x pos'] e pos) (tAsg te (J5e i)):=ps_set (h▸S.nd) hi a d b c
theorem pgm(S:Jt N P sc)(i:Nat)(h:N=X.N:=by rfl)(hi:X.N[i]?=some x:=by rfl)(a:Loc X.env.scope x:=by first|show .inl rfl|show .inr rfl)(b:X.fn x=true\/X.env.scope.names.lookup x=some .local:=by first|show .inl rfl|show .inr rfl|assumption):PG X (.Name x pos) (J5e i):=J3v (h▸S.nd) hi a b
theorem pcb{id:String}{p:Pos}{r:List V->Hp->VK->Prop}(h:J49 X (.builtin id) r)(f:X.mg x=none)(i:PE X e te)(g:Gl X x:=by rfl)(c:bootBuiltins x=some (.builtin id):=by first|show PySem.boot_len|show boot_sum|show boot_min)(d:x≠"__name__":=by decide)(a:(x==("__debug__":Str))=false:=by decide)(b:starEach [e] X.env=(false,eval e X.env)::starEach [] X.env:=by rfl):PE X (.Call (.Name x p) [e] [] pos) (tCB r (Jny te tNil)):=J1d h g f c (dZ i J1 b) d a b rfl
theorem pct{id:String}{p:Pos}{r:List V->Hp->VK->Prop}(h:J49 X (.type id) r)(f:X.mg x=none)(i:PE X e te)(g:Gl X x:=by rfl)(c:bootBuiltins x=some (.type id):=by first|show boot_tuple|show boot_list)(d:x≠"__name__":=by decide)(a:(x==("__debug__":Str))=false:=by decide)(b:starEach [e] X.env=(false,eval e X.env)::starEach [] X.env:=by rfl):PE X (.Call (.Name x p) [e] [] pos) (tCB r (Jny te tNil)):=J2z h g f c (dZ i J1 b) d a b rfl
end L2
namespace L2
open PySem PySem.Spec PyProof.Rows
def tLCg(g:TG)(n:Nat)(b:TI)(e:TT)(c:TE)(js:List Nat):TE:=fun σ H Q=>b σ H fun J a=>∀d,a d=none->LCWg g n J e c σ js Q a d
section
variable{X:Cx}{elt iter tgt:Expr}{ifs:List Expr}{x:Str}{xr:List Str}{scope:Scope}{cl:List (Str×Addr)}{pos:Pos}{wi:TI}{tc:TT}{te:TE}{g:TG}{caps:List Str}{js:List Nat}
theorem Jh1(K:X.calm=true)(E:PI X tgt iter wi)(F:∀(C:Addr) (a:List Addr) (s:Shared) (H:Hp),PG (X.block (x::(xr++caps)) scope cl C a s H) tgt g)(j:closureFor scope X.env=pure cl)(B:∀(C:Addr) (a:List Addr) (s:Shared) (H:Hp),PTs (X.block (x::(xr++caps)) scope cl C a s H) ifs tc)(G:∀(C:Addr) (a:List Addr) (s:Shared) (H:Hp),PE (X.block (x::(xr++caps)) scope cl C a s H) elt te)(l:∀p∈scope.names,p.2≠.cell:=by decide +kernel)(c:∀p∈scope.names,p.2=.local->scope.names.lookup p.1=some .local:=by decide +kernel)(u:∀p∈cl,X.env.cells.lookup p.1=some p.2:=by repeat (first|show tM _|show tN.mpr {rfl,?_}))(w:J3r scope cl=true:=by rfl)(f:caps.length=js.length:=by rfl)(n:J4x X scope cl caps js=true:=by rfl)(i:scope.kind=.function:=by rfl)(D:∀v,foldedSetIterable iter X.env v=pure v:=by intro _;rfl):
  PE X (.ListComp elt [{tgt,iter,ifs,0}] scope pos) (tLCg g (xr.length+1) wi tc te js):=by
 intro pins s σ H Q I h;show J60 (use:=none) K E F G B l c u (J3r.get w) f (J4x.get f n) j i D I h (fun J O r=>r) fun d N A C M q L a=>?_;let{m,y}:=L;show{m,y,fun h' z=>{.ref d,N,M.turned (h':=h') (t':=A.toks) (it:=C) (fun b o hb e=>(z.2 b hb).trans e) a.1 a.2.1 a.2.2.2.1 a.2.2.2.2.1 a.2.2.2.2.2,rfl,q}}
end
def Al2(P:Nat->V->Prop)(ks:List Nat)(a:List V):Prop:=ks.length=a.length/\∀(k i:Nat) (z:V),ks[k]?=some i->a[k]?=some z->P i z
theorem Al2.snoc(h:Al2 P ks zs)(p:P i z):Al2 P (ks++[i]) (zs++[z]):=by
 show{by rw[zN,zN,h.1];rfl,fun k j y a b=>?_};by_cases c:k<ks.length
 .rw[yQ c] at a;rw[yQ (by rw[<- h.1];show c)] at b;show h.2 k j y a b
 .rw[yP (by omega)] at a;rw[yP (by rw[<- h.1];omega),<- h.1] at b;generalize k-ks.length=q at *
  match q,a,b with
  | 0,a,b=>cases a;cases b;show p
  | q+1,a,b=>cases a
theorem Al2.imp(h:Al2 P ks zs)(f:∀i z,P i z->P' i z):Al2 P' ks zs:={h.1,fun k i z a b=>f i z (h.2 k i z a b)}
theorem Jm8{K:Frag}(ys:List V)(G:Nat->Bool)(P:Nat->Hp->V->Prop)(B:SqL K H1 a ys)(S:ys.length<=sizeLine)(hd:H1 d=none)(mono:∀i y H c f,(∀b o,H b=some o->b≠d->c b=some o)->H d=some (.lst f)->P i H y->P i c y)(step:∀(i:Nat) (v:V),ys[i]?=some v->∀(H:Hp) (s:List (Option V)) (I:VK) (F:Hp->Prop),Same H1 H->s.length=n->(G i=true->∀y c,Same H c->P i c y->I y c)->(G i=false->∀c,Same H c->F c)->
   g v (s++capv σ js) H fun σ' O=>∃E:List (Option V),E.length=n/\σ'=E++capv σ js/\tc σ' O fun bb J=>if bb=true then te σ' J I else F J)(M:∀f c,Same H1 c->c d=some (.lst f)->Al2 (fun i z=>P i c z) ((List.range ys.length).filter G) f->Q (.ref d) c):LCWg g n (Itl K a) tc te σ js Q H1 d:=by
 have s0:∀o,Same H1 (upd H1 d o):=fun o b u e=>by rw[Jf (Ja e hd)];show e
 show{fun i m f H=>m=ys.length-i/\i<=ys.length/\Al2 (fun i z=>P i H z) ((List.range i).filter G) f/\Same H1 H/\H d=some (.lst f),{ys.length,rfl,zO _,{rfl,fun k i z e=>by cases e},s0 _,J2},?_};rintro i m f R ⟨rfl,hi,w,l,h⟩;show{h,?_};by_cases r:i<ys.length
 .show .inr {{_,_,l.seq B,gEq r},?_,fun v T L s C=>?_}
  .have N:((List.range i).filter G).length<=i:=zM (wG _ _) (by rw[yC];show zD _);rw[w.1] at N;omega
  .let{rfl,A}:=L;have A:=A _ (l.seq B);show step i v A _ s _ _ l C (fun D y c s' p=>{s' _ _ h,ys.length-(i+1),by omega,rfl,r,?_,?_,J2}) (fun D c s'=>{ys.length-(i+1),by omega,rfl,r,?_,l.trans s',s' _ _ h})
   .rw[wK,xX,show List.filter G [i]=[i] by simp[D]];have up:∀b o,c b=some o->b≠d->upd c d (.lst (f++[y])) b=some o:=fun b o e ne=>by rw[Jf ne];show e
    show Al2.snoc (w.imp fun j z q=>mono j z _ _ f up (s' _ _ h) (mono j z _ _ f (fun b o e _=>s' _ _ e) h q)) (mono i y _ _ f up (s' _ _ h) p)
   .intro b u e;rw[Jf (Ja e hd)];show s' _ _ (l _ _ e)
   .rw[wK,xX,show List.filter G [i]=[] by simp[D],yM];show w.imp fun j z q=>mono j z _ _ f (fun b o e _=>s' _ _ e) h q
 .have e:i=ys.length:=by omega
  subst e;show .inl {{_,l.seq B,zD _},M f R l h w}
section
variable{X:Cx}{x y z:Str}{px py pz tp:Pos}{kk:Nat}{scope:Scope}{cl:List (Str×Addr)}{caps:List Str}
theorem pgb2(g:X.calm=true)(c:(x::y::caps).Nodup)(f:scope.names.lookup x=some .local:=by rfl)(e:scope.names.lookup y=some .local:=by rfl)(C:Addr)(d:List Addr)(s:Shared)(H:Hp):
  PG (X.block (x::([y]++caps)) scope cl C d s H) (.Tuple [.Name x px,.Name y py] kk tp) (gTup X.K 2 (J9g (J5e 0) (J9g (J5e 1) gNil))):=by
 have b:(relabel scope X.env).names.lookup x=some .local:=wY f;have a:(relabel scope X.env).names.lookup y=some .local:=wY e;show J7w (X:=X.block (x::y::caps) scope cl C d s H) (pos:=tp) (k:=kk) (n:=2) g
  (J1k (J3v (X:=X.block (x::y::caps) scope cl C d s H) (i:=0) (pos:=px) c rfl (.inl b) (.inr b))
   (J1k (J3v (X:=X.block (x::y::caps) scope cl C d s H) (i:=1) (pos:=py) c rfl (.inl a) (.inr a)) J58)) rfl rfl
theorem pgb3(j:X.calm=true)(a:(x::y::z::caps).Nodup)(h:scope.names.lookup x=some .local:=by rfl)(g:scope.names.lookup y=some .local:=by rfl)(f:scope.names.lookup z=some .local:=by rfl)(C:Addr)(e:List Addr)(s:Shared)(H:Hp):
  PG (X.block (x::([y,z]++caps)) scope cl C e s H) (.Tuple [.Name x px,.Name y py,.Name z pz] kk tp) (gTup X.K 3 (J9g (J5e 0) (J9g (J5e 1) (J9g (J5e 2) gNil)))):=by
 have d:(relabel scope X.env).names.lookup x=some .local:=wY h;have c:(relabel scope X.env).names.lookup y=some .local:=wY g;have b:(relabel scope X.env).names.lookup z=some .local:=wY f;show J7w (X:=X.block (x::y::z::caps) scope cl C e s H) (pos:=tp) (k:=kk) (n:=3) j
  (J1k (J3v (X:=X.block (x::y::z::caps) scope cl C e s H) (i:=0) (pos:=px) a rfl (.inl d) (.inr d))
   (J1k (J3v (X:=X.block (x::y::z::caps) scope cl C e s H) (i:=1) (pos:=py) a rfl (.inl c) (.inr c))
    (J1k (J3v (X:=X.block (x::y::z::caps) scope cl C e s H) (i:=2) (pos:=pz) a rfl (.inl b) (.inr b)) J58))) rfl rfl
end
section
variable{X:Cx}{elt iter tgt:Expr}{ifs:List Expr}{x y:Str}{py:Pos}{xr:List Str}{scope:Scope}{cl:List (Str×Addr)}{pos spos:Pos}{wi:TI}{tc:TT}{te:TE}{g:TG}{caps:List Str}{js:List Nat}{i:Nat}
theorem Jrp(Z:X.N.Nodup)(hi:X.N[i]?=some y)(M:Loc X.env.scope y)(W:X.calm=true)(R:PI X tgt iter wi)(S:∀(C:Addr) (c:List Addr) (s:Shared) (H:Hp),PG (X.block (x::(xr++caps)) scope cl C c s H) tgt g)(n:closureFor scope X.env=pure cl)(O:∀(C:Addr) (c:List Addr) (s:Shared) (H:Hp),PTs (X.block (x::(xr++caps)) scope cl C c s H) ifs tc)(U:∀(C:Addr) (c:List Addr) (s:Shared) (H:Hp),PE (X.block (x::(xr++caps)) scope cl C c s H) elt te)(u:∀p∈scope.names,p.2≠.cell:=by decide +kernel)(f:∀p∈scope.names,p.2=.local->scope.names.lookup p.1=some .local:=by decide +kernel)(z:∀p∈cl,X.env.cells.lookup p.1=some p.2:=by repeat (first|show tM _|show tN.mpr {rfl,?_}))(B:J3r scope cl=true:=by rfl)(j:caps.length=js.length:=by rfl)(w:J4x X scope cl caps js=true:=by rfl)(T:X.fn y=true\/X.env.scope.names.lookup y=some .local:=by first|show .inl rfl|show .inr rfl|assumption)(F:swapsWith (.ListComp elt [{tgt,iter,ifs,0}] scope pos) (some (.Name y py)) spos.line X.env=pure true:=by rfl)(m:scope.kind=.function:=by rfl)(P:∀v,foldedSetIterable iter X.env v=pure v:=by intro _;rfl):
  PS X (.Assign [.Name y py] (.ListComp elt [{tgt,iter,ifs,0}] scope pos) spos) (Jr4 (tLCg g (xr.length+1) wi tc te js) i):=by
 intro pins s σ H D I h;rw[exec_Assign_Name_used _ _ _ _ F];show zA (wpAny_standAt (zA ?_));change wpAny _ X.A (do let _ <- comprehension (.ListComp elt [⟨tgt,iter,ifs,0⟩] scope pos) scope X.env _ (newList []) false (eval iter X.env) (some (assign (.Name y py) X.env))) _ _ s;show zA (yK (J60 (use:=some (assign (.Name y py) X.env)) (QV:=fun _ s'=>SP X pins D .next s') W R S U O u f z (J3r.get B) j (J4x.get j w) n m P I h (fun J H1 r=>r) fun d H' s5 C J5 q hC c=>?_)
  (fun _ s' Q=>zC (zC Q)) fun _ _ e=>e)
 let{L,E}:=hC;show wpAny_assign_Name ?_;show J8u J5 Z hi M (v:=.ref d) rfl (fun K I6 l=>?_) T;let{a,sa,Y}:=l;have aC:a≠C:=by
  rcases Y with e|e
  .rw[e];show Ne.symm c.2.1
  .show c.2.2.2.2.1 y a e
 show{L,E.sameBut sa (Ne.symm aC),fun h' G=>{_,H',I6.turned (h':=h') (t':=K.toks) (it:=C) (fun b o hb e=>(G.2 b hb).trans e) c.1 c.2.1 c.2.2.2.1 c.2.2.2.2.1 c.2.2.2.2.2,q}}
end
end L2
namespace Rl
noncomputable def sel(N:Int)(p:Int->Prop):List Int:=((List.range N.toNat).map fun(y:Nat)=>(y:Int)).filter fun y=>@decide (p y) (Classical.propDecidable _)
noncomputable abbrev cn(N:Int)(p:Int->Prop):Nat:=(sel N p).length
section
variable{N:Int}{p q:Int->Prop}
theorem J30 :x∈sel N p↔(0<=x/\x<N)/\p x:=by
 unfold sel;rw[zX,zW];simp only[zR,yU];constructor
 .grind
 .rintro⟨⟨c,b⟩,a⟩;show{{x.toNat,(),()},a}
theorem J40:(sel N p).Nodup:=by
 show uY _ (yY.mpr (nodup_range.imp fun h e=>h ()))
theorem Jcc{l:List Int}(nd:l.Nodup)(h:∀x,x∈l↔(0<=x/\x<N)/\p x):cn N p=l.length:=
 ((uT J40 nd).mpr fun x=>J30.trans (h x).symm).length_eq
theorem J4t(h:∀x,0<=x->x<N->(p x↔q x)):cn N p=cn N q:=Jcc J40 fun x=>J30.trans {fun z=>{z.1,(h x z.1.1 z.1.2).mpr z.2},fun z=>{z.1,(h x z.1.1 z.1.2).mp z.2}}
theorem Jhx(c:Int->Prop):cn N p=cn N (fun x=>p x/\c x)+cn N (fun x=>p x/\¬ c x):=by
 rw[Jcc (p:=p) (l:=sel N (fun x=>p x/\c x)++sel N (fun x=>p x/\¬ c x)) ?_ ?_,zN]
 .show xL.mpr {J40,J40,fun x b y a e=>?_};rw[J30] at b a;show a.2.2 (e▸b.2.2)
 .intro x;rw[yF,J30,J30];constructor
  .rintro(h|h) <;> show{h.1,h.2.1}
  .rintro⟨h,d⟩;by_cases k:c x
   .show .inl {h,d,k}
   .show .inr {h,d,k}
end
def mn(f:Int->Int)(x:Int):Prop:=∀i,x<=itN f i x
section
variable{f:Int->Int}{N:Int}{bs:List Band}
theorem Sys.has(S:Sys f N bs)(h:0<=x/\x<N):J47 f x (rOf f x):=by
 let{n,R}:=S.hasRnd h.1 h.2;rw[Jgx R];show R
theorem Sys.home(S:Sys f N bs)(h:0<=x/\x<N)(i:Nat):∃j,itN f j (itN f i x)=x:=by
 have R:=S.has h;have p:=R.pos;have:i<=i*rOf f x:=Nat.le_mul_of_pos_right _ p;show{i*rOf f x-i,by rw[<- J14,show i+(i*rOf f x-i)=i*rOf f x by lia,R.mul]}
theorem Sys.least(S:Sys f N bs):∀(n:Nat) {x:Int},x.toNat=n->(0<=x/\x<N)->∃i,mn f (itN f i x):=by
 intro n
 induction n using Nat.strongRecOn with
 | _ n ih =>
  intro x e h;by_cases c:mn f x
  .show{0,c}
  .let{i,hi}:=Classical.not_forall.mp c;have in_:=S.itin h.1 h.2 i;let{j,a}:=ih (itN f i x).toNat () rfl in_;show{i+j,by rw[J14];show a}
theorem Sys.mn_one(S:Sys f N bs)(h:0<=x/\x<N)(m:mn f x)(a:mn f (itN f i x)):itN f i x=x:=by
 let{j,e}:=S.home h i;have c:=m i;have b:=a j;lia
theorem Sys.rO(S:Sys f N bs)(h:0<=x/\x<N)(i:Nat):rOf f (itN f i x)=rOf f x:=Jgx (S.rnd_move h.1 h.2 (S.has h) i)
theorem Sys.orb(S:Sys f N bs){p:Int->Prop}(q:∀x i,0<=x/\x<N->(p (itN f i x)↔p x))(L:Nat):cn N (fun x=>p x/\rOf f x=L)=L*cn N (fun x=>p x/\rOf f x=L/\mn f x):=by
 rw[Jcc (p:=fun x=>p x/\rOf f x=L) (l:=(sel N fun x=>p x/\rOf f x=L/\mn f x).flatMap fun m=>(List.range L).map fun i=>itN f i m) ?_ ?_,tR]
 .rw[wO (g:=fun _=>L) fun m _=>by rw[zB,yC],List.map_const',List.sum_replicate_nat,uL]
 .show uC.mpr {fun m a=>?_,?_}
  .rw[J30] at a;have R:=S.has a.1;rw[a.2.2.1] at R;show yY.mpr ((vL.mp vZ).imp_of_mem fun hi n ne e=>ne ?_);show S.rnd_inj a.1.1 a.1.2 R (zR.mp hi) (zR.mp n) e
  .show(vL.mp J40).imp_of_mem fun {m u} a b ne x c y s e=>ne ?_;rw[J30] at a b;obtain⟨i,-,rfl⟩:=zW.mp c;obtain⟨j,-,rfl⟩:=zW.mp s;let{k,d}:=S.home a.1 i;rw[e,<- J14] at d;have:=S.mn_one b.1 b.2.2.2 (i:=j+k) (by rw[d];show a.2.2.2);rw[<- d,this]
 .intro x;rw[wN];constructor
  .rintro⟨m,a,c⟩;rw[J30] at a;obtain⟨i,-,rfl⟩:=zW.mp c;show{S.itin a.1.1 a.1.2 i,(q m i a.1).mpr a.2.1,by rw[S.rO a.1];show a.2.2.1}
  .rintro⟨h,r,o⟩;let{i,hi}:=S.least _ rfl h;have in_:=S.itin h.1 h.2 i;show{itN f i x,J30.mpr {in_,(q x i h).mpr r,by rw[S.rO h];show o,hi},?_};let{j,n}:=S.home h i;have R:=S.has in_;rw[S.rO h,o] at R;show zW.mpr {j%L,zR.mpr (xT _ R.pos),by rw[<- R.mod,n]}
structure Two(a b f:Int->Int)(N:Int):Prop where
 ain:∀x,0<=x/\x<N->0<=a x/\a x<N
 aa:∀x,0<=x/\x<N->a (a x)=x
 bb:∀x,0<=x/\x<N->b (b x)=x
 ff:∀x,0<=x/\x<N->f x=b (a x)
variable{a b:Int->Int}
theorem Two.back(T:Two a b f N)(S:Sys f N bs)(h:0<=x/\x<N):∀i,itN f i (a (itN f i x))=a x
 | 0=>rfl
 | i+1=>by
  have c:=S.itin h.1 h.2 i;rw[Jmh,J5x];rw[show f (a (f (itN f i x)))=a (itN f i x) from ?_,T.back S h i];have e:=T.ain _ c;have d:=S.inn _ c.1 c.2;rw[T.ff _ (T.ain _ d),T.aa _ d,T.ff _ c,T.bb _ e]
def way(a f:Int->Int)(x:Int):Prop:=∃i,itN f i x=a x
theorem Two.at(T:Two a b f N)(S:Sys f N bs)(h:0<=x/\x<N)(e:itN f j x=a x)(c:(k+i)%rOf f x=j%rOf f x):a (itN f i x)=itN f k x:=by
 have R:=S.has h;show S.itinj (T.ain _ (S.itin h.1 h.2 i)).1 (T.ain _ (S.itin h.1 h.2 i)).2 (S.itin h.1 h.2 k).1 (S.itin h.1 h.2 k).2 i ?_;rw[T.back S h,<- J14,<- e,R.mod j,R.mod (k+i),c]
theorem Two.way_on(T:Two a b f N)(S:Sys f N bs)(i:Nat)(h:0<=x/\x<N):way a f (itN f i x)↔way a f x:=by
 have c:∀{x:Int} (i:Nat),0<=x/\x<N->way a f x->way a f (itN f i x):=fun {x} i h d=>by
  let{j,e}:=d;have p:=(S.has h).pos;have le:i<=i*rOf f x:=Nat.le_mul_of_pos_right _ p;show{j+2*(i*rOf f x-i),?_};rw[T.at S h e (i:=i) (k:=j+(i*rOf f x-i)) (by rw[show j+(i*rOf f x-i)+i=j+i*rOf f x by lia,Nat.add_mul_mod_self_right]),<- J14];rw[(S.has h).mod,(S.has h).mod (j+(i*rOf f x-i)),show i+(j+2*(i*rOf f x-i))=j+(i*rOf f x-i)+i*rOf f x by lia,Nat.add_mul_mod_self_right]
 show{fun w=>?_,c i h};let{j,e}:=S.home h i;have:=c j (S.itin h.1 h.2 i) w;rw[e] at this;show this
theorem Jg5(g:j<L):((List.range L).filter fun i=>decide ((2*i)%L=j)).length+((List.range L).filter fun i=>decide ((2*i)%L=(j+1)%L)).length=2:=by
 have len:∀(q:Nat->Bool) (l:List Nat),l.Nodup->(∀i,i∈l↔i<L/\q i=true)->((List.range L).filter q).length=l.length:=fun q l nd h =>
  ((uT (uY _ vZ) nd).mpr fun i=>by rw[zX,zR];show(h i).symm).length_eq
 have d:∀i,i<L->(2*i)%L=if 2*i<L then 2*i else 2*i-L:=fun i hi=>by
  split
  .show uG ()
  .rw[show 2*i=(2*i-L)+L by lia,vD,uG ()];lia
 have f:(j+1)%L=if j+1=L then 0 else j+1:=by
  split
  .rename_i e;rw[e,Nat.mod_self]
  .show uG ()
 have b:∀t,t<L->((List.range L).filter fun i=>decide ((2*i)%L=t)).length=if t%2=0 then (if L%2=0 then 2 else 1) else (if L%2=0 then 0 else 1):=fun t m=>by
  have a:∀i,i<L->(decide ((2*i)%L=t)=true↔2*i=t\/2*i=t+L):=fun i hi=>by
   rw[yU,d i hi];split <;> lia
  by_cases e:t%2=0
  .by_cases l:L%2=0
   .rw[if_pos e,if_pos l,len _ [t/2,(t+L)/2] (by simp;lia) fun i=>by
     simp only[zI,yS,vE];show{fun h=>{(),(a i ()).mpr ()},fun h=>by have:=(a i h.1).mp h.2;lia}]
    rfl
   .rw[if_pos e,if_neg l,len _ [t/2] (by simp) fun i=>by
     simp only[zI,yS,vE];show{fun h=>{(),(a i ()).mpr ()},fun h=>by have:=(a i h.1).mp h.2;lia}]
    rfl
  .by_cases l:L%2=0
   .rw[if_neg e,if_pos l,len _ [] (by simp) fun i=>by
     simp only[yS,false_iff];show fun h=>by have:=(a i h.1).mp h.2;lia]
    rfl
   .rw[if_neg e,if_neg l,len _ [(t+L)/2] (by simp) fun i=>by
     simp only[zI,yS,vE];show{fun h=>{(),(a i ()).mpr ()},fun h=>by have:=(a i h.1).mp h.2;lia}]
    rfl
 rw[f,b j g];by_cases c:j+1=L
 .rw[if_pos c,b 0 ()]
  repeat' split
  all_goals lia
 .rw[if_neg c,b (j+1) ()]
  repeat' split
  all_goals lia
theorem Two.told(T:Two a b f N)(S:Sys f N bs)(L:Nat){p:Int->Prop}(u:∀x,0<=x/\x<N->p x->way a f x):
  cn N (fun x=>p x/\rOf f x=L)=((sel N fun x=>way a f x/\rOf f x=L/\mn f x).map fun m=>((List.range L).filter fun i=>@decide (p (itN f i m)) (Classical.propDecidable _)).length).sum:=by
 rw[Jcc (p:=fun x=>p x/\rOf f x=L) (l:=(sel N fun x=>way a f x/\rOf f x=L/\mn f x).flatMap fun m=>((List.range L).filter fun i=>@decide (p (itN f i m)) (Classical.propDecidable _)).map fun i=>itN f i m) ?_ ?_,tR]
 .congr 1
  show wO fun m _=>zB ..
 .show uC.mpr {fun m c=>?_,?_}
  .rw[J30] at c;have R:=S.has c.1;rw[c.2.2.1] at R;show yY.mpr ((vL.mp (uY _ vZ)).imp_of_mem fun hi o ne e=>ne ?_);show S.rnd_inj c.1.1 c.1.2 R (zR.mp (zX.mp hi).1) (zR.mp (zX.mp o).1) e
  .show(vL.mp J40).imp_of_mem fun {m v} c d ne x g y s e=>ne ?_;rw[J30] at c d;obtain⟨i,-,rfl⟩:=zW.mp g;obtain⟨j,-,rfl⟩:=zW.mp s;let{k,n}:=S.home c.1 i;rw[e,<- J14] at n;have:=S.mn_one d.1 d.2.2.2 (i:=j+k) (by rw[n];show c.2.2.2);rw[<- n,this]
 .intro x;rw[wN];constructor
  .rintro⟨m,c,g⟩;rw[J30] at c;let{i,hi,rfl}:=zW.mp g;show{S.itin c.1.1 c.1.2 i,@xY _ (Classical.propDecidable _) (zX.mp hi).2,by rw[S.rO c.1];show c.2.2.1}
  .rintro⟨h,r,q⟩;let{i,hi}:=S.least _ rfl h;have in_:=S.itin h.1 h.2 i;show{itN f i x,J30.mpr {in_,(T.way_on S i h).mpr (u x h r),by rw[S.rO h];show q,hi},?_};let{j,o}:=S.home h i;have R:=S.has in_;rw[S.rO h,q] at R;have e:itN f (j%L) (itN f i x)=x:=by rw[<- R.mod,o]
   show zW.mpr {j%L,zX.mpr {zR.mpr (xT _ R.pos),@zZ _ (Classical.propDecidable _) (by rw[e];show r)},e}
theorem Two.ends(T:Two a b f N)(S:Sys f N bs)(L:Nat):cn N (fun x=>a x=x/\rOf f x=L)+cn N (fun x=>b x=x/\rOf f x=L)=2*cn N (fun x=>way a f x/\rOf f x=L/\mn f x):=by
 have A:∀x,0<=x/\x<N->f (a x)=b x:=fun x h=>by rw[T.ff _ (T.ain x h),T.aa x h]
 rw[T.told S L fun x _ e=>{0,e.symm},T.told S L fun x h e=>?_]
 .have g:∀l:List Int,(∀m∈l,(0<=m/\m<N)/\way a f m/\rOf f m=L)->(l.map fun m=>((List.range L).filter fun i=>@decide (a (itN f i m)=itN f i m) (Classical.propDecidable _)).length).sum+(l.map fun m=>((List.range L).filter fun i=>@decide (b (itN f i m)=itN f i m) (Classical.propDecidable _)).length).sum=2*l.length:=by
   intro l
   induction l with
   | nil=>intro _;rfl
   | cons m l s =>
    intro w;have s:=s fun B n=>w B (zK _ n);let{h,{j,e},r}:=w m zJ;have R:=S.has h;rw[r] at R;have one:((List.range L).filter fun i=>@decide (a (itN f i m)=itN f i m) (Classical.propDecidable _)).length+((List.range L).filter fun i=>@decide (b (itN f i m)=itN f i m) (Classical.propDecidable _)).length=2:=by
     rw[<- Jg5 (L:=L) (j:=j%L) (xT _ R.pos)];have p:=R.pos;have at_:∀i,i<L->a (itN f i m)=itN f (j%L+(L-i)) m:=fun i hi=>T.at S h e (by rw[r,show j%L+(L-i)+i=j%L+L by lia,vD,Nat.mod_mod])
     have c:∀(u v:Nat),itN f u m=itN f v m↔u%L=v%L:=fun u v=>by
      rw[R.mod v];show S.rnd_iff h.1 h.2 R (xT _ p) u
     congr 1
     .congr 1
      show tV fun i hi=>?_;have hi:=zR.mp hi;rw[tW,at_ i hi,c];have l1:=xT j p;generalize j%L=t at *;constructor <;> intro q
      .have:=zP (fun z=>(z+i)%L) q;simp only[Nat.mod_add_mod] at this;rw[show t+(L-i)+i=t+L by lia,vD,uG l1,show i+i=2*i by lia] at this;show this.symm
      .have o:(t+(L-i))%L=(2*i+(L-i))%L:=by rw[Nat.add_mod,<- q,Nat.mod_mod,<- Nat.add_mod]
       rw[o,show 2*i+(L-i)=i+L by lia,vD]
     .congr 1
      show tV fun i hi=>?_;have hi:=zR.mp hi;rw[tW,<- A _ (S.itin h.1 h.2 i),at_ i hi,<- J5x f,c];have l1:=xT j p;generalize j%L=t at *;constructor <;> intro q
      .have:=zP (fun z=>(z+i)%L) q;simp only[Nat.mod_add_mod] at this;rw[show t+(L-i)+1+i=t+1+L by lia,vD,show i+i=2*i by lia] at this;show this.symm
      .have o:(t+(L-i)+1)%L=(2*i+(L-i))%L:=by rw[show t+(L-i)+1=(t+1)+(L-i) by lia,Nat.add_mod,<- q,<- Nat.add_mod]
       rw[o,show 2*i+(L-i)=i+L by lia,vD]
    rw[zL,zL,zU,zU,xD];lia
  show g _ fun m d=>by rw[J30] at d;show{d.1,d.2.1,d.2.2.1}
 .let{j,y}:=S.home (T.ain x h) 1;show{j,?_};have:itN f 1 (a x)=x:=(A x h).trans e;rw[this] at y;show y
end
noncomputable abbrev tB(bs:List Int):Int->Int:=gL bs (List.range bs.length) (replicate bs.length true)
abbrev ahB(bs:List Int)(j:Nat):Int:=Jr bs (List.range bs.length) j
def midL(bs:List Int)(i:Nat):List Int:=((List.range i).filter fun j=>decide (bs.getD j 0%2=1)).map fun j=>ahB bs j+bs.getD j 0/2
theorem Jdf(bs:List Int)(i:Nat):midL bs (i+1)=midL bs i++if bs.getD i 0%2=1 then [ahB bs i+bs.getD i 0/2] else []:=by
 unfold midL;rw[wK,xX,yE];split
 .rename_i h;rw[yV,if_pos (zZ h)];rfl
 .rename_i h;rw[yV,if_neg (by simpa using h)];rfl
section
variable{bs:List Int}
theorem Jbw(O:Ord bs (List.range bs.length))(a:j<bs.length)(c:bs.getD j 0%2=1)(b:1<=bs.getD j 0):Lies (eK bs (List.range bs.length)) bs (ahB bs j+bs.getD j 0/2) j:=Jed O a (show ahB bs j<=_ by lia) (show _<ahB bs j+_ by lia)
theorem tB_eq(O:Ord bs (List.range bs.length))(q:Lies (eK bs (List.range bs.length)) bs x j):tB bs x=2*ahB bs j+bs.getD j 0-1-x:=Jci O q
theorem Jqc :x∈midL bs n↔∃j,j<n/\bs.getD j 0%2=1/\x=ahB bs j+bs.getD j 0/2:=by
 unfold midL;simp only[zW,zX,zR,yU];show{fun⟨j,⟨a,b⟩,e⟩=>{j,a,b,e.symm},fun c=>by let{j,a,b,e}:=c;show{j,{a,b},e.symm}}
theorem Jat(O:Ord bs (List.range bs.length))(d:∀j,j<bs.length->1<=bs.getD j 0):(midL bs bs.length).Nodup:=by
 show yY.mpr ((vL.mp (uY _ vZ)).imp_of_mem fun {i j} hi c ne e=>ne ?_);rw[zX,zR,yU] at hi c;have a:=Jbw O hi.1 hi.2 (d i hi.1);have b:=Jbw O c.1 c.2 (d j c.1);rw[e] at a;show O.unique a b
theorem J7n(O:Ord bs (List.range bs.length))(b:∀j,j<bs.length->1<=bs.getD j 0):x∈midL bs bs.length↔(0<=x/\x<bs.sum)/\tB bs x=x:=by
 rw[Jqc];constructor
 .rintro⟨j,a,c,rfl⟩;have q:=Jbw O a c (b j a);show{O.inside q,?_};rw[tB_eq O q];lia
 .rintro⟨h,e⟩;let{j,q}:=O.exists h.1 h.2;rw[tB_eq O q] at e;show{j,q.1,(),()}
end
section
variable{f F:Int->Int}{N:Int}{cb:List Band}
theorem J8l(inn:∀y,0<=y->y<N->0<=f y/\f y<N)(e:∀y,0<=y/\y<N->f y=F y)(h:0<=y/\y<N):∀n,itN f n y=itN F n y/\0<=itN f n y/\itN f n y<N
 | 0=>{rfl,h}
 | n+1=>by
  let{a,b}:=J8l inn e h n;show{by rw[J5x,J5x,<- a,e _ b],inn _ b.1 b.2}
theorem Sys.congr(S:Sys f N cb)(e:∀y,0<=y/\y<N->f y=F y):Sys F N cb where
 inn:=fun y h g=>by rw[<- e y {h,g}];show S.inn y h g
 inj:=fun y z a b c d q=>S.inj y z a b c d (by simp_all)
 bnd:=fun b hb=>by
  let{w,j,k}:=S.bnd b hb;show{w,j,fun o o0 o1=>?_};have lo:=S.lo b hb;have it:=J8l S.inn e (y:=b.1+o) {(),()};let{p,l,m}:=k o o0 o1;show{p,by rw[<- (it _).1];show l,fun i a c=>by rw[<- (it i).1];show m i a c}
 lo:=S.lo
 ord:=S.ord
 sum:=S.sum
theorem Jd5(S:Sys f N cb)(e:∀y,0<=y/\y<N->f y=F y)(h:0<=x/\x<N)(R:J47 f x n):n=rOf F x:=by
 have it:=J8l S.inn e h;show(Jgx {R.pos,by rw[<- (it _).1];show R.back,fun i a c=>by rw[<- (it i).1];show R.least i a c}).symm
theorem Sys.num_c(S:Sys f N cb){L:Nat}(e:1<=L):cntL (conB cb) L=cn N (fun x=>rOf f x=L/\mn f x):=by
 have b:=S.num L;have a:=S.orb (p:=fun _=>True) (fun _ _ _=>Iff.rfl) L;have d:cn N (fun x=>True/\rOf f x=L)=numP (fun y=>decide (rOf f (y:Int)=L)) N.toNat:=by
  rw[<- J5i (p:=fun x=>decide (rOf f x=L)),List.countP_eq_length_filter];unfold cn sel
  congr 1
  show tV fun x _=>?_;rw[tW];show{fun z=>z.2,fun z=>{trivial,z}}
 have c:cn N (fun x=>True/\rOf f x=L/\mn f x)=cn N (fun x=>rOf f x=L/\mn f x):=J4t fun x _ _=>by simp_all
 rw[d,c] at a;rw[a,tI] at b;show(Int.eq_of_mul_eq_mul_left () b).symm
end
theorem Jfx(ps a:List (Int×Int))(L:Int):cntL (ps++a) L=cntL ps L+cntL a L:=by unfold cntL;rw[yE,vA]
theorem Jhw{p:Int->Prop}{l:List Int}(nd:l.Nodup)(h:∀x,x∈l↔(0<=x/\x<N)/\p x)(r:Int->Nat)(L:Nat):cntL (l.map fun x=>((r x:Int),(1:Int))) L=cn N (fun x=>p x/\r x=L):=by
 rw[Jcc (p:=fun x=>p x/\r x=L) (l:=l.filter fun x=>decide (r x=L)) (uY _ nd) fun x=>by rw[zX,h x,yU,and_assoc]];clear nd h;unfold cntL
 induction l with
 | nil=>rfl
 | cons x l ih =>
  grind
section
variable{as bs:List Int}{cb:List Band}
theorem Jnp(a:Ord as (List.range as.length))(b:Ord bs (List.range bs.length))(e:as.sum=bs.sum):Two (tB as) (tB bs) (fun y=>tB bs (tB as y)) as.sum where
 ain:=fun x h=>by
  let{j,q}:=a.exists h.1 h.2;show a.inside (J9f a q)
 aa:=fun x h=>by
  let{j,q}:=a.exists h.1 h.2;show Jee a q
 bb:=fun x h=>by
  let{j,q}:=b.exists h.1 ();show Jee b q
 ff:=fun x h=>rfl
end
def onR(f:Int->Int)(u v:Int):Prop:=∃n,itN f n u=v
def tog(a f:Int->Int)(x y:Int):Prop:=onR f x y\/onR f (a x) y
theorem onR.trans{f:Int->Int}(h:onR f u v)(k:onR f v w):onR f u w:=by let{i,e}:=h;show by let{j,a}:=k;show{i+j,by rw[J14,e,a]}
section
variable{f a b:Int->Int}{N:Int}{cb:List Band}
theorem Sys.on_symm(S:Sys f N cb)(a:0<=u/\u<N)(h:onR f u v):onR f v u:=by
 let{i,rfl}:=h;show S.home a i
theorem Two.on_a(T:Two a b f N)(S:Sys f N cb)(c:0<=u/\u<N)(h:onR f u v):onR f (a v) (a u):=by
 let{i,rfl}:=h;show{i,T.back S c i}
theorem Two.on_b(T:Two a b f N)(c:0<=u/\u<N):onR f (a u) (b u):={1,by change f (a u)=_;rw[T.ff _ (T.ain u c),T.aa u c]}
theorem Two.tog_symm(T:Two a b f N)(S:Sys f N cb)(c:0<=x/\x<N)(h:tog a f x y):tog a f y x:=by
 rcases h with h|h
 .show .inl (S.on_symm c h)
 .have:=T.on_a S (T.ain x c) h;rw[T.aa x c] at this;show .inr this
theorem Two.tog_a(T:Two a b f N)(S:Sys f N cb)(c:0<=x/\x<N)(d:0<=y/\y<N)(h:tog a f x y):tog a f x (a y):=by
 rcases h with h|h
 .show .inr (S.on_symm (T.ain y d) (T.on_a S c h))
 .have:=S.on_symm (T.ain y d) (T.on_a S (T.ain x c) h);rw[T.aa x c] at this;show .inl this
theorem Two.tog_b(T:Two a b f N)(S:Sys f N cb)(d:0<=x/\x<N)(c:0<=y/\y<N)(h:tog a f x y):tog a f x (b y):=
 (T.tog_a S d c h).imp (fun k=>k.trans (T.on_b c)) fun k=>k.trans (T.on_b c)
theorem Two.tog_trans(T:Two a b f N)(S:Sys f N cb)(c:0<=x/\x<N)(h:tog a f x y)(k:tog a f y z):tog a f x z:=by
 have d:0<=y/\y<N:=by
  rcases h with⟨i,rfl⟩|⟨i,rfl⟩
  .show S.itin c.1 c.2 i
  .show S.itin (T.ain x c).1 (T.ain x c).2 i
 rcases k with k|k
 .show h.imp (·.trans k) (·.trans k)
 .show(T.tog_a S c d h).imp (·.trans k) (·.trans k)
theorem Two.rO_a(T:Two a b f N)(S:Sys f N cb)(h:0<=x/\x<N):rOf f (a x)=rOf f x:=by
 have R:=S.has h;show J47.uniq (S.has (T.ain x h)) {R.pos,?_,fun n d c e=>R.least n d c ?_}
 .have:=T.back S h (rOf f x);rw[R.back] at this;show this
 .have i:=S.itin h.1 h.2 n;have j:=T.ain _ i;have k:=T.ain x h;have:=zP a (S.itinj j.1 j.2 k.1 k.2 n (by rw[T.back S h n,e]));rw[T.aa _ i,T.aa x h] at this;show this
theorem Two.way_a(T:Two a b f N)(S:Sys f N cb)(h:0<=x/\x<N)(w:way a f x):way a f (a x):=by
 change onR f (a x) (a (a x));rw[T.aa x h];show S.on_symm h w
theorem Two.same(T:Two a b f N)(S:Sys f N cb)(c:0<=x/\x<N)(h:tog a f x y):rOf f y=rOf f x/\(way a f y↔way a f x):=by
 rcases h with⟨i,rfl⟩|⟨i,rfl⟩
 .show{S.rO c i,T.way_on S i c}
 .have d:=T.ain x c;show{(S.rO d i).trans (T.rO_a S c),(T.way_on S i d).trans {fun w=>?_,T.way_a S c}};have:=T.way_a S d w;rw[T.aa x c] at this;show this
end
end Rl
namespace R53
open PySem L2 Rl En
structure Fd where
 n:Str
 s:Stmt
 p:List Str
abbrev Fn1 [En](d:Fd):Prop:=Fn0 d.n d.s d.p
abbrev Ca1 [En](k:Nat)(d:Fd)(sp:Sp):Prop:=Cal CX0 k d.n d.p sp
abbrev FX1(K:Frag)(mg:Str->Option Value)(d:Fd):Prop:=∃f fd,Fun K d.n d.n d.s f fd/\J33 K fd d.p []/\mg d.n=some (.ref f)
abbrev FS1(N:List Str)(d:Fd):Prop:=Jt N d.p (Je d.s)
def top(i:Nat):Stmt:=PySem.Challenge.pw_relaid_k53_strands_by_walking.main.body.getD i (.Pass {0,0,0,0})
abbrev Jb3:Fd:={"moved",top 11,["line","piece","offset","firsts"]}
abbrev Jmz:Fd:={"refuse_lengths",top 16,["lengths"]}
abbrev Jmy:Fd:={"refuse_order",top 17,["order","pieces"]}
abbrev Jmw:Fd:={"refuse_turned",top 18,["turned","pieces"]}
abbrev Jmu:Fd:={"turns_told",top 19,["turned","pieces"]}
abbrev Jb7:Fd:={"first_places",top 20,["lengths","order"]}
abbrev J84:Fd:={"length_of",top 24,["rest","letters"]}
abbrev J9o:Fd:={"rest_of",top 25,["line"]}
abbrev Jb4:Fd:={"letter_in",top 26,["rest","row","y"]}
abbrev Jn3:Fd:={"gone_between",top 27,["rest","y","from_row","to_row"]}
abbrev J9y:Fd:={"letter_at",top 28,["rest","y"]}
abbrev J9q:Fd:={"rest_comes",top 29,["rest","y"]}
abbrev J4r:Fd:={"without",top 31,["row","letter"]}
abbrev J4s:Fd:={"letters_behind",top 32,["row","letter"]}
abbrev fPut:Fd:={"put_beside",top 33,["row","winner","loser","ahead"]}
abbrev J3s:Fd:={"changed",top 34,["row","letter","entry"]}
abbrev J83:Fd:={"shortened",top 35,["rest","winner","less"]}
abbrev J6e:Fd:={"turns_behind",top 36,["rest","winner","loser"]}
abbrev Jaz:Fd:={"whole_times",top 44,["rest","winner","row"]}
abbrev Jdt:Fd:={"over_step",top 45,["rest","winner","loser"]}
abbrev J9l:Fd:={"under_step",top 46,["rest","winner","loser"]}
abbrev Jn1:Fd:={"next_step",top 47,["rest"]}
abbrev Ja0:Fd:={"first_towers",top 49,["line"]}
abbrev Jmt:Fd:={"towers_behind",top 50,["towers","step","rest","behind"]}
abbrev Ja3:Fd:={"bands_left",top 51,["step","rest","behind","towers"]}
abbrev Jdq:Fd:={"stretches_of",top 55,["line"]}
abbrev Ja1:Fd:={"first_goes",top 56,["stretch"]}
abbrev Jdx:Fd:={"last_goes",top 57,["stretch"]}
abbrev Jdz:Fd:={"go_together",top 58,["one","two"]}
abbrev Jdv:Fd:={"made_one",top 59,["one","two"]}
abbrev J7c:Fd:={"longest",top 60,["stretches"]}
abbrev J9r:Fd:={"parts_between",top 63,["one","two"]}
abbrev Jdw:Fd:={"line_within",top 65,["stretches"]}
abbrev J9z:Fd:={"joined",top 66,["one","two"]}
abbrev Jn0:Fd:={"refuse_blocks",top 69,["lengths"]}
abbrev Jmx:Fd:={"refuse_sums",top 70,["above","below"]}
abbrev Jay:Fd:={"turned_blocks",top 71,["lengths"]}
abbrev Jdr:Fd:={"share_of",top 76,["chart","at"]}
abbrev Je0:Fd:={"come_from",top 77,["chart","at","y"]}
abbrev Jj7:Fd:={"address",top 78,["chart","x"]}
abbrev Jb2:Fd:={"other_offset",top 80,["band","offset"]}
abbrev Jb5:Fd:={"length_of_round",top 81,["band","offset"]}
abbrev Jb1:Fd:={"round_length",top 82,["chart","x"]}
abbrev J9p:Fd:={"rounds_of_band",top 83,["band"]}
abbrev J9n:Fd:={"rounds",top 84,["chart"]}
abbrev J7b:Fd:={"middles",top 91,["lengths"]}
abbrev Jdu:Fd:={"numbers_of_ways",top 92,["arches"]}
abbrev J9v:Fd:={"numbers_of_loops",top 93,["arches","ways"]}
abbrev J5z:Fd:={"strands",top 94,["arches"]}
abbrev Jj6:Fd:={"_law_cell",top 97,["script","k"]}
abbrev Jn2:Fd:={"piece_holding",top 10,["firsts","lengths","x"]}
abbrev fAt:Fd:={"piece_at",top 12,["line","x"]}
abbrev Jn4:Fd:={"goes",top 13,["line","x"]}
abbrev J9u:Fd:={"other_end",top 73,["lengths","x"]}
abbrev Je2:Fd:={"arch_above",top 74,["arches","x"]}
abbrev Jn5:Fd:={"between",top 85,["chart","x","y"]}
abbrev fLed:Fd:={"led_above",top 87,["arches","x"]}
abbrev Jb6:Fd:={"in_one_round",top 88,["arches","x","y"]}
abbrev J9m:Fd:={"strand",top 89,["arches","x"]}
abbrev J5h:Fd:={"together",top 90,["arches","x","y"]}
abbrev J9t:Fd:={"_law_other",top 102,["blocks","x"]}
abbrev J9w:Fd:={"loops_and_ways",top 95,["arches"]}
abbrev Jax:Fd:={"_law_whole",top 98,["found"]}
abbrev Jdy:Fd:={"_law_gone_along",top 103,["drawn","x"]}
abbrev J7d:Fd:={"_law_counted",top 104,["drawn","size"]}
abbrev J9x:Fd:={"_law_listed",top 105,["kinds"]}
abbrev J7a:Fd:={"_law_triples",top 106,["found"]}
abbrev Ja2:Fd:={"_law_blocks",top 99,["script","many","span"]}
abbrev J9s:Fd:={"_law_parted",top 100,["script","total","many"]}
abbrev Je1:Fd:={"_law_arches",top 101,["script","spans"]}
abbrev iV(ns:List Int):List V:=ns.map V.int
abbrev nV(os:List Nat):List V:=(natI os).map V.int
abbrev bV(bs:List Bool):List V:=bs.map V.bl
def SqH(H:Hp)(p:Addr)(xs:List V):Prop:=H p=some (.lst xs)\/H p=some (.tup xs)
theorem SqH.sq{K:Frag}(h:SqH H p xs):SqL K H p xs\/SqT K H p xs:=h.elim (fun h=>.inl (SqL.of h)) fun h=>.inr (SqT.of h)
theorem SqH.same(h:SqH H p xs)(s:Same H H'):SqH H' p xs:=h.elim (fun h=>.inl (s _ _ h)) fun h=>.inr (s _ _ h)
theorem J7(h:H l=none):Same H (upd H l o):=fun b u e=>by rw[Jf (Ja e h)];show e
theorem iteD{A:Prop}[Decidable c](a:¬ c)(h:B):if decide c=true then A else B:=by
 simp_all
theorem J31{A:Prop}[Decidable c](a:c)(h:A):if decide c=true then A else B:=by
 simp_all
theorem J77{A:Prop}(h:c=true)(q:A):if c=true then A else B:=by simp_all
theorem J6d{A:Prop}(h:¬ c=true)(q:B):if c=true then A else B:=by rw[if_neg h];show q
theorem J20{K:Frag}(h:SqH H p xs)(k:∀l a,Same H a->a l=some (.tup xs)->Q (.ref l) a):rTup K [V.ref p] H Q:=by
 unfold rTup;rcases h with h|h
 .show{p,xs,rfl,.inl {SqL.of h,fun l b=>k l _ (J7 b) J2}}
 .show{p,xs,rfl,.inr {SqT.of h,k p H (Same.refl _) h}}
theorem J4b(h:i≠j):¬ V.int i=V.int j:=fun e=>h (V.int.inj e)
theorem Jfm(h:o<n):ixN n (o:Int)=some o:=by
 unfold ixN;rw[if_pos (),if_pos ()];simp
theorem J19(h:j<ns.length):(iV ns)[j]?=some (V.int (ns.getD j 0)):=by
 simp_all
theorem Jhk(ns:List Int)(j:Nat)(z:Int):(iV ns).set j (V.int z)=iV (ns.set j z):=by
 simp_all
theorem Jrr{os:List Nat}{j:Nat}{y:V}(h:(nV os)[j]?=some y):j<os.length/\y=V.int (os.getD j 0:Nat)/\os.getD j 0∈os:=by
 have a:j<os.length:=by
  have:=(gSm h);simpa [natI] using this
 show{a,?_,?_}
 .rw[zY] at h;unfold natI at h;rw[zY,gEq a] at h;rw[zH,gEq a];show(zV h).symm
 .rw[zH,gEq a];show xC a
theorem Jmr(n:Nat):(replicate n [V.int 0]).flatten=iV (replicate n 0):=by
 simp_all
theorem Jj4(n:Nat):(replicate n [V.bl false]).flatten=bV (replicate n false):=by
 simp_all
theorem Jbx :(putF f v fs).lookup f=some v:=by rw[J4n,if_pos rfl]
theorem Jby(h:¬ g=f):(putF f v fs).lookup g=fs.lookup g:=by rw[J4n,if_neg h]
theorem J2i(ls:List Int):(iV ls).length=ls.length:=zB ..
def J27(x:Addr)(H a:Hp):Prop:=∀b o,H b=some o->b≠x->a b=some o
theorem J27.of(s:Same H H'):J27 x H H':=fun b o e _=>s b o e
theorem J27.trans(a:J27 x H H1)(b:J27 x H1 H2):J27 x H H2:=fun c o e n=>b c o (a c o e n) n
theorem J27.upd :J27 x H (upd H x o):=fun b u e n=>by rw[Jf n];show e
structure Sx(x C dx:Addr)(Hw:Hp)(fs:List (Str×V))(n:Nat)(H:Hp):Prop where
 at_:H x=some (.ins C dx fs)
 kp:J27 x Hw H
 len:fs.length<=n
 lt:n<1000
structure Tp(x p:Addr)(xs:List V)(H:Hp):Prop where
 ne:p≠x
 at_:H p=some (.tup xs)
theorem Tp.kp(t:Tp x p xs H)(k:J27 x H H'):Tp x p xs H':={t.ne,k _ _ t.at_ t.ne}
theorem Sx.nil(h:H x=some (.ins C dx [])):Sx x C dx H [] 0 H:={h,fun _ _ e _=>e,zD _,by decide}
theorem Sx.few(S:Sx x C dx Hw fs n H):fs.length<1000:=xB S.len S.lt
theorem Sx.set(S:Sx x C dx Hw fs n H)(s:Same H H3)(f:Str)(v:V)(h:n+1<1000:=by decide):∃a,upd H3 x (.ins C dx (putF f v fs))=a/\Sx x C dx Hw (putF f v fs) (n+1) a/\J27 x H a:=
 {_,rfl,{J2,(S.kp.trans (J27.of s)).trans J27.upd,zM (J21 ..) (Nat.succ_le_succ S.len),h},(J27.of s).trans J27.upd}
theorem Sx.put(S:Sx x C dx Hw fs n H)(s:Same H H3)(b:H3 p=some (.tup xs))(f:Str)(h:n+1<1000:=by decide):∃a,upd H3 x (.ins C dx (putF f (.ref p) fs))=a/\Sx x C dx Hw (putF f (.ref p) fs) (n+1) a/\J27 x H a/\Tp x p xs a:=
 let ⟨a,e,S4,k⟩:=S.set s f (.ref p) h;have n:=fun z=>by rw[z,s _ _ S.at_] at b;cases b
 {a,e,S4,k,n,by rw[<- e,Jf n];show b}
def okO:HO->Bool
 | .tup _=>true
 | .ins _ _ fs=>(fs.lookup ("lengths":Str)).isSome || (fs.lookup ("rests":Str)).isSome || (fs.lookup ("winner":Str)).isSome
 | _=>false
def Kp(H a:Hp):Prop:=∀b u,H b=some u->okO u=true->a b=some u
theorem Kp.of(s:Same H H'):Kp H H':=fun b u e _=>s b u e
theorem Kp.trans(a:Kp H H1)(b:Kp H1 H2):Kp H H2:=fun c u e t=>b c u (a c u e t) t
theorem Kp.x{x:Addr}(k:J27 x H H')(h:H x=some o)(n:okO o=false):Kp H H':=fun b u e t=>k b u e fun z=>by grind
theorem J27.sqH(k:J27 x H H')(h:SqH H p xs)(n:p≠x):SqH H' p xs:=h.elim (fun h=>.inl (k _ _ h n)) fun h=>.inr (k _ _ h n)
theorem SqH.ne(h:SqH H p xs)(a:H x=some (.ins C dx fs)):p≠x:=h.elim (fun h=>Jqa h a (by simp_all)) fun h=>Jqa h a (by simp_all)
theorem J86(h:j<ts.length):(bV ts)[j]?=some (V.bl (ts.getD j false)):=by
 simp_all
structure TxtR(mg:Str->Option Value):Prop where
 len:mg "len"=none
 sum:mg "sum"=none
 tuple:mg "tuple"=none
 list:mg "list"=none
 range:mg "range"=none
theorem J63(row:List Nat):nV row=row.map fun(j:Nat)=>V.int (j:Int):=by
 change(row.map fun(n:Nat)=>(n:Int)).map V.int=_;rw[yX];rfl
theorem J81(row:List Nat):(nV row).length=row.length:=by rw[J63,zB]
theorem nV_at(h:i<row.length):(nV row)[i]?=some (V.int (row.getD i 0:Nat)):=by
 rw[J63,zY,zH,gEq h];rfl
section
variable [En]
inductive Jez(vs:List V)(H:Hp)(Q:VK)(E:XK):Prop
 | mk(p q:Addr)(ls:List Int)(os:List Nat)(_:vs=[.ref p,.ref q])(_:H p=some (.tup (iV ls)))(_:SqH H q (nV os))(_:(∀o∈os,o<ls.length))(_:ls.length<=24)(_:∀l a,Same H a->a l=some (.tup (iV (eK ls os)))->Q (.ref l) a)
theorem J4f:FS1 ["lengths","order","firsts","place","piece"] Jb7:=fsc
def PvF(p q a:Addr)(ls:List Int)(os:List Nat)(H:Hp)(i:Nat)(σ:St)(b:Hp):Prop:=
 ∃v,σ=[some (.ref p),some (.ref q),some (.ref a),some (.int (J61 ls os i).2),v]/\b a=some (.lst (iV (J61 ls os i).1))/\H a=none/\Same H b
theorem Jq2(F:Fn1 Jb7)(T:TxtR mg):
  Ca1 1 Jb7 Jez:=by
 show F.ok J4f (fun f d A o s H vs Q E X h=>?_);let{p,q,ls,os,rfl,I,B,M,Y,k}:=h;have N:(iV ls).length=ls.length:=zB ..;have turn:∀(c:Addr) (i:Nat) (y:V) (σ:St) (g:Hp) (D:Ends),(nV os)[i]?=some y->PvF p q c ls os H i σ g->D.nx=PvF p q c ls os H (i+1)->
   J5e 4 y σ g fun σ2 g=>tSeq (tAsg (tVar 3) (gSub (tVar 2) (tVar 4) rSetL)) (tAsg (tOp (rI0 fun i j=>.int (i+j)) (tVar 3) (tOp (rIxT K) (tVar 0) (tVar 4))) (J5e 3)) D σ2 g:=by
  rintro c i y σ g D S ⟨v,rfl,G,r,C⟩ W;let{hi,rfl,U}:=Jrr S;have P:=M _ U;show{_,rfl,_,rfl,_,rfl,c,_,_,os.getD i 0,rfl,rfl,G,Jfm (by rw[zB,J4z];show P),?_};show{_,rfl,_,rfl,_,rfl,p,_,_,_,rfl,rfl,SqT.of (xs:=iV ls) ?_,Jc (J19 P),_,_,rfl,rfl,?_}
  .rw[Jf (Jqa (C _ _ I) G (by intro z;cases z))];show C _ _ I
  .change D.nx _ _;rw[W];show{_,rfl,?_,r,fun b o e=>?_}
   .rw[J2,Jhk];rfl
   .rw[Jf (Ja e r)];show C _ _ e
 have w:∀c,H c=none->∀J,Same H J->J c=some (.lst (iV (replicate ls.length 0)))->PvF p q c ls os H 0 [some (.ref p),some (.ref q),some (.ref c),some (.int 0),none] J:=fun c G J r C=>{none,rfl,C,G,r};have done:∀c (σ:St) (g:Hp),PvF p q c ls os H (nV os).length σ g->tRet (tCB (rTup K) (Jny (tVar 2) tNil)) { nx:=fun _ R=>Q .non R,rt:=Q } σ g:=by
  rintro c σ g ⟨v,rfl,G,r,C⟩;have e:(nV os).length=os.length:=by simp[natI]
  rw[e] at G;show{_,rfl,J20 (.inl G) fun l R s N=>k l _ (C.trans s) N}
 have rep:∀c,H c=none->∀m,(upd H c (.lst [V.int 0])) m=none->PvF p q m ls os H 0 [some (.ref p),some (.ref q),some (.ref m),some (.int 0),none] (upd (upd H c (.lst [V.int 0])) m (.lst (replicate ((iV ls).length:Int).toNat [V.int 0]).flatten)):=fun c u m r =>
  w m ((J7 u).free r) _ ((J7 u).trans (J7 r)) (by rw[J2,Jmr,N];rfl)
 rcases B with B|B
 .show{_,J0 (pst J4f 2 (Jj Jh2 (J1z (dZ J9 J1)) (pcb Jm T.len (pv 0))))
   (J0 (pst J4f 3 J9)
   (J0 (J2h yH rfl (J1i (pv 1)) (pgm J4f 4) (J0 (Jao (pv 3) (Jd8 (pv 2) (pv 4) J6p)) (J3 (pst J4f 3 (Jj J12 (pv 3) (Js Jl (pv 0) (pv 4)))))))
   (J3 (Jd (pct J1u T.tuple (pv 2)))))),?_}
  show{by change 1<=sizeLine;decide,fun c u=>{_,rfl,p,_,rfl,.inr (SqT.of (J7 u _ _ I)),c,_,[V.int 0],rfl,rfl,J2,(),(),?_,fun m r=>?_}}
  .change 1*((iV ls).length:Int).toNat<=sizeLine;have:=Jq (n:=ls.length) ();lia
  .have L:=rep c u m r;show{_,rfl,q,rfl,{_,SqL.of (((J7 u).trans (J7 r)) _ _ B)},J2m (K:=K) (a:=q) (xs:=nV os) (PvF p q m ls os H) L (fun i σ g _ O=>by let{_,_,_,_,s}:=O;show SqL.of (s _ _ B)) (fun i y σ g hi pv=>turn m i y σ g _ hi pv rfl) (fun σ g pv=>done m σ g pv)}
 .show{_,J0 (pst J4f 2 (Jj Jh2 (J1z (dZ J9 J1)) (pcb Jm T.len (pv 0))))
   (J0 (pst J4f 3 J9)
   (J0 (J2h yH rfl (J7v (pv 1)) (pgm J4f 4) (J0 (Jao (pv 3) (Jd8 (pv 2) (pv 4) J6p)) (J3 (pst J4f 3 (Jj J12 (pv 3) (Js Jl (pv 0) (pv 4)))))))
   (J3 (Jd (pct J1u T.tuple (pv 2)))))),?_}
  show{by change 1<=sizeLine;decide,fun c u=>{_,rfl,p,_,rfl,.inr (SqT.of (J7 u _ _ I)),c,_,[V.int 0],rfl,rfl,J2,(),(),?_,fun m r=>?_}}
  .change 1*((iV ls).length:Int).toNat<=sizeLine;have:=Jq (n:=ls.length) ();lia
  .have L:=rep c u m r;show{_,rfl,q,rfl,{_,SqT.of (((J7 u).trans (J7 r)) _ _ B)},J9h (K:=K) (a:=q) (xs:=nV os) (PvF p q m ls os H) L (fun i σ g _ O=>by let{_,_,_,_,s}:=O;show SqT.of (s _ _ B)) (fun i y σ g hi pv=>turn m i y σ g _ hi pv rfl) (fun σ g pv=>done m σ g pv)}
structure A4(a b c d:Prop):Prop where
 a:a
 b:b
 c:c
 d:d
structure A5(a b c d e:Prop):Prop where
 a:a
 b:b
 c:c
 d:d
 e:e
structure A6(a b c d e f:Prop):Prop where
 a:a
 b:b
 c:c
 d:d
 e:e
 f:f
inductive J7g(K:Frag)(H:Hp)(x:Addr)(ls:List Int)(ts:List Bool):Prop
 | mk(C a:Addr)(fs:List (Str×V))(pl pt:Addr)(_:H x=some (.ins C a fs))(_:Cls K C)(_:J17 K C "lengths")(_:J17 K C "turned")(_:fs.lookup ("lengths":Str)=some (.ref pl))(_:fs.lookup ("turned":Str)=some (.ref pt))(_:H pl=some (.tup (iV ls)))(_:H pt=some (.tup (bV ts)))
theorem J7g.ex{K:Frag}(h:J7g K H x ls ts):J7g K H x ls ts:=h
inductive Jbe(K:Frag)(vs:List V)(H:Hp)(Q:VK)(E:XK):Prop
 | mk(x p:Addr)(ls:List Int)(ts:List Bool)(fs:List Int)(j:Nat)(off:Int)(_:vs=[.ref x,.int j,.int off,.ref p])(_:J7g K H x ls ts)(_:H p=some (.tup (iV fs)))(_:fs.length=ls.length)(_:ts.length=ls.length)(_:j<ls.length)(_:Q (.int (J4m ls ts j off fs)) H)
theorem Jsw:FS1 ["line","piece","offset","firsts"] Jb3:=fsc
theorem Jle(F:Fn1 Jb3):
  Ca1 1 Jb3 (Jbe K):=by
 show F.ok Jsw (fun f d A o s H vs Q E v h=>?_);let{x,p,ls,ts,fs,j,off,rfl,L,b,e,q,a,k}:=h;let{C,l,i,pl,pt,g,cl,nL,nT,n,m,u,r}:=L.ex;show{_,J0 (J1a (J25 (Js Jl (J8 (pv 0)) (pv 1))) (J3 (Jd (Jj J1j (Jj J1j (Jj J12 (Js Jl (pv 3) (pv 1)) (Js Jl (J8 (pv 0)) (pv 1))) J9) (pv 2)))) Jo)
  (J3 (Jd (Jj J12 (Js Jl (pv 3) (pv 1)) (pv 2)))),?_}
 show{_,rfl,x,C,l,i,_,rfl,g,cl,nT,m,_,rfl,pt,_,_,_,rfl,rfl,SqT.of r,Jc (J86 (by rw[q];show a)),_,rfl,?_};unfold J4m at k;by_cases c:ts.getD j false=true
 .rw[if_pos c] at k;rw[if_pos c];show{_,rfl,_,rfl,p,_,_,_,rfl,rfl,SqT.of b,Jc (J19 (by rw[e];show a)),_,rfl,x,C,l,i,_,rfl,g,cl,nL,n,_,rfl,pl,_,_,_,rfl,rfl,SqT.of u,Jc (J19 a),_,_,rfl,rfl,_,_,rfl,rfl,_,rfl,_,_,rfl,rfl,k}
 .rw[if_neg c] at k;rw[if_neg c];show{_,rfl,_,rfl,p,_,_,_,rfl,rfl,SqT.of b,Jc (J19 (by rw[e];show a)),_,rfl,_,_,rfl,rfl,k}
end
structure Good(ls:List Int)(os:List Nat):Prop where
 lo:1<=ls.length
 hi:ls.length<=24
 pos:∀a∈ls,1<=a
 sum:ls.sum<=10^30
 perm:os.Perm (List.range ls.length)
theorem Good.olt{os:List Nat}(g:Good ls os):∀o∈os,o<ls.length:=fun o h=>zR.mp (g.perm.mem_iff.mp h)
structure Txt(K:Frag)(mg:Str->Option Value):Prop where
 len:mg "len"=none
 min:mg "min"=none
 sum:mg "sum"=none
 sorted:mg "sorted"=none
 list:mg "list"=none
 range:mg "range"=none
 tuple:mg "tuple"=none
 most:∃t,mg "MOST_PIECES"=some (.int 24 t)
section
variable [En]
inductive Jrc(vs:List V)(H:Hp)(Q:VK)(E:XK):Prop
 | mk(p:Addr)(ls:List Int)(os:List Nat)(_:vs=[.ref p])(_:SqH H p (iV ls))(_:Good ls os)(_:Q .non H)
theorem scRefL:FS1 ["lengths"] Jmz:=fsc
theorem Jtl(F:Fn1 Jmz)(T:Txt K mg):
  Ca1 1 Jmz Jrc:=by
 show F.ok scRefL (fun f d A o s H vs Q E l h=>?_);let{p,ls,os,rfl,a,g,k}:=h;let{i,b}:=T.most;have n:=g.lo;have m:=g.hi;show{_,J0 (J1a (Jk J44 (pcb Jm T.len (pv 0)) J9 (Jp _)) (J3 J1o) Jo)
  (J0 (J1a (Jk J6x (pcb Jm T.len (pv 0)) (Jf6 (v:=.int 24) rfl b {_,rfl}) (Jp _)) (J3 J1o) Jo)
  (J0 (J1a (Jk J95 (J1d (Ji0 rfl) (by rfl) T.min boot_min (dZ (pv 0) J1)) J9 (Jp _)) (J3 J1o) Jo)
  (J3 (J1a (Jk J6x (pcb (J23 rfl) T.sum (pv 0)) (Jj Jkt J9 J9) (Jp _)) (J3 J1o) Jo)))),?_}
 have c:(iV ls).length=ls.length:=zB ..;show{_,rfl,p,_,rfl,a.sq,rfl,_,rfl,iteD (J4b (by rw[c];lia)) ?_};show{_,rfl,p,_,rfl,a.sq,_,_,rfl,rfl,_,rfl,iteD (by rw[c];lia) ?_};show{_,rfl,p,ls,rfl,a.sq,(),fun M j e=>{_,_,rfl,rfl,_,rfl,iteD (by have:=g.pos M j;lia) ?_}};show{_,rfl,p,ls,rfl,a.sq,_,_,rfl,rfl,{by decide,by decide,by decide},_,_,rfl,rfl,_,rfl,iteD ?_ ?_}
 .have:=g.sum;change ¬ (10:Int)^30<ls.sum;lia
 .show k
inductive Jrb(vs:List V)(H:Hp)(Q:VK)(E:XK):Prop
 | mk(q:Addr)(os:List Nat)(n:Nat)(_:vs=[.ref q,.int n])(_:SqH H q (nV os))(_:os.Perm (List.range n))(_:n<=24)(_:∀a,Same H a->Q .non a)
theorem scRefO:FS1 ["order","pieces"] Jmy:=fsc
theorem Jtk(F:Fn1 Jmy)(T:Txt K mg):
  Ca1 1 Jmy Jrb:=by
 show F.ok scRefO (fun f d A o s H vs Q E u h=>?_);let{q,os,n,rfl,v,m,D,k}:=h;have p:=u.units0;show{_,J3 (J1a (Jk (op_neL p) (J1d Jfy (by rfl) T.sorted boot_sorted (dZ (pv 0) J1))
  (pct (J3h rfl) T.list (J2z J7e (by rfl) T.range tX (dZ (pv 1) J1))) (Jp _)) (J3 J1o) Jo),?_}
 have w:(natI os).length<64:=by
  unfold natI;rw[zB,m.length_eq,yC];lia
 show{_,rfl,q,natI os,rfl,v.sq,w,fun l a y B z=>?_};show{_,rfl,(n:Int),rfl,fun r b=>{r,n,rfl,J2,(),fun j c=>?_}};have e:=Jct m B z;have C:=Ja (H:=upd H l (.lst (a.map V.int))) J2 b;have g:Same (upd H l (.lst (a.map V.int))) (upd (upd (upd H l (.lst (a.map V.int))) r (.rng 0 n)) j (.lst (((List.range n).map fun(i:Nat)=>(i:Int)).map V.int))):=(J7 b).trans (J7 c);show{l,j,_,_,rfl,rfl,SqL.of (g _ _ J2),SqL.of J2,Kin.ints _ _,_,rfl,Jfn (by rw[e];rfl) ?_};show k _ ((J7 y).trans g)
inductive Jr9(vs:List V)(H:Hp)(Q:VK)(E:XK):Prop
 | mk(q:Addr)(xs:List V)(n:Nat)(_:vs=[.ref q,.int n])(_:SqH H q xs)(_:xs.length=n)(_:Q .non H)
theorem scRefT:FS1 ["turned","pieces"] Jmw:=fsc
theorem Jti(F:Fn1 Jmw)(T:Txt K mg):
  Ca1 1 Jmw Jr9:=by
 show F.ok scRefT (fun f d A o s H vs Q E c h=>?_);let{q,xs,n,rfl,a,b,k}:=h;show{_,J3 (J1a (Jk J6w (pcb Jm T.len (pv 0)) (pv 1) (Jp _)) (J3 J1o) Jo),?_};show{_,rfl,q,_,rfl,a.sq,_,rfl,rfl,_,rfl,Jfn (by rw[b]) ?_};show k
def Jab(H:Hp)(a:V)(n:Nat)(ts:List Bool):Prop:=ts.length=n/\((a=.non/\ts=replicate n false)\/∃t,a=.ref t/\SqH H t (bV ts))
theorem Jab.same(h:Jab H tv n ts)(s:Same H H'):Jab H' tv n ts:={h.1,h.2.elim .inl fun a=>by let{t,e,q}:=a;show .inr {t,e,q.same s}}
inductive Jr8(vs:List V)(H:Hp)(Q:VK)(E:XK):Prop
 | mk(b:V)(n:Nat)(ts:List Bool)(_:vs=[b,.int n])(_:1<=n)(_:n<=24)(_:Jab H b n ts)(_:∀p a,Same H a->a p=some (.tup (bV ts))->Q (.ref p) a)
theorem scTold:FS1 ["turned","pieces"] Jmu:=fsc
theorem Jth(F:Fn1 Jmu)(T:Txt K mg)(m:Ca1 1 Jmw Jr9):
  Ca1 2 Jmu Jr8:=by
 show F.ok scTold (fun f d A o s H vs Q E i h=>?_);let{q,n,ts,rfl,v,u,{g,j},k}:=h;show{_,J0 (J1a (pt_cmp (pc_isN (pv 0))) (J3 (Jd (Jj Jks (J1y (dZ J4j J1)) (pv 1)))) Jo)
  (J0 (J18 (pcl m i Jg (dZ (pv 0) (dZ (pv 1) J1))))
  (J3 (Jd (pct J1u T.tuple (pv 0))))),?_}
 rcases j with⟨rfl,rfl⟩|⟨t,rfl,hq⟩
 .show{_,rfl,_,rfl,J31 rfl ?_};show{by change 1<=sizeLine;decide,fun p b=>{_,rfl,p,(n:Int),[V.bl false],rfl,rfl,J2,by simp,(),(),?_,fun e=>?_,fun r c a=>?_}}
  .change 1*(n:Int).toNat<=sizeLine;have:=Jq (n:=n) ();lia
  .have l:n=1:=()
   subst l;show k p _ (J7 b) J2
  .show k c _ ((J7 b).trans (J7 a)) ?_;rw[J2,<- Jj4];rfl
 .show{_,rfl,_,rfl,iteD (by intro e;cases e) ?_};show{_,rfl,_,rfl,t,bV ts,n,rfl,hq,by rw[zB];show g,?_};show{_,rfl,J20 hq k}
end
section
variable [En]
inductive tCutR(t:TS)(D:Ends)(σ:St)(H:Hp):Prop
 | mk(a:St->Hp->Prop)(_:t { D with nx:=a } σ H)(_:∀σ' b,a σ' b->D.nx σ' b)
def tCut(t:TS):TS:=fun D σ H=>tCutR t D σ H
theorem J4w(h:PS X st t):PS X st (tCut t):=by
 intro pins s σ H D I ⟨post,q,m⟩;show thn (h pins s σ H _ I q) fun f s' z=>?_
 cases f with
 | next=>let{σ',a,b,z}:=z;show{σ',a,b,m σ' a z}
 | brk=>show z
 | cont=>show z
 | ret u=>show z
inductive J29(C:Addr)(H:Hp)(x:Addr)(ls:List Int)(os:List Nat)(ts:List Bool):Prop
 | mk(b:Addr)(fs:List (Str×V))(pl po pt ps a:Addr)(_:H x=some (.ins C b fs))(_:A6 (fs.lookup ("lengths":Str)=some (.ref pl)) (fs.lookup ("order":Str)=some (.ref po)) (fs.lookup ("turned":Str)=some (.ref pt)) (fs.lookup ("starts":Str)=some (.ref ps)) (fs.lookup ("laid":Str)=some (.ref a)) (fs.lookup ("size":Str)=some (.int ls.sum)))(_:H pl=some (.tup (iV ls)))(_:H po=some (.tup (nV os)))(_:H pt=some (.tup (bV ts)))(_:H ps=some (.tup (iV (eK ls (List.range ls.length)))))(_:H a=some (.tup (iV (eK ls os))))
theorem J29.ex{os:List Nat}(h:J29 C H x ls os ts):J29 C H x ls os ts:=h
theorem J29.kp{os:List Nat}(h:J29 C H x ls os ts)(s:Kp H H'):J29 C H' x ls os ts:=by
 let{j,fs,pl,po,pt,ps,b,i,a,g,f,e,d,c}:=h.ex;show{j,fs,pl,po,pt,ps,b,s _ _ i (by simp[okO,a.1]),a,s _ _ g rfl,s _ _ f rfl,s _ _ e rfl,s _ _ d rfl,s _ _ c rfl}
theorem J29.same{os:List Nat}(h:J29 C H x ls os ts)(s:Same H H'):J29 C H' x ls os ts:=h.kp (Kp.of s)
structure TxtC(K:Frag)(mg:Str->Option Value)(C:Addr):Prop where
 cl:Cls K C
 nL:J17 K C "lengths"
 nO:J17 K C "order"
 nT:J17 K C "turned"
 nS:J17 K C "starts"
 nD:J17 K C "laid"
 nZ:J17 K C "size"
structure FunD(K:Frag)(x qual:Str)(st:Stmt)(f:Addr)(fd:FuncData)(TD:Addr):Prop where
 ex:∃(oc:Value) (od:Option Addr) (kV doc pm:Value) (an:Option Addr) (cdv ct:Value) (osl:Array (Option Value)),
  fd=fnOf x qual (J2p st) (J1n st) (Je st) (.ref TD) kV doc pm an cdv ct/\K.lookup f=some {oc,od,.func fd,osl}/\codeIn K cdv qual=true
 kp:keepIn K (.ref f)=true
theorem FunD.ok(F:FunD K x qual st f fd TD)(S:Jt N ps (Je st))(len:∀vs H Q E,sp vs H Q E->vs.length=ps.length)(b:∀(a:Value) (A:Around) (outer:List Env) (s:Shared) (H:Hp) (vs:List V) (Q:VK) (E:XK),Room k (A.deeper (PyProof.Rows.envOfC qual (Je st) s.heap.objs.size f a))->sp vs H Q E->
   ∃t,PSs (cxOf CX0 P w K mg base N qual (Je st) f a A outer s H E).nox (J1n st) t/\t { nx:=fun _ l=>Q .non l,rt:=Q } (start N vs) H):FnOk P w K mg base CX0 (k+1) f fd ps sp:=by
 let{o,n,kV,j,m,p,a,ct,e,rfl,g,d}:=F.ex;show Jua g d S len fun A outer s H vs Q E i c=>?_;let{t,h,q}:=b a A outer s H vs Q E i c;show{t,h.nox,q}
inductive Jgm(C:Addr)(vs:List V)(H:Hp)(Q:VK)(E:XK):Prop
 | mk(x d p q:Addr)(c:V)(ls:List Int)(os:List Nat)(ts:List Bool)(_:vs=[.ref x,.ref p,.ref q,c])(_:H x=some (.ins C d []))(_:SqH H p (iV ls))(_:SqH H q (nV os))(_:Good ls os)(_:Jab H c ls.length ts)(_:∀a,J29 C a x ls os ts->(∀b o,H b=some o->b≠x->a b=some o)->Q .non a)
theorem scInit:Jt ["self","lengths","order","turned"] ["self","lengths","order","turned"] (Je (Jb (top 21) 0)):=fsc
theorem Jto(F:FunD K "__init__" "Line.__init__" (Jb (top 21) 0) f fd TD)(T:Txt K mg)(a:TxtC K mg C)(cL:Ca1 1 Jmz Jrc)(cO:Ca1 1 Jmy Jrb)(cT:Ca1 2 Jmu Jr8)(cF:Ca1 1 Jb7 Jez):
  FnOk P w K mg base CX0 3 f fd ["self","lengths","order","turned"] (Jgm C):=by
 show F.ok scInit (fun vs H Q E h=>?_) (fun d A o s H vs Q E n h=>?_)
 .let{x,b,p,q,tv,ls,os,ts,rfl,_}:=h;rfl
 .let{x,b,p,q,tv,ls,os,ts,rfl,z,e,U,g,ht,k}:=h;have g1:=g.lo;have B:=g.hi;have m:=e.ne z;have M:=U.ne z;show{_,J0 (J18 (pcl cL n Jg (dZ (pv 1) J1)))
   (J0 (J18 (pcl cO n Jg (dZ (pv 2) (dZ (pcb Jm T.len (pv 1)) J1))))
   (J0 (J1s (pv 0) (pcl cT n Jg (dZ (pv 3) (dZ (pcb Jm T.len (pv 1)) J1))) rfl)
   (J0 (J1s (pv 0) (pct J1u T.tuple (pv 1)) rfl)
   (J0 (J1s (pv 0) (pct J1u T.tuple (pv 2)) rfl)
   (J0 (J1s (pv 0) (pcl cF n Jg (dZ (J8 (pv 0)) (dZ (pct (J3h rfl) T.list (J2z J7e (by rfl) T.range tX (dZ (pcb Jm T.len (pv 1)) J1))) J1))) rfl)
   (J0 (J1s (pv 0) (pcl cF n Jg (dZ (J8 (pv 0)) (dZ (J8 (pv 0)) J1))) rfl)
   (J3 (J1s (pv 0) (pcb (J23 rfl) T.sum (J8 (pv 0))) rfl)))))))),?_}
  show{_,rfl,p,ls,os,rfl,e,g,?_};show{_,rfl,_,rfl,p,_,rfl,e.sq,q,os,ls.length,(by rw[J2i];rfl),U,g.perm,B,fun H1 L=>?_};show{_,rfl,_,rfl,p,_,rfl,(e.same L).sq,tv,ls.length,ts,(by rw[J2i];rfl),g1,B,ht.same L,fun pt H2 s2 W=>?_};have j:=L.trans s2;show{_,rfl,x,C,b,[],rfl,j _ _ z,a.cl,a.nT,by decide,?_};let{H3,e3,I,_,t1}:=(Sx.nil z).put j W "turned";rw[e3];show{_,rfl,J20 (I.kp.sqH e m) fun pl H4 s4 Z=>{_,rfl,x,C,b,_,rfl,s4 _ _ I.at_,a.cl,a.nL,I.few,?_}};let{H5,e5,G,k5,c}:=I.put s4 Z "lengths";rw[e5];show{_,rfl,J20 (G.kp.sqH U M) fun po H6 s6 Y=>{_,rfl,x,C,b,_,rfl,s6 _ _ G.at_,a.cl,a.nO,G.few,?_}};let{H7,e7,v,k7,t3}:=G.put s6 Y "order";rw[e7];show{_,rfl,x,C,b,_,_,rfl,v.at_,a.cl,a.nL,show _=some (V.ref pl) by kernel_rfl,_,rfl,p,_,rfl,(v.kp.sqH e m).sq,_,rfl,fun r S=>{r,_,rfl,J2,(by rw[J2i];lia),fun l hl=>?_}};have c:=c.kp k7;have J:=(J7 (o:=.rng 0 ((iV ls).length:Nat)) S).trans (J7 (o:=.lst (((List.range (iV ls).length).map fun(i:Nat)=>(i:Int)).map V.int)) hl);show{pl,l,ls,List.range ls.length,rfl,J _ _ c.at_,.inl (by rw[J2,J2i];rfl),fun o ho=>zR.mp ho,B,fun ps H9 s9 X=>?_};show{_,rfl,x,C,b,_,rfl,(J.trans s9) _ _ v.at_,a.cl,a.nS,v.few,?_};let{Ha,ea,u,y,t4}:=v.put (J.trans s9) X "starts";rw[ea];show{_,rfl,x,C,b,_,_,rfl,u.at_,a.cl,a.nL,show _=some (V.ref pl) by kernel_rfl,_,rfl,x,C,b,_,_,rfl,u.at_,a.cl,a.nO,show _=some (V.ref po) by kernel_rfl,pl,po,ls,os,rfl,(c.kp y).at_,.inr (t3.kp y).at_,g.olt,B,fun pd Hb sb aa=>?_};show{_,rfl,x,C,b,_,rfl,sb _ _ u.at_,a.cl,a.nD,u.few,?_};let{Hc,ec,D,R,t5}:=u.put sb aa "laid";rw[ec];show{_,rfl,x,C,b,_,_,rfl,D.at_,a.cl,a.nL,show _=some (V.ref pl) by kernel_rfl,pl,ls,rfl,.inr (SqT.of ((c.kp y).kp R).at_),_,rfl,x,C,b,_,rfl,D.at_,a.cl,a.nZ,D.few,?_};let{Hz,ez,Sz,N}:=D.set (Same.refl _) "size" (.int ls.sum);rw[ez];have O:=(y.trans R).trans N;show k _ {b,_,pl,po,pt,ps,pd,Sz.at_,{by kernel_rfl,by kernel_rfl,by kernel_rfl,by kernel_rfl,by kernel_rfl,by kernel_rfl},(c.kp O).at_,(t3.kp O).at_,(((t1.kp k5).kp k7).kp O).at_,(t4.kp (R.trans N)).at_,(t5.kp N).at_} Sz.kp
end
theorem Good.ord{os:List Nat}(g:Good ls os):Ord ls os:={g.pos,g.perm}
theorem Good.pos_sum{os:List Nat}(g:Good ls os):0<ls.sum:=by
 have b:Jr ls (List.range ls.length) 0<Jr ls (List.range ls.length) 1:=g.ord.range.step (i:=0) g.lo;have a:=g.ord.range.mono (i:=1) (k:=ls.length) g.lo (zD _);rw[g.ord.range.whole] at a;rw[J36] at b;lia
section
variable [En]
inductive J8y(K:Frag)(vs:List V)(H:Hp)(Q:VK)(E:XK):Prop
 | mk(C x q b pl:Addr)(fs:List (Str×V))(ls:List Int)(row:List Nat)(_:vs=[.ref x,.ref q])(_:H x=some (.ins C b fs))(_:Cls K C)(_:J17 K C "lengths")(_:fs.lookup ("lengths":Str)=some (.ref pl))(_:H pl=some (.tup (iV ls)))(_:H q=some (.tup (nV row)))(_:(∀j∈row,j<ls.length))(_:row.length<=24)(_:∀a,Same H a->Q (.int (J4 ls row)) a)
theorem Jt0:FS1 ["rest","letters"] J84:=fsc
theorem Jpw(F : Fn1 J84)(T : TxtR mg):
    Ca1 1 J84 (J8y K):= by
  show F.ok Jt0 (fun f d A o s H vs Q E v h => ?_);let{C, x, q, r, pl, fs, ls, row, rfl, l, p, n, i, b, g, c, w, k} := h;show{_, J3 (Jd (pcb (J23 rfl) T.sum (Jbs (caps := ["rest"]) (js := [0]) rfl (J7v (pv 1)) rfl (fun _ _ _ _ => J4i)
    (fun C y s H => J65 (J5d K) (J7y K (pv 1)) (pv 0))
   ))), ?_}
  show{_, rfl, q, rfl, {_, SqT.of g}, fun d hd => Jrw (fun(j : Nat) => V.int (j : Int)) row (fun _ => true) (fun j => V.int (ls.getD j 0)) (by rw[<- J63]; show SqT.of g) () hd
    (fun _ _ H _ _ k => k H (Same.refl _)) (fun j m B z _ e k => ?_) (fun u s' a => ?_)}
  · show{_, rfl, x, C, r, fs, _, rfl, e _ _ l, p, n, i, _, rfl, pl, _, _, _, rfl, rfl, SqT.of (e _ _ b), Jc (J19 (c j m)), k _ (Same.refl _)}
  · rw[J5y] at a
    show{d, row.map fun j => ls.getD j 0, rfl, .inl (SqL.of ?_), k u s'};rw[a, yX]; rfl
inductive J1f(CR:Addr)(H:Hp)(x:Addr)(r:Rst):Prop
 | mk(c:Addr)(fs:List (Str×V))(pt b pl a:Addr)(_:H x=some (.ins CR c fs))(_:A5 (fs.lookup ("top":Str)=some (.ref pt)) (fs.lookup ("bottom":Str)=some (.ref b)) (fs.lookup ("lengths":Str)=some (.ref pl)) (fs.lookup ("turned":Str)=some (.ref a)) (fs.lookup ("size":Str)=some (.int r.size)))(_:H pt=some (.tup (nV r.top)))(_:H b=some (.tup (nV r.bot)))(_:H pl=some (.tup (iV r.ls)))(_:H a=some (.tup (bV r.ts)))
theorem J1f.ex{CR:Addr}(h:J1f CR H x r):J1f CR H x r:=h
theorem J1f.kp{CR:Addr}(h:J1f CR H x r)(s:Kp H H'):J1f CR H' x r:=by
 let{l,fs,pt,d,pl,b,j,a,i,g,f,e}:=h.ex;show{l,fs,pt,d,pl,b,s _ _ j (by simp[okO,a.c]),a,s _ _ i rfl,s _ _ g rfl,s _ _ f rfl,s _ _ e rfl}
theorem J1f.same{CR:Addr}(h:J1f CR H x r)(s:Same H H'):J1f CR H' x r:=h.kp (Kp.of s)
structure J1c(K:Frag)(CR:Addr):Prop where
 cl:Cls K CR
 nT:J17 K CR "top"
 nB:J17 K CR "bottom"
 nL:J17 K CR "lengths"
 nU:J17 K CR "turned"
 nZ:J17 K CR "size"
theorem J1f.fields{K:Frag}{CR:Addr}(a:J1c K CR)(h:J1f CR H x r):J7g K H x r.ls r.ts:=by
 let{i,fs,pt,j,pl,b,g,{n,m,d,c,l},p,o,f,e}:=h.ex;show{CR,i,fs,pl,b,g,a.cl,a.nL,a.nU,d,c,f,e}
inductive J4d(CR:Addr)(vs:List V)(H:Hp)(Q:VK)(E:XK):Prop
 | mk(x f e d c b:Addr)(r:Rst)(_:vs=[.ref x,.ref e,.ref d,.ref c,.ref b])(_:H x=some (.ins CR f []))(_:SqH H e (nV r.top))(_:SqH H d (nV r.bot))(_:SqH H c (iV r.ls))(_:SqH H b (bV r.ts))(_:(∀j∈r.top,j<r.ls.length))(_:r.top.length<=24)(_:∀a,J1f CR a x r->J27 x H a->Q .non a)
theorem Jsr:Jt ["self","top","bottom","lengths","turned"] ["self","top","bottom","lengths","turned"] (Je (Jb (top 23) 0)):=fsc
theorem Jpm{CR:Addr}(F:Fun K "__init__" "Rest.__init__" (Jb (top 23) 0) f fd)(T:TxtR mg)(a:J1c K CR)(cL:Ca1 1 J84 (J8y K)):
  FnOk P w K mg base CX0 2 f fd ["self","top","bottom","lengths","turned"] (J4d CR):=by
 show F.ok1 Jsr (fun d A o s H vs Q E hr h=>?_);let{x,b,p1,p2,p3,p4,r,rfl,c,N,M,L,J,z,hn,k}:=h;have n1:=N.ne c;have n2:=M.ne c;have Z:=L.ne c;have Y:=J.ne c;show{_,J0 (J1s (pv 0) (pct J1u T.tuple (pv 1)) rfl)
  (J0 (J1s (pv 0) (pct J1u T.tuple (pv 2)) rfl)
  (J0 (J1s (pv 0) (pct J1u T.tuple (pv 3)) rfl)
  (J0 (J1s (pv 0) (pct J1u T.tuple (pv 4)) rfl)
  (J3 (J1s (pv 0) (pcl cL hr Jg (dZ (pv 0) (dZ (J8 (pv 0)) J1))) rfl))))),?_}
 show{_,rfl,J20 N fun pt H1 I u=>{_,rfl,x,CR,b,[],rfl,I _ _ c,a.cl,a.nT,by decide,?_}};let{H2,e2,n,_,i}:=(Sx.nil c).put I u "top";rw[e2];show{_,rfl,J20 (n.kp.sqH M n2) fun X H3 G y=>{_,rfl,x,CR,b,_,rfl,G _ _ n.at_,a.cl,a.nB,n.few,?_}};let{H4,e4,m,k4,U}:=n.put G y "bottom";rw[e4];show{_,rfl,J20 (m.kp.sqH L Z) fun pl H5 D v=>{_,rfl,x,CR,b,_,rfl,D _ _ m.at_,a.cl,a.nL,m.few,?_}};let{H6,e6,l,O,g}:=m.put D v "lengths";rw[e6];show{_,rfl,J20 (l.kp.sqH J Y) fun W H7 C q=>{_,rfl,x,CR,b,_,rfl,C _ _ l.at_,a.cl,a.nU,l.few,?_}};let{H8,e8,e,p,S}:=l.put C q "turned";rw[e8];have g:=g.kp p;have i:=((i.kp k4).kp O).kp p;show{_,rfl,_,rfl,x,CR,b,_,_,rfl,e.at_,a.cl,a.nT,show _=some (V.ref pt) by kernel_rfl,CR,x,pt,b,pl,_,r.ls,r.top,rfl,e.at_,a.cl,a.nL,show _=some (V.ref pl) by kernel_rfl,g.at_,i.at_,z,hn,fun H9 B=>?_};show{_,rfl,x,CR,b,_,rfl,B _ _ e.at_,a.cl,a.nZ,e.few,?_};let{Hz,ez,R,j}:=e.set B "size" (.int (J4 r.ls r.top));rw[ez];show k _ {b,_,pt,X,pl,W,R.at_,{by kernel_rfl,by kernel_rfl,by kernel_rfl,by kernel_rfl,by kernel_rfl},(i.kp j).at_,(((U.kp O).kp p).kp j).at_,(g.kp j).at_,(S.kp j).at_} R.kp
end
section
variable [En]
abbrev J2k(ls:List Int)(os:List Nat)(ts:List Bool):Rst:={List.range ls.length,os,ls,ts}
inductive Jge(C CR:Addr)(vs:List V)(H:Hp)(Q:VK)(E:XK):Prop
 | mk(x:Addr)(ls:List Int)(os:List Nat)(ts:List Bool)(_:vs=[.ref x])(_:J29 C H x ls os ts)(_:ls.length<=24)(_:∀p a,Same H a->J1f CR a p (J2k ls os ts)->Q (.ref p) a)
theorem Joh:FS1 ["line"] J9o:=fsc
theorem Jl4{CR:Addr}(F:Fn1 J9o)(T:TxtR mg)(c:TxtC K mg C)(X:Mak CX0 2 "Rest" CR ["self","top","bottom","lengths","turned"] [] (J4d CR)):
  Ca1 4 J9o (Jge C CR):=by
 show F.ok Joh (fun f d A o s H vs Q E N h=>?_);let{x,ls,os,ts,rfl,L,O,k}:=h;let{p,n,pl,po,pt,ps,Z,m,{D,M,J,k4,k5,k6},I,W,U,e4,e5}:=L.ex;show{_,J3 (Jd (pmk X N Jg (dZ (pct (J3h rfl) T.list (J2z J7e (by rfl) T.range tX (dZ (pcb Jm T.len (J8 (pv 0))) J1)))
  (dZ (J8 (pv 0)) (dZ (J8 (pv 0)) (dZ (J8 (pv 0)) J1)))))),?_}
 show{_,rfl,x,C,p,n,_,rfl,m,c.cl,c.nL,D,pl,_,rfl,.inr (SqT.of I),_,rfl,fun r q=>{r,_,rfl,J2,(by rw[J2i];lia),fun l P=>?_}};have a:Same H (upd (upd H r (.rng 0 ((iV ls).length:Nat))) l (.lst (((List.range (iV ls).length).map fun(i:Nat)=>(i:Int)).map V.int))):=(J7 q).trans (J7 P);have w:(upd (upd H r (.rng 0 ((iV ls).length:Nat))) l (.lst (((List.range (iV ls).length).map fun(i:Nat)=>(i:Int)).map V.int))) l=some (.lst (nV (List.range ls.length))):=by rw[J2,J2i];rfl
 generalize (upd (upd H r (.rng 0 ((iV ls).length:Nat))) l (.lst (((List.range (iV ls).length).map fun(i:Nat)=>(i:Int)).map V.int)))=H8 at *;show{_,rfl,x,C,p,n,_,rfl,a _ _ m,c.cl,c.nO,M,_,rfl,x,C,p,n,_,rfl,a _ _ m,c.cl,c.nL,D,_,rfl,x,C,p,n,_,rfl,a _ _ m,c.cl,c.nT,J,fun y B G z v=>?_};have g:Same H8 (upd (upd H8 B (.own y)) y (.ins CR B [])):=(J7 z).trans (J7 (by rw[Jf (Ne.symm v)];show G));show{y,B,l,po,pl,pt,J2k ls os ts,rfl,J2,.inl (g _ _ w),.inr (g _ _ (a _ _ W)),.inr (g _ _ (a _ _ I)),.inr (g _ _ (a _ _ U)),fun j S=>zR.mp S,by rw[yC];show O,fun Y R kp=>{rfl,k y Y (fun b u e=>?_) R}};show kp b u (g _ _ (a _ _ e)) (Ja (a _ _ e) G)
end
section
variable [En]
inductive Jev(CR:Addr)(vs:List V)(H:Hp)(Q:VK)(E:XK):Prop
 | mk(x q:Addr)(r:Rst)(row:List Nat)(y:Int)(_:vs=[.ref x,.ref q,.int y])(_:J1f CR H x r)(_:H q=some (.tup (nV row)))(_:Row r.ls row)(_:(∀i,AtR r.ls row y i->Q (.int (row.getD i 0:Nat)) H))(_:0<=y/\y<J4 r.ls row)
theorem Jbl:FS1 ["rest","row","y","end","letter"] Jb4:=fsc
theorem Jpu{CR:Addr}(F:Fn1 Jb4)(n:J1c K CR):
  Ca1 1 Jb4 (Jev CR):=by
 show F.ok Jbl (fun f d A o s H vs Q E S h=>?_);let{x,q,r,row,y,rfl,R,m,b,k,p}:=h;let{I,fs,pt,L,pl,J,D,{P,O,u,N,M},W,U,G,T}:=R.ex;show{_,J0 (J1a (Jk J95 (pv 2) J9 (Jp _)) (J3 J1o) Jo)
  (J0 (pst Jbl 3 J9)
  (J0 (J2h yH rfl (J7v (pv 1)) (pgm Jbl 4)
   (J0 (pst Jbl 3 (Jj J12 (pv 3) (Js Jl (J8 (pv 0)) (pv 4))))
   (J3 (J1a (Jk J95 (pv 2) (pv 3) (Jp _)) (J3 (Jd (pv 4))) Jo))))
  (J3 J1o))),?_}
 show{_,rfl,_,_,rfl,rfl,_,rfl,iteD () ?_};show{_,rfl,q,rfl,{_,SqT.of m},J9h (K:=K) (a:=q) (xs:=nV row)
  (fun i σ g=>∃v,σ=[some (.ref x),some (.ref q),some (.int y),some (.int (Jr r.ls row i)),v]/\g=H/\Jr r.ls row i<=y) {none,rfl,rfl,by rw[J36];lia} (fun i σ g _ C=>by let{_,_,e,_}:=C;show e▸SqT.of m) ?_ ?_}
 .rintro i z σ g w ⟨v,rfl,rfl,hi⟩;let{j,rfl,B}:=Jrr w;show{_,rfl,_,rfl,x,CR,I,fs,_,rfl,D,n.cl,n.nL,u,_,rfl,pl,_,_,_,rfl,rfl,SqT.of G,Jc (J19 (b.lt _ B)),_,_,rfl,rfl,?_};show{_,rfl,_,rfl,_,_,rfl,rfl,_,rfl,?_};have l:=J15 r.ls row i;by_cases c:y<Jr r.ls row i+r.ls.getD (row.getD i 0) 0
  .show J31 c {_,rfl,k i {j,hi,by rw[l];show c}}
  .show iteD c {_,by rw[l];rfl,rfl,by rw[l];lia}
 .rintro σ g ⟨v,rfl,rfl,hi⟩;rw[J81,J6c] at hi;show absurd p.2 ()
inductive Jgl(CR:Addr)(vs:List V)(H:Hp)(Q:VK)(E:XK):Prop
 | mk(x:Addr)(r:Rst)(y:Int)(_:vs=[.ref x,.int y])(_:J1f CR H x r)(_:Row r.ls r.top)(_:(∀i,AtR r.ls r.top y i->Q (.int (r.top.getD i 0:Nat)) H))(_:0<=y/\y<r.size)
theorem Jon:FS1 ["rest","y"] J9y:=fsc
theorem Jlj{CR:Addr}(F:Fn1 J9y)(b:J1c K CR)(m:Ca1 1 Jb4 (Jev CR)):
  Ca1 2 J9y (Jgl CR):=by
 show F.ok Jon (fun f d A o s H vs Q E g h=>?_);let{x,r,y,rfl,R,a,k,c}:=h;let{l,fs,pt,p,pl,n,i,{e,w,v,u,q},j,C,B,z}:=R.ex;show{_,J3 (Jd (pcl m g Jg (dZ (pv 0) (dZ (J8 (pv 0)) (dZ (pv 1) J1))))),?_};show{_,rfl,_,rfl,x,CR,l,fs,_,rfl,i,b.cl,b.nT,e,_,rfl,x,pt,r,r.top,y,rfl,R,j,a,k,c}
inductive Jrh(CR:Addr)(vs:List V)(H:Hp)(Q:VK)(E:XK):Prop
 | mk(x d c:Addr)(r:Rst)(a b:List Nat)(y:Int)(_:vs=[.ref x,.int y,.ref d,.ref c])(_:J1f CR H x r)(_:H d=some (.tup (nV a)))(_:H c=some (.tup (nV b)))(_:Row r.ls a)(_:Row r.ls b)(_:r.ts.length=r.ls.length)(_:r.ls.length<=24)(_:(∀i e,Same H e->AtR r.ls a y i->Q (.int (J4m r.ls r.ts (a.getD i 0) (y-Jr r.ls a i) (eK r.ls b))) e))(_:0<=y/\y<J4 r.ls a)
theorem Jki:FS1 ["rest","y","from_row","to_row","letter","offset"] Jn3:=fsc
theorem Jtq{CR:Addr}(F:Fn1 Jn3)(c:J1c K CR)(O:Ca1 1 Jb4 (Jev CR))(D:Ca1 1 Jb7 Jez)(N:Ca1 1 Jb3 (Jbe K)):
  Ca1 2 Jn3 (Jrh CR):=by
 show F.ok Jki (fun f d A o s H vs Q E g h=>?_);let{x,u,I,r,j,q,y,rfl,R,b,m,e,G,hts,few,k,L}:=h;let{C,fs,pt,T,pl,S,z,{Y,X,v,W,U},e1,e2,B,Z}:=R.ex;show{_,J0 (pst Jki 4 (pcl O g Jg (dZ (pv 0) (dZ (pv 2) (dZ (pv 1) J1)))))
  (J0 (pst Jki 5 (Jj J1j (pv 1) (Js Jl (pcl D g Jg (dZ (J8 (pv 0)) (dZ (pv 2) J1))) (pv 4))))
  (J3 (Jd (pcl N g Jg (dZ (pv 0) (dZ (pv 4) (dZ (pv 5) (dZ (pcl D g Jg (dZ (J8 (pv 0)) (dZ (pv 3) J1))) J1)))))))),?_}
 show{_,rfl,_,rfl,_,rfl,x,u,r,j,y,rfl,R,b,e,fun i hi=>?_,L};have w:=e.lt _ (J2c hi.1);show{_,rfl,_,rfl,x,CR,C,fs,_,rfl,z,c.cl,c.nL,v,_,rfl,pl,u,r.ls,j,rfl,B,.inr b,e.lt,few,fun l H1 a M=>?_};show{_,rfl,l,_,_,_,rfl,rfl,SqT.of M,Jc (J19 (by rw[J35];show w)),_,_,rfl,rfl,?_};show{_,rfl,_,rfl,_,rfl,_,rfl,x,CR,C,fs,_,rfl,a _ _ z,c.cl,c.nL,v,_,rfl,pl,I,r.ls,q,rfl,a _ _ B,.inr (a _ _ m),G.lt,few,fun J P p n=>?_};show{x,J,r.ls,r.ts,eK r.ls q,j.getD i 0,_,rfl,((R.same a).same p).fields c,n,J35 _ _,hts,w,?_};rw[e.first hi.1];show k i P (a.trans p) hi
end
section
variable [En]
inductive Jgf(CR:Addr)(vs:List V)(H:Hp)(Q:VK)(E:XK):Prop
 | mk(x:Addr)(r:Rst)(y:Int)(_:vs=[.ref x,.int y])(_:J1f CR H x r)(_:r.Ok)(_:(∀z a,Same H a->J3a r z y->Q (.int z) a))(_:0<=y/\y<r.size)
theorem Joi:FS1 ["rest","y"] J9q:=fsc
theorem Jl5{CR:Addr}(F:Fn1 J9q)(a:J1c K CR)(q:Ca1 2 Jn3 (Jrh CR)):
  Ca1 3 J9q (Jgf CR):=by
 show F.ok Joi (fun f d A o s H vs Q E m h=>?_);let{x,r,y,rfl,R,ok,k,g}:=h;let{c,fs,pt,e,pl,v,b,{l,j,B,z,w},p,n,D,C}:=R.ex;show{_,J3 (Jd (pcl q m Jg (dZ (pv 0) (dZ (pv 1) (dZ (J8 (pv 0)) (dZ (J8 (pv 0)) J1)))))),?_};show{_,rfl,_,rfl,_,rfl,x,CR,c,fs,_,rfl,b,a.cl,a.nB,j,_,rfl,x,CR,c,fs,_,rfl,b,a.cl,a.nT,l,x,e,pt,r,r.bot,r.top,y,rfl,R,n,p,ok.rowB,ok.row,ok.len,ok.few,fun i u s' hi=>k _ u s' (Jqw ok hi),by rw[ok.sizeB];show g}
end
section
variable [En]
inductive Kd where
 | ho|ev|ov|un|os|us
 deriving DecidableEq
def kd:Stp->Kd
 | .home _=>.ho|.even _ _=>.ev|.over _ _=>.ov|.under _ _=>.un|.overs _ _=>.os|.unders _ _=>.us
def Jqg:Stp->V
 | .even _ b=>.int (b:Nat)|.over _ b=>.int (b:Nat)|.under _ b=>.int (b:Nat)|_=>.non
def stF(s:Stp):List (Str×V):=putF ("times":Str) (.int s.times) (putF ("loser":Str) (Jqg s) (putF ("winner":Str) (.int (s.eD:Nat)) []))
theorem J38(s:Stp):(stF s).lookup ("winner":Str)=some (.int (s.eD:Nat)):=by rfl
theorem Jbd(s:Stp):(stF s).lookup ("loser":Str)=some (Jqg s):=by rfl
theorem Jo3(s:Stp):(stF s).lookup ("times":Str)=some (.int s.times):=by rfl
theorem J8v(s:Stp)(c:¬ m=("times":Str))(b:¬ m=("loser":Str))(a:¬ m=("winner":Str)):(stF s).lookup m=none:=by
 unfold stF;rw[Jby c,Jby b,Jby a];rfl
def J3u(cs:Kd->Addr)(H:Hp)(p:Addr)(s:Stp):Prop:=∃a,H p=some (.ins (cs (kd s)) a (stF s))
theorem J3u.kp(h:J3u cs H p s)(e:Kp H H'):J3u cs H' p s:=by let{a,q}:=h;show{a,e _ _ q (by rfl)}
structure TxtS(K:Frag)(cs:Kd->Addr):Prop where
 cl:∀k,Cls K (cs k)
 nW:∀k,J17 K (cs k) "winner"
 nL:∀k,J17 K (cs k) "loser"
 nT:∀k,J17 K (cs k) "times"
inductive J51(cs:Kd->Addr)(vs:List V)(H:Hp)(Q:VK)(E:XK):Prop
 | mk(x d:Addr)(k:Kd)(a b c:V)(_:vs=[.ref x,a,b,c])(_:H x=some (.ins (cs k) d []))(_:Q .non (upd H x (.ins (cs k) d (putF ("times":Str) c (putF ("loser":Str) b (putF ("winner":Str) a []))))))
theorem Jsq:Jt ["self","winner","loser","times"] ["self","winner","loser","times"] (Je (Jb (top 37) 0)):=fsc
theorem Jpj{f:Addr}{fd:FuncData}{cs:Kd->Addr}(F:Fun K "__init__" "Step.__init__" (Jb (top 37) 0) f fd)(TS:TxtS K cs):
  FnOk P w K mg base CX0 1 f fd ["self","winner","loser","times"] (J51 cs):=by
 show F.ok1 Jsq (fun d A o s H vs Q E j h=>?_);let{x,e,k,a,b,c,rfl,g,q}:=h;show{_,J0 (J1s (pv 0) (pv 1) rfl) (J0 (J1s (pv 0) (pv 2) rfl) (J3 (J1s (pv 0) (pv 3) rfl))),?_};have l1:(putF ("winner":Str) a []).length<=1:=J21 ..;have i:(putF ("loser":Str) b (putF ("winner":Str) a [])).length<=2:=by have:=J21 ("loser":Str) b (putF ("winner":Str) a []);lia
 show{_,rfl,_,rfl,x,cs k,e,[],rfl,g,TS.cl k,TS.nW k,(by change 0<1000;decide),?_};show{_,rfl,_,rfl,x,cs k,e,_,rfl,J2,TS.cl k,TS.nL k,(),?_};rw[Jej];show{_,rfl,_,rfl,x,cs k,e,_,rfl,J2,TS.cl k,TS.nT k,(),?_};rw[Jej];show q
inductive spMk(cs:Kd->Addr)(args:List V->Stp->Prop)(vs:List V)(H:Hp)(Q:VK)(E:XK):Prop
 | mk(x a:Addr)(us:List V)(s:Stp)(_:vs=.ref x::us)(_:args us s)(_:H x=some (.ins (cs (kd s)) a []))(_:Q .non (upd H x (.ins (cs (kd s)) a (stF s))))
def aHo(us:List V)(s:Stp):Prop:=∃a:Nat,us=[.int (a:Nat)]/\s=.home a
def aEv(us:List V)(s:Stp):Prop:=∃a b:Nat,us=[.int (a:Nat),.int (b:Nat)]/\s=.even a b
def aOv(us:List V)(s:Stp):Prop:=∃a b:Nat,us=[.int (a:Nat),.int (b:Nat)]/\s=.over a b
def aUn(us:List V)(s:Stp):Prop:=∃a b:Nat,us=[.int (a:Nat),.int (b:Nat)]/\s=.under a b
def aOs(us:List V)(s:Stp):Prop:=∃(a:Nat) (t:Int),us=[.int (a:Nat),.int t]/\s=.overs a t
def aUs(us:List V)(s:Stp):Prop:=∃(a:Nat) (t:Int),us=[.int (a:Nat),.int t]/\s=.unders a t
theorem Joq:Jt ["self","winner"] ["self","winner"] (Je (Jb (top 38) 0)):=fsc
theorem Jll(F:Fun K "__init__" "Home.__init__" (Jb (top 38) 0) f fd)(g:Bas CX0 1 "Step" "__init__" ["self","winner","loser","times"] (J51 cs)):
  FnOk P w K mg base CX0 2 f fd ["self","winner"] (spMk cs aHo):=by
 show F.ok1 Joq (fun d A o s H vs Q E e h=>?_) (len:=by rintro _ _ _ _ ⟨x,b,us,s,rfl,⟨a,rfl,rfl⟩,_⟩;rfl);let{x,b,us,s,rfl,{a,rfl,rfl},c,q}:=h;show{_,J3 (J18 (pbs g e Jg (dZ (pv 0) (dZ (pv 1) (dZ J7x (dZ J9 J1)))))),?_};show{_,rfl,_,rfl,x,b,.ho,_,_,_,rfl,c,q}
theorem Jou:Jt ["self","winner","loser"] ["self","winner","loser"] (Je (Jb (top 39) 0)):=fsc
theorem Jlp(F:Fun K "__init__" "Even.__init__" (Jb (top 39) 0) f fd)(i:Bas CX0 1 "Step" "__init__" ["self","winner","loser","times"] (J51 cs)):
  FnOk P w K mg base CX0 2 f fd ["self","winner","loser"] (spMk cs aEv):=by
 show F.ok1 Jou (fun d A o s H vs Q E g h=>?_) (len:=by rintro _ _ _ _ ⟨x,c,us,s,rfl,⟨a,b,rfl,rfl⟩,_⟩;rfl);let{x,c,us,s,rfl,{a,b,rfl,rfl},e,q}:=h;show{_,J3 (J18 (pbs i g Jg (dZ (pv 0) (dZ (pv 1) (dZ (pv 2) (dZ J9 J1)))))),?_};show{_,rfl,_,rfl,_,rfl,x,c,.ev,_,_,_,rfl,e,q}
theorem Jok:Jt ["self","winner","loser"] ["self","winner","loser"] (Je (Jb (top 40) 0)):=fsc
theorem Jl8(F:Fun K "__init__" "Over.__init__" (Jb (top 40) 0) f fd)(i:Bas CX0 1 "Step" "__init__" ["self","winner","loser","times"] (J51 cs)):
  FnOk P w K mg base CX0 2 f fd ["self","winner","loser"] (spMk cs aOv):=by
 show F.ok1 Jok (fun d A o s H vs Q E g h=>?_) (len:=by rintro _ _ _ _ ⟨x,c,us,s,rfl,⟨a,b,rfl,rfl⟩,_⟩;rfl);let{x,c,us,s,rfl,{a,b,rfl,rfl},e,q}:=h;show{_,J3 (J18 (pbs i g Jg (dZ (pv 0) (dZ (pv 1) (dZ (pv 2) (dZ J9 J1)))))),?_};show{_,rfl,_,rfl,_,rfl,x,c,.ov,_,_,_,rfl,e,q}
theorem Joe:Jt ["self","winner","loser"] ["self","winner","loser"] (Je (Jb (top 41) 0)):=fsc
theorem Jkz(F:Fun K "__init__" "Under.__init__" (Jb (top 41) 0) f fd)(i:Bas CX0 1 "Step" "__init__" ["self","winner","loser","times"] (J51 cs)):
  FnOk P w K mg base CX0 2 f fd ["self","winner","loser"] (spMk cs aUn):=by
 show F.ok1 Joe (fun d A o s H vs Q E g h=>?_) (len:=by rintro _ _ _ _ ⟨x,c,us,s,rfl,⟨a,b,rfl,rfl⟩,_⟩;rfl);let{x,c,us,s,rfl,{a,b,rfl,rfl},e,q}:=h;show{_,J3 (J18 (pbs i g Jg (dZ (pv 0) (dZ (pv 1) (dZ (pv 2) (dZ J9 J1)))))),?_};show{_,rfl,_,rfl,_,rfl,x,c,.un,_,_,_,rfl,e,q}
theorem Jom:Jt ["self","winner","times"] ["self","winner","times"] (Je (Jb (top 42) 0)):=fsc
theorem Jlc(F:Fun K "__init__" "Overs.__init__" (Jb (top 42) 0) f fd)(i:Bas CX0 1 "Step" "__init__" ["self","winner","loser","times"] (J51 cs)):
  FnOk P w K mg base CX0 2 f fd ["self","winner","times"] (spMk cs aOs):=by
 show F.ok1 Jom (fun d A o s H vs Q E g h=>?_) (len:=by rintro _ _ _ _ ⟨x,c,us,s,rfl,⟨a,b,rfl,rfl⟩,_⟩;rfl);let{x,c,us,s,rfl,{a,b,rfl,rfl},e,q}:=h;show{_,J3 (J18 (pbs i g Jg (dZ (pv 0) (dZ (pv 1) (dZ J7x (dZ (pv 2) J1)))))),?_};show{_,rfl,_,rfl,_,rfl,x,c,.os,_,_,_,rfl,e,q}
theorem Joc:Jt ["self","winner","times"] ["self","winner","times"] (Je (Jb (top 43) 0)):=fsc
theorem Jkx(F:Fun K "__init__" "Unders.__init__" (Jb (top 43) 0) f fd)(i:Bas CX0 1 "Step" "__init__" ["self","winner","loser","times"] (J51 cs)):
  FnOk P w K mg base CX0 2 f fd ["self","winner","times"] (spMk cs aUs):=by
 show F.ok1 Joc (fun d A o s H vs Q E g h=>?_) (len:=by rintro _ _ _ _ ⟨x,c,us,s,rfl,⟨a,b,rfl,rfl⟩,_⟩;rfl);let{x,c,us,s,rfl,{a,b,rfl,rfl},e,q}:=h;show{_,J3 (J18 (pbs i g Jg (dZ (pv 0) (dZ (pv 1) (dZ J7x (dZ (pv 2) J1)))))),?_};show{_,rfl,_,rfl,_,rfl,x,c,.us,_,_,_,rfl,e,q}
def Jnv:Kd->Str
 | .ho=>"home" | .ev=>"even" | .ov=>"over" | .un=>"under" | .os=>"overs" | .us=>"unders"
def ownB:Kd->Bool
 | .ev=>true|.ov=>true|.os=>true|_=>false
inductive J50(k:Kd)(vs:List V)(H:Hp)(Q:VK)(E:XK):Prop
 | mk(x:Addr)(_:vs=[.ref x])(_:Q (.str (Jnv k)) H)
inductive Jet(k:Kd)(vs:List V)(H:Hp)(Q:VK)(E:XK):Prop
 | mk(x:Addr)(_:vs=[.ref x])(_:Q (.bl (ownB k)) H)
theorem Jop:Jt ["self"] ["self"] (Je (Jb (top 38) 1)):=fsc
theorem Jlk(F:Fun K "word" "Home.word" (Jb (top 38) 1) f fd):
  FnOk P w K mg base CX0 1 f fd ["self"] (J50 .ho):=by
 show F.ok1 Jop (fun d A o s H vs Q E a h=>?_);let{x,rfl,q}:=h;show{_,J3 (Jd J2q),q}
theorem Jot:Jt ["self"] ["self"] (Je (Jb (top 39) 1)):=fsc
theorem Jlo(F:Fun K "word" "Even.word" (Jb (top 39) 1) f fd):
  FnOk P w K mg base CX0 1 f fd ["self"] (J50 .ev):=by
 show F.ok1 Jot (fun d A o s H vs Q E a h=>?_);let{x,rfl,q}:=h;show{_,J3 (Jd J2q),q}
theorem Joj:Jt ["self"] ["self"] (Je (Jb (top 40) 1)):=fsc
theorem Jl7(F:Fun K "word" "Over.word" (Jb (top 40) 1) f fd):
  FnOk P w K mg base CX0 1 f fd ["self"] (J50 .ov):=by
 show F.ok1 Joj (fun d A o s H vs Q E a h=>?_);let{x,rfl,q}:=h;show{_,J3 (Jd J2q),q}
theorem Jod:Jt ["self"] ["self"] (Je (Jb (top 41) 1)):=fsc
theorem Jky(F:Fun K "word" "Under.word" (Jb (top 41) 1) f fd):
  FnOk P w K mg base CX0 1 f fd ["self"] (J50 .un):=by
 show F.ok1 Jod (fun d A o s H vs Q E a h=>?_);let{x,rfl,q}:=h;show{_,J3 (Jd J2q),q}
theorem Jol:Jt ["self"] ["self"] (Je (Jb (top 42) 1)):=fsc
theorem Jlb(F:Fun K "word" "Overs.word" (Jb (top 42) 1) f fd):
  FnOk P w K mg base CX0 1 f fd ["self"] (J50 .os):=by
 show F.ok1 Jol (fun d A o s H vs Q E a h=>?_);let{x,rfl,q}:=h;show{_,J3 (Jd J2q),q}
theorem Job:Jt ["self"] ["self"] (Je (Jb (top 43) 1)):=fsc
theorem Jkw(F:Fun K "word" "Unders.word" (Jb (top 43) 1) f fd):
  FnOk P w K mg base CX0 1 f fd ["self"] (J50 .us):=by
 show F.ok1 Job (fun d A o s H vs Q E a h=>?_);let{x,rfl,q}:=h;show{_,J3 (Jd J2q),q}
theorem Jfo(row:List Nat)(a:Nat):(natI row).idxOf (a:Int)=row.idxOf a:=by
 unfold natI
 induction row with
 | nil=>rfl
 | cons x r ih =>
  rw[zL,List.idxOf_cons,List.idxOf_cons,ih];have e:((x:Int)==(a:Int))=(x==a):=by
   rw[vF,xU,xU];show Int.ofNat_inj
  rw[e]
theorem Jfk{row:List Nat}(h:a∈row):(a:Int)∈natI row:=zW.mpr {a,h,rfl}
theorem Jfq(row:List Nat)(n:Nat)(h:n<=row.length):cutV (nV row) (some (n:Int)) none=nV (row.drop n):=by
 unfold cutV;rw[J81,HT.sIx_nat,HT.sIx_none,Nat.min_eq_left h,J63,J63,List.map_drop,tH (by simp)]
inductive J6n(vs:List V)(H:Hp)(Q:VK)(E:XK):Prop
 | mk(q:Addr)(row:List Nat)(a:Nat)(_:vs=[.ref q,.int (a:Nat)])(_:H q=some (.tup (nV row)))(_:a∈row)(_:∀p b,Same H b->b p=some (.tup (nV (J6 row a)))->Q (.ref p) b)
theorem Jkj:FS1 ["row","letter"] J4s:=fsc
theorem Jit(F:Fn1 J4s):
  Ca1 1 J4s J6n:=by
 show F.ok Jkj (fun f d A o s H vs Q E j h=>?_);let{q,row,a,rfl,b,c,k}:=h;show{_,J3 (Jd (Jbr sl_tup (pv 0) (Jf3 (Jj J12 (pe_bmT PySem.F.slot_tuple_index PySem.F.type_tuple_index Jlz (pv 0) (dZ (pv 1) J1)) J9)) Jf4)),?_};have i:=vW.mpr c;have e:(((natI row).idxOf (a:Int):Nat):Int)+1=((row.idxOf a+1:Nat):Int):=by rw[Jfo];lia
 show{_,rfl,_,rfl,{q,_,rfl,b},_,rfl,q,natI row,(a:Int),rfl,rfl,b,Jfk c,_,_,rfl,rfl,_,rfl,q,nV row,rfl,SqT.of b,?_,fun p g=>k p _ (J7 g) ?_}
 .rintro⟨z,_⟩;rw[e,HT.sIx_nat,J81] at z;lia
 .rw[J2];rw[e,Jfq row _ i];rfl
inductive J2x(cs:Kd->Addr)(CR:Addr)(k:Kd)(vs:List V)(H:Hp)(Q:VK)(E:XK):Prop
 | mk(x y:Addr)(s:Stp)(r:Rst)(_:vs=[.ref x,.ref y])(_:kd s=k)(_:J3u cs H x s)(_:J1f CR H y r)(_:s.eD∈r.top)(_:s.eD∈r.bot)(_:∀p a,Same H a->a p=some (.tup (nV (s.eE r)))->Q (.ref p) a)
theorem Jif:Jt ["self","rest"] ["self","rest"] (Je (Jb (top 37) 2)):=fsc
theorem J6b{CR:Addr}(F:Fun K "losers" "Step.losers" (Jb (top 37) 2) f fd)(TS:TxtS K cs)(e:k=.ev\/k=.ov\/k=.un):
  FnOk P w K mg base CX0 2 f fd ["self","rest"] (J2x cs CR k):=by
 show F.ok1 Jif (fun d A o s H vs Q E m h=>?_);let{x,y,s,r,rfl,c,{l,g},R,_,_,q}:=h;obtain⟨b,hb,j⟩:∃b:Nat,Jqg s=.int (b:Nat)/\s.eE r=[b]:=by
  cases s with
  | even a b=>show{b,rfl,rfl}
  | over a b=>show{b,rfl,rfl}
  | under a b=>show{b,rfl,rfl}
  | home a=>subst c;rcases e with q|q|q <;> cases q
  | overs a t=>subst c;rcases e with q|q|q <;> cases q
  | unders a t=>subst c;rcases e with q|q|q <;> cases q
 show{_,J3 (Jd (J1y (dZ (J8 (pv 0)) J1))),?_};show{_,rfl,x,cs (kd s),l,stF s,_,rfl,g,TS.cl _,TS.nL _,Jbd s,(by change 1<=sizeLine;decide),fun p i=>q p _ (J7 i) ?_};rw[J2,hb,j];rfl
theorem Jih:Jt ["self","rest"] ["self","rest"] (Je (Jb (top 38) 2)):=fsc
theorem Jfe{CR:Addr}(F:Fun K "losers" "Home.losers" (Jb (top 38) 2) f fd):
  FnOk P w K mg base CX0 2 f fd ["self","rest"] (J2x cs CR .ho):=by
 show F.ok1 Jih (fun d A o s H vs Q E g h=>?_);let{x,y,s,r,rfl,c,_,R,_,_,q}:=h
 cases s with
 | home a=>show{_,J3 (Jd (J1y J1)),zO _,fun p e=>q p _ (J7 e) J2}
 | even a b=>cases c
 | over a b=>cases c
 | under a b=>cases c
 | overs a t=>cases c
 | unders a t=>cases c
theorem Jig:Jt ["self","rest"] ["self","rest"] (Je (Jb (top 42) 2)):=fsc
theorem Jfc{CR:Addr}(F:Fun K "losers" "Overs.losers" (Jb (top 42) 2) f fd)(TS:TxtS K cs)(b:J1c K CR)(C:Ca1 1 J4s J6n):
  FnOk P w K mg base CX0 2 f fd ["self","rest"] (J2x cs CR .os):=by
 show F.ok1 Jig (fun d A o s H vs Q E j h=>?_);let{x,y,s,r,rfl,i,{z,g},R,N,n,q}:=h;let{B,fr,pt,c,pl,G,u,{M,e,L,J,I},T,v,S,O}:=R.ex;have m:s.eE r=J6 r.bot s.eD:=by
  cases s with
  | overs a t=>rfl
  | _=>cases i
 show{_,J3 (Jd (pcl C j Jg (dZ (J8 (pv 1)) (dZ (J8 (pv 0)) J1)))),?_};show{_,rfl,y,CR,B,fr,_,rfl,u,b.cl,b.nB,e,_,rfl,x,cs (kd s),z,stF s,_,rfl,g,TS.cl _,TS.nW _,J38 s,c,r.bot,s.eD,rfl,v,n,fun p D s' l=>q p D s' ?_};rw[m];show l
theorem Jid:Jt ["self","rest"] ["self","rest"] (Je (Jb (top 43) 2)):=fsc
theorem Jf8{CR:Addr}(F:Fun K "losers" "Unders.losers" (Jb (top 43) 2) f fd)(TS:TxtS K cs)(b:J1c K CR)(B:Ca1 1 J4s J6n):
  FnOk P w K mg base CX0 2 f fd ["self","rest"] (J2x cs CR .us):=by
 show F.ok1 Jid (fun d A o s H vs Q E i h=>?_);let{x,y,s,r,rfl,g,{v,e},R,m,N,q}:=h;let{z,fr,pt,G,pl,D,n,{c,M,L,J,I},u,T,S,O}:=R.ex;have l:s.eE r=J6 r.top s.eD:=by
  cases s with
  | unders a t=>rfl
  | _=>cases g
 show{_,J3 (Jd (pcl B i Jg (dZ (J8 (pv 1)) (dZ (J8 (pv 0)) J1)))),?_};show{_,rfl,y,CR,z,fr,_,rfl,n,b.cl,b.nT,c,_,rfl,x,cs (kd s),v,stF s,_,rfl,e,TS.cl _,TS.nW _,J38 s,pt,r.top,s.eD,rfl,u,m,fun p C s' j=>q p C s' ?_};rw[l];show j
end
section
variable [En]
theorem Jsn:Jt ["self"] ["self"] (Je (Jb (top 37) 3)):=fsc
theorem Jbv(F:Fun K "own_first" "Step.own_first" (Jb (top 37) 3) f fd)(a:ownB k=false):
  FnOk P w K mg base CX0 1 f fd ["self"] (Jet k):=by
 show F.ok1 Jsn (fun d A o s H vs Q E b h=>?_);let{x,rfl,q}:=h;rw[a] at q;show{_,J3 (Jd J4j),q}
theorem Jt4:Jt ["self"] ["self"] (Je (Jb (top 39) 2)):=fsc
theorem Jq3(F:Fun K "own_first" "Even.own_first" (Jb (top 39) 2) f fd):
  FnOk P w K mg base CX0 1 f fd ["self"] (Jet .ev):=by
 show F.ok1 Jt4 (fun d A o s H vs Q E a h=>?_);let{x,rfl,q}:=h;show{_,J3 (Jd J4j),q}
theorem Jst:Jt ["self"] ["self"] (Je (Jb (top 40) 2)):=fsc
theorem Jpo(F:Fun K "own_first" "Over.own_first" (Jb (top 40) 2) f fd):
  FnOk P w K mg base CX0 1 f fd ["self"] (Jet .ov):=by
 show F.ok1 Jst (fun d A o s H vs Q E a h=>?_);let{x,rfl,q}:=h;show{_,J3 (Jd J4j),q}
theorem Jsv:Jt ["self"] ["self"] (Je (Jb (top 42) 3)):=fsc
theorem Jpr(F:Fun K "own_first" "Overs.own_first" (Jb (top 42) 3) f fd):
  FnOk P w K mg base CX0 1 f fd ["self"] (Jet .os):=by
 show F.ok1 Jsv (fun d A o s H vs Q E a h=>?_);let{x,rfl,q}:=h;show{_,J3 (Jd J4j),q}
end
section
variable [En]
theorem J5v(c:H1 x=none)(a:H1 dx=none):J3u cs (upd (upd (upd H1 dx (.own x)) x (.ins (cs (kd s)) dx [])) x (.ins (cs (kd s)) dx (stF s))) x s/\
  Same H1 (upd (upd (upd H1 dx (.own x)) x (.ins (cs (kd s)) dx [])) x (.ins (cs (kd s)) dx (stF s))):=by
 show{{dx,J2},fun b u e=>?_};rw[Jf (Ja e c),Jf (Ja e c),Jf (Ja e a)];show e
theorem Jrm(h:Row ls row)(a:ls.length<=24):row.length<=24:=zM h.len_le a
inductive Jer(CR:Addr)(vs:List V)(H:Hp)(Q:VK)(E:XK):Prop
 | mk(y q:Addr)(r:Rst)(a:Nat)(row:List Nat)(_:vs=[.ref y,.int (a:Nat),.ref q])(_:J1f CR H y r)(_:r.Ok)(_:H q=some (.tup (nV row)))(_:a∈row)(_:a<r.ls.length)(_:(∀j∈row,j<r.ls.length))(_:row.length<=24)(_:1<=J4 r.ls (J6 row a))(_:J4 r.ls (J6 row a)<=10^30)(_:∀b,Same H b->Q (.int (J1r r a row)) b)
theorem Jsl:FS1 ["rest","winner","row"] Jaz:=fsc
theorem Jk5(b:1<=s)(a:s<=10^30):Jui 0 s:=by
 show{(),?_}
 grind
theorem Jph{CR:Addr}(F:Fn1 Jaz)(b:J1c K CR)(N:Ca1 1 J84 (J8y K))(O:Ca1 1 J4s J6n):
  Ca1 2 Jaz (Jer CR):=by
 show F.ok Jsl (fun f d A o s H vs Q E u h=>?_);let{y,q,r,a,row,rfl,R,ok,C,I,e,i,X,L,J,k}:=h;let{m,fr,pt,S,pl,z,l,{W,U,n,B,T},Z,Y,v,M}:=R.ex;show{_,J0 (J1a (J25 (Js Jl (J8 (pv 0)) (pv 1))) (J3 (Jd J9)) Jo)
  (J3 (Jd (Jj J8h (Jj J1j (Js Jl (J8 (pv 0)) (pv 1)) J9) (pcl N u Jg (dZ (pv 0) (dZ (pcl O u Jg (dZ (pv 2) (dZ (pv 1) J1))) J1)))))),?_}
 show{_,rfl,y,CR,m,fr,_,rfl,l,b.cl,b.nU,B,_,rfl,z,_,_,_,rfl,rfl,SqT.of M,Jc (J86 (by rw[ok.len];show e)),_,rfl,?_};unfold J1r at k;by_cases c:r.ts.getD a false=true
 .show J77 c ?_;have:=k H (Same.refl _);rw[if_pos c] at this;show this
 .show J6d c ?_;show{_,rfl,y,CR,m,fr,_,rfl,l,b.cl,b.nL,n,_,rfl,pl,_,_,_,rfl,rfl,SqT.of v,Jc (J19 e),_,_,rfl,rfl,_,rfl,_,rfl,_,rfl,q,row,a,rfl,C,I,fun p H1 g D=>?_};show{CR,y,p,m,pl,fr,r.ls,J6 row a,rfl,g _ _ l,b.cl,b.nL,n,g _ _ v,D,fun j G=>i j (J1b G),?_,fun P w=>{_,_,rfl,rfl,Jk5 L J,?_}}
  .unfold J6;rw[wV];lia
  .have:=k P (g.trans w);rw[if_neg c] at this;show this
inductive Jjw(cs:Kd->Addr)(CR:Addr)(vs:List V)(H:Hp)(Q:VK)(E:XK):Prop
 | mk(y:Addr)(r:Rst)(a b:Nat)(_:vs=[.ref y,.int (a:Nat),.int (b:Nat)])(_:J1f CR H y r)(_:r.Ok)(_:a∈r.bot)(_:1<=J4 r.ls (J6 r.bot a))(_:J4 r.ls (J6 r.bot a)<=10^30)(_:∀p c,Same H c->J3u cs c p (if 0<J1r r a r.bot then .overs a (J1r r a r.bot) else .over a b)->Q (.ref p) c)
theorem Jkf:FS1 ["rest","winner","loser","times"] Jdt:=fsc
theorem Jpp{CR:Addr}(F:Fn1 Jdt)(u:J1c K CR)(M:Ca1 2 Jaz (Jer CR))(T:Mk K (cs .os) fM)(W:FnOk P w K mg base CX0 2 fM fdM ["self","winner","times"] (spMk cs aOs))(O:J33 K fdM ["self","winner","times"] [])(B:mg "Overs"=some (.ref (cs .os)))(S:Mk K (cs .ov) fO)(U:FnOk P w K mg base CX0 2 fO fdO ["self","winner","loser"] (spMk cs aOv))(N:J33 K fdO ["self","winner","loser"] [])(z:mg "Over"=some (.ref (cs .ov))):
  Ca1 4 Jdt (Jjw cs CR):=by
 show F.ok Jkf (fun f d A o s H vs Q E l h=>?_);let{y,r,a,b,rfl,R,ok,q,G,D,k}:=h;let{L,fr,pt,v,pl,X,I,{k1,C,k3,Z,Y},e1,J,e3,e4}:=R.ex;have e:=ok.rowB;have few:=Jrm e ok.few;show{_,J0 (pst Jkf 3 (pcl M l Jg (dZ (pv 0) (dZ (pv 1) (dZ (J8 (pv 0)) J1)))))
  (J3 (Jd (J3f (Jk J6x (pv 3) J9 (Jp _)) (J68 T W l rfl B O .nil Jg (dZ (pv 1) (dZ (pv 3) J1))) (J68 S U l rfl z N .nil Jg (dZ (pv 1) (dZ (pv 2) J1)))))),?_}
 show{_,rfl,_,rfl,_,rfl,y,CR,L,fr,_,rfl,I,u.cl,u.nB,C,y,v,r,a,r.bot,rfl,R,ok,J,q,e.lt a q,e.lt,few,G,D,fun H1 p=>?_};show{_,rfl,_,_,rfl,rfl,_,rfl,?_};by_cases c:0<J1r r a r.bot
 .show J31 c {_,rfl,_,rfl,fun x n j g m=>?_};let{st,i}:=J5v (cs:=cs) (s:=.overs a (J1r r a r.bot)) j g;show{x,n,_,.overs a (J1r r a r.bot),rfl,{a,_,rfl,rfl},J2,rfl,k x _ (p.trans i) ?_};rw[if_pos c];show st
 .show iteD c {_,rfl,_,rfl,fun x n j g m=>?_};let{st,i}:=J5v (cs:=cs) (s:=.over a b) j g;show{x,n,_,.over a b,rfl,{a,b,rfl,rfl},J2,rfl,k x _ (p.trans i) ?_};rw[if_neg c];show st
inductive Jgb(cs:Kd->Addr)(CR:Addr)(vs:List V)(H:Hp)(Q:VK)(E:XK):Prop
 | mk(y:Addr)(r:Rst)(a b:Nat)(_:vs=[.ref y,.int (a:Nat),.int (b:Nat)])(_:J1f CR H y r)(_:r.Ok)(_:a∈r.top)(_:1<=J4 r.ls (J6 r.top a))(_:J4 r.ls (J6 r.top a)<=10^30)(_:∀p c,Same H c->J3u cs c p (if 0<J1r r a r.top then .unders a (J1r r a r.top) else .under a b)->Q (.ref p) c)
theorem Jgs:FS1 ["rest","winner","loser","times"] J9l:=fsc
theorem Jl0{CR:Addr}(F:Fn1 J9l)(u:J1c K CR)(L:Ca1 2 Jaz (Jer CR))(S:Mk K (cs .us) fM)(U:FnOk P w K mg base CX0 2 fM fdM ["self","winner","times"] (spMk cs aUs))(N:J33 K fdM ["self","winner","times"] [])(z:mg "Unders"=some (.ref (cs .us)))(O:Mk K (cs .un) fO)(T:FnOk P w K mg base CX0 2 fO fdO ["self","winner","loser"] (spMk cs aUn))(M:J33 K fdO ["self","winner","loser"] [])(v:mg "Under"=some (.ref (cs .un))):
  Ca1 4 J9l (Jgb cs CR):=by
 show F.ok Jgs (fun f d A o s H vs Q E l h=>?_);let{y,r,a,b,rfl,R,ok,q,D,C,k}:=h;let{J,fr,pt,X,pl,W,G,{B,k2,k3,Z,Y},I,e2,e3,e4}:=R.ex;have e:=ok.row;have few:=Jrm e ok.few;show{_,J0 (pst Jgs 3 (pcl L l Jg (dZ (pv 0) (dZ (pv 1) (dZ (J8 (pv 0)) J1)))))
  (J3 (Jd (J3f (Jk J6x (pv 3) J9 (Jp _)) (J68 S U l rfl z N .nil Jg (dZ (pv 1) (dZ (pv 3) J1))) (J68 O T l rfl v M .nil Jg (dZ (pv 1) (dZ (pv 2) J1)))))),?_}
 show{_,rfl,_,rfl,_,rfl,y,CR,J,fr,_,rfl,G,u.cl,u.nT,B,y,pt,r,a,r.top,rfl,R,ok,I,q,e.lt a q,e.lt,few,D,C,fun H1 p=>?_};show{_,rfl,_,_,rfl,rfl,_,rfl,?_};by_cases c:0<J1r r a r.top
 .show J31 c {_,rfl,_,rfl,fun x n j g m=>?_};let{st,i}:=J5v (cs:=cs) (s:=.unders a (J1r r a r.top)) j g;show{x,n,_,.unders a (J1r r a r.top),rfl,{a,_,rfl,rfl},J2,rfl,k x _ (p.trans i) ?_};rw[if_pos c];show st
 .show iteD c {_,rfl,_,rfl,fun x n j g m=>?_};let{st,i}:=J5v (cs:=cs) (s:=.under a b) j g;show{x,n,_,.under a b,rfl,{a,b,rfl,rfl},J2,rfl,k x _ (p.trans i) ?_};rw[if_neg c];show st
theorem Jec(h:row≠[]):atI (nV row) (-1)=some (V.int (row.getD (row.length-1) 0:Nat)):=by
 have a:=sM.mpr h;unfold atI;have e:ixN (nV row).length (-1)=some (row.length-1):=by
  unfold ixN;rw[J81,if_neg (),if_pos ()]
  grind
 rw[e];change(nV row)[row.length-1]?=_;rw[nV_at ()]
inductive Jre(cs:Kd->Addr)(CR:Addr)(vs:List V)(H:Hp)(Q:VK)(E:XK):Prop
 | mk(y:Addr)(r:Rst)(_:vs=[.ref y])(_:J1f CR H y r)(_:r.Ok)(_:r.top≠[])(_:r.size<=10^30)(_:∀p a,Same H a->J3u cs a p (eF r)->Q (.ref p) a)
theorem Jkg:FS1 ["rest","last_top","last_bottom"] Jn1:=fsc
theorem Jtn{fE CR:Addr}(F:Fn1 Jn1)(b:J1c K CR)(MH:Mk K (cs .ho) fH)(GH:FnOk P w K mg base CX0 2 fH fdH ["self","winner"] (spMk cs aHo))(bH:J33 K fdH ["self","winner"] [])(Z:mg "Home"=some (.ref (cs .ho)))(ME:Mk K (cs .ev) fE)(GE:FnOk P w K mg base CX0 2 fE fdE ["self","winner","loser"] (spMk cs aEv))(bE:J33 K fdE ["self","winner","loser"] [])(mE:mg "Even"=some (.ref (cs .ev)))(cO:Ca1 4 Jdt (Jjw cs CR))(cU:Ca1 4 J9l (Jgb cs CR)):
  Ca1 5 Jn1 (Jre cs CR):=by
 show F.ok Jkg (fun f d A o s H vs Q E O h=>?_);let{y,r,rfl,R,ok,ne,hz,k}:=h;have v:Room 3 _:=O.mono (by decide);let{p,fr,pt,Y,pl,pu,m,{k1,k2,B,k4,k5},e1,e2,C,e4}:=R.ex;have mT:=ok.mT ne;have mB:=ok.mB ne;have M:r.bot≠[]:=fun e=>by
  have:=ok.lens;rw[e] at this;show ne (sI.mp this.symm)
 have U:=ok.row.lt _ mT;have W:=ok.row.lt _ mB;show{_,J0 (pst Jkg 1 (Js Jl (J8 (pv 0)) (Jd9 J7t J9)))
  (J0 (pst Jkg 2 (Js Jl (J8 (pv 0)) (Jd9 J7t J9)))
  (J0 (J1a (Jk J44 (pv 1) (pv 2) (Jp _)) (J3 (Jd (J68 MH GH v rfl Z bH .nil Jg (dZ (pv 1) J1)))) Jo)
  (J0 (J1a (Jk J44 (Js Jl (J8 (pv 0)) (pv 1)) (Js Jl (J8 (pv 0)) (pv 2)) (Jp _)) (J3 (Jd (J68 ME GE v rfl mE bE .nil Jg (dZ (pv 1) (dZ (pv 2) J1))))) Jo)
  (J0 (J1a (Jk J6x (Js Jl (J8 (pv 0)) (pv 1)) (Js Jl (J8 (pv 0)) (pv 2)) (Jp _)) (J3 (Jd (pcl cO O Jg (dZ (pv 0) (dZ (pv 1) (dZ (pv 2) J1)))))) Jo)
  (J3 (Jd (pcl cU O Jg (dZ (pv 0) (dZ (pv 2) (dZ (pv 1) J1)))))))))),?_}
 show{_,rfl,y,CR,p,fr,_,rfl,m,b.cl,b.nT,k1,_,rfl,pt,_,_,_,rfl,rfl,SqT.of e1,Jec ne,?_};show{_,rfl,y,CR,p,fr,_,rfl,m,b.cl,b.nB,k2,_,rfl,Y,_,_,_,rfl,rfl,SqT.of e2,Jec M,?_};show{_,rfl,_,rfl,rfl,_,rfl,?_};unfold eF at k;have inj:∀{i j:Nat},V.int (i:Nat)=V.int (j:Nat)->i=j:=fun q=>by have:=V.int.inj q;lia
 by_cases u:eI r=eJ r
 .show J31 (zP (fun n:Nat=>V.int (n:Int)) u) {_,rfl,fun x T N l S=>?_};let{st,I}:=J5v (cs:=cs) (s:=.home (eI r)) N l;show{x,T,_,.home (eI r),rfl,{_,rfl,rfl},J2,rfl,k x _ I ?_};rw[if_pos u];show st
 show iteD (fun q=>u (inj q)) ?_;rw[if_neg u] at k;show{_,rfl,y,CR,p,fr,_,rfl,m,b.cl,b.nL,B,_,rfl,pl,_,_,_,rfl,rfl,SqT.of C,Jc (J19 U),_,rfl,y,CR,p,fr,_,rfl,m,b.cl,b.nL,B,_,rfl,pl,_,_,_,rfl,rfl,SqT.of C,Jc (J19 W),rfl,_,rfl,?_};by_cases G:r.ls.getD (eI r) 0=r.ls.getD (eJ r) 0
 .show J31 (zP V.int G) {_,rfl,_,rfl,fun x T N l S=>?_};let{st,I}:=J5v (cs:=cs) (s:=.even (eI r) (eJ r)) N l;show{x,T,_,.even (eI r) (eJ r),rfl,{_,_,rfl,rfl},J2,rfl,k x _ I ?_};rw[if_pos G];show st
 show iteD (J4b G) ?_;rw[if_neg G] at k;show{_,rfl,y,CR,p,fr,_,rfl,m,b.cl,b.nL,B,_,rfl,pl,_,_,_,rfl,rfl,SqT.of C,Jc (J19 U),_,rfl,y,CR,p,fr,_,rfl,m,b.cl,b.nL,B,_,rfl,pl,_,_,_,rfl,rfl,SqT.of C,Jc (J19 W),_,_,rfl,rfl,_,rfl,?_};have c:∀(row:List Nat) (a:Nat),a∈row->row.Perm r.top->row.getD (row.length-1) 0≠a->1<=J4 r.ls (J6 row a)/\J4 r.ls (J6 row a)<=10^30:=fun row a ha X hl=>by
  have g:∀j∈row,1<=r.ls.getD j 0:=fun j z=>ok.row.pos j (X.mem_iff.mp z);show{J74 (fun j z=>g j (J1b z)) (Jeb ha hl),?_};have h1:J4 r.ls row=r.size:=J2s X;have h2:J4 r.ls row=J4 r.ls (row.take (row.idxOf a+1))+J4 r.ls (J6 row a):=by
   rw[<- Jh];change _=J4 r.ls (row.take (row.idxOf a+1)++row.drop (row.idxOf a+1));rw[tY]
  have h3:=J16 (ls:=r.ls) (os:=row.take (row.idxOf a+1)) fun j z=>by have:=g j (tT z);lia
  lia
 by_cases D:r.ls.getD (eJ r) 0<r.ls.getD (eI r) 0
 .rw[if_pos D] at k;let{L,J}:=c r.bot (eI r) (ok.perm.mem_iff.mpr mT) ok.perm (fun e=>u e.symm);show J31 D {_,rfl,_,rfl,_,rfl,y,r,eI r,eJ r,rfl,R,ok,ok.perm.mem_iff.mpr mT,L,J,k}
 .rw[if_neg D] at k;let{L,J}:=c r.top (eJ r) mB (xJ _) u;show iteD D {_,rfl,_,rfl,_,rfl,y,r,eJ r,eI r,rfl,R,ok,mB,L,J,k}
end
section
variable [En]
inductive J6m(vs:List V)(H:Hp)(Q:VK)(E:XK):Prop
 | mk(q:Addr)(row:List Nat)(x:Nat)(_:vs=[.ref q,.int (x:Nat)])(_:SqH H q (nV row))(_:row.length<=24)(_:∀p a,Same H a->a p=some (.lst (nV (eG row x)))->Q (.ref p) a)
theorem Jkd:FS1 ["row","letter"] J4r:=fsc
theorem notv{j x:Nat}:(!decide (V.int (j:Int)=V.int (x:Int)))=decide (j≠x):=by
 grind
theorem Jik(F : Fn1 J4r):
    Ca1 1 J4r J6m:= by
  show F.ok Jkd (fun f d A o s H vs Q E p h => ?_);let{q, row, x, rfl, a, r, k}:= h;rcases a with a|a
  · show{_, J3 (Jd (Jbs (caps := ["letter"]) (js := [1]) rfl (J1i (pv 0)) rfl (fun C e s H => J56 (Jk J6w (pv 0) (pv 1) (Jp _))) (fun C e s H => pv 0)
     )), ?_}
    show{_, rfl, q, rfl, {_, SqL.of a}, fun d hd => lc_lst (fun(j : Nat) => V.int (j : Int)) row (fun j => decide (j ≠ x)) (fun(j : Nat) => V.int (j : Int)) (by rw[<- J63]; show SqL.of a) () hd
      (fun j _ c m _ k => {_, rfl, _, rfl, rfl, _, rfl, by rw[notv]; show k c (Same.refl _)}) (fun j l c n _ i k => {_, rfl, k _ (Same.refl _)}) (fun g s' b => k d g s' (by rw[b, J63]; rfl))}
  · show{_, J3 (Jd (Jbs (caps := ["letter"]) (js := [1]) rfl (J7v (pv 0)) rfl (fun C e s H => J56 (Jk J6w (pv 0) (pv 1) (Jp _))) (fun C e s H => pv 0)
     )), ?_}
    show{_, rfl, q, rfl, {_, SqT.of a}, fun d hd => Jrw (fun(j : Nat) => V.int (j : Int)) row (fun j => decide (j ≠ x)) (fun(j : Nat) => V.int (j : Int)) (by rw[<- J63]; show SqT.of a) () hd
      (fun j _ c m _ k => {_, rfl, _, rfl, rfl, _, rfl, by rw[notv]; show k c (Same.refl _)}) (fun j l c n _ i k => {_, rfl, k _ (Same.refl _)}) (fun g s' b => k d g s' (by rw[b, J63]; rfl))}
theorem Jc8(row:List Nat)(n:Nat)(h:n<=row.length):cutV (nV row) none (some (n:Int))=nV (row.take n):=by
 unfold cutV;rw[J81,HT.sIx_nat,HT.sIx_none,Nat.min_eq_left h,J63,J63,List.map_take,List.drop_zero,Nat.sub_zero]
inductive Jo5(vs:List V)(H:Hp)(Q:VK)(E:XK):Prop
 | mk(q:Addr)(row:List Nat)(w l:Nat)(b:Bool)(_:vs=[.ref q,.int (w:Nat),.int (l:Nat),.bl b])(_:SqH H q (nV row))(_:row.length<=24)(_:w∈row)(_:w≠l)(_:∀p a,Same H a->a p=some (.lst (nV (putR row w l b)))->Q (.ref p) a)
theorem Jss:FS1 ["row","winner","loser","ahead","others","at"] fPut:=fsc
theorem Jrs(xs ys:List Nat):nV (xs++ys)=nV xs++nV ys:=by rw[J63,J63,J63,yE]
theorem ok_put(F:Fn1 fPut)(N:Ca1 1 J4r J6m):
  Ca1 2 fPut Jo5:=by
 show F.ok Jss (fun f d A o s H vs Q E G h=>?_);let{q,row,j,lo,m,rfl,I,C,hw,v,k}:=h;show{_,J0 (pst Jss 4 (pcl N G Jg (dZ (pv 0) (dZ (pv 2) J1))))
  (J0 (J4w (pst Jss 5 (J3f (J25 (pv 3)) (J3w yI sL type_list_index J99 (pv 4) (dZ (pv 1) J1)) (Jj J12 (J3w yI sL type_list_index J99 (pv 4) (dZ (pv 1) J1)) J9))))
  (J3 (Jd (Jj Jh3 (Jj Jh3 (Jbr Jk6 (pv 4) Jf4 (Jf3 (pv 5))) (J1z (dZ (pv 2) J1))) (Jbr Jk6 (pv 4) (Jf3 (pv 5)) Jf4))))),?_}
 show{_,rfl,_,rfl,q,row,lo,rfl,I,C,fun o O D l=>?_};have w:=J13.mpr {hw,v};have J:(eG row lo).length<=24:=zM (wG _ _) C;have B:∀p r,Same H r->r p=some (.lst (nV ((eG row lo).take (if m=true then (eG row lo).idxOf j else (eG row lo).idxOf j+1)++[lo]++(eG row lo).drop (if m=true then (eG row lo).idxOf j else (eG row lo).idxOf j+1))))->Q (.ref p) r:=k;generalize eG row lo=os at *;have hi:os.idxOf j<os.length:=vW.mpr w;have hb:∃n:Nat,n<=os.length/\n=(if m=true then os.idxOf j else os.idxOf j+1):=by
  show{_,?_,rfl};split <;> lia
 let{n,i,g}:=hb;rw[<- g] at B;show{fun σ' r=>σ'=[some (.ref q),some (.int (j:Nat)),some (.int (lo:Nat)),some (.bl m),some (.ref o),some (.int (n:Nat))]/\O=r,{_,rfl,_,rfl,?_},?_}
 .by_cases c:m=true
  .rw[if_pos c] at g;show J77 c {_,rfl,.inl {rfl,_,SqL.of l},_,rfl,o,natI os,(j:Int),rfl,rfl,SqL.of l,Jfk w,?_,rfl};rw[g,<- Jfo];rfl
  .rw[if_neg c] at g;show J6d c {_,rfl,.inl {rfl,_,SqL.of l},_,rfl,o,natI os,(j:Int),rfl,rfl,SqL.of l,Jfk w,_,_,rfl,rfl,?_,rfl};rw[g,<- Jfo,uZ];rfl
 rintro σ _ ⟨rfl,rfl⟩;show{_,rfl,_,rfl,_,rfl,o,_,rfl,SqL.of l,fun a M=>?_};show{_,rfl,(by change 1<=sizeLine;decide),fun b hb=>?_};have sa:=J7 (o:=.lst (cutV (nV os) none (some (n:Int)))) M;have u:=J7 (o:=.lst [V.int (lo:Nat)]) hb;show{a,b,_,_,rfl,rfl,u _ _ J2,J2,?_,fun c L=>?_}
 .rw[Jc8 _ _ i,J81,xQ];have:=Jq (n:=min n os.length+1) ();change min n os.length+1<=sizeLine;lia
 have z:=J7 (o:=.lst (cutV (nV os) none (some (n:Int))++[V.int (lo:Nat)])) L;show{_,rfl,_,rfl,_,rfl,o,_,rfl,SqL.of (z _ _ (u _ _ (sa _ _ l))),fun d hd=>?_};have y:=J7 (o:=.lst (cutV (nV os) (some (n:Int)) none)) hd;show{c,d,_,_,rfl,rfl,y _ _ J2,J2,?_,fun e K=>B e _ (D.trans (sa.trans (u.trans (z.trans (y.trans (J7 K)))))) ?_}
 .rw[Jc8 _ _ i,Jfq _ _ i,zN,J81,J81,xQ,wV];have:=Jq (n:=min n os.length+1+(os.length-n)) ();change min n os.length+1+(os.length-n)<=sizeLine;lia
 .rw[J2,Jc8 _ _ i,Jfq _ _ i,Jrs,Jrs];rfl
inductive J52(vs:List V)(H:Hp)(Q:VK)(E:XK):Prop
 | mk(q:Addr)(xs:List V)(j:Nat)(v:V)(_:vs=[.ref q,.int (j:Nat),v])(_:SqH H q xs)(_:j<xs.length)(_:∀p a,Same H a->a p=some (.lst (xs.set j v))->Q (.ref p) a)
theorem Jd0:FS1 ["row","letter","entry","copied"] J3s:=fsc
theorem Jis(F:Fn1 J3s)(T:TxtR mg):
  Ca1 1 J3s J52:=by
 show F.ok Jd0 (fun f d A o s H vs Q E g h=>?_);let{q,xs,j,v,rfl,a,b,k}:=h;show{_,J0 (pst Jd0 3 (J2z J5j (by rfl) T.list boot_list (dZ (pv 0) J1)))
  (J0 (Jao (pv 2) (Jd8 (pv 3) (pv 1) J6p)) (J3 (Jd (pv 3)))),?_}
 show{_,rfl,q,xs,rfl,a.sq,fun c e=>?_};show{_,rfl,_,rfl,_,rfl,c,xs,_,j,rfl,rfl,J2,Jfm b,?_};rw[Jej];show{_,rfl,k c _ (J7 e) J2}
theorem Jnq(ts:List Bool)(j:Nat)(b:Bool):(bV ts).set j (V.bl b)=bV (ts.set j b):=by
 simp_all
inductive J8x(CR:Addr)(vs:List V)(H:Hp)(Q:VK)(E:XK):Prop
 | mk(y:Addr)(r:Rst)(a:Nat)(less:Int)(_:vs=[.ref y,.int (a:Nat),.int less])(_:J1f CR H y r)(_:a<r.ls.length)(_:∀p b,Same H b->b p=some (.lst (iV (r.ls.set a (r.ls.getD a 0-less))))->Q (.ref p) b)
theorem Jso:FS1 ["rest","winner","less"] J83:=fsc
theorem Jpk{CR:Addr}(F:Fn1 J83)(b:J1c K CR)(n:Ca1 1 J3s J52):
  Ca1 2 J83 (J8x CR):=by
 show F.ok Jso (fun f d A o s H vs Q E j h=>?_);let{y,r,a,less,rfl,R,m,k}:=h;let{i,fr,pt,v,pl,u,e,{C,B,c,z,w},I,G,g,D}:=R.ex;show{_,J3 (Jd (pcl n j Jg (dZ (J8 (pv 0)) (dZ (pv 1) (dZ (Jj J1j (Js Jl (J8 (pv 0)) (pv 1)) (pv 2)) J1))))),?_};show{_,rfl,y,CR,i,fr,_,rfl,e,b.cl,b.nL,c,_,rfl,_,rfl,y,CR,i,fr,_,rfl,e,b.cl,b.nL,c,_,rfl,pl,_,_,_,rfl,rfl,SqT.of g,Jc (J19 m),_,rfl,_,_,rfl,rfl,pl,iV r.ls,a,_,rfl,.inr g,by simp_all,fun p q s' l=>k p q s' ?_};rw[l,Jhk]
inductive J8b(CR:Addr)(vs:List V)(H:Hp)(Q:VK)(E:XK):Prop
 | mk(y:Addr)(r:Rst)(a b:Nat)(_:vs=[.ref y,.int (a:Nat),.int (b:Nat)])(_:J1f CR H y r)(_:a<r.ts.length)(_:b<r.ts.length)(_:∀p c,Same H c->c p=some (.lst (bV (J2g r a b)))->Q (.ref p) c)
theorem Jof:FS1 ["rest","winner","loser"] J6e:=fsc
theorem Jl1{CR:Addr}(F:Fn1 J6e)(c:J1c K CR)(v:Ca1 1 J3s J52):
  Ca1 2 J6e (J8b CR):=by
 show F.ok Jof (fun f d A o s H vs Q E n h=>?_);let{y,r,a,b,rfl,R,u,hb,k}:=h;let{m,fr,pt,z,pl,g,j,{G,D,C,i,B},L,J,I,l}:=R.ex;show{_,J3 (Jd (pcl v n Jg (dZ (J8 (pv 0)) (dZ (pv 2) (dZ (J69 J6w (Js Jl (J8 (pv 0)) (pv 1)) (Js Jl (J8 (pv 0)) (pv 2)) (Jp _)) J1))))),?_};show{_,rfl,y,CR,m,fr,_,rfl,j,c.cl,c.nU,i,_,rfl,_,rfl,y,CR,m,fr,_,rfl,j,c.cl,c.nU,i,_,rfl,g,_,_,_,rfl,rfl,SqT.of l,Jc (J86 u),_,rfl,y,CR,m,fr,_,rfl,j,c.cl,c.nU,i,_,rfl,g,_,_,_,rfl,rfl,SqT.of l,Jc (J86 hb),rfl,g,bV r.ts,b,_,rfl,.inr l,by simp_all,fun p w s' q=>k p w s' ?_};rw[q];unfold J2g;rw[<- Jnq];have e:(!decide (V.bl (r.ts.getD a false)=V.bl (r.ts.getD b false)))=(r.ts.getD a false != r.ts.getD b false):=by
  cases r.ts.getD a false <;> cases r.ts.getD b false <;> rfl
 rw[e]
structure Fit(s:Stp)(r:Rst):Prop where
 ok:r.Ok
 left:(s.eB r).Ok
 win:s.eD∈r.top
 lose:∀b:Nat,Jqg s=.int (b:Nat)->b∈r.top/\s.eD≠b
 few:s.times.natAbs<2^4000
 small:r.size<=10^30
inductive J3d(cs:Kd->Addr)(CR:Addr)(k:Kd)(vs:List V)(H:Hp)(Q:VK)(E:XK):Prop
 | mk(x y:Addr)(s:Stp)(r:Rst)(_:vs=[.ref x,.ref y])(_:kd s=k)(_:J3u cs H x s)(_:J1f CR H y r)(_:Fit s r)(_:∀p a,Same H a->J1f CR a p (s.eB r)->Q (.ref p) a)
theorem J42{CR:Addr}{Q:VK}(ok:r.Ok)(l:SqH H p1 (nV r.top))(j:SqH H p2 (nV r.bot))(i:SqH H p3 (iV r.ls))(h:SqH H p4 (bV r.ts))(k:∀p c,Same H c->J1f CR c p r->Q (.ref p) c):
  ∀x a,H x=none->H a=none->a≠x->J4d CR (.ref x::([.ref p1,.ref p2,.ref p3,.ref p4]++[])) (upd (upd H a (.own x)) x (.ins CR a [])) (fun v m=>v=.non/\Q (.ref x) m) E0:=fun x a g f d=>by
 have s0:Same H (upd (upd H a (.own x)) x (.ins CR a [])):=(J7 f).trans (J7 (by rw[Jf (Ne.symm d)];show g));show{x,a,p1,p2,p3,p4,r,rfl,J2,l.same s0,j.same s0,i.same s0,h.same s0,ok.row.lt,zM ok.row.len_le ok.few,fun c R kp=>{rfl,k x c (fun b u e=>?_) R}};show kp b u (s0 _ _ e) (Ja e g)
theorem J7l:Jt ["self","rest","top","bottom"] ["self","rest"] (Je (Jb (top 38) 3)):=fsc
theorem Jff{CR:Addr}(F:Fun K "behind" "Home.behind" (Jb (top 38) 3) f fd)(TS:TxtS K cs)(e:J1c K CR)(O:Ca1 1 J4r J6m)(S:Ca1 1 J3s J52)(cI:Mak CX0 2 "Rest" CR ["self","top","bottom","lengths","turned"] [] (J4d CR)):
  FnOk P w K mg base CX0 4 f fd ["self","rest"] (J3d cs CR .ho):=by
 show F.ok1 J7l (fun d A o s H vs Q E m h=>?_);let{x,y,s,r,rfl,l,{C,z},R,i,k}:=h;have ok:=i.ok;have left:=i.left;have win:=i.win;have M:=ok.perm.mem_iff.mpr win;have few:=zM ok.row.len_le ok.few;have n:=zM ok.rowB.len_le ok.few;have N:=ok.row.lt _ win;let{D,fr,pt,U,pl,T,B,{Z,Y,X,W,k5},e1,e2,e3,e4}:=R.ex
 cases s with
 | home a =>
  have lt:a<r.ts.length:=by rw[ok.len];show N
  show{_,J0 (pst J7l 2 (pcl O m Jg (dZ (J8 (pv 1)) (dZ (J8 (pv 0)) J1))))
   (J0 (pst J7l 3 (pcl O m Jg (dZ (J8 (pv 1)) (dZ (J8 (pv 0)) J1))))
   (J3 (Jd (pmk cI m Jg (dZ (pv 2) (dZ (pv 3) (dZ (pcl S m Jg (dZ (J8 (pv 1)) (dZ (J8 (pv 0)) (dZ J9 J1)))) (dZ (pcl S m Jg (dZ (J8 (pv 1)) (dZ (J8 (pv 0)) (dZ J4j J1)))) J1)))))))),?_}
  show{_,rfl,y,CR,D,fr,_,rfl,B,e.cl,e.nT,Z,_,rfl,x,cs _,C,stF _,_,rfl,z,TS.cl _,TS.nW _,J38 _,pt,r.top,a,rfl,.inr e1,few,fun t1 H1 v I=>?_};show{_,rfl,y,CR,D,fr,_,rfl,v _ _ B,e.cl,e.nB,Y,_,rfl,x,cs _,C,stF _,_,rfl,v _ _ z,TS.cl _,TS.nW _,J38 _,U,r.bot,a,rfl,.inr (v _ _ e2),n,fun b1 H2 j L=>?_};have u:=v.trans j;show{_,rfl,_,rfl,_,rfl,y,CR,D,fr,_,rfl,u _ _ B,e.cl,e.nL,X,_,rfl,x,cs _,C,stF _,_,rfl,u _ _ z,TS.cl _,TS.nW _,J38 _,pl,iV r.ls,a,.int 0,rfl,.inr (u _ _ e3),by rw[J2i];show N,fun l1 H3 g J=>?_};have q:=u.trans g;show{_,rfl,y,CR,D,fr,_,rfl,q _ _ B,e.cl,e.nU,W,_,rfl,x,cs _,C,stF _,_,rfl,q _ _ z,TS.cl _,TS.nW _,J38 _,T,bV r.ts,a,.bl false,rfl,.inr (q _ _ e4),by rw[zB];show lt,fun u1 H4 c G=>?_};show J42 left (.inl (c _ _ (g _ _ (j _ _ I)))) (.inl (c _ _ (g _ _ L))) (.inl (by rw[c _ _ J,Jhk];rfl)) (.inl (by rw[G,Jnq];rfl)) fun p H' s' R'=>k p H' (q.trans (c.trans s')) R'
 | even a b=>cases l
 | over a b=>cases l
 | under a b=>cases l
 | overs a t=>cases l
 | unders a t=>cases l
theorem J5r:Jt ["self","rest","top","bottom","turned"] ["self","rest"] (Je (Jb (top 39) 3)):=fsc
theorem Jfg{CR:Addr}(F:Fun K "behind" "Even.behind" (Jb (top 39) 3) f fd)(TS:TxtS K cs)(q:J1c K CR)(Z:Ca1 1 J4r J6m)(cP:Ca1 2 fPut Jo5)(cC:Ca1 1 J3s J52)(cT:Ca1 2 J6e (J8b CR))(cI:Mak CX0 2 "Rest" CR ["self","top","bottom","lengths","turned"] [] (J4d CR)):
  FnOk P w K mg base CX0 4 f fd ["self","rest"] (J3d cs CR .ev):=by
 show F.ok1 J5r (fun d A o s H vs Q E n h=>?_);let{x,y,s,r,rfl,C,{j,g},R,e,k}:=h;have ok:=e.ok;have left:=e.left;have win:=e.win;have u:=ok.perm.mem_iff.mpr win;have few:=zM ok.row.len_le ok.few;have i:=zM ok.rowB.len_le ok.few;have Y:=ok.row.lt _ win;let{U,fr,pt,pb,pl,pu,T,{k1,k2,k3,k4,k5},e1,e2,e3,e4}:=R.ex
 cases s with
 | even a b =>
  let{lose,wl}:=e.lose b rfl;have lt:a<r.ts.length:=by rw[ok.len];show Y
  have lb:b<r.ts.length:=by rw[ok.len];show ok.row.lt _ lose
  show{_,J0 (pst J5r 2 (pcl Z n Jg (dZ (J8 (pv 1)) (dZ (J8 (pv 0)) J1))))
   (J0 (pst J5r 3 (pcl Z n Jg (dZ (pcl cP n Jg (dZ (J8 (pv 1)) (dZ (J8 (pv 0)) (dZ (J8 (pv 0)) (dZ J4j J1))))) (dZ (J8 (pv 0)) J1))))
   (J0 (pst J5r 4 (pcl cC n Jg (dZ (pcl cT n Jg (dZ (pv 1) (dZ (J8 (pv 0)) (dZ (J8 (pv 0)) J1)))) (dZ (J8 (pv 0)) (dZ J4j J1)))))
   (J3 (Jd (pmk cI n Jg (dZ (pv 2) (dZ (pv 3) (dZ (pcl cC n Jg (dZ (J8 (pv 1)) (dZ (J8 (pv 0)) (dZ J9 J1)))) (dZ (pv 4) J1))))))))),?_}
  show{_,rfl,y,CR,U,fr,_,rfl,T,q.cl,q.nT,k1,_,rfl,x,cs _,j,stF _,_,rfl,g,TS.cl _,TS.nW _,J38 _,pt,r.top,a,rfl,.inr e1,few,fun t1 H1 B M=>?_};show{_,rfl,y,CR,U,fr,_,rfl,B _ _ T,q.cl,q.nB,k2,_,rfl,x,cs _,j,stF _,_,rfl,B _ _ g,TS.cl _,TS.nW _,J38 _,_,rfl,x,cs _,j,stF _,_,rfl,B _ _ g,TS.cl _,TS.nL _,Jbd _,pb,r.bot,a,b,false,rfl,.inr (B _ _ e2),i,u,wl,fun b0 H2 z S=>?_};have X:=B.trans z;have D:(putR r.bot a b false).length<=24:=by rw[(J3e ok.rowB.nd (ok.perm.mem_iff.mpr lose) false).length_eq];show i
  show{_,rfl,x,cs _,j,stF _,_,rfl,X _ _ g,TS.cl _,TS.nW _,J38 _,b0,_,a,rfl,.inl S,D,fun b1 H3 v O=>?_};have I:=X.trans v;show{_,rfl,_,rfl,x,cs _,j,stF _,_,rfl,I _ _ g,TS.cl _,TS.nW _,J38 _,_,rfl,x,cs _,j,stF _,_,rfl,I _ _ g,TS.cl _,TS.nL _,Jbd _,y,r,a,b,rfl,R.same I,lt,lb,fun u0 H4 m L=>?_};have W:=I.trans m;show{_,rfl,x,cs _,j,stF _,_,rfl,W _ _ g,TS.cl _,TS.nW _,J38 _,u0,bV (J2g r a b),a,.bl false,rfl,.inl L,by rw[zB,J34];show lt,fun u1 H5 l J=>?_};have G:=W.trans l;show{_,rfl,_,rfl,_,rfl,y,CR,U,fr,_,rfl,G _ _ T,q.cl,q.nL,k3,_,rfl,x,cs _,j,stF _,_,rfl,G _ _ g,TS.cl _,TS.nW _,J38 _,pl,iV r.ls,a,.int 0,rfl,.inr (G _ _ e3),by rw[J2i];show Y,fun l1 H6 c N=>{_,rfl,?_}};show J42 left (.inl (c _ _ (l _ _ (m _ _ (v _ _ (z _ _ M)))))) (.inl (c _ _ (l _ _ (m _ _ O)))) (.inl (by rw[N,Jhk];rfl)) (.inl (by rw[c _ _ J,Jnq];rfl)) fun p H' s' R'=>k p H' (G.trans (c.trans s')) R'
 | home a=>cases C
 | over a b=>cases C
 | under a b=>cases C
 | overs a t=>cases C
 | unders a t=>cases C
theorem J7k:Jt ["self","rest","bottom","lengths"] ["self","rest"] (Je (Jb (top 40) 3)):=fsc
theorem Jfb{CR:Addr}(F:Fun K "behind" "Over.behind" (Jb (top 40) 3) f fd)(TS:TxtS K cs)(g:J1c K CR)(cP:Ca1 2 fPut Jo5)(cS:Ca1 2 J83 (J8x CR))(cT:Ca1 2 J6e (J8b CR))(cI:Mak CX0 2 "Rest" CR ["self","top","bottom","lengths","turned"] [] (J4d CR)):
  FnOk P w K mg base CX0 4 f fd ["self","rest"] (J3d cs CR .ov):=by
 show F.ok1 J7k (fun d A o s H vs Q E B h=>?_);let{x,y,s,r,rfl,v,{j,i},R,e,k}:=h;have ok:=e.ok;have left:=e.left;have win:=e.win;have n:=ok.perm.mem_iff.mpr win;have few:=zM ok.row.len_le ok.few;have z:=zM ok.rowB.len_le ok.few;have L:=ok.row.lt _ win;let{D,fr,pt,O,pl,N,C,{X,W,U,T,k5},e1,e2,Z,Y}:=R.ex
 cases s with
 | over a b =>
  let{lose,M}:=e.lose b rfl;have lt:a<r.ts.length:=by rw[ok.len];show L
  have u:=ok.row.lt _ lose;have S:b<r.ts.length:=by rw[ok.len];show u
  show{_,J0 (pst J7k 2 (pcl cP B Jg (dZ (J8 (pv 1)) (dZ (J8 (pv 0)) (dZ (J8 (pv 0)) (dZ (Js Jl (J8 (pv 1)) (J8 (pv 0))) J1))))))
   (J0 (pst J7k 3 (pcl cS B Jg (dZ (pv 1) (dZ (J8 (pv 0)) (dZ (Js Jl (J8 (pv 1)) (J8 (pv 0))) J1)))))
   (J3 (Jd (pmk cI B Jg (dZ (J8 (pv 1)) (dZ (pv 2) (dZ (pv 3) (dZ (pcl cT B Jg (dZ (pv 1) (dZ (J8 (pv 0)) (dZ (J8 (pv 0)) J1)))) J1)))))))),?_}
  show{_,rfl,y,CR,D,fr,_,rfl,C,g.cl,g.nB,W,_,rfl,x,cs _,j,stF _,_,rfl,i,TS.cl _,TS.nW _,J38 _,_,rfl,x,cs _,j,stF _,_,rfl,i,TS.cl _,TS.nL _,Jbd _,_,rfl,y,CR,D,fr,_,rfl,C,g.cl,g.nU,T,_,rfl,x,cs _,j,stF _,_,rfl,i,TS.cl _,TS.nW _,J38 _,N,_,_,_,rfl,rfl,SqT.of Y,Jc (J86 lt),O,r.bot,a,b,_,rfl,.inr e2,z,n,M,fun q1 H1 m I=>?_};show{_,rfl,_,rfl,x,cs _,j,stF _,_,rfl,m _ _ i,TS.cl _,TS.nW _,J38 _,_,rfl,y,CR,D,fr,_,rfl,m _ _ C,g.cl,g.nL,U,_,rfl,x,cs _,j,stF _,_,rfl,m _ _ i,TS.cl _,TS.nL _,Jbd _,pl,_,_,_,rfl,rfl,SqT.of (m _ _ Z),Jc (J19 u),y,r,a,_,rfl,R.same m,L,fun l1 H2 q J=>?_};have l:=m.trans q;show{_,rfl,y,CR,D,fr,_,rfl,l _ _ C,g.cl,g.nT,X,_,rfl,_,rfl,_,rfl,_,rfl,x,cs _,j,stF _,_,rfl,l _ _ i,TS.cl _,TS.nW _,J38 _,_,rfl,x,cs _,j,stF _,_,rfl,l _ _ i,TS.cl _,TS.nL _,Jbd _,y,r,a,b,rfl,R.same l,lt,S,fun u1 H3 c G=>?_};show J42 left (.inr (c _ _ (l _ _ e1))) (.inl (c _ _ (q _ _ I))) (.inl (c _ _ J)) (.inl G) fun p H' s' R'=>k p H' (l.trans (c.trans s')) R'
 | home a=>cases v
 | even a b=>cases v
 | under a b=>cases v
 | overs a t=>cases v
 | unders a t=>cases v
theorem J7j:Jt ["self","rest","top","lengths"] ["self","rest"] (Je (Jb (top 41) 2)):=fsc
theorem Jfa{CR:Addr}(F:Fun K "behind" "Under.behind" (Jb (top 41) 2) f fd)(TS:TxtS K cs)(g:J1c K CR)(cP:Ca1 2 fPut Jo5)(cS:Ca1 2 J83 (J8x CR))(cT:Ca1 2 J6e (J8b CR))(cI:Mak CX0 2 "Rest" CR ["self","top","bottom","lengths","turned"] [] (J4d CR)):
  FnOk P w K mg base CX0 4 f fd ["self","rest"] (J3d cs CR .un):=by
 show F.ok1 J7j (fun d A o s H vs Q E v h=>?_);let{x,y,s,r,rfl,u,{j,i},R,e,k}:=h;have ok:=e.ok;have left:=e.left;have win:=e.win;have I:=ok.perm.mem_iff.mpr win;have few:=zM ok.row.len_le ok.few;have L:=zM ok.rowB.len_le ok.few;have J:=ok.row.lt _ win;let{B,fr,pt,pb,pl,N,z,{W,U,T,S,k5},e1,Z,Y,X}:=R.ex
 cases s with
 | under a b =>
  let{lose,M}:=e.lose b rfl;have lt:a<r.ts.length:=by rw[ok.len];show J
  have q:=ok.row.lt _ lose;have O:b<r.ts.length:=by rw[ok.len];show q
  show{_,J0 (pst J7j 2 (pcl cP v Jg (dZ (J8 (pv 1)) (dZ (J8 (pv 0)) (dZ (J8 (pv 0)) (dZ (Js Jl (J8 (pv 1)) (J8 (pv 0))) J1))))))
   (J0 (pst J7j 3 (pcl cS v Jg (dZ (pv 1) (dZ (J8 (pv 0)) (dZ (Js Jl (J8 (pv 1)) (J8 (pv 0))) J1)))))
   (J3 (Jd (pmk cI v Jg (dZ (pv 2) (dZ (J8 (pv 1)) (dZ (pv 3) (dZ (pcl cT v Jg (dZ (pv 1) (dZ (J8 (pv 0)) (dZ (J8 (pv 0)) J1)))) J1)))))))),?_}
  show{_,rfl,y,CR,B,fr,_,rfl,z,g.cl,g.nT,W,_,rfl,x,cs _,j,stF _,_,rfl,i,TS.cl _,TS.nW _,J38 _,_,rfl,x,cs _,j,stF _,_,rfl,i,TS.cl _,TS.nL _,Jbd _,_,rfl,y,CR,B,fr,_,rfl,z,g.cl,g.nU,S,_,rfl,x,cs _,j,stF _,_,rfl,i,TS.cl _,TS.nW _,J38 _,N,_,_,_,rfl,rfl,SqT.of X,Jc (J86 lt),pt,r.top,a,b,_,rfl,.inr e1,few,win,M,fun q1 H1 m D=>?_};show{_,rfl,_,rfl,x,cs _,j,stF _,_,rfl,m _ _ i,TS.cl _,TS.nW _,J38 _,_,rfl,y,CR,B,fr,_,rfl,m _ _ z,g.cl,g.nL,T,_,rfl,x,cs _,j,stF _,_,rfl,m _ _ i,TS.cl _,TS.nL _,Jbd _,pl,_,_,_,rfl,rfl,SqT.of (m _ _ Y),Jc (J19 q),y,r,a,_,rfl,R.same m,J,fun l1 H2 n G=>?_};have l:=m.trans n;show{_,rfl,_,rfl,y,CR,B,fr,_,rfl,l _ _ z,g.cl,g.nB,U,_,rfl,_,rfl,_,rfl,x,cs _,j,stF _,_,rfl,l _ _ i,TS.cl _,TS.nW _,J38 _,_,rfl,x,cs _,j,stF _,_,rfl,l _ _ i,TS.cl _,TS.nL _,Jbd _,y,r,a,b,rfl,R.same l,lt,O,fun u1 H3 c C=>?_};show J42 left (.inl (c _ _ (n _ _ D))) (.inr (c _ _ (l _ _ Z))) (.inl (c _ _ G)) (.inl C) fun p H' s' R'=>k p H' (l.trans (c.trans s')) R'
 | home a=>cases u
 | even a b=>cases u
 | over a b=>cases u
 | overs a t=>cases u
 | unders a t=>cases u
theorem Jan:Jt ["self","rest","lengths"] ["self","rest"] (Je (Jb (top 42) 4)):=fsc
theorem Jfd{CR:Addr}(F:Fun K "behind" "Overs.behind" (Jb (top 42) 4) f fd)(TS:TxtS K cs)(e:J1c K CR)(cL:Ca1 1 J84 (J8y K))(cS:Ca1 2 J83 (J8x CR))(cI:Mak CX0 2 "Rest" CR ["self","top","bottom","lengths","turned"] [] (J4d CR))(HL:∀k,HasM P w K mg base CX0 2 "losers" ["self","rest"] (J2x cs CR k) (cs k)):
  FnOk P w K mg base CX0 4 f fd ["self","rest"] (J3d cs CR .os):=by
 show F.ok1 Jan (fun d A o s H vs Q E q h=>?_);let{x,y,s,r,rfl,m,{v,n},R,c,k}:=h;have G:Room 2 _:=q.mono (by decide);have ok:=c.ok;have left:=c.left;have win:=c.win;have l:=ok.perm.mem_iff.mpr win;have few:=zM ok.row.len_le ok.few;have S:=zM ok.rowB.len_le ok.few;have T:=ok.row.lt _ win;let{z,fr,pt,pb,pl,pu,u,{Z,Y,X,W,k5},e1,e2,e3,e4}:=R.ex
 cases s with
 | overs a t =>
  have I:∀j∈J6 r.bot a,j<r.ls.length:=fun j i=>ok.rowB.lt j (J1b i);have L:(J6 r.bot a).length<=24:=by unfold J6;rw[wV];lia
  have hsz:(J4 r.ls (J6 r.bot a)).natAbs<2^4000:=by
   have O:∀j∈r.bot,1<=r.ls.getD j 0:=fun j i=>ok.rowB.pos j i;have h1:J4 r.ls r.bot=r.size:=ok.sizeB;have h2:J4 r.ls r.bot=J4 r.ls (r.bot.take (r.bot.idxOf a+1))+J4 r.ls (J6 r.bot a):=by
    rw[<- Jh];change _=J4 r.ls (r.bot.take (r.bot.idxOf a+1)++r.bot.drop (r.bot.idxOf a+1));rw[tY]
   have h3:=J16 (ls:=r.ls) (os:=r.bot.take (r.bot.idxOf a+1)) fun j i=>by have:=O j (tT i);lia
   have h4:=J16 (ls:=r.ls) (os:=J6 r.bot a) fun j i=>by have:=O j (J1b i);lia
   have h5:=c.small;have h6:(J4 r.ls (J6 r.bot a)).natAbs<=10^30:=()
   show xB h6 (by decide)
  show{_,J0 (pst Jan 2 (pcl cS q Jg (dZ (pv 1) (dZ (J8 (pv 0)) (dZ (Jj J6a (J8 (pv 0)) (pcl cL q Jg (dZ (pv 1) (dZ (J8g (sp:=J2x cs CR) (cls:=cs) (pv 0) HL G Jg (dZ (pv 1) J1)) J1)))) J1)))))
   (J3 (Jd (pmk cI q Jg (dZ (J8 (pv 1)) (dZ (J8 (pv 1)) (dZ (pv 2) (dZ (J8 (pv 1)) J1))))))),?_}
  show{_,rfl,_,rfl,x,cs _,v,stF _,_,rfl,n,TS.cl _,TS.nW _,J38 _,_,rfl,x,cs _,v,stF _,_,rfl,n,TS.cl _,TS.nT _,Jo3 _,_,rfl,_,rfl,x,.os,v,stF _,rfl,n,J8v _ (by decide +kernel) (by decide +kernel) (by decide +kernel),_,rfl,x,y,.overs a t,r,rfl,rfl,{v,n},R,win,l,fun U H1 D J=>?_};show{CR,y,U,z,pl,fr,r.ls,J6 r.bot a,rfl,D _ _ u,e.cl,e.nL,X,D _ _ e3,J,I,L,fun H2 C=>?_};have N:=D.trans C;show{_,_,rfl,rfl,{c.few,hsz},y,r,a,_,rfl,R.same N,T,fun l1 H3 B M=>?_};have g:=N.trans B;show{_,rfl,y,CR,z,fr,_,rfl,g _ _ u,e.cl,e.nT,Z,_,rfl,y,CR,z,fr,_,rfl,g _ _ u,e.cl,e.nB,Y,_,rfl,_,rfl,y,CR,z,fr,_,rfl,g _ _ u,e.cl,e.nU,W,?_};show J42 left (.inr (g _ _ e1)) (.inr (g _ _ e2)) (.inl M) (.inr (g _ _ e4)) fun p H' s' R'=>k p H' (g.trans s') R'
 | home a=>cases m
 | even a b=>cases m
 | over a b=>cases m
 | under a b=>cases m
 | unders a t=>cases m
theorem Jal:Jt ["self","rest","lengths"] ["self","rest"] (Je (Jb (top 43) 3)):=fsc
theorem Jf9{CR:Addr}(F:Fun K "behind" "Unders.behind" (Jb (top 43) 3) f fd)(TS:TxtS K cs)(e:J1c K CR)(cL:Ca1 1 J84 (J8y K))(cS:Ca1 2 J83 (J8x CR))(cI:Mak CX0 2 "Rest" CR ["self","top","bottom","lengths","turned"] [] (J4d CR))(HL:∀k,HasM P w K mg base CX0 2 "losers" ["self","rest"] (J2x cs CR k) (cs k)):
  FnOk P w K mg base CX0 4 f fd ["self","rest"] (J3d cs CR .us):=by
 show F.ok1 Jal (fun d A o s H vs Q E q h=>?_);let{x,y,s,r,rfl,m,{v,n},R,c,k}:=h;have G:Room 2 _:=q.mono (by decide);have ok:=c.ok;have left:=c.left;have win:=c.win;have l:=ok.perm.mem_iff.mpr win;have few:=zM ok.row.len_le ok.few;have S:=zM ok.rowB.len_le ok.few;have T:=ok.row.lt _ win;let{z,fr,pt,pb,pl,pu,u,{Z,Y,X,W,k5},e1,e2,e3,e4}:=R.ex
 cases s with
 | unders a t =>
  have I:∀j∈J6 r.top a,j<r.ls.length:=fun j i=>ok.row.lt j (J1b i);have L:(J6 r.top a).length<=24:=by unfold J6;rw[wV];lia
  have hsz:(J4 r.ls (J6 r.top a)).natAbs<2^4000:=by
   have O:∀j∈r.top,1<=r.ls.getD j 0:=fun j i=>ok.row.pos j i;have h1:J4 r.ls r.top=r.size:=rfl;have h2:J4 r.ls r.top=J4 r.ls (r.top.take (r.top.idxOf a+1))+J4 r.ls (J6 r.top a):=by
    rw[<- Jh];change _=J4 r.ls (r.top.take (r.top.idxOf a+1)++r.top.drop (r.top.idxOf a+1));rw[tY]
   have h3:=J16 (ls:=r.ls) (os:=r.top.take (r.top.idxOf a+1)) fun j i=>by have:=O j (tT i);lia
   have h4:=J16 (ls:=r.ls) (os:=J6 r.top a) fun j i=>by have:=O j (J1b i);lia
   have h5:=c.small;have h6:(J4 r.ls (J6 r.top a)).natAbs<=10^30:=()
   show xB h6 (by decide)
  show{_,J0 (pst Jal 2 (pcl cS q Jg (dZ (pv 1) (dZ (J8 (pv 0)) (dZ (Jj J6a (J8 (pv 0)) (pcl cL q Jg (dZ (pv 1) (dZ (J8g (sp:=J2x cs CR) (cls:=cs) (pv 0) HL G Jg (dZ (pv 1) J1)) J1)))) J1)))))
   (J3 (Jd (pmk cI q Jg (dZ (J8 (pv 1)) (dZ (J8 (pv 1)) (dZ (pv 2) (dZ (J8 (pv 1)) J1))))))),?_}
  show{_,rfl,_,rfl,x,cs _,v,stF _,_,rfl,n,TS.cl _,TS.nW _,J38 _,_,rfl,x,cs _,v,stF _,_,rfl,n,TS.cl _,TS.nT _,Jo3 _,_,rfl,_,rfl,x,.us,v,stF _,rfl,n,J8v _ (by decide +kernel) (by decide +kernel) (by decide +kernel),_,rfl,x,y,.unders a t,r,rfl,rfl,{v,n},R,win,l,fun U H1 D J=>?_};show{CR,y,U,z,pl,fr,r.ls,J6 r.top a,rfl,D _ _ u,e.cl,e.nL,X,D _ _ e3,J,I,L,fun H2 C=>?_};have N:=D.trans C;show{_,_,rfl,rfl,{c.few,hsz},y,r,a,_,rfl,R.same N,T,fun l1 H3 B M=>?_};have g:=N.trans B;show{_,rfl,y,CR,z,fr,_,rfl,g _ _ u,e.cl,e.nT,Z,_,rfl,y,CR,z,fr,_,rfl,g _ _ u,e.cl,e.nB,Y,_,rfl,_,rfl,y,CR,z,fr,_,rfl,g _ _ u,e.cl,e.nU,W,?_};show J42 left (.inr (g _ _ e1)) (.inr (g _ _ e2)) (.inl M) (.inr (g _ _ e4)) fun p H' s' R'=>k p H' (g.trans s') R'
 | home a=>cases m
 | even a b=>cases m
 | over a b=>cases m
 | under a b=>cases m
 | overs a t=>cases m
end
section
variable [En]
theorem atI_last{xs:List V}(h:xs.length=n+1)(e:xs[n]?=some v):atI xs (-1)=some v:=by
 unfold atI ixN;rw[if_neg (by decide),if_pos (by grind)];rw[h,show((-1:Int)+((n+1:Nat):Int)).toNat=n by lia];show e
theorem Jhj(j:Nat)(row:List Nat):inV (V.int (j:Nat)) (nV row)=decide (j∈row):=by
 rw[J63];unfold inV;rw[vF,any_eq_true,yU];constructor
 .rintro⟨y,a,e⟩;let{i,hi,rfl}:=zW.mp a;have b:=e;have:i=j:=by have:=eq_of_beq b;lia
  show this▸hi
 .intro h;show{V.int (j:Nat),zW.mpr {j,h,rfl},(beq_self_eq_true _:((j:Int)==(j:Int))=true)}
theorem Jms(row:List Nat):(nV row).all J4q=true:=by
 rw[ vH];intro y a;let{i,_,rfl}:=zW.mp a;rfl
theorem Jdk(s:Stp):decide (V.str (Jnv (kd s))=V.str (Str.ofString "home"))=s.eL:=by
 cases s <;> rfl
theorem flat_one(n:Nat):(replicate n [V.int 1]).flatten=iV (replicate n 1):=by
 simp_all
inductive Jgn(C:Addr)(vs:List V)(H:Hp)(Q:VK)(E:XK):Prop
 | mk(x:Addr)(ls:List Int)(os:List Nat)(ts:List Bool)(_:vs=[.ref x])(_:J29 C H x ls os ts)(_:1<=ls.length)(_:ls.length<=24)(_:∀p a,Same H a->a p=some (.tup (iV (replicate ls.length 1)))->Q (.ref p) a)
theorem Jor:FS1 ["line"] Ja0:=fsc
theorem Jlm(F:Fn1 Ja0)(T:TxtR mg)(c:TxtC K mg C):
  Ca1 1 Ja0 (Jgn C):=by
 show F.ok Jor (fun f d A o s H vs Q E D h=>?_);let{x,ls,os,ts,rfl,L,J,I,k}:=h;let{r,l,pl,po,pt,ps,u,j,{i,B,z,y,w,v},q,P,O,N,M}:=L.ex;show{_,J3 (Jd (Jj Jks (J1y (dZ J9 J1)) (pcb Jm T.len (J8 (pv 0))))),?_};show{by decide,fun p a=>{_,rfl,x,C,r,l,_,rfl,J7 a _ _ j,c.cl,c.nL,i,pl,_,rfl,.inr (SqT.of (J7 a _ _ q)),p,((iV ls).length:Int),[V.int 1],rfl,rfl,J2,by simp,?_,?_,?_,fun e=>?_,fun G g b=>?_}}
 .rw[J2i];lia
 .rw[J2i];lia
 .change 1*((iV ls).length:Int).toNat<=sizeLine;rw[J2i];have:=Jq (n:=ls.length) ();lia
 .rw[J2i] at e;have m:ls.length=1:=()
  show k p _ (J7 a) ?_;rw[J2,m];rfl
 .show k g _ ((J7 a).trans (J7 b)) ?_;rw[J2,J2i,show((ls.length:Nat):Int).toNat=ls.length by lia,flat_one]
inductive Jr7(cs:Kd->Addr)(CR:Addr)(vs:List V)(H:Hp)(Q:VK)(E:XK):Prop
 | mk(tp x y z:Addr)(s:Stp)(r:Rst)(T:List Int)(_:vs=[.ref tp,.ref x,.ref y,.ref z])(_:H tp=some (.tup (iV T)))(_:J3u cs H x s)(_:J1f CR H y r)(_:J1f CR H z (s.eB r))(_:s.eD∈r.top)(_:s.eD∈r.bot)(_:s.eD<T.length)(_:T.length<=24)(_:CBig (T.getD s.eD 0) s.times)(_:∀p a,Same H a->a p=some (.tup (iV (towB s r T)))->Q (.ref p) a)
theorem Jam:FS1 ["towers","step","rest","behind","losers","grown","told","letter","tower"] Jmt:=fsc
theorem Ju4(T:List Int)(h:i<T.length):iV (T.take i)++[V.int (T.getD i 0)]=iV (T.take (i+1)):=by
 change(T.take i).map V.int++_=(T.take (i+1)).map V.int;rw[List.take_add_one,yE,zH,gEq h];rfl
theorem Jtg{CR:Addr}(F:Fn1 Jmt)(T:TxtR mg)(ac:mg "enumerate"=none)(TR:J1c K CR)(TS:TxtS K cs)(HL:∀k,HasM P w K mg base CX0 2 "losers" ["self","rest"] (J2x cs CR k) (cs k)):
  Ca1 3 Jmt (Jr7 cs CR):=by
 show F.ok Jam (fun f d A o s H vs Q E hr h=>?_);let{tp,x,y,z,st,r,g,rfl,M,{W,S},R,Z,wT,wB,wl,hn,big,k}:=h;have aa:Room 2 _:=hr.mono (by decide);show{_,J0 (pst Jam 4 (J8g (sp:=J2x cs CR) (cls:=cs) (pv 1) HL aa Jg (dZ (pv 2) J1)))
  (J0 (pst Jam 5 (Jj J6a (Js Jl (pv 0) (J8 (pv 1))) (J8 (pv 1))))
  (J0 (pst Jam 6 (J1z J1))
  (J0 (J2h yH rfl (Jf5 rfl ac (dZ (pv 0) J1)) (J7w rfl (J1k (pgm Jam 7) (J1k (pgm Jam 8) J58)))
   (J3 (J1a (Jk J7z (pv 7) (J8 (pv 3)) rfl)
    (J3 (J18 (J3w yI xE xF J1g (pv 6) (dZ J9 J1))))
    (J3 (J1a (Jk Jkv (pv 7) (pv 4) rfl)
     (J3 (J18 (J3w yI xE xF J1g (pv 6) (dZ (Jj J12 (pv 8) (pv 5)) J1))))
     (J3 (J18 (J3w yI xE xF J1g (pv 6) (dZ (pv 8) J1)))))))))
  (J3 (Jd (pct J1u T.tuple (pv 6))))))),?_}
 show{_,rfl,x,kd st,W,stF st,rfl,S,J8v _ (by decide +kernel) (by decide +kernel) (by decide +kernel),_,rfl,x,y,st,r,rfl,rfl,{W,S},R,wT,wB,fun O Ha sa ab=>?_};show{_,rfl,_,rfl,x,cs (kd st),W,stF st,_,rfl,sa _ _ S,TS.cl _,TS.nW _,J38 _,tp,_,_,_,rfl,rfl,SqT.of (sa _ _ M),Jc (J19 wl),_,rfl,x,cs (kd st),W,stF st,_,rfl,sa _ _ S,TS.cl _,TS.nT _,Jo3 _,_,_,rfl,rfl,big,?_};show{zO _,fun tl B=>?_};have m:=Jg6 st r g;have q:=sa _ _ M;show{_,rfl,tp,rfl,{_,SqT.of (J7 B _ _ q)},Jhn (K:=K) (a:=tp) (xs:=iV g)
  (fun i σ G=>∃v I,σ=[some (.ref tp),some (.ref x),some (.ref y),some (.ref z),some (.ref O),some (.int (g.getD st.eD 0*st.times)),some (.ref tl),v,I]/\G tl=some (.lst (iV ((towB st r g).take i)))/\Same Ha G)
  {none,none,rfl,J2,J7 B} (fun i σ G _ h9=>by let{_,_,_,_,L}:=h9;show SqT.of (L _ _ q)) ?_ ?_}
 .rintro i y' σ G t hy ⟨v,I,rfl,U,L⟩ ht;have C:i<g.length:=by
   have:=(gSm hy);rw[zB] at this;show this
  rw[J19 C] at hy;cases hy;have J:=J7 (o:=.tup [.int (i:Int),.int (g.getD i 0)]) ht;have s3:=L.trans J;have j:=J _ _ U;let{dz,fz,zt,zb,zl,zu,w0,{w1,w2,w3,w4,w5},v1,v2,v3,v4}:=((Z.same sa).same s3).ex;have N:=s3 _ _ ab;have D:=Jg7 st r g C;have sn:=Ju4 (towB st r g) (i:=i) (by rw[m];show C);have l:(iV ((towB st r g).take i)).length<sizeLine:=by
   rw[J2i,xQ];have:=Jq (n:=24) ();lia
  have fin:∀u,u=(towB st r g).getD i 0->∀Y,Y=upd G t (.tup [.int (i:Int),.int (g.getD i 0)])->(∃v I,[some (V.ref tp),some (.ref x),some (.ref y),some (.ref z),some (.ref O),some (.int (g.getD st.eD 0*st.times)),some (.ref tl),some (.int (i:Int)),some (.int (g.getD i 0))]=[some (.ref tp),some (.ref x),some (.ref y),some (.ref z),some (.ref O),some (.int (g.getD st.eD 0*st.times)),some (.ref tl),v,I]/\
    (upd Y tl (.lst (iV ((towB st r g).take i)++[.int u]))) tl=some (.lst (iV ((towB st r g).take (i+1))))/\Same Ha (upd Y tl (.lst (iV ((towB st r g).take i)++[.int u])))):=by
   rintro u rfl Y rfl;show{_,_,rfl,by rw[J2,sn],fun b o e=>?_};rw[Jf (Ja e B)];show s3 _ _ e
  show{t,_,rfl,SqT.of J2,rfl,_,_,rfl,_,_,rfl,rfl,?_};show{_,rfl,_,rfl,z,CR,dz,fz,_,rfl,w0,TR.cl,TR.nT,w1,zt,_,rfl,.inr (SqT.of v1),rfl,Jms _,_,rfl,?_};by_cases c:i∈(st.eB r).top
  .show J6d (show ¬ (!inV (V.int (i:Nat)) (nV (st.eB r).top))=true by rw[Jhj];simpa using c) ?_;rw[if_pos c] at D;show{_,rfl,_,rfl,O,_,rfl,.inr (SqT.of N),rfl,Jms _,_,rfl,?_};by_cases X:i∈st.eE r
   .show J77 (show inV (V.int (i:Nat)) (nV (st.eE r))=true by rw[Jhj];show zZ X) ?_;rw[if_pos X] at D;show{_,rfl,.inl {rfl,_,SqL.of j},_,rfl,_,rfl,_,_,rfl,rfl,tl,_,_,rfl,rfl,j,l,fin _ D.symm _ rfl}
   .show J6d (show ¬ inV (V.int (i:Nat)) (nV (st.eE r))=true by rw[Jhj];simpa using X) ?_;rw[if_neg X] at D;show{_,rfl,.inl {rfl,_,SqL.of j},_,rfl,tl,_,_,rfl,rfl,j,l,fin _ D.symm _ rfl}
  .show J77 (show(!inV (V.int (i:Nat)) (nV (st.eB r).top))=true by rw[Jhj];simpa using c) ?_;rw[if_neg c] at D;show{_,rfl,.inl {rfl,_,SqL.of j},tl,_,_,rfl,rfl,j,l,fin _ D.symm _ rfl}
 .rintro σ G ⟨v,I,rfl,U,L⟩;rw[J2i,<- m,xS] at U;show{_,rfl,J20 (.inl U) fun p H' s' hp=>k p H' ((sa.trans L).trans s') hp}
def Ja9(b:Band):List V:=[.int b.1,.int b.2.1,.int b.2.2.1,.bl b.2.2.2]
abbrev bz:Band:=(0,0,0,false)
def bndS(s:Stp)(r:Rst)(T:List Int):List Band:=if s.eL=true then [((s.eB r).size,r.ls.getD s.eD 0,T.getD s.eD 0,r.ts.getD s.eD false)] else []
inductive Jgq(cs:Kd->Addr)(CR:Addr)(vs:List V)(H:Hp)(Q:VK)(E:XK):Prop
 | mk(tp x y z:Addr)(s:Stp)(r:Rst)(T:List Int)(_:vs=[.ref x,.ref y,.ref z,.ref tp])(_:H tp=some (.tup (iV T)))(_:J3u cs H x s)(_:J1f CR H y r)(_:J1f CR H z (s.eB r))(_:s.eD<r.ls.length)(_:s.eD<r.ts.length)(_:s.eD<T.length)(_:∀p ys a,Same H a->a p=some (.lst ys)->Refs (fun q j=>a q=some (.tup (Ja9 ((bndS s r T).getD j bz)))) ys (bndS s r T).length->Q (.ref p) a)
theorem Jgv:FS1 ["step","rest","behind","towers","winner"] Ja3:=fsc
theorem Jlr{CR:Addr}(F:Fn1 Ja3)(a:J1c K CR)(TS:TxtS K cs)(W:∀k,HasM P w K mg base CX0 1 "word" ["self"] (J50 k) (cs k)):
  Ca1 2 Ja3 (Jgq cs CR):=by
 show F.ok Jgv (fun f d A o s H vs Q E O h=>?_);let{tp,x,y,z,st,r,Tl,rfl,e,{n,j},R,Z,C,B,D,k}:=h;have g:Room 1 _:=O.mono (by decide);let{m,l,yt,yb,v,u,i,{q1,q2,L,J,q5},p1,p2,N,M}:=R.ex;let{U,T,zt,Y,zl,X,I,{w1,w2,w3,w4,G},v1,v2,v3,v4}:=Z.ex;show{_,J0 (J1a (Jk J6w (J93 (sp:=J50) (cls:=cs) (pv 0) W g Jg) J2q (Jp _)) (J3 (Jd (J1z J1))) Jo)
  (J0 (pst Jgv 4 (J8 (pv 0)))
  (J3 (Jd (J1z (dZ (J1y (dZ (J8 (pv 2)) (dZ (Js Jl (J8 (pv 1)) (pv 4)) (dZ (Js Jl (pv 3) (pv 4)) (dZ (Js Jl (J8 (pv 1)) (pv 4)) J1))))) J1))))),?_}
 show{_,rfl,x,kd st,n,stF st,rfl,j,J8v _ (by decide +kernel) (by decide +kernel) (by decide +kernel),x,rfl,rfl,_,rfl,?_};have hw:=Jdk st;by_cases c:st.eL=true
 .show J6d (show ¬ (!decide (V.str (Jnv (kd st))=V.str (Str.ofString "home")))=true by rw[hw,c];decide) ?_;show{_,rfl,x,cs (kd st),n,stF st,_,rfl,j,TS.cl _,TS.nW _,J38 _,?_};show{_,rfl,z,CR,U,T,_,rfl,I,a.cl,a.nZ,G,_,rfl,y,CR,m,l,_,rfl,i,a.cl,a.nL,L,_,rfl,v,_,_,_,rfl,rfl,SqT.of N,Jc (J19 C),_,rfl,_,rfl,tp,_,_,_,rfl,rfl,SqT.of e,Jc (J19 D),
   _,rfl,y,CR,m,l,_,rfl,i,a.cl,a.nU,J,_,rfl,u,_,_,_,rfl,rfl,SqT.of M,Jc (J86 B),(by change 4<=sizeLine;decide),fun q S=>{(by change 1<=sizeLine;decide),fun p b=>?_}}
  show k p _ _ ((J7 S).trans (J7 b)) J2 (by unfold bndS;rw[if_pos c];show Refs.nil.snoc (J7 b _ _ J2))
 .show J77 (show(!decide (V.str (Jnv (kd st))=V.str (Str.ofString "home")))=true by rw[hw];simpa using c) ?_;show{zO _,fun p b=>k p _ _ (J7 b) J2 (by unfold bndS;rw[if_neg c];show Refs.nil)}
end
section
theorem Jq8(ok:r.Ok)(ne:r.top≠[])(e:r.size<=10^30):Fit (eF r) r:=by
 have np:=J62 ok ne;show{ok,ok.next ne,np.win ok ne,fun b hb=>?_,xB (np.times ok ne e) (by decide),e};have mT:=ok.mT ne;have mB:=ok.mB ne;generalize eF r=st at *;have inj:∀{i j:Nat},V.int (i:Nat)=V.int (j:Nat)->i=j:=fun q=>by have:=V.int.inj q;lia
 cases st with
 | even a b'=>obtain rfl:=inj hb;let{_,d,c,_}:=np;show{by rw[d];show mB,c}
 | over a b'=>obtain rfl:=inj hb;let{_,d,c,_}:=np;show{by rw[d];show mB,c}
 | under a b'=>obtain rfl:=inj hb;let{_,d,c,_}:=np;show{by rw[d];show mT,c}
 | home a=>cases hb
 | overs a t=>cases hb
 | unders a t=>cases hb
end
section
variable [En]
structure Jeg(K:Frag)(CH:Addr):Prop where
 cl:Cls K CH
 nL:J17 K CH "line"
 nR:J17 K CH "rests"
 nS:J17 K CH "steps"
 nT:J17 K CH "towers"
 nB:J17 K CH "bands"
inductive J3n(CH CR:Addr)(cs:Kd->Addr)(H:Hp)(x f:Addr)(a:Cst)(m:Nat):Prop
 | mk(g:Addr)(fs:List (Str×V))(d ps pt e:Addr)(xr xs b c:List V)(_:H x=some (.ins CH g fs))(_:A5 (fs.lookup ("line":Str)=some (.ref f)) (fs.lookup ("rests":Str)=some (.ref d)) (fs.lookup ("steps":Str)=some (.ref ps)) (fs.lookup ("towers":Str)=some (.ref pt)) (fs.lookup ("bands":Str)=some (.ref e)))(_:A4 (H d=some (.tup xr)) (H ps=some (.tup xs)) (H pt=some (.tup b)) (H e=some (.tup c)))(_:Refs (fun q i=>J1f CR H q (chN a i).1) xr (m+1))(_:Refs (fun q i=>J3u cs H q (eF (chN a i).1)) xs m)(_:Refs (fun q i=>H q=some (.tup (iV (chN a i).2))) b (m+1))(_:Refs (fun q i=>H q=some (.tup (Ja9 ((bndN a m).getD i bz)))) c (bndN a m).length)
theorem J3n.ex{CR:Addr}(h:J3n CH CR cs H x xl p0 m):J3n CH CR cs H x xl p0 m:=h
theorem J3n.kp{CR:Addr}(h:J3n CH CR cs H x xl p0 m)(s:Kp H H'):J3n CH CR cs H' x xl p0 m:=by
 let{y,fs,n,ps,pt,o,xr,xs,d,e,w,c,{v,u,r,p},l,j,g,f}:=h.ex;show{y,fs,n,ps,pt,o,xr,xs,d,e,s _ _ w (by simp[okO,c.b]),c,{s _ _ v rfl,s _ _ u rfl,s _ _ r rfl,s _ _ p rfl},l.mono fun q i _ a=>a.kp s,j.mono fun q i _ a=>a.kp s,g.mono fun q i _ a=>s _ _ a rfl,f.mono fun q i _ a=>s _ _ a rfl}
theorem J3n.same{CR:Addr}(h:J3n CH CR cs H x xl p0 m)(s:Same H H'):J3n CH CR cs H' x xl p0 m:=h.kp (Kp.of s)
abbrev J24(ls:List Int)(os:List Nat)(ts:List Bool):Cst:=(J2k ls os ts,replicate ls.length 1)
inductive Jk2(C CR CH:Addr)(cs:Kd->Addr)(vs:List V)(H:Hp)(Q:VK)(E:XK):Prop
 | mk(x c a:Addr)(ls:List Int)(os:List Nat)(ts:List Bool)(_:vs=[.ref x,.ref a])(_:H x=some (.ins CH c []))(_:J29 C H a ls os ts)(_:(J2k ls os ts).Ok)(_:(J2k ls os ts).size<=10^30)(_:1<=ls.length)(_:∀m b,Long (J24 ls os ts) m->(chN (J24 ls os ts) m).1.top=[]->J3n CH CR cs b x a (J24 ls os ts) m->J27 x H b->Q .non b)
theorem J4g:Jt ["self","line","rest","rests","steps","towers","bands","step","behind"] ["self","line"] (Je (Jb (top 52) 0)):=fsc
theorem Jrv:(6367451:Nat)+5<=sizeLine:=by decide
theorem Jud(h:Cok p)(ne:p.1.top≠[]):CBig (p.2.getD (eF p.1).eD 0) (eF p.1).times:=by
 have w:=(J62 h.ok ne).win h.ok ne;have c:=h.tow.le h.ok w;have b:=h.tow.pos _ w;have a:=(J62 h.ok ne).times h.ok ne h.size30;have e:(10:Nat)^30<2^4000:=by decide
 show{xB (show(p.2.getD (eF p.1).eD 0).natAbs<=10^30 by lia) e,xB a e}
theorem Jp3{H:Hp}{as:List Band}(a:Refs (fun q j=>H q=some (.tup (Ja9 (as.getD j bz)))) xs as.length)(b:Refs (fun q j=>H q=some (.tup (Ja9 (bs.getD j bz)))) ys bs.length):Refs (fun q j=>H q=some (.tup (Ja9 ((as++bs).getD j bz)))) (xs++ys) (as++bs).length:=by
 have la:=a.len;show{by rw[zN,zN,la,b.len],fun i hi=>?_};rw[zH];by_cases c:i<as.length
 .let{q,e,h}:=a.at_ i c;show{q,by rw[yQ ()];show e,by rw[yQ c];show h}
 .rw[zN] at hi;let{q,e,h}:=b.at_ (i-as.length) ();show{q,by rw[yP (),la];show e,by rw[yP ()];show h}
structure Wr(l:Addr)(xs:List V)(H H':Hp):Prop where
 own:H' l=some (.lst xs)
 oth:∀b u,H b=some u->b≠l->H' b=some u
theorem Wr.of :Wr l xs H (upd H l (.lst xs)):={J2,fun b u e n=>by rw[Jf n];show e}
theorem Wr.kp(w:Wr l xs H H')(h:H l=some (.lst ys)):Kp H H':=Kp.x w.oth h rfl
inductive CIn(CR:Addr)(cs:Kd->Addr)(a:Cst)(x g d e lt f:Addr)(n:Hp)(m:Nat)(σ:St)(Hw:Hp):Prop
 | mk(i:Nat)(y:Addr)(xr xs b c:List V)(l h:Option V)(_:σ=[some (.ref x),some (.ref g),some (.ref y),some (.ref d),some (.ref e),some (.ref lt),some (.ref f),l,h])(_:Long a i)(_:J1f CR Hw y (chN a i).1)(_:Same n Hw)(_:Hw d=some (.lst xr))(_:Hw e=some (.lst xs))(_:Hw lt=some (.lst b))(_:Hw f=some (.lst c))(_:Refs (fun q i=>J1f CR Hw q (chN a i).1) xr (i+1))(_:Refs (fun q i=>J3u cs Hw q (eF (chN a i).1)) xs i)(_:Refs (fun q i=>Hw q=some (.tup (iV (chN a i).2))) b (i+1))(_:Refs (fun q j=>Hw q=some (.tup (Ja9 ((bndN a i).getD j bz)))) c (bndN a i).length)(_:m=(chN a i).1.size.toNat)
theorem Jq4{CR:Addr}(F:Fun K "__init__" "Chart.__init__" (Jb (top 52) 0) f fd)(T:TxtR mg)(TR:J1c K CR)(TS:TxtS K cs)(M:Jeg K CH)(a5:Ca1 4 J9o (Jge C CR))(a6:Ca1 1 Ja0 (Jgn C))(cN:Ca1 5 Jn1 (Jre cs CR))(HB:∀k,HasM P w K mg base CX0 4 "behind" ["self","rest"] (J3d cs CR k) (cs k))(a7:Ca1 2 Ja3 (Jgq cs CR))(a4:Ca1 3 Jmt (Jr7 cs CR)):
  FnOk P w K mg base CX0 6 f fd ["self","line"] (Jk2 C CR CH cs):=by
 show F.ok1 J4g (fun d A o s H vs Q E hr h=>?_);let{x,dx,xl,ls,os,ts,rfl,hx,L,ok0,as,h1,k}:=h;have au:Room 4 _:=hr.mono (by decide);show{_,J0 (pst J4g 2 (pcl a5 hr Jg (dZ (pv 1) J1)))
  (J0 (pst J4g 3 (J1z (dZ (pv 2) J1)))
  (J0 (pst J4g 4 (J1z J1))
  (J0 (pst J4g 5 (J1z (dZ (pcl a6 hr Jg (dZ (pv 1) J1)) J1)))
  (J0 (pst J4g 6 (J1z J1))
  (J0 (Jbo yH (Jk J6x (J8 (pv 2)) J9 (Jp _))
   (J0 (pst J4g 7 (pcl cN hr Jg (dZ (pv 2) J1)))
   (J0 (pst J4g 8 (J8g (sp:=J3d cs CR) (cls:=cs) (pv 7) HB au Jg (dZ (pv 2) J1)))
   (J0 (J18 (J3w yI PySem.F.slot_list_extend PySem.F.type_list_extend Jdc (pv 6) (dZ (pcl a7 hr Jg (dZ (pv 7) (dZ (pv 2) (dZ (pv 8) (dZ (Js J3b (pv 5) (Jd9 J7t J9)) J1))))) J1)))
   (J0 (J18 (J3w yI xE xF J1g (pv 5) (dZ (pcl a4 hr Jg (dZ (Js J3b (pv 5) (Jd9 J7t J9)) (dZ (pv 7) (dZ (pv 2) (dZ (pv 8) J1))))) J1)))
   (J0 (J18 (J3w yI xE xF J1g (pv 4) (dZ (pv 7) J1)))
   (J0 (J18 (J3w yI xE xF J1g (pv 3) (dZ (pv 8) J1)))
   (J3 (pst J4g 2 (pv 8))))))))))
  (J0 (J1s (pv 0) (pv 1) rfl)
  (J0 (J1s (pv 0) (pct J1u T.tuple (pv 3)) rfl)
  (J0 (J1s (pv 0) (pct J1u T.tuple (pv 4)) rfl)
  (J0 (J1s (pv 0) (pct J1u T.tuple (pv 5)) rfl)
  (J3 (J1s (pv 0) (pct J1u T.tuple (pv 6)) rfl))))))))))),?_}
 have few:=ok0.few;have J:Cok (J24 ls os ts):=Jck ok0 as;show{_,rfl,xl,ls,os,ts,rfl,L,few,fun y0 Hr sr R0=>?_};show{_,rfl,(by change 1<=sizeLine;decide),fun lr an=>{zO _,fun lq ae=>?_}};have sa:=J7 (o:=.lst [V.ref y0]) an;have sq:=J7 (o:=.lst []) ae;have sb:=sa.trans sq;show{_,rfl,xl,ls,os,ts,rfl,(L.same sr).same sb,h1,few,fun t0 Ht st am=>{(by change 1<=sizeLine;decide),fun lt S=>{zO _,fun lb I=>?_}}};have sc:=sb.trans st;have sd:=J7 (o:=.lst [V.ref t0]) S;have se:=J7 (o:=.lst []) I;have sf:=(sc.trans sd).trans se;have ap:Hr lq=none:=sa.free ae;have ao:Hr lt=none:=sc.free S;have aq:Hr lb=none:=(sc.trans sd).free I;have X:lr≠lq:=Ja J2 ae;have r:=st _ _ (sq _ _ (J2 (H:=Hr) (a:=lr) (o:=.lst [V.ref y0])));have v:=st _ _ (J2 (a:=lq) (o:=.lst []));have W:=Ja r S;have aa:=Ja v S;have Y:=Ja (sd _ _ r) I;have ab:=Ja (sd _ _ v) I;have U:lt≠lb:=Ja J2 I;generalize hp0:J24 ls os ts=p0 at *;show{CIn CR cs p0 x xl lr lq lt lb Hr,{_,0,y0,_,_,_,_,none,none,rfl,fun i hi=>absurd hi (wZ _),hp0▸R0.same sf,sf,se _ _ (sd _ _ r),se _ _ (sd _ _ v),se _ _ J2,J2,Refs.nil.snoc (hp0▸R0.same sf),Refs.nil,Refs.nil.snoc (hp0▸se _ _ (sd _ _ am)),Refs.nil,rfl},?_};clear R0 r v am;rintro m σ Hw ⟨i,y,xr,xs,xt,xb,v7,v8,rfl,lg,R,sw,ac,ad,O,B,rr,rs,rt,rb,rfl⟩;let{dy,fy,yt,yb,yl,yu,q0,{q1,q2,q3,q4,q5},p1,p2,p3,p4}:=R.ex;have cok:=J.at_ lg;have a2:=J.few lg;show{_,rfl,y,CR,dy,fy,_,rfl,q0,TR.cl,TR.nZ,q5,_,_,rfl,rfl,_,rfl,?_};by_cases c:(chN p0 i).1.top=[]
 .have sz:(chN p0 i).1.size=0:=by unfold Rst.size;rw[c];rfl
  show iteD (by rw[sz];decide) ?_;have N:Hw x=some (.ins CH dx []):=sw _ _ (sr _ _ hx);have nx:∀{b:Addr} {u:HO},Hw b=some u->u≠.ins CH dx []->b≠x:=fun e n z=>n (by rw[z,N] at e;show(zV e).symm);have nr:=nx ac nofun;have nq:=nx ad nofun;have nt:=nx O nofun;have nb:=nx B nofun;show{_,rfl,_,rfl,x,CH,dx,[],rfl,N,M.cl,M.nL,by decide,?_};let{H1,e1,S1,_}:=(Sx.nil N).set (Same.refl _) "line" (.ref xl);rw[e1];show{_,rfl,J20 (.inl (S1.kp _ _ ac nr)) fun pr H3 s3 ax=>{_,rfl,x,CH,dx,_,rfl,s3 _ _ S1.at_,M.cl,M.nR,S1.few,?_}};let{H2,e2,S2,_,t1}:=S1.put s3 ax "rests";rw[e2];show{_,rfl,J20 (.inl (S2.kp _ _ ad nq)) fun ps H3 s3 aw=>{_,rfl,x,CH,dx,_,rfl,s3 _ _ S2.at_,M.cl,M.nS,S2.few,?_}};let{H3,e3,S3,k3,t2}:=S2.put s3 aw "steps";rw[e3];show{_,rfl,J20 (.inl (S3.kp _ _ O nt)) fun pt H4 s4 av=>{_,rfl,x,CH,dx,_,rfl,s4 _ _ S3.at_,M.cl,M.nT,S3.few,?_}};let{H4,e4,S4,k4,t3}:=S3.put s4 av "towers";rw[e4];show{_,rfl,J20 (.inl (S4.kp _ _ B nb)) fun pb H5 s5 ay=>{_,rfl,x,CH,dx,_,rfl,s5 _ _ S4.at_,M.cl,M.nB,S4.few,?_}};let{Hz,e5,S5,k5,t4}:=S4.put s5 ay "bands";rw[e5];have kz:Kp Hw Hz:=Kp.x S5.kp N rfl;show k i Hz lg c {dx,_,pr,ps,pt,pb,xr,xs,xt,xb,S5.at_,{by kernel_rfl,by kernel_rfl,by kernel_rfl,by kernel_rfl,by kernel_rfl},{(((t1.kp k3).kp k4).kp k5).at_,((t2.kp k4).kp k5).at_,(t3.kp k5).at_,t4.at_},rr.mono fun q j _ a=>a.kp kz,rs.mono fun q j _ a=>a.kp kz,rt.mono fun q j _ a=>kz _ _ a rfl,rb.mono fun q j _ a=>kz _ _ a rfl} ((J27.of (sr.trans sw)).trans S5.kp)
 .have ar:0<(chN p0 i).1.size:=by
   have:=J74 cok.ok.row.pos c;change 0<J4 _ _;lia
  show J31 ar ?_;have down:=cok.ok.down c;have win:=(J62 cok.ok c).win cok.ok c;have hz:=cok.size30;have a1:=Jq8 cok.ok c hz;have D:=cok.tow.len;have wl:=cok.ok.row.lt _ win;have big:=Jud cok c;have aj:Long p0 (i+1):=fun j hj=>by
   by_cases e:j=i
   .subst e;show c
   .show lg j ()
  have a8:=J.few aj;let{tq,a3,al}:=rt.at_ i ();have last:=atI_last rt.len a3;have aA:=Jrv;have bl:=J8r p0 i;have aB:=J8r p0 (i+1);show{_,fun σ' H' h=>h,?_};show{_,rfl,y,(chN p0 i).1,rfl,R,cok.ok,c,hz,fun xp Hn sn G=>?_};let{af,G}:=G;show{_,rfl,xp,kd (eF (chN p0 i).1),af,stF (eF (chN p0 i).1),rfl,G,J8v _ (by decide +kernel) (by decide +kernel) (by decide +kernel),_,rfl,xp,y,eF (chN p0 i).1,(chN p0 i).1,rfl,rfl,{af,G},R.same sn,a1,fun z Hb ai Z=>?_};have Z:J1f CR Hb z (chN p0 (i+1)).1:=Z;have g:=sn.trans ai;have X1:J3u cs Hb xp (eF (chN p0 i).1):={af,ai _ _ G};have a0:=g _ _ B;show{_,rfl,.inl {rfl,_,SqL.of a0},_,rfl,_,rfl,_,rfl,_,rfl,_,rfl,lt,_,_,_,rfl,rfl,SqL.of (g _ _ O),last,tq,xp,y,z,eF (chN p0 i).1,(chN p0 i).1,(chN p0 i).2,rfl,g _ _ al,X1,R.same g,Z,wl,(by rw[cok.ok.len];show wl),(by rw[D];show wl),fun bp ys Hc ah az ry=>?_};have s1:=g.trans ah;have ly:=rb.len;have a9:(bndN p0 (i+1)).length=(bndN p0 i).length+ys.length:=by rw[ry.len];show zN
  show{lb,bp,xb,ys,rfl,rfl,s1 _ _ B,az,(),?_};have w1:=Wr.of (H:=Hc) (l:=lb) (xs:=xb++ys);generalize upd Hc lb (.lst (xb++ys))=Hd at *;have f1:Kp Hb Hd:=(Kp.of ah).trans (w1.kp (s1 _ _ B));have g1:=(Kp.of g).trans f1;have dt:=w1.oth _ _ (s1 _ _ O) U;show{_,rfl,.inl {rfl,_,SqL.of dt},_,rfl,_,rfl,lt,_,_,_,rfl,rfl,SqL.of dt,last,_,rfl,_,rfl,_,rfl,tq,xp,y,z,eF (chN p0 i).1,(chN p0 i).1,(chN p0 i).2,rfl,g1 _ _ al rfl,X1.kp f1,R.kp g1,Z.kp f1,win,cok.ok.perm.mem_iff.mpr win,(by rw[D];show wl),(by rw[D];show cok.ok.few),big,fun ag He p ak=>?_};have et:=p _ _ dt;show{lt,_,_,rfl,rfl,et,(by rw[rt.len];lia),?_};have w2:=Wr.of (H:=He) (l:=lt) (xs:=xt++[.ref ag]);generalize upd He lt (.lst (xt++[.ref ag]))=Hf at *;have eq:=w2.oth _ _ (p _ _ (w1.oth _ _ (s1 _ _ ad) ab)) aa;show{_,rfl,.inl {rfl,_,SqL.of eq},_,rfl,lq,xs,_,rfl,rfl,eq,(by rw[rs.len];lia),?_};have w3:=Wr.of (H:=Hf) (l:=lq) (xs:=xs++[.ref xp]);generalize upd Hf lq (.lst (xs++[.ref xp]))=Hg at *;have er:=w3.oth _ _ (w2.oth _ _ (p _ _ (w1.oth _ _ (s1 _ _ ac) Y)) W) X;show{_,rfl,.inl {rfl,_,SqL.of er},_,rfl,lr,xr,_,rfl,rfl,er,(by rw[rr.len];lia),?_};have w4:=Wr.of (H:=Hg) (l:=lr) (xs:=xr++[.ref z]);generalize upd Hg lr (.lst (xr++[.ref z]))=Hh at *;have f4:Kp He Hh:=((w2.kp et).trans (w3.kp eq)).trans (w4.kp er);have fb:=(f1.trans (Kp.of p)).trans f4;have fw:=(Kp.of g).trans fb;have Ze:=Z.kp fb;show{_,rfl,(chN p0 (i+1)).1.size.toNat,?_,i+1,z,_,_,_,_,_,_,rfl,aj,Ze,fun b o e=>w4.oth _ _ (w3.oth _ _ (w2.oth _ _ (p _ _ (w1.oth _ _ (s1 _ _ (sw _ _ e)) (Ja e aq))) (Ja e ao)) (Ja e ap)) (Ja e an),w4.own,w4.oth _ _ w3.own (Ne.symm X),w4.oth _ _ (w3.oth _ _ w2.own (Ne.symm aa)) (Ne.symm W),w4.oth _ _ (w3.oth _ _ (w2.oth _ _ (p _ _ w1.own) (Ne.symm U)) (Ne.symm ab)) (Ne.symm Y),(rr.mono fun q j _ a=>a.kp fw).snoc Ze,(rs.mono fun q j _ a=>a.kp fw).snoc (X1.kp fb),(rt.mono fun q j _ a=>fw _ _ a rfl).snoc (f4 _ _ ak rfl),Jp3 (rb.mono fun q j _ a=>fw _ _ a rfl) (ry.mono fun q j _ a=>((w1.kp (s1 _ _ B)).trans ((Kp.of p).trans f4)) _ _ a rfl),rfl};have:=down.less;have e:(chN p0 (i+1)).1.size=((eF (chN p0 i).1).eB (chN p0 i).1).size:=rfl;rw[e];lia
end
section
variable [En]
structure ChP(ls:List Int)(os:List Nat)(ts:List Bool)(m:Nat):Prop where
 good:Good ls os
 hts:ts.length=ls.length
 lg:Long (J24 ls os ts) m
 tp:(chN (J24 ls os ts) m).1.top=[]
abbrev bsC(ls:List Int)(os:List Nat)(ts:List Bool)(m:Nat):List Band:=bndN (J24 ls os ts) m
noncomputable abbrev gC(ls:List Int)(os:List Nat)(ts:List Bool):Int->Int:=go (J2k ls os ts)
abbrev rC(ls:List Int)(os:List Nat)(ts:List Bool)(k:Nat):Rst:=(chN (J24 ls os ts) k).1
abbrev tC'(ls:List Int)(os:List Nat)(ts:List Bool)(k:Nat):List Int:=(chN (J24 ls os ts) k).2
abbrev sC(ls:List Int)(os:List Nat)(ts:List Bool)(k:Nat):Stp:=eF (chN (J24 ls os ts) k).1
section
variable{ls:List Int}{os:List Nat}{ts:List Bool}{m:Nat}
theorem ChP.ok0(h:ChP ls os ts m):(J2k ls os ts).Ok:=Jb9 h.good.perm h.good.pos h.hts h.good.hi
theorem ChP.z0(h:ChP ls os ts m):(J2k ls os ts).size<=10^30:=by rw[h.ok0.size_sum];show h.good.sum
theorem ChP.cok(h:ChP ls os ts m):Cok (J24 ls os ts):=Jck h.ok0 h.z0
theorem ChP.one(h:ChP ls os ts m):∀j∈(J24 ls os ts).1.top,(J24 ls os ts).2.getD j 0=1:=fun j a=>by
 simp_all
theorem ChP.sys(h:ChP ls os ts m):Sys (gC ls os ts) (J2k ls os ts).size (bsC ls os ts m):=h.cok.sys h.one (Jmv (fun j a=>zR.mp a)) h.lg h.tp
theorem ChP.stp(h:ChP ls os ts m)(a:k<m):Jeh (gC ls os ts) (rC ls os ts k) (tC' ls os ts k) (sC ls os ts k):=h.cok.stepF h.one h.lg a
theorem ChP.few(h:ChP ls os ts m):m<=6367451:=h.cok.few h.lg
theorem ChP.lt(h:ChP ls os ts m)(a:k<=m)(d:0<=y)(b:y<(rC ls os ts k).size):k<m:=by
 apply xN;intro c;obtain rfl:k=m:=()
 have e:(rC ls os ts k).size=0:=by
  change J4 _ (chN (J24 ls os ts) k).1.top=0;rw[h.tp];rfl
 lia
theorem ChP.sizes(h:ChP ls os ts m)(a:i<=k)(b:k<=m):(rC ls os ts k).size<=(rC ls os ts i).size:=h.cok.sizes h.lg a b
end
def ChF(C CH CR:Addr)(cs:Kd->Addr)(H:Hp)(b:Addr)(ls:List Int)(os:List Nat)(ts:List Bool)(m:Nat):Prop:=∃a,J3n CH CR cs H b a (J24 ls os ts) m/\J29 C H a ls os ts
theorem ChF.same{CR:Addr}{os:List Nat}(h:ChF C CH CR cs H xc ls os ts m)(s:Same H H'):ChF C CH CR cs H' xc ls os ts m:=
 by let{b,a,l}:=h;show{b,a.same s,l.same s}
theorem Jr1(f:0<=a)(d:a<=10^30)(hb:0<=b)(c:b<=10^30):CBig a b:=by
 have e:(10:Nat)^30<2^4000:=by decide
 show{xB (show a.natAbs<=10^30 by lia) e,xB (show b.natAbs<=10^30 by lia) e}
theorem Jub(hb:0<b)(a:b<=10^30):Jui i b:=by
 have e:(10:Nat)^30<2^4000:=by decide
 show{hb,xB (show b.natAbs<=10^30 by lia) e}
theorem at1{xs:List V}{k:Nat}(h:xs[k+1]?=some v):atI xs ((k:Int)+1)=some v:=by
 show Jc h
inductive Jjv(C CH CR:Addr)(cs:Kd->Addr)(vs:List V)(H:Hp)(Q:VK)(E:XK):Prop
 | mk(a:Addr)(ls:List Int)(os:List Nat)(ts:List Bool)(m k:Nat)(_:vs=[.ref a,.int (k:Nat)])(_:ChF C CH CR cs H a ls os ts m)(_:ChP ls os ts m)(_:k<m)(_:Q (.int (((rC ls os ts k).size-(rC ls os ts (k+1)).size)/(sC ls os ts k).times)) H)
theorem Jsp:FS1 ["chart","at"] Jdr:=fsc
theorem Jpl{CR:Addr}(F:Fn1 Jdr)(b:J1c K CR)(TS:TxtS K cs)(a:Jeg K CH):
  Ca1 1 Jdr (Jjv C CH CR cs):=by
 show F.ok Jsp (fun f d A o s H vs Q E hr h=>?_);let{c,ls,os,ts,m,k,rfl,W,S,w,q}:=h;let{Z,X,L0}:=W;let{p,fs,u,ps,pt,pb,xr,xs,Y,xb,g,{lL,v,G,lT,lB},{y,N,h3,h4},r,D,r3,r4}:=X.ex;let{B,j,U}:=r.at_ k ();let{z,i,T}:=r.at_ (k+1) ();let{sp,l,{n,e}}:=D.at_ k w;let{R,fi,it,ib,il,iu,M,{i1,i2,i3,i4,L},o1,o2,o3,o4}:=U.ex;let{P,O,_,_,_,_,J,{_,_,_,_,I},_}:=T.ex;have tm:=(S.stp w).tms;show{_,(J3 (Jd (Jj J8h (Jj J1j (J8 (Js Jl (J8 (pv 0)) (pv 1))) (J8 (Js Jl (J8 (pv 0)) (Jj J12 (pv 1) J9)))) (J8 (Js Jl (J8 (pv 0)) (pv 1)))))),?_};show{_,rfl,c,CH,p,fs,_,rfl,g,a.cl,a.nR,v,_,rfl,u,_,_,_,rfl,rfl,SqT.of (y),Jc j,B,CR,R,fi,_,rfl,M,b.cl,b.nZ,L,_,rfl,c,CH,p,fs,_,rfl,g,a.cl,a.nR,v,_,rfl,_,_,rfl,rfl,u,_,_,_,rfl,rfl,SqT.of (y),at1 i,z,CR,P,O,_,rfl,J,b.cl,b.nZ,I,_,_,rfl,rfl,_,rfl,c,CH,p,fs,_,rfl,g,a.cl,a.nS,G,_,rfl,ps,_,_,_,rfl,rfl,SqT.of (N),Jc l,sp,cs (kd (sC ls os ts k)),n,stF (sC ls os ts k),_,rfl,e,TS.cl _,TS.nT _,Jo3 _,_,_,rfl,rfl,Jub () (),q}
inductive Jrj(C CH CR:Addr)(cs:Kd->Addr)(vs:List V)(H:Hp)(Q:VK)(E:XK):Prop
 | mk(c:Addr)(ls:List Int)(os:List Nat)(ts:List Bool)(m k:Nat)(y:Int)(_:vs=[.ref c,.int (k:Nat),.int y])(_:ChF C CH CR cs H c ls os ts m)(_:ChP ls os ts m)(_:k<m)(_:(sC ls os ts k).eL=false)(_:((rC ls os ts (k+1)).size<=y/\y<(rC ls os ts k).size))(_:∀p a d b,Same H b->b p=some (.tup [.int a,.int d])->(0<=a/\a<(rC ls os ts (k+1)).size)->0<=d->J48 (gC ls os ts) (rC ls os ts (k+1)).size d.toNat a y->Q (.ref p) b)
theorem own_kd(s:Stp):ownB (kd s)=s.own:=by cases s <;> rfl
theorem J55:FS1 ["chart","at","y","rest","step","towers","share","times","come"] Je0:=fsc
theorem Jts{C CH CR:Addr}{cs:Kd->Addr}(F:Fn1 Je0)(R:J1c K CR)(TS:TxtS K cs)(b:Jeg K CH)(ae:Ca1 1 Jdr (Jjv C CH CR cs))(HO:∀k,HasM P w K mg base CX0 1 "own_first" ["self"] (Jet k) (cs k))(J:Ca1 3 J9q (Jgf CR))(af:Ca1 2 J9y (Jgl CR)):
  Ca1 4 Je0 (Jrj C CH CR cs):=by
 show F.ok J55 (fun f d A o s H vs Q E I h=>?_);let{D,ls,os,ts,m,k,y,rfl,F0,cp,Y,Z,B,q}:=h;have W:Room 1 _:=I.mono (by decide);have ag:=F0;let{xl,A0,L0}:=F0;let{O,fs,pr,ps,pt,pb,xr,xs,xt,xb,N,{lL,lR,lS,lT,lB},{h1,h2,h3,h4},r1,r2,r3,r4}:=A0.ex;let{L,ab,S}:=r1.at_ k ();let{yj,aa,Rj}:=r1.at_ (k+1) ();let{sp,ad,{r,n}}:=r2.at_ k Y;let{T,ac,l}:=r3.at_ k ();let{di,fi,it,ib,il,iu,i0,{i1,i2,i3,i4,i5},o1,o2,o3,o4}:=S.ex;let{dj,fj,_,_,_,_,j0,{_,_,_,_,j5},_}:=Rj.ex;have F:=cp.stp Y;let{w1,w2,w3}:=F.win;let{t1,t2}:=F.tms;let{s1,M,s3}:=F.spn Z;have wl:=F.ok.row.lt _ w1;have tl:=F.len;have zz:=F.sz;have e1:(rC ls os ts (k+1)).size=((sC ls os ts k).eB (rC ls os ts k)).size:=rfl;show{_,(J0 (pst J55 3 (Js Jl (J8 (pv 0)) (pv 1)))
  (J0 (pst J55 4 (Js Jl (J8 (pv 0)) (pv 1)))
  (J0 (pst J55 5 (Js Jl (J8 (pv 0)) (pv 1)))
  (J0 (pst J55 6 (pcl ae I Jg (dZ (pv 0) (dZ (pv 1) J1))))
  (J0 (J1a (J25 (J93 (sp:=Jet) (cls:=cs) (pv 4) HO W Jg)) (J0 (pst J55 7 (Jj J8h (Jj J1j (Jj J1j (J8 (pv 3)) J9) (pv 2)) (pv 6)))
   (J0 (pst J55 8 (pcl J I Jg (dZ (pv 3) (dZ (Jj J12 (pv 2) (Jj J6a (pv 7) (pv 6))) J1))))
   (J3 (Jd (J1y (dZ (pv 8) (dZ (Jj J12 (Js Jl (pv 5) (pcl af I Jg (dZ (pv 3) (dZ (pv 8) J1)))) (Jj J6a (pv 7) (Js Jl (pv 5) (J8 (pv 4))))) J1))))))) Jo)
  (J0 (pst J55 7 (Jj J8h (Jj J1j (pv 2) (J8 (Js Jl (J8 (pv 0)) (Jj J12 (pv 1) J9)))) (pv 6)))
  (J3 (Jd (J1y (dZ (Jj J1j (pcl J I Jg (dZ (pv 3) (dZ (pv 2) J1))) (Jj J6a (pv 7) (pv 6))) (dZ (Jj J6a (Jj J12 (pv 7) J9) (Js Jl (pv 5) (J8 (pv 4)))) J1))))))))))),?_}
 show{_,rfl,D,CH,O,fs,_,rfl,N,b.cl,b.nR,lR,_,rfl,pr,_,_,_,rfl,rfl,SqT.of (h1),Jc ab,?_};show{_,rfl,D,CH,O,fs,_,rfl,N,b.cl,b.nS,lS,_,rfl,ps,_,_,_,rfl,rfl,SqT.of (h2),Jc ad,?_};show{_,rfl,D,CH,O,fs,_,rfl,N,b.cl,b.nT,lT,_,rfl,pt,_,_,_,rfl,rfl,SqT.of (h3),Jc ac,?_};show{_,rfl,_,rfl,D,ls,os,ts,m,k,rfl,ag,cp,Y,?_};rw[e1,s3];show{_,rfl,sp,kd (sC ls os ts k),r,stF (sC ls os ts k),rfl,n,J8v _ (by decide +kernel) (by decide +kernel) (by decide +kernel),sp,rfl,_,rfl,?_};rw[own_kd]
 cases hown:(sC ls os ts k).own with
 | true =>
  show iteT ?_;let{G,q1,q2,U}:=Jqx F.ok F.ne F.np F.okl F.down F.ret F.twr Z hown B.1 B.2 (t':=((rC ls os ts k).size-1-y)/J4 (rC ls os ts k).ls ((sC ls os ts k).eE (rC ls os ts k))) rfl;have v:CBig (((rC ls os ts k).size-1-y)/J4 (rC ls os ts k).ls ((sC ls os ts k).eE (rC ls os ts k))) (J4 (rC ls os ts k).ls ((sC ls os ts k).eE (rC ls os ts k))):=Jr1 G () () M;have u:CBig (((rC ls os ts k).size-1-y)/J4 (rC ls os ts k).ls ((sC ls os ts k).eE (rC ls os ts k))) ((tC' ls os ts k).getD (sC ls os ts k).eD 0):=Jr1 G () () w3;show{_,rfl,L,CR,di,fi,_,rfl,i0,R.cl,R.nZ,i5,_,_,rfl,rfl,_,rfl,_,_,rfl,rfl,_,rfl,_,_,rfl,rfl,Jub () M,?_};show{_,rfl,_,rfl,_,rfl,_,rfl,_,_,rfl,rfl,v,_,_,rfl,rfl,L,rC ls os ts k,_,rfl,S,F.ok,fun z H1 a g=>?_,q2};let{j,o,A,c,e}:=U z g;have zr:=A.inside F.ok;have lj:=F.ok.row.lt _ A.1;show{_,rfl,_,rfl,_,rfl,_,rfl,L,rC ls os ts k,z,rfl,S.same a,F.ok.row,fun i hi=>?_,zr};let{ej,_}:=A.same F.ok (Jz.of_at F.ok hi);rw[<- ej];show{T,_,_,_,rfl,rfl,SqT.of (a _ _ l),Jc (J19 (by rw[tl];show lj)),_,rfl,_,rfl,_,rfl,sp,cs (kd (sC ls os ts k)),r,stF (sC ls os ts k),_,rfl,a _ _ n,TS.cl _,TS.nW _,J38 _,T,_,_,_,rfl,rfl,SqT.of (a _ _ l),Jc (J19 (by rw[tl];show wl)),_,_,rfl,rfl,u,_,_,rfl,rfl,(by change 2<=sizeLine;decide),fun p X=>?_};have pj:=F.twr.pos j A.1;have m0:0<=((rC ls os ts k).size-1-y)/J4 (rC ls os ts k).ls ((sC ls os ts k).eE (rC ls os ts k))*(tC' ls os ts k).getD (sC ls os ts k).eD 0:=vB G ();show q p _ _ _ (a.trans (J7 X)) J2 c (Int.add_nonneg (show 0<=(tC' ls os ts k).getD j 0 by lia) m0) e
 | false =>
  show iteF ?_;let{G,q1,U}:=Jnk F.ok F.ne F.np F.okl F.down F.ret F.twr Z hown B.1 B.2 (t':=(y-((sC ls os ts k).eB (rC ls os ts k)).size)/J4 (rC ls os ts k).ls ((sC ls os ts k).eE (rC ls os ts k))) rfl;have v:CBig ((y-((sC ls os ts k).eB (rC ls os ts k)).size)/J4 (rC ls os ts k).ls ((sC ls os ts k).eE (rC ls os ts k))) (J4 (rC ls os ts k).ls ((sC ls os ts k).eE (rC ls os ts k))):=Jr1 G () () M;have u:CBig ((y-((sC ls os ts k).eB (rC ls os ts k)).size)/J4 (rC ls os ts k).ls ((sC ls os ts k).eE (rC ls os ts k))+1) ((tC' ls os ts k).getD (sC ls os ts k).eD 0):=Jr1 () () () w3;show{_,rfl,_,rfl,D,CH,O,fs,_,rfl,N,b.cl,b.nR,lR,_,rfl,_,_,rfl,rfl,pr,_,_,_,rfl,rfl,SqT.of (h1),at1 aa,yj,CR,dj,fj,_,rfl,j0,R.cl,R.nZ,j5,_,_,rfl,rfl,_,rfl,_,_,rfl,rfl,Jub () M,?_};have yr:0<=y/\y<(rC ls os ts k).size:=by
   have zn:0<=((sC ls os ts k).eB (rC ls os ts k)).size:=J16 fun j hj=>by have:=F.okl.row.pos j hj;lia
   rw[e1] at B;show{(),B.2}
  show{_,rfl,_,rfl,L,rC ls os ts k,y,rfl,S,F.ok,fun z H1 a g=>?_,yr};let{c,e}:=U z g;show{_,rfl,_,rfl,_,_,rfl,rfl,v,_,_,rfl,rfl,_,rfl,_,_,rfl,rfl,_,rfl,_,rfl,sp,cs (kd (sC ls os ts k)),r,stF (sC ls os ts k),_,rfl,a _ _ n,TS.cl _,TS.nW _,J38 _,T,_,_,_,rfl,rfl,SqT.of (a _ _ l),Jc (J19 (by rw[tl];show wl)),_,_,rfl,rfl,u,(by change 2<=sizeLine;decide),fun p X=>?_};show q p _ _ _ (a.trans (J7 X)) J2 c (vB (show 0<=(y-((sC ls os ts k).eB (rC ls os ts k)).size)/J4 (rC ls os ts k).ls ((sC ls os ts k).eE (rC ls os ts k))+1 by lia) (show 0<=(tC' ls os ts k).getD (sC ls os ts k).eD 0 by lia)) e
end
section
variable [En]
inductive Jk4(C CH CR:Addr)(cs:Kd->Addr)(vs:List V)(H:Hp)(Q:VK)(E:XK):Prop
 | mk(a:Addr)(ls:List Int)(os:List Nat)(ts:List Bool)(m:Nat)(x:Int)(_:vs=[.ref a,.int x])(_:ChF C CH CR cs H a ls os ts m)(_:ChP ls os ts m)(_:(∀p (b:Nat) o lv H',Same H H'->H' p=some (.tup [.int (b:Nat),.int o,.int lv])->Adr (bsC ls os ts m) b o lv->plOf (gC ls os ts) (bsC ls os ts m) b o lv=x->Q (.ref p) H'))(_:0<=x/\x<(J2k ls os ts).size)
theorem J6t:FS1 ["chart","x","at","y","level","come","start"] Jj7:=fsc
theorem Jtv{CR:Addr}(F:Fn1 Jj7)(TC:TxtC K mg C)(I:J1c K CR)(TS:TxtS K cs)(c:Jeg K CH)(ag:Ca1 4 Je0 (Jrj C CH CR cs))(HW:∀k,HasM P w K mg base CX0 1 "word" ["self"] (J50 k) (cs k)):
  Ca1 5 Jj7 (Jk4 C CH CR cs):=by
 show F.ok J6t (fun f d A o s H vs Q E hr h=>?_);let{n,ls,os,ts,m,x,rfl,F0,l,q,kx}:=h;have ab:Room 1 _:=hr.mono (by decide);have ah:=F0;let{xl,A0,L0}:=F0;let{O,fs,pr,ps,pt,pb,xr,xs,xt,xb,M,{lL,lR,lS,lT,lB},{h1,h2,h3,h4},r1,r2,r3,r4}:=A0.ex;let{dl,fl,pl,po,pu,pZ,aj,l0,{_,_,_,_,_,l6},_}:=L0.ex;have ai:(J2k ls os ts).size=ls.sum:=Ji6 ls os ts;have S:=l.sys;have fw:=l.few;show{_,(J0 (J1a (PW.pt (J88 (Jk J95 (pv 1) J9 (Jp _)) (J7u (Jk Jtf (pv 1) (J8 (J8 (pv 0))) (Jp _))))) (J3 J1o) Jo)
  (J0 (pst J6t 2 J9)
  (J0 (pst J6t 3 (pv 1))
  (J0 (pst J6t 4 J9)
  (J0 (Jbo yH (PW.pt (J88 (Jk J95 (pv 3) (J8 (Js Jl (J8 (pv 0)) (Jj J12 (pv 2) J9))) (Jp _)) (J7u (Jk J6w (J93 (sp:=J50) (cls:=cs) (Js Jl (J8 (pv 0)) (pv 2)) HW ab Jg) J2q (Jp _)))))
   (J0 (J1a (Jk Jtf (pv 3) (J8 (Js Jl (J8 (pv 0)) (Jj J12 (pv 2) J9))) (Jp _)) (J0 (pst J6t 5 (pcl ag hr Jg (dZ (pv 0) (dZ (pv 2) (dZ (pv 3) J1)))))
    (J0 (pst J6t 3 (Js Jl (pv 5) J9))
    (J3 (pst J6t 4 (Jj J12 (pv 4) (Js Jl (pv 5) J9)))))) Jo)
   (J3 (pst J6t 2 (Jj J12 (pv 2) J9)))))
  (J0 (pst J6t 6 (J8 (Js Jl (J8 (pv 0)) (Jj J12 (pv 2) J9))))
  (J3 (Jd (J1y (dZ (J3w yI sL type_list_index J99 (Jbs (caps:=[]) (js:=[]) rfl (J7v (J8 (pv 0))) rfl (fun _ _ _ _=>J4i) (fun C fp s H=>J65 (J5d K) (pv 0) J9)) (dZ (pv 6) J1)) (dZ (Jj J1j (pv 3) (pv 6)) (dZ (pv 4) J1)))))))))))),?_}
 show{_,rfl,_,_,rfl,rfl,_,rfl,iteD (show ¬ x<0 by lia) ?_};show{_,rfl,_,rfl,n,CH,O,fs,_,rfl,M,c.cl,c.nL,lL,xl,C,dl,fl,_,rfl,l0,TC.cl,TC.nZ,l6,_,_,rfl,rfl,_,rfl,iteD (show ¬ x>=ls.sum by lia) {_,rfl,?_}};have m0:0<m:=l.lt (k:=0) (zO _) (y:=x) () (by change x<(J2k ls os ts).size;lia);show{fun mu σ Hw=>∃(k:Nat) (y u:Int) (v5:Option V),k<m/\(0<=y/\y<(rC ls os ts k).size)/\0<=u/\J48 (gC ls os ts) (rC ls os ts k).size u.toNat y x/\mu=m-k/\σ=[some (.ref n),some (.int x),some (.int (k:Nat)),some (.int y),some (.int u),v5,none]/\Same H Hw,
  {_,0,x,0,none,m0,{(),by change x<(J2k ls os ts).size;lia},yA _,J48.zero,rfl,rfl,Same.refl _},?_}
 rintro mu σ Hw ⟨k,y,u,v5,hk,hy,W,r,rfl,rfl,a⟩;let{Z,B,Rj}:=r1.at_ (k+1) ();let{sp,ad,{af,aa}}:=r2.at_ k hk;let{dj,fj,_,_,_,_,j0,{_,_,_,_,j5},_}:=Rj.ex;have T:=l.sizes (i:=k) (k:=k+1) () ();show{_,rfl,_,rfl,n,CH,O,fs,_,rfl,a _ _ M,c.cl,c.nR,lR,_,rfl,_,_,rfl,rfl,pr,_,_,_,rfl,rfl,SqT.of (a _ _ h1),at1 B,Z,CR,dj,fj,_,rfl,a _ _ j0,I.cl,I.nZ,j5,_,_,rfl,rfl,_,rfl,?_};by_cases G:y<(rC ls os ts (k+1)).size
 .show J31 G ?_;show{_,fun σ' H' h=>h,?_};show{_,rfl,_,rfl,n,CH,O,fs,_,rfl,a _ _ M,c.cl,c.nR,lR,_,rfl,_,_,rfl,rfl,pr,_,_,_,rfl,rfl,SqT.of (a _ _ h1),at1 B,Z,CR,dj,fj,_,rfl,a _ _ j0,I.cl,I.nZ,j5,_,_,rfl,rfl,_,rfl,iteD (Int.not_le.mpr G) ?_};have J:=l.lt (k:=k+1) () hy.1 G;show{_,rfl,_,_,rfl,rfl,m-(k+1),(),k+1,y,u,v5,J,{hy.1,G},W,r.low T,rfl,?_,a};rw[show(((k+1:Nat):Int))=(k:Int)+1 by lia];rfl
 show iteD G ?_;show{_,rfl,n,CH,O,fs,_,rfl,a _ _ M,c.cl,c.nS,lS,_,rfl,ps,_,_,_,rfl,rfl,SqT.of (a _ _ h2),Jc ad,sp,kd (sC ls os ts k),af,stF (sC ls os ts k),rfl,a _ _ aa,J8v _ (by decide +kernel) (by decide +kernel) (by decide +kernel),sp,rfl,rfl,_,rfl,?_};have hw:=Jdk (sC ls os ts k);by_cases L:(sC ls os ts k).eL=true
 .show J6d (by rw[hw,L];decide) ?_;let{b,hb,eb}:=Jmm (p:=J24 ls os ts) hk L;let{Bn,R,b2}:=l.cok.band l.one (k:=k) (fun i hi=>l.lg i ()) L;have z:(bsC ls os ts m).getD b bz0=J3y (chN (J24 ls os ts) k):=eb;let{im,ix}:=S.starts hb;rw[z,R] at im ix;have lb:=J8r (J24 ls os ts) m;have Y:=Int.not_lt.mp G;obtain⟨e,N⟩:∃e,e=(rC ls os ts (k+1)).size:={_,rfl};have R:(J3y (chN (J24 ls os ts) k)).1=e:=R.trans N.symm;have b2:(J3y (chN (J24 ls os ts) k)).1+(J3y (chN (J24 ls os ts) k)).2.1=(rC ls os ts k).size:=b2;have Y:e<=y:=by rw[N];show Y
  have al:=hy.2;rw[R] at b2;have Fb:=Bn.2.2 (y-e) () ();have fl:=J78 (b:=J3y (chN (J24 ls os ts) k)) (o:=y-e) () ();rw[R,show e+(y-e)=y by lia,b2] at Fb;have lt:=r.lt Fb ();show{_,rfl,n,CH,O,fs,_,rfl,a _ _ M,c.cl,c.nR,lR,_,rfl,_,_,rfl,rfl,pr,_,_,_,rfl,rfl,SqT.of (a _ _ h1),at1 B,Z,CR,dj,fj,_,rfl,a _ _ j0,I.cl,I.nZ,j5,?_};have U:xb.length=(bsC ls os ts m).length:=r4.len;show{_,rfl,n,CH,O,fs,_,rfl,a _ _ M,c.cl,c.nB,lB,pb,rfl,{_,SqT.of (a _ _ h4)},fun d hd=>Ju1 xb (fun i=>V.int ((bsC ls os ts m).getD i bz0).1) (SqT.of (a _ _ h4)) (by have:=Jrv;have ak:(bsC ls os ts m).length<=m:=lb;lia) hd (fun i Hc Qe v hv sc k'=>?_) (fun H5 s5 X=>?_)}
  .have hi:i<(bsC ls os ts m).length:=by rw[<- U];show(gSm hv)
   let{bp,ae,ac}:=r4.at_ i hi;obtain rfl:v=.ref bp:=zV (hv.symm.trans ae);show{_,rfl,bp,_,_,_,rfl,rfl,SqT.of (sc _ _ (a _ _ ac)),Jc (j:=0) rfl,k' _ (Same.refl _)}
  rw[U] at X;have D:H5 d=some (.lst (iV (J66 (bsC ls os ts m)))):=by
   rw[X];change _=some (HO.lst (List.map V.int (List.map _ _)));rw[yX];rfl
  show{.inl {rfl,_,SqL.of D},_,rfl,d,J66 (bsC ls os ts m),(rC ls os ts (k+1)).size,rfl,rfl,SqL.of D,im,?_};rw[ix];show{_,rfl,_,rfl,_,_,rfl,rfl,_,rfl,(by change 3<=sizeLine;decide),fun p hp=>?_};show q p b (y-e) u _ (a.trans (s5.trans (J7 hp))) (by rw[J2,N]) {hb,(),by rw[z];lia,W,by rw[z];lia} ?_;unfold plOf;rw[z,R,show e+(y-e)=y by lia];show r.last
 .show J77 (by rw[hw];simpa using L) ?_;have L:(sC ls os ts k).eL=false:=by simpa using L
  show{_,fun σ' H' h=>h,?_};show{_,rfl,_,rfl,n,CH,O,fs,_,rfl,a _ _ M,c.cl,c.nR,lR,_,rfl,_,_,rfl,rfl,pr,_,_,_,rfl,rfl,SqT.of (a _ _ h1),at1 B,Z,CR,dj,fj,_,rfl,a _ _ j0,I.cl,I.nZ,j5,_,_,rfl,rfl,_,rfl,J31 (Int.not_lt.mp G) ?_};show{_,rfl,_,rfl,_,rfl,n,ls,os,ts,m,k,y,rfl,ah.same a,l,hk,L,{Int.not_lt.mp G,hy.2},fun p y0 d H5 s5 hp g d0 rc=>?_};show{_,rfl,p,_,_,_,rfl,rfl,SqT.of hp,Jc (j:=0) rfl,?_};show{_,rfl,_,rfl,p,_,_,_,rfl,rfl,SqT.of hp,Jc (j:=1) rfl,_,_,rfl,rfl,?_};have J:=l.lt (k:=k+1) () g.1 g.2;show{_,rfl,_,_,rfl,rfl,m-(k+1),(),k+1,y0,u+d,some (.ref p),J,g,(),?_,rfl,?_,a.trans s5}
  .have:=rc.trans (r.low T);rw[show d.toNat+u.toNat=(u+d).toNat by lia] at this;show this
  .rw[show(((k+1:Nat):Int))=(k:Int)+1 by lia];rfl
end
section
variable [En]
inductive Jeu(vs:List V)(H:Hp)(Q:VK)(E:XK):Prop
 | mk(a:Addr)(b:Band)(o:Int)(_:vs=[.ref a,.int o])(_:H a=some (.tup (Ja9 b)))(_:Q (.int (b.2.1-1-o)) H)
theorem Jsu:FS1 ["band","offset"] Jb2:=fsc
theorem Jpq(F:Fn1 Jb2):
  Ca1 1 Jb2 Jeu:=by
 show F.ok Jsu (fun f d A o s H vs Q E c h=>?_);let{a,b,o,rfl,hb,q}:=h;show{_,(J3 (Jd (Jj J1j (Jj J1j (Js Jl (pv 0) J9) J9) (pv 1)))),?_};show{_,rfl,a,_,_,_,rfl,rfl,SqT.of hb,Jc (j:=1) rfl,_,_,rfl,rfl,_,rfl,_,_,rfl,rfl,q}
inductive Jew(vs:List V)(H:Hp)(Q:VK)(E:XK):Prop
 | mk(a:Addr)(b:Band)(o:Int)(_:vs=[.ref a,.int o])(_:H a=some (.tup (Ja9 b)))(_:Q (.int (lenR b o)) H)
theorem Jsz:FS1 ["band","offset"] Jb5:=fsc
theorem Jpv(F:Fn1 Jb5)(c:Ca1 1 Jb2 Jeu):
  Ca1 2 Jb5 Jew:=by
 show F.ok Jsz (fun f d A o s H vs Q E g h=>?_);let{a,b,o,rfl,hb,q}:=h;show{_,(J0 (J1a (PW.pt (Jgy (J25 (Js Jl (pv 0) J9)) (Jbn (Jk J6w (pv 1) (pcl c g Jg (dZ (pv 0) (dZ (pv 1) J1))) (Jp _))))) (J3 (Jd (Jj J94 J9 (Js Jl (pv 0) J9)))) Jo)
  (J3 (Jd (Js Jl (pv 0) J9)))),?_}
 unfold lenR at q;show{_,rfl,a,_,_,_,rfl,rfl,SqT.of hb,Jc (j:=3) rfl,_,rfl,?_};by_cases ct:b.2.2.2=true
 .show J77 ct ?_;show{_,rfl,_,rfl,_,rfl,a,b,o,rfl,hb,rfl,_,rfl,?_};by_cases co:o=b.2.1-1-o
  .show Jfn (zP V.int co) ?_;rw[if_neg (fun h=>h.2 co)] at q;show{_,rfl,a,_,_,_,rfl,rfl,SqT.of hb,Jc (j:=2) rfl,q}
  .show J77 (by rw[yD (fun e=>co (V.int.inj e))];rfl) ?_;rw[if_pos {ct,co}] at q;show{_,rfl,a,_,_,_,rfl,rfl,SqT.of hb,Jc (j:=2) rfl,_,_,rfl,rfl,.inl {by decide,by decide},q}
 .show J6d ct (iteF ?_);rw[if_neg (fun h=>ct h.1)] at q;show{_,rfl,a,_,_,_,rfl,rfl,SqT.of hb,Jc (j:=2) rfl,q}
inductive Jes(C CH CR:Addr)(cs:Kd->Addr)(vs:List V)(H:Hp)(Q:VK)(E:XK):Prop
 | mk(a:Addr)(ls:List Int)(os:List Nat)(ts:List Bool)(m:Nat)(x:Int)(_:vs=[.ref a,.int x])(_:ChF C CH CR cs H a ls os ts m)(_:ChP ls os ts m)(_:(∀(n b:Nat) (o c:Int) H',Same H H'->J47 (gC ls os ts) x n->Adr (bsC ls os ts m) b o c->plOf (gC ls os ts) (bsC ls os ts m) b o c=x->(n:Int)=lenR ((bsC ls os ts m).getD b bz0) o->Q (.int (n:Nat)) H'))(_:0<=x/\x<(J2k ls os ts).size)
theorem Jke:FS1 ["chart","x","told"] Jb1:=fsc
theorem Jpn{CR:Addr}(F:Fn1 Jb1)(w:Jeg K CH)(l:Ca1 5 Jj7 (Jk4 C CH CR cs))(i:Ca1 2 Jb5 Jew):
  Ca1 6 Jb1 (Jes C CH CR cs):=by
 show F.ok Jke (fun f d A o s H vs Q E r h=>?_);let{q,ls,os,ts,m,x,rfl,y,v,k,I}:=h;let{T,P,L0}:=id y;let{M,fs,Z,ps,pt,B,xr,xs,S,U,L,{lL,lR,lS,lT,G},{h1,h2,h3,J},Y,X,W,z}:=P.ex;show{_,(J0 (pst Jke 2 (pcl l r Jg (dZ (pv 0) (dZ (pv 1) J1))))
  (J3 (Jd (pcl i r Jg (dZ (Js Jl (J8 (pv 0)) (Js Jl (pv 2) J9)) (dZ (Js Jl (pv 2) J9) J1)))))),?_}
 show{_,rfl,_,rfl,q,ls,os,ts,m,x,rfl,y,v,fun p b o D O c u n ep=>?_,I};let{N,g,a}:=z.at_ b n.hb;have a:=a;let{R,p1}:=v.sys.rnd n;show{_,rfl,q,CH,M,fs,_,rfl,c _ _ L,w.cl,w.nB,G,_,rfl,p,_,_,_,rfl,rfl,SqT.of u,Jc (j:=0) rfl,B,_,_,_,rfl,rfl,SqT.of (c _ _ J),Jc g,_,rfl,p,_,_,_,rfl,rfl,SqT.of u,Jc (j:=1) rfl,N,(bsC ls os ts m).getD b bz0,o,rfl,c _ _ a,?_};have e:lenR ((bsC ls os ts m).getD b bz0) o=(((lenR ((bsC ls os ts m).getD b bz0) o).toNat:Nat):Int):=()
 rw[e];rw[ep] at R;show k _ b o D O c R n ep e.symm
inductive Jrk(C CH CR:Addr)(cs:Kd->Addr)(vs:List V)(H:Hp)(Q:VK)(E:XK):Prop
 | mk(a:Addr)(ls:List Int)(os:List Nat)(ts:List Bool)(m:Nat)(x y:Int)(_:vs=[.ref a,.int x,.int y])(_:ChF C CH CR cs H a ls os ts m)(_:ChP ls os ts m)(_:∀v b,Same H b->(v=.non↔¬ onR (gC ls os ts) x y)->Q v b)(_:0<=x/\x<(J2k ls os ts).size)(_:0<=y/\y<(J2k ls os ts).size)
theorem Jd1:FS1 ["chart","x","y","one","two","band","goings"] Jn5:=fsc
theorem Jtu{CR:Addr}(F:Fn1 Jn5)(TH:Jeg K CH)(L:Ca1 5 Jj7 (Jk4 C CH CR cs))(J:Ca1 2 Jb5 Jew)(Z:Ca1 1 Jb2 Jeu):
  Ca1 6 Jn5 (Jrk C CH CR cs):=by
 show F.ok Jd1 (fun f d A o s H vs Q E G h=>?_);let{W,ls,os,ts,m,x,y,rfl,F0,Y,kq,kx,ky}:=h;let{xl,A0,L0}:=id F0;let{dq,fs,pr,ps,pt,pb,xr,xs,xt,xb,h0,{lL,lR,lS,lT,lB},{h1,h2,h3,h4},r1,r2,r3,r4}:=A0.ex;show{_,(J0 (pst Jd1 3 (pcl L G Jg (dZ (pv 0) (dZ (pv 1) J1))))
  (J0 (pst Jd1 4 (pcl L G Jg (dZ (pv 0) (dZ (pv 2) J1))))
  (J0 (J1a (Jk J6w (Js Jl (pv 3) J9) (Js Jl (pv 4) J9) (Jp _)) (J3 (Jd J7x)) Jo)
  (J0 (pst Jd1 5 (Js Jl (J8 (pv 0)) (Js Jl (pv 3) J9)))
  (J0 (pst Jd1 6 (Jj J1j (Js Jl (pv 4) J9) (Js Jl (pv 3) J9)))
  (J0 (J1a (Jk J44 (Js Jl (pv 3) J9) (Js Jl (pv 4) J9) (Jp _)) (J3 (Jd (Jj J3c (pv 6) (pcl J G Jg (dZ (pv 5) (dZ (Js Jl (pv 3) J9) J1)))))) Jo)
  (J0 (J1a (PW.pt (Jgy (J25 (Js Jl (pv 5) J9)) (Jbn (Jk J44 (Js Jl (pv 4) J9) (pcl Z G Jg (dZ (pv 5) (dZ (Js Jl (pv 3) J9) J1))) (Jp _))))) (J3 (Jd (Jj J3c (Jj J12 (pv 6) (Js Jl (pv 5) J9)) (pcl J G Jg (dZ (pv 5) (dZ (Js Jl (pv 3) J9) J1)))))) Jo)
  (J3 (Jd J7x))))))))),?_}
 show{_,rfl,_,rfl,W,ls,os,ts,m,x,rfl,F0,Y,fun p b o lv H1 s1 u N ep=>?_,kx};show{_,rfl,_,rfl,W,ls,os,ts,m,y,rfl,F0.same s1,Y,fun O b2 P D H2 s2 r M I=>?_,ky};have i:=s1.trans s2;have u:=s2 _ _ u;have S:=Y.sys;let{B,X,a}:=r4.at_ b N.hb;have a:H B=some (.tup (Ja9 ((bsC ls os ts m).getD b bz0))):=a;have a:=i _ _ a;let{R,p1}:=S.rnd N;have v:=fun(d:Int)=>@Sys.bet_some _ _ _ S _ _ _ _ _ _ N M d;have l:=S.bet_none N M;rw[ep,I] at l;have w:betO (bsC ls os ts m) b o lv b2 P D=none->Q .non H2:=fun e=>kq _ _ i {fun _ h9=>by let{n,q}:=h9;show l e n q,fun _=>rfl};have g:∀{d:Int},betO (bsC ls os ts m) b o lv b2 P D=some d->Q (.int d) H2:=fun {d} e=>by
  let{d0,d1,de}:=v d e;rw[ep,I] at de;show kq _ _ i {fun z=>(nomatch z),fun z=>absurd {_,de} z}
 unfold betO at w g;show{_,rfl,p,_,_,_,rfl,rfl,SqT.of u,Jc (j:=0) rfl,_,rfl,O,_,_,_,rfl,rfl,SqT.of r,Jc (j:=0) rfl,rfl,_,rfl,?_};by_cases U:b=b2
 case neg =>
  show J77 (by rw[yD (fun e=>U (by have:=V.int.inj e;lia))];rfl) ?_;show w (if_pos U)
 show Jfn (by rw[U]) ?_;rw[if_neg (fun h=>h U)] at w g;have aa:=S.high N.hb;generalize hc:(bsC ls os ts m).getD b bz0=c at *;show{_,rfl,W,CH,dq,fs,_,rfl,i _ _ h0,TH.cl,TH.nB,lB,_,rfl,p,_,_,_,rfl,rfl,SqT.of u,Jc (j:=0) rfl,pb,_,_,_,rfl,rfl,SqT.of (i _ _ h4),Jc X,?_};show{_,rfl,O,_,_,_,rfl,rfl,SqT.of r,Jc (j:=2) rfl,_,rfl,p,_,_,_,rfl,rfl,SqT.of u,Jc (j:=2) rfl,_,_,rfl,rfl,?_};show{_,rfl,p,_,_,_,rfl,rfl,SqT.of u,Jc (j:=1) rfl,_,rfl,O,_,_,_,rfl,rfl,SqT.of r,Jc (j:=1) rfl,rfl,_,rfl,?_};by_cases co:o=P
 .show J31 (zP V.int co) ?_;show{_,rfl,_,rfl,_,rfl,p,_,_,_,rfl,rfl,SqT.of u,Jc (j:=1) rfl,B,c,o,rfl,a,_,_,rfl,rfl,(show 0<lenR c o by lia),g (if_pos co)}
 show iteD (fun e=>co (V.int.inj e)) ?_;rw[if_neg co] at w g;show{_,rfl,B,_,_,_,rfl,rfl,SqT.of a,Jc (j:=3) rfl,_,rfl,?_};by_cases ct:c.2.2.2=true
 .show J77 ct ?_;show{_,rfl,O,_,_,_,rfl,rfl,SqT.of r,Jc (j:=1) rfl,_,rfl,_,rfl,p,_,_,_,rfl,rfl,SqT.of u,Jc (j:=1) rfl,B,c,o,rfl,a,rfl,_,rfl,?_};by_cases T:P=c.2.1-1-o
  .show J31 (zP V.int T) ?_;show{_,rfl,_,rfl,B,_,_,_,rfl,rfl,SqT.of a,Jc (j:=2) rfl,_,_,rfl,rfl,_,rfl,_,rfl,p,_,_,_,rfl,rfl,SqT.of u,Jc (j:=1) rfl,B,c,o,rfl,a,_,_,rfl,rfl,(show 0<lenR c o by lia),g (if_pos {ct,T})}
  .show iteD (fun e=>T (V.int.inj e)) (w (if_neg fun h=>T h.2))
 .show J6d ct (iteF (w (if_neg fun h=>ct h.1)))
end
section
variable [En]
structure Jef(K:Frag)(CW:Addr):Prop where
 cl:Cls K CW
 nF:J17 K CW "first"
 nL:J17 K CW "length"
 nA:J17 K CW "laid"
 nT:J17 K CW "turned"
inductive SrAt(CW:Addr)(H:Hp)(x:Addr)(s:Sr):Prop
 | mk(a:Addr)(fs:List (Str×V))(_:H x=some (.ins CW a fs))(_:fs.lookup ("first":Str)=some (.int s.fi))(_:fs.lookup ("length":Str)=some (.int s.le))(_:fs.lookup ("laid":Str)=some (.int s.la))(_:fs.lookup ("turned":Str)=some (.bl s.tu))
theorem SrAt.ex(h:SrAt CW H x s):SrAt CW H x s:=h
theorem SrAt.same(h:SrAt CW H x s)(k:Same H H'):SrAt CW H' x s:=
 by let{b,fs,a,r,t,u,v}:=h;show{b,fs,k _ _ a,r,t,u,v}
theorem SrAt.keep(h:SrAt CW H x s)(hd:x≠d)(k:∀b u,H b=some u->b≠d->H' b=some u):SrAt CW H' x s:=
 by let{c,fs,a,r,t,u,v}:=h;show{c,fs,k _ _ a hd,r,t,u,v}
inductive spSr(CW:Addr)(vs:List V)(H:Hp)(Q:VK)(E:XK):Prop
 | mk(x c:Addr)(f l a:Int)(t:Bool)(_:vs=[.ref x,.int f,.int l,.int a,.bl t])(_:H x=some (.ins CW c []))(_:∀b,SrAt CW b x ⟨f,l,a,t&&decide (1<l)⟩->J27 x H b->Q .non b)
theorem Jog:Jt ["self","first","length","laid","turned"] ["self","first","length","laid","turned"] (Je (Jb (top 54) 0)):=fsc
theorem ok_sr(F:Fun K "__init__" "Stretch.__init__" (Jb (top 54) 0) f fd)(e:Jef K CW):
  FnOk P w K mg base CX0 1 f fd ["self","first","length","laid","turned"] (spSr CW):=by
 show F.ok1 Jog (fun d A o s H vs Q E z h=>?_);let{x,c,f,l,a,t,rfl,q,k}:=h;show{_,(J0 (J1s (pv 0) (pv 1) rfl)
  (J0 (J1s (pv 0) (pv 2) rfl)
  (J0 (J1s (pv 0) (pv 3) rfl)
  (J3 (J1s (pv 0) (Jrq (pv 4) (Jkr (J69 J6x (pv 2) J9 (Jp _)))) rfl))))),?_}
 show{_,rfl,_,rfl,x,CW,c,[],rfl,q,e.cl,e.nF,(by change 0<1000;decide),?_};generalize hfs1:putF ("first":Str) (.int f) []=fs1;generalize hH1:upd H x (.ins CW c fs1)=H1;have l1:fs1.length<=1:=by rw[<- hfs1];show J21 ..
 have p:J27 x H H1:=by rw[<- hH1];show J27.upd
 have j:H1 x=some (.ins CW c fs1):=by rw[<- hH1];show J2
 show{_,rfl,_,rfl,x,CW,c,fs1,rfl,j,e.cl,e.nL,(),?_};generalize hfs2:putF ("length":Str) (.int l) fs1=fs2;generalize hH2:upd H1 x (.ins CW c fs2)=H2;have y:fs2.length<=2:=by rw[<- hfs2];have:=J21 ("length":Str) (.int l) fs1;lia
 have n:J27 x H1 H2:=by rw[<- hH2];show J27.upd
 have i:H2 x=some (.ins CW c fs2):=by rw[<- hH2];show J2
 show{_,rfl,_,rfl,x,CW,c,fs2,rfl,i,e.cl,e.nA,(),?_};generalize hfs3:putF ("laid":Str) (.int a) fs2=fs3;generalize hH3:upd H2 x (.ins CW c fs3)=H3;have v:fs3.length<=3:=by rw[<- hfs3];have:=J21 ("laid":Str) (.int a) fs2;lia
 have m:J27 x H2 H3:=by rw[<- hH3];show J27.upd
 have g:H3 x=some (.ins CW c fs3):=by rw[<- hH3];show J2
 have fin:∀b:Bool,b=(t&&decide (1<l))->sFld K (tVar 0) (tC (.bl b)) "turned" { nx:=fun _ u=>Q .non u,rt:=Q } (start ["self","first","length","laid","turned"] [.ref x,.int f,.int l,.int a,.bl t]) H3:=fun b r=>by
  show{_,rfl,x,CW,c,fs3,rfl,g,e.cl,e.nT,(),?_};show k _ {c,_,J2,?_,?_,?_,by rw[Jbx,r]} (p.trans (n.trans (m.trans J27.upd)))
  .rw[Jby (by decide +kernel),<- hfs3,Jby (by decide +kernel),<- hfs2,Jby (by decide +kernel),<- hfs1,Jbx]
  .rw[Jby (by decide +kernel),<- hfs3,Jby (by decide +kernel),<- hfs2,Jbx]
  .rw[Jby (by decide +kernel),<- hfs3,Jbx]
 show{_,rfl,t,rfl,?_}
 cases t with
 | true =>
  show{_,rfl,_,_,rfl,rfl,fin _ (by simp)}
 | false =>
  show fin false rfl
theorem Jeo{Q:VK}(k:∀p d,Same H d->SrAt CW d p {f,l,a,t&&decide (1<l)}->(∀b u,H b=some u->p≠b)->Q (.ref p) d):
  ∀x c,H x=none->H c=none->c≠x->spSr CW (.ref x::([.int f,.int l,.int a,.bl t]++[])) (upd (upd H c (.own x)) x (.ins CW c [])) (fun v m=>v=.non/\Q (.ref x) m) E0:=fun x c g i h=>by
 have j:=(J7 (o:=.own x) i).trans (J7 (l:=x) (o:=.ins CW c []) (by rw[Jf (Ne.symm h)];show g));show{x,c,f,l,a,t,rfl,J2,fun d S kp=>{rfl,k x d (fun b u e=>kp _ _ (j _ _ e) (Ja e g)) S fun b u e z=>Ja e g z.symm}}
inductive Jgo(CW:Addr)(vs:List V)(H:Hp)(Q:VK)(E:XK):Prop
 | mk(q:Addr)(s:Sr)(_:vs=[.ref q])(_:SrAt CW H q s)(_:Q (.int (fgo s)) H)
inductive Jjy(CW:Addr)(vs:List V)(H:Hp)(Q:VK)(E:XK):Prop
 | mk(q:Addr)(s:Sr)(_:vs=[.ref q])(_:SrAt CW H q s)(_:Q (.int (lgo s)) H)
inductive Jk0(CW:Addr)(vs:List V)(H:Hp)(Q:VK)(E:XK):Prop
 | mk(p q:Addr)(a b:Sr)(_:vs=[.ref p,.ref q])(_:SrAt CW H p a)(_:SrAt CW H q b)(_:Q (.bl (gtog a b)) H)
inductive Jjx(CW:Addr)(vs:List V)(H:Hp)(Q:VK)(E:XK):Prop
 | mk(p q:Addr)(a b:Sr)(_:vs=[.ref p,.ref q])(_:SrAt CW H p a)(_:SrAt CW H q b)(_:∀r c,Same H c->SrAt CW c r (mk1 a b)->(∀b u,H b=some u->r≠b)->Q (.ref r) c)
theorem Jos:FS1 ["stretch"] Ja1:=fsc
theorem Jln(F:Fn1 Ja1)(a:Jef K CW):
  Ca1 1 Ja1 (Jgo CW):=by
 show F.ok Jos (fun f d A o s H vs Q E n h=>?_);let{q,s0,rfl,m,k}:=h;let{c,b,g,p,l,i,j}:=m.ex;show{_,(J3 (Jd (J3f (J25 (J8 (pv 0))) (Jj J1j (Jj J12 (J8 (pv 0)) (J8 (pv 0))) J9) (J8 (pv 0))))),?_};show{_,rfl,q,CW,c,b,_,rfl,g,a.cl,a.nT,j,s0.tu,rfl,?_};unfold fgo at k;by_cases e:s0.tu=true
 .rw[if_pos e] at k ⊢;show{_,rfl,q,CW,c,b,_,rfl,g,a.cl,a.nA,i,_,rfl,q,CW,c,b,_,rfl,g,a.cl,a.nL,l,_,_,rfl,rfl,_,_,rfl,rfl,k}
 .rw[if_neg e] at k ⊢;show{_,rfl,q,CW,c,b,_,rfl,g,a.cl,a.nA,i,k}
theorem Jt1:FS1 ["stretch"] Jdx:=fsc
theorem Jpx(F:Fn1 Jdx)(a:Jef K CW):
  Ca1 1 Jdx (Jjy CW):=by
 show F.ok Jt1 (fun f d A o s H vs Q E n h=>?_);let{q,s0,rfl,m,k}:=h;let{c,b,g,p,l,i,j}:=m.ex;show{_,(J3 (Jd (J3f (J25 (J8 (pv 0))) (J8 (pv 0)) (Jj J1j (Jj J12 (J8 (pv 0)) (J8 (pv 0))) J9)))),?_};show{_,rfl,q,CW,c,b,_,rfl,g,a.cl,a.nT,j,s0.tu,rfl,?_};unfold lgo at k;by_cases e:s0.tu=true
 .rw[if_pos e] at k ⊢;show{_,rfl,q,CW,c,b,_,rfl,g,a.cl,a.nA,i,k}
 .rw[if_neg e] at k ⊢;show{_,rfl,q,CW,c,b,_,rfl,g,a.cl,a.nA,i,_,rfl,q,CW,c,b,_,rfl,g,a.cl,a.nL,l,_,_,rfl,rfl,_,_,rfl,rfl,k}
theorem Jt3:FS1 ["one","two"] Jdz:=fsc
theorem Jq1(F:Fn1 Jdz)(c:mg "abs"=none)(i:Ca1 1 Ja1 (Jgo CW))(g:Ca1 1 Jdx (Jjy CW)):
  Ca1 2 Jdz (Jk0 CW):=by
 show F.ok Jt3 (fun f d A o s H vs Q E j h=>?_);let{p,q,a,b,rfl,m,l,k}:=h;show{_,(J3 (Jd (J69 J44 (J1d Jr0 (by rfl) c PyProof.Rows.boot_abs (dZ (Jj J1j (pcl i j Jg (dZ (pv 1) J1)) (pcl g j Jg (dZ (pv 0) J1))) J1)) J9 (Jp _)))),?_};show{_,rfl,q,b,rfl,l,_,rfl,p,a,rfl,m,_,_,rfl,rfl,_,rfl,?_};have e:decide (V.int (if fgo b-lgo a<0 then -(fgo b-lgo a) else fgo b-lgo a)=V.int 1)=gtog a b:=by unfold gtog;simp only[V.int.injEq]
 show{rfl,by rw[e];show k}
theorem Jsx:FS1 ["one","two"] Jdv:=fsc
theorem Jpt(F:Fn1 Jdv)(c:Jef K CW)(e:mg "min"=none)(n:Mak CX0 1 "Stretch" CW ["self","first","length","laid","turned"] [] (spSr CW)):
  Ca1 3 Jdv (Jjx CW):=by
 show F.ok Jsx (fun f d A o s H vs Q E y h=>?_);let{p,q,a,b,rfl,I,G,k}:=h;let{i,g,j,C,B,w,M}:=I.ex;let{m,l,u,L,z,v,J}:=G.ex;show{_,(J3 (Jd (pmk n y Jg (dZ (J8 (pv 0)) (dZ (Jj J12 (J8 (pv 0)) (J8 (pv 1))) (dZ (J1d (Ja8 rfl) (by rfl) e boot_min (dZ (J8 (pv 0)) (dZ (J8 (pv 1)) J1))) (dZ (J69 J95 (J8 (pv 1)) (J8 (pv 0)) (Jp _)) J1))))))),?_};show{_,rfl,p,CW,i,g,_,rfl,j,c.cl,c.nF,C,_,rfl,p,CW,i,g,_,rfl,j,c.cl,c.nL,B,_,rfl,q,CW,m,l,_,rfl,u,c.cl,c.nL,z,_,_,rfl,rfl,_,rfl,p,CW,i,g,_,rfl,j,c.cl,c.nA,w,_,rfl,q,CW,m,l,_,rfl,u,c.cl,c.nA,v,_,_,rfl,_,rfl,q,CW,m,l,_,rfl,u,c.cl,c.nA,v,_,rfl,p,CW,i,g,_,rfl,j,c.cl,c.nA,w,_,_,rfl,rfl,Jeo fun r D s' R fr=>k r D s' R fr}
inductive Jju(C CW:Addr)(vs:List V)(H:Hp)(Q:VK)(E:XK):Prop
 | mk(x:Addr)(ls:List Int)(os:List Nat)(ts:List Bool)(_:vs=[.ref x])(_:J29 C H x ls os ts)(_:ls.length<=24)(_:ts.length=ls.length)(_:∀d ys a,Same H a->a d=some (.lst ys)->Refs (fun q i=>SrAt CW a q (srO ls os ts i)) ys ls.length->Q (.ref d) a)
theorem Jsm:FS1 ["line"] Jdq:=fsc
theorem Jpi{C CW:Addr}(F:Fn1 Jdq)(a:TxtC K mg C)(b:mg "enumerate"=none)(u:Mak CX0 1 "Stretch" CW ["self","first","length","laid","turned"] [] (spSr CW)):
  Ca1 3 Jdq (Jju C CW):=by
 show F.ok Jsm (fun f d A o s H vs Q E N h=>?_);let{x,ls,os,ts,rfl,U,Z,M,k}:=h;let{j,g,pl,po,pt,ps,B,e,{L,Y,J,I,G,X},z,e2,T,S,P}:=U.ex;show{_,(J3 (Jd (pe_lc2 (caps:=["line"]) (js:=[0]) rfl (Jf5 rfl b (dZ (J8 (pv 0)) J1)) rfl (fun _ _ _ _=>J4i) (fun C fp s H=>(pmk u N Jg (dZ (J65 (J5d K) (J7y K (pv 2)) (pv 0)) (dZ (pv 1) (dZ (J65 (J5d K) (J7y K (pv 2)) (pv 0)) (dZ (J65 (J5d K) (J7y K (pv 2)) (pv 0)) J1))))))))),?_};show{_,rfl,x,C,j,g,_,rfl,e,a.cl,a.nL,L,pl,rfl,{_,SqT.of z},fun d hd=>Jqj (iV ls) (fun H q i=>SrAt CW H q (srO ls os ts i)) (SqT.of z) (by rw[J2i];show yJ (Jq ())) hd (fun H l q i kd O A=>A.keep O kd) (fun i v y H1 Qe c n D=>?_) (fun ys l s' p w=>k d ys l s' p (by rw[J2i] at w;show w))};have hi:i<ls.length:=by have:=(gSm y);rwa [J2i] at this
 obtain rfl:V.int (ls.getD i 0)=v:=zV ((J19 hi).symm.trans y);let{W,m}:=n;show{_,rfl,x,C,j,g,_,rfl,c _ _ e,a.cl,a.nS,I,_,rfl,ps,_,_,_,rfl,rfl,SqT.of (c _ _ S),Jc (J19 (by rw[J35];show hi)),_,rfl,_,rfl,x,C,j,g,_,rfl,c _ _ e,a.cl,a.nD,G,_,rfl,B,_,_,_,rfl,rfl,SqT.of (c _ _ P),Jc (J19 (by rw[J35];show hi)),_,rfl,x,C,j,g,_,rfl,c _ _ e,a.cl,a.nT,J,_,rfl,pt,_,_,_,rfl,rfl,SqT.of (c _ _ T),Jc (J86 (by rw[M];show hi)),Jeo fun r l s' R fr=>D r l s' (fr _ _ m) R}
end
section
variable [En]
structure J2e(CW:Addr)(H:Hp)(ys:List V)(ss:List Sr):Prop where
 len:ys.length=ss.length
 at_:∀(i:Nat) (s:Sr),ss[i]?=some s->∃q,ys[i]?=some (.ref q)/\SrAt CW H q s
theorem J2e.same(h:J2e CW H ys ss)(k:Same H H'):J2e CW H' ys ss:={h.len,fun i s e=>by let{q,b,a}:=h.at_ i s e;show{q,b,a.same k}}
theorem J2e.keepD(h:J2e CW H ys ss)(a:H d=some (.lst xs))(k:∀b u,H b=some u->b≠d->H' b=some u):J2e CW H' ys ss:=
 {h.len,fun i s e=>let ⟨q,e1,e2⟩:=h.at_ i s e;{q,e1,e2.keep (by
  let{_,_,c,_}:=e2.ex
  grind) k}}
theorem J2e.snoc{CW:Addr}{H:Hp}{ys:List V}{a:List Sr}{q:Addr}{s:Sr}(h:J2e CW H ys a)(A:SrAt CW H q s):J2e CW H (ys++[.ref q]) (a++[s]):=by
 have b:=h.len;show{by simp[b],fun i t e=>?_};rcases Nat.lt_or_ge i a.length with hi|hi
 .rw[yQ hi] at e;let{p,g,f}:=h.at_ i t e;show{p,by rw[yQ ()];show g,f}
 .rw[yP hi] at e;let{d,j}:=wP.mp e;have c:i-a.length=0:=by simpa using d
  rw[c] at e;cases e;show{q,by rw[yP (),b,c];rfl,A}
theorem J2e.init(h:J2e CW H ys ss):J2e CW H ys.dropLast ss.dropLast:=by
 have a:=h.len;show{by simp[a],fun i t e=>?_};rw[List.getElem?_dropLast] at e;by_cases hi:i<ss.length-1
 .rw[if_pos hi] at e;let{p,c,b}:=h.at_ i t e;show{p,by rw[List.getElem?_dropLast,if_pos ()];show c,b}
 .rw[if_neg hi] at e;cases e
theorem Joa{α:Type}{ys:List α}{x:α}(h:ys≠[]):ys.set (ys.length-1) x=ys.dropLast++[x]:=by
 rcases List.eq_nil_or_concat ys with rfl|⟨l,b,rfl⟩
 .simp_all
 .simp_all
theorem Jhh(h:1<=n):ixN n (-1)=some (n-1):=by
 unfold ixN
 grind
theorem J7i{α:Type}{xs:List α}{x:α}(h:xs[j]?=some x):xs.take (j+1)=xs.take j++[x]:=by
 let{a,e}:=wP.mp h;rw[<- e];show(vC a).symm
theorem Jm3{a:List Sr}(h:a[i]?=some s):lgst (a.take (i+1))=lstp (lgst (a.take i)) s:=by
 unfold lgst;rw[J7i h,List.foldl_append];rfl
theorem Jqf(acc:List Sr)(s:Sr):(lstp acc s).length<=acc.length+1:=by
 unfold lstp
 cases e:acc.getLast? with
 | none=>simp
 | some a=>dsimp only;split <;> simp
theorem Jhp:∀(a acc:List Sr),(a.foldl lstp acc).length<=acc.length+a.length
 | [],acc=>zD _
 | s::r,acc=>by
  have c:=Jhp r (lstp acc s);have b:=Jqf acc s
  grind
theorem Jhd(a:List Sr):(lgst a).length<=a.length:=by
 have:=Jhp a [];rw[List.length_nil,Nat.zero_add] at this;show this
def PvL(CW l d:Addr)(c:List Sr)(H:Hp)(i:Nat)(σ:St)(a:Hp):Prop:=∃v b,σ=[some (.ref l),some (.ref d),v]/\a d=some (.lst b)/\J2e CW a b (lgst (c.take i))/\Same H a
inductive Jcp(CW:Addr)(vs:List V)(H:Hp)(Q:VK)(E:XK):Prop
 | mk(l:Addr)(ys:List V)(b:List Sr)(_:vs=[.ref l])(_:H l=some (.lst ys))(_:J2e CW H ys b)(_:b.length<=1000)(_:∀d c a,Same H a->a d=some (.lst c)->J2e CW a c (lgst b)->Q (.ref d) a)
theorem J90:FS1 ["stretches","told","stretch"] J7c:=fsc
theorem Jip(F:Fn1 J7c)(N:Ca1 2 Jdz (Jk0 CW))(M:Ca1 3 Jdv (Jjx CW)):
  Ca1 4 J7c (Jcp CW):=by
 show F.ok J90 (fun f d A o s H vs Q E S h=>?_);let{l,ys,w,rfl,T,B,hn,k}:=h;show{_,(J0 (pst J90 1 (J1z J1))
  (J0 (J2h yH rfl (J1i (pv 0)) (pgm J90 2)
   (J3 (J1a (PW.pt (Jgy (Jpb (pv 1) (fun _=>rfl)) (Jbn (J25 (pcl N S Jg (dZ (Js J3b (pv 1) (Jd9 J7t J9)) (dZ (pv 2) J1))))))) (J3 (Jao (pcl M S Jg (dZ (Js J3b (pv 1) (Jd9 J7t J9)) (dZ (pv 2) J1))) (Jd8 (pv 1) (Jd9 J7t J9) J6p))) (J3 (J18 (J3w yI xE xF J1g (pv 1) (dZ (pv 2) J1)))))))
  (J3 (Jd (pv 1))))),?_}
 show{by change 0<=sizeLine;show zO _,fun d hd=>?_};have s0:=J7 (o:=.lst []) hd;show{_,rfl,l,rfl,{_,SqL.of (s0 _ _ T)},J2m (K:=K) (a:=l) (xs:=ys) (PvL CW l d w H) {none,[],rfl,J2,{rfl,fun i s e=>by simp[lgst] at e},s0} (fun i σ C _ h9=>by let{_,_,_,_,_,s}:=h9;show SqL.of (s _ _ T)) (fun i y σ C P pv=>?_) (fun σ C ⟨v,c,e,h,p,s⟩=>?_)}
 .let{v,c,rfl,j,p,I}:=pv;have hi:i<w.length:=by rw[<- B.len];show(gSm P)
  have X:=gEq hi;let{q,eq,As}:=B.at_ i _ X;obtain rfl:V.ref q=y:=zV (eq.symm.trans P);generalize w[i]=t0 at *;have m:=As.same I;have nx:=Jm3 X;have zl:(lgst (w.take i)).length<=1000:=zM (Jhd _) (by rw[xQ];lia);generalize lgst (w.take i)=acc at *;have Z:=p.len;have nd:∀b u,H b=some u->b≠d:=fun b u e=>Ja e hd;have app:lstp acc t0=acc++[t0]->PvL CW l d w H (i+1) [some (.ref l),some (.ref d),some (.ref q)] (upd C d (.lst (c++[.ref q]))):=fun e=>by
   show{_,_,rfl,J2,?_,fun b u x=>by rw[Jf (nd b u x)];show I _ _ x};rw[nx,e];have kp:∀b u,C b=some u->b≠d->upd C d (.lst (c++[.ref q])) b=some u:=fun b u x n=>by rw[Jf n];show x
   show(p.keepD j kp).snoc (m.keep (by
    intro z;let{_,_,U,_}:=m.ex;rw[z,j] at U;cases U) kp)
  by_cases D:c=[]
  .have ae:acc=[]:=List.eq_nil_of_length_eq_zero (by rw[<- Z,D];rfl);show{_,rfl,false,.inl {c,SqL.of j,by rw[D];rfl},iteF (iteF {_,rfl,.inl {rfl,_,SqL.of j},_,rfl,d,c,_,rfl,rfl,j,xB () (Jq (zD _)),app (by rw[ae];rfl)})}
  .have O:1<=c.length:=by cases c with|nil=>show absurd rfl D|cons a r=>simp
   have Y:acc[acc.length-1]?=some (acc[acc.length-1]'()):=gEq _;let{J,L,Aa}:=p.at_ _ _ Y;have W:acc.getLast?=some (acc[acc.length-1]'()):=by rw[List.getLast?_eq_getElem?];show Y
   generalize acc[acc.length-1]'()=a0 at *;have lst:atI c (-1)=some (.ref J):=by
    unfold atI;rw[Jhh O,Z];show L
   show{_,rfl,true,.inl {c,SqL.of j,by cases c with|nil=>show absurd rfl D|cons a r=>rfl},iteT {_,rfl,1,rfl,d,c,_,_,rfl,rfl,SqL.of j,lst,_,rfl,J,q,a0,t0,rfl,Aa,m,gtog a0 t0,rfl,?_}};by_cases g:gtog a0 t0=true
   .change if gtog a0 t0=true then _ else _
    rw[if_pos g];show{_,rfl,1,rfl,d,c,_,_,rfl,rfl,SqL.of j,lst,_,rfl,J,q,a0,t0,rfl,Aa,m,fun r H3 G R fr=>{_,rfl,1,rfl,d,c,_,c.length-1,rfl,rfl,G _ _ j,Jhh O,?_}};show{_,_,rfl,J2,?_,fun b u x=>by rw[Jf (nd b u x)];show G _ _ (I _ _ x)};have el:lstp acc t0=acc.dropLast++[mk1 a0 t0]:=by unfold lstp;rw[W];show if_pos g
    have kp:∀b u,H3 b=some u->b≠d->upd H3 d (.lst (c.set (c.length-1) (.ref r))) b=some u:=fun b u x n=>by rw[Jf n];show x
    have R':=R.keep (fr _ _ j) kp;have A3:=((p.same G).keepD (G _ _ j) kp).init.snoc R';rw[nx,el];rw[<- Joa D] at A3;show A3
   .change if gtog a0 t0=true then _ else _
    rw[if_neg g];show{_,rfl,.inl {rfl,_,SqL.of j},_,rfl,d,c,_,rfl,rfl,j,xB () (Jq (zD _)),app (by unfold lstp;rw[W];show if_neg g)}
 .subst e;rw[B.len,xS] at p;show{_,rfl,k d c C s h p}
end
section
variable [En]
def lamP:Stmt->Pos
 | .Assign _ (.Call _ _ [⟨_,.Lambda _ _ _ p,_⟩] _) _=>p
 | _=>{0,0,0,0}
abbrev lpLO:Pos:=lamP ((J1n (top 61)).getD 0 (.Pass {0,0,0,0}))
theorem J2e.sameT(h:J2e CW H ys ss)(k:J3i H H'):J2e CW H' ys ss:={h.len,fun i s e=>by let{q,c,b}:=h.at_ i s e;show{q,c,by let{d,fs,a,r,t,u,v}:=b;show{d,fs,k _ _ a rfl,r,t,u,v}}}
theorem Same.t(s:Same H H'):J3i H H':=fun b u e _=>s b u e
theorem J3i.trans(a:J3i H H1)(b:J3i H1 H2):J3i H H2:=fun c u e z=>b c u (a c u e z) z
theorem J1t{P:Addr}(h:J2a H P pos q)(s:Same H H'):J2a H' P pos q:=
 by let{ps,j,i,g}:=h.ex;show{ps,s _ _ j,i,fun l e=>by let{c,f,vs,t,d,b,a}:=g l e;show{c,f,vs,t,d,s _ _ b,a}}
theorem lc_idx{K:Frag}(ys:List V)(f:Nat->V)(e:SqL K H1 a ys)(j:ys.length<=1000)(hd:H1 d=none)(l:∀(i:Nat) (v:V),ys[i]?=some v->∀H c,Same H1 H->(∀b,Same H b->c (f i) b)->te (some v::capv σ js) H c)(g:∀b,Same H1 b->b d=some (.lst ((List.range ys.length).map f))->Q (.ref d) b):LCW (Itl K a) tYes te σ js Q H1 d:=
 Jc1 ys.length (fun _=>true) f hd j (fun i H hi s=>{_,_,s.seq e,gEq hi}) (fun H s=>{_,s.seq e,zD _}) (fun i=>(ys[i]?).getD .non)
  (fun i H v b hi s y=>{y.1,by rw[y.2 _ (s.seq e)];rfl}) (fun i H m hi s k=>k H (Same.refl _))
  (fun i H c hi _ s k=>by
   rw[gEq hi];show l i _ (gEq hi) H c s k) (fun b s h=>g b s (by rw[J5y] at h;show h))
theorem Jkn{α β:Type}(xs:List α)(g:α->β)(f:Nat->β)(h:∀i x,xs[i]?=some x->f i=g x):(List.range xs.length).map f=xs.map g:=by
 apply wX;intro i;by_cases hi:i<xs.length
 .simp_all
 .simp_all
theorem Jjl(ks:List Int):ks.zip ((List.range ks.length).map fun(i:Nat)=>V.int (i:Int))=(List.range ks.length).map fun(i:Nat)=>(ks.getD i 0,V.int (i:Int)):=by
 apply wX;intro i;by_cases hi:i<ks.length
 .simp_all
 .simp_all
def J5l(P:Addr)(H a:Hp):Prop:=∀(Q:Addr) (pos:Pos) (q:Str),Q≠P->J2a H Q pos q->J2a a Q pos q
theorem J5l.same{P:Addr}(s:Same H H'):J5l P H H':=fun _ _ _ _ t=>J1t t s
theorem J5l.trans{P:Addr}(a:J5l P H H1)(b:J5l P H1 H2):J5l P H H2:=fun Q p q n t=>b Q p q n (a Q p q n t)
inductive Jbf(C CW TB:Addr)(c:Str)(vs:List V)(H:Hp)(Q:VK)(E:XK):Prop
 | mk(l:Addr)(ys:List V)(a:List Sr)(_:vs=[.ref l])(_:H l=some (.lst ys))(_:J2e CW H ys a)(_:J2a H TB lpLO c)(_:a.length<64)(_:(∀os:List Nat,os.Perm (List.range a.length)->os.Pairwise (fun i j=>(a.map Sr.la).getD i 0<=(a.map Sr.la).getD j 0)->Good (a.map Sr.le) os/\∀x b,J3i H b->J2a b TB lpLO c->J5l TB H b->J29 C b x (a.map Sr.le) os (a.map Sr.tu)->Q (.ref x) b))
theorem Jbk:Jt ["stretches","order","lengths"] ["stretches"] (Je (top 61)):=fsc
theorem Jli{f C CW TB cc:Addr}{fd:FuncData}(F:Fun K "line_of" "line_of" (top 61) f fd)(T:TxtR mg)(j:mg "sorted"=none)(X:Jef K CW)(J:fd.code=.ref cc)(CD:PySem.W.codeHdIn K cc TB=true)(BL:Jcj base mg TB)(cI:Mak CX0 3 "Line" C ["self","lengths","order","turned"] [] (Jgm C)):
  FnOk P w K mg base CX0 5 f fd ["stretches"] (Jbf C CW TB "line_of.<locals>.<lambda>"):=by
 show F.okK J Jbk (fun vs H Q E h=>?_) (fun A outer s H vs Q E hr h=>?_)
 .let{l,ys,a,rfl,_}:=h;rfl
 .let{l,ys,a,rfl,hl,B,TT,hn,k}:=h;show{_,(J0 (pst Jbk 1 (Jh0 (x:="piece") (caps:=["stretches"]) (js:=[0]) rfl (hr.mono (by decide)) (by rfl) j rfl rfl rfl CD BL {rfl,rfl,rfl,by decide +kernel,rfl,(by intro p hp;simp only[zI,yS,vE] at hp;rcases hp with rfl;rfl),J3r.get rfl,rfl,fun k c e=>match k,e with|0,e=>by cases e;show{0,_,rfl,rfl,rfl,rfl,rfl}|k+1,e=>by simp at e} (fun _ _ _ _=>rfl) (fun A f c s H=>(J7y K (J65 (Jhg K) (pv 1) (pv 0)))) (J2z J7e (by rfl) T.range tX (dZ (pcb Jm T.len (pv 0)) J1))))
   (J0 (ps_lc (i:=2) (caps:=[]) (js:=[]) Jbk.nd rfl (Or.inl rfl) rfl (J1i (pv 0)) rfl (fun _ _ _ _=>J4i) (fun C fp s H=>(J7y K (pv 0))))
   (J3 (Jd (pmk cI hr Jg (dZ (pv 2) (dZ (pv 1) (dZ (Jbs (caps:=[]) (js:=[]) rfl (J1i (pv 0)) rfl (fun _ _ _ _=>J4i) (fun C fp s H=>(J7y K (pv 0)))) J1)))))))),?_}
  have bl:=B.len;show{_,rfl,l,ys,rfl,.inl (SqL.of hl),_,rfl,fun r ab=>?_};have I:=J7 (o:=.rng 0 (ys.length:Int)) ab;show{r,(List.range a.length).map fun(i:Nat)=>V.int (i:Int),a.map Sr.la,rfl,.inr {ys.length,J2,by rw[bl]},(by rw[zB,yC];show hn),(by simp),J1t TT I,fun S M i y z ey ek=>?_,fun S lo zs M T2 TQ ad pm pw=>?_}
  .have hi:i<a.length:=by have:=(gSm ey);simpa using this
   rw[zY,tQ hi] at ey;cases ey;let{q,eq,Aq}:=B.at_ i _ (gEq hi);rw[zY,gEq hi] at ek;cases ek;let{R,fs,h0,lF,lL,lA,lT}:=Aq.ex;show{_,rfl,_,rfl,l,ys,_,_,rfl,rfl,SqL.of (M _ _ (I _ _ hl) rfl),Jc eq,q,CW,R,fs,_,rfl,M _ _ (I _ _ h0) rfl,X.cl,X.nA,lA,rfl,rfl}
  have zr:(a.map Sr.la).zip ((List.range a.length).map fun(i:Nat)=>V.int (i:Int))=(List.range a.length).map fun(i:Nat)=>((a.map Sr.la).getD i 0,V.int (i:Int)):=by
   have:=Jjl (a.map Sr.la);rwa [zB] at this
  rw[zr] at pm;let{os,po,rfl}:=Jbq pm rfl;rw[yY] at pw;let{gd,k}:=k os po pw;have en:(os.map fun(i:Nat)=>((a.map Sr.la).getD i 0,V.int (i:Int))).map Prod.snd=nV os:=by rw[yX,J63];rfl
  rw[en];have U:=J7 (o:=.lst (nV os)) ad;have m:=U _ _ (M _ _ (I _ _ hl) rfl);have B3:J2e CW (upd S lo (.lst (nV os))) ys a:=((B.same I).sameT M).same U;have T3:=J1t T2 U;have aj:J5l TB H (upd S lo (.lst (nV os))):=(J5l.same I).trans (J5l.trans (fun Q p q n t=>TQ Q p q n t) (J5l.same U));have ho:upd S lo (.lst (nV os)) lo=some (.lst (nV os)):=J2;have aa:J3i H (upd S lo (.lst (nV os))):=J3i.trans (J3i.trans (Same.t I) M) (Same.t U);generalize upd S lo (.lst (nV os))=H3 at *;have lc:∀(D:Hp) (σ:St) (d:Addr) (g:Sr->V) (Z:Str) (QQ:VK),J2e CW D ys a->D l=some (.lst ys)->D d=none->J17 K CW Z->(∀(fs:List (Str×V)) (s:Sr),fs.lookup ("first":Str)=some (.int s.fi)/\fs.lookup ("length":Str)=some (.int s.le)/\fs.lookup ("laid":Str)=some (.int s.la)/\fs.lookup ("turned":Str)=some (.bl s.tu)->fs.lookup Z=some (g s))->
    (∀G,Same D G->G d=some (.lst (a.map g))->QQ (.ref d) G)->LCW (Itl K l) tYes (tFld K (tVar 0) Z) σ [] QQ D d:=fun D σ d g Z QQ B4 h4 hd na lk q=>by
   show lc_idx ys (fun i=>((a[i]?).map g).getD .non) (SqL.of h4) () hd (fun i v hv H5 Qe N ke=>?_) (fun G s' h'=>q G s' ?_)
   .have hi:i<a.length:=by have:=(gSm hv);lia
    let{q',eq,Aq}:=B4.at_ i _ (gEq hi);obtain rfl:V.ref q'=v:=zV (eq.symm.trans hv);let{R,fs,h0,lF,lL,lA,lT}:=Aq.ex;show{_,rfl,q',CW,R,fs,_,rfl,N _ _ h0,X.cl,na,lk fs _ {lF,lL,lA,lT},?_};have:=ke H5 (Same.refl _);rw[gEq hi] at this;show this
   .rw[h',bl];show zP (fun x=>some (HO.lst x)) (Jkn a g _ fun i x e=>by change((a[i]?).map g).getD .non=g x;rw[e];rfl)
  show{_,rfl,l,rfl,{_,SqL.of m},fun d1 ag=>lc H3 _ d1 (fun s=>.int s.le) "length" _ B3 m ag X.nL (fun fs s h=>h.2.1) (fun D O e4=>?_)};show{_,rfl,_,rfl,_,rfl,l,rfl,{_,SqL.of (O _ _ m)},fun d2 af=>lc D _ d2 (fun s=>.bl s.tu) "turned" _ (B3.same O) (O _ _ m) af X.nT (fun fs s h=>h.2.2.2) (fun H5 N e5=>?_)};have ai:D d1=some (.lst (iV (a.map Sr.le))):=by rw[e4];show zP (fun x=>some (HO.lst x)) (by change _=List.map V.int (a.map Sr.le);rw[yX];rfl)
  have ah:H5 d2=some (.lst (bV (a.map Sr.tu))):=by rw[e5];show zP (fun x=>some (HO.lst x)) (by change _=List.map V.bl (a.map Sr.tu);rw[yX];rfl)
  intro x R hx ae ac;have Y:=(J7 (o:=.own x) ae).trans (J7 (l:=x) (o:=.ins C R []) (by rw[Jf (Ne.symm ac)];show hx));show{x,R,d1,lo,.ref d2,a.map Sr.le,os,a.map Sr.tu,rfl,J2,.inl (Y _ _ (N _ _ ai)),.inl (Y _ _ (N _ _ (O _ _ ho))),gd,{by simp,.inr {d2,rfl,.inl (Y _ _ ah)}},fun G L kp=>{rfl,?_}};have s7:Same H3 G:=fun b u e=>kp _ _ (Y _ _ (N _ _ (O _ _ e))) (Ja (N _ _ (O _ _ e)) hx);show k x G (J3i.trans aa (Same.t s7)) (J1t T3 s7) (aj.trans (J5l.same s7)) L
end
section
variable [En]
theorem Refs.srs{CW:Addr}{H:Hp}{ys:List V}{ls:List Int}{os:List Nat}{ts:List Bool}(h:Refs (fun q i=>SrAt CW H q (srO ls os ts i)) ys ls.length):J2e CW H ys (srsL ls os ts):=by
 show{by unfold srsL;rw[h.len];simp,fun i s e=>?_};have hi:i<ls.length:=by have:=(gSm e);simpa [srsL] using this
 unfold srsL at e;rw[zY,tQ hi] at e;cases e;show h.at_ i hi
theorem J5p(ls:List Int)(os:List Nat)(ts:List Bool):(srsL ls os ts).length=ls.length:=by unfold srsL;simp
end
section
variable [En]
inductive Jgg(CW:Addr)(vs:List V)(H:Hp)(Q:VK)(E:XK):Prop
 | mk(p q:Addr)(o t:Sr)(_:vs=[.ref p,.ref q])(_:SrAt CW H p o)(_:SrAt CW H q t)(_:∀d ys a,H d=none->Same H a->a d=some (.lst ys)->J2e CW a ys (J3g o t)->Q (.ref d) a)
theorem J4e:FS1 ["one","two","begin","one_end","two_end","end","first","laid"] J9r:=fsc
theorem Jl6(F:Fn1 J9r)(b:Jef K CW)(D:mg "max"=none)(C:mg "min"=none)(L:Mak CX0 1 "Stretch" CW ["self","first","length","laid","turned"] [] (spSr CW)):
  Ca1 3 J9r (Jgg CW):=by
 show F.ok J4e (fun f d A o s H vs Q E U h=>?_);let{p,q,o,t,rfl,A0,B0,k}:=h;let{w,m,B,aF,aL,N,S}:=A0.ex;let{u,j,y,M,Y,Z,P}:=B0.ex;show{_,(J0 (J4w (pst J4e 2 (J1d (Jno rfl) (by rfl) D PyProof.Rows.boot_max (dZ (J8 (pv 0)) (dZ (J8 (pv 1)) J1)))))
  (J0 (J4w (pst J4e 3 (Jj J12 (J8 (pv 0)) (J8 (pv 0)))))
  (J0 (J4w (pst J4e 4 (Jj J12 (J8 (pv 1)) (J8 (pv 1)))))
  (J0 (J4w (pst J4e 5 (J1d (Ja8 rfl) (by rfl) C boot_min (dZ (pv 3) (dZ (pv 4) J1)))))
  (J0 (J1a (Jk Jtf (pv 2) (pv 5) (Jp _)) (J3 (Jd (J1z J1))) Jo)
  (J0 (J4w (pst J4e 6 (Jj J12 (J8 (pv 0)) (J3f (J25 (J8 (pv 0))) (Jj J1j (pv 3) (pv 5)) (Jj J1j (pv 2) (J8 (pv 0)))))))
  (J0 (J4w (pst J4e 7 (Jj J12 (J8 (pv 1)) (J3f (J25 (J8 (pv 1))) (Jj J1j (pv 4) (pv 5)) (Jj J1j (pv 2) (J8 (pv 1)))))))
  (J3 (Jd (J1z (dZ (pmk L U Jg (dZ (pv 6) (dZ (Jj J1j (pv 5) (pv 2)) (dZ (pv 7) (dZ (J69 J6w (J8 (pv 0)) (J8 (pv 1)) (Jp _)) J1))))) J1))))))))))),?_}
 show{fun σ' g=>σ'=[some (.ref p),some (.ref q),some (.int (jb o t)),none,none,none,none,none]/\H=g,?_,?_}
 .show{_,rfl,p,CW,w,m,_,rfl,B,b.cl,b.nA,N,_,rfl,q,CW,u,j,_,rfl,y,b.cl,b.nF,M,_,_,rfl,rfl,rfl}
 rintro σ _ ⟨rfl,rfl⟩;show{fun σ' g=>σ'=[some (.ref p),some (.ref q),some (.int (jb o t)),some (.int (o.la+o.le)),none,none,none,none]/\H=g,?_,?_}
 .show{_,rfl,p,CW,w,m,_,rfl,B,b.cl,b.nA,N,_,rfl,p,CW,w,m,_,rfl,B,b.cl,b.nL,aL,_,_,rfl,rfl,rfl,rfl}
 rintro σ _ ⟨rfl,rfl⟩;show{fun σ' g=>σ'=[some (.ref p),some (.ref q),some (.int (jb o t)),some (.int (o.la+o.le)),some (.int (t.fi+t.le)),none,none,none]/\H=g,?_,?_}
 .show{_,rfl,q,CW,u,j,_,rfl,y,b.cl,b.nF,M,_,rfl,q,CW,u,j,_,rfl,y,b.cl,b.nL,Y,_,_,rfl,rfl,rfl,rfl}
 rintro σ _ ⟨rfl,rfl⟩;show{fun σ' g=>σ'=[some (.ref p),some (.ref q),some (.int (jb o t)),some (.int (o.la+o.le)),some (.int (t.fi+t.le)),some (.int (je o t)),none,none]/\H=g,?_,?_}
 .show{_,rfl,_,rfl,_,_,rfl,rfl,rfl}
 rintro σ _ ⟨rfl,rfl⟩;show{_,rfl,_,rfl,_,_,rfl,rfl,_,rfl,?_};by_cases c:je o t<=jb o t
 .show J31 c {by change 0<=sizeLine;show zO _,fun d hd=>k d [] _ hd (J7 hd) J2 ?_};have e:J3g o t=[]:=by unfold J3g;show if_pos c
  rw[e];show{rfl,fun i s z=>by simp at z}
 show iteD c ?_;have ep:J3g o t=[J1m o t]:=by unfold J3g;show if_neg c
 show{fun σ' g=>σ'=[some (.ref p),some (.ref q),some (.int (jb o t)),some (.int (o.la+o.le)),some (.int (t.fi+t.le)),some (.int (je o t)),some (.int (J1m o t).fi),none]/\H=g,?_,?_}
 .show{_,rfl,p,CW,w,m,_,rfl,B,b.cl,b.nF,aF,_,rfl,p,CW,w,m,_,rfl,B,b.cl,b.nT,S,o.tu,rfl,?_};by_cases e:o.tu=true
  .show J77 e {_,rfl,_,rfl,_,_,rfl,rfl,_,_,rfl,rfl,?_,rfl};rw[show(J1m o t).fi=o.fi+(o.la+o.le-je o t) by unfold J1m;rw[if_pos e]];rfl
  .show J6d e {_,rfl,_,rfl,p,CW,w,m,_,rfl,B,b.cl,b.nA,N,_,_,rfl,rfl,_,_,rfl,rfl,?_,rfl};rw[show(J1m o t).fi=o.fi+(jb o t-o.la) by unfold J1m;rw[if_neg e]];rfl
 rintro σ _ ⟨rfl,rfl⟩;show{fun σ' g=>σ'=[some (.ref p),some (.ref q),some (.int (jb o t)),some (.int (o.la+o.le)),some (.int (t.fi+t.le)),some (.int (je o t)),some (.int (J1m o t).fi),some (.int (J1m o t).la)]/\H=g,?_,?_}
 .show{_,rfl,q,CW,u,j,_,rfl,y,b.cl,b.nA,Z,_,rfl,q,CW,u,j,_,rfl,y,b.cl,b.nT,P,t.tu,rfl,?_};by_cases e:t.tu=true
  .show J77 e {_,rfl,_,rfl,_,_,rfl,rfl,_,_,rfl,rfl,?_,rfl};rw[show(J1m o t).la=t.la+(t.fi+t.le-je o t) by unfold J1m;dsimp only;rw[if_pos e]];rfl
  .show J6d e {_,rfl,_,rfl,q,CW,u,j,_,rfl,y,b.cl,b.nF,M,_,_,rfl,rfl,_,_,rfl,rfl,?_,rfl};rw[show(J1m o t).la=t.la+(jb o t-t.fi) by unfold J1m;dsimp only;rw[if_neg e]];rfl
 rintro σ _ ⟨rfl,rfl⟩;show{_,rfl,_,rfl,_,rfl,_,_,rfl,rfl,_,rfl,_,rfl,p,CW,w,m,_,rfl,B,b.cl,b.nT,S,_,rfl,q,CW,u,j,_,rfl,y,b.cl,b.nT,P,rfl,fun x X T J I=>Jeo (CW:=CW) (H:=H) (f:=(J1m o t).fi) (l:=je o t-jb o t) (a:=(J1m o t).la) (t:=!decide (V.bl o.tu=V.bl t.tu)) (Q:=fun v G=>1<=sizeLine/\∀p,G p=none->Q (V.ref p) (upd G p (.lst [v]))) (fun r G O R fr=>{by change 1<=sizeLine;decide,fun d hd=>k d [.ref r] _ (O.free hd) (O.trans (J7 hd)) J2 ?_}) x X T J I};have W:(!decide (V.bl o.tu=V.bl t.tu))=(o.tu != t.tu):=by cases o.tu <;> cases t.tu <;> rfl
 rw[W] at R;have R':SrAt CW G r (J1m o t):=R;rw[ep];show{rfl,fun i s z=>?_}
 match i,z with
 | 0,z=>cases zV z;show{r,rfl,R'.same (J7 hd)}
 | n+1,z=>simp at z
end
section
variable [En]
def lamPR:Stmt->Pos
 | .Return (some (.Call _ [.Call _ _ [⟨_,.Lambda _ _ _ p,_⟩] _] _ _)) _=>p
 | .Return (some (.Call _ _ [⟨_,.Lambda _ _ _ p,_⟩] _)) _=>p
 | _=>{0,0,0,0}
abbrev lpJS:Pos:=lamPR ((J1n (top 64)).getD 2 (.Pass {0,0,0,0}))
theorem J2e.app(a:J2e CW H ys ss)(b:J2e CW H zs tt):J2e CW H (ys++zs) (ss++tt):=by
 have f:=a.len;show{by rw[zN,zN,a.len,b.len],fun i s e=>?_};rcases Nat.lt_or_ge i ss.length with hi|hi
 .rw[yQ hi] at e;let{q,d,c}:=a.at_ i s e;show{q,by rw[yQ ()];show d,c}
 .rw[yP hi] at e;let{q,d,c}:=b.at_ _ s e;show{q,by rw[yP (),f];show d,c}
theorem Js6{J:List Sr}{xs:List V}(h:xs.length=J.length):(J.map Sr.fi).zip xs=(List.range J.length).map fun i=>((J.getD i s0).fi,xs.getD i .non):=by
 apply wX;intro i;by_cases hi:i<J.length
 .simp_all
 .simp_all
theorem Jfl(J:List Sr):(List.range J.length).map (fun i=>J.getD i s0)=J:=by
 show List.ext_getElem (by simp) fun i b a=>?_;rw[getElem_map,sP,zH,gEq a];rfl
theorem Jsf(B:J2e CW H xs J){ys:List (Int×V)}(d:ys.Perm ((J.map Sr.fi).zip xs))(c:ys.Pairwise (fun a b=>a.1<=b.1)):
  ∃L,L.Perm J/\L.Pairwise (fun s t=>s.fi<=t.fi)/\J2e CW H (ys.map Prod.snd) L:=by
 rw[Js6 B.len] at d;let{f,po,rfl}:=Jbq d rfl;rw[yY] at c;show{f.map fun i=>J.getD i s0,?_,?_,?_}
 .have:=po.map fun i=>J.getD i s0;rwa [Jfl] at this
 .rw[yY];show c
 .show{by simp,fun i s e=>?_};rw[zY] at e
  cases q:f[i]? with
  | none=>rw[q] at e;cases e
  | some j =>
   rw[q] at e;cases e;have g:=zR.mp (po.mem_iff.mp (wU q));let{a,l,h}:=B.at_ j (J.getD j s0) (getL g);show{a,?_,h};rw[zY,zY,q];change some (xs.getD j .non)=_;rw[zH,l];rfl
inductive Jex(CW TJ:Addr)(vs:List V)(H:Hp)(Q:VK)(E:XK):Prop
 | mk(a b:Addr)(xs ys:List V)(os ts:List Sr)(_:vs=[.ref a,.ref b])(_:H a=some (.lst xs))(_:H b=some (.lst ys))(_:J2e CW H xs os)(_:J2e CW H ys ts)(_:(jn os ts).length<64)(_:os.length<=1000)(_:ts.length<=1000)(_:J2a H TJ lpJS "joined_stretches.<locals>.<lambda>")(_:∀L d e c,L.Perm (jn os ts)->L.Pairwise (fun s t=>s.fi<=t.fi)->J3i H c->J2a c TJ lpJS "joined_stretches.<locals>.<lambda>"->J5l TJ H c->c d=some (.lst e)->J2e CW c e (lgst L)->Q (.ref d) c)
theorem Ju2{os:List Sr}(h:os[i]?=some o):jn (os.take (i+1)) ts=jn (os.take i) ts++ts.flatMap (J3g o):=by
 unfold jn;rw[J7i h,uF,uX,List.flatMap_nil,yM]
theorem Jmq{ts:List Sr}(h:ts[j]?=some t):(ts.take (j+1)).flatMap (J3g o)=(ts.take j).flatMap (J3g o)++J3g o t:=by
 rw[J7i h,uF,uX,List.flatMap_nil,yM]
theorem fm_le{ts:List Sr}(j:Nat):((ts.take j).flatMap (J3g o)).length<=(ts.flatMap (J3g o)).length:=by
 have:ts.flatMap (J3g o)=(ts.take j).flatMap (J3g o)++(ts.drop j).flatMap (J3g o):=by rw[<- uF,tY]
 grind
theorem jn_le{os:List Sr}(i:Nat):(jn (os.take i) ts).length<=(jn os ts).length:=by
 have:jn os ts=jn (os.take i) ts++jn (os.drop i) ts:=by unfold jn;rw[<- uF,tY]
 grind
theorem Jbm:Jt ["ones","twos","parts","one","two"] ["ones","twos"] (Je (top 64)):=fsc
theorem Jpy(F:Fun K "joined_stretches" "joined_stretches" (top 64) f fd)(T:TxtR mg)(r:mg "sorted"=none)(TW:Jef K CW)(G:fd.code=.ref cc)(CD:PySem.W.codeHdIn K cc TJ=true)(BL:Jcj base mg TJ)(ad:Ca1 3 J9r (Jgg CW))(ae:Ca1 4 J7c (Jcp CW)):
  FnOk P w K mg base CX0 5 f fd ["ones","twos"] (Jex CW TJ):=by
 show F.okK G Jbm (fun vs H Q E h=>?_) (fun A outer s H vs Q E hr h=>?_)
 .let{a,b,xs,ys,os,ts,rfl,_}:=h;rfl
 .let{a,b,xs,ys,os,ts,rfl,ha,hb,A,B,ac,n1,n2,TT,k}:=h;show{_,(J0 (pst Jbm 2 (J1z J1))
   (J0 (J2h yH rfl (J1i (pv 0)) (pgm Jbm 3)
    (J3 (J2h yH rfl (J1i (pv 1)) (pgm Jbm 4)
     (J3 (J18 (J3w yI PySem.F.slot_list_extend PySem.F.type_list_extend Jdc (pv 2) (dZ (pcl ad hr Jg (dZ (pv 3) (dZ (pv 4) J1))) J1)))))))
   (J3 (Jd (pcl ae hr Jg (dZ (Jh0 (x:="part") (caps:=[]) (js:=[]) rfl (hr.mono (by decide)) (by rfl) r rfl rfl rfl CD BL {rfl,rfl,rfl,by decide +kernel,rfl,(by intro p hp;cases hp),J3r.get rfl,rfl,fun k c e=>by simp at e} (fun _ _ _ _=>rfl) (fun A f c s H=>(J7y K (pv 0))) (pv 2)) J1)))))),?_}
  show{by change 0<=sizeLine;show zO _,fun d hd=>?_};have M:=J7 (o:=.lst []) hd;have nd:∀{v:Addr} {u:HO},H v=some u->v≠d:=fun {v u} e=>Ja e hd;have sm:=Jq (n:=100) (by decide);show{_,rfl,a,rfl,{_,SqL.of (M _ _ ha)},J2m (K:=K) (a:=a) (xs:=xs) (fun i σ Hw=>∃v3 C m,σ=[some (.ref a),some (.ref b),some (.ref d),v3,C]/\Hw d=some (.lst m)/\J2e CW Hw m (jn (os.take i) ts)/\Same H Hw)
   {none,none,[],rfl,J2,{rfl,fun i s e=>by simp[jn] at e},M} (fun i σ Hw _ ⟨_,_,_,_,_,_,s⟩=>SqL.of (s _ _ ha)) (fun i y σ Hw N pv=>?_) (fun σ Hw ⟨v3,C,m,e,D,Z,s⟩=>?_)}
  .let{v3,C,m,rfl,D,Z,sw}:=pv;have hi:i<os.length:=by rw[<- A.len];show(gSm N)
   have eo:=gEq hi;let{p,ep,Ap}:=A.at_ i _ eo;obtain rfl:V.ref p=y:=zV (ep.symm.trans N);generalize os[i]=o at eo Ap;have sj:=Ju2 (ts:=ts) eo;have aa:=jn_le (ts:=ts) (os:=os) (i+1);rw[sj,zN] at aa;show{_,rfl,b,rfl,{_,SqL.of (sw _ _ hb)},J2m (K:=K) (a:=b) (xs:=ys) (fun j σ I=>∃C m,σ=[some (.ref a),some (.ref b),some (.ref d),some (.ref p),C]/\I d=some (.lst m)/\J2e CW I m (jn (os.take i) ts++(ts.take j).flatMap (J3g o))/\Same H I)
    {C,m,rfl,D,by rw[show(ts.take 0).flatMap (J3g o)=[] from rfl,yM];show Z,sw} (fun j σ I _ ⟨_,_,_,_,_,s⟩=>SqL.of (s _ _ hb)) (fun j y σ I N pv=>?_) (fun σ I ⟨C,m,e,g,Z,s⟩=>?_)}
   .let{C,m,rfl,g,Z,sx}:=pv;have hj:j<ts.length:=by rw[<- B.len];show(gSm N)
    have X:=gEq hj;let{q,eq,Bq}:=B.at_ j _ X;obtain rfl:V.ref q=y:=zV (eq.symm.trans N);generalize ts[j]=t at X Bq;have zl:=Z.len;rw[zN] at zl;have f1:=fm_le (ts:=ts) (o:=o) (j+1);rw[Jmq X,zN] at f1;show{_,rfl,.inl {rfl,_,SqL.of g},_,rfl,_,rfl,p,q,o,t,rfl,Ap.same sx,Bq.same sx,fun e O Hy he J ab W=>{d,e,m,O,rfl,rfl,J _ _ g,ab,(by rw[W.len];lia),?_}};have af:e≠d:=fun z=>by rw[z,g] at he;cases he
    have kp:∀v u,Hy v=some u->v≠d->upd Hy d (.lst (m++O)) v=some u:=fun v u Y n=>by rw[Jf n];show Y
    show{_,_,rfl,J2,?_,fun v u Y=>kp _ _ (J _ _ (sx _ _ Y)) (nd Y)};rw[Jmq X,<- vS];show((Z.same J).keepD (J _ _ g) kp).app (W.keepD (J _ _ g) kp)
   .subst e;rw[B.len,xS,<- sj] at Z;show{_,_,_,rfl,g,Z,s}
  subst e;rw[A.len,xS] at Z;have zl:=Z.len;show{_,rfl,d,m,(jn os ts).map Sr.fi,rfl,.inl D,(by rw[zl];show ac),(by rw[zB,zl]),J1t TT s,fun H2 R i y z ey ek=>?_,fun H2 l us R T2 TQ hl pm pw=>?_}
  .have hi:i<(jn os ts).length:=by rw[<- zl];show(gSm ey)
   let{q,eq,Aq}:=Z.at_ i _ (gEq hi);obtain rfl:V.ref q=y:=zV (eq.symm.trans ey);rw[zY,gEq hi] at ek;cases ek;let{dx,fs,h0,lF,lL,lA,lT}:=Aq.ex;show{_,rfl,q,CW,dx,fs,_,rfl,R _ _ h0 rfl,TW.cl,TW.nF,lF,rfl,rfl}
  let{L,p1,p2,S}:=Jsf (Z.sameT R) pm pw;have U:=J7 (o:=.lst (us.map Prod.snd)) hl;have ll:=p1.length_eq;show{l,_,L,rfl,J2,S.same U,(),fun d2 O H3 s3 e3 W=>?_};show k L d2 O H3 p1 p2 (J3i.trans (Same.t s) (J3i.trans R (Same.t (U.trans s3)))) (J1t T2 (U.trans s3)) ((J5l.same s).trans (J5l.trans (fun Q p q n t=>TQ Q p q n t) (J5l.same (U.trans s3)))) e3 W
end
section
variable [En]
theorem Jd3{os:List Nat}(R:RepS g 0 L N)(c:1<=N)(b:N<=10^30)(a:L.length<=24)(p:os.Perm (List.range L.length)):Good (L.map Sr.le) os:=by
 have O:=R.ord p;have t:=R.tot;show{?_,by simp_all,O.pos,(),O.perm}
 grind
inductive Jgk(C CW TB:Addr)(vs:List V)(H:Hp)(Q:VK)(E:XK):Prop
 | mk(l:Addr)(ys:List V)(a:List Sr)(_:vs=[.ref l])(_:H l=some (.lst ys))(_:J2e CW H ys a)(_:J2a H TB lpLO "line_of.<locals>.<lambda>")(_:a.length<=24)(_:∀os:List Nat,os.Perm (List.range a.length)->os.Pairwise (fun i j=>(a.map Sr.la).getD i 0<=(a.map Sr.la).getD j 0)->Good (a.map Sr.le) os/\∀x b,J3i H b->J2a b TB lpLO "line_of.<locals>.<lambda>"->J5l TB H b->J29 C b x (a.map Sr.le) os (a.map Sr.tu)->Q (.ref x) b)
theorem Jsy:FS1 ["stretches"] Jdw:=fsc
theorem Jlh(F:Fn1 Jdw)(T:TxtR mg)(a:mg "MOST_PIECES"=some (.int 24 t24))(b:Cal CX0 5 "line_of" ["stretches"] (Jbf C CW TB "line_of.<locals>.<lambda>")):
  Ca1 6 Jdw (Jgk C CW TB):=by
 show F.ok Jsy (fun f d A o s H vs Q E g h=>?_);let{l,ys,e,rfl,c,B,TT,i,k}:=h;show{_,(J0 (J1a (Jk J6x (pcb Jm T.len (pv 0)) (Jf6 (v:=.int 24) rfl a {_,rfl}) (Jp _)) (J3 J1o) Jo)
  (J3 (Jd (pcl b g Jg (dZ (pv 0) J1))))),?_}
 have j:=B.len;show{_,rfl,l,ys,rfl,.inl (SqL.of c),_,_,rfl,rfl,_,rfl,iteD (show ¬ (24:Int)<(ys.length:Int) by lia) {_,rfl,l,ys,e,rfl,c,B,TT,(),k}}
inductive Jcq(C TB TJ:Addr)(vs:List V)(H:Hp)(Q:VK)(E:XK):Prop
 | mk(x y:Addr)(ls a:List Int)(os b:List Nat)(ts ts':List Bool)(_:vs=[.ref x,.ref y])(_:J29 C H x ls os ts)(_:J29 C H y a b ts')(_:Good ls os)(_:Good a b)(_:ts.length=ls.length)(_:ts'.length=a.length)(_:ls.length+a.length<64)(_:J2a H TB lpLO "line_of.<locals>.<lambda>")(_:J2a H TJ lpJS "joined_stretches.<locals>.<lambda>")(_:a.sum=ls.sum)(_:∀S,RepS (fun x=>gL a b ts' (gL ls os ts x)) 0 S ls.sum->S.length<=24/\∀z l o t c,J3i H c->J2a c TB lpLO "line_of.<locals>.<lambda>"->J2a c TJ lpJS "joined_stretches.<locals>.<lambda>"->PlG (fun x=>gL a b ts' (gL ls os ts x)) ls.sum l o t->l.length=S.length->Good l o->J29 C c z l o t->Q (.ref z) c)
theorem Joo:FS1 ["one","two"] J9z:=fsc
theorem Jiq(F:Fn1 J9z)(p:TxtC K mg C)(m:TB≠TJ)(M:Ca1 6 Jdw (Jgk C CW TB))(N:Cal CX0 5 "joined_stretches" ["ones","twos"] (Jex CW TJ))(l:Ca1 3 Jdq (Jju C CW)):
  Ca1 7 J9z (Jcq C TB TJ):=by
 show F.ok Joo (fun f d A o s H vs Q E n h=>?_);let{x,y,ls,j,os,i,ts,ts',rfl,L1,L2,g,T,t1,t2,ac,Tb,Tj,J,k}:=h;let{dx,fl,pl,po,pt,ps,pd,h0,{k1,k2,k3,k4,k5,k6},e1,e2,e3,e4,e5}:=L1.ex;let{dy,fy,ql,qo,qt,qs,qd,g0,{j1,j2,j3,j4,j5,j6},f1,f2,f3,f4,f5}:=L2.ex;have O1:=g.ord;have O2:=T.ord;show{_,(J0 (J1a (Jk J6w (J8 (pv 0)) (J8 (pv 1)) (Jp _)) (J3 J1o) Jo)
  (J3 (Jd (pcl M n Jg (dZ (pcl N n Jg (dZ (pcl l n Jg (dZ (pv 0) J1)) (dZ (pcl l n Jg (dZ (pv 1) J1)) J1))) J1))))),?_}
 show{_,rfl,x,C,dx,fl,_,rfl,h0,p.cl,p.nZ,k6,_,rfl,y,C,dy,fy,_,rfl,g0,p.cl,p.nZ,j6,rfl,_,rfl,Jfn (by rw[J]) ?_};have Z:=J5w (ts:=ts) O1;have Y:=J5w (ts:=ts') O2;rw[J] at Y;have W:=J8w (ts:=ts) O1;have G:=J8w (ts:=ts') O2;rw[J] at G;have jl:=Jry W G Z.inj;rw[J5p,J5p] at jl;have X:=g.pos_sum;have ab:=g.hi;have aa:=T.hi;show{_,rfl,x,ls,os,ts,rfl,L1,g.hi,t1,fun d1 r H1 U q1 D=>{_,rfl,y,j,i,ts',rfl,L2.same U,T.hi,t2,fun d2 q H2 w q2 B=>?_}};have a:=U.trans w;show{d1,d2,r,q,srsL ls os ts,srsL j i ts',rfl,w _ _ q1,q2,(Refs.srs D).same w,Refs.srs B,(),(by rw[J5p];lia),(by rw[J5p];lia),J1t Tj a,fun L d zs H3 pm pw sT T4 P e S=>?_};have R:=Jme Z Y W G () pm pw;let{c,kq}:=k _ R;have v:=J3i.trans (Same.t a) sT;show{d,zs,lgst L,rfl,e,S,P _ _ _ m (J1t Tb a),c,fun o b I=>{Jd3 R X g.sum c b,fun z H4 u T6 O LZ=>?_}};show kq z _ o _ H4 (J3i.trans v u) T6 (O _ _ _ (Ne.symm m) T4) {lgst L,R,rfl,rfl,{b,I}} (zB ..) (Jd3 R X g.sum c b) LZ
end
section
variable [En]
structure J6h(bs:List Int):Prop where
 lo:1<=bs.length
 hi:bs.length<=12
 pos:∀a∈bs,1<=a
inductive Jrd(vs:List V)(H:Hp)(Q:VK)(E:XK):Prop
 | mk(p:Addr)(bs:List Int)(_:vs=[.ref p])(_:SqH H p (iV bs))(_:J6h bs)(_:Q .non H)
inductive Jra(vs:List V)(H:Hp)(Q:VK)(E:XK):Prop
 | mk(p q:Addr)(as bs:List Int)(_:vs=[.ref p,.ref q])(_:SqH H p (iV as))(_:SqH H q (iV bs))(_:as.sum=bs.sum)(_:as.sum<=10^30)(_:Q .non H)
theorem scRefB:FS1 ["lengths"] Jn0:=fsc
theorem Jtm(F:Fn1 Jn0)(T:TxtR mg)(a:mg "min"=none)(c:mg "MOST_BLOCKS"=some (.int 12 t12)):
  Ca1 1 Jn0 Jrd:=by
 show F.ok scRefB (fun f d A o s H vs Q E l h=>?_);let{p,bs,rfl,b,g,k}:=h;have n:=g.lo;have m:=g.hi;show{_,(J0 (J1a (Jk J44 (pcb Jm T.len (pv 0)) J9 (Jp _)) (J3 J1o) Jo)
  (J0 (J1a (Jk J6x (pcb Jm T.len (pv 0)) (Jf6 (v:=.int 12) rfl c {_,rfl}) (Jp _)) (J3 J1o) Jo)
  (J3 (J1a (Jk J95 (J1d (Ji0 rfl) (by rfl) a boot_min (dZ (pv 0) J1)) J9 (Jp _)) (J3 J1o) Jo)))),?_}
 have e:(iV bs).length=bs.length:=zB ..;show{_,rfl,p,_,rfl,b.sq,rfl,_,rfl,iteD (J4b (by rw[e];lia)) {_,rfl,p,_,rfl,b.sq,_,_,rfl,rfl,_,rfl,iteD (by rw[e];lia) ?_}};show{_,rfl,p,bs,rfl,b.sq,(),fun M j i=>{_,_,rfl,rfl,_,rfl,iteD (by have:=g.pos M j;lia) k}}
theorem scRefS:FS1 ["above","below"] Jmx:=fsc
theorem Jtj(F:Fn1 Jmx)(T:TxtR mg):
  Ca1 1 Jmx Jra:=by
 show F.ok scRefS (fun f d A o s H vs Q E e h=>?_);let{p,q,as,bs,rfl,a,b,c,g,k}:=h;show{_,(J0 (J1a (Jk J6w (pcb (J23 rfl) T.sum (pv 0)) (pcb (J23 rfl) T.sum (pv 1)) (Jp _)) (J3 J1o) Jo)
  (J3 (J1a (Jk J6x (pcb (J23 rfl) T.sum (pv 0)) (Jj Jkt J9 J9) (Jp _)) (J3 J1o) Jo))),?_}
 show{_,rfl,p,as,rfl,a.sq,_,rfl,q,bs,rfl,b.sq,rfl,_,rfl,Jfn (by rw[c]) ?_};show{_,rfl,p,as,rfl,a.sq,_,_,rfl,rfl,{by decide,by decide,by decide},_,_,rfl,rfl,_,rfl,iteD (show ¬ (10:Int)^30<as.sum by lia) k}
inductive Jeq(C:Addr)(vs:List V)(H:Hp)(Q:VK)(E:XK):Prop
 | mk(p:Addr)(bs:List Int)(_:vs=[.ref p])(_:SqH H p (iV bs))(_:J6h bs)(_:bs.sum<=10^30)(_:∀x a,Same H a->J29 C a x bs (List.range bs.length) (replicate bs.length true)->Q (.ref x) a)
theorem J6h.good(g:J6h bs)(h:bs.sum<=10^30):Good bs (List.range bs.length):={g.lo,by have:=g.hi;lia,g.pos,h,xJ _}
theorem SqH.up(h:SqH H p xs)(s:Same H H'):SqH H' p xs:=by
 rcases h with h|h
 .show .inl (s _ _ h)
 .show .inr (s _ _ h)
theorem Jsk:FS1 ["lengths"] Jay:=fsc
theorem Jpg(F:Fn1 Jay)(T:TxtR mg)(X:Mak CX0 3 "Line" C ["self","lengths","order","turned"] [] (Jgm C)):
  Ca1 5 Jay (Jeq C):=by
 show F.ok Jsk (fun f d A o s H vs Q E S h=>?_);let{p,bs,rfl,q,g,R,k}:=h;show{_,(J3 (Jd (pmk X S Jg (dZ (pv 0) (dZ (pct (J3h rfl) T.list (J2z J7e (by rfl) T.range tX (dZ (pcb Jm T.len (pv 0)) J1))) (dZ (Jj Jh2 (J1z (dZ J4j J1)) (pcb Jm T.len (pv 0))) J1)))))),?_};have B:(iV bs).length=bs.length:=zB ..;have U:=g.hi;have Z:=Jq (n:=100) (by decide);show{_,rfl,_,rfl,p,_,rfl,q.sq,_,rfl,fun r m=>?_};have N:=J7 (o:=.rng 0 ((iV bs).length:Int)) m;show{r,bs.length,rfl,(by rw[J2,B]),(),fun lo w=>?_};have M:=J7 (o:=.lst (nV (List.range bs.length))) w;show{by change 1<=sizeLine;lia,fun l1 z=>?_};have I:=J7 (o:=.lst [V.bl true]) z;have a:=N.trans (M.trans I);show{_,rfl,p,_,rfl,(q.up a).sq,l1,_,[V.bl true],rfl,rfl,J2,(),by rw[B];lia,(by change 1*((iV bs).length:Int).toNat<=sizeLine;rw[B];lia),fun j y=>?_};have W:(replicate ((iV bs).length:Int).toNat [V.bl true]).flatten=bV (replicate bs.length true):=by
  simp_all
 rw[W];have G:=J7 (o:=.lst (bV (replicate bs.length true))) y;have c:=a.trans G;have P:=G _ _ (I _ _ (show upd (upd H r (.rng 0 ((iV bs).length:Int))) lo (.lst (nV (List.range bs.length))) lo=some (.lst (nV (List.range bs.length))) from J2));have O:upd (upd (upd (upd H r (.rng 0 ((iV bs).length:Int))) lo (.lst (nV (List.range bs.length)))) l1 (.lst [V.bl true])) j (.lst (bV (replicate bs.length true))) j=some (.lst (bV (replicate bs.length true))):=J2;show fun x K J D v=>?_;have i:=(J7 (o:=.own x) D).trans (J7 (l:=x) (o:=.ins C K []) (by rw[Jf (Ne.symm v)];show J));show{x,K,p,lo,.ref j,bs,List.range bs.length,replicate bs.length true,rfl,J2,(q.up (c.trans i)),.inl (i _ _ P),g.good R,{wE,.inr {j,rfl,.inl (i _ _ O)}},fun Y L kp=>{rfl,?_}};show k x Y (fun b u e=>kp _ _ (i _ _ (c _ _ e)) (Ja (c _ _ e) J)) L
structure Jg1(K:Frag)(CAr:Addr):Prop where
 cl:Cls K CAr
 nA:J17 K CAr "above"
 nB:J17 K CAr "below"
 nZ:J17 K CAr "size"
 nL:J17 K CAr "line"
 nC:J17 K CAr "chart"
noncomputable def gT(bs:List Int):Int->Int:=gL bs (List.range bs.length) (replicate bs.length true)
structure J39(as bs:List Int):Prop where
 a:J6h as
 b:J6h bs
 eq:as.sum=bs.sum
 le:as.sum<=10^30
inductive ArAt(C CH CR a:Addr)(cs:Kd->Addr)(H:Hp)(x:Addr)(as bs:List Int):Prop
 | mk(f:Addr)(fs:List (Str×V))(e d b c:Addr)(ls:List Int)(os:List Nat)(ts:List Bool)(m:Nat)(_:H x=some (.ins a f fs))(_:fs.lookup ("above":Str)=some (.ref e))(_:fs.lookup ("below":Str)=some (.ref d))(_:fs.lookup ("size":Str)=some (.int as.sum))(_:fs.lookup ("line":Str)=some (.ref b))(_:fs.lookup ("chart":Str)=some (.ref c))(_:H e=some (.tup (iV as)))(_:H d=some (.tup (iV bs)))(_:J29 C H b ls os ts)(_:Good ls os)(_:ts.length=ls.length)(_:PlG (fun y=>gT bs (gT as y)) as.sum ls os ts)(_:ChF C CH CR cs H c ls os ts m)(_:ChP ls os ts m)
theorem ArAt.ex{CR:Addr}(h:ArAt C CH CR CAr cs H x as bs):ArAt C CH CR CAr cs H x as bs:=h
def J3o(x:Addr)(H a:Hp):Prop:=∀b u,H b=some u->b≠x->isTbl u=false->a b=some u
inductive Jgr(C CH CR b TB TJ:Addr)(cs:Kd->Addr)(vs:List V)(H:Hp)(Q:VK)(E:XK):Prop
 | mk(x c p q:Addr)(as bs:List Int)(_:vs=[.ref x,.ref p,.ref q])(_:H x=some (.ins b c []))(_:SqH H p (iV as))(_:SqH H q (iV bs))(_:q≠x)(_:J2a H TB lpLO "line_of.<locals>.<lambda>")(_:J2a H TJ lpJS "joined_stretches.<locals>.<lambda>")(_:J39 as bs)(_:∀a,ArAt C CH CR b cs a x as bs->J3o x H a->J2a a TB lpLO "line_of.<locals>.<lambda>"->J2a a TJ lpJS "joined_stretches.<locals>.<lambda>"->Q .non a)
end
section
variable [En]
theorem Jqv{ls d:List Int}{os e:List Nat}{ts ts':List Bool}(O:Ord ls os)(n:Ord d e)(j:d.sum=ls.sum)(q:0<=ls.sum){S:List Sr}(R:RepS (fun x=>gL d e ts' (gL ls os ts x)) 0 S ls.sum):S.length<=ls.length+d.length:=by
 have m:=J5w (ts:=ts) O;have l:=J5w (ts:=ts') n;rw[j] at l;have g:=J8w (ts:=ts) O;have f:=J8w (ts:=ts') n;rw[j] at f;have p:=Jry g f m.inj;rw[J5p,J5p] at p;have i:=List.mergeSort_perm (jn (srsL ls os ts) (srsL d e ts')) (fun s t=>decide (s.fi<=t.fi));have o:((jn (srsL ls os ts) (srsL d e ts')).mergeSort (fun s t=>decide (s.fi<=t.fi))).Pairwise (fun s t=>s.fi<=t.fi):=by
  have:=List.pairwise_mergeSort (le:=fun(s t:Sr)=>decide (s.fi<=t.fi)) (fun a b c u r=>by simp only[yU] at *;lia) (fun a b=>by simp only[Bool.or_eq_true,yU];lia) (jn (srsL ls os ts) (srsL d e ts'));show this.imp fun h=>by simpa using h
 have R2:=Jme m l g f q i o;rw[R.uni R2];have:=Jhd ((jn (srsL ls os ts) (srsL d e ts')).mergeSort (fun s t=>decide (s.fi<=t.fi)));have:=i.length_eq;lia
theorem J3o.of(s:J3i H H'):J3o x H H':=fun b u e _ z=>s b u e z
theorem J3o.trans(a:J3o x H H1)(b:J3o x H1 H2):J3o x H H2:=fun c u e n z=>b c u (a c u e n z) n z
theorem J3o.upd :J3o x H (upd H x o):=fun b u e n _=>by rw[Jf n];show e
theorem Jjq(d:H x=some (.ins CX dx fs))(t:J2a H T pos q):J2a (upd H x ob) T pos q:=by
 let{ps,b,j,i}:=t.ex;show{ps,by rw[Jf (fun e=>by rw[e,d] at b;cases b)];show b,j,fun l e=>?_};let{c,h,vs,t,g,a,f}:=i l e;show{c,h,vs,t,g,by rw[Jf (fun e=>by rw[e,d] at a;cases a)];show a,f}
theorem J3o.sqH(k:J3o x H H')(h:SqH H p xs)(n:p≠x):SqH H' p xs:=h.elim (fun h=>.inl (k _ _ h n rfl)) fun h=>.inr (k _ _ h n rfl)
theorem Tp.kt(t:Tp x p xs H)(k:J3o x H H'):Tp x p xs H':={t.ne,k _ _ t.at_ t.ne rfl}
structure Sy(x C dx TB TJ:Addr)(Hw:Hp)(fs:List (Str×V))(n:Nat)(H:Hp):Prop where
 at_:H x=some (.ins C dx fs)
 kp:J3o x Hw H
 len:fs.length<=n
 lt:n<1000
 tb:J2a H TB lpLO "line_of.<locals>.<lambda>"
 tj:J2a H TJ lpJS "joined_stretches.<locals>.<lambda>"
section
variable{x C dx TB TJ p:Addr}{Hw H H3:Hp}{fs:List (Str×V)}{n:Nat}{xs:List V}
theorem Sy.few(S:Sy x C dx TB TJ Hw fs n H):fs.length<1000:=xB S.len S.lt
theorem Sy.on(S:Sy x C dx TB TJ Hw fs n H)(s:Same H H3):Sy x C dx TB TJ Hw fs n H3:={s _ _ S.at_,S.kp.trans (J3o.of (Same.t s)),S.len,S.lt,J1t S.tb s,J1t S.tj s}
theorem Sy.set(S:Sy x C dx TB TJ Hw fs n H)(f:Str)(v:V)(h:n+1<1000:=by decide):∃a,upd H x (.ins C dx (putF f v fs))=a/\Sy x C dx TB TJ Hw (putF f v fs) (n+1) a/\J27 x H a:=
 {_,rfl,{J2,S.kp.trans J3o.upd,zM (J21 ..) (Nat.succ_le_succ S.len),h,Jjq S.at_ S.tb,Jjq S.at_ S.tj},J27.upd}
theorem Sy.put(S:Sy x C dx TB TJ Hw fs n H)(s:Same H H3)(b:H3 p=some (.tup xs))(f:Str)(h:n+1<1000:=by decide):∃a,upd H3 x (.ins C dx (putF f (.ref p) fs))=a/\Sy x C dx TB TJ Hw (putF f (.ref p) fs) (n+1) a/\J27 x H a/\Tp x p xs a:=
 let ⟨a,e,S4,k⟩:=(S.on s).set f (.ref p) h;have n:=fun z=>by rw[z,s _ _ S.at_] at b;cases b
 {a,e,S4,(J27.of s).trans k,n,k _ _ b n}
end
theorem Jow:Jt ["self","above","below"] ["self","above","below"] (Je (Jb (top 72) 0)):=fsc
theorem Jls{CR:Addr}(F:Fun K "__init__" "Arches.__init__" (Jb (top 72) 0) f fd)(T:TxtR mg)(TA:Jg1 K CAr)(X:Ca1 1 Jn0 Jrd)(af:Ca1 1 Jmx Jra)(y:Ca1 5 Jay (Jeq C))(ag:Ca1 7 J9z (Jcq C TB TJ))(ah:Mak CX0 6 "Chart" CH ["self","line"] [] (Jk2 C CR CH cs)):
  FnOk P w K mg base CX0 8 f fd ["self","above","below"] (Jgr C CH CR CAr TB TJ cs):=by
 show F.ok1 Jow (fun d A o s H vs Q E B h=>?_);let{x,i,p,q,as,bs,rfl,hx,hp,hq,aa,Tb,Tj,c,k}:=h;show{_,(J0 (J18 (pcl X B Jg (dZ (pv 1) J1)))
  (J0 (J18 (pcl X B Jg (dZ (pv 2) J1)))
  (J0 (J18 (pcl af B Jg (dZ (pv 1) (dZ (pv 2) J1))))
  (J0 (J1s (pv 0) (pct J1u T.tuple (pv 1)) rfl)
  (J0 (J1s (pv 0) (pct J1u T.tuple (pv 2)) rfl)
  (J0 (J1s (pv 0) (pcb (J23 rfl) T.sum (J8 (pv 0))) rfl)
  (J0 (J1s (pv 0) (pcl ag B Jg (dZ (pcl y B Jg (dZ (J8 (pv 0)) J1)) (dZ (pcl y B Jg (dZ (J8 (pv 0)) J1)) J1))) rfl)
  (J3 (J1s (pv 0) (pmk ah B Jg (dZ (J8 (pv 0)) J1)) rfl))))))))),?_}
 show{_,rfl,p,as,rfl,hp,c.a,_,rfl,q,bs,rfl,hq,c.b,_,rfl,_,rfl,p,q,as,bs,rfl,hp,hq,c.eq,c.le,?_};show{_,rfl,J20 hp fun N H1 s1 ac=>{_,rfl,x,CAr,i,[],rfl,s1 _ _ hx,TA.cl,TA.nA,by decide,?_}};let{H2,e2,S2,_,g}:=Sy.put (TB:=TB) (TJ:=TJ) (Hw:=H) (n:=0) {hx,J3o.of (Same.t (Same.refl _)),zD _,by decide,Tb,Tj} s1 ac "above";rw[e2];show{_,rfl,J20 (S2.kp.sqH hq aa) fun pb H3 s3 ab=>{_,rfl,x,CAr,i,_,rfl,s3 _ _ S2.at_,TA.cl,TA.nB,S2.few,?_}};let{H4,e4,S4,k4,v}:=S2.put s3 ab "below";rw[e4];have g:=g.kp k4;show{_,rfl,x,CAr,i,_,_,rfl,S4.at_,TA.cl,TA.nA,show _=some (V.ref N) by kernel_rfl,N,as,rfl,.inr (SqT.of g.at_),_,rfl,x,CAr,i,_,rfl,S4.at_,TA.cl,TA.nZ,S4.few,?_};let{H5,e5,S5,k5}:=S4.set "size" (.int as.sum);rw[e5];have g:=g.kp k5;have v:=v.kp k5;have am:=c.a.hi;have al:=c.b.hi;have O:bs.sum<=10^30:=by rw[<- c.eq];show c.le
 show{_,rfl,x,CAr,i,_,_,rfl,S5.at_,TA.cl,TA.nA,show _=some (V.ref N) by kernel_rfl,N,as,rfl,.inr g.at_,c.a,c.le,fun x1 H6 M L1=>{_,rfl,x,CAr,i,_,_,rfl,M _ _ S5.at_,TA.cl,TA.nB,show _=some (V.ref pb) by kernel_rfl,pb,bs,rfl,.inr (M _ _ v.at_),c.b,O,fun x2 H7 Y L2=>?_}};have z:=S5.on (M.trans Y);have g:=g.kp (J27.of (M.trans Y));have v:=v.kp (J27.of (M.trans Y));have D:=c.a.good c.le;have W:=c.b.good O;show{x1,x2,as,bs,_,_,_,_,rfl,L1.same Y,L2,D,W,wE,wE,(),z.tb,z.tj,c.eq.symm,fun S R=>{?_,fun I l o t H8 L aj ai PG el G LX=>?_}}
 .have:=Jqv D.ord W.ord c.eq.symm (by have:=D.pos_sum;lia) R;lia
 show{_,rfl,x,CAr,i,_,rfl,L _ _ z.at_ rfl,TA.cl,TA.nL,z.few,?_};have S8:Sy x CAr i TB TJ H _ _ H8:={L _ _ z.at_ rfl,z.kp.trans (J3o.of L),z.len,z.lt,aj,ai};let{H9,e9,S9,k9}:=S8.set "line" (.ref I);rw[e9];have g:=(g.kt (J3o.of L)).kp k9;have v:=(v.kt (J3o.of L)).kp k9;have LX:=LX.kp (Kp.x k9 S8.at_ (by kernel_rfl));have tl:t.length=l.length:=PG.len;have ok0:(J2k l o t).Ok:=Jb9 G.perm G.pos tl G.hi;have z0:(J2k l o t).size<=10^30:=by rw[ok0.size_sum];show G.sum
 show{_,rfl,x,CAr,i,_,_,rfl,S9.at_,TA.cl,TA.nL,show _=some (V.ref I) by kernel_rfl,fun J dc U ae ad=>?_};have sc:=(J7 (o:=.own J) ae).trans (J7 (l:=J) (o:=.ins CH dc []) (by rw[Jf (Ne.symm ad)];show U));show{J,dc,I,l,o,t,rfl,J2,LX.same sc,ok0,z0,G.lo,fun m ak lg tp A0 kc=>{rfl,?_}};have j:Same H9 ak:=fun b u e=>kc _ _ (sc _ _ e) (Ja e U);have r:=S9.on j;show{_,rfl,x,CAr,i,_,rfl,r.at_,TA.cl,TA.nC,r.few,?_};let{Hz,ez,Z,kz}:=r.set "chart" (.ref J);rw[ez];have kp:=Kp.x kz r.at_ (by kernel_rfl);have LZ:=(LX.same j).kp kp;show k _ {i,_,N,pb,I,J,l,o,t,m,Z.at_,by kernel_rfl,by kernel_rfl,by kernel_rfl,by kernel_rfl,by kernel_rfl,((g.kp (J27.of j)).kp kz).at_,((v.kp (J27.of j)).kp kz).at_,LZ,G,tl,PG,{I,A0.kp kp,LZ},G,tl,lg,tp} Z.kp Z.tb Z.tj
end
section
variable [En]
structure Js5(H:Hp)(ys:List V)(ps:List (Int×Int)):Prop where
 len:ys.length=ps.length
 at_:∀(i:Nat) (p:Int×Int),ps[i]?=some p->∃q,ys[i]?=some (.ref q)/\H q=some (.tup [.int p.1,.int p.2])
inductive spRoB(vs:List V)(H:Hp)(Q:VK)(E:XK):Prop
 | mk(c:Addr)(b:Band)(_:vs=[.ref c])(_:H c=some (.tup (Ja9 b)))(_:∀l ys a,Same H a->a l=some (.lst ys)->Js5 a ys (eM b)->Q (.ref l) a)
theorem scRoB:FS1 ["band"] J9p:=fsc
theorem ok_rob(F:Fn1 J9p):
  Ca1 1 J9p spRoB:=by
 show F.ok scRoB (fun f d A o s H vs Q E y h=>?_);let{e,b,rfl,a,k}:=h;show{_,(J0 (J1a (J43 (J25 (Js Jl (pv 0) J9))) (J3 (Jd (J1z (dZ (J1y (dZ (Js Jl (pv 0) J9) (dZ (Js Jl (pv 0) J9) J1))) J1)))) Jo)
  (J3 (Jd (J1z (dZ (J1y (dZ (Js Jl (pv 0) J9) (dZ (Jj J3c (Js Jl (pv 0) J9) J9) J1))) (dZ (J1y (dZ (Jj J94 J9 (Js Jl (pv 0) J9)) (dZ (Jj J4k (Js Jl (pv 0) J9) J9) J1))) J1)))))),?_}
 show{_,rfl,e,_,_,_,rfl,rfl,SqT.of a,Jc (j:=3) rfl,_,rfl,?_};unfold eM at k;by_cases ct:b.2.2.2=true
 .show J6d (show ¬ (!(b.2.2.2))=true by rw[ct];decide) ?_;rw[if_pos ct] at k;show{_,rfl,e,_,_,_,rfl,rfl,SqT.of a,Jc (j:=2) rfl,_,rfl,e,_,_,_,rfl,rfl,SqT.of a,Jc (j:=1) rfl,_,_,rfl,rfl,(by change(0:Int)<2;decide),(by change 2<=sizeLine;decide),fun q r=>?_};have m:=J7 (o:=.tup [.int b.2.2.1,.int (b.2.1%2)]) r;show{_,rfl,e,_,_,_,rfl,rfl,SqT.of (m _ _ a),Jc (j:=2) rfl,_,_,rfl,rfl,.inl {by decide,by decide},_,rfl,e,_,_,_,rfl,rfl,SqT.of (m _ _ a),Jc (j:=1) rfl,_,_,rfl,rfl,{by decide,by decide},(by change 2<=sizeLine;decide),fun w n=>{(by change 2<=sizeLine;decide),fun l u=>?_}};have v:=J7 (o:=.tup [.int (2*b.2.2.1),.int (b.2.1/2)]) n;have g:=J7 (o:=.lst [.ref q,.ref w]) u;show k l _ _ ((m.trans v).trans g) J2 {rfl,fun i p c=>?_}
  match i,c with
  | 0,c=>cases c;show{q,rfl,g _ _ (v _ _ J2)}
  | 1,c=>cases c;show{w,rfl,g _ _ J2}
  | i+2,c=>cases c
 .show J77 (show(!(b.2.2.2))=true by cases h:b.2.2.2 with|true=>show absurd h ct|false=>rfl) ?_;rw[if_neg ct] at k;show{_,rfl,e,_,_,_,rfl,rfl,SqT.of a,Jc (j:=2) rfl,_,rfl,e,_,_,_,rfl,rfl,SqT.of a,Jc (j:=1) rfl,(by change 2<=sizeLine;decide),fun q r=>{(by change 1<=sizeLine;decide),fun l u=>?_}};have m:=J7 (o:=.tup [.int b.2.2.1,.int b.2.1]) r;have g:=J7 (o:=.lst [.ref q]) u;show k l _ _ (m.trans g) J2 {rfl,fun i p c=>?_}
  match i,c with
  | 0,c=>cases c;show{q,rfl,g _ _ J2}
  | i+1,c=>cases c
theorem Jnj(bs:List Band)(i:Nat)(hi:i<bs.length):conB (bs.take (i+1))=conB (bs.take i)++eM (bs.getD i bz0):=by
 unfold conB;rw[show bs.take (i+1)=bs.take i++[bs[i]] from(vC hi).symm,uF,zH,gEq hi];change _++(eM bs[i]++[])=_;rw[yM];rfl
theorem take_snoc{α:Type}{xs:List α}{x:α}(h:xs[j]?=some x):xs.take (j+1)=xs.take j++[x]:=by
 let{a,e}:=wP.mp h;rw[<- e];show(vC a).symm
inductive Jgd(C CH CR:Addr)(cs:Kd->Addr)(vs:List V)(H:Hp)(Q:VK)(E:XK):Prop
 | mk(b:Addr)(ls:List Int)(os:List Nat)(ts:List Bool)(m:Nat)(_:vs=[.ref b])(_:ChF C CH CR cs H b ls os ts m)(_:ChP ls os ts m)(_:∀l ys ks a,Same H a->a l=some (.lst ys)->RefL (fun q L=>a q=some (.tup [.int L,.int (cntL (conB (bsC ls os ts m)) L)])) ys ks->RdsO2 (J2k ls os ts).size (bsC ls os ts m) ks->Q (.ref l) a)
theorem J6q:FS1 ["chart","counts","band","length","number"] J9n:=fsc
theorem Jl3{CR:Addr}(F:Fn1 J9n)(T:TxtR mg)(v:mg "sorted"=none)(TH:Jeg K CH)(ae:Ca1 1 J9p spRoB):
  Ca1 2 J9n (Jgd C CH CR cs):=by
 show F.ok J6q (fun f d A o s H vs Q E hr h=>?_);let{xc,ls,os,ts,m,rfl,F0,cp,k}:=h;have w:=Jqp hr;have S:=cp.sys;let{xl,A0,L0}:=F0;let{dq,fs,pr,ps,pt,pb,xr,xs,xt,xb,h0,{lL,lR,lS,lT,lB},{h1,h2,h3,h4},r1,r2,r3,r4}:=A0.ex;have nb:(bsC ls os ts m).length<=24:=by
  have h1:(bsC ls os ts m).length+_<=_:=cp.cok.bands cp.lg;have h2:(J24 ls os ts).1.top.length=ls.length:=yC;have h3:=cp.good.hi;lia
 show{_,(J0 (pst J6q 1 Jbt)
  (J0 (J2h yH rfl (J7v (J8 (pv 0))) (pgm J6q 2)
   (J3 (J2h yH rfl (J1i (pcl ae hr Jg (dZ (pv 2) J1))) (J7w rfl (J1k (pgm J6q 3) (J1k (pgm J6q 4) J58)))
    (J3 (Jf2 w (pv 1) (pv 3) (Jj J12 (Jbu w (pv 1) (pv 3) J9 {rfl,rfl,rfl,rfl}) (pv 4)) rfl)))))
  (J3 (Jd (Jbs (caps:=["counts"]) (js:=[1]) rfl (J1i (J1d (J85 rfl) (by rfl) v boot_sorted (dZ (pv 1) J1))) rfl (fun _ _ _ _=>(J56 (Jk J6x (Jf7 w (pv 1) (pv 0) (fun _ _=>rfl)) J9 (Jp _)))) (fun C fp s H=>(J1y (dZ (pv 0) (dZ (Jf7 w (pv 1) (pv 0) (fun _ _=>rfl)) J1))))))))),?_}
 intro r z;have sm:∀{Hw:Hp} {o:HO},Same H Hw->Same H (upd Hw r o):=fun {Hw o} s b u e=>by rw[Jf (Ja e z)];show s _ _ e
 have cl:=J8p (bsC ls os ts m);show{_,rfl,xc,CH,dq,fs,_,rfl,J7 z _ _ h0,TH.cl,TH.nB,lB,pb,rfl,{_,SqT.of (J7 z _ _ h4)},J9h (K:=K) (a:=pb) (xs:=xb)
  (fun i σ Hw=>∃(kvs:List (Key×V)) (ns:List Int) (v2 D B:Option V),σ=[some (.ref xc),some (.ref r),v2,D,B]/\Hw r=some (.dK kvs)/\CntD (conB ((bsC ls os ts m).take i)) kvs ns/\Same H Hw)
  {[],[],none,none,none,rfl,J2,CntD.nil,J7 z} (fun i σ Hw _ ⟨_,_,_,_,_,_,_,_,s⟩=>SqT.of (s _ _ h4)) ?_ ?_}
 .rintro i x' σ Hw R ⟨kvs,ns,v2,D,B,rfl,c,g,sw⟩;have hi:i<(bsC ls os ts m).length:=by rw[<- r4.len];show(wP.mp R).1
  let{bp,ac,N}:=r4.at_ i hi;obtain rfl:x'=.ref bp:=zV (R.symm.trans ac);have N:H bp=some (.tup (Ja9 ((bsC ls os ts m).getD i bz0))):=N;show{_,rfl,bp,_,rfl,sw _ _ N,fun l ys H1 s1 hl pa=>?_};have ad:=Jnj (bsC ls os ts m) i hi;have c2:=Ja5 ((bsC ls os ts m).getD i bz0);have c3:=J8p ((bsC ls os ts m).take i);rw[xQ] at c3;show{l,rfl,{_,SqL.of hl},J2m (K:=K) (a:=l) (xs:=ys)
   (fun j σ O=>∃(kvs:List (Key×V)) (ns:List Int) (D B:Option V),σ=[some (.ref xc),some (.ref r),some (.ref bp),D,B]/\O r=some (.dK kvs)/\CntD (conB ((bsC ls os ts m).take i)++(eM ((bsC ls os ts m).getD i bz0)).take j) kvs ns/\Same H O/\O l=some (.lst ys)/\Js5 O ys (eM ((bsC ls os ts m).getD i bz0)))
   {kvs,ns,D,B,rfl,s1 _ _ c,(by rw[List.take_zero,yM];show g),sw.trans s1,hl,pa} (fun j σ O _ ⟨_,_,_,_,_,_,_,_,e,_⟩=>SqL.of e) ?_ ?_}
  .rintro j y σ O hj ⟨kvs,ns,D,B,rfl,c,g,sf,J,P⟩;have Z:j<(eM ((bsC ls os ts m).getD i bz0)).length:=by rw[<- P.len];show(gSm hj)
   let{q,eq,W}:=P.at_ j _ (gEq Z);obtain rfl:y=.ref q:=zV (hj.symm.trans eq);have tk:=take_snoc (gEq Z);generalize (eM ((bsC ls os ts m).getD i bz0))[j]=pn at *;have kl:=g.klen;have kn:=g.len;rw[zN,xQ] at kn;have X:kvs.length<sizeLine:=Jq ();show{q,_,rfl,SqT.of W,rfl,_,_,rfl,_,_,rfl,rfl,?_};show{_,rfl,r,rfl,.inl {kvs,.inl c},_,rfl,_,DGet.k (k:=Sum.inl pn.1) c,_,rfl,cntL (conB ((bsC ls os ts m).take i)++(eM ((bsC ls os ts m).getD i bz0)).take j) pn.1,pn.2,g.get pn.1,rfl,_,rfl,_,rfl,r,_,rfl,DPut.k (k:=Sum.inl pn.1) c X,?_};let{n,ab}:=g.put pn.1 pn.2;have nl:l≠r:=fun e=>by rw[e,c] at J;cases J
   show{_,n,_,_,rfl,J2,?_,sm sf,?_,P.len,fun a p hp=>?_}
   .rw[tk,<- vS];show ab
   .rw[Jf nl];show J
   .let{q',e',k'}:=P.at_ a p hp;show{q',e',?_};rw[Jf (fun e=>by rw[e,c] at k';cases k')];show k'
  .rintro σ O ⟨kvs,ns,D,B,rfl,c,g,sf,_,P⟩;rw[P.len,xS,<- ad] at g;show{kvs,ns,_,_,_,rfl,c,g,sf}
 .rintro σ Hw ⟨kvs,ns,v2,D,B,rfl,c,g,sw⟩;have g:CntD (conB (bsC ls os ts m)) kvs ns:=by rw[r4.len,xS] at g;show g
  have kn:=g.len;show{_,rfl,r,kvs,ns,rfl,c,g.keys,(),fun l n hl I aa=>?_};have sl:=J7 (o:=.lst (iV n)) hl;have Y:upd Hw l (.lst (iV n)) l=some (.lst (iV n)):=J2;have U:=sl _ _ c;generalize upd Hw l (.lst (iV n))=H1 at *;have dg:∀{G:Hp},Same H1 G->∀L∈n,DGet G r (.int L) (some (.int (cntL (conB (bsC ls os ts m)) L))):=fun {G} s L hL=>by
   rw[<- g.val L (I.mem_iff.mp hL)];show DGet.k (k:=Sum.inl L) (s _ _ U)
  show{l,rfl,{_,SqL.of Y},fun d hd=>Jhe n (fun L=>decide (0<cntL (conB (bsC ls os ts m)) L)) (fun H q L=>H q=some (.tup [.int L,.int (cntL (conB (bsC ls os ts m)) L)])) (SqL.of Y) ?_ hd (fun H G q x kd hn h=>kd _ _ h hn) ?_ ?_ ?_}
  .show yJ (Jq (by rw[I.length_eq];lia))
  .intro L hL G Qt s' kt;show{_,rfl,_,rfl,r,_,rfl,dg s' L hL,_,_,rfl,rfl,_,rfl,kt _ (Same.refl _)}
  .rintro L hL G Qe _ s' ⟨ys,M⟩ ke;show{_,rfl,_,rfl,_,rfl,r,_,rfl,dg s' L hL,(by change 2<=sizeLine;decide),fun q W=>?_};show ke q _ (J7 W) (fun e=>by rw[e,M] at W;cases W) J2
  .intro ys G s' M rf;show k d ys _ G ((sw.trans sl).trans s') M rf (S.rds2 g.nd g.all g.has g.len I aa)
end
end R53
namespace Rl
end Rl
namespace R53
open PySem L2 Rl En
section
variable [En]
theorem Jqr{os:List Nat}(g:Good ls os)(b:ts.length=ls.length)(h:0<=y/\y<ls.sum):gC ls os ts y=gL ls os ts y:=by
 have O:=g.ord;let{j,q}:=O.range.exists h.1 h.2;have ok:=Jb9 g.perm g.pos b g.hi;show go_of ok {j,?_,?_}
 .have a:=q;unfold Lies at a;rw[J2o O q.1] at a;show{by rw[yC];show q.1,a.2.1,by rw[J15,J2n q.1];show a.2.2}
 .rw[Jdm O q,J2n q.1,J2o O q.1]
theorem J6h.getD(g:J6h bs):∀j,j<bs.length->1<=bs.getD j 0:=fun j a=>g.pos _ (by simp_all)
structure ArS(as bs ls:List Int)(os:List Nat)(ts:List Bool)(m:Nat):Prop where
 eq:∀y,0<=y/\y<as.sum->gC ls os ts y=tB bs (tB as y)
 size:(J2k ls os ts).size=as.sum
 sys:Sys (fun y=>tB bs (tB as y)) as.sum (bsC ls os ts m)
theorem Ji5{os:List Nat}(G:J39 as bs)(PG:PlG (fun y=>gT bs (gT as y)) as.sum ls os ts)(c:ChP ls os ts m):ArS as bs ls os ts m:=by
 have j:=(G.a.good G.le).ord;have i:=(G.b.good (by rw[<- G.eq];show G.le)).ord;have g:=J5w (ts:=replicate as.length true) j;have f:=J5w (ts:=replicate bs.length true) i;rw[<- G.eq] at f;have d:=PG.sum;have sz:(J2k ls os ts).size=as.sum:=by rw[c.ok0.size_sum];show d
 have e:∀y,0<=y/\y<as.sum->gC ls os ts y=tB bs (tB as y):=fun y h=>by
  rw[Jqr c.good c.hts (by rw[d];show h)];show PG.goes (g.comp f) y h.1 h.2
 have S:=c.sys;rw[sz] at S;show{e,sz,S.congr e}
inductive Jrf(vs:List V)(H:Hp)(Q:VK)(E:XK):Prop
 | mk(p:Addr)(bs:List Int)(_:vs=[.ref p])(_:H p=some (.tup (iV bs)))(_:J6h bs)(_:∀l a,Same H a->H l=none->a l=some (.lst (iV (midL bs bs.length)))->Q (.ref l) a)
theorem J53:FS1 ["lengths","told","first","length"] J7b:=fsc
theorem Jio(F:Fn1 J7b):Ca1 1 J7b Jrf:=by
 show F.ok J53 fun f d A o s H vs Q E G h=>?_;let{p,bs,rfl,w,g,k}:=h;show{_,(J0 (pst J53 1 (J1z J1))
   (J0 (pst J53 2 J9)
   (J0 (J2h yH rfl (J7v (pv 0)) (pgm J53 3)
    (J0 (J1a (Jk J44 (Jj J3c (pv 3) J9) J9 (Jp _)) (J3 (J18 (J3w yI xE xF J1g (pv 1) (dZ (Jj J12 (pv 2) (Jj J4k (pv 3) J9)) J1)))) Jo)
    (J3 (pst J53 2 (Jj J12 (pv 2) (pv 3))))))
   (J3 (Jd (pv 1)))))),?_}
 show{zO _,fun l q=>{_,rfl,p,rfl,{_,SqT.of (J7 q _ _ w)},J9h (K:=K) (a:=p) (xs:=iV bs)
  (fun i σ m=>∃v,σ=[some (.ref p),some (.ref l),some (.int (ahB bs i)),v]/\m l=some (.lst (iV (midL bs i)))/\Same H m) {none,rfl,J2,J7 q} (fun i σ m _ B=>by let{_,_,_,s}:=B;show SqT.of (s _ _ w)) ?_ ?_}}
 .rintro i C σ m r ⟨v,rfl,j,n⟩;have z:(iV bs).length=bs.length:=zB ..;have hi:i<bs.length:=by have:=(gSm r);rw[z] at this;show this
  rw[J19 hi] at r;cases r;have st:ahB bs (i+1)=ahB bs i+bs.getD i 0:=by change Jr _ _ _=_;rw[J15,J2n hi]
  have D:(iV (midL bs i)).length<=i:=by rw[zB];unfold midL;rw[zB];show zM (wG _ _) (by rw[yC];show zD _)
  have y:=g.hi;show{_,rfl,_,_,rfl,rfl,(by change(0:Int)<2;decide),rfl,_,rfl,?_};by_cases c:bs.getD i 0%2=1
  .show J31 (zP V.int c) {_,rfl,.inl {rfl,_,SqL.of j},_,rfl,_,rfl,_,_,rfl,rfl,{by decide,by decide},_,_,rfl,rfl,l,_,_,rfl,rfl,j,?_,?_}
   .change(iV (midL bs i)).length<sizeLine;show Jq ()
   .show{_,rfl,_,rfl,_,_,rfl,rfl,_,by rw[st];rfl,?_,fun b u e=>?_}
    .rw[J2,Jdf,if_pos c];change some (HO.lst (List.map V.int (midL bs i)++[V.int (ahB bs i+bs.getD i 0/2)]))=some (HO.lst (List.map V.int (midL bs i++[ahB bs i+bs.getD i 0/2])));rw[yE];rfl
    .rw[Jf (Ja e q)];show n _ _ e
  .show iteD (fun e=>c (V.int.inj e)) {_,rfl,_,rfl,_,_,rfl,rfl,_,by rw[st];rfl,?_,n};rw[j,Jdf,if_neg c,yM]
 .rintro σ m ⟨v,rfl,j,n⟩;rw[show(iV bs).length=bs.length from zB ..] at j;show{_,rfl,k l m n q j}
end
section
variable [En]
noncomputable abbrev fA(as bs:List Int):Int->Int:=fun y=>tB bs (tB as y)
noncomputable def J32(as bs:List Int):List (Int×Int):=(midL as as.length++midL bs bs.length).map fun x=>((rOf (fA as bs) x:Int),(1:Int))
structure TrAt(H:Hp)(ys:List V)(ts:List (Str×Int×Int)):Prop where
 len:ys.length=ts.length
 at_:∀(i:Nat) (t:Str×Int×Int),ts[i]?=some t->∃q,ys[i]?=some (.ref q)/\H q=some (.tup [.str t.1,.int t.2.1,.int t.2.2])
theorem TrAt.same(h:TrAt H ys ts)(s:Same H H'):TrAt H' ys ts:={h.len,fun i t e=>by let{q,a,b}:=h.at_ i t e;show{q,a,s _ _ b}}
noncomputable def wayT(as bs:List Int)(L:Int):Str×Int×Int:=("way",L,cntL (J32 as bs) L/2)
inductive spNW(C CH CR a:Addr)(cs:Kd->Addr)(vs:List V)(H:Hp)(Q:VK)(E:XK):Prop
 | mk(x:Addr)(as bs:List Int)(_:vs=[.ref x])(_:ArAt C CH CR a cs H x as bs)(_:J39 as bs)(_:∀l ys (kw:List Int) H',Same H H'->H' l=some (.lst ys)->TrAt H' ys (kw.map (wayT as bs))->kw.Pairwise (· < ·)->(∀p∈J32 as bs,p.1∈kw)->(∀L∈kw,∃p∈J32 as bs,p.1=L)->Q (.ref l) H')
theorem Jbj:FS1 ["arches","ends","x","length"] Jdu:=fsc
theorem Jps{CR:Addr}(F:Fn1 Jdu)(TA:Jg1 K CAr)(r:mg "sorted"=none)(aa:Ca1 1 J7b Jrf)(aj:Ca1 6 Jb1 (Jes C CH CR cs)):
  Ca1 8 Jdu (spNW C CH CR CAr cs):=by
 show F.ok Jbj fun f d A o s H vs Q E hr h=>?_;let{x,as,bs,rfl,Ar,G,k}:=h;have J:=Jqp hr;let{dx,fs,pa,pb,xl,xc,ls,os,ts,m,h0,lA,lB,lZ,lL,lC,hA,hB,L,gd,tl,PG,CF,cp}:=Ar.ex;have S:=Ji5 G PG cp;have Oa:=(G.a.good G.le).ord;have Ob:=(G.b.good (by rw[<- G.eq];show G.le)).ord;show{_,(J0 (pst Jbj 1 Jbt)
   (J0 (J2h yH rfl (J1i (Jj Jh3 (pcl aa hr Jg (dZ (J8 (pv 0)) J1)) (pcl aa hr Jg (dZ (J8 (pv 0)) J1)))) (pgm Jbj 2)
    (J0 (pst Jbj 3 (pcl aj hr Jg (dZ (J8 (pv 0)) (dZ (pv 2) J1))))
    (J3 (Jf2 J (pv 1) (pv 3) (Jj J12 (Jbu J (pv 1) (pv 3) J9 {rfl,rfl,rfl,rfl}) J9) rfl))))
   (J3 (Jd (Jbs (caps:=["ends"]) (js:=[1]) rfl (J1i (J1d (J85 rfl) (by rfl) r boot_sorted (dZ (pv 1) J1))) rfl (fun _ _ _ _=>J4i) (fun C fp s H=>J1y (dZ J2q (dZ (pv 0) (dZ (Jj J4k (Jf7 J (pv 1) (pv 0) (fun _ _=>rfl)) J9) J1))))))))),?_}
 intro w Z;have s0:=J7 (o:=.dK []) Z;have sm:∀{Hw:Hp} {o:HO},Same H Hw->Same H (upd Hw w o):=fun {Hw o} s b u e=>by rw[Jf (Ja e Z)];show s _ _ e
 have ah:upd H w (.dK []) w=some (.dK []):=J2;generalize upd H w (.dK [])=H0 at *;show{_,rfl,x,CAr,dx,fs,_,rfl,s0 _ _ h0,TA.cl,TA.nA,lA,pa,as,rfl,s0 _ _ hA,G.a,fun l1 H1 s1 n1 B=>?_};show{_,rfl,x,CAr,dx,fs,_,rfl,s1 _ _ (s0 _ _ h0),TA.cl,TA.nB,lB,pb,bs,rfl,s1 _ _ (s0 _ _ hB),G.b,fun l2 H2 s2 n2 ae=>?_};have I:∀q:List Int,q.length<=12->(iV (midL q q.length)).length<=12:=fun q Y=>by
  rw[zB];unfold midL;rw[zB];show zM (wG _ _) (by rw[yC];show Y)
 have la:=I as G.a.hi;have lb:=I bs G.b.hi;show{l1,l2,_,_,rfl,rfl,s2 _ _ B,ae,yJ (Jq ()),fun T ad=>?_};have s3:=J7 (o:=.lst (iV (midL as as.length)++iV (midL bs bs.length))) ad;have h3:upd H2 T (.lst (iV (midL as as.length)++iV (midL bs bs.length))) T=some (.lst (iV (midL as as.length++midL bs bs.length))):=by rw[J2];change _=some (HO.lst (List.map V.int _));rw[yE]
 have sA:=((s0.trans s1).trans s2).trans s3;have ag:=s3 _ _ (s2 _ _ (s1 _ _ ah));generalize upd H2 T (.lst (iV (midL as as.length)++iV (midL bs bs.length)))=H3 at *;have ab:∀y∈midL as as.length++midL bs bs.length,0<=y/\y<as.sum:=fun y hy=>by
  rcases yF.mp hy with q|q
  .show((J7n Oa G.a.getD).mp q).1
  .rw[G.eq];show((J7n Ob G.b.getD).mp q).1
 have lM:(midL as as.length++midL bs bs.length).length<=24:=by rw[zN];rw[zB] at la lb;lia
 have eP:J32 as bs=(midL as as.length++midL bs bs.length).map fun x=>((rOf (fA as bs) x:Int),(1:Int)):=rfl;generalize midL as as.length++midL bs bs.length=M at *;show{T,rfl,{_,SqL.of h3},J2m (K:=K) (a:=T) (xs:=iV M)
  (fun i σ Hw=>∃(kvs:List (Key×V)) (ns:List Int) (v2 v3:Option V),σ=[some (.ref x),some (.ref w),v2,v3]/\Hw w=some (.dK kvs)/\CntD ((M.take i).map fun x=>((rOf (fA as bs) x:Int),(1:Int))) kvs ns/\Same H Hw/\Hw T=some (.lst (iV M)))
  {[],[],none,none,rfl,ag,CntD.nil,sA,h3} (fun i σ Hw _ ⟨_,_,_,_,_,_,_,_,e⟩=>SqL.of e) ?_ ?_}
 .rintro i v0 σ Hw hv ⟨kvs,ns,v2,v3,rfl,z,j,W,hl⟩;have hi:i<M.length:=by have:=(gSm hv);rw[zB] at this;show this
  rw[J19 hi] at hv;cases hv;have hy:=ab _ (show M.getD i 0∈M by rw[zH,gEq hi];show xC hi);have tk:M.take (i+1)=M.take i++[M.getD i 0]:=by rw[zH,gEq hi];show(vC hi).symm
  generalize M.getD i 0=y at *;show{_,rfl,x,CAr,dx,fs,_,rfl,W _ _ h0,TA.cl,TA.nC,lC,_,rfl,xc,ls,os,ts,m,y,rfl,CF.same W,cp,fun n b o lv D s' R Ad e en=>?_,S.size▸hy};obtain rfl:n=rOf (fA as bs) y:=Jd5 (N:=as.sum) (by have:=cp.sys;rw[S.size] at this;show this) S.eq hy R;have g:=s' _ _ z;have kl:=j.klen;have kn:=j.len;rw[zB,xQ] at kn;show{_,rfl,w,rfl,.inl {kvs,.inl g},_,rfl,_,DGet.k (k:=Sum.inl (rOf (fA as bs) y:Int)) g,cntL ((M.take i).map fun x=>((rOf (fA as bs) x:Int),(1:Int))) (rOf (fA as bs) y),1,j.get _,rfl,_,rfl,_,rfl,w,_,rfl,DPut.k (k:=Sum.inl (rOf (fA as bs) y:Int)) g (Jq ()),?_};let{c,ai}:=j.put (rOf (fA as bs) y) 1;show{_,c,_,_,rfl,J2,?_,sm (W.trans s'),?_}
  .rw[tk,yE];show ai
  .have O:=s' _ _ hl;rw[Jf (fun e=>by rw[e,g] at O;cases O)];show O
 .rintro σ Hw ⟨kvs,ns,v2,v3,rfl,z,j,W,hl⟩;rw[show(iV M).length=M.length from zB ..,xS,<- eP] at j;have kn:=j.len;rw[eP,zB] at kn;show{_,rfl,w,kvs,ns,rfl,z,j.keys,(),fun l c af v ac=>?_};have sl:=J7 (o:=.lst (iV c)) af;have B:upd Hw l (.lst (iV c)) l=some (.lst (iV c)):=J2;have X:=sl _ _ z;generalize upd Hw l (.lst (iV c))=H5 at *;have dg:∀{D:Hp},Same H5 D->∀L∈c,DGet D w (.int L) (some (.int (cntL (J32 as bs) L))):=fun {D} s L U=>by
   rw[<- j.val L (v.mem_iff.mp U)];show DGet.k (k:=Sum.inl L) (s _ _ X)
  show{l,rfl,{_,SqL.of B},fun d hd=>Jhe c (fun _=>true) (fun H q L=>H q=some (.tup [.str "way",.int L,.int (cntL (J32 as bs) L/2)])) (SqL.of B) ?_ hd (fun H D q x kd hn h=>kd _ _ h hn) ?_ ?_ ?_}
  .show yJ (Jq (by rw[v.length_eq];lia))
  .intro L U D Qt s' kt;show kt _ (Same.refl _)
  .rintro L U D Qe _ s' ⟨ys,P⟩ ke;show{_,rfl,_,rfl,_,rfl,w,_,rfl,dg s' L U,_,_,rfl,rfl,{by decide,by decide},(by change 3<=sizeLine;decide),fun q Y=>?_};show ke q _ (J7 Y) (fun e=>by rw[e,P] at Y;cases Y) J2
  .intro ys D s' P rf;rw[show c.filter (fun _=>true)=c by simp] at rf;show k d ys c D ((W.trans sl).trans s') P {?_,fun i t e=>?_} ((ac.and (vL.mp (v.nodup_iff.mpr j.nd))).imp fun h=>by have:=h.1;have:=h.2;lia) (fun p hp=>v.mem_iff.mpr (j.all p hp)) (fun L U=>j.has L (v.mem_iff.mp U))
   .rw[rf.len,zB]
   .rw[zY] at e
    cases e2:c[i]? with
    | none=>rw[e2] at e;cases e
    | some L =>
     rw[e2] at e;cases e;show rf.at_ i L e2
end
section
variable [En]
noncomputable def J72(as bs:List Int)(a:List Band)(L:Int):Int:=cntL (conB a) L-cntL (J32 as bs) L/2
noncomputable def loopT(as bs:List Int)(a:List Band)(L:Int):Str×Int×Int:=("loop",2*L,J72 as bs a L/2)
structure KrOk(as bs:List Int)(cb:List Band)(kr:List Int):Prop where
 sys:Sys (fun y=>tB bs (tB as y)) as.sum cb
 inc:kr.Pairwise (· < ·)
 sum:(kr.map fun L=>L*cntL (conB cb) L).sum=as.sum
 pos:∀L∈kr,1<=L
 all:∀L,1<=cntL (conB cb) L->L∈kr
 few:kr.length<=48
structure KwOk(as bs kw:List Int):Prop where
 inc:kw.Pairwise (· < ·)
 all:∀p∈J32 as bs,p.1∈kw
 has:∀L∈kw,∃p∈J32 as bs,p.1=L
theorem inc_nd{l:List Int}(h:l.Pairwise (· < ·)):l.Nodup:=h.imp fun h e=>()
theorem KwOk.nd(h:KwOk as bs kw):kw.Nodup:=inc_nd h.inc
theorem KwOk.few(h:KwOk as bs kw)(G:J39 as bs):kw.length<=24:=by
 have d:=J6y h.nd (ys:=(J32 as bs).map (·.1)) fun L g=>by let{p,f,e}:=h.has L g;show zW.mpr {p,f,e}
 have c:∀q ,(midL q q.length).length<=q.length:=fun q=>by
  unfold midL;rw[zB];show zM (wG _ _) (by rw[yC];show zD _)
 have:=c as;have:=c bs;have:=G.a.hi;have:=G.b.hi;unfold J32 at d;rw[zB,zB,zN] at d;lia
theorem Jqy(h:KwOk as bs kw)(L:Int):cntL (kw.map fun L=>(L,cntL (J32 as bs) L/2)) L=cntL (J32 as bs) L/2:=by
 by_cases c:L∈kw
 .have d:∀l:List Int,l.Nodup->L∈l->cntL (l.map fun L=>(L,cntL (J32 as bs) L/2)) L=cntL (J32 as bs) L/2:=by
   intro l
   induction l with
   | nil=>intro _ h;cases h
   | cons a l ih =>
    intro nd i;rw[yN] at nd;rw[zL,J3t];by_cases e:a=L
    .subst e;have g:cntL (l.map fun L=>(L,cntL (J32 as bs) L/2)) a=0:=Ja7 fun p b=>by
      let{z,f,rfl}:=zW.mp b;show fun q:z=a=>nd.1 (by rw[<- q];show f)
     rw[if_pos rfl,g];change cntL (J32 as bs) a/2+0=_;lia
    .rw[if_neg e,ih nd.2 ((zI.mp i).resolve_left fun q=>e q.symm)];lia
  show d kw h.nd c
 .have g:cntL (kw.map fun L=>(L,cntL (J32 as bs) L/2)) L=0:=Ja7 fun p b=>by
   let{z,f,rfl}:=zW.mp b;show fun q:z=L=>c (by rw[<- q];show f)
  have j:cntL (J32 as bs) L=0:=Ja7 fun p b q=>c (by rw[<- q];show h.all p b);rw[g,j];rfl
theorem J79{α:Type}(d:α)(ks:List α)(G:α->Bool):((List.range ks.length).filter fun i=>G (ks.getD i d)).map (fun i=>ks.getD i d)=ks.filter G:=by
 have a:∀n,n<=ks.length->((List.range n).filter fun i=>G (ks.getD i d)).map (fun i=>ks.getD i d)=(ks.take n).filter G:=by
  intro n
  induction n with
  | zero=>intro _;rfl
  | succ n ih =>
   intro b;have e:ks.getD n d=ks[n]:=by rw[zH,gEq b];rfl
   rw[wK,xX,yE,ih (),<- vC b,xX,yV,yV,e];split
   .rw[zL,e];rfl
   .rfl
 rw[a _ (zD _),xS]
inductive spNL(C CH CR a:Addr)(cs:Kd->Addr)(vs:List V)(H:Hp)(Q:VK)(E:XK):Prop
 | mk(x b:Addr)(as bs c:List Int)(ys:List V)(_:vs=[.ref x,.ref b])(_:ArAt C CH CR a cs H x as bs)(_:J39 as bs)(_:H b=some (.lst ys))(_:TrAt H ys (c.map (wayT as bs)))(_:KwOk as bs c)(_:∀l zs (kr:List Int) (cb:List Band) H',Same H H'->H' l=some (.lst zs)->TrAt H' zs ((kr.filter fun L=>decide (0<J72 as bs cb L)).map (loopT as bs cb))->KrOk as bs cb kr->Q (.ref l) H')
theorem J5q:FS1 ["arches","ways","of_ways","word","dots","number","left"] J9v:=fsc
theorem Jld{CR:Addr}(F:Fn1 J9v)(TA:Jg1 K CAr)(ag:Ca1 2 J9n (Jgd C CH CR cs)):
  Ca1 8 J9v (spNL C CH CR CAr cs):=by
 show F.ok J5q fun f d A o s H vs Q E hr h=>?_;let{x,lw,as,bs,n,ys,rfl,Ar,G,W,tr,D,k}:=h;have U:=Jqp hr;let{dx,fs,pa,pb,xl,xc,ls,os,ts,m,h0,lA,lB,lZ,lL,lC,hA,hB,L,gd,tl,PG,CF,cp}:=Ar.ex;have S:=Ji5 G PG cp;show{_,(J0 (pst J5q 2 Jbt)
   (J0 (J2h yH rfl (J1i (pv 1)) (J7w rfl (J1k (pgm J5q 3) (J1k (pgm J5q 4) (J1k (pgm J5q 5) J58))))
    (J3 (Jf2 U (pv 2) (pv 4) (pv 5) rfl)))
   (J0 (Jrp (i:=6) (x:="length") (xr:=["number"]) (caps:=["of_ways"]) (js:=[2]) J5q.nd rfl (Or.inl rfl) rfl (J1i (pcl ag hr Jg (dZ (J8 (pv 0)) J1))) (pgb2 rfl (by decide +kernel)) rfl (fun _ _ _ _=>J4i) (fun C fp s H=>J1y (dZ (pv 0) (dZ (Jj J1j (pv 1) (Jbu U (pv 2) (pv 0) J9 {rfl,rfl,rfl,rfl})) J1))))
   (J3 (Jd (Jh1 (x:="length") (xr:=["number"]) (caps:=[]) (js:=[]) rfl (J1i (pv 6)) (pgb2 rfl (by decide +kernel)) rfl (fun _ _ _ _=>J56 (Jk J6x (pv 1) J9 (Jp _))) (fun C fp s H=>J1y (dZ J2q (dZ (Jj J94 J9 (pv 0)) (dZ (Jj J4k (pv 1) J9) J1)))))))))),?_}
 intro w aa;have s0:=J7 (o:=.dK []) aa;have sm:∀{Hw:Hp} {o:HO},Same H Hw->Same H (upd Hw w o):=fun {Hw o} s b u e=>by rw[Jf (Ja e aa)];show s _ _ e
 have af:upd H w (.dK []) w=some (.dK []):=J2;generalize upd H w (.dK [])=H0 at *;have few:=D.few G;show{_,rfl,lw,rfl,{_,SqL.of (s0 _ _ W)},J2m (K:=K) (a:=lw) (xs:=ys)
  (fun i σ Hw=>∃(kvs:List (Key×V)) (ns:List Int) (v3 v4 v5:Option V),σ=[some (.ref x),some (.ref lw),some (.ref w),v3,v4,v5,none]/\Hw w=some (.dK kvs)/\CntD ((n.take i).map fun L=>(L,cntL (J32 as bs) L/2)) kvs ns/\Same H Hw)
  {[],[],none,none,none,rfl,af,CntD.nil,s0} (fun i σ Hw _ ⟨_,_,_,_,_,_,_,_,s⟩=>SqL.of (s _ _ W)) ?_ ?_}
 .rintro i v0 σ Hw hv ⟨kvs,ns,v3,v4,v5,rfl,I,R,P⟩;have hi:i<n.length:=by have:=(gSm hv);rw[tr.len,zB] at this;show this
  let{q,eq,l}:=tr.at_ i (wayT as bs n[i]) (by rw[zY,gEq hi];rfl);obtain rfl:v0=.ref q:=zV (hv.symm.trans eq);have tk:n.take (i+1)=n.take i++[n[i]]:=(vC hi).symm;have no:n[i] ∉ n.take i:=fun hm=>by
   let{j,hj,e}:=uA hm;rw[List.getElem_take] at e;rw[xQ] at hj;have:=(getElem_inj D.nd).mp e;lia
  generalize n[i]=L at *;have z:cntL ((n.take i).map fun L=>(L,cntL (J32 as bs) L/2)) L=0:=Ja7 fun p hp=>by
   let{y,hy,rfl}:=zW.mp hp;show fun e:y=L=>no (by rw[<- e];show hy)
  have kl:=R.klen;have kn:=R.len;rw[zB,xQ] at kn;show{q,_,rfl,SqT.of (P _ _ l),rfl,_,_,rfl,_,_,rfl,_,_,rfl,rfl,?_};show{_,rfl,_,rfl,_,rfl,w,_,rfl,DPut.k (k:=Sum.inl L) I (Jq ()),?_};let{ac,ab}:=R.put L (cntL (J32 as bs) L/2);rw[z,yZ] at ab;show{_,ac,_,_,_,rfl,J2,?_,sm P};rw[tk,yE];show ab
 .rintro σ Hw ⟨kvs,ns,v3,v4,v5,rfl,I,R,P⟩;rw[tr.len,zB,xS] at R;show{_,rfl,x,CAr,dx,fs,_,rfl,P _ _ h0,TA.cl,TA.nC,lC,xc,ls,os,ts,m,rfl,CF.same P,cp,fun l1 yr g H1 s1 X rf rd=>?_};have nb:(bsC ls os ts m).length<=24:=by
   have h1:(bsC ls os ts m).length+_<=_:=cp.cok.bands cp.lg;have h2:(J24 ls os ts).1.top.length=ls.length:=yC;have h3:=cp.good.hi;lia
  have fw:=rd.base.few;have lr:=rf.len;have r:=s1 _ _ I;have ad:∀i v,yr[i]?=some v->i<g.length/\∃q,v=.ref q/\H1 q=some (.tup [.int (g.getD i 0),.int (cntL (conB (bsC ls os ts m)) (g.getD i 0))]):=fun i v e=>by
   have hi:i<g.length:=by rw[<- lr];show(gSm e)
   let{q,eq,l}:=rf.at_ i (g.getD i 0) (by rw[zH,gEq hi];rfl);show{hi,q,zV (e.symm.trans eq),l}
  show{l1,rfl,{_,SqL.of X},fun d hd=>Jm8 yr (fun _=>true) (fun i H y=>∃q,y=.ref q/\H q=some (.tup [.int (g.getD i 0),.int (J72 as bs (bsC ls os ts m) (g.getD i 0))])) (SqL.of X) (yJ (Jq ())) hd (fun i y H H' O kp hz ⟨q,e,l⟩=>{q,e,kp _ _ l fun z=>by rw[z,hz] at l;cases l}) ?_ ?_}
  .intro i v ev H2 ou K1 K2 T M k1 _;let{hi,q,rfl,l}:=ad i v ev
   match ou,M with
   | [o1,o2],_ =>
    show{q,_,rfl,SqT.of (T _ _ l),rfl,_,_,rfl,_,_,rfl,rfl,[_,_],rfl,rfl,iteT (B:=K2 H2) ?_};show{_,rfl,_,rfl,_,rfl,w,rfl,.inl {kvs,.inl (T _ _ r)},_,rfl,_,DGet.k (k:=Sum.inl (g.getD i 0)) (T _ _ r),cntL (conB (bsC ls os ts m)) (g.getD i 0),cntL (J32 as bs) (g.getD i 0)/2,rfl,?_,(by change 2<=sizeLine;decide),fun q2 J=>k1 rfl _ _ (J7 J) {q2,rfl,J2}};rw[R.get,Jqy D]
  .intro O H2 T Z al;rw[show(List.range yr.length).filter (fun _=>true)=List.range yr.length by simp] at al;have lz:O.length=g.length:=by rw[<- al.1,yC,lr]
   show{_,rfl,d,rfl,{_,SqL.of Z},fun d2 Y=>Jm8 O (fun i=>decide (0<J72 as bs (bsC ls os ts m) (g.getD i 0))) (fun i H y=>∃q,y=.ref q/\H q=some (.tup [.str "loop",.int (2*g.getD i 0),.int (J72 as bs (bsC ls os ts m) (g.getD i 0)/2)])) (SqL.of Z) (yJ (Jq ())) Y (fun i y H H' O kp hz ⟨q,e,l⟩=>{q,e,kp _ _ l fun z=>by rw[z,hz] at l;cases l}) ?_ ?_}
   .intro i v ev H3 ou K1 K2 s3 M k1 k2;have hi:i<O.length:=(gSm ev);let{q,rfl,l}:=al.2 i i v (by rw[tQ ()]) ev
    match ou,M with
    | [o1,o2],_ =>
     show{q,_,rfl,SqT.of (s3 _ _ l),rfl,_,_,rfl,_,_,rfl,rfl,[_,_],rfl,rfl,_,rfl,_,_,rfl,rfl,_,rfl,?_};by_cases c:0<J72 as bs (bsC ls os ts m) (g.getD i 0)
     .show J31 c {_,rfl,_,_,rfl,rfl,.inl {by decide,by decide},_,rfl,_,_,rfl,rfl,{by decide,by decide},(by change 3<=sizeLine;decide),fun q2 J=>k1 (zZ c) _ _ (J7 J) {q2,rfl,J2}}
     .show iteD c (k2 (yD c) _ (Same.refl _))
   .intro us H3 s3 ae N;show k d2 us g (bsC ls os ts m) H3 (((P.trans s1).trans T).trans s3) ae {?_,fun i t e=>?_} {S.sys,rd.base.inc,rd.base.sum.trans S.size,fun L hL=>(rd.base.pos L hL).1,rd.only,()}
    .rw[<- N.1,zB,<- J79 0 g,zB,lz]
    .rw[zY,<- J79 0 g fun L=>decide (0<J72 as bs (bsC ls os ts m) L),zY,<- lz] at e
     cases e2:((List.range O.length).filter fun i=>decide (0<J72 as bs (bsC ls os ts m) (g.getD i 0)))[i]? with
     | none=>rw[e2] at e;cases e
     | some j =>
      rw[e2] at e;cases e;have hu:i<us.length:=by rw[<- N.1];show(gSm e2)
      let{q,e3,l}:=N.2 i j us[i] e2 (gEq hu);show{q,by rw[gEq hu,e3],l}
end
section
variable [En]
theorem ArAt.same{CR:Addr}(h:ArAt C CH CR CAr cs H x as bs)(s:Same H H'):ArAt C CH CR CAr cs H' x as bs:=by
 let{q,fs,d,c,a,b,ls,os,ts,m,o,j,i,e,f,g,n,l,L,p,tl,PG,u,r}:=h.ex;show{q,fs,d,c,a,b,ls,os,ts,m,s _ _ o,j,i,e,f,g,s _ _ n,s _ _ l,L.same s,p,tl,PG,u.same s,r}
theorem TrAt.append(a:TrAt H ys ts)(b:TrAt H zs us):TrAt H (ys++zs) (ts++us):=by
 show{by rw[zN,zN,a.len,b.len],fun i t e=>?_};by_cases h:i<ts.length
 .rw[yQ h] at e;rw[yQ (by rw[a.len];show h)];show a.at_ i t e
 .rw[yP ()] at e;rw[yP (by rw[a.len];lia),a.len];show b.at_ _ t e
noncomputable def strT(as bs:List Int)(a:List Band)(c b:List Int):List (Str×Int×Int):=(c.filter fun L=>decide (0<J72 as bs a L)).map (loopT as bs a)++b.map (wayT as bs)
inductive spSD(C CH CR a:Addr)(cs:Kd->Addr)(vs:List V)(H:Hp)(Q:VK)(E:XK):Prop
 | mk(x:Addr)(as bs:List Int)(_:vs=[.ref x])(_:ArAt C CH CR a cs H x as bs)(_:J39 as bs)(_:∀l zs (kr kw:List Int) (cb:List Band) H',Same H H'->H l=none->H' l=some (.lst zs)->TrAt H' zs (strT as bs cb kr kw)->zs.length<=72->KrOk as bs cb kr->KwOk as bs kw->Q (.ref l) H')
theorem Jcz:FS1 ["arches","ways"] J5z:=fsc
theorem Jim{CR:Addr}(F:Fn1 J5z)(n:Ca1 8 Jdu (spNW C CH CR CAr cs))(p:Ca1 8 J9v (spNL C CH CR CAr cs)):
  Ca1 9 J5z (spSD C CH CR CAr cs):=by
 show F.ok Jcz fun f d A o s H vs Q E r h=>?_;let{x,as,bs,rfl,v,G,k}:=h;show{_,(J0 (pst Jcz 1 (pcl n r Jg (dZ (pv 0) J1)))
   (J3 (Jd (Jj Jh3 (pcl p r Jg (dZ (pv 0) (dZ (pv 1) J1))) (pv 1))))),?_}
 show{_,rfl,x,as,bs,rfl,v,G,fun l1 ys m R l u i z y w=>?_};have a:KwOk as bs m:={z,y,w};show{_,rfl,_,rfl,x,l1,as,bs,m,ys,rfl,v.same l,G,u,i,a,fun D q I K P g J b c=>?_};have M:=a.few G;have L:=c.few;have O:q.length<=48:=by rw[b.len,zB];show zM (wG _ _) L
 have N:ys.length<=24:=by rw[i.len,zB];show M
 show{_,rfl,D,l1,_,_,rfl,rfl,J,g _ _ u,yJ (Jq ()),fun B e=>?_};have j:=J7 (o:=.lst (q++ys)) e;show k B _ I m K _ ((l.trans g).trans j) (Same.free (l.trans g) e) J2 ((b.same j).append ((i.same g).same j)) (by rw[zN];lia) c a
inductive spLW(C CH CR a:Addr)(cs:Kd->Addr)(vs:List V)(H:Hp)(Q:VK)(E:XK):Prop
 | mk(x:Addr)(as bs:List Int)(_:vs=[.ref x])(_:ArAt C CH CR a cs H x as bs)(_:J39 as bs)(_:∀p (kr kw:List Int) (cb:List Band) H',Same H H'->H' p=some (.tup [.int (((strT as bs cb kr kw).filter fun t=>decide (t.1=("loop":Str))).map fun t=>t.2.2).sum,.int (((strT as bs cb kr kw).filter fun t=>decide (t.1=("way":Str))).map fun t=>t.2.2).sum])->KrOk as bs cb kr->KwOk as bs kw->Q (.ref p) H')
theorem J8e:FS1 ["arches","told","loops","ways"] J9w:=fsc
theorem al_eq{f:Nat->V}{ks:List Nat}{a:List V}(h:Al2 (fun i z=>z=f i) ks a):a=ks.map f:=by
 show wX fun k=>?_;rw[zY]
 cases e:ks[k]? with
 | none =>
  rw[tZ] at e;rw[tU (by rw[<- h.1];show e)];rfl
 | some i =>
  have b:k<a.length:=by rw[<- h.1];show(gSm e)
  rw[gEq b,h.2 k i _ e (gEq b)];rfl
theorem Jlf{C CH CR z:Addr}{cs:Kd->Addr}(F:Fn1 J9w)(T:TxtR mg)(O:Ca1 9 J5z (spSD C CH CR z cs)):
  Ca1 10 J9w (spLW C CH CR z cs):=by
 show F.ok J8e fun f d A o s H vs Q E hr h=>?_;let{x,as,bs,rfl,Ar,G,k}:=h;show{_,(J0 (pst J8e 1 (pcl O hr Jg (dZ (pv 0) J1)))
   (J0 (pst J8e 2 (pcb (J23 rfl) T.sum (Jh1 (x:="word") (xr:=["dots","number"]) (caps:=[]) (js:=[]) rfl (J1i (pv 1)) (pgb3 rfl (by decide +kernel)) rfl (fun _ _ _ _=>J56 (Jk J44 (pv 0) J2q (Jp _))) (fun C fp s H=>pv 2))))
   (J0 (pst J8e 3 (pcb (J23 rfl) T.sum (Jh1 (x:="word") (xr:=["dots","number"]) (caps:=[]) (js:=[]) rfl (J1i (pv 1)) (pgb3 rfl (by decide +kernel)) rfl (fun _ _ _ _=>J56 (Jk J44 (pv 0) J2q (Jp _))) (fun C fp s H=>pv 2))))
   (J3 (Jd (J1y (dZ (pv 2) (dZ (pv 3) J1)))))))),?_}
 show{_,rfl,x,as,bs,rfl,Ar,G,fun l S g b j Y Z _ N B lz J I=>?_};have w:(Str×Int×Int):=("",0,0);have one:∀(a:Str) (n:Hp) (d:Addr) (ρ:List (Option V)) (P:VK),Same Y n->n d=none->(∀D,Same n D->D d=some (.lst (iV (((strT as bs j g b).filter fun t=>decide (t.1=a)).map fun t=>t.2.2)))->P (.ref d) D)->
   LCWg (gTup K 3 (J9g (J5e 0) (J9g (J5e 1) (J9g (J5e 2) gNil)))) 3 (Itl K l) (tTest (tOp rEq (tVar 0) (tC (.str a)))) (tVar 2) ρ [] P n d:=fun a n d ρ P r hd kq=>by
  show Jm8 S (fun i=>decide (((strT as bs j g b).getD i w).1=a)) (fun i H y=>y=.int ((strT as bs j g b).getD i w).2.2) (SqL.of (r _ _ N)) (yJ (Jq ())) hd (fun i y H D S kp hz e=>e) ?_ ?_
  .intro i v U R ou K1 K2 u L k1 k2;have hi:i<(strT as bs j g b).length:=by rw[<- B.len];show(gSm U)
   let{q,eq,hq}:=B.at_ i ((strT as bs j g b).getD i w) (by rw[zH,gEq hi];rfl);obtain rfl:v=.ref q:=zV (U.symm.trans eq)
   match ou,L with
   | [o1,o2,o3],_ =>
    show{q,_,rfl,SqT.of (u _ _ (r _ _ hq)),rfl,_,_,rfl,_,_,rfl,_,_,rfl,rfl,[_,_,_],rfl,rfl,?_};show{_,rfl,rfl,_,rfl,?_};by_cases c:((strT as bs j g b).getD i w).1=a
    .show J31 (zP V.str c) {_,rfl,k1 (zZ c) _ _ (Same.refl _) rfl}
    .show iteD (fun e=>c (V.str.inj e)) (k2 (yD c) _ (Same.refl _))
  .intro us R u m al;show kq R u ?_;rw[m,al_eq al,<- J79 w (strT as bs j g b) fun t=>decide (t.1=a),yX,B.len];show zP (some∘HO.lst) (yX ..).symm
 have small:∀a:Str,(((strT as bs j g b).filter fun t=>decide (t.1=a)).map fun t=>t.2.2).length<=72:=fun a=>by
  rw[zB];show zM (wG _ _) (B.len▸lz)
 show{_,rfl,l,rfl,{_,SqL.of N},fun X M=>one "loop" Y X _ _ (Same.refl _) M fun n r h2=>{X,_,rfl,.inl (SqL.of h2),?_}};show{_,rfl,l,rfl,{_,SqL.of (r _ _ N)},fun W m=>one "way" n W _ _ r m fun R u h3=>{W,_,rfl,.inl (SqL.of h3),?_}};show{_,rfl,_,rfl,(by change 2<=sizeLine;decide),fun p hp=>k p g b j _ (((Z.trans r).trans u).trans (J7 hp)) J2 J I}
end
section
variable [En]
inductive Jrg(vs:List V)(H:Hp)(Q:VK)(E:XK):Prop
 | mk(p q:Addr)(fs ls:List Int)(x:Int)(i:Nat)(_:vs=[.ref p,.ref q,.int x])(_:H p=some (.tup (iV fs)))(_:H q=some (.tup (iV ls)))(_:fs.length=ls.length)(_:Lies fs ls x i)(_:∀(j:Nat) H',Same H H'->Lies fs ls x j->Q (.int j) H')
theorem Jkh:FS1 ["firsts","lengths","x","piece","first"] Jn2:=fsc
theorem Jtp(F:Fn1 Jn2)(c:mg "enumerate"=none):Ca1 1 Jn2 Jrg:=by
 show F.ok Jkh (fun f d A o s H vs Q E N h=>?_);let{p,q,fs,ls,x,I,rfl,G,L,B,D,k}:=h;show{_,(J0 (J2h yH rfl (Jf5 rfl c (dZ (pv 0) J1)) (J7w rfl (J1k (pgm Jkh 3) (J1k (pgm Jkh 4) J58)))
   (J3 (J1a (PW.pt (Jgy (Jk op_le (pv 4) (pv 2) (Jp _)) (Jbn (Jk J95 (pv 2) (Jj J12 (pv 4) (Js Jl (pv 1) (pv 3))) (Jp _))))) (J3 (Jd (pv 3))) Jo)))
  (J3 J1o)),?_}
 show{_,rfl,p,rfl,{_,SqT.of G},Jhn (K:=K) (a:=p) (xs:=iV fs) (fun i σ l=>∃v w,σ=[some (.ref p),some (.ref q),some (.int x),v,w]/\Same H l/\∀j,j<i->¬ Lies fs ls x j) {none,none,rfl,Same.refl _,fun j h=>absurd h (wZ _)} (fun i σ l _ M=>by let{_,_,_,s,_}:=M;show SqT.of (s _ _ G)) ?_ ?_}
 .rintro i y σ l t z ⟨v,w,rfl,C,hi⟩ J;have b:i<fs.length:=by
   have:=(gSm z);rw[zB] at this;show this
  rw[J19 b] at z;cases z;have m:Same H (upd l t (.tup [.int (i:Int),.int (fs.getD i 0)])):=C.trans (J7 J);have g:¬ Lies fs ls x i->∀j,j<i+1->¬ Lies fs ls x j:=fun n j O=>by
   by_cases e:j=i
   .rw[e];show n
   .show hi j ()
  show{t,_,rfl,SqT.of J2,rfl,_,_,rfl,_,_,rfl,rfl,?_};show{_,rfl,_,rfl,_,_,rfl,rfl,_,rfl,?_};by_cases u:fs.getD i 0<=x
  .show J31 u ?_;show{_,rfl,_,rfl,_,rfl,_,rfl,q,_,_,_,rfl,rfl,SqT.of (m _ _ L),Jc (J19 (by rw[<- B];show b)),_,_,rfl,rfl,_,_,rfl,rfl,_,rfl,?_};by_cases r:x<fs.getD i 0+ls.getD i 0
   .show J31 r {_,rfl,k i _ m {by rw[<- B];show b,u,r}}
   .show iteD r {_,_,rfl,m,g fun q=>r q.2.2}
  .show iteD u (iteF {_,_,rfl,m,g fun q=>u q.2.1})
 .rintro σ l ⟨v,w,rfl,C,hi⟩;rw[zB] at hi;show absurd D (hi I (by rw[B];show D.1))
inductive spAt(C:Addr)(vs:List V)(H:Hp)(Q:VK)(E:XK):Prop
 | mk(x:Addr)(ls:List Int)(os:List Nat)(ts:List Bool)(y:Int)(i:Nat)(_:vs=[.ref x,.int y])(_:J29 C H x ls os ts)(_:Lies (eK ls (List.range ls.length)) ls y i)(_:∀(j:Nat) H',Same H H'->Lies (eK ls (List.range ls.length)) ls y j->Q (.int j) H')
theorem scAt:FS1 ["line","x"] fAt:=fsc
theorem ok_at(F:Fn1 fAt)(a:TxtC K mg C)(q:Ca1 1 Jn2 Jrg):Ca1 2 fAt (spAt C):=by
 show F.ok scAt (fun f d A o s H vs Q E m h=>?_);let{x,ls,os,ts,y,i,rfl,L,g,k}:=h;let{e,c,pl,po,pt,ps,r,b,{l,z,w,j,v,u},p,G,D,n,B}:=L.ex;show{_,(J3 (Jd (pcl q m Jg (dZ (J8 (pv 0)) (dZ (J8 (pv 0)) (dZ (pv 1) J1)))))),?_};show{_,rfl,x,C,e,c,_,rfl,b,a.cl,a.nS,j,_,rfl,x,C,e,c,_,rfl,b,a.cl,a.nL,l,_,rfl,ps,pl,_,ls,y,i,rfl,n,p,J35 _ _,g,k}
inductive Jri(C:Addr)(vs:List V)(H:Hp)(Q:VK)(E:XK):Prop
 | mk(x:Addr)(ls:List Int)(os:List Nat)(ts:List Bool)(y:Int)(_:vs=[.ref x,.int y])(_:J29 C H x ls os ts)(_:Good ls os)(_:ts.length=ls.length)(_:0<=y/\y<ls.sum)(_:∀a,Same H a->Q (.int (gL ls os ts y)) a)
theorem Jrl:FS1 ["line","x","piece"] Jn4:=fsc
theorem Jtr(F:Fn1 Jn4)(a:TxtC K mg C)(O:Ca1 2 fAt (spAt C))(N:Ca1 1 Jb3 (Jbe K)):Ca1 3 Jn4 (Jri C):=by
 show F.ok Jrl (fun f d A o s H vs Q E q h=>?_);let{x,ls,os,ts,y,rfl,L,g,D,p,k}:=h;let{i,u}:=g.ord.range.exists p.1 p.2;show{_,(J0 (pst Jrl 2 (pcl O q Jg (dZ (pv 0) (dZ (pv 1) J1))))
  (J3 (Jd (pcl N q Jg (dZ (pv 0) (dZ (pv 2) (dZ (Jj J1j (pv 1) (Js Jl (J8 (pv 0)) (pv 2))) (dZ (J8 (pv 0)) J1)))))))),?_}
 show{_,rfl,_,rfl,x,ls,os,ts,y,i,rfl,L,u,fun j P m b=>?_};let{l,e,pl,po,pt,ps,r,c,{B,S,z,w,v,R},M,T,J,I,G}:=(L.same m).ex;have n:=k P m;rw[Jdm g.ord b] at n;show{_,rfl,_,rfl,_,rfl,_,rfl,x,C,l,e,_,rfl,c,a.cl,a.nS,w,_,rfl,ps,_,_,_,rfl,rfl,SqT.of I,Jc (J19 (by rw[J35];show b.1)),_,_,rfl,rfl,_,rfl,x,C,l,e,_,rfl,c,a.cl,a.nD,v,
  x,r,ls,ts,eK ls os,j,_,rfl,{C,l,e,pl,pt,c,a.cl,a.nL,a.nT,B,z,M,J},G,J35 _ _,D,b.1,n}
noncomputable def endV(bs:List Int)(x:Int):V:=if tB bs x=x then .non else .int (tB bs x)
inductive Jgi(vs:List V)(H:Hp)(Q:VK)(E:XK):Prop
 | mk(p:Addr)(bs:List Int)(x:Int)(_:vs=[.ref p,.int x])(_:SqH H p (iV bs))(_:J6h bs)(_:bs.sum<=10^30)(_:0<=x/\x<bs.sum)(_:∀a,Same H a->Q (endV bs x) a)
theorem Jgu:FS1 ["lengths","x","end"] J9u:=fsc
theorem Jla(F:Fn1 J9u)(r:Ca1 3 Jn4 (Jri C))(b:Ca1 5 Jay (Jeq C)):Ca1 6 J9u Jgi:=by
 show F.ok Jgu (fun f d A o s H vs Q E i h=>?_);let{p,bs,x,rfl,q,g,e,n,k}:=h;show{_,(J0 (pst Jgu 2 (pcl r i Jg (dZ (pcl b i Jg (dZ (pv 0) J1)) (dZ (pv 1) J1))))
  (J3 (Jd (J3f (Jk J44 (pv 2) (pv 1) (Jp _)) J7x (pv 2))))),?_}
 show{_,rfl,p,bs,rfl,q,g,e,fun j v m L=>{_,rfl,j,bs,_,_,x,rfl,L,g.good e,wE,n,fun u l=>?_}};have a:=k u (m.trans l);unfold endV at a;show{_,rfl,_,rfl,rfl,_,rfl,?_};by_cases c:tB bs x=x
 .rw[if_pos c] at a;show J31 (zP V.int c) a
 .rw[if_neg c] at a;show iteD (J4b c) {_,rfl,a}
inductive Jk3(C CH CR a:Addr)(cs:Kd->Addr)(vs:List V)(H:Hp)(Q:VK)(E:XK):Prop
 | mk(y:Addr)(as bs:List Int)(x:Int)(_:vs=[.ref y,.int x])(_:ArAt C CH CR a cs H y as bs)(_:J39 as bs)(_:0<=x/\x<as.sum)(_:∀b,Same H b->Q (endV as x) b)
theorem Jt5:FS1 ["arches","x"] Je2:=fsc
theorem Jq5{CR:Addr}(F:Fn1 Je2)(TA:Jg1 K CAr)(e:Ca1 6 J9u Jgi):Ca1 7 Je2 (Jk3 C CH CR CAr cs):=by
 show F.ok Jt5 (fun f d A o s H vs Q E j h=>?_);let{y,as,bs,x,rfl,v,G,i,k}:=h;let{u,fs,g,B,w,z,ls,os,ts,m,n,r,I,D,p,q,c,l,b}:=v.ex;show{_,(J3 (Jd (pcl e j Jg (dZ (J8 (pv 0)) (dZ (pv 1) J1))))),?_};show{_,rfl,y,CAr,u,fs,_,rfl,n,TA.cl,TA.nA,r,_,rfl,g,as,x,rfl,.inr c,G.a,G.le,i,k}
inductive Jsg(C CH CR a:Addr)(cs:Kd->Addr)(vs:List V)(H:Hp)(Q:VK)(E:XK):Prop
 | mk(y:Addr)(as bs:List Int)(x:Int)(_:vs=[.ref y,.int x])(_:ArAt C CH CR a cs H y as bs)(_:J39 as bs)(_:0<=x/\x<as.sum)(_:∀b,Same H b->Q (.int (tB as x)) b)
theorem scLed:FS1 ["arches","x","end"] fLed:=fsc
theorem ok_led{CR:Addr}(F:Fn1 fLed)(b:Ca1 7 Je2 (Jk3 C CH CR CAr cs)):Ca1 8 fLed (Jsg C CH CR CAr cs):=by
 show F.ok scLed (fun f d A o s H vs Q E g h=>?_);let{y,as,bs,x,rfl,j,G,e,k}:=h;show{_,(J0 (pst scLed 2 (pcl b g Jg (dZ (pv 0) (dZ (pv 1) J1))))
  (J3 (Jd (J3f (Jk op_isN (pv 2) J7x (Jp _)) (pv 1) (pv 2))))),?_}
 show{_,rfl,_,rfl,y,as,bs,x,rfl,j,G,e,fun i s'=>?_};have a:=k i s';unfold endV;by_cases c:tB as x=x
 .rw[c] at a;rw[if_pos c];show{_,rfl,rfl,_,rfl,iteT {_,rfl,a}}
 .rw[if_neg c];show{_,rfl,rfl,_,rfl,iteF {_,rfl,a}}
inductive Jey(C CH CR a:Addr)(cs:Kd->Addr)(vs:List V)(H:Hp)(Q:VK)(E:XK):Prop
 | mk(y:Addr)(as bs:List Int)(u v:Int)(_:vs=[.ref y,.int u,.int v])(_:ArAt C CH CR a cs H y as bs)(_:J39 as bs)(_:∀c b,Same H b->(c=true↔onR (fA as bs) u v)->Q (.bl c) b)(_:0<=u/\u<as.sum)(_:0<=v/\v<as.sum)
theorem Jt2:FS1 ["arches","x","y"] Jb6:=fsc
theorem Jpz{CR:Addr}(F:Fn1 Jb6)(TA:Jg1 K CAr)(g:Ca1 6 Jn5 (Jrk C CH CR cs)):Ca1 7 Jb6 (Jey C CH CR CAr cs):=by
 show F.ok Jt2 (fun f d A o s H vs Q E q h=>?_);let{y,as,bs,u,v,rfl,N,G,k,i,p}:=h;let{I,fs,R,P,O,l,ls,os,ts,m,B,X,W,U,D,b,z,w,L,T,tl,PG,M,c}:=N.ex;have S:=Ji5 G PG c;show{_,(J3 (Jd (J69 Jte (pcl g q Jg (dZ (J8 (pv 0)) (dZ (pv 1) (dZ (pv 2) J1)))) J7x (Jp _)))),?_};show{_,rfl,y,CAr,I,fs,_,rfl,B,TA.cl,TA.nC,b,_,rfl,_,rfl,l,ls,os,ts,m,u,v,rfl,M,c,fun r J s' a=>{rfl,k _ J s' ?_},S.size▸i,S.size▸p};have j:=c.sys;rw[S.size] at j;have e:onR (gC ls os ts) u v↔onR (fA as bs) u v:=exists_congr fun n=>by rw[(J8l j.inn S.eq i n).1]
 rw[<- e];simp[a]
noncomputable def stW(as bs:List Int)(x:Int):Str:=@ite _ (way (tB as) (fA as bs) x) (Classical.propDecidable _) "way" "loop"
noncomputable def stN(as bs:List Int)(x:Int):Int:=@ite _ (way (tB as) (fA as bs) x) (Classical.propDecidable _) (rOf (fA as bs) x:Nat) (2*(rOf (fA as bs) x:Nat))
noncomputable abbrev strV(as bs:List Int)(x:Int):List V:=[.str (stW as bs x),.int (stN as bs x)]
inductive Jgc(C CH CR b:Addr)(cs:Kd->Addr)(vs:List V)(H:Hp)(Q:VK)(E:XK):Prop
 | mk(y:Addr)(as bs:List Int)(x:Int)(_:vs=[.ref y,.int x])(_:ArAt C CH CR b cs H y as bs)(_:J39 as bs)(_:∀p a,Same H a->a p=some (.tup (strV as bs x))->Q (.ref p) a)(_:0<=x/\x<as.sum)
theorem J39.two{as bs:List Int}(G:J39 as bs):Two (tB as) (tB bs) (fA as bs) as.sum:=Jnp (G.a.good G.le).ord (G.b.good (by rw[<- G.eq];show G.le)).ord G.eq
theorem Jgt:FS1 ["arches","x","length"] J9m:=fsc
theorem Jl2{CR:Addr}(F:Fn1 J9m)(TA:Jg1 K CAr)(r:Ca1 6 Jb1 (Jes C CH CR cs))(v:Ca1 7 Jb6 (Jey C CH CR CAr cs))(u:Ca1 8 fLed (Jsg C CH CR CAr cs)):Ca1 9 J9m (Jgc C CH CR CAr cs):=by
 show F.ok Jgt (fun f d A o s H vs Q E i h=>?_);let{y,as,bs,x,rfl,I,G,k,g}:=h;let{Y,fs,pa,pb,xl,M,ls,os,ts,m,W,gA,gB,gZ,X,l,T,P,L,gd,tl,PG,Z,q}:=I.ex;have S:=Ji5 G PG q;have U:=G.two.ain x g;show{_,(J0 (pst Jgt 2 (pcl r i Jg (dZ (J8 (pv 0)) (dZ (pv 1) J1))))
  (J0 (J1a (J25 (pcl v i Jg (dZ (pv 0) (dZ (pv 1) (dZ (pcl u i Jg (dZ (pv 0) (dZ (pv 1) J1))) J1))))) (J3 (Jd (J1y (dZ J2q (dZ (pv 2) J1))))) Jo)
  (J3 (Jd (J1y (dZ J2q (dZ (Jj J94 J9 (pv 2)) J1))))))),?_}
 show{_,rfl,y,CAr,Y,fs,_,rfl,W,TA.cl,TA.nC,l,_,rfl,M,ls,os,ts,m,x,rfl,Z,q,fun n b o lv H1 D R _ _ _=>?_,S.size▸g};obtain rfl:=Jd5 (N:=as.sum) (by have:=q.sys;rw[S.size] at this;show this) S.eq g R;have J:=I.same D;show{_,rfl,_,rfl,_,rfl,_,rfl,y,as,bs,x,rfl,J,G,g,fun H2 B=>{y,as,bs,x,tB as x,rfl,J.same B,G,fun c H3 O e=>{_,rfl,?_},g,U}};unfold strV stW stN at k;have a:=(D.trans B).trans O
 cases c with
 | true =>
  have w:way (tB as) (fA as bs) x:=e.mp rfl;rw[if_pos w,if_pos w] at k;show iteT {_,rfl,(by change 2<=sizeLine;decide),fun p j=>k p _ (a.trans (J7 j)) J2}
 | false =>
  have w:¬ way (tB as) (fA as bs) x:=fun z=>nomatch e.mpr z;rw[if_neg w,if_neg w] at k;show iteF {_,rfl,_,_,rfl,rfl,.inl {by decide,by decide},(by change 2<=sizeLine;decide),fun p j=>k p _ (a.trans (J7 j)) J2}
inductive spTog(C CH CR a:Addr)(cs:Kd->Addr)(vs:List V)(H:Hp)(Q:VK)(E:XK):Prop
 | mk(y:Addr)(as bs:List Int)(u v:Int)(_:vs=[.ref y,.int u,.int v])(_:ArAt C CH CR a cs H y as bs)(_:J39 as bs)(_:∀c b,Same H b->(c=true↔tog (tB as) (fA as bs) u v)->Q (.bl c) b)(_:0<=u/\u<as.sum)(_:0<=v/\v<as.sum)
theorem Jie:FS1 ["arches","x","y"] J5h:=fsc
theorem ok_tog{CR:Addr}(F:Fn1 J5h)(e:Ca1 7 Jb6 (Jey C CH CR CAr cs))(l:Ca1 8 fLed (Jsg C CH CR CAr cs)):Ca1 9 J5h (spTog C CH CR CAr cs):=by
 show F.ok Jie (fun f d A o s H vs Q E j h=>?_);let{y,as,bs,u,v,rfl,p,G,k,i,n}:=h;show{_,(J3 (Jd (pe_or (pcl e j Jg (dZ (pv 0) (dZ (pv 1) (dZ (pv 2) J1)))) (Jkr (pcl e j Jg (dZ (pv 0) (dZ (pcl l j Jg (dZ (pv 0) (dZ (pv 1) J1))) (dZ (pv 2) J1)))))))),?_};show{_,rfl,_,rfl,_,rfl,y,as,bs,u,v,rfl,p,G,fun c I g b=>?_,i,n}
 cases c with
 | true=>show{_,rfl,iteT (k _ _ g {fun _=>.inl (b.mp rfl),fun _=>rfl})}
 | false =>
  have r:=p.same g;show{_,rfl,iteF {_,rfl,_,rfl,_,rfl,y,as,bs,u,rfl,r,G,i,fun D m=>{_,rfl,y,as,bs,tB as u,v,rfl,r.same m,G,fun c B w a=>k c _ ((g.trans m).trans w) (a.trans {.inr,fun z=>z.resolve_left fun q=>nomatch b.mpr q}),G.two.ain u i,n}}}
end
section
def Jpd(ns:List Int)(lo st:Nat):List Int:=(List.range (Builtin.Range.rangeSize (lo:Int) (ns.length:Int) (st:Int)).toNat).map fun i=>ns.getD (lo+i*st) 0
def lenK(ns:List Int)(lo many:Nat)(a:Int)(k:Nat):Int:=1+(Jpd ns (lo+k) many).sum%a
def lensN(ns:List Int)(lo many:Nat)(a:Int):List Int:=(List.range many).map (lenK ns lo many a)
theorem Jm5(ns:List Int)(lo many:Nat)(a:Int):(lensN ns lo many a).length=many:=by simp[lensN]
theorem Jm4(b:0<span):∀a∈lensN ns lo many span,1<=a/\a<=span:=fun a h=>by
 let{k,_,rfl}:=zW.mp h;unfold lenK;have d:=xO (Jpd ns (lo+k) many).sum (show span≠0 by lia);have c:=xM (Jpd ns (lo+k) many).sum b;lia
theorem Jkp{K:Frag}(n:SqL K H1 a (iV ns))(q:ns.length<=63)(l:0<st)(hd:H1 d=none)(p:σ[js.getD 0 0]?=some (some (.ref a)))(o:js=[js.getD 0 0])(m:∀c,Same H1 c->c d=some (.lst (iV (Jpd ns lo st)))->Q (.ref d) c):
  LCW (Its (lo:Int) (st:Int) (Builtin.Range.rangeSize (lo:Int) (ns.length:Int) (st:Int)).toNat) tYes (tOp (rIxL K) (tVar 1) (tVar 0)) σ js Q H1 d:=by
 have g:(0:Int)<(st:Int):=()
 have few:=Jjs (a:=(lo:Int)) (b:=(ns.length:Int)) g;show lc_stp (lo:Int) (st:Int) _ (fun i=>V.int (ns.getD (lo+i*st) 0)) () hd (fun _ _ H _ _ k=>k H (Same.refl _)) (fun i hi s r j k=>?_) (fun c s' h=>m c s' ?_)
 .have f:=Jo2 g hi;have e:(lo:Int)+(i:Int)*(st:Int)=((lo+i*st:Nat):Int):=by rw[uZ,tI]
  rw[e] at f;show{.ref a,?_,.int ((lo+i*st:Nat):Int),by rw[<- e];rfl,a,_,_,_,rfl,rfl,j.seq n,Jc (J19 ()),k _ (Same.refl _)};rw[o];change(capv σ [js.getD 0 0])[0]?=_;unfold capv;rw[zL,p];rfl
 .rw[h];change _=some (HO.lst ((List.map _ _).map V.int));rw[yX];rfl
end
section
variable [En]
inductive Jk1(K:Frag)(vs:List V)(H:Hp)(Q:VK)(E:XK):Prop
 | mk(a:Addr)(ns:List Int)(j:Nat)(_:vs=[.ref a,.int j])(_:SqL K H a (iV ns))(_:Q (.int (eN ns j)) H)
theorem scCell:FS1 ["script","k"] Jj6:=fsc
theorem Jtt(F:Fn1 Jj6)(T:TxtR mg):
  Ca1 1 Jj6 (Jk1 K):=by
 show F.ok scCell (fun f d A o s H vs Q E i h=>?_);let{a,ns,j,rfl,c,k}:=h;show{_,J0 (J1a (Jk J95 (pv 1) (pcb Jm T.len (pv 0)) (Jp _)) (J3 (Jd (Js J3b (pv 0) (pv 1)))) Jo) (J3 (Jd J9)),?_};show{_,rfl,_,rfl,a,_,rfl,.inl c,_,_,rfl,rfl,_,rfl,?_};have b:(iV ns).length=ns.length:=zB ..;by_cases g:j<ns.length
 .show J31 (by rw[b];lia) ?_;show{_,rfl,_,rfl,a,_,_,_,rfl,rfl,c,Jc (J19 g),k}
 .show iteD (by rw[b];lia) ?_;have e:eN ns j=0:=by
   unfold eN;rw[zH,tU ()];rfl
  rw[e] at k;show k
end
section
variable [En]
structure TxtL(K:Frag)(mg:Str->Option Value):Prop where
 isi:mg "isinstance"=none
 int:mg "int"=none
 bool:mg "bool"=none
 str:mg "str"=none
 kib:kitOne K (.type "int") (.type "bool")=some false
inductive Jep(vs:List V)(H:Hp)(Q:VK)(E:XK):Prop
 | mk(i:Int)(_:vs=[.int i])(_:Q (.bl true) H)
theorem Jsj:FS1 ["found"] Jax:=fsc
theorem Jpf(F:Fn1 Jax)(a:TxtL K mg):
  Ca1 1 Jax Jep:=by
 show F.ok Jsj (fun f d A o s H vs Q E b h=>?_);let{i,rfl,k}:=h;show{_,J3 (Jd (Jrq (J1d (J2d rfl) (by rfl) a.isi vM (dZ (pv 0) (dZ (J5a (v:=.ty "int") rfl a.int PyProof.Rows.boot_int rfl) J1)))
  (Jkr (pe_not (J1d (J2d rfl) (by rfl) a.isi vM (dZ (pv 0) (dZ (J5a (v:=.ty "bool") rfl a.bool boot_bool rfl) J1))))))),?_}
 show{_,rfl,_,.ty "int",.type "int",.type "int",true,rfl,rfl,fun v h=>h,.int i,rfl,true,rfl,iteT ?_};show{_,rfl,_,.ty "bool",.type "int",.type "bool",false,rfl,rfl,fun v h=>h,.int i,a.kib,false,rfl,k}
end
section
variable [En]
inductive Jgp(K:Frag)(vs:List V)(H:Hp)(Q:VK)(E:XK):Prop
 | mk(a:Addr)(ns:List Int)(many:Nat)(b:Int)(_:vs=[.ref a,.int many,.int b])(_:SqL K H a (iV ns))(_:ns.length<=63)(_:1<=many)(_:many<=24)(_:0<b)(_:∀l c,Same H c->H l=none->c l=some (.lst (iV (lensN ns 1 many b)))->Q (.ref l) c)
theorem Jov:FS1 ["script","many","span"] Ja2:=fsc
theorem Jlq(F:Fn1 Ja2)(T:TxtR mg):
  Ca1 1 Ja2 (Jgp K):=by
 show F.ok Jov (fun f d A o s H vs Q E I h=>?_);let{a,ns,many,b,rfl,m,c,G,D,p,k}:=h;show{_,(J3 (Jd (Jbs (caps:=["script","many","span"]) (js:=[0,1,2]) rfl (J6v rfl T.range (dZ (pv 1) J1)) rfl (fun _ _ _ _=>J4i) (fun C w s H=>(Jj J12 J9 (Jj J3c (J1d (Jnn K) (by rfl) T.sum boot_sum (dZ (Jbs (caps:=["script"]) (js:=[1]) rfl (Jpe rfl T.range (dZ (Jj J12 J9 (pv 0)) (dZ (J1d (Jcf K) (by rfl) T.len PySem.boot_len (dZ (pv 1) J1)) (dZ (pv 2) J1)))) rfl (fun _ _ _ _=>J4i) (fun C w s H=>(J65 (Jhg K) (pv 1) (pv 0)))) J1)) (pv 3))))))),?_};show{_,rfl,(many:Int),rfl,(),(),fun z g=>lc_rng 0 many (fun _=>true) (fun k=>V.int (lenK ns 1 many b k)) () g (fun _ _ H _ _ k=>k H (Same.refl _)) (fun j u n J _ i q=>?_) (fun n i e=>?_)}
 .have y:(1:Int)+(0+(j:Int))=((1+j:Nat):Int):=()
  show{_,rfl,_,_,rfl,rfl,_,rfl,a,_,rfl,.inl (i.seq m),_,rfl,((1+j:Nat):Int),(ns.length:Int),(many:Int),?_,{(),(),(),(),(),()},fun B l=>Jkp (i.seq m) c () l rfl rfl fun L r v=>?_}
  .rw[<- y,J2i]
  .show{B,_,rfl,.inl (SqL.of v),_,rfl,_,_,rfl,rfl,p,_,_,rfl,rfl,q _ r}
 rw[J5y] at e;show k z n i g ?_;rw[e];change _=some (HO.lst ((List.map _ _).map V.int));rw[yX];rfl
inductive Jco(K:Frag)(vs:List V)(H:Hp)(Q:VK)(E:XK):Prop
 | mk(a:Addr)(ns:List Int)(many:Nat)(tot:Int)(_:vs=[.ref a,.int tot,.int many])(_:SqL K H a (iV ns))(_:1<=many)(_:many<=24)(_:1<=tot)(_:∀l bs c,Same H c->H l=none->c l=some (.lst (iV bs))->1<=bs.length->bs.length<=many->(∀b∈bs,1<=b)->bs.sum=tot->Q (.ref l) c)
theorem J3q:FS1 ["script","total","many","found","mixed","k","part"] J9s:=fsc
theorem Jin(F:Fn1 J9s)(T:TxtR mg)(m:mg "min"=none):
  Ca1 1 J9s (Jco K):=by
 show F.ok J3q (fun f d A o s H vs Q E hr h=>?_);let{a,ns,many,tot,rfl,L,Z,Y,P,k}:=h;show{_,(J0 (pst J3q 3 (J1z J1))
  (J0 (pst J3q 4 (Jj J12 J9 (Jj J3c (pcb (J23 rfl) T.sum (pv 0)) J9)))
  (J0 (J2h yH rfl (J6v rfl T.range (dZ (Jj J1j (pv 2) J9) J1)) (pgm J3q 5)
   (J3 (J1a (Jk J6x (pv 1) J9 (Jp _)) (J0 (pst J3q 4 (Jj J3c (Jj J94 (pv 4) J9) J9))
    (J0 (pst J3q 6 (Jj J12 J9 (Jj J3c (Jj J12 (pv 4) (Jj J4k (pcb (J23 rfl) T.sum (pv 0)) (Jj J12 (pv 5) J9))) (Jj J1j (pv 1) J9))))
    (J0 (J4w (J1a (Jk J44 (Jj J3c (pv 4) J9) J9 (Jp _)) (J3 (pst J3q 6 (Jj J12 J9 (Jj J3c (pv 4) (J1d (Ja8 rfl) (by rfl) m boot_min (dZ J9 (dZ (Jj J1j (pv 1) J9) J1))))))) Jo))
    (J0 (J18 (J3w yI xE xF J1g (pv 3) (dZ (pv 6) J1)))
    (J3 (pst J3q 1 (Jj J1j (pv 1) (pv 6)))))))) Jo)))
  (J0 (J18 (J3w yI xE xF J1g (pv 3) (dZ (pv 1) J1)))
  (J3 (Jd (pv 3))))))),?_}
 have sm:=Jq (n:=100) (by decide);have z0:0<=ns.sum%1000000006:=xO _ (by decide);have X:ns.sum%1000000006<1000000006:=xM _ (by decide);show{zO _,fun l v=>?_};have D:=J7 (o:=.lst []) v;show{_,rfl,a,ns,rfl,.inl (D.seq L),_,_,rfl,rfl,(by change(0:Int)<1000000006;decide),_,_,rfl,rfl,?_};show{_,rfl,_,_,rfl,rfl,((many-1:Nat):Int),(by change [V.int ((many:Int)-1)]=_;rw[show(many:Int)-1=((many-1:Nat):Int) by lia]),(),(),J9i (lo:=0) (n:=many-1) (fun i σ p=>∃e mx w q bs,σ=[some (.ref a),some (.int e),some (.int many),some (.ref l),some (.int mx),w,q]/\p l=some (.lst (iV bs))/\Same H p/\bs.length<=i/\(∀b∈bs,1<=b)/\bs.sum+e=tot/\1<=e/\0<=mx/\mx<2147483647)
  {tot,_,none,none,[],rfl,J2,D,zO _,(fun b hb=>absurd hb yS),(by simp),P,(),()} ?_ ?_}
 .rintro i σ p hi ⟨e,mx,w,q,bs,rfl,hb,j,U,r,G,y,J,I⟩;show{_,rfl,_,_,rfl,rfl,_,rfl,?_};by_cases c:1<e
  case neg=>show iteD c {e,mx,_,q,bs,rfl,hb,j,(),r,G,y,J,I}
  show J31 c ?_;show{_,rfl,_,_,rfl,rfl,.inl {(),()},_,_,rfl,rfl,(by change(0:Int)<2147483647;decide),?_};have S:0<=mx*48271%2147483647:=xO _ (by decide);have R:mx*48271%2147483647<2147483647:=xM _ (by decide);show{_,rfl,_,rfl,a,ns,rfl,.inl (j.seq L),_,rfl,_,_,rfl,rfl,_,_,rfl,rfl,{(),()},_,_,rfl,rfl,_,rfl,_,_,rfl,rfl,_,_,rfl,rfl,(by change 0<e-1;lia),_,_,rfl,rfl,?_};obtain⟨pt,C⟩:∃pt:Int,pt=1+(mx*48271%2147483647+ns.sum/(0+(i:Int)+2))%(e-1):={_,rfl};have p0:0<=(mx*48271%2147483647+ns.sum/(0+(i:Int)+2))%(e-1):=xO _ ();have p1:(mx*48271%2147483647+ns.sum/(0+(i:Int)+2))%(e-1)<e-1:=xM _ ();show{fun σ' W=>∃pt,σ'=[some (.ref a),some (.int e),some (.int many),some (.ref l),some (.int (mx*48271%2147483647)),some (.int (0+(i:Int))),some (.int pt)]/\1<=pt/\pt<=e-1/\p=W,?_,?_}
  .show{_,rfl,_,_,rfl,rfl,(by change(0:Int)<3;decide),rfl,_,rfl,?_};by_cases N:mx*48271%2147483647%3=1
   .show J31 (zP V.int N) ?_;have M:0<(if e-1<4 then e-1 else (4:Int))/\(if e-1<4 then e-1 else (4:Int))<=e-1:=by split <;> lia
    have r0:0<=mx*48271%2147483647%(if e-1<4 then e-1 else (4:Int)):=xO _ ();have r1:mx*48271%2147483647%(if e-1<4 then e-1 else (4:Int))<(if e-1<4 then e-1 else (4:Int)):=xM _ M.1;show{_,rfl,_,rfl,_,_,rfl,rfl,_,_,rfl,_,_,rfl,rfl,M.1,_,_,rfl,rfl,_,rfl,(),(),rfl}
   .show iteD (J4b N) {pt,by rw[C];rfl,(),(),rfl}
  rintro σ _ ⟨pt,rfl,O,w2,rfl⟩;have B:(iV bs).length=bs.length:=zB ..;show{_,rfl,.inl {rfl,_,SqL.of hb},_,rfl,l,_,_,rfl,rfl,hb,by rw[B];lia,?_};show{_,rfl,_,rfl,_,_,rfl,rfl,?_};show{e-pt,_,_,_,bs++[pt],rfl,(by rw[J2];show zP (fun z=>some (HO.lst z)) (by change _=List.map V.int _;rw[yE];rfl)),fun b u z=>(by rw[Jf (Ja z v)];show j _ _ z),(by rw[zN];change bs.length+1<=i+1;lia),fun b g=>?_,(by rw[vA];simp only[zU,sum_nil];lia),(),S,R};rcases yF.mp g with z|z
  .show r b z
  .rw[zF.mp z];show O
 .rintro σ p ⟨e,mx,w,q,bs,rfl,hb,j,U,r,G,y,J,I⟩;have B:(iV bs).length=bs.length:=zB ..;show{_,rfl,.inl {rfl,_,SqL.of hb},_,rfl,l,_,_,rfl,rfl,hb,by rw[B];lia,?_};show{_,rfl,k l (bs++[e]) _ (fun b u z=>(by rw[Jf (Ja z v)];show j _ _ z)) v (by rw[J2];show zP (fun z=>some (HO.lst z)) (by change _=List.map V.int _;rw[yE];rfl)) (by rw[zN];change 1<=bs.length+1;lia) (by rw[zN];change bs.length+1<=many;lia) (fun b g=>?_) (by rw[vA];simp only[zU,sum_nil];lia)};rcases yF.mp g with z|z
  .show r b z
  .rw[zF.mp z];show y
end
section
variable [En]
inductive Jcs(K:Frag)(vs:List V)(H:Hp)(Q:VK)(E:XK):Prop
 | mk(a sp:Addr)(ns b:List Int)(_:vs=[.ref a,.ref sp])(_:SqL K H a (iV ns))(_:ns.length<=63)(_:H sp=some (.lst (iV b)))(_:1<=b.length)(_:(∀s∈b,s=3\/s=9\/s=1000\/s=10^28))(_:∀p l1 d as bs c,Same H c->c p=some (.tup [.ref l1,.ref d])->c l1=some (.lst (iV as))->c d=some (.lst (iV bs))->l1≠d->J39 as bs->((∀s∈b,s=3\/s=9)->as.sum<=45)->Q (.ref p) c)
theorem lensA(h:0<span)(i:1<=many)(f:many<=12)(j:span<=10^28):J6h (lensN ns 1 many span)/\(lensN ns 1 many span).sum<=12*span/\1<=(lensN ns 1 many span).sum/\(lensN ns 1 many span).sum<=many*span:=by
 have e:=Jm5 ns 1 many span;have c:=Jm4 (ns:=ns) (lo:=1) (many:=many) h;have g:J6h (lensN ns 1 many span):={(),(),fun a b=>(c a b).1};have d:=Jr6 (lensN ns 1 many span) fun a b=>(c a b).2;rw[e] at d;have l:(many:Int)*span<=12*span:=uB () ();show{g,(),?_,d};have:=(g.good (show(lensN ns 1 many span).sum<=10^30 by lia)).pos_sum;lia
theorem J4h:FS1 ["script","spans","first","span","most","above","below"] Je1:=fsc
theorem Jiu(F:Fn1 Je1)(T:TxtR mg)(cC:Ca1 1 Jj6 (Jk1 K))(aa:Ca1 1 Ja2 (Jgp K))(Z:Ca1 1 J9s (Jco K)):
  Ca1 2 Je1 (Jcs K):=by
 show F.ok J4h (fun f d A o s H vs Q E S h=>?_);let{a,sp,ns,g,rfl,W,D,z,ac,I,k}:=h;have u0:=xO (eN ns 0/144) (show(g.length:Int)≠0 by lia);have u1:=xM (eN ns 0/144) (show 0<(g.length:Int) by lia);obtain⟨u,eu⟩:∃u:Nat,eN ns 0/144%(g.length:Int)=u:={_,(Int.toNat_of_nonneg u0).symm};obtain⟨b,U,ad,B⟩:∃b:Int,atI (iV g) (eN ns 0/144%((iV g).length:Nat))=some (V.int b)/\(b=3\/b=9\/b=1000\/b=10^28)/\b∈g:=by
  have C:g.getD u 0∈g:=by rw[zH,gEq ()];show xC _
  show{_,by rw[J2i,eu];show Jc (J19 ()),I _ C,C}
 have J:(10:Int)^(28:Int).toNat=10^28:=rfl;show{_,(J0 (pst J4h 2 (pcl cC S Jg (dZ (pv 0) (dZ J9 J1))))
  (J0 (pst J4h 3 (Js J3b (pv 1) (Jj J3c (Jj J4k (pv 2) J9) (pcb Jm T.len (pv 1)))))
  (J0 (pst J4h 4 J9)
  (J0 (J4w (J1a (Jk J44 (pv 3) J9 (Jp _)) (J3 (pst J4h 4 J9)) Jo))
  (J0 (J4w (J1a (Jk J44 (pv 3) J9 (Jp _)) (J3 (pst J4h 4 J9)) Jo))
  (J0 (J4w (J1a (Jk J44 (pv 3) (Jj Jkt J9 J9) (Jp _)) (J3 (pst J4h 4 J9)) Jo))
  (J0 (pst J4h 5 (pcl aa S Jg (dZ (pv 0) (dZ (Jj J12 J9 (Jj J3c (pv 2) (pv 4))) (dZ (pv 3) J1)))))
  (J0 (pst J4h 6 (pcl Z S Jg (dZ (pv 0) (dZ (pcb (J23 rfl) T.sum (pv 5)) (dZ (Jj J12 J9 (Jj J3c (Jj J4k (pv 2) J9) (pv 4))) J1)))))
  (J0 (J1a (Jk J44 (Jj J3c (Jj J4k (pv 2) J9) J9) J9 (Jp _)) (J3 (Jd (J1y (dZ (pv 6) (dZ (pv 5) J1))))) Jo)
  (J3 (Jd (J1y (dZ (pv 5) (dZ (pv 6) J1)))))))))))))),?_}
 show{_,rfl,a,ns,0,rfl,W,?_};show{_,rfl,_,rfl,_,_,rfl,rfl,{by decide,by decide},_,rfl,sp,_,rfl,.inl (SqL.of z),_,_,rfl,rfl,(by change(0:Int)<(((iV g).length:Nat):Int);rw[J2i];lia),sp,_,_,V.int b,rfl,rfl,SqL.of z,U,?_};show{fun σ' L=>∃m:Int,σ'=[some (.ref a),some (.ref sp),some (.int (eN ns 0)),some (.int b),some (.int m),none,none]/\(b=3->m=12)/\(b≠3->m=5)/\H=L,?_,?_}
 .show{_,rfl,rfl,_,rfl,?_};by_cases c:b=3
  .show J31 (zP V.int c) {12,rfl,fun _=>rfl,fun n=>absurd c n,rfl}
  .show iteD (J4b c) {5,rfl,fun n=>absurd n c,fun _=>rfl,rfl}
 rintro σ _ ⟨m,rfl,P,O,rfl⟩;show{fun σ' L=>∃m:Int,σ'=[some (.ref a),some (.ref sp),some (.int (eN ns 0)),some (.int b),some (.int m),none,none]/\(b=3->m=12)/\(b=1000->m=7)/\(b≠3->b≠1000->m=5)/\H=L,?_,?_}
 .show{_,rfl,rfl,_,rfl,?_};by_cases c:b=1000
  .show J31 (zP V.int c) {7,rfl,fun _=>(),fun _=>rfl,fun _ n=>absurd c n,rfl}
  .show iteD (J4b c) {m,rfl,P,fun n=>absurd n c,fun n _=>O n,rfl}
 rintro σ _ ⟨m,rfl,P,O,mc,rfl⟩;show{fun σ' L=>∃m:Int,σ'=[some (.ref a),some (.ref sp),some (.int (eN ns 0)),some (.int b),some (.int m),none,none]/\(1<=m/\m<=12/\(b=9->m<=5))/\H=L,?_,?_}
 .show{_,rfl,_,_,rfl,rfl,{by decide,by decide,by decide},rfl,_,rfl,?_};by_cases c:b=10^28
  .show J31 (zP V.int (by rw[J];show c)) {3,rfl,{by decide,by decide,fun _=>by decide},rfl}
  .show iteD (J4b (by rw[J];show c)) {m,rfl,{(),(),fun _=>()},rfl}
 rintro σ _ ⟨m,rfl,⟨P,O,mz⟩,rfl⟩;have q:0<b:=()
 have N:(1000:Int)<=10^28:=by decide
 have M:b<=10^28:=()
 have a0:0<=eN ns 0%m:=xO _ ();have a1:eN ns 0%m<m:=xM _ ();have b0:0<=eN ns 0/12%m:=xO _ ();have b1:eN ns 0/12%m<m:=xM _ ();obtain⟨w,Y⟩:∃w:Nat,(w:Int)=1+eN ns 0%m:={(1+eN ns 0%m).toNat,()};obtain⟨R,X⟩:∃R:Nat,(R:Int)=1+eN ns 0/12%m:={(1+eN ns 0/12%m).toNat,()};let{ga,hA,hb,hc}:=lensA (ns:=ns) (many:=w) q () () M;show{_,rfl,_,rfl,_,rfl,_,_,rfl,rfl,(by change 0<m;lia),_,_,rfl,rfl,_,rfl,a,ns,w,b,(by rw[Y];rfl),W,D,(),(),q,fun la H1 s1 fa p=>?_};generalize lensN ns 1 w b=as at *;have ab:(12:Int)*10^28<=10^30:=by decide
 have C:(∀s∈g,s=3\/s=9)->as.sum<=45:=fun h=>by
  rcases h b B with e|e
  .lia
  .have:=mz e;subst e;lia
 show{_,rfl,_,rfl,la,as,rfl,.inl (SqL.of p),_,rfl,_,_,rfl,rfl,{by decide,by decide},_,rfl,_,_,rfl,rfl,(by change 0<m;lia),_,_,rfl,rfl,a,ns,R,as.sum,(by rw[X];rfl),s1.seq W,(),(),hb,fun y bs H2 s2 fb G n1 n2 n3 n4=>?_};have gb:J6h bs:={n1,(),n3};have v:la≠y:=Ja p fb;have r:=s1.trans s2;have i:=s2 _ _ p;show{_,rfl,_,_,rfl,rfl,{by decide,by decide},_,_,rfl,rfl,(by change(0:Int)<2;decide),rfl,_,rfl,?_};have sm:=Jq (n:=100) (by decide);by_cases c:eN ns 0/576%2=1
 .show J31 (zP V.int c) ?_;show{_,rfl,_,rfl,(by change 2<=sizeLine;lia),fun tp l=>?_};have j:=J7 (o:=.tup [.ref y,.ref la]) l;show k tp y la bs as _ (r.trans j) J2 (j _ _ G) (j _ _ i) (Ne.symm v) {gb,ga,n4,()} fun h=>by have:=C h;lia
 .show iteD (J4b c) ?_;show{_,rfl,_,rfl,(by change 2<=sizeLine;lia),fun tp l=>?_};have j:=J7 (o:=.tup [.ref la,.ref y]) l;show k tp la y as bs _ (r.trans j) J2 (j _ _ i) (j _ _ G) v {ga,gb,n4.symm,()} C
end
end R53
namespace Rl
section
variable{f a b:Int->Int}{N:Int}{cb:List Band}
theorem Two.end_(T:Two a b f N)(S:Sys f N cb)(h:0<=x/\x<N)(w:way a f x):∃i,a (itN f i x)=itN f i x\/b (itN f i x)=itN f i x:=by
 let{j,e}:=w;have R:=S.has h;have p:=R.pos;have two:=Jg5 (L:=rOf f x) (j:=j%rOf f x) (xT _ p);by_cases z:((List.range (rOf f x)).filter fun i=>decide ((2*i)%rOf f x=j%rOf f x))=[]
 .rw[z,List.length_nil,Nat.zero_add] at two;let{i,hi}:=sY (show 0<((List.range (rOf f x)).filter fun i=>decide ((2*i)%rOf f x=(j%rOf f x+1)%rOf f x)).length by omega);have hi:=xY (zX.mp hi).2;show{i,.inr ?_};have in_:=S.itin h.1 h.2 i;rw[<- show f (a (itN f i x))=b (itN f i x) by rw[T.ff _ (T.ain _ in_),T.aa _ in_],T.at S h e (i:=i) (k:=i+rOf f x-1) ?_,<- J5x f,show i+rOf f x-1+1=i+rOf f x by omega,J14,(S.rnd_move h.1 h.2 R i).back];have d:(i+rOf f x-1+i+1)%rOf f x=(j+1)%rOf f x:=by
   rw[show i+rOf f x-1+i+1=2*i+rOf f x by omega,vD,hi,Nat.mod_add_mod]
  have c:=zP (fun z=>(z+(rOf f x-1))%rOf f x) d;simp only[Nat.mod_add_mod] at c;rw[show i+rOf f x-1+i+1+(rOf f x-1)=i+rOf f x-1+i+rOf f x by omega,vD,show j+1+(rOf f x-1)=j+rOf f x by omega,vD] at c;show c
 .let{i,hi}:=List.exists_mem_of_ne_nil _ z;have hi:=xY (zX.mp hi).2;show{i,.inl (T.at S h e (by rw[show i+i=2*i by omega];show hi))}
theorem Two.way_iff(T:Two a b f N)(S:Sys f N cb)(h:0<=x/\x<N):way a f x↔∃y,(0<=y/\y<N)/\tog a f x y/\(a y=y\/b y=y):=by
 constructor
 .intro w;let{i,hi}:=T.end_ S h w;show{_,S.itin h.1 h.2 i,.inl {i,rfl},hi}
 .rintro⟨y,c,t,e⟩;show(T.same S h t).2.mp ?_;rcases e with e|e
  .show{0,e.symm}
  .have:=T.on_b c;rw[e] at this;show S.on_symm (T.ain y c) this
theorem Sys.cn_on(S:Sys f N cb)(h:0<=x/\x<N):cn N (onR f x)=rOf f x:=by
 have R:=S.has h;rw[Jcc (p:=onR f x) (l:=(List.range (rOf f x)).map fun i=>itN f i x),zB,yC]
 .show yY.mpr ((vL.mp vZ).imp_of_mem fun hi a ne e=>ne (S.rnd_inj h.1 h.2 R (zR.mp hi) (zR.mp a) e))
 .intro y;rw[zW];constructor
  .rintro⟨i,-,rfl⟩;show{S.itin h.1 h.2 i,i,rfl}
  .rintro⟨-,i,rfl⟩;show{i%rOf f x,zR.mpr (xT _ R.pos),(R.mod i).symm}
theorem Two.cn_tog(T:Two a b f N)(S:Sys f N cb)(h:0<=x/\x<N):(way a f x->cn N (tog a f x)=rOf f x)/\(¬ way a f x->cn N (tog a f x)=2*rOf f x):=by
 have c:=T.ain x h;constructor
 .intro w;rw[J4t (q:=onR f x) fun y _ _=>{fun t=>t.elim id fun t=>onR.trans w t,.inl},S.cn_on h]
 .intro w;rw[Jhx (onR f x),J4t (q:=onR f x) fun y _ _=>{fun t=>t.2,fun t=>{.inl t,t}},J4t (p:=fun y=>tog a f x y/\¬ onR f x y) (q:=onR f (a x)) fun y e d=>{fun t=>t.1.resolve_left t.2,fun t=>{.inr t,fun q=>w (q.trans (S.on_symm c t))}},S.cn_on h,S.cn_on c,T.rO_a S h];omega
structure Tv(a f:Int->Int)(N:Int)(ms:List Int):Prop where
 in_:∀m∈ms,0<=m/\m<N
 ne:ms.Pairwise fun m n=>¬ tog a f m n
 all:∀y,0<=y/\y<N->∃m∈ms,tog a f m y
theorem Sys.leastF(S:Sys f N cb):∃g:Int->Int,∀x,0<=x/\x<N->onR f x (g x)/\mn f (g x)/\(0<=g x/\g x<N):=by
 have:∀x,∃y,0<=x/\x<N->onR f x y/\mn f y/\(0<=y/\y<N):=fun x=>by
  by_cases h:0<=x/\x<N
  .let{i,hi}:=S.least _ rfl h;show{_,fun _=>{{i,rfl},hi,S.itin h.1 h.2 i}}
  .show{0,fun k=>absurd k h}
 let{g,a}:=Classical.axiomOfChoice this;show{g,a}
theorem Sys.mn_uni(S:Sys f N cb)(b:0<=u/\u<N)(h:onR f u v)(mu:mn f u)(a:mn f v):v=u:=by
 let{i,rfl}:=h;show S.mn_one b mu a
theorem Two.tv_way(T:Two a b f N)(S:Sys f N cb){q:List Int}(V:Tv a f N q)(P:Nat->Prop):(q.filter fun m=>@decide (way a f m/\P (rOf f m)) (Classical.propDecidable _)).length=cn N (fun x=>way a f x/\P (rOf f x)/\mn f x):=by
 let{g,o}:=S.leastF;rw[Jcc (p:=fun x=>way a f x/\P (rOf f x)/\mn f x) (l:=(q.filter fun m=>@decide (way a f m/\P (rOf f m)) (Classical.propDecidable _)).map g),zB]
 .show yY.mpr ((V.ne.filter _).imp_of_mem fun {m n} c D ne e=>ne ?_);have j:=V.in_ m (zX.mp c).1;have v:=V.in_ n (zX.mp D).1;have h:=(o m j).1;rw[e] at h;show .inl (h.trans (S.on_symm v (o n v).1))
 .intro y;rw[zW];constructor
  .rintro⟨m,c,rfl⟩;let{c,d}:=zX.mp c;have d:=@xY _ (Classical.propDecidable _) d;let{h,s,A}:=o m (V.in_ m c);let{e,i}:=T.same S (V.in_ m c) (.inl h);show{A,i.mpr d.1,e▸d.2,s}
  .rintro⟨z,w,r,C⟩;let{m,c,t}:=V.all y z;have j:=V.in_ m c;let{e,i}:=T.same S j t;have u:=i.mp w;show{m,zX.mpr {c,@zZ _ (Classical.propDecidable _) {u,e▸r}},?_};let{h,s,A}:=o m j;have B:onR f m y:=t.elim id fun t=>onR.trans u t;show S.mn_uni z ((S.on_symm j B).trans h) C s
theorem Two.tv_loop(T:Two a b f N)(S:Sys f N cb){v:List Int}(V:Tv a f N v)(P:Nat->Prop):2*(v.filter fun m=>@decide (¬ way a f m/\P (rOf f m)) (Classical.propDecidable _)).length=cn N (fun x=>¬ way a f x/\P (rOf f x)/\mn f x):=by
 let{g,j}:=S.leastF;rw[Jcc (p:=fun x=>¬ way a f x/\P (rOf f x)/\mn f x) (l:=(v.filter fun m=>@decide (¬ way a f m/\P (rOf f m)) (Classical.propDecidable _)).flatMap fun m=>[g m,g (a m)]),tR]
 .change 2*_=(List.map (fun _=>2) _).sum;rw[List.map_const',List.sum_replicate_nat,uL]
 .show uC.mpr {fun m h=>?_,(V.ne.filter _).imp_of_mem fun {m n} h J ne x I y o e=>ne ?_}
  .let{h,d}:=zX.mp h;have d:=@xY _ (Classical.propDecidable _) d;have c:=V.in_ m h;show List.pairwise_pair.mpr fun e=>d.1 ?_;have s:=(j m c).1;rw[e] at s;show s.trans (S.on_symm (T.ain m c) (j _ (T.ain m c)).1)
  .have c:=V.in_ m (zX.mp h).1;have F:=V.in_ n (zX.mp J).1;have u:∀{k z},0<=k/\k<N->z∈[g k,g (a k)]->tog a f k z:=fun {k z} E G=>by
    simp only[zI,yS,vE] at G;rcases G with rfl|rfl
    .show .inl (j k E).1
    .show .inr (j _ (T.ain k E)).1
   have H:=u c I;have C:=T.tog_symm S F (u F o);rw[<- e] at C;show T.tog_trans S c H C
 .intro y;rw[wN];constructor
  .rintro⟨m,h,o⟩;let{h,d}:=zX.mp h;have d:=@xY _ (Classical.propDecidable _) d;have c:=V.in_ m h;simp only[zI,yS,vE] at o;rcases o with rfl|rfl
   .let{s,B,A}:=j m c;let{e,i}:=T.same S c (.inl s);show{A,fun w=>d.1 (i.mp w),e▸d.2,B}
   .let{s,B,A}:=j _ (T.ain m c);let{e,i}:=T.same S c (.inr s);show{A,fun w=>d.1 (i.mp w),e▸d.2,B}
  .rintro⟨o,w,r,D⟩;let{m,h,t}:=V.all y o;have c:=V.in_ m h;let{e,i}:=T.same S c t;show{m,zX.mpr {h,@zZ _ (Classical.propDecidable _) {fun q=>w (i.mpr q),e▸r}},?_};simp only[zI,yS,vE];rcases t with t|t
   .show .inl (S.mn_uni o ((S.on_symm c t).trans (j m c).1) D (j m c).2.1).symm
   .show .inr (S.mn_uni o ((S.on_symm (T.ain m c) t).trans (j _ (T.ain m c)).1) D (j _ (T.ain m c)).2.1).symm
end
inductive Rc(a b:Int->Int)(x:Int):Int->Prop
 | refl:Rc a b x x
 | a {y:Int}:Rc a b x y->Rc a b x (a y)
 | b {y:Int}:Rc a b x y->Rc a b x (b y)
structure Tw(a b:Int->Int)(N:Int):Prop where
 ain:∀x,0<=x/\x<N->0<=a x/\a x<N
 bin:∀x,0<=x/\x<N->0<=b x/\b x<N
 aa:∀x,0<=x/\x<N->a (a x)=x
 bb:∀x,0<=x/\x<N->b (b x)=x
section
variable{a b f:Int->Int}{N:Int}{cb:List Band}
theorem Rc.trans(h:Rc a b x y)(k:Rc a b y z):Rc a b x z:=by
 induction k with
 | refl=>show h
 | a _ ih=>show ih.a
 | b _ ih=>show ih.b
theorem Tw.in_(T:Tw a b N)(c:0<=x/\x<N)(h:Rc a b x y):0<=y/\y<N:=by
 induction h with
 | refl=>show c
 | a _ ih=>show T.ain _ ih
 | b _ ih=>show T.bin _ ih
theorem Tw.symm(T:Tw a b N)(c:0<=x/\x<N)(h:Rc a b x y):Rc a b y x:=by
 induction h with
 | refl=>show .refl
 | @a z h ih =>
  have:Rc a b (a z) (a (a z)):=Rc.refl.a;rw[T.aa _ (T.in_ c h)] at this;show this.trans ih
 | @b z h ih =>
  have:Rc a b (b z) (b (b z)):=Rc.refl.b;rw[T.bb _ (T.in_ c h)] at this;show this.trans ih
theorem Two.rc_iff(T:Two a b f N)(S:Sys f N cb)(c:0<=x/\x<N)(W:Tw a b N):Rc a b x y↔tog a f x y:=by
 constructor
 .intro h
  induction h with
  | refl=>show .inl {0,rfl}
  | a h ih=>show T.tog_a S c (W.in_ c h) ih
  | b h ih=>show T.tog_b S c (W.in_ c h) ih
 .have d:∀{u:Int},0<=u/\u<N->∀n,Rc a b u (itN f n u):=fun {u} e n=>by
   induction n with
   | zero=>show .refl
   | succ n ih =>
    rw[J5x,T.ff _ (S.itin e.1 e.2 n)];show ih.a.b
  rintro(⟨n,rfl⟩|⟨n,rfl⟩)
  .show d c n
  .show(Rc.refl.a).trans (d (T.ain x c) n)
def wayR(a b:Int->Int)(x:Int):Prop:=∃y,Rc a b x y/\(a y=y\/b y=y)
theorem Two.wayR_iff(T:Two a b f N)(S:Sys f N cb)(c:0<=x/\x<N)(W:Tw a b N):wayR a b x↔way a f x:=by
 rw[T.way_iff S c];show{fun d=>by let{y,h,e}:=d;show{y,W.in_ c h,(T.rc_iff S c W).mp h,e},fun d=>by let{y,_,h,e}:=d;show{y,(T.rc_iff S c W).mpr h,e}}
end
structure GI(a b:Int->Int)(x:Int)(fs ah:List Int)(w:Bool)(D:Int->Prop):Prop where
 nd:fs.Nodup
 ndA:ah.Nodup
 mx:x∈fs
 rc:∀y∈fs,Rc a b x y
 sub:∀y∈ah,y∈fs
 way:w=true->wayR a b x
 cl:∀y∈fs,y ∉ ah->¬ D y->(a y∈fs/\(a y=y->w=true))/\(b y∈fs/\(b y=y->w=true))
section
variable{a b:Int->Int}{N:Int}{D:Int->Prop}{fs ah:List Int}{w:Bool}
theorem GI.put(G:GI a b x fs ah w D)(hd:d∈fs)(j:o=a d\/o=b d):GI a b x (if o∈fs then fs else fs++[o]) (if o∈fs then ah else ah++[o]) (w || decide (o=d)) D/\o∈(if o∈fs then fs else fs++[o])/\(∀y∈fs,y∈if o∈fs then fs else fs++[o]):=by
 have l:Rc a b x o:=by rcases j with rfl|rfl;show(G.rc _ hd).a;show(G.rc _ hd).b
 have f:(w || decide (o=d))=true->wayR a b x:=fun h=>by
  rcases Bool.or_eq_true _ _ |>.mp h with h|h
  .show G.way h
  .have:=xY h;subst this;show{_,G.rc _ hd,by grind}
 by_cases c:o∈fs
 .rw[if_pos c,if_pos c];show{{G.nd,G.ndA,G.mx,G.rc,G.sub,f,fun y i g e=>by have:=G.cl y i g e;grind},c,fun y h=>h}
 .rw[if_neg c,if_neg c];have m:o ∉ ah:=fun h=>c (G.sub _ h);show{{?_,?_,by grind [G.mx],by grind [G.rc],by grind [G.sub],f,fun y i g e=>?_},by simp,fun y h=>by simp[h]}
  .show xL.mpr {G.nd,by simp,by grind}
  .show xL.mpr {G.ndA,by simp,by grind}
  .have:=G.cl y (by grind) (by grind) e
   grind
theorem GI.pop(G:GI a b x fs (ah++[d]) w fun _=>False):GI a b x fs ah w (·=d)/\d∈fs:=by
 have nd:=xL.mp G.ndA;show{{G.nd,nd.1,G.mx,G.rc,fun y h=>G.sub y (by simp[h]),G.way,fun y f e c=>G.cl y f (by simp[e];show c) id},G.sub d (by simp)}
theorem GI.done(G:GI a b x fs ah w (·=d))(c:a d∈fs/\(a d=d->w=true))(hb:b d∈fs/\(b d=d->w=true)):GI a b x fs ah w fun _=>False:=
 {G.nd,G.ndA,G.mx,G.rc,G.sub,G.way,fun y g f _=>by
  by_cases e:y=d
  .rw[e];show{c,hb}
  .show G.cl y g f e}
theorem GI.end_(G:GI a b x fs [] w fun _=>False):(∀y,y∈fs↔Rc a b x y)/\(w=true↔wayR a b x):=by
 have all:∀y,Rc a b x y->y∈fs:=fun y h=>by
  induction h with
  | refl=>show G.mx
  | a _ ih=>show(G.cl _ ih (by simp) id).1.1
  | b _ ih=>show(G.cl _ ih (by simp) id).2.1
 show{fun y=>{G.rc y,all y},G.way,fun⟨y,h,e⟩=>?_};have:=G.cl y (all y h) (by simp) id;rcases e with e|e
 .show this.1.2 e
 .show this.2.2 e
end
structure CI(a b:Int->Int)(N:Int)(nums ms:List Int)(i:Nat):Prop where
 len:nums.length=N.toNat
 in_:∀m∈ms,0<=m/\m<N
 ne:ms.Pairwise fun m n=>¬ Rc a b m n
 num:∀y:Nat,y<N.toNat->(∃(j:Nat) (m:Int),ms[j]?=some m/\Rc a b m y/\nums.getD y 0=j)\/((∀m∈ms,¬ Rc a b m y)/\nums.getD y 0=-1)
 done:∀y:Nat,y<i->∃m∈ms,Rc a b m y
section
variable{a b:Int->Int}{N:Int}{nums ms nums' fs:List Int}{i:Nat}
theorem CI.nil:CI a b N (replicate N.toNat (-1)) [] 0:=
 {wE,fun _ h=>absurd h yS,.nil,fun y c=>.inr {fun _ h=>absurd h yS,by rw[zH,tG,if_pos c];rfl},fun _ h=>absurd h (wZ _)}
theorem CI.skip(C:CI a b N nums ms i)(hi:i<N.toNat)(h:¬ nums.getD i 0<0):CI a b N nums ms (i+1):=
 {C.len,C.in_,C.ne,C.num,fun y c=>by
  by_cases e:y=i
  .subst e;rcases C.num y hi with⟨j,m,h1,h2,_⟩|⟨_,h2⟩
   .show{m,wU h1,h2}
   .omega
  .show C.done y (by omega)}
theorem CI.add(T:Tw a b N)(C:CI a b N nums ms i)(hi:i<N.toNat)(h:nums.getD i 0<0)(p:nums'.length=nums.length)(l:∀y,y∈fs↔Rc a b i y)(g:∀y:Nat,y<N.toNat->nums'.getD y 0=if (y:Int)∈fs then (ms.length:Int) else nums.getD y 0):CI a b N nums' (ms++[(i:Int)]) (i+1):=by
 have o:0<=(i:Int)/\(i:Int)<N:=by omega
 have no:∀m∈ms,¬ Rc a b m i:=by
  rcases C.num i hi with⟨j,m,_,_,h3⟩|h
  .omega
  .show h.1
 show{p.trans C.len,fun m d=>?_,?_,fun y f=>?_,fun y f=>?_}
 .rcases yF.mp d with q|q
  .show C.in_ m q
  .rw[zF.mp q];show o
 .show List.pairwise_append.mpr {C.ne,sR _ _,fun m d n g=>by rw[zF.mp g];show no m d}
 .rw[g y f];by_cases c:(y:Int)∈fs
  .rw[if_pos c];show .inl {ms.length,i,by simp,(l _).mp c,rfl}
  .rw[if_neg c];rcases C.num y f with⟨j,m,h1,h2,h3⟩|⟨h1,h2⟩
   .show .inl {j,m,by rw[yQ (gSm h1)];show h1,h2,h3}
   .show .inr {fun m d=>?_,h2};rcases yF.mp d with q|q
    .show h1 m q
    .rw[zF.mp q];show fun z=>c ((l _).mpr z)
 .by_cases e:y=i
  .show{i,by simp,by rw[e];show .refl}
  .let{m,d,r}:=C.done y (by omega);show{m,by simp[d],r}
end
end Rl
namespace Rl
open PySem
def Ris(xs:Array Nat):Prop:=xs.toList.Pairwise (· < ·)
theorem Ris.lt(h:Ris xs){i:Nat}(c:i<k)(d:xs[i]?=some a)(hb:xs[k]?=some b):a<b:=by
 let{hi,rfl}:=sU.mp d;let{e,rfl}:=sU.mp hb;have:=sQ.mp h i k (by simp_all) (by simp_all) c;rwa [ Array.getElem_toList] at this
structure J6i(xs:Array Nat)(j i:Nat):Prop where
 le:i<=xs.size
 lo:∀k a,k<i->xs[k]?=some a->a<j
 hi:∀k a,i<=k->xs[k]?=some a->j<=a
theorem Jfz(r:Ris xs):∀(f lo hi:Nat),lo<=hi->hi<=xs.size->hi-lo<=f->(∀k a,k<lo->xs[k]?=some a->a<j)->(∀k a,hi<=k->xs[k]?=some a->j<=a)->J6i xs j (SetTable.below.go xs j f lo hi)
 | 0,lo,hi,h1,h2,h3,h4,h5=>{by change lo<=_;omega,h4,fun k a d b=>h5 k a (by have:lo<=k:=d;omega) b}
 | f+1,lo,hi,h1,h2,h3,h4,h5=>by
  rw[SetTable.below.go];split
  .rename_i c;have g:(lo+hi)/2<xs.size:=by omega
   have e:xs[(lo+hi)/2]?=some (xs.getD ((lo+hi)/2) j):=by
    rw[sZ,vX g];rfl
   change J6i xs j (if xs.getD ((lo+hi)/2) j<j then SetTable.below.go xs j f ((lo+hi)/2+1) hi else SetTable.below.go xs j f lo ((lo+hi)/2));by_cases q:xs.getD ((lo+hi)/2) j<j
   .rw[if_pos q];show Jfz r f ((lo+hi)/2+1) hi (by omega) h2 (by omega) (fun k a d b=>?_) h5;by_cases z:k=(lo+hi)/2
    .subst z;rw[e] at b;cases b;show q
    .show Nat.lt_trans (r.lt (show k<(lo+hi)/2 by omega) b e) q
   .rw[if_neg q];show Jfz r f lo ((lo+hi)/2) (by omega) (by omega) (by omega) h4 (fun k a d b=>?_);by_cases z:k=(lo+hi)/2
    .subst z;rw[e] at b;cases b;omega
    .have:=r.lt (show(lo+hi)/2<k by omega) e b;omega
  .show{by omega,h4,fun k a d b=>h5 k a (by omega) b}
theorem Jch(r:Ris xs)(j:Nat):J6i xs j (SetTable.below xs j):=
 Jfz r xs.size 0 xs.size (zO _) (zD _) (by omega) (fun k a b=>absurd b (wZ _)) (fun k a b c=>by
  grind)
theorem Jea(a:J6i xs j i)(b:J6i xs j i'):i=i':=by
 have c:∀{p q:Nat},J6i xs j p->J6i xs j q->¬ p<q:=fun {p q} x y h=>by
  have d:=yB h y.le;have e:=vX d;have g:=x.hi p _ (zD _) e;have f:=y.lo p _ h e;omega
 grind
theorem Jjh(r:Ris xs)(h:xs[i]?=some a):SetTable.below xs (a+1)=i+1:=
 Jea (Jch r _) {(sU.mp h).1,fun k b d hb=>by
  by_cases c:k=i
  .grind
  .have:=r.lt (show k<i by omega) hb h;omega,fun k b d hb=>r.lt (show i<k by omega) h hb}
theorem Jjg(r:Ris xs):SetTable.below xs 0=0:=
 Jea (Jch r _) {zO _,fun k b a=>absurd a (wZ _),fun k b _ _=>zO _}
theorem Jc2(xs:Array α)(p:Nat)(x:α)(h:p<=xs.size):(SetTable.insertAt xs p x).toList=xs.toList.take p++x::xs.toList.drop p:=by
 unfold SetTable.insertAt;rw[Array.toList_append,Array.toList_push,Array.toList_extract,Array.toList_extract];simp only[List.extract_eq_take_drop,List.drop_zero,Nat.sub_zero,vS,List.singleton_append];rw[tH (i:=xs.size-p) (by simp_all)]
theorem Ris.put(r:Ris xs)(n:xs[SetTable.below xs j]?≠some j):Ris (SetTable.insertAt xs (SetTable.below xs j) j):=by
 have b:=Jch r j;unfold Ris;rw[Jc2 _ _ _ b.le,List.pairwise_append,vY];have g:∀a∈xs.toList.take (SetTable.below xs j),a<j:=fun a f=>by
  let{k,d}:=List.getElem?_of_mem f;have h:k<SetTable.below xs j:=by
   have:=(gSm d)
   grind
  rw[List.getElem?_take_of_lt h,xW] at d;show b.lo k a h d
 have i:∀a∈xs.toList.drop (SetTable.below xs j),j<a:=fun a f=>by
  let{k,d}:=List.getElem?_of_mem f;rw[List.getElem?_drop,xW] at d;have q:=b.hi _ a (Nat.le_add_right ..) d;by_cases c:a=j
  .subst c;by_cases z:k=0
   .subst z;show absurd d n
   .have m:SetTable.below xs a<xs.size:=by
     have:=(sU.mp d).1;omega
    have e:=vX m;have p:=b.hi _ _ (zD _) e;have o:=r.lt (show SetTable.below xs a<SetTable.below xs a+k by omega) e d;omega
  .omega
 show{List.Pairwise.sublist (List.take_sublist ..) r,{i,List.Pairwise.sublist (List.drop_sublist ..) r},fun a f c l=>by
  rcases zI.mp l with rfl|l
  .show g a f
  .show Nat.lt_trans (g a f) (i c l)}
def Jei(t:SetTable):Prop:=t.dummies=#[]/\(t.plain=true->Ris t.place)
theorem Jmo(j:Nat):SetTable.has #[] j=false:=rfl
theorem Jap(hd:t.dummies=#[])(f:Nat->Int)(h:Int):∀(n:Nat) (p:SetTable.Probe) (j:Nat) (d:Option Nat),p.dummy=none->SetTable.probe.go t f h n p=some (.empty j d)->d=none/\t.place[SetTable.below t.place j]?≠some j
 | 0,p,j,d,_,e=>by cases e
 | n+1,p,j,d,hp,e=>by
  rw[SetTable.probe.go] at e;unfold SetTable.slot at e;rw[hd,Jmo] at e;have a:∀q ,(t.advance q).dummy=q.dummy:=fun q=>by unfold SetTable.advance;split <;> rfl
  by_cases c:(t.place[SetTable.below t.place p.j]?==some p.j)=true
  .rw[if_pos c] at e;dsimp only at e;split at e
   .cases e
   .show Jap hd f h n _ j d (by rw[a,hp]) e
  .simp_all
theorem J3z(t:SetTable)(n:Nat):Jei (t.standIn n)/\(t.standIn n).led=t.led:={{rfl,fun h=>by cases h},rfl}
theorem Jm9(ok:Jei t)(b:Array (Int×Value))(h:Int)(x:Value):Jei (layNew t b h x).2.1/\(layNew t b h x).2.1.led=t.led:=by
 unfold layNew;split
 .rename_i slot wd e;have c:t.place[SetTable.below t.place slot]?≠some slot:=by
   unfold SetTable.freeSlot at e;split at e
   .rename_i j d q;have z:=Jap ok.1 _ h _ _ j d rfl q;rw[z.1] at e;cases e;show z.2
   .cases e
  have a:Jei (t.put slot).1:=by
   unfold SetTable.put;show{?_,fun pl=>(ok.2 pl).put c};rw[ok.1,Jmo];rfl
  dsimp only;unfold SetTable.orStandIn;split
  .show{a,rfl}
  .show{(J3z _ _).1,(J3z _ _).2}
 .show J3z t _
theorem Jf1(t:SetTable)(h:Array (Int×Value))(n:Nat):Jei (relayAll t h n).2.1/\(relayAll t h n).2.1.led=t.led:=by
 unfold relayAll;split
 .rename_i t' order e;dsimp only;split
  .unfold SetTable.relaid SetTable.laid at e
   cases q:SetTable.layClean (SetTable.sizeAbove n-1) (h.map (·.1)) with
   | none=>rw[q] at e;cases e
   | some owner =>
    rw[q] at e;cases e;show{{rfl,fun _=>?_},rfl};unfold Ris;change(List.map _ _).Pairwise (· < ·);rw[yY,List.pairwise_filterMap];show List.Pairwise.imp ?_ pairwise_lt_range;intro a b g c f d hd
    cases ha:owner.getD a none with
    | none=>rw[ha] at f;cases f
    | some u =>
     cases hb:owner.getD b none with
     | none=>rw[hb] at hd;cases hd
     | some v =>
      rw[ha] at f;rw[hb] at hd;cases f;cases hd;show g
  .show J3z t _
 .show J3z t _
end Rl
namespace L2
open PySem PySem.Spec PyProof.Rows Rl
def numE(e:Int×Value):Int:=match e.2 with
 | .int k _=>k
 | _=>0
section
variable{prog:Program}{w:World}{A:Around}{E:Value->Shared->Prop}{s:Shared}
def SetT(prog:Program)(w:World)(h:Heap)(a:Addr)(D:List Int)(L:Bool):Prop:=
 ∃o b ep t,h.get? a=some o/\o.ExactSet/\o.data=.set b ep t/\ElemsOf (intKind prog w) b.toList/\(b.toList.map numE).Perm D/\b.size<scanBound/\t.fits b.size=true/\Jei t/\t.led=L
theorem Jdj(h:(intKind prog w).is k e.2=true):numE e=k:=by
 let{t,q}:=Value.isInt_shape h;unfold numE;rw[q]
theorem Jdo(b:ElemsOf (intKind prog w) es):(∃e∈es,(intKind prog w).is v e.2=true)↔v∈es.map numE:=by
 rw[zW];constructor
 .rintro⟨e,a,q⟩;show{e,a,Jdj q}
 .rintro⟨e,a,rfl⟩;let{{k,c,_},_}:=b e a;show{e,a,?_};rw[Jdj c];show c
theorem Jro{h:Heap}(f:h.get? a=some o)(d:o.ExactSet)(hd:o.data=.set es ep t)(c:ElemsOf (intKind prog w) es'.toList)(e:(es'.toList.map numE).Perm D)(hb:es'.size<scanBound)(j:t'.fits es'.size=true)(ok:Jei t')(i:t'.led=L):
  ∃b,(h.update a (Obj.putSet es' t')).get? a=some b/\b.ExactSet/\b.data=.set es' (ep+1) t'/\SetT prog w (h.update a (Obj.putSet es' t')) a D L:=by
 have g:=uK (Obj.putSet es' t') f (by rw[putSet_of es' t' hd];rfl);rw[putSet_of es' t' hd] at g;show{_,g,d,rfl,_,es',ep+1,t',g,d,rfl,c,e,hb,j,ok,i}
theorem add_t(P:SetT prog w s.heap a D L)(hr:D.length+1<scanBound)(h:∀h' b,Heap.SameBut a s.heap h'->SetT prog w h' a (step_dedup D v) L->Q b { s with heap:=h' }):
  wpAny (model prog w) A (setAddHashed a (.int v tk) ((intKind prog w).hash v)) Q E s:=by
 let{o,l,ep,t,B,hx,hd,f,y,hb,O,ok,N}:=id P;have hn:l.size=D.length:=by rw[<- y.length_eq,zB,yL]
 have M:=intKind_is prog w v tk;have S:∀(b:Bool) {C:Shared} {R:Unit->Shared->Prop},R Unit.unit C->wpAny (model prog w) A (match b with|true=>rule "set.scan.the-table-gave-way" | false=>pure Unit.unit) R E C:=fun b C R q=>by
  cases b
  .show zC q
  .show wpAny_rule q
 unfold setAddHashed setAddHashedIn;show xP (zA (uH B hd O ?_));dsimp only;rw[byScan_of (show(Value.int v tk).scannable=true from rfl) hb f,if_pos rfl];unfold setAddByScan;show zA (zA (wpAny_rule (zA (wpAny_setScan_of M B hd O f ?_))))
 cases c:List.findIdx? (fun e=>(intKind prog w).is v e.2) l.toList with
 | some j =>
  let{hj,pj,_}:=List.findIdx?_eq_some_iff_getElem.mp c;have G:=y.mem_iff.mp ((Jdo f).mp {_,xC hj,pj});have e:step_dedup D v=D:=by
   unfold step_dedup;have z:(D.any fun x=>x==v)=true:=by rw[any_eq_true];show{v,G,by simp}
   show if_pos z
  show zC (zC ?_);have q:=h s.heap false (Heap.SameBut.refl a s.heap) (by rw[e];show P);show q
 | none =>
  have G:¬ v∈D:=fun m=>by
   let{e,he,q}:=(Jdo f).mpr (y.mem_iff.mpr m);have:=List.findIdx?_eq_none_iff.mp c e he;rw[q] at this;cases this
  have e:step_dedup D v=D++[v]:=by
   unfold step_dedup;rw[if_neg (fun z=>by let{x,m,q}:=any_eq_true.mp z;show G (xU.mp q▸m))]
  rw[e] at h;have i:=layNew_perm t l ((intKind prog w).hash v) (.int v tk);have H:=layNew_fits t l ((intKind prog w).hash v) (.int v tk);have p:=Jm9 ok l ((intKind prog w).hash v) (.int v tk);dsimp only;generalize layNew t l ((intKind prog w).hash v) (.int v tk)=Z at i H p ⊢;let{d,n,wd,gv}:=Z;dsimp only at i H p ⊢;rw[Array.toList_push] at i;have g:=(f.push M (show(Value.int v tk).scannable=true from rfl)).perm i;have r:(d.toList.map numE).Perm (D++[v]):=(i.map numE).trans (by rw[yE];show y.append_right _);have n1:d.size=D.length+1:=by rw[<- yL,i.length_eq,zN,yL,hn];rfl
  have J:d.size<scanBound:=by omega
  show zA (S _ ?_);have eb:hashByValue 8 (.int v tk)=(pure true:Sem Bool):=by rfl
  rw[eb,ite_self];show zA (zC ?_);simp only[↓reduceIte];let{o1,T,Y,W,S1}:=Jro (prog:=prog) (w:=w) B hx hd g r J H p.1 (p.2.trans N);have K:=xI s.heap a (Obj.putSet d n);show zA (wpAny_storeSet_of B hd ?_ (fits_of_scanBound J));split
  .have u:=relayAll_perm n d (SetTable.grown d.size);have U:=relayAll_fits n d (SetTable.grown d.size);have F:=Jf1 n d (SetTable.grown d.size);generalize relayAll n d (SetTable.grown d.size)=Z at u U F ⊢;let{I,t2,aa}:=Z;have X:I.size<scanBound:=by rw[<- yL,u.length_eq,yL];show J
   let{o2,g2,x2,d2,S2}:=Jro (prog:=prog) (w:=w) T Y W (g.perm u) ((u.map numE).trans r) X U F.1 (F.2.trans (p.2.trans N));show zA (S _ ?_);show zA (wpAny_storeSet_of T W ?_ (fits_of_scanBound X));show zC (zC (h _ true (K.trans (xI _ a _)) S2))
  .show zC (zC (h _ true K S1))
end
section
variable{prog:Program}{w:World}{A:Around}{E:Value->Shared->Prop}{s:Shared}{R:Result->Shared->Prop}{I:Addr}{fp wr:List Addr}{G:Array GenState->Array GenState->Prop}{n:Nat}{P:Nat->Value->Prop}{St:Nat->Shared->Prop}
theorem SetT.at(x:SetT prog w h a D L)(k:∀o,h.get? a=some o->h'.get? a=some o):SetT prog w h' a D L:=by
 let{o,c,ep,t,b,r}:=x;show{o,c,ep,t,k o b,r}
theorem loop_t(W:WalksS prog w A.in1 I fp wr G n P St)(S:Addr)(nS:S ∉ fp)(val:Nat->Int)(p:∀i v,P i v->∃t,v=.int (val i) t)(hb:n+1<scanBound)(L:Bool):
  ∀(k i:Nat) (s:Shared),n-i=k->i<=n->St i s->SetT prog w s.heap S (firstMet val i) L->
   (∀s',Moved (S::wr) G s s'->SetT prog w s'.heap S (firstMet val n) L->R (.ok (.ret .none)) s')->
   codeAny (model prog w) A (.builtin "set.update.loop" {[.ref S,.ref I],[]}) R s:=by
 have nW:=fun z=>nS (W.sub _ z);have up:∀b∈wr,b∈S::wr:=fun b z=>zK _ z;intro k
 induction k with
 | zero =>
  intro i s q hi st d f;obtain rfl:i=n:=by omega
  show wJ PyProof.Rows.F.entry_set_update_loop ?_;rw[Around.under_plainId rA _];show zA (W.done s _ _ st fun s' m=>zC (f s' (m.mono up) (d.at fun o e=>m.heap S o nW e)))
 | succ k ih =>
  intro i s q hi st d f;have lt:i<n:=by omega
  show wJ PyProof.Rows.F.entry_set_update_loop ?_;rw[Around.under_plainId rA _];show zA (W.item i s _ _ lt st fun v s' r c m=>?_);let{t,rfl}:=p i v r;show zA (xP ?_);unfold setAdd;show xP (zA ((intKind prog w).pyHash (k:=val i) (intKind_is _ _ _ _) ?_));have a:(firstMet val i).length+1<scanBound:=by have:=firstMet_length_le val i;omega
  show add_t (s:={ s' with toks:=s'.toks+1 }) (d.at fun o e=>m.heap S o nW e) a fun h' b g h=>?_;rw[<- firstMet_succ] at h;show zC {plainId_quiet rA _,ih (i+1) _ (by omega) lt (W.frame _ s' _ _ c (wI _) fun b hb o e=>?_) h fun j l u=>?_}
  .rw[g.2 b (fun z=>nS (z▸hb))];show e
  .show f j (Moved.trans W.gtrans ((m.mono up).then_heap (wI _) fun b o hb e=>?_) l) u;rw[g.2 b (fun z=>hb (by rw[z];show zJ))];show e
theorem new_t(a:Value)(h:Q (.ref s.heap.objs.size) { s with heap:=s.heap.push { cls:=.type "set",dict:=none,data:=.set #[] 0 (.fresh 0 0 (!(w.params.followText "set-order"))) } }):
  codeAny (model prog w) A (.call (.builtin "set.__new__") {[.type "set",a],[]}) (wants Q E) s:=by
 show codeAny_of_tree ?_;show zA (wpAny_of_eq (PySem.F.newCall_set_1 a) (zC {plainId_quiet PySem.F.plain_set_new _,wJ PySem.F.entry_set_new ?_}));have b:=sub_set_self
 wp_walk
 show wpAny_askSetting (zC ?_);show zA (wpAny_alloc (zC ?_));show zC h
theorem Jje(W:A.handled=none)(I:s.heap.IsList l vs.toArray)(hi:IntsAre vs ns)(hb:ns.length+1<scanBound)(h:∀(h':Heap) (p:Nat),SetT prog w h' s.heap.objs.size (firstMet (fun i=>ns.getD i 0) ns.length) (!(w.params.followText "set-order"))->
   (∀b o,b<s.heap.objs.size->s.heap.get? b=some o->h'.get? b=some o)->Q (.ref s.heap.objs.size) { s with heap:=h',toks:=p }):
  wpAny (model prog w) A (call (.type "set") [.ref l]) Q E s:=by
 have u:vs.length=ns.length:=IntsAre.length hi;obtain⟨L,J⟩:∃L,L=!(w.params.followText "set-order"):={_,rfl};rw[<- J] at h;obtain⟨d,a⟩:∃d:Obj,d={ cls:=.type "set",dict:=none,data:=.set #[] 0 (.fresh 0 0 L) }:={_,rfl};have K:(s.heap.push d).get? s.heap.objs.size=some d:=zT _ (by rw[a];rfl);have T0:SetT prog w (s.heap.push d) s.heap.objs.size [] L:={d,#[],0,.fresh 0 0 L,K,by rw[a];show{rfl,rfl,rfl},(by rw[a]),(fun e X=>by cases X),xJ _,(by decide),(by rfl),{rfl,fun _=>List.Pairwise.nil},rfl};have M:=called_set.mro;have c2:=called_set.made;have c3:=called_set.sub;have c4:=called_set.notType;have c5:=called_set.canCreate;have c6:=PySem.F.typeCall_set_1 (.ref l);let{c,tl,M}:=M;show wpAny_call (codeAny_of_tree (zC {Code.quiet_builtin _ (by decide +kernel),wJ PySem.F.entry_type_call ?_}));show(Around.under_plain (weight_type_call_type "set" [Value.ref l] []) rfl).symm▸?_
 repeat (any_goals (first|assumption|wp_step))
 show uJ (new_t (.ref l) (E:=E) (Q:=fun obj G=>obj=.ref s.heap.objs.size/\G={ s with heap:=s.heap.push d }) (by rw[<- J,<- a];show{rfl,rfl})) fun r G y=>?_
 cases r with
 | error e=>show y
 | ok fl =>
 cases fl with
 | ret obj =>
 let{rfl,rfl}:=y;have Y:Shared.TypeIs { s with heap:=s.heap.push d } (.ref s.heap.objs.size) "set":={_,K,by rw[a]};have d1:=called_set.init.lookup;have d2:=called_set.init.bind (.ref s.heap.objs.size)
 repeat (any_goals (first|assumption|wp_step))
 show uJ (codeAny_call_builtin (R:=wants (fun r D=>r=.none/\∃h' p,D={ s with heap:=h',toks:=p }/\SetT prog w h' s.heap.objs.size (firstMet (fun i=>ns.getD i 0) ns.length) L/\
  (∀b o,b<s.heap.objs.size->s.heap.get? b=some o->h'.get? b=some o)) E) called_set.init.plain PySem.F.entry_set_init (check_set_init_1 Y ?_)) fun N D f=>?_
 rotate_left
 .cases N with
  | error e=>show f
  | ok fl₂ =>
   cases fl₂ with
   | ret r =>
    let{rfl,h',p,rfl,P,O}:=f
    repeat (any_goals (first|assumption|wp_step))
    show h _ _ P O
   | _=>show f.elim
 have C:(s.heap.push d).IsList l vs.toArray:=by
  let{o,B,r}:=I;show{o,zE _ B,r}
 have lt:l<s.heap.objs.size:=by
  let{o,B,_}:=I;show zG B
 let{T,g,n,H,j}:=C;let{oc,od,U,S}:=T;simp only at n j;subst n;subst j;have k1:=PySem.F.sub_list_set;have k2:=PySem.F.sub_list_frozenset;have k3:(Value.type "list" == Value.type "dict")=false:=by decide
 subst a;unfold Builtin.«set.__init__» noKeywords Builtin.Frozenset.updateFrom;generalize hPI:pyIter=PI
 wp_walk
 subst hPI;show wpAny_pyIter_list {_,g,rfl,H,rfl} (zA (wpAny_runValue ?_));have Z:A.in1.in1.in1.handled=none:=by simp[W]
 have z:(s.heap.push { cls:=.type "set",dict:=none,data:=.set #[] 0 (.fresh 0 0 L) }).objs.size=s.heap.objs.size+1:=wR _ _;show loop_t ((Walks.list Z _ l (by rw[z];show zQ (uQ lt)) vs.toArray).toS) s.heap.objs.size (fun q=>by
  rw[z] at q;rcases zI.mp q with e|e
  .show absurd e (zQ (vP _))
  .show absurd (zF.mp e) (wA lt)) (fun i=>ns.getD i 0) (fun i v q=>IntsAre.int_at hi i v (by rw[<- xW] at q;show q)) (by rw[zS];omega) L
  (vs.toArray.size-0) 0 _ (by omega) (zO _) {{_,zT _ rfl,rfl,rfl},{_,zE _ g,rfl,H,rfl}} (T0.at fun o e=>zE _ e) fun s' m S'=>?_
 have eq:=Moved.eq_with m;show zC (zC {rfl,s'.heap,s'.toks,eq,by rw[<- u,<- zS];show S',fun b o hb e=>m.heap b o (fun q=>?_) (zE _ (zE _ e))});rw[z] at q;rcases zI.mp q with e|e
 .show absurd e (zQ hb)
 .show absurd (zF.mp e) (zQ (uQ hb))
 | _=>show y.elim
end
theorem J37:Slot "set_iterator" "__next__" "set_iterator.__next__" :=
 .of (owner:="set_iterator") (n:="__next__") (by rfl) (by decide +kernel) (by decide +kernel) (by decide +kernel)
  (by first|show .inl (by decide +kernel)|show .inr (by decide +kernel)) (by rfl)
theorem J6o:entryFor table "set_iterator.__next__"=some Builtin.«set_iterator.__next__»:=entryFor_of_tree (by kernel_rfl)
theorem J8c(a:Value):argsOk "set_iterator.__next__" {[a],[]}:=by
 rfl
theorem Jac:entryFor table "set.__iter__"=some Builtin.«frozenset.__iter__»:=entryFor_alias (id':="frozenset.__iter__") (by kernel_rfl) (by decide +kernel) (by decide +kernel) (by kernel_rfl)
section
variable{prog:Program}{w:World}{A:Around}{E:Value->Shared->Prop}{s:Shared}
def Jak(first:Value)(i:Nat)(S:Addr)(n ep:Nat):Data:=.fields #[first,.int i 0,.ref S,.int n 0,.int ep 0]
structure J46(h:Heap)(it S:Addr)(es:Array (Int×Value))(ep:Nat)(t:SetTable)(first:Value)(i:Nat):Prop where
 its:∃o,h.get? it=some o/\o.cls=.type "set_iterator"/\o.data=Jak first i S es.size ep
 set:∃o,h.get? S=some o/\o.ExactSet/\o.data=.set es ep t/\t.fits es.size=true
theorem J46.put(x:J46 h it S es ep t first i)(ne:S≠it)(e:∀o,o.data=Jak first i S es.size ep->(f o).cls=o.cls/\(f o).data=Jak first' i' S es.size ep):J46 (h.update it f) it S es ep t first' i':=by
 let{{o,d,g,hd},c,a,r}:=x;let{j,b}:=e o hd;show{{_,uK _ d (Obj.isFreed_of_fields b),j.trans g,b},c,(vR _ _ (Ne.symm ne)).trans a,r}
theorem Jk9{slot:Nat}(ne:S≠it)(x:J46 s.heap it S es ep t (.int slot 0) i)(l:∀(A:Around) (E:Value->Shared->Prop) (Q:Option (Value×Nat)->Shared->Prop),Q (some (v,next)) s->wpAny (model prog w) A (setNext S slot i ep) Q E s)(p:∀h',J46 h' it S es ep t (.int next 0) (i+1)->Heap.SameBut it s.heap h'->Q (some v) { s with heap:=h' }):wpAny (model prog w) A (pyNext (.ref it)) Q E s:=by
 let{{o,b,h,hd},r,c,u,e,m}:=id x;show zA (vV (wW (name:=Str.ofString "__next__") {o,b,h} J37 (xG J37 {o,b,h} J6o ?_ (J8c _))));show zA (zC (zA (wpAny_fieldsOf b hd ?_)));show zA (sB c e m ?_);rw[if_neg (by simp)];show zA ?_;show l _ _ _ ?_;have g:J46 (s.heap.update it (Obj.mapFields fun a=>a.set! 0 (rawInt next))) it S es ep t (.int next 0) i:=x.put ne fun o q=>{tK ..,by rw[uP q];rfl};let{o1,d,n,f}:=g.its;have j:J46 ((s.heap.update it (Obj.mapFields fun a=>a.set! 0 (rawInt next))).update it (Obj.mapFields fun a=>a.set! 1 (rawInt (i+1)))) it S es ep t (.int next 0) (i+1):=g.put ne fun o q=>{tK ..,by rw[uP q];rfl};show zA (vJ b hd (by simp) (zA (vJ d f (by simp) (zC {v,rfl,zC (p _ j ?_)}))));show(xI ..).trans (xI ..)
theorem Jjr{s0:Shared}{Q:Option Value->Shared->Prop}(c:A.handled=none)(k:Heap.ExtBut it s0.heap s.heap)(d:∀h',Heap.ExtBut it s0.heap h'->Q none { s with heap:=h' }):
  wpAny (model prog w) A.in1 (newExc (.type "StopIteration") [] >>= fun e=>(raiseNew e:Sem PySem.Fin)) (fun fin s'=>False) (fun e s'=>wpAny (model prog w) A (do
    let b <- isInstance e (.type "StopIteration")
    if b=true then pure none else throw e) Q E s') s:=by
 show zA ?_;show zA (m:=firstArgMember _ _) (wpAny_of_eq (a:=Value.none) (by rfl) (vG ?_ (by size_fits)));show zA (wpAny_handled ?_);rw[show A.in1.handled=none from c];show zA (zC (wpAny_throw ?_));show zA (wpAny_isInstance (T:="StopIteration") (b:=true) {_,zT _ rfl,rfl} isSubtype_stop ?_);show zC (d _ ((k.push _).push _))
theorem Jka{slot:Nat}(f:A.handled=none)(x:J46 s.heap it S es ep t (.int slot 0) i)(e:∀(A:Around) (E:Value->Shared->Prop) (Q:Option (Value×Nat)->Shared->Prop),Q none s->wpAny (model prog w) A (setNext S slot i ep) Q E s)(h:∀h',Heap.ExtBut it s.heap h'->Q none { s with heap:=h' }):wpAny (model prog w) A (pyNext (.ref it)) Q E s:=by
 let{{o,a,d,hd},j,b,l,c,g}:=id x;show zA (vV (wW (name:=Str.ofString "__next__") {o,a,d} J37 (xG J37 {o,a,d} J6o ?_ (J8c _))));show zA (zC (zA (wpAny_fieldsOf a hd ?_)));show zA (sB b c g ?_);rw[if_neg (by simp)];show zA ?_;show e _ _ _ ?_;show zA (vJ a hd (by simp) ?_);show yK (Jjr (it:=it) (s0:=s) f (xI ..).extBut h) (fun _ _ z=>z.elim) (fun _ _ z=>z)
theorem Jcg(h:Q (w.params.followText "set-order") s):wpAny (model prog w) A setsByText Q E s:=zA (wpAny_askSetting (zC h))
theorem Jh8(b:s.heap.get? S=some oS)(c:oS.data=.set es ep t)(d:t.fits es.size=true)(e:w.params.followText "set-order"=false)(nd:(!t.plain&&decide (es.size>1))=false)(a:t.led=true)(h:Q (match es[SetTable.below t.place slot]?,t.place[SetTable.below t.place slot]? with|some (_,x),some j=>some (x,j+1)|_,_=>none) s):wpAny (model prog w) A (setNext S slot g ep') Q E s:=by
 show zA (uH b c d (zA (Jcg ?_)));rw[e,if_neg yG];show tD (fun q=>absurd (show(!t.plain&&decide (es.size>1))=true from q) (by rw[nd];decide)) (fun _=>?_);show zA (m:=if (!t.led && !es.isEmpty)=true then unsupported _ else pure Unit.unit) ?_;rw[a,if_neg (by simp)];show zC (zC h)
theorem Jdb(a:s.heap.get? S=some oS)(b:oS.data=.set es ep t)(c:t.fits es.size=true)(d:w.params.followText "set-order"=true)(h:Q (((pickOrder (w.params.setOrder S ep) es)[g]?).map fun e=>(e.2,slot)) s):wpAny (model prog w) A (setNext S slot g ep) Q E s:=by
 show zA (uH a b c (zA (Jcg ?_)));rw[d,if_pos rfl];rw[if_neg (by simp)];show zA ?_;show zA (uH a b c (zA (Jcg ?_)));rw[d,if_pos rfl];show zA (wpAny_askSetting (zC (zC h)))
end
end L2
namespace Rl
theorem J7p{α:Type}:∀{l:List α} {i:Nat} {x:α},l[i]?=some x->(x::l.eraseIdx i).Perm l
 | a::l,0,x,h=>by simp_all
 | a::l,i+1,x,h=>((List.Perm.swap a x _).trans ((J7p (l:=l) h).cons a))
theorem Jd7(next:Nat->Nat):∀(f k:Nat) (l:List α) (out:Array α),l.length<=f->(PySem.pickOrder.go next f k l out).toList.Perm (out.toList++l)
 | 0,k,l,out,h=>by
  have:=sI.mp (Nat.le_zero.mp h);subst this;rw[yM];show xJ _
 | f+1,k,l,out,h=>by
  rw[PySem.pickOrder.go];split
  .rename_i x e;have p:=J7p e;have b:(l.eraseIdx (next k%l.length)).length<=f:=by have:=p.length_eq;rw[xD] at this;omega
   show(Jd7 next f (k+1) _ (out.push x) b).trans ?_;rw[Array.toList_push,vS];show List.Perm.append_left _ p
  .rename_i e;have:l=[]:=by
    cases l with
    | nil=>rfl
    | cons a r =>
     rw[gEq (xT _ (by rw[xD];omega))] at e;cases e
   subst this;rw[yM]
theorem Jad(next:Nat->Nat)(xs:Array α):(PySem.pickOrder next xs).toList.Perm xs.toList:=Jd7 next xs.size 0 xs.toList #[] (by simp_all)
end Rl
namespace L2
open PySem PySem.Spec PyProof.Rows Rl
section
variable{prog:Program}{w:World}{A:Around}{E:Value->Shared->Prop}{s:Shared}
theorem Jjd(a:n≠0)(h:∀i,i<n->∀d,Q i { s with drawn:=d }):wpAny M A (choose src n) Q E s:=fun Γ p _=>by
 show{a,h _ (xT _ (Nat.pos_of_ne_zero a)) _}
theorem Jhu :∀(n:Nat) (xs:List α) {s:Shared} {Q:List α->Shared->Prop},xs.length<=n->(∀ys d,ys.Perm xs->Q ys { s with drawn:=d })->wpAny (model prog w) A (drawOrder n xs) Q E s
 | 0,xs,s,Q,hl,h=>by
  have:=sI.mp (Nat.le_zero.mp hl);subst this;show zC (h [] s.drawn (xJ _))
 | n+1,[],s,Q,hl,h=>zC (h [] s.drawn (xJ _))
 | n+1,a::r,s,Q,hl,h=>by
  show zA (Jjd (by simp) fun i hi d=>?_);rw[gEq hi];have p:=J7p (gEq hi);show zA (Jhu n _ (by grind) fun ys c b=>zC ?_);show h _ _ ((b.cons _).trans p)
theorem Jsh{p:Nat}(ne:S≠it)(x:J46 s.heap it S es ep t (.ref tu) i)(l:∃o n,s.heap.get? tu=some o/\o.data=.seq ps n)(m:ps[i]?=some (.int p 0))(r:es[p]?=some (k,v))(u:∀h',J46 h' it S es ep t (.ref tu) (i+1)->Heap.SameBut it s.heap h'->Q (some v) { s with heap:=h' }):wpAny (model prog w) A (pyNext (.ref it)) Q E s:=by
 let{{o,d,h,hd},z,b,C,c,g}:=id x;let{y,B,e,f}:=l;show zA (vV (wW (name:=Str.ofString "__next__") {o,d,h} J37 (xG J37 {o,d,h} J6o ?_ (J8c _))));show zA (zC (zA (wpAny_fieldsOf d hd ?_)));show zA (sB b c g ?_);dsimp only;rw[if_neg (by simp)];show zA (wpAny_seqItems e f ?_);dsimp only;rw[uO,m];show zA ?_;show zA (uH b c g ?_);dsimp only;rw[if_neg (by simp),uO,r];show zC ?_;have j:J46 (s.heap.update it (Obj.mapFields fun a=>a.set! 1 (rawInt (i+1)))) it S es ep t (.ref tu) (i+1):=x.put ne fun o q=>{tK ..,by rw[uP q];rfl};show zA (vJ d hd (by simp) (zC {v,rfl,zC (u _ j (xI ..))}))
theorem Jo9(r:A.handled=none)(ne:S≠it)(x:J46 s.heap it S es ep t (.ref tu) i)(m:∃o n,s.heap.get? tu=some o/\o.data=.seq ps n)(p:ps[i]?=none)(y:∀h',Heap.ExtBut it s.heap h'->Q none { s with heap:=h' }):wpAny (model prog w) A (pyNext (.ref it)) Q E s:=by
 let{{o,b,j,hd},C,d,F,g,u}:=id x;let{B,D,c,f}:=m;show zA (vV (wW (name:=Str.ofString "__next__") {o,b,j} J37 (xG J37 {o,b,j} J6o ?_ (J8c _))));show zA (zC (zA (wpAny_fieldsOf b hd ?_)));show zA (sB d g u ?_);dsimp only;rw[if_neg (by simp)];show zA (wpAny_seqItems c f ?_);dsimp only;rw[uO,p];dsimp only;have l:J46 (s.heap.update it (Obj.mapFields fun a=>a.set! 0 (rawInt 0))) it S es ep t (.int 0 0) i:=x.put ne fun o q=>{tK ..,by rw[uP q];rfl};let{o1,e,v,h}:=l.its;show zA (vJ b hd (by simp) (zA (vJ e h (by simp) ?_)));show yK (Jjr (it:=it) (s0:=s) r ((xI ..).trans (xI ..)).extBut y) (fun _ _ z=>z.elim) (fun _ _ z=>z)
end
theorem Jcx:Slot "set_iterator" "__iter__" "set_iterator.__iter__" :=
 .of (owner:="set_iterator") (n:="__iter__") (by rfl) (by decide +kernel) (by decide +kernel) (by decide +kernel)
  (by first|show .inl (by decide +kernel)|show .inr (by decide +kernel)) (by rfl)
theorem Jib:entryFor table "set_iterator.__iter__"=some Builtin.«dict_keyiterator.__iter__» :=
 entryFor_alias (id':="dict_keyiterator.__iter__") (by kernel_rfl) (by decide +kernel) (by decide +kernel) (by kernel_rfl)
theorem Jkb(a:Value):argsOk "set_iterator.__iter__" {[a],[]}:=by
 rfl
section
variable{prog:Program}{w:World}{A:Around}{E:Value->Shared->Prop}{s:Shared}
def SitM(w:World)(it S tu:Addr)(a:Array (Int×Value))(ep:Nat)(t:SetTable)(its:List Value)(i:Nat)(h:Heap):Prop:=
 (w.params.followText "set-order"=true/\(∃slot:Nat,J46 h it S a ep t (.int slot 0) i)/\its=(pickOrder (w.params.setOrder S ep) a).toList.map (·.2))\/
 (w.params.followText "set-order"=false/\(!t.plain&&decide (a.size>1))=false/\t.led=true/\Ris t.place/\(∃slot:Nat,J46 h it S a ep t (.int slot 0) i/\SetTable.below t.place slot=i)/\its=a.toList.map (·.2))\/
 (∃ps:List Nat,J46 h it S a ep t (.ref tu) i/\(∃o n,h.get? tu=some o/\o.data=.seq (ps.map fun p:Nat=>Value.int p 0).toArray n)/\(∀p∈ps,p<a.size)/\its=ps.map fun p=>(a.getD p default).2)
theorem J46.at(x:J46 h it S es ep t first i)(e:∀o,h.get? it=some o->h'.get? it=some o)(d:∀o,h.get? S=some o->h'.get? S=some o):J46 h' it S es ep t first i:=by
 let{{o,f,r},c,a,b}:=x;show{{o,e _ f,r},c,d _ a,b}
theorem SitM.at(x:SitM w it S tu es ep t its i h)(k:∀b∈[it,S,tu],∀o,h.get? b=some o->h'.get? b=some o):SitM w it S tu es ep t its i h':=by
 have l:=k it (by simp);have j:=k S (by simp);rcases x with⟨a,⟨sl,b⟩,c⟩|⟨a,b,c,d,⟨sl,e,f⟩,g⟩|⟨ps,a,⟨o,n,ho,hd⟩,r⟩
 .show .inl {a,{sl,b.at l j},c}
 .show .inr (.inl {a,b,c,d,{sl,e.at l j,f},g})
 .show .inr (.inr {ps,a.at l j,{o,n,k tu (by simp) _ ho,hd},r})
theorem Jnw(M:A.handled=none)(it S tu:Addr)(ne:S≠it)(O:tu≠it)(y:Array (Int×Value))(ep:Nat)(t:SetTable)(its:List Value):
  Walks prog w A it [it,S,tu] [it] its.length (fun i v=>its[i]?=some v) (fun i h=>SitM w it S tu y ep t its i h) where
 sub:=fun b hb=>by simp at hb;simp[hb]
 frame:=fun _ _ _ st R=>st.at R
 item:=fun i s Q E hi st I=>by
  have fin:∀v h',its[i]?=some v->SitM w it S tu y ep t its (i+1) h'->Heap.SameBut it s.heap h'->Q (some v) { s with heap:=h' }:=fun v h' X W U =>
   I v h' s.toks X W fun b o hb e=>U.extBut b o (fun z=>hb (by simp[z])) e
  rcases st with⟨a,⟨sl,b⟩,c⟩|⟨a,b,c,d,⟨sl,e,f⟩,g⟩|⟨ps,a,ht,hp,c⟩
  .obtain⟨v,D⟩:∃v,its[i]?=some v:={_,gEq hi};let{J,l,K,m,u}:=b.set;show Jk9 (next:=sl) ne b (fun A E Q q=>Jdb l m u a ?_) fun h' C k=>fin _ h' D (.inl {a,{sl,C},c}) k;have j:=D;rw[c,zY,xW] at j
   cases z:(pickOrder (w.params.setOrder S ep) y)[i]? with
   | none=>rw[z] at j;cases j
   | some e =>
    rw[z] at j;injection j with j
    subst j;show q
  .obtain⟨v,D⟩:∃v,its[i]?=some v:={_,gEq hi};let{J,l,K,m,u}:=e.set;have Y:i<y.size:=by rw[g,zB,yL] at hi;show hi
   have P:t.place.size=y.size:=by
    unfold SetTable.fits at u;rw[xV,xU] at u;show u.1
   have F:t.place[i]?=some (t.place[i]'(by omega)):=vX _;show Jk9 (next:=t.place[i]'(by omega)+1) ne e (fun A E Q q=>Jh8 l m u a b c ?_) fun h' C k=>fin _ h' D (.inr (.inl {a,b,c,d,{_,C,Jjh d F},g})) k;rw[f,F];have j:=D;rw[g,zY,xW] at j
   cases z:y[i]? with
   | none=>rw[z] at j;cases j
   | some e =>
    rw[z] at j;injection j with j
    subst j;show q
  .have r:i<ps.length:=by rw[c,zB] at hi;show hi
   have G:ps[i]?=some (ps[i]'(r)):=gEq r;have L:=hp _ (xC r);have T:y[ps[i]'(r)]?=some (y.getD (ps[i]'(r)) default):=by rw[sZ,vX L];rfl
   show Jsh (p:=ps[i]'(r)) ne a ht (by rw[<- xW,zY,G];rfl) T fun h' C k=>fin _ h' (by rw[c,zY,G];rfl) (.inr (.inr {ps,C,?_,hp,c})) k;let{o,n,B,hd}:=ht;show{o,n,k.extBut tu o O B,hd}
 done:=fun s Q E st I=>by
  have fin:∀h',Heap.ExtBut it s.heap h'->Q none { s with heap:=h' }:=fun h' e=>I h' s.toks fun b o hb q=>e b o (fun z=>hb (by simp[z])) q;rcases st with⟨a,⟨sl,b⟩,c⟩|⟨a,b,c,d,⟨sl,e,f⟩,g⟩|⟨ps,a,ht,hp,c⟩
  .let{J,l,K,m,u}:=b.set;show Jka M b (fun A E Q q=>Jdb l m u a ?_) fin;have z:(pickOrder (w.params.setOrder S ep) y)[its.length]?=none:=by
    rw[<- xW,tZ,c,zB];show zD _
   rw[z];show q
  .let{J,l,K,m,u}:=e.set;show Jka M e (fun A E Q q=>Jh8 l m u a b c ?_) fin;have z:y[its.length]?=none:=by
    rw[<- xW,tZ,g,zB];show zD _
   rw[f,z];show q
  .show Jo9 M ne a ht (by rw[<- xW,tZ,c,zB,zB];show zD _) fin
 self:=fun i s Q E st I=>by
  have N:s.TypeIs (.ref it) "set_iterator":=by
   rcases st with⟨a,⟨sl,b⟩,c⟩|⟨a,b,c,d,⟨sl,e,f⟩,g⟩|⟨ps,a,ht,hp,c⟩
   .let{o,B,H,_}:=b.its;show{o,B,H}
   .let{o,B,H,_}:=e.its;show{o,B,H}
   .let{o,B,H,_}:=a.its;show{o,B,H}
  show wpAny_pyIter_slot N Jcx (xG Jcx N Jib ?_ (Jkb _));show zC {_,rfl,"set_iterator",_,N,J37.lookup,I}
theorem Jqn{S:Addr}{B:Obj}{f:Array (Int×Value)}{ep:Nat}{t:SetTable}{Q:Value->Shared->Prop}(h:s.heap.get? S=some B)(M:B.ExactSet)(m:B.data=.set f ep t)(D:t.fits f.size=true)(ok:Jei t)(T:t.led=!(w.params.followText "set-order"))(R:f.size<=sizeLine)(L:∀it tu its h' d,its.Perm (f.toList.map (·.2))->SitM w it S tu f ep t its 0 h'->(∀b o,s.heap.get? b=some o->h'.get? b=some o)->s.heap.objs.size<=it->tu≠it->S≠it->(tu=S\/s.heap.objs.size<=tu)->Q (.ref it) { s with heap:=h',drawn:=d }):
  wpAny (model prog w) A (pyIter (.ref S)) Q E s:=by
 have N:s.TypeIs (.ref S) "set":={B,h,M.1};have lt:S<s.heap.objs.size:=zG h;have W:t.place.size=f.size:=by
  have q:=D;unfold SetTable.fits at q;rw[xV,xU] at q;show q.1
 show wpAny_pyIter_slot N PySem.F.slot_set_iter (xG PySem.F.slot_set_iter N Jac ?_ (PySem.F.args_set_iter_1 _));unfold Builtin.«frozenset.__iter__» Builtin.Frozenset.slot0 Builtin.Frozenset.sizeOf;show zA (zA (zC (zC (zA (zA (sB h m D (zC ?_)))))));show zA ?_;unfold setDrawn;show zA (uH h m D (zA (Jcg (zC ?_))));have j:∀(first:Value) (n:Shared),n.heap.get? S=some B->(∀h' it,h'=n.heap.push { cls:=.type "set_iterator",data:=Jak first 0 S f.size ep }->it=n.heap.objs.size->J46 h' it S f ep t first 0->Q (.ref it) { n with heap:=h' })->
   wpAny (model prog w) A.in1 (setEpoch S >>= fun e=>newFields "set_iterator" [first,rawInt 0,.ref S,rawInt f.size,rawInt e] >>= fun v=>(ret v:Sem PySem.Fin)) (fun fin s'=>∃v,fin=Fin.done (Flow.ret v)/\∃T' r,s'.TypeIs v T'/\typeLookup (Value.type T') (Str.ofString "__next__")=pure (some r)/\Q v s') E n:=fun first n I k=>by
  show zA (zA (uH I m D (zC ?_)));unfold newFields;show zA (vG ?_ (by size_fits));have g:(n.heap.push { cls:=.type "set_iterator",data:=Jak first 0 S f.size ep }).get? n.heap.objs.size=some { cls:=.type "set_iterator",data:=Jak first 0 S f.size ep }:=zT _ rfl;show zC {_,rfl,"set_iterator",_,{_,g,rfl},J37.lookup,k _ _ rfl rfl {{_,g,rfl,rfl},B,zE _ I,M,m,D}}
 cases bt:w.params.followText "set-order" with
 | true =>
  dsimp only;rw[if_neg (by simp)];show zA (zC (j _ s h fun h' it H G x=>?_));subst H;subst G;show L _ S _ _ s.drawn ((Jad _ f).map _) (.inl {bt,{0,x},rfl}) (fun b o e=>zE _ e) (zD _) (zQ lt) (zQ lt) (.inl rfl)
 | false =>
  dsimp only;by_cases c:(!t.plain&&decide (f.size>1))=true
  .show tD (fun _=>?_) (fun q=>absurd (show(!false&&(!t.plain&&decide (f.size>1)))=true by rw[c];rfl) q);show zA (Jhu f.size (List.range f.size) (by rw[yC];show zD _) fun ps d u=>?_);have K:ps.length=f.size:=by rw[u.length_eq,yC]
   show zA (wpAny_newTuple ?_ (by rw[zB,K];show R));obtain⟨l,y⟩:∃l:Obj,l={ cls:=.type "tuple",data:=.seq (ps.map fun i:Nat=>rawInt i).toArray }:={_,rfl};have gT:(s.heap.push l).get? s.heap.objs.size=some l:=zT _ (by rw[y];rfl);rw[<- y];show j _ { s with heap:=s.heap.push l,drawn:=d } (zE _ h) fun h' it H G x=>?_;subst H;subst G;have z:(s.heap.push l).objs.size=s.heap.objs.size+1:=wR _ _;show L _ s.heap.objs.size _ _ d ?_ (.inr (.inr {ps,x,{l,0,zE _ gT,by rw[y];rfl},fun p q=>zR.mp (u.mem_iff.mp q),rfl})) (fun b o e=>zE _ (zE _ e)) (by change _<=(s.heap.push l).objs.size;rw[z];show wI _) (by change _≠(s.heap.push l).objs.size;rw[z];show zQ (vP _)) (by change _≠(s.heap.push l).objs.size;rw[z];show zQ (uQ lt)) (.inr (zD _));have U:f.toList.map (·.2)=(List.range f.size).map fun p=>(f.getD p default).2:=by
    show List.ext_getElem (by rw[zB,zB,yC,yL]) fun i I O=>?_;rw[getElem_map,getElem_map,sP,Array.getElem_toList,sZ,vX];rfl
   rw[U];show u.map _
  .show tD (fun q=>absurd (show(!t.plain&&decide (f.size>1))=true by have P:(!false&&(!t.plain&&decide (f.size>1)))=true:=q;simpa using P) c) (fun _=>?_);have J:(!t.plain&&decide (f.size>1))=false:=by rw[<- Bool.not_eq_true];show c
   have C:Ris t.place:=by
    cases pl:t.plain with
    | true=>show ok.2 pl
    | false =>
     rw[pl] at J;have I:¬ f.size>1:=fun q=>by rw[zZ q] at J;cases J
     unfold Ris;have O:t.place.toList.length<=1:=by rw[yL];omega
     match t.place.toList,O with
     | [],_=>show List.Pairwise.nil
     | [a],_=>show sR ..
   show zA (zC (j _ s h fun h' it H G x=>?_));subst H;subst G;show L _ S _ _ s.drawn (xJ _) (.inr (.inl {bt,J,by rw[T,bt];rfl,C,{0,x,Jjg C},rfl})) (fun b o e=>zE _ e) (zD _) (zQ lt) (zQ lt) (.inl rfl)
end
section
variable{prog:Program}{w:World}{A:Around}{E:Value->Shared->Prop}{s:Shared}
theorem Jqq(a:s.TypeIs (.ref r) "set")(h:Q false s):wpAny (model prog w) A (Builtin.List.listLengthHint (.ref r)) Q E s:=by
 show zA (wpAny_specialOf a PySem.F.slot_set_len.lookup ?_);generalize hid:("set.__len__":String)=id0
 wp_delta
 subst hid;show zA (wpAny_isInstance (T:="set") (b:=true) a sub_set_self (tD (fun z=>absurd z (by decide)) (fun _=>tD (fun _=>?_) (fun z=>absurd (by rfl) z))));show zA (wpAny_typeOf a (zC h))
def numV:Value->Int
 | .int k _=>k
 | _=>0
theorem Jhi:∀{vs:List Value},(∀v∈vs,∃k t,v=.int k t)->IntsAre vs (vs.map numV)
 | [],_=>.nil
 | v::vs,h=>by
  let{k,t,rfl}:=h v (zJ ..);show .cons k t (Jhi fun u a=>h u (zK _ a))
theorem Jfv(hh:A.handled=none)(x:SetT prog w s.heap S D (!(w.params.followText "set-order")))(h:∀vs ns h' d L,IntsAre vs ns->ns.Perm D->(∀b o,s.heap.get? b=some o->h'.get? b=some o)->s.heap.objs.size<=h'.objs.size->Q vs { s with heap:=h',drawn:=d,toks:=L }):
  wpAny (model prog w) A (collect (.ref S)) Q E s:=by
 let{o,es,ep,t,u,n,hd,l,hp,hb,hf,ok,hl}:=x;have hT:s.TypeIs (.ref S) "set":={o,u,n.1};have lt :=zG u;unfold collect;show zA (wpAny_runValue (wJ entry_proto_collect' ?_));change wpAny _ _ (do again (.builtin "list.__iadd__" {[<- newList [],.ref S],[]})) _ _ s;show zA (vT (zC {Code.quiet_builtin _ (by decide +kernel),wJ entry_list_iadd' ?_}));change wpAny _ _ (Builtin.List.listExtendWith (.ref s.heap.objs.size) (.ref S) (.ref s.heap.objs.size)) _ _ { s with heap:=s.heap.push (seqObj "list" #[] 0) };unfold Builtin.List.listExtendWith;have f:(s.heap.push (seqObj "list" #[] 0)).get? S=some o:=zE _ u;have gL:(s.heap.push (seqObj "list" #[] 0)).get? s.heap.objs.size=some (seqObj "list" #[] 0):=zT _ rfl;show zA (wpAny_typeOf (T:="set") {o,f,n.1} ?_);have Z:Builtin.List.listSameRef (.ref s.heap.objs.size) (.ref S)=false:=by
  change(s.heap.objs.size==S)=false;rw[tF];show wA lt
 rw[if_neg (by rw[Z];decide)];show zA (Jqn f n hd hf ok hl (fits_of_scanBound hb) fun it tu its h1 d hi M kp j O P K=>?_);have z:(s.heap.push (seqObj "list" #[] 0)).objs.size=s.heap.objs.size+1:=wR _ _;have o1:=kp _ _ f;have l1:=kp _ _ gL;show zA (xP (Jqq {o,o1,n.1} ?_));have X:∀v∈its,∃k t,v=.int k t:=fun v Y=>by
  let{e,B,rfl}:=zW.mp (hi.mem_iff.mp Y);let{{k,y,_},_}:=l e B;let{t,q}:=Value.isInt_shape y;show{k,t,q}
 have N:(its.map numV).Perm D:=by
  show(hi.map numV).trans ?_;rw[yX];show(List.Perm.of_eq (wO fun e B=>?_)).trans hp;let{{k,y,_},_}:=l e B;let{t,q}:=Value.isInt_shape y;change numV e.2=numE e;unfold numE;rw[q];rfl
 have R:s.heap.objs.size≠it:=fun e=>by
  rw[z] at j;rw[<- e] at j;show absurd j (Nat.not_le.mpr (vP _))
 have nT:s.heap.objs.size≠tu:=fun e=>by
  rcases K with q|q
  .show absurd (e.trans q) (wA lt)
  .rw[z,<- e] at q;show absurd q (Nat.not_le.mpr (vP _))
 have nF:s.heap.objs.size ∉ [it,S,tu]:=fun q=>by
  rcases zI.mp q with e|q
  .show R e
  rcases zI.mp q with e|q
  .show absurd e (wA lt)
  .show nT (zF.mp q)
 have hn:its.length<=sizeLine:=by rw[hi.length_eq,zB,yL];show fits_of_scanBound hb
 have g:∀(p:Heap) (c:Nat),(∀b o,b≠s.heap.objs.size->h1.get? b=some o->p.get? b=some o)->p.get? s.heap.objs.size=some { cls:=.type "list",dict:=none,data:=.seq #[] c,slots:=#[] }->
   codeAny (model prog w) A (.builtin "list.extend.loop" {[.ref s.heap.objs.size,.ref it,.ref s.heap.objs.size],[]}) (fun r s'=>match r with
    | .ok (.ret v)=>wpAny (model prog w) A (match v with
     | .ref a=>do match (<- load a).data with
      | .seq xs _=>pure xs.toList
      | _=>unsupported "internal:collect"
     | _=>unsupported "internal:collect") Q E s'
    | .ok _=>False
    | .error e=>E e s') { s with heap:=p,drawn:=d }:=fun p c H g2=>by
  have W:=Jnw (prog:=prog) (w:=w) (A:=A.in1) hh it S tu P O es ep t its;show codeAny_extend_loopS W.toS hn s.heap.objs.size nF _ its.length 0 _ #[] c rfl (zO _) (M.at fun b hb o e=>H b o (fun q=>nF (q▸hb)) e) g2 (ItemsOf.nil _) fun s' acc c' m J I=>?_;have eq:=Moved.eq_with m;have eA:acc.toList=its:=by
   show wX fun i=>?_;rw[xW]
   cases q:acc[i]? with
   | some v=>show(I.2 i v q).symm
   | none =>
    have:=Array.getElem?_eq_none_iff.mp q;rw[I.1] at this;show(tZ.mpr this).symm
  show zA (wpAny_load J (zC ?_));rw[eA,eq];show h its _ s'.heap d s'.toks (Jhi X) N (fun b o e=>m.heap b o (fun q=>?_) (H b o (zQ (zG e)) (kp b o (zE _ e)))) (yJ (zG J));rcases zI.mp q with C|q
  .show absurd C (zQ (zG e))
  .have C:=zF.mp q;rw[z,<- C] at j;show absurd (zG e) (Nat.not_lt.mpr (yJ j))
 dsimp only;show tD (fun _=>?_) (fun _=>zC {plainId_quiet PySem.F.plain_extend_loop _,g _ 0 (fun b o _ e=>e) l1});show zA (wpAny_rule (zA ?_));unfold Builtin.List.listTouch;show zA (vU l1 rfl ?_);have G:=uK (Obj.mapSeq (·.push Value.none)) l1 rfl;show vU G rfl ?_ (by seq_fits);have U:=uK (Obj.mapSeq (·.pop)) G rfl;show zC {plainId_quiet PySem.F.plain_extend_loop _,g _ _ (fun b o hb e=>?_) U};show(vR _ _ (Ne.symm hb)).trans ((vR _ _ (Ne.symm hb)).trans e)
theorem Jkk(ne:b≠a)(e:h.get? b=some o):(sortedHeap h a vs out).get? b=some o:=by
 unfold sortedHeap;rw[vR _ _ (Ne.symm ne)];show zE _ (zE _ ((vR _ _ (Ne.symm ne)).trans e))
theorem Jox(e:h.get? a=some (seqObj "list" xs n)):∃k,(sortedHeap h a vs out).get? a=some (seqObj "list" out k) :=
 {_,uN (zE _ (zE _ (uN e (fun _=>#[])))) (fun _=>out)}
theorem Jia(n:A.handled=none)(x:SetT prog w s.heap S D (!(w.params.followText "set-order")))(g:D.length<64)(h:∀(a:Addr) (out:Array Value) (c:List Int) (k:Nat) h' d f,IntsAre out.toList c->c.Perm D->c.Pairwise (·<=·)->(∀b o,s.heap.get? b=some o->h'.get? b=some o)->s.heap.objs.size<=a->h'.get? a=some (seqObj "list" out k)->Q (.ref a) { s with heap:=h',drawn:=d,toks:=f }):
  wpAny (model prog w) A (call (.builtin "sorted") [.ref S]) Q E s:=by
 show sV kind_sorted plain_sorted entry_sorted (args_sorted1 _) ?_;show zA (m:=checkCount "sorted" 1 1 _) (zC (zA (Jfv n x fun vs ns l d f j pn kp le=>?_)));have i:vs.length<64:=by rw[IntsAre.length j,pn.length_eq];show g
 show zA (vT ?_ (yJ (yB i (by decide))));have gL:(l.push (seqObj "list" vs.toArray 0)).get? l.objs.size=some (seqObj "list" vs.toArray 0):=zT _ rfl;show zA (xP (xG slot_list_sort {_,gL,rfl} entry_list_sort (list_sort_tree gL j i fun out c r q p=>{_,rfl,?_}) (args_list_sort _)));let{k,gk}:=Jox (vs:=vs) (out:=out) gL;show zC {_,rfl,h _ out c k _ d f r (q.trans pn) p (fun b o e=>Jkk (zQ (yB (zG e) le)) (zE _ (kp b o e))) le gk}
end
theorem Jfj(val:Nat->Int):∀n,(firstMet val n).Nodup/\∀x,x∈firstMet val n↔∃i,i<n/\val i=x
 | 0=>{by show nodup_nil,fun x=>by rw[firstMet_zero];grind}
 | n+1=>by
  let{g,f}:=Jfj val n;have up:∀x,(∃i,i<n+1/\val i=x)↔(∃i,i<n/\val i=x)\/val n=x:=fun x=>by
   grind
  rw[firstMet_succ];unfold step_dedup;by_cases c:val n∈firstMet val n
  .simp_all
  .have z:¬ ((firstMet val n).any fun x=>x==val n)=true:=fun q=>by
    rw[any_eq_true] at q;let{x,m,e}:=q;rw[xU] at e;show c (e▸m)
   rw[if_neg z];show{xL.mpr {g,yN.mpr {fun h=>(nomatch h),nodup_nil},fun a d b hb e=>c (by rw[<- zF.mp hb,<- e];show d)},fun x=>?_};rw[up,<- f,yF,zF];show{fun q=>q.elim .inl fun e=>.inr e.symm,fun q=>q.elim .inl fun e=>.inr e.symm}
theorem Jqb(ns:List Int)(x:Int):x∈firstMet (fun i=>ns.getD i 0) ns.length↔x∈ns:=by
 rw[(Jfj _ _).2];constructor
 .rintro⟨i,hi,rfl⟩;rw[zH,gEq hi];show xC hi
 .intro h;let{i,hi,e}:=List.mem_iff_getElem.mp h;show{i,hi,?_};rw[zH,gEq hi];show e
theorem Jqe:∀{l:List Int},l.Pairwise (·<=·)->l.Nodup->l.Pairwise (· < ·):=fun {l} d c=>(d.and c).imp fun⟨a,b⟩=>by omega
section
variable{X:Cx}{e:Expr}{t:TA}{p p2 pos pos2:Pos}
theorem Inv.drawn(I:Inv X pins σ H s)(d:Drawn):Inv X pins σ H { s with drawn:=d }:=
 I.step (g':=s.gens) (d':=d) (t':=s.toks) (ch:=[]) (h':=s.heap) (fun _ z=>nomatch z) (fun b o _ _ _ e _=>e) (fun b o _ _ _ e _=>{o.slots,e}) (fun _ _ _ _ n=>n) (fun b o _ e=>{o,e}) (fun _ _ h=>h) (fun _ _ _ h=>h) (fun b ps h=>{#[],by simp_all}) (fun _ h=>h) I.hok I.bare
inductive tSSetR(X:Cx)(Q:VK)(vs:List V)(a:Hp):Prop
 | mk(q:Addr)(ns:List Int)(_:vs=[.ref q])(_:SqL X.K a q (ns.map V.int))(_:ns.length<64)(_:∀l (ns':List Int),a l=none->ns'.Pairwise (· < ·)->(∀x,x∈ns'↔x∈ns)->Q (.ref l) (upd a l (.lst (ns'.map V.int))))
def tSSet(t:TA):TE:=fun σ H Q=>t σ H fun vs a=>tSSetR X Q vs a
theorem Jtb(z:X.calm=true)(O:Gl X "sorted")(N:X.mg "sorted"=none)(r:Gl X "set")(n:X.mg "set"=none)(R:PA X [e] t)(P:starEach [e] X.env=[(false,eval e X.env)]:=by rfl)(v:starEach [Expr.Call (.Name "set" p2) [e] [] pos2] X.env=[(false,eval (Expr.Call (.Name "set" p2) [e] [] pos2) X.env)]:=by rfl):
  PE X (.Call (.Name "sorted" p) [.Call (.Name "set" p2) [e] [] pos2] [] pos) (tSSet (X:=X) t):=by
 intro pins s σ H Q I h;show vQ (J75 I O N boot_sorted ?_ (by decide) (by decide));show callWith_builtin1 (rest:=[]) ?_ (by rfl) rfl;rw[v];change wpAny _ _ (spliced [(false,eval (Expr.Call (.Name "set" p2) [e] [] pos2) X.env)]) _ _ s;show sE ?_;show vQ (J75 I r n PyProof.Rows.boot_set ?_ (by decide) (by decide));show tE (thn (R pos2 pins s σ H _ I h) fun us y S=>?_) (by rw[P];rfl) rfl;let{vs,H1,g,D,q,ns,W,L,T,G}:=S;subst W;let{u,rfl,C}:=J6j D;cases C;let{its,E,pl,hz}:=g.list L;have K :=J28 E;have lD:=firstMet_length_le (fun i=>ns.getD i 0) ns.length;show Jje (g.ok.hd z) pl.isList K (by unfold scanBound;omega) fun h' B A kp=>?_;have l:y.heap.objs.size<h'.objs.size:=by
  let{o,_,_,_,M,_}:=A;show zG M
 show Calls.spliced_nil ?_;show Jia (s:={ y with heap:=h',toks:=B }) (g.ok.hd z) A (by omega) fun a out c k h2 d j Z w Y J la U=>?_;have F:=fun b o e=>J b o (kp b o (zG e) e);have f:=zM (yJ l) la;have m:(c.map V.int).length<=sizeLine:=by
  rw[zB,w.length_eq]
  grind
 show{.ref a,_,(g.drawn d).laid (t':=j) (a:=a) (o:=.lst (c.map V.int)) F f {m,out.toList,k,J4y Z,U},rfl,G _ c (g.hok.fresh f) (Jqe Y (w.nodup_iff.mpr (Jfj _ _).1)) fun x=>?_};rw[w.mem_iff];show Jqb ns x
end
end L2
namespace R53
open PySem L2 Rl En
section
variable [En]
inductive Jgh(vs:List V)(H:Hp)(Q:VK)(E:XK):Prop
 | mk(p:Addr)(bs:List Int)(x:Int)(_:vs=[.ref p,.int x])(_:H p=some (.lst (iV bs)))(_:J6h bs)(_:bs.sum<=10^30)(_:0<=x/\x<bs.sum)(_:Q (.int (tB bs x)) H)
theorem J8d:FS1 ["blocks","x","start","block"] J9t:=fsc
theorem Jl9(F:Fn1 J9t):Ca1 1 J9t Jgh:=by
 show F.ok J8d (fun f d A o s H vs Q E z h=>?_);let{p,bs,x,rfl,m,g,u,{q,w},k}:=h;show{_,(J0 (pst J8d 2 J9)
  (J0 (J2h yH rfl (J1i (pv 0)) (pgm J8d 3)
   (J0 (J1a (Jk J95 (pv 1) (Jj J12 (pv 2) (pv 3)) (Jp _)) (J3 (Jd (Jj J1j (Jj J1j (Jj J12 (Jj J94 J9 (pv 2)) (pv 3)) J9) (pv 1)))) Jo)
   (J3 (pst J8d 2 (Jj J12 (pv 2) (pv 3))))))
  (J3 (Jd (pv 1))))),?_}
 have O:=(g.good u).ord;have l:(iV bs).length=bs.length:=zB ..;have r:=O.whole;show{_,rfl,p,rfl,{_,SqL.of m},J2m (K:=K) (a:=p) (xs:=iV bs) (fun i σ n=>∃v,σ=[some (.ref p),some (.int x),some (.int (Jr bs (List.range bs.length) i)),v]/\H=n/\Jr bs (List.range bs.length) i<=x)
  {none,rfl,rfl,by rw[J36];show q} (fun i σ n _ ⟨_,_,e,_⟩=>by rw[<- e];show SqL.of m) ?_ ?_}
 .rintro i y σ _ j ⟨v,rfl,rfl,b⟩;have hi:i<bs.length:=by
   have:=(gSm j);rw[l] at this;show this
  rw[J19 hi] at j;cases j;have st:Jr bs (List.range bs.length) (i+1)=Jr bs (List.range bs.length) i+bs.getD i 0:=by rw[J15,J2n hi]
  show{_,rfl,_,rfl,_,rfl,_,_,rfl,rfl,_,_,rfl,rfl,_,rfl,?_};by_cases c:x<Jr bs (List.range bs.length) i+bs.getD i 0
  .show J31 c {_,rfl,_,_,rfl,rfl,.inl {by decide,by decide},_,rfl,_,_,rfl,rfl,_,_,rfl,rfl,_,rfl,_,_,rfl,rfl,?_};rw[show tB bs x=_ from Jci O (Jed O hi b c)] at k;show k
  .show iteD c {_,rfl,_,rfl,_,_,rfl,rfl,_,(by rw[st];rfl),rfl,by omega}
 .rintro σ _ ⟨v,rfl,rfl,b⟩;exfalso;rw[l] at b;omega
abbrev wdS(w:Bool):Str:=cond w "way" "loop"
theorem J39.tw{as bs:List Int}(G:J39 as bs):Tw (tB as) (tB bs) as.sum:=
 have T:=G.two
 {T.ain,fun x h=>by
  have:=(Jnp (G.b.good (by rw[<- G.eq];show G.le)).ord (G.a.good G.le).ord G.eq.symm).ain x (by rw[<- G.eq];show h);rw[<- G.eq] at this;show this,T.aa,T.bb}
theorem Jhr{N:Int}{fs:List Int}(nd:fs.Nodup)(h:∀y∈fs,0<=y/\y<N):fs.length<=N.toNat:=by
 have b:=J6y nd (ys:=(List.range N.toNat).map fun(y:Nat)=>(y:Int)) fun y a=>zW.mpr {y.toNat,zR.mpr (by have:=h y a;omega),by have:=h y a;omega};rw[zB,yC] at b;show b
theorem Ju5(ns:List Int):(iV ns).all J4q=true:=by simp[iV,J4q]
theorem inV_iV(o:Int)(ns:List Int):inV (.int o) (iV ns)=decide (o∈ns):=by
 unfold inV
 induction ns with
 | nil=>rfl
 | cons n ns ih =>
  change(eqV (.int n) (.int o) || _)=_;rw[show List.any (List.map V.int ns) (fun y=>eqV y (.int o))=_ from ih];change((n==o) || _)=_;by_cases e:n=o
  .simp[e]
  .simp[e,Ne.symm e]
theorem fork{c:Prop}[Decidable c]{A B:Prop}(b:c->A)(a:¬ c->B):if decide c=true then A else B:=by
 by_cases h:c
 .rw[if_pos (zZ h)];show b h
 .rw[if_neg (by simpa using h)];show a h
inductive Jjz(vs:List V)(H:Hp)(Q:VK)(E:XK):Prop
 | mk(p l1 b:Addr)(as bs:List Int)(x:Int)(_:vs=[.ref p,.int x])(_:H p=some (.tup [.ref l1,.ref b]))(_:H l1=some (.lst (iV as)))(_:H b=some (.lst (iV bs)))(_:J39 as bs)(_:as.sum<=45)(_:0<=x/\x<as.sum)(_:∀q l fs w a,Same H a->H l=none->a q=some (.tup [.str (wdS w),.ref l])->a l=some (.lst (iV fs))->fs.Nodup->(∀y,y∈fs↔Rc (tB as) (tB bs) x y)->(w=true↔wayR (tB as) (tB bs) x)->Q (.ref q) a)
inductive IvW(p b la:Addr)(x:Int)(as bs:List Int)(H:Hp)(mu:Nat)(σ:St)(Hw:Hp):Prop
 | mk(fs a:List Int)(w:Bool)(e d c:Option V)(_:σ=[some (.ref p),some (.int x),some (.ref b),some (.ref la),some (.str (wdS w)),e,d,c])(_:Hw b=some (.lst (iV fs)))(_:Hw la=some (.lst (iV a)))(_:Same H Hw)(_:GI (tB as) (tB bs) x fs a w (fun _=>False))(_:mu=2*(as.sum.toNat-fs.length)+a.length)
inductive IvF(p c la:Addr)(x d:Int)(as bs:List Int)(H:Hp)(M i:Nat)(σ:St)(b:Hp):Prop
 | mk(fs a:List Int)(w:Bool)(f e:Option V)(_:σ=[some (.ref p),some (.int x),some (.ref c),some (.ref la),some (.str (wdS w)),some (.int d),f,e])(_:b c=some (.lst (iV fs)))(_:b la=some (.lst (iV a)))(s:Same H b)(_:GI (tB as) (tB bs) x fs a w (·=d))(_:d∈fs)(_:0<i->tB as d∈fs/\(tB as d=d->w=true))(_:1<i->tB bs d∈fs/\(tB bs d=d->w=true))(_:2*(as.sum.toNat-fs.length)+a.length<=M)
theorem IvF.same(I:IvF p lf la x d as bs H M i σ Hf):Same H Hf:=by cases I;assumption
theorem Ju0{N a b R:Nat}(h:a+1<=N)(m:2*(N-a)+b<=R):2*(N-(a+1))+(b+1)<=R:=by omega
theorem J54:FS1 ["drawn","x","found","ahead","kind","dot","blocks","other"] Jdy:=fsc
theorem Jq0(F:Fn1 Jdy)(T:TxtR mg)(ai:Ca1 1 J9t Jgh):Ca1 2 Jdy Jjz:=by
 show F.ok J54 (fun f d A o s H vs Q E hr h=>?_);let{p,l1,l2,as,bs,x,rfl,hp,h1,h2,G,le,hx,k}:=h;have B:=G.tw;have sm:=Jq (n:=100) (by decide);show{_,(J0 (pst J54 2 (J1z (dZ (pv 1) J1)))
  (J0 (pst J54 3 (J1z (dZ (pv 1) J1)))
  (J0 (pst J54 4 J2q)
  (J0 (Jbo yH (Jk J6x (pcb Jm T.len (pv 3)) J9 (Jp _))
   (J0 (pst J54 5 (pe_bm0 yI PySem.F.slot_list_pop PySem.F.type_list_pop mt_pop (pv 3)))
   (J3 (J2h yH rfl (J7v (pv 0)) (pgm J54 6)
    (J0 (pst J54 7 (pcl ai hr Jg (dZ (pv 6) (dZ (pv 5) J1))))
    (J0 (J4w (J1a (Jk J44 (pv 7) (pv 5) (Jp _)) (J3 (pst J54 4 J2q)) Jo))
    (J3 (J1a (Jk J7z (pv 7) (pv 2) rfl) (J0 (J18 (J3w yI xE xF J1g (pv 2) (dZ (pv 7) J1)))
     (J3 (J18 (J3w yI xE xF J1g (pv 3) (dZ (pv 7) J1))))) Jo))))))))
  (J3 (Jd (J1y (dZ (pv 4) (dZ (pv 2) J1))))))))),?_}
 have hN:as.sum.toNat<sizeLine:=by omega
 show{_,rfl,(by change 1<=sizeLine;omega),fun L S=>?_};have s1:=J7 (o:=.lst [V.int x]) S;show{_,rfl,(by change 1<=sizeLine;omega),fun la N=>?_};have s2:=J7 (o:=.lst [V.int x]) N;have Y:=Same.free s1 N;have nl:L≠la:=fun e=>by rw[<- e,J2] at N;cases N
 have sf:∀{Hw:Hp} {o:HO},Same H Hw->Same H (upd Hw L o):=fun {Hw o} s b u e=>by rw[Jf (Ja e S)];show s _ _ e
 have sa:∀{Hw:Hp} {o:HO},Same H Hw->Same H (upd Hw la o):=fun {Hw o} s b u e=>by rw[Jf (Ja e Y)];show s _ _ e
 have few:∀{fs m w D},GI (tB as) (tB bs) x fs m w D->fs.length<=as.sum.toNat:=fun g=>Jhr g.nd fun y M=>B.in_ hx (g.rc y M);have aa:∀{fs m w D},GI (tB as) (tB bs) x fs m w D->m.length<=as.sum.toNat:=fun g=>Jhr g.ndA fun y M=>B.in_ hx (g.rc y (g.sub y M));show{IvW p L la x as bs H,
  {_,[x],[x],false,none,none,none,rfl,s2 _ _ J2,J2,s1.trans s2,{by simp,by simp,by simp,fun y M=>by rw[zF.mp M];show .refl,fun y M=>M,(fun z=>by cases z),fun y M n=>absurd M n},rfl},?_}
 rintro mu σ Hw ⟨fs,m,w,v5,v6,v7,rfl,hf,ha,sw,g,rfl⟩;show{_,rfl,la,_,rfl,.inl (SqL.of ha),_,_,rfl,rfl,_,rfl,?_};rw[J2i];rcases show m=[]\/∃l d,m=l++[d] by rcases List.eq_nil_or_concat m with e|⟨l,d,e⟩;show .inl e;show .inr {l,d,by rw[e,List.concat_eq_append]} with rfl|⟨m,d,rfl⟩
 .let{e1,e2}:=g.end_;show iteD (by simp) {_,rfl,_,rfl,(by change 2<=sizeLine;omega),fun q hq=>k q L fs w _ (sw.trans (J7 hq)) S J2 (J7 hq _ _ hf) g.nd e1 e2}
 let{g1,hd}:=g.pop;have ad:=B.in_ hx (g.rc d hd);have f0:=few g;show J31 (by simp) {_,fun σ' H' h=>h,?_};show{_,rfl,.inl {rfl,_,SqL.of ha},la,_,V.int d,rfl,rfl,ha,by simp[iV],?_};rw[show(iV (m++[d])).dropLast=iV m by simp[iV]];have ae:upd Hw la (.lst (iV m)) la=some (.lst (iV m)):=J2;have ac:upd Hw la (.lst (iV m)) L=some (.lst (iV fs)):=by rw[Jf nl];show hf
 have s3:=sa (o:=.lst (iV m)) sw;generalize upd Hw la (.lst (iV m))=H3 at *;show{_,rfl,p,rfl,{_,SqT.of (s3 _ _ hp)},J9h (K:=K) (a:=p) (xs:=[V.ref l1,V.ref l2])
  (IvF p L la x d as bs H (2*(as.sum.toNat-fs.length)+m.length))
  {fs,m,w,v6,v7,rfl,ac,ae,s3,g1,hd,fun z=>absurd z (wQ _),fun z=>absurd z (by decide),zD _} (fun i σ H' _ I=>SqT.of (I.same _ _ hp)) ?_ ?_}
 .rintro i v σ Hf R ⟨j,r,w',v6,v7,rfl,J,P,C,g',O,k1,k2,me⟩;obtain⟨l,xs,rfl,hl,gx,gs,ex,ho⟩:∃l xs,v=.ref l/\Hf l=some (.lst (iV xs))/\J6h xs/\xs.sum<=10^30/\xs.sum=as.sum/\(i=0/\xs=as\/i=1/\xs=bs):=by
   match i,R with
   | 0,R=>cases R;show{l1,as,rfl,C _ _ h1,G.a,G.le,rfl,.inl {rfl,rfl}}
   | 1,R=>cases R;show{l2,bs,rfl,C _ _ h2,G.b,G.eq▸G.le,G.eq.symm,.inr {rfl,rfl}}
   | i+2,R=>cases R
  show{_,rfl,_,rfl,l,xs,d,rfl,hl,gx,gs,by rw[ex];show ad,?_};have oo:tB xs d=tB as d\/tB xs d=tB bs d:=by rcases ho with⟨_,rfl⟩|⟨_,rfl⟩;show .inl rfl;show .inr rfl
  let{U,o1,o2}:=g'.put O oo;have fw:=few U;have ab:∀(w2:Bool),(w' || decide (tB xs d=d))=w2->(0<i+1->tB as d∈(if tB xs d∈j then j else j++[tB xs d])/\(tB as d=d->w2=true))/\(1<i+1->tB bs d∈(if tB xs d∈j then j else j++[tB xs d])/\(tB bs d=d->w2=true)):=fun w2 e=>by
   subst e;rcases ho with⟨rfl,rfl⟩|⟨rfl,rfl⟩
   .show{fun _=>{o1,fun e=>by simp[e]},fun z=>absurd z (by decide)}
   .show{fun _=>{o2 _ (k1 (by decide)).1,fun e=>by simp[(k1 (by decide)).2 e]},fun _=>{o1,fun e=>by simp[e]}}
  generalize tB xs d=o at *;show{fun σ' H'=>σ'=[some (.ref p),some (.int x),some (.ref L),some (.ref la),some (.str (wdS (w' || decide (o=d)))),some (.int d),some (.ref l),some (.int o)]/\Hf=H',?_,?_}
  .show{_,rfl,_,rfl,rfl,_,rfl,?_};show fork (fun c=>{by rw[zZ (V.int.inj c),Bool.or_true];rfl,rfl}) fun c=>{by rw[yD fun e=>c (zP V.int e),Bool.or_false];rfl,rfl}
  rintro σ _ ⟨rfl,rfl⟩;let{n1,n2}:=ab _ rfl;have W:(iV j).length=j.length:=zB ..;have X:(iV r).length=r.length:=zB ..;have ag:=few g';have af:=aa g';show{_,rfl,_,rfl,L,_,rfl,.inl (SqL.of J),rfl,Ju5 _,_,rfl,?_};rw[inV_iV];by_cases c:o∈j
  .rw[if_pos c] at U n1 n2;rw[if_pos c] at U;show J6d (by simp[c]) {j,r,_,_,_,rfl,J,P,C,U,O,n1,n2,me}
  .rw[if_neg c] at U n1 n2 fw;rw[if_neg c] at U;rw[zN] at fw;show J77 (by simp[c]) ?_;show{_,rfl,.inl {rfl,_,SqL.of J},_,rfl,L,_,_,rfl,rfl,J,by rw[W];show xB ag hN,?_};have Z:upd Hf L (.lst (iV j++[V.int o])) la=some (.lst (iV r)):=by rw[Jf (Ne.symm nl)];show P
   show{_,rfl,.inl {rfl,_,SqL.of Z},_,rfl,la,_,_,rfl,rfl,Z,by rw[X];show xB af hN,?_};show{j++[o],r++[o],_,_,_,rfl,?_,?_,sa (sf C),U,by simp[O],n1,n2,?_}
   .rw[Jf nl,J2];simp[iV]
   .rw[J2];simp[iV]
   .rw[zN,zN];show Ju0 fw me
 .rintro σ Hf ⟨j,r,w',v6,v7,rfl,J,P,C,g',O,k1,k2,me⟩;show{2*(as.sum.toNat-j.length)+r.length,by rw[zN];show Nat.lt_succ_of_le me,j,r,w',_,_,_,rfl,J,P,C,g'.done (k1 (by simp)) (k2 (by simp)),rfl}
end
section
variable [En]
structure KiAt(as bs:List Int)(H:Hp)(ks:List V)(ms:List Int):Prop where
 len:ks.length=ms.length
 at_:∀(i:Nat) (m:Int),ms[i]?=some m->∃q w,ks[i]?=some (.ref q)/\H q=some (.tup [.str (wdS w),.int (cn as.sum (Rc (tB as) (tB bs) m):Nat)])/\(w=true↔wayR (tB as) (tB bs) m)
theorem KiAt.kp{as bs:List Int}{H f:Hp}{ks:List V}{d:List Int}(h:KiAt as bs H ks d)(k:∀q xs,H q=some (.tup xs)->f q=some (.tup xs)):KiAt as bs f ks d:=
 {h.len,fun i m e=>by let{q,w,a,b,c}:=h.at_ i m e;show{q,w,a,k _ _ b,c}}
inductive Jcr(vs:List V)(H:Hp)(Q:VK)(E:XK):Prop
 | mk(p l1 f:Addr)(as bs:List Int)(_:vs=[.ref p,.int as.sum])(_:H p=some (.tup [.ref l1,.ref f]))(_:H l1=some (.lst (iV as)))(_:H f=some (.lst (iV bs)))(_:J39 as bs)(_:as.sum<=45)(_:∀q d e a c ks b,Same H b->b q=some (.tup [.ref d,.ref e])->b d=some (.lst (iV a))->b e=some (.lst ks)->CI (tB as) (tB bs) as.sum a c as.sum.toNat->KiAt as bs b ks c->Q (.ref q) b)
inductive IvC(p c d:Addr)(as bs:List Int)(H:Hp)(i:Nat)(σ:St)(Hw:Hp):Prop
 | mk(a b:List Int)(ks:List V)(g f e:Option V)(_:σ=[some (.ref p),some (.int as.sum),some (.ref c),some (.ref d),g,f,e])(_:Hw c=some (.lst (iV a)))(_:Hw d=some (.lst ks))(_:Same H Hw)(_:CI (tB as) (tB bs) as.sum a b i)(_:KiAt as bs Hw ks b)(_:ks.length<=i)
inductive IvN(p d g q:Addr)(as c fs:List Int)(L i:Nat)(H h:Hp)(t:Nat)(σ:St)(e:Hp):Prop
 | mk(a:List Int)(f:Option V)(_:σ=[some (.ref p),some (.int as.sum),some (.ref d),some (.ref g),some (.int (0+(i:Int))),some (.ref q),f])(_:e d=some (.lst (iV a)))(kp:∀b u,h b=some u->b≠d->e b=some u)(_:Same H e)(_:a.length=c.length)(_:∀y:Nat,y<as.sum.toNat->a.getD y 0=if (y:Int)∈fs.take t then (L:Int) else c.getD y 0)
theorem IvN.kp(I:IvN p ln lk q as nums fs L i H H4 t σ Hf):∀b u,H4 b=some u->b≠ln->Hf b=some u:=by cases I;assumption
theorem J41:FS1 ["drawn","size","numbers","kinds","x","told","dot"] J7d:=fsc
theorem set_iV(ns:List Int)(j:Nat)(v:Int):(iV ns).set j (.int v)=iV (ns.set j v):=(List.map_set ..).symm
theorem Jir(F:Fn1 J7d)(T:TxtR mg)(al:Ca1 2 Jdy Jjz):Ca1 3 J7d Jcr:=by
 show F.ok J41 (fun f d A o s H vs Q E hr h=>?_);let{p,l1,l2,as,bs,rfl,hp,h1,h2,G,le,k}:=h;have B:=G.tw;have sm:=Jq (n:=100) (by decide);have N0:0<as.sum:=by have:=(G.a.good G.le).pos_sum;lia
 show{_,(J0 (pst J41 2 (Jj Jh2 (J1z (dZ (Jd9 J7t J9) J1)) (pv 1)))
  (J0 (pst J41 3 (J1z J1))
  (J0 (J2h yH rfl (J6v rfl T.range (dZ (pv 1) J1)) (pgm J41 4)
   (J3 (J1a (Jk J95 (Js J3b (pv 2) (pv 4)) J9 (Jp _)) (J0 (pst J41 5 (pcl al hr Jg (dZ (pv 0) (dZ (pv 4) J1))))
    (J0 (J2h yH rfl (J1i (Js Jl (pv 5) J9)) (pgm J41 6)
     (J3 (Jao (pcb Jm T.len (pv 3)) (Jd8 (pv 2) (pv 6) J6p))))
    (J3 (J18 (J3w yI xE xF J1g (pv 3) (dZ (J1y (dZ (Js Jl (pv 5) J9) (dZ (pcb Jm T.len (Js Jl (pv 5) J9)) J1))) J1)))))) Jo)))
  (J3 (Jd (J1y (dZ (pv 2) (dZ (pv 3) J1)))))))),?_}
 show{_,rfl,(by change 1<=sizeLine;lia),fun l0 ai=>{_,rfl,l0,_,_,rfl,rfl,J2,(),(),(by change 1*as.sum.toNat<=sizeLine;lia),fun J ae=>?_}};have s1:=J7 (o:=.lst [V.int (-1)]) ai;have ad:=Same.free s1 ae;have s2:=s1.trans (J7 (o:=.lst (replicate as.sum.toNat [V.int (-1)]).flatten) ae);have e1:(replicate as.sum.toNat [V.int (-1)]).flatten=iV (replicate as.sum.toNat (-1)):=by
  change _=List.map _ _;rw[List.map_replicate];generalize as.sum.toNat=n
  induction n with
  | zero=>rfl
  | succ n ih=>rw[sH,List.flatten_cons,ih,sH];rfl
 show{zO _,fun L D=>?_};have ah:∀{o:HO},upd (upd (upd H l0 (.lst [V.int (-1)])) J (.lst (replicate as.sum.toNat [V.int (-1)]).flatten)) L o J=some (.lst (iV (replicate as.sum.toNat (-1)))):=fun {o}=>by
  rw[Jf (fun e=>by rw[<- e,J2] at D;cases D),J2,e1]
 have af:=Same.free s2 D;have nl:J≠L:=fun e=>by rw[<- e,J2] at D;cases D
 have s3:=s2.trans (J7 (o:=.lst []) D);have sn:∀{Hw:Hp} {o:HO},Same H Hw->Same H (upd Hw J o):=fun {Hw o} s b u e=>by rw[Jf (Ja e ad)];show s _ _ e
 have sk:∀{Hw:Hp} {o:HO},Same H Hw->Same H (upd Hw L o):=fun {Hw o} s b u e=>by rw[Jf (Ja e af)];show s _ _ e
 show{_,rfl,((as.sum.toNat:Nat):Int),(by rw[show((as.sum.toNat:Nat):Int)=as.sum by lia]),(),(),J9i (lo:=0) (n:=as.sum.toNat)
  (IvC p J L as bs H)
  {_,[],[],none,none,none,rfl,ah,J2,s3,CI.nil,{rfl,fun i m e=>by cases e},zD _} ?_ ?_}
 .rintro i σ Hw hi ⟨g,S,ks,v4,v5,v6,rfl,P,hk,R,ci,M,few⟩;have len:=ci.len;show{_,rfl,_,rfl,J,_,_,_,rfl,rfl,SqL.of P,(by rw[yZ];show Jc (J19 ())),_,_,rfl,rfl,_,rfl,?_};by_cases c:g.getD i 0<0
  case neg=>show iteD c {g,S,ks,_,_,_,rfl,P,hk,R,ci.skip hi c,M,()}
  show J31 c ?_;show{_,rfl,_,rfl,p,l1,l2,as,bs,(i:Int),(by rw[yZ];rfl),R _ _ hp,R _ _ h1,R _ _ h2,G,le,(),fun q l fs w H4 s4 lf O hl nd N iw=>?_};have ab:l≠J:=fun e=>by rw[e,P] at lf;cases lf
  have am:l≠L:=fun e=>by rw[e,hk] at lf;cases lf
  have X:∀y∈fs,0<=y/\y<as.sum:=fun y hy=>B.in_ () ((N y).mp hy);have fl:=Jhr nd X;show{_,rfl,q,_,_,_,rfl,rfl,SqT.of O,Jc (j:=1) rfl,l,rfl,{_,SqL.of hl},J2m (K:=K) (a:=l) (xs:=iV fs)
   (IvN p J L q as g fs S.length i H H4)
   {g,v6,rfl,s4 _ _ P,fun b u e _=>e,R.trans s4,rfl,fun y _=>by rw[List.take_zero,if_neg yS]} (fun t σ Hf _ I=>SqL.of (I.kp _ _ hl ab)) ?_ ?_}
  .rintro t v σ Hf hv ⟨C,v6,rfl,Z,W,sf,U,nu⟩;have ht:t<fs.length:=by have:=(gSm hv);rw[zB] at this;show this
   rw[J19 ht] at hv;cases hv;have hd:=X (fs.getD t 0) (by rw[zH,gEq ht];show xC ht);have tk:fs.take (t+1)=fs.take t++[fs.getD t 0]:=by rw[zH,gEq ht];show(vC ht).symm
   generalize fs.getD t 0=d at *;have ag:(iV C).length=C.length:=zB ..;obtain⟨dn,rfl⟩:∃dn:Nat,d=dn:={d.toNat,()};show{_,rfl,L,_,rfl,.inl (SqL.of (W _ _ (s4 _ _ hk) (Ne.symm nl))),_,rfl,_,rfl,J,_,_,dn,rfl,rfl,Z,Jfm (by rw[ag];lia),?_};rw[set_iV,M.len];show{_,_,rfl,J2,fun b u e ne=>by rw[Jf ne];show W _ _ e ne,sn sf,by rw[xH];show U,fun y hy=>?_};rw[tk,zH];by_cases e:y=dn
   .subst e;rw[List.getElem?_set_self (),if_pos (by simp)];rfl
   .rw[uI (Ne.symm e),<- zH,nu y hy];have:((y:Int)∈fs.take t++[(dn:Int)])↔(y:Int)∈fs.take t:=by simp;lia
    simp only[this]
  .rintro σ Hf ⟨C,v6,rfl,Z,W,sf,U,nu⟩;rw[show(iV fs).length=fs.length from zB ..,xS] at nu;have aa:=W _ _ (s4 _ _ hk) (Ne.symm nl);have ac:=W _ _ O (fun e=>by rw[e,s4 _ _ P] at O;cases O);have aj:=W _ _ hl ab;have ak:=ci.add B hi c U N nu;show{_,rfl,.inl {rfl,_,SqL.of aa},_,rfl,q,_,_,_,rfl,rfl,SqT.of ac,Jc (j:=0) rfl,_,rfl,q,_,_,_,rfl,rfl,SqT.of ac,Jc (j:=1) rfl,l,_,rfl,.inl (SqL.of aj),(by change 2<=sizeLine;lia),fun q2 Y=>?_};have s5:=J7 (o:=.tup [V.str (wdS w),V.int ((iV fs).length:Nat)]) Y;show{L,_,_,rfl,rfl,s5 _ _ aa,(),?_};show{C,S++[(i:Int)],ks++[.ref q2],_,_,_,rfl,?_,J2,sk (sf.trans s5),ak,{by rw[zN,zN,M.len];rfl,fun j m e=>?_},by rw[zN];change _+1<=_;lia}
   .rw[Jf nl];show s5 _ _ Z
   .by_cases hj:j<S.length
    .rw[yQ hj] at e;let{q3,w3,a1,a2,a3}:=M.at_ j m e;show{q3,w3,by rw[yQ (by rw[M.len];show hj)];show a1,?_,a3};rw[Jf (fun z=>by rw[z,hk] at a2;cases a2)];show s5 _ _ (W _ _ (s4 _ _ a2) fun z=>by rw[z,P] at a2;cases a2)
    .rw[yP ()] at e;have j0:j-S.length=0:=by
      have:=(gSm e);simp only[xD,List.length_nil] at this;lia
     rw[j0] at e;cases e;show{q2,w,by rw[yP (by rw[M.len];lia),M.len,j0];rfl,?_,iw};rw[Jf (fun z=>by rw[z,aa] at Y;cases Y),J2,show(iV fs).length=fs.length from zB ..,Jcc nd fun y=>{fun h=>{X y h,(N y).mp h},fun h=>(N y).mpr h.2}]
 .rintro σ Hw ⟨g,S,ks,v4,v5,v6,rfl,P,hk,R,ci,M,few⟩;show{_,rfl,_,rfl,(by change 2<=sizeLine;lia),fun q O=>k q J L g S ks _ (R.trans (J7 O)) J2 (J7 O _ _ P) (J7 O _ _ hk) ci (M.kp fun r xs e=>J7 O _ _ e)}
end
end R53
namespace L2
open PySem PySem.Spec PyProof.Rows
inductive Jt9(x:V)(vs:List V)(H:Hp)(Q:VK):Prop
 | mk(l:Addr)(ns:List Int)(n:Int)(_:x=.ref l)(_:vs=[.int n])(_:H l=some (.lst (ns.map V.int)))(_:Q (.int (ns.count n:Nat)) H)
theorem Je4(n:Int):∀{ns:List Int} {us:List Value},Vals (ns.map V.int) us->us.countP (eqU (.int n))=ns.count n
 | [],us,r=>by cases r;rfl
 | m::ns,us,r=>by
  cases r with
  | cons r1 r2 =>
   rw[List.countP_cons,Je4 n r2,Jn6 r1 rfl,List.count_cons];rfl
theorem Jmk(ns:List Int):(ns.map V.int).all J4q=true:=by
 rw[vH];intro v a;let{i,_,rfl}:=zW.mp a;rfl
theorem Jm0{X:Cx}:MtM X "list.count" Jt9:=by
 intro pins s σ H x vs v us Q I a b h;let{l,ns,n,rfl,rfl,g,q}:=h;cases a;let{u,rfl,c}:=b.one;let{z,its,d,r,j,e}:=I.lstM g;show wF PySem.F.slot_list_count {_,e,rfl} PySem.F.entry_list_count (PySem.F.args_list_count_2 _ _) (PySem.SeqAt.list_countAt l _ d none #[] u (eqU (.int n))) {e,fun y f=>J5t c rfl r (Jmk ns) y (by simpa using f),?_};have i:=Je4 n r;show{.int (ns.count n:Nat),H,I.tok _,{_,by rw[<- i]},q}
theorem pgb1{X:Cx}{x:Str}{d:Pos}{a:Scope}{cl:List (Str×Addr)}{caps:List Str}(c:(x::caps).Nodup)(f:a.names.lookup x=some .local:=by rfl)(C:Addr)(e:List Addr)(s:Shared)(H:Hp):
  PG (X.block (x::([]++caps)) a cl C e s H) (.Name x d) (J5e 0):=
 have b:(relabel a X.env).names.lookup x=some .local:=wY f
 J3v (X:=X.block (x::caps) a cl C e s H) (i:=0) (pos:=d) c rfl (.inl b) (.inr b)
end L2
namespace R53
open PySem L2 Rl En
section
variable [En]
structure PrAt(H:Hp)(ks:List V)(ps:List (Str×Int)):Prop where
 len:ks.length=ps.length
 at_:∀(i:Nat) (t:Str×Int),ps[i]?=some t->∃q,ks[i]?=some (.ref q)/\H q=some (.tup [.str t.1,.int t.2])
def szs(a:Str)(ps:List (Str×Int)):List Int:=(ps.filter fun p=>decide (p.1=a)).map (·.2)
def lsT(a:Str)(ps:List (Str×Int))(b:List Int):List (Str×Int×Int):=b.map fun d=>(a,d,((szs a ps).count d:Int))
structure DsOf(wd:Str)(ps:List (Str×Int))(ds:List Int):Prop where
 inc:ds.Pairwise (· < ·)
 all:∀d,d∈ds↔d∈szs wd ps
inductive LI(ps:List (Str×Int))(T:List (Str×Int×Int)):Nat->Prop
 | z (h:T=[]):LI ps T 0
 | o (dl:List Int) (h:DsOf "loop" ps dl) (e:T=lsT "loop" ps dl):LI ps T 1
 | t (dl dw:List Int) (h:DsOf "loop" ps dl) (h2:DsOf "way" ps dw) (e:T=lsT "loop" ps dl++lsT "way" ps dw):LI ps T 2
theorem TrAt.kp{H c:Hp}{ys:List V}{ts:List (Str×Int×Int)}(h:TrAt H ys ts)(k:∀q xs,H q=some (.tup xs)->c q=some (.tup xs)):TrAt c ys ts:={h.len,fun i t e=>by let{q,a,b}:=h.at_ i t e;show{q,a,k _ _ b}}
theorem TrAt.snoc{H a:Hp}{ys:List V}{ts:List (Str×Int×Int)}{t:Str×Int×Int}{q:Addr}(h:TrAt H ys ts)(k:∀q xs,H q=some (.tup xs)->a q=some (.tup xs))(b:a q=some (.tup [.str t.1,.int t.2.1,.int t.2.2])):TrAt a (ys++[.ref q]) (ts++[t]):=
 (h.kp k).append {rfl,fun i t' e=>by
  match i,e with
  | 0,e=>cases e;show{q,rfl,b}
  | i+1,e=>cases e}
inductive Jgj(vs:List V)(H:Hp)(Q:VK)(E:XK):Prop
 | mk(c:Addr)(ks:List V)(ps:List (Str×Int))(_:vs=[.ref c])(_:H c=some (.lst ks))(_:PrAt H ks ps)(_:ps.length<=45)(_:∀l b e d a,Same H a->a l=some (.lst b)->TrAt a b (lsT "loop" ps e++lsT "way" ps d)->DsOf "loop" ps e->DsOf "way" ps d->Q (.ref l) a)
inductive IvL(g c:Addr)(ps:List (Str×Int))(h:Hp)(i:Nat)(σ:St)(Hw:Hp):Prop
 | mk(a:List V)(T:_)(f e d:Option V)(_:σ=[some (.ref g),some (.ref c),f,e,d])(_:Hw c=some (.lst a))(_:TrAt Hw a T)(kp:∀b u,h b=some u->b≠c->Hw b=some u)(_:LI ps T i)(_:a.length<=45*i)
theorem IvL.kp(I:IvL lk ld ps H2 i σ Hw):∀b u,H2 b=some u->b≠ld->Hw b=some u:=by cases I;assumption
inductive IvM(h c d:Addr)(f:Str)(ps:List (Str×Int))(ns:List Int)(i:List (Str×Int×Int))(N:Nat)(j:Hp)(t:Nat)(σ:St)(e:Hp):Prop
 | mk(a:List V)(g:Option V)(_:σ=[some (.ref h),some (.ref c),some (.str f),some (.ref d),g])(_:e c=some (.lst a))(_:TrAt e a (i++lsT f ps (ns.take t)))(kp:∀b u,j b=some u->b≠c->e b=some u)(_:a.length<=N+t)
theorem IvM.kp(I:IvM lk ld d wd ps ns Tt N H4 t σ Hf):∀b u,H4 b=some u->b≠ld->Hf b=some u:=by cases I;assumption
theorem J6r:FS1 ["kinds","due","kind","sizes","many"] J9x:=fsc
theorem Jlg(F:Fn1 J9x)(D:mg "sorted"=none)(Y:mg "set"=none):Ca1 1 J9x Jgj:=by
 show F.ok J6r (fun f d A o s H vs Q E hr h=>?_);let{lk,ks,ps,rfl,hk,pr,few,k}:=h;have sm:=Jq (n:=500) (by decide);show{_,(J0 (pst J6r 1 (J1z J1))
  (J0 (J2h yH rfl (J1i (J1z (dZ J2q (dZ J2q J1)))) (pgm J6r 2)
   (J0 (Jrp (i:=3) (x:="pair") (xr:=[]) (caps:=["kind"]) (js:=[2]) J6r.nd rfl (Or.inl rfl) rfl (J1i (pv 0)) (pgb1 (by decide +kernel)) rfl (fun _ _ _ _=>J56 (Jk J44 (J65 (J5d K) (pv 0) J9) (pv 1) (Jp _))) (fun C fp s H=>(J65 (J5d K) (pv 0) J9)))
   (J3 (J2h yH rfl (J1i (Jtb rfl rfl D rfl Y (dZ (pv 3) J1))) (pgm J6r 4)
    (J3 (J18 (J3w yI xE xF J1g (pv 1) (dZ (J1y (dZ (pv 2) (dZ (pv 4) (dZ (J3w yI PySem.F.slot_list_count PySem.F.type_list_count Jm0 (pv 3) (dZ (pv 4) J1)) J1)))) J1))))))))
  (J3 (Jd (pv 1))))),?_}
 show{zO _,fun m J=>?_};have s1:=J7 (o:=.lst []) J;show{(by change 2<=sizeLine;omega),fun T ak=>?_};have s2:=J7 (o:=.lst [V.str "loop",V.str "way"]) ak;have ac:=s2 _ _ (show upd H m (.lst []) m=some (.lst []) from J2);have L:upd (upd H m (.lst [])) T (.lst [V.str "loop",V.str "way"]) T=some (.lst [V.str "loop",V.str "way"]):=J2;have P:=s1.trans s2;generalize upd (upd H m (.lst [])) T (.lst [V.str "loop",V.str "way"])=H2 at *;have ag:T≠m:=fun e=>by rw[e,ac] at L;cases L
 have af:lk≠m:=fun e=>by rw[e,J] at hk;cases hk
 show{T,rfl,{_,SqL.of L},J2m (K:=K) (a:=T) (xs:=[V.str "loop",V.str "way"])
  (IvL lk m ps H2)
  {[],[],none,none,none,rfl,ac,{rfl,fun i t e=>by cases e},fun b u e _=>e,.z rfl,zD _} (fun i σ Hw _ I=>SqL.of (I.kp _ _ L ag)) ?_ ?_}
 .rintro i v σ Hw w ⟨zs,Tt,v2,v3,v4,rfl,W,tr,kp,li,lz⟩;have i2:i<2:=(gSm w);obtain⟨g,rfl,fin⟩:∃g:Str,v=.str g/\∀N,DsOf g ps N->LI ps (Tt++lsT g ps N) (i+1):=by
   match i,w,li with
   | 0,w,.z e=>cases w;show{"loop",rfl,fun N h=>.o N h (by rw[e];rfl)}
   | 1,w,.o dl h e=>cases w;show{"way",rfl,fun N h2=>.t dl N h h2 (by rw[e])}
   | i+2,w,_=>cases w
  have aa:=kp _ _ (P _ _ hk) af;have dz:(Str×Int):=("",0);have tup:∀{q xs},H q=some (.tup xs)->Hw q=some (.tup xs):=fun {q xs} e=>kp _ _ (P _ _ e) fun z=>by rw[z,J] at e;cases e
  show{_,rfl,lk,rfl,{_,SqL.of aa},fun d hd=>Jm8 ks (fun i=>decide ((ps.getD i dz).1=g)) (fun i H y=>y=.int (ps.getD i dz).2) (SqL.of aa) (by rw[pr.len];omega) hd (fun i y H H' zs kp W e=>e) ?_ ?_}
  .intro i v ev H3 ou K1 K2 s3 aj k1 k2;have hi:i<ps.length:=by rw[<- pr.len];show(gSm ev)
   let{q,eq,M}:=pr.at_ i (ps.getD i dz) (by rw[zH,gEq hi];rfl);obtain rfl:v=.ref q:=zV (ev.symm.trans eq);have M:=SqT.of (K:=K) (s3 _ _ (tup M))
   match ou,aj with
   | [o1],_ =>
    show{[_],rfl,rfl,_,rfl,q,_,_,_,rfl,rfl,M,Jc (j:=0) rfl,_,rfl,rfl,_,rfl,?_};show fork (fun c=>{_,rfl,q,_,_,_,rfl,rfl,M,Jc (j:=1) rfl,k1 (zZ (V.str.inj c)) _ _ (Same.refl _) rfl}) fun c=>k2 (yD fun e=>c (zP V.str e)) _ (Same.refl _)
  intro us H3 s3 S al;have e0:us=iV (szs g ps):=by
   rw[al_eq al,pr.len];unfold szs;rw[<- J79 dz ps fun p=>decide (p.1=g),yX];show(yX ..).symm
  rw[e0] at S;have ah:(szs g ps).length<=45:=by unfold szs;rw[zB];show zM (wG _ _) few
  show{_,rfl,d,szs g ps,rfl,SqL.of S,by omega,fun U ns R inc mem=>?_};have s4:=J7 (o:=.lst (iV ns)) R;have N:DsOf g ps ns:={inc,mem};have nd:d≠m:=fun e=>by rw[e,W] at hd;cases hd
  have Z:upd H3 U (.lst (iV ns)) U=some (.lst (iV ns)):=J2;have am:=s4 _ _ S;have O:=s3.trans s4;have ai:=O _ _ W;have ad:=tr.same O;have an:ns.length<=45:=zM (J6y (inc.imp fun h e=>by omega) fun x hx=>(mem x).mp hx) ah;have ae:U≠m:=fun e=>by rw[e,s3 _ _ W] at R;cases R
  generalize upd H3 U (.lst (iV ns))=H4 at *;show{U,rfl,{_,SqL.of Z},J2m (K:=K) (a:=U) (xs:=iV ns)
   (IvM lk m d g ps ns Tt (45*i) H4)
   {zs,v4,rfl,ai,by rw[List.take_zero];change TrAt _ _ (Tt++[]);rw[yM];show ad,fun b u e _=>e,lz} (fun t σ Hf _ I=>SqL.of (I.kp _ _ Z ae)) ?_ ?_}
  .rintro t v σ Hf w ⟨G,v4,rfl,l,B,kf,X⟩;have ht:t<ns.length:=by have:=(gSm w);rw[zB] at this;show this
   rw[J19 ht] at w;cases w;have ab:=kf _ _ am nd;have tk:ns.take (t+1)=ns.take t++[ns.getD t 0]:=by rw[zH,gEq ht];show(vC ht).symm
   show{_,rfl,.inl {rfl,_,SqL.of l},_,rfl,_,rfl,_,rfl,.inl {rfl,_,SqL.of ab},_,rfl,d,szs g ps,ns.getD t 0,rfl,rfl,ab,(by change 3<=sizeLine;omega),fun q M=>?_};have s5:=J7 (o:=.tup [V.str g,V.int (ns.getD t 0),V.int ((szs g ps).count (ns.getD t 0):Nat)]) M;show{m,_,_,rfl,rfl,s5 _ _ l,by omega,?_};show{G++[.ref q],_,rfl,J2,?_,fun b u e ne=>by rw[Jf ne];show s5 _ _ (kf _ _ e ne),by rw[zN];change _+1<=_;omega};rw[tk];unfold lsT;rw[yE,<- vS];show(show TrAt Hf G _ from B).snoc (fun r xs e=>?_) ?_
   .rw[Jf (fun z=>by rw[z,l] at e;cases e)];show s5 _ _ e
   .rw[Jf (fun z=>by rw[z,l] at M;cases M),J2]
  .rintro σ Hf ⟨G,v4,rfl,l,B,kf,X⟩;rw[show(iV ns).length=ns.length from zB ..] at B X;rw[xS] at B;show{G,_,_,_,_,rfl,l,B,fun b u e ne=>kf _ _ (O _ _ (kp _ _ e ne)) ne,fin ns N,by omega}
 .rintro σ Hw ⟨zs,Tt,v2,v3,v4,rfl,W,tr,kp,li,lz⟩
  match li with
  | .t dl dw h1 h2 e =>
   subst e;show{_,rfl,k m zs dl dw _ (fun b u e=>kp _ _ (P _ _ e) (Ja e J)) W tr h1 h2}
end
section
variable [En]{as bs:List Int}{cb:List Band}{ms:List Int}
noncomputable abbrev prS(as bs:List Int)(m:Int):Str×Int:=(stW as bs m,stN as bs m)
theorem Jen:stW as bs x="way"↔way (tB as) (fA as bs) x:=by
 unfold stW;by_cases w:way (tB as) (fA as bs) x
 .rw[if_pos w];show{fun _=>w,fun _=>rfl}
 .rw[if_neg w];show{fun e=>absurd e (by decide +kernel),fun h=>absurd h w}
theorem J8a:stW as bs x="loop"↔¬ way (tB as) (fA as bs) x:=by
 unfold stW;by_cases w:way (tB as) (fA as bs) x
 .rw[if_pos w];show{fun e=>absurd e (by decide +kernel),fun h=>absurd w h}
 .rw[if_neg w];show{fun _=>w,fun _=>rfl}
theorem ki_pr(G:J39 as bs)(S:Sys (fA as bs) as.sum cb)(f:∀m∈ms,0<=m/\m<as.sum)(h:KiAt as bs H ks ms):PrAt H ks (ms.map (prS as bs)):=by
 have T:=G.two;have W:=G.tw;show{by rw[h.len,zB],fun i t e=>?_};rw[zY] at e
 cases e2:ms[i]? with
 | none=>rw[e2] at e;cases e
 | some m =>
  rw[e2] at e;cases e;let{q,w,a,b,c}:=h.at_ i m e2;have d:=f m (wU e2);rw[T.wayR_iff S d W] at c;rw[J4t (q:=tog (tB as) (fA as bs) m) fun y _ _=>T.rc_iff S d W] at b;show{q,a,b.trans ?_};have n:=T.cn_tog S d;unfold prS stW stN
  cases w with
  | true=>rw[if_pos (c.mp rfl),if_pos (c.mp rfl),n.1 (c.mp rfl)];rfl
  | false =>
   have c:¬ way (tB as) (fA as bs) m:=fun z=>nomatch c.mpr z;rw[if_neg c,if_neg c,n.2 c,tI];rfl
theorem ci_tv(G:J39 as bs)(S:Sys (fA as bs) as.sum cb)(C:CI (tB as) (tB bs) as.sum nums ms as.sum.toNat):Tv (tB as) (fA as bs) as.sum ms:=by
 have T:=G.two;have W:=G.tw;show{C.in_,C.ne.imp_of_mem fun {m n} a c h t=>h ((T.rc_iff S (C.in_ m a) W).mpr t),fun y b=>?_};let{m,a,r}:=C.done y.toNat (by omega);rw[show((y.toNat:Nat):Int)=y by omega] at r;show{m,a,(T.rc_iff S (C.in_ m a) W).mp r}
theorem Ja6(g:Int->Str×Int)(c:Str)(d:Int):∀e:List Int,(szs c (e.map g)).count d=(e.filter fun m=>decide ((g m).1=c/\(g m).2=d)).length
 | []=>rfl
 | m::e=>by
  have f:=Ja6 g c d e;unfold szs at f ⊢;rw[zL,yV,yV];by_cases a:(g m).1=c
  .by_cases b:(g m).2=d
   .simp[a,b,f]
   .simp[a,b,f]
  .simp[a,f]
theorem Jfw(G:J39 as bs)(S:Sys (fA as bs) as.sum cb)(V:Tv (tB as) (fA as bs) as.sum ms)(L:Nat):(szs "way" (ms.map (prS as bs))).count (L:Int)=cn as.sum (fun x=>way (tB as) (fA as bs) x/\rOf (fA as bs) x=L/\mn (fA as bs) x):=by
 rw[Ja6,<- G.two.tv_way S V fun r=>r=L]
 congr 1
 show tV fun m _=>?_;rw[tW,Jen];show and_congr_right fun w=>?_;change stN as bs m=_↔_;unfold stN;rw[if_pos w];omega
theorem Jcb(G:J39 as bs)(S:Sys (fA as bs) as.sum cb)(V:Tv (tB as) (fA as bs) as.sum ms)(L:Nat):2*(szs "loop" (ms.map (prS as bs))).count (2*(L:Int))=cn as.sum (fun x=>¬ way (tB as) (fA as bs) x/\rOf (fA as bs) x=L/\mn (fA as bs) x):=by
 rw[Ja6,<- G.two.tv_loop S V fun r=>r=L]
 congr 2
 show tV fun m _=>?_;rw[tW,J8a];show and_congr_right fun w=>?_;change stN as bs m=_↔_;unfold stN;rw[if_neg w];omega
theorem Jc4:∀{l k:List Int},l.Pairwise (· < ·)->k.Pairwise (· < ·)->(∀x,x∈l↔x∈k)->l=k
 | [],[],_,_,_=>rfl
 | [],b::k,_,_,h=>absurd ((h b).mpr zJ) yS
 | a::l,[],_,_,h=>absurd ((h a).mp zJ) yS
 | a::l,b::k,hl,hk,h=>by
  rw[vY] at hl hk;have e:a=b:=by
   have d:=(h a).mp zJ;have c:=(h b).mpr zJ;rcases zI.mp d with q|q
   .show q
   .rcases zI.mp c with r|r
    .show r.symm
    .have:=hl.1 _ r;have:=hk.1 _ q;omega
  subst e;rw[Jc4 hl.2 hk.2 fun x=>{fun q=>(zI.mp ((h x).mp (zK _ q))).resolve_left fun z=>by have:=hl.1 _ q;omega,fun q=>(zI.mp ((h x).mpr (zK _ q))).resolve_left fun z=>by have:=hk.1 _ q;omega}]
theorem J4o(G:J39 as bs)(S:Sys (fA as bs) as.sum cb)(L:Nat)(e:1<=L):cntL (J32 as bs) L=2*cn as.sum (fun y=>way (tB as) (fA as bs) y/\rOf (fA as bs) y=L/\mn (fA as bs) y)/\J72 as bs cb L=cn as.sum (fun y=>¬ way (tB as) (fA as bs) y/\rOf (fA as bs) y=L/\mn (fA as bs) y):=by
 have d:=(G.a.good G.le).ord;have c:=(G.b.good (by rw[<- G.eq];show G.le)).ord;have f:cntL (J32 as bs) L=2*cn as.sum (fun y=>way (tB as) (fA as bs) y/\rOf (fA as bs) y=L/\mn (fA as bs) y):=by
  unfold J32;rw[yE,Jfx,Jhw (N:=as.sum) (Jat d G.a.getD) (fun x=>J7n d G.a.getD),Jhw (N:=as.sum) (Jat c G.b.getD) (fun x=>by rw[G.eq];show J7n c G.b.getD)];have:=G.two.ends S L;omega
 show{f,?_};have:=S.num_c e;rw[Jhx (way (tB as) (fA as bs)),J4t fun x _ _=>and_comm,J4t (p:=fun y=>_/\¬ _) fun x _ _=>and_comm] at this;unfold J72;omega
theorem Jdg(G:J39 as bs)(f:KrOk as bs cb kr)(i:KwOk as bs kw)(V:Tv (tB as) (fA as bs) as.sum ms)(A:DsOf "loop" (ms.map (prS as bs)) dl)(hw:DsOf "way" (ms.map (prS as bs)) dw):strT as bs cb kr kw=lsT "loop" (ms.map (prS as bs)) dl++lsT "way" (ms.map (prS as bs)) dw:=by
 have S:Sys (fA as bs) as.sum cb:=f.sys;have y:∀L∈kw,1<=L:=fun L h=>by
  let{p,o,rfl}:=i.has L h;let{x,C,rfl}:=zW.mp o;have in_:0<=x/\x<as.sum:=by
   rcases yF.mp C with q|q
   .show((J7n (G.a.good G.le).ord G.a.getD).mp q).1
   .rw[G.eq];show((J7n (G.b.good (by rw[<- G.eq];show G.le)).ord G.b.getD).mp q).1
  have:=(S.has in_).pos;change 1<=((rOf (fA as bs) x:Nat):Int);omega
 have l:∀p∈J32 as bs,p.2=1:=fun p o=>by let{x,_,rfl}:=zW.mp o;rfl
 have stp:∀m∈ms,∀d,stN as bs m=d->1<=d:=fun m j d e=>by
  have:=(S.has (V.in_ m j)).pos;unfold stN at e;by_cases w:way (tB as) (fA as bs) m
  .rw[if_pos w] at e;omega
  .rw[if_neg w] at e;omega
 have F:dw=kw:=Jc4 hw.inc i.inc fun L=>by
  rw[hw.all,<- List.count_pos_iff];constructor
  .intro h;have s:=h;rw[Ja6] at s;let{m,j}:=sY s;let{j,d}:=zX.mp j;have v:=stp m j L (xY d).2;obtain⟨n,rfl⟩:∃n:Nat,L=n:={L.toNat,by omega};rw[Jfw G S V] at h;have:=(J4o G S n (by omega)).1;show xN fun z=>by
    rw[Ja7 fun p o e=>z (by have:=i.all p o;rw[e] at this;show this)] at this;omega
  .intro h;have v:=y L h;let{p,o,e}:=i.has L h;have g:=Js4 (fun q D=>by rw[l q D];decide) o;rw[l p o,e] at g;obtain⟨n,rfl⟩:∃n:Nat,L=n:={L.toNat,by omega};rw[Jfw G S V];have:=(J4o G S n (by omega)).1;omega
 have H:dl=(kr.filter fun L=>decide (0<J72 as bs cb L)).map (2 * ·):=Jc4 A.inc (yY.mpr ((f.inc.filter _).imp fun h=>by omega)) fun d=>by
  rw[A.all,<- List.count_pos_iff,zW];constructor
  .intro h;have s:=h;rw[Ja6] at s;let{m,j}:=sY s;let{j,I}:=zX.mp j;let{J,u}:=xY I;have w:=J8a.mp J;have u:stN as bs m=d:=u;unfold stN at u;rw[if_neg w] at u;have p:=(S.has (V.in_ m j)).pos;subst u;rw[show(2*((rOf (fA as bs) m:Nat):Int))=2*((rOf (fA as bs) m:Nat):Int) from rfl] at h;have c:=Jcb G S V (rOf (fA as bs) m);have:=(J4o G S (rOf (fA as bs) m) p).2;show{_,zX.mpr {f.all _ ?_,zZ (by omega)},rfl};have K:=(J4o G S (rOf (fA as bs) m) p).1;unfold J72 at this;omega
  .rintro⟨L,r,rfl⟩;let{E,B}:=zX.mp r;have B:=xY B;have v:=f.pos L E;obtain⟨n,rfl⟩:∃n:Nat,L=n:={L.toNat,by omega};have c:=Jcb G S V n;have:=(J4o G S n (by omega)).2;omega
 unfold strT lsT;rw[F,H,yX]
 congr 1
 .show wO fun L r=>?_;have v:=f.pos L (zX.mp r).1;obtain⟨n,rfl⟩:∃n:Nat,L=n:={L.toNat,by omega};have c:=Jcb G S V n;have:=(J4o G S n (by omega)).2;show zP (fun z:Int=>(("loop":Str),2*(n:Int),z)) (show J72 as bs cb n/2=(((szs "loop" (ms.map (prS as bs))).count (2*(n:Int)):Nat):Int) from ?_);omega
 .show wO fun L r=>?_;have v:=y L r;obtain⟨n,rfl⟩:∃n:Nat,L=n:={L.toNat,by omega};have c:=Jfw G S V n;have:=(J4o G S n (by omega)).1;show zP (fun z:Int=>(("way":Str),(n:Int),z)) (show cntL (J32 as bs) n/2=(((szs "way" (ms.map (prS as bs))).count (n:Int):Nat):Int) from ?_);omega
theorem J8t:∀{a:List Int},a.Nodup->∀l:List Int,(∀x∈l,x∈a)->(a.map fun d=>(l.count d:Int)).sum=l.length
 | a,nd,[],_=>by
  clear nd
  induction a with
  | nil=>rfl
  | cons d a b=>rw[zL,zU];simpa using b
 | a,nd,x::l,h=>by
  have b:=J8t nd l fun y f=>h y (zK _ f);have c:=h x zJ;rw[xD,uZ,<- b];clear b h
  induction a with
  | nil=>cases c
  | cons d a jh =>
   rw[yN] at nd;rw[zL,zL,zU,zU];by_cases e:x=d
   .subst e;rw[wO (l:=a) (g:=fun d=>(l.count d:Int)) fun d hd=>by rw[List.count_cons_of_ne fun z:x=d=>nd.1 (by rw[z];show hd)],List.count_cons_self];omega
   .rw[jh nd.2 ((zI.mp c).resolve_left e),List.count_cons_of_ne e];omega
theorem Jsc(a:List Int):(szs "loop" (a.map (prS as bs))).length+(szs "way" (a.map (prS as bs))).length=a.length:=by
 induction a with
 | nil=>rfl
 | cons m a ih =>
  unfold szs at ih ⊢;rw[zL,yV,yV,xD];by_cases w:way (tB as) (fA as bs) m
  .rw[if_neg (by simpa using fun z=>J8a.mp z w),if_pos (by simpa using Jen.mpr w),zL,xD];omega
  .rw[if_pos (by simpa using J8a.mpr w),if_neg (by simpa using fun z=>w (Jen.mp z)),zL,xD];omega
theorem Jm1(ps:List (Str×Int)){d c:List Int}(f:DsOf "loop" ps d)(hw:DsOf "way" ps c):(((lsT "loop" ps d++lsT "way" ps c).filter fun t=>decide (t.1=("loop":Str))).map fun t=>t.2.2).sum=(szs "loop" ps).length/\(((lsT "loop" ps d++lsT "way" ps c).filter fun t=>decide (t.1=("way":Str))).map fun t=>t.2.2).sum=(szs "way" ps).length:=by
 have a:¬ ("way":Str)="loop":=by decide +kernel
 have b:¬ ("loop":Str)="way":=by decide +kernel
 have i:=J8t (f.inc.imp fun h e=>by omega) (szs "loop" ps) fun x h=>(f.all x).mpr h;have g:=J8t (hw.inc.imp fun h e=>by omega) (szs "way" ps) fun x h=>(hw.all x).mpr h;constructor
 .rw[<- i];simp[lsT,xX,List.filter_map,Function.comp_def,a,tO.mpr,List.filter_eq_nil_iff.mpr]
 .rw[<- g];simp[lsT,xX,List.filter_map,Function.comp_def,b,tO.mpr,List.filter_eq_nil_iff.mpr]
end
section
variable [En]
inductive Jcn(vs:List V)(H:Hp)(Q:VK)(E:XK):Prop
 | mk(l:Addr)(a:List V)(ts:List (Str×Int×Int))(_:vs=[.ref l])(_:H l=some (.lst a))(_:TrAt H a ts)(_:Q (.bl true) H)
theorem Jcy:FS1 ["found","row"] J7a:=fsc
theorem Jil(F:Fn1 J7a)(T:TxtR mg)(c:TxtL K mg)(u:Ca1 1 Jax Jep):Ca1 2 J7a Jcn:=by
 show F.ok Jcy (fun f d A o s H vs Q E r h=>?_);let{l,w,ts,rfl,m,n,k}:=h;show{_,(J0 (J1a (J43 (J25 (J1d (J2d rfl) (by rfl) c.isi vM (dZ (pv 0) (dZ (J5a (v:=.ty "list") rfl T.list boot_list rfl) J1))))) (J3 (Jd J4j)) Jo)
  (J0 (J2h yH rfl (J1i (pv 0)) (pgm Jcy 1)
   (J0 (J1a (PW.pt (J88 (J43 (J25 (J1d (J2d rfl) (by rfl) c.isi vM (dZ (pv 1) (dZ (J5a (v:=.ty "tuple") rfl T.tuple boot_tuple rfl) J1))))) (J88 (Jk J6w (pcb Jm T.len (pv 1)) J9 (Jp _)) (J7u (J43 (J25 (J1d (J2d rfl) (by rfl) c.isi vM (dZ (Js Jl (pv 1) J9) (dZ (J5a (v:=.ty "str") rfl c.str PyProof.Rows.boot_str rfl) J1))))))))) (J3 (Jd J4j)) Jo)
   (J3 (J1a (PW.pt (J88 (J43 (J25 (pcl u r Jg (dZ (Js Jl (pv 1) J9) J1)))) (J7u (J43 (J25 (pcl u r Jg (dZ (Js Jl (pv 1) J9) J1))))))) (J3 (Jd J4j)) Jo))))
  (J3 (Jd J4j)))),?_}
 show{_,rfl,_,.ty "list",.type "list",.type "list",true,rfl,rfl,fun v h=>h,.lst m,rfl,true,rfl,iteF ?_};show{_,rfl,l,rfl,{_,SqL.of m},J2m (K:=K) (a:=l) (xs:=w) (fun i σ Hw=>∃g,σ=[some (.ref l),g]/\H=Hw) {none,rfl,rfl} (fun i σ Hw _ ⟨_,_,e⟩=>e▸SqL.of m) ?_ ?_}
 .rintro i v σ _ p ⟨g,rfl,rfl⟩;have hi:i<ts.length:=by rw[<- n.len];show(gSm p)
  let{q,eq,b}:=n.at_ i ts[i] (gEq hi);obtain rfl:v=.ref q:=zV (p.symm.trans eq);show{_,rfl,_,.ty "tuple",.type "tuple",.type "tuple",true,rfl,rfl,fun v h=>h,.tup b,rfl,true,rfl,iteF ?_};show{_,rfl,q,_,rfl,.inr (SqT.of b),rfl,_,rfl,J6d (by simp) ?_};show{_,rfl,q,_,_,_,rfl,rfl,SqT.of b,Jc (j:=0) rfl,_,.ty "str",.type "str",.type "str",true,rfl,rfl,fun v h=>h,.str _,rfl,true,rfl,iteF ?_};show{_,rfl,q,_,_,_,rfl,rfl,SqT.of b,Jc (j:=1) rfl,_,rfl,_,rfl,iteF ?_};show{_,rfl,q,_,_,_,rfl,rfl,SqT.of b,Jc (j:=2) rfl,_,rfl,_,rfl,iteF {_,rfl,rfl}}
 .rintro σ _ ⟨g,rfl,rfl⟩;show k
end
section
variable [En]
inductive Jo6(K:Frag)(TB TJ:Addr)(vs:List V)(H:Hp)(Q:VK)(E:XK):Prop
 | mk(a:Addr)(ns:List Int)(_:vs=[.ref a])(_:SqL K H a (ns.map V.int))(_:ns.length<=63)(_:J2a H TB lpLO "line_of.<locals>.<lambda>")(_:J2a H TJ lpJS "joined_stretches.<locals>.<lambda>")(_:∀b,Q (.bl true) b)
theorem J3o.st{H f:Hp}{x c CX:Addr}(d:H x=none)(a:H c=none)(k:J3o x (L2.upd (L2.upd H c (.own x)) x (.ins CX c [])) f):J3i H f:=fun b u e t=>k b u (by rw[Jf (Ja e d),Jf (Ja e a)];show e) (Ja e d) t
theorem st_seq{K:Frag}{H b:Hp}{a:Addr}{xs:List V}(e:J3i H b)(h:SqL K H a xs):SqL K b a xs:=by
 rcases h with(h|⟨o,h⟩)|h
 .show .inl (.inl (e _ _ h rfl))
 .show .inl (.inr {o,e _ _ h rfl})
 .show .inr h
theorem Jo1{as bs:List Int}{b:List Band}(G:J39 as bs)(S:Sys (fA as bs) as.sum b){x y:Int}(a:0<=x/\x<as.sum)(h:tog (tB as) (fA as bs) x y):strV as bs y=strV as bs x:=by
 let{e,i}:=G.two.same S a h;unfold strV stW stN;rw[e,propext i]
theorem tr_alk{K:Frag}{H:Hp}{ys c:List V}{ts:List (Str×Int×Int)}(a:TrAt H ys ts)(b:TrAt H c ts):AlkL K H ys c:=by
 show{by rw[a.len,b.len],fun j u v e l=>?_};have d:j<ts.length:=by rw[<- a.len];show(gSm e)
 let{q,i,g}:=a.at_ j _ (gEq d);let{r,h,f}:=b.at_ j _ (gEq d);show .inr {q,r,_,zV (e.symm.trans i),zV (l.symm.trans h),SqT.of g,SqT.of f,rfl}
theorem ci_at{a b:Int->Int}{N x:Int}{c d:List Int}(C:CI a b N c d N.toNat)(g:0<=x/\x<N):∃(j:Nat) (m:Int),d[j]?=some m/\Rc a b m x/\atI (iV c) x=some (.int j):=by
 obtain⟨n,rfl⟩:∃n:Nat,x=n:={x.toNat,()};have len:=C.len;have e:atI (iV c) (n:Int)=some (.int (c.getD n 0)):=Jc (J19 ());rcases C.num n () with⟨j,m,h1,h2,h3⟩|⟨h1,_⟩
 .show{j,m,h1,h2,by rw[e,h3]}
 .let{m,f,r}:=C.done n ();show absurd r (h1 m f)
theorem ci_one{a b:Int->Int}{N x y:Int}{c d:List Int}{j i:Nat}{m n:Int}(C:CI a b N c d N.toNat)(W:Tw a b N)(e:d[j]?=some m)(hi:d[i]?=some n)(g:Rc a b m x)(f:Rc a b n y):j=i↔Rc a b x y:=by
 have q:=C.in_ m (wU e);have s:=C.in_ n (wU hi);constructor
 .rintro rfl;rw[e] at hi;cases hi;show(W.symm q g).trans f
 .intro r;have t:Rc a b m n:=(g.trans r).trans (W.symm s f);let{l,rfl}:=wP.mp e;let{o,rfl}:=wP.mp hi;have p:=sQ.mp C.ne;rcases uS j i with h|h|h
  .show absurd t (p j i l o h)
  .show h
  .show absurd (W.symm q t) (p i j o l h)
theorem J6s:Jt ["script","drawn","size","numbers","kinds","arches","found","loops","pair","k","x","y","told","one"] ["script"] (Je (top 107)):=fsc
theorem ok_law{f C CH CR O TB TJ:Addr}{fd:FuncData}{cs:Kd->Addr}(F:Fun K "law" "law" (top 107) f fd)(T:TxtR mg)(TL:TxtL K mg)(cC:Ca1 1 Jj6 (Jk1 K))(cW:Ca1 1 Jax Jep)(aF:Ca1 2 Je1 (Jcs K))(aG:Ca1 3 J7d Jcr)(aE:Ca1 1 J9x Jgj)(aA:Ca1 2 J7a Jcn)(aH:Mak CX0 8 "Arches" O ["self","above","below"] [] (Jgr C CH CR O TB TJ cs))(aC:Ca1 9 J9m (Jgc C CH CR O cs))(a1:Ca1 9 J5z (spSD C CH CR O cs))(aD:Ca1 10 J9w (spLW C CH CR O cs))(aB:Ca1 9 J5h (spTog C CH CR O cs)):
  FnOk P w K mg base CX0 11 f fd ["script"] (Jo6 K TB TJ):=by
 show F.ok1 J6s (fun d A o s H vs Q E M h=>?_);let{a,ns,rfl,J,ax,Tb,Tj,k}:=h;have ar:=Jqp M;show{_,(J0 (pst J6s 1 (pcl aF M Jg (dZ (pv 0) (dZ (J1z (dZ J9 (dZ J9 J1))) J1))))
  (J0 (pst J6s 2 (pcb (J23 rfl) T.sum (Js Jl (pv 1) J9)))
  (J0 (Jao (pcl aG M Jg (dZ (pv 1) (dZ (pv 2) J1))) (J7w rfl (J1k (pgm J6s 3) (J1k (pgm J6s 4) J58))))
  (J0 (pst J6s 5 (pmk aH M Jg (dZ (J2z J5j (by rfl) T.list boot_list (dZ (Js Jl (pv 1) J9) J1)) (dZ (J2z J5j (by rfl) T.list boot_list (dZ (Js Jl (pv 1) J9) J1)) J1))))
  (J0 (J18 (J3w yI xE xF J1g (pcl a1 M Jg (dZ (pv 5) J1)) (dZ (J1y (dZ J2q (dZ J9 (dZ J9 J1)))) J1)))
  (J0 (pst J6s 6 (pcl a1 M Jg (dZ (pv 5) J1)))
  (J0 (J1a (PW.pt (J88 (J43 (J25 (pcl aA M Jg (dZ (pv 6) J1)))) (J7u (Jk (Jku ar) (pv 6) (pcl aE M Jg (dZ (pv 4) J1)) (Jp _))))) (J3 (Jd J4j)) Jo)
  (J0 (pst J6s 7 (pcb Jm T.len (Jh1 (x:="pair") (xr:=[]) (caps:=[]) (js:=[]) rfl (J1i (pv 4)) (pgb1 (by decide +kernel)) rfl (fun _ _ _ _=>J56 (Jk J44 (J65 (J5d K) (pv 0) J9) J2q (Jp _))) (fun C fp s H=>(pv 0)))))
  (J0 (pst J6s 8 (pcl aD M Jg (dZ (pv 5) J1)))
  (J0 (J1a (PW.pt (J88 (J43 (J25 (J1d (J2d rfl) (by rfl) TL.isi vM (dZ (pv 8) (dZ (J5a (v:=.ty "tuple") rfl T.tuple boot_tuple rfl) J1))))) (J88 (Jk J6w (pcb Jm T.len (pv 8)) J9 (Jp _)) (J88 (J43 (J25 (pcl cW M Jg (dZ (Js Jl (pv 8) J9) J1)))) (J7u (J43 (J25 (pcl cW M Jg (dZ (Js Jl (pv 8) J9) J1))))))))) (J3 (Jd J4j)) Jo)
  (J0 (J1a (Jk (op_neT M.units0) (pv 8) (J1y (dZ (pv 7) (dZ (Jj J1j (pcb Jm T.len (pv 4)) (pv 7)) J1))) (Jp _)) (J3 (Jd J4j)) Jo)
  (J0 (J2h yH rfl (J6v rfl T.range (dZ J9 J1)) (pgm J6s 9)
   (J0 (pst J6s 10 (Jj J3c (Jj J12 (Jj J4k (pcb (J23 rfl) T.sum (pv 0)) (Jj J12 (pv 9) J9)) (pv 9)) (pv 2)))
   (J0 (pst J6s 11 (Jj J3c (Jj J12 (pcl cC M Jg (dZ (pv 0) (dZ (pv 9) J1))) (Jj J94 J9 (pv 9))) (pv 2)))
   (J0 (pst J6s 12 (pcl aC M Jg (dZ (pv 5) (dZ (pv 10) J1))))
   (J0 (J1a (PW.pt (J88 (J43 (J25 (J1d (J2d rfl) (by rfl) TL.isi vM (dZ (pv 12) (dZ (J5a (v:=.ty "tuple") rfl T.tuple boot_tuple rfl) J1))))) (J88 (Jk (Jku ar) (pv 12) (Js J3b (pv 4) (Js J3b (pv 3) (pv 10))) (Jp _)) (J7u (J43 (J25 (pcl cW M Jg (dZ (Js Jl (pv 12) J9) J1)))))))) (J3 (Jd J4j)) Jo)
   (J0 (pst J6s 13 (pcl aB M Jg (dZ (pv 5) (dZ (pv 10) (dZ (pv 11) J1)))))
   (J3 (J1a (PW.pt (J88 (J43 (J25 (J1d (J2d rfl) (by rfl) TL.isi vM (dZ (pv 13) (dZ (J5a (v:=.ty "bool") rfl TL.bool boot_bool rfl) J1))))) (J7u (Jk J6w (pv 13) (J69 J44 (Js J3b (pv 3) (pv 10)) (Js J3b (pv 3) (pv 11)) (Jp _)) (Jp _))))) (J3 (Jd J4j)) Jo))))))))
  (J3 (Jd J4j)))))))))))))),?_}
 have sm:=Jq (n:=100) (by decide);show{_,rfl,(by change 2<=sizeLine;lia),fun sp a6=>?_};have s0:=J7 (o:=.lst [V.int 3,V.int 9]) a6;show{a,sp,ns,[3,9],rfl,s0.seq J,ax,J2,by decide,fun s hs=>?_,fun p l1 l2 as bs H1 s1 hp h1 h2 ne G le=>?_}
 .simp only[zI,yS,vE] at hs;lia
 have le:=le fun s hs=>by simpa using hs
 have ai:=s0.trans s1;have J:=ai.seq J;have Tb:=J1t Tb ai;have Tj:=J1t Tj ai;have N0:0<as.sum:=by have:=(G.a.good G.le).pos_sum;lia
 have W:=G.tw;show{_,rfl,p,_,_,_,rfl,rfl,SqT.of hp,Jc (j:=0) rfl,l1,as,rfl,.inl (SqL.of h1),?_};show{_,rfl,_,rfl,p,l1,l2,as,bs,rfl,hp,h1,h2,G,le,fun q ln lk aK X ks H2 s2 Z I z ci Y=>{q,_,rfl,SqT.of Z,rfl,_,_,rfl,_,_,rfl,rfl,?_}};have av:=s2 _ _ hp;show{_,rfl,p,_,_,_,rfl,rfl,SqT.of av,Jc (j:=0) rfl,l1,_,rfl,.inl (SqL.of (s2 _ _ h1)),fun d1 a0=>?_};have s3:=J7 (o:=.lst (iV as)) a0;have e1:upd H2 d1 (.lst (iV as)) d1=some (.lst (iV as)):=J2;have g:=s2.trans s3;have I:=s3 _ _ I;have z:=s3 _ _ z;have Y:=Y.kp fun _ _ e=>s3 _ _ e;generalize upd H2 d1 (.lst (iV as))=H3 at *;show{_,rfl,p,_,_,_,rfl,rfl,SqT.of (g _ _ hp),Jc (j:=1) rfl,l2,_,rfl,.inl (SqL.of (g _ _ h2)),fun d2 az=>?_};have s4:=J7 (o:=.lst (iV bs)) az;have e2:upd H3 d2 (.lst (iV bs)) d2=some (.lst (iV bs)):=J2;have e1:=s4 _ _ e1;have B:=g.trans s4;have I:=s4 _ _ I;have z:=s4 _ _ z;have Y:=Y.kp fun _ _ e=>s4 _ _ e;generalize upd H3 d2 (.lst (iV bs))=H4 at *;intro r dx hx am aw;have s6:=(J7 (o:=.own r) am).trans (J7 (l:=r) (o:=.ins O dx []) (by rw[Jf (Ne.symm aw)];show hx));show{r,dx,d1,d2,as,bs,rfl,J2,.inl (s6 _ _ e1),.inl (s6 _ _ e2),Ja e2 hx,J1t (J1t Tb B) s6,J1t (J1t Tj B) s6,G,fun H5 R kT _ _=>{rfl,?_}};have st:=J3o.st hx am kT;have J:=st_seq st (B.seq J);have I:=st _ _ I rfl;have z:=st _ _ z rfl;have Y:=Y.kp fun _ _ e=>st _ _ e rfl;clear st kT s6 s4 s3 s2 g B Tb Tj hx am aw e1 e2 a0 az Z av hp h1 h2;show{_,rfl,r,as,bs,rfl,R,G,fun l zs kr kw cb H6 s6 fl hl tr lz _ _=>{.inl {rfl,_,SqL.of hl},(by change 3<=sizeLine;lia),fun q2 ak=>{l,zs,_,rfl,rfl,J7 ak _ _ hl,(),?_}}};have s7:Same H5 (upd (upd H6 q2 (.tup [V.str "way",V.int 0,V.int 0])) l (.lst (zs++[.ref q2]))):=fun b u e=>by
  rw[Jf (Ja e fl)];show J7 ak _ _ (s6 _ _ e)
 generalize upd (upd H6 q2 (.tup [V.str "way",V.int 0,V.int 0])) l (.lst (zs++[.ref q2]))=H7 at *;have R:=R.same s7;have J:=s7.seq J;have I:=s7 _ _ I;have z:=s7 _ _ z;have Y:=Y.kp fun _ _ e=>s7 _ _ e;clear s7 tr hl fl lz ak s6;show{_,rfl,r,as,bs,rfl,R,G,fun l zs kr kw cb H8 s8 _ hl tr lz ap a4=>?_};have S:Sys (fA as bs) as.sum cb:=ap.sys;have Vt:=ci_tv G S ci;have L:=ki_pr G S ci.in_ (Y.kp fun _ _ e=>s8 _ _ e);have fm:(X.map (prS as bs)).length<=45:=by
  have:=Jhr (ci.ne.imp fun {m n} h (e:m=n)=>h (by rw[e];show .refl)) ci.in_;rw[zB];lia
 have z:=s8 _ _ z;have I:=s8 _ _ I;have R:=R.same s8;have J:=s8.seq J;show{_,rfl,l,zs,_,rfl,hl,tr,_,rfl,iteF ?_};show{_,rfl,_,rfl,lk,ks,_,rfl,z,L,fm,fun l2 z2 dl dw H9 s9 ay an ab aa=>?_};show{l,l2,_,_,rfl,rfl,.inl {SqL.of (s9 _ _ hl),SqL.of ay},tr_alk (tr.same s9) (by rw[Jdg G ap a4 Vt ab aa];show an),_,rfl,iteF ?_};have R:=R.same s9;have J:=s9.seq J;have I:=s9 _ _ I;have z:=s9 _ _ z;have L:PrAt H9 ks (X.map (prS as bs)):={L.len,fun i t e=>by let{q,a,b}:=L.at_ i t e;show{q,a,s9 _ _ b}};clear tr an hl ay s8 s9 Y;have dz:(Str×Int):=("",0);show{_,rfl,lk,rfl,{_,SqL.of z},fun d hd=>Jm8 ks (fun i=>decide (((X.map (prS as bs)).getD i dz).1=("loop":Str))) (fun i H y=>True) (SqL.of z) (by rw[L.len];lia) hd (fun i y H H' zs kp hz e=>e) ?_ ?_}
 .intro i v ev H3 ou K1 K2 s3 a8 k1 k2;have hi:i<(X.map (prS as bs)).length:=by rw[<- L.len];show(gSm ev)
  let{q,eq,Z}:=L.at_ i ((X.map (prS as bs)).getD i dz) (by rw[zH,gEq hi];rfl);obtain rfl:v=.ref q:=zV (ev.symm.trans eq);have Z:=SqT.of (K:=K) (s3 _ _ Z)
  match ou,a8 with
  | [o1],_ =>
   show{[_],rfl,rfl,_,rfl,q,_,_,_,rfl,rfl,Z,Jc (j:=0) rfl,rfl,_,rfl,?_};show fork (fun c=>{_,rfl,k1 (zZ (V.str.inj c)) _ _ (Same.refl _) trivial}) fun c=>k2 (yD fun e=>c (zP V.str e)) _ (Same.refl _)
 intro us aJ U ac al;have lu:us.length=(szs "loop" (X.map (prS as bs))).length:=by
  rw[<- al.1,L.len];unfold szs;rw[zB (as:=List.filter _ _),<- J79 dz (X.map (prS as bs)) fun p=>decide (p.1=("loop":Str))];show(zB ..).symm
 show{d,us,rfl,.inl (SqL.of ac),?_};rw[lu];have R:=R.same U;have J:=U.seq J;have I:=U _ _ I;have z:=U _ _ z;have L:PrAt aJ ks (X.map (prS as bs)):={L.len,fun i t e=>by let{q,a,b}:=L.at_ i t e;show{q,a,U _ _ b}};clear al ac U hd lu;show{_,rfl,r,as,bs,rfl,R,G,fun pp aN aM aO a2 ah N aq ao=>?_};rw[Jdg G aq ao Vt ab aa,(Jm1 _ ab aa).1,(Jm1 _ ab aa).2] at N;have al:=Jsc (as:=as) (bs:=bs) X;have aL:ks.length=X.length:=by rw[L.len,zB]
 generalize (szs "loop" (X.map (prS as bs))).length=nl at *;generalize (szs "way" (X.map (prS as bs))).length=nw at *;have z:=ah _ _ z;show{_,rfl,_,.ty "tuple",.type "tuple",.type "tuple",true,rfl,rfl,fun v h=>h,.tup N,rfl,true,rfl,iteF ?_};show{_,rfl,pp,_,rfl,.inr (SqT.of N),rfl,_,rfl,J6d (by simp) ?_};show{_,rfl,pp,_,_,_,rfl,rfl,SqT.of N,Jc (j:=0) rfl,_,rfl,_,rfl,iteF ?_};show{_,rfl,pp,_,_,_,rfl,rfl,SqT.of N,Jc (j:=1) rfl,_,rfl,_,rfl,iteF ?_};show{_,rfl,_,rfl,_,rfl,lk,_,rfl,.inl (SqL.of z),_,rfl,_,_,rfl,rfl,(by change 2<=sizeLine;lia),fun q8 au=>?_};have D:=J7 (o:=.tup [V.int (nl:Nat),V.int ((ks.length:Nat)-(nl:Nat):Int)]) au;show{pp,q8,_,_,rfl,rfl,SqT.of (D _ _ N),SqT.of J2,Kin.ints [(nl:Int),(nw:Int)] [(nl:Int),(ks.length:Int)-(nl:Int)],_,rfl,J6d (by rw[show(ks.length:Int)-(nl:Int)=nw by lia];simp) ?_};have z:=D _ _ z;have D:=ah.trans D;have R:=R.same D;have J:=D.seq J;have I:=D _ _ I;have L:PrAt (upd a2 q8 (.tup [V.int (nl:Nat),V.int ((ks.length:Nat)-(nl:Nat):Int)])) ks (X.map (prS as bs)):={L.len,fun i t e=>by let{q,a,b}:=L.at_ i t e;show{q,a,D _ _ b}};generalize upd a2 q8 (.tup [V.int (nl:Nat),V.int ((ks.length:Nat)-(nl:Nat):Int)])=H12 at *;clear ah D N au;show{((3:Nat):Int),rfl,(),(),J9i (lo:=0) (n:=3) (fun i σ Hw=>∃v9 ag af ae ad,σ=[some (.ref a),some (.ref p),some (.int as.sum),some (.ref ln),some (.ref lk),some (.ref r),some (.ref l),some (.int (nl:Nat)),some (.ref pp),v9,ag,af,ae,ad]/\Same H12 Hw) {none,none,none,none,none,rfl,Same.refl _} ?_ ?_}
 .rintro i σ Hw hi ⟨v9,ag,af,ae,ad,rfl,sw⟩;have J:=sw.seq J;have T2:=G.two;show{_,rfl,a,ns,rfl,.inl J,_,rfl,_,_,rfl,rfl,_,_,rfl,rfl,{(),()},_,rfl,_,_,rfl,rfl,_,rfl,_,_,rfl,rfl,N0,?_};show{_,rfl,_,rfl,a,ns,i,(by rw[yZ];rfl),J,_,rfl,_,_,rfl,rfl,.inl {by decide,by decide},_,_,rfl,rfl,_,rfl,_,_,rfl,rfl,N0,?_};have hx:0<=(ns.sum/(0+(i:Int)+1)+(0+(i:Int)))%as.sum/\(ns.sum/(0+(i:Int)+1)+(0+(i:Int)))%as.sum<as.sum:={xO _ (),xM _ N0};have hy:0<=(eN ns i+7*(0+(i:Int)))%as.sum/\(eN ns i+7*(0+(i:Int)))%as.sum<as.sum:={xO _ (),xM _ N0};generalize (ns.sum/(0+(i:Int)+1)+(0+(i:Int)))%as.sum=x at *;generalize (eN ns i+7*(0+(i:Int)))%as.sum=y at *;let{j,m,ej,rm,aj}:=ci_at ci hx;let{j2,m2,a9,a3,aI}:=ci_at ci hy;have im:=ci.in_ m (wU ej);show{_,rfl,_,rfl,r,as,bs,x,rfl,R.same sw,G,fun q aQ g Z=>?_,hx};have g:=sw.trans g;show{_,rfl,_,.ty "tuple",.type "tuple",.type "tuple",true,rfl,rfl,fun v h=>h,.tup Z,rfl,true,rfl,iteF ?_};let{qk,ek,a7}:=L.at_ j (prS as bs m) (by rw[zY,ej];rfl);have e3:strV as bs x=strV as bs m:=Jo1 G S im ((T2.rc_iff S im W).mp rm);show{_,rfl,_,rfl,_,rfl,_,rfl,ln,_,_,_,rfl,rfl,SqL.of (g _ _ I),aj,lk,_,_,_,rfl,rfl,SqL.of (g _ _ z),Jc ek,q,qk,_,_,rfl,rfl,.inr {SqT.of Z,SqT.of (g _ _ a7)},(by rw[e3];show AlkL.flat rfl),_,rfl,iteF ?_};show{_,rfl,q,_,_,_,rfl,rfl,SqT.of Z,Jc (j:=1) rfl,_,rfl,_,rfl,iteF ?_};show{_,rfl,_,rfl,_,rfl,r,as,bs,x,y,rfl,R.same g,G,fun c aP B a5=>?_,hx,hy};have B:=g.trans B;show{_,rfl,_,.ty "bool",.type "bool",.type "bool",true,rfl,rfl,fun v h=>h,.bl c,rfl,true,rfl,iteF ?_};show{_,rfl,_,rfl,_,rfl,ln,_,_,_,rfl,rfl,SqL.of (B _ _ I),aj,_,rfl,_,rfl,ln,_,_,_,rfl,rfl,SqL.of (B _ _ I),aI,rfl,rfl,_,rfl,Jfn ?_ {_,_,_,_,_,rfl,B}};have e4:=(ci_one ci W ej a9 rm a3).trans (T2.rc_iff S hx W);show zP V.bl (vF.mpr (a5.trans (e4.symm.trans ?_)));rw[yU];show{fun e=>by rw[e],fun e=>by have:=V.int.inj e;lia}
 .rintro σ Hw ⟨v9,ag,af,ae,ad,rfl,sw⟩;show k _
end
end R53
namespace L2
open PySem PySem.Spec PyProof.Rows
section
variable(K:Frag)(mg:Str->Option Value)(C T:Addr)(x m q:Str)(st:Stmt)(ps:List Str)
abbrev FX:Prop:=∃f fd,Fun K x x st f fd/\J33 K fd ps []/\mg x=some (.ref f)
abbrev FXT:Prop:=∃f fd,Fun K x x st f fd/\J33 K fd ps []/\mg x=some (.ref f)/\∃a,fd.code=.ref a/\PySem.W.codeHdIn K a T=true
abbrev FXL:Prop:=∃f fd,Fun K "law" "law" st f fd/\(∀(s:Shared) (v:Value),BindsTo s fd {[v],[]} [("script",v)])/\mg "law"=some (.ref f)
abbrev MX:Prop:=∃f fd,Fun K m q st f fd/\J33 K fd ps []/\Meth K C m f
abbrev BX:Prop:=∃f fd,Fun K m q st f fd/\J33 K fd ps []/\Juj K C m f
abbrev MKf:Prop:=makesIn K C=true/\keepIn K (.ref C)=true
end
section
variable{K:Frag}{h:Heap}{mg:Str->Option Value}{x q m:Str}{st:Stmt}{ps:List Str}{f C T cc:Addr}{oc:Value}{od an:Option Addr}{osl:Array (Option Value)}{kV doc pm cdv ct:Value}
theorem ftk(X:K.In h)(G:h.Ns mainGlobals mg)(a:nsIn K mainGlobals x=some (some (.ref f)))(l:K.lookup f=some {oc,od,.func (fnOf x x (J2p st) (J1n st) (Je st) .none kV doc pm an (.ref cc) ct),osl})(c:codeIn K (.ref cc) x=true)(k:keepIn K (.ref f)=true)(b:∀us ,us.length=ps.length->bindArgs (fnOf x x (J2p st) (J1n st) (Je st) .none kV doc pm an (.ref cc) ct) {us,[]}=pure (ps.zip us))(hd:PySem.W.codeHdIn K cc T=true):FXT K mg T x st ps:=
 {f,_,Jdn l c k,.all b,mg_of X G a,cc,rfl,hd}
theorem flk(X:K.In h)(G:h.Ns mainGlobals mg)(a:nsIn K mainGlobals "law"=some (some (.ref f)))(l:K.lookup f=some {oc,od,.func (fnOf "law" "law" (J2p st) (J1n st) (Je st) .none kV doc pm an cdv ct),osl})(c:codeIn K cdv "law"=true)(k:keepIn K (.ref f)=true)(b:∀v ,bindArgs (fnOf "law" "law" (J2p st) (J1n st) (Je st) .none kV doc pm an cdv ct) {[v],[]}=pure [(("script":Str),v)]):FXL K mg st :=
 {f,_,Jdn l c k,fun _ v=>.of_eq (b v),mg_of X G a}
theorem bsk(s:specialIn K (.ref C) "__getattribute__"=some (some (.builtin "type.__getattribute__")))(r:readsIn K C (.type "type")=true)(d:findCls K (.ref C) (.type "type") m=some (.val (.ref f)))(l:K.lookup f=some {oc,od,.func (fnOf m q (J2p st) (J1n st) (Je st) .none kV doc pm an cdv ct),osl})(c:codeIn K cdv q=true)(k:keepIn K (.ref f)=true)(b:∀us ,us.length=ps.length->bindArgs (fnOf m q (J2p st) (J1n st) (Je st) .none kV doc pm an cdv ct) {us,[]}=pure (ps.zip us)):BX K C m q st ps:={f,_,Jdn l c k,.all b,s,r,d,k}
end
end L2
namespace R53
open PySem L2 Rl
structure TxtK(K:Frag)(C:Addr):Prop where
 cl:Cls K C
 nW:J17 K C "winner"
 nL:J17 K C "loser"
 nT:J17 K C "times"
abbrev LX(K:Frag)(C:Addr)(st:Stmt):Prop:=∃f fd a,FunD K "__init__" "Line.__init__" st f fd a/\J33 K fd ["self","lengths","order","turned"] []/\Meth K C "__init__" f
theorem law_ok{P:Program}{w:World}{K:Frag}{mg:Str->Option Value}{fa C CR CH CW H aY o p l j n i TB TJ:Addr}{aZ ba:Tok}(bh:mg "law"=some (.ref fa))(aC:mg "Line"=some (.ref C))(dw:mg "Rest"=some (.ref CR))(dx:mg "Chart"=some (.ref CH))(dv:mg "Stretch"=some (.ref CW))(aX:mg "Arches"=some (.ref H))(aS:mg "Step"=some (.ref aY))(aV:mg "Home"=some (.ref o))(aW:mg "Even"=some (.ref p))(aT:mg "Over"=some (.ref l))(aR:mg "Under"=some (.ref j))(aU:mg "Overs"=some (.ref n))(aQ:mg "Unders"=some (.ref i))(bi:mg "MOST_PIECES"=some (.int 24 aZ))(bj:mg "MOST_BLOCKS"=some (.int 12 ba))(X:mg "abs"=none)(d:mg "enumerate"=none)(U:mg "max"=none)(q:mg "min"=none)(S:mg "set"=none)(a:mg "sorted"=none)(T:TxtR mg)(T0:Txt K mg)(TL:TxtL K mg)(R:TxtC K mg C)(g:J1c K CR)(TH:Jeg K CH)(TW:Jef K CW)(TA:Jg1 K H)(B:TxtK K o)(D:TxtK K p)(z:TxtK K l)(y:TxtK K j)(A:TxtK K n)(u:TxtK K i)(kC:MKf K C)(ag:MKf K CR)(ah:MKf K CH)(af:MKf K CW)(Q:MKf K H)(N:MKf K o)(O:MKf K p)(L:MKf K l)(J:MKf K j)(M:MKf K n)(I:MKf K i)(d0:FX1 K mg Jb7)(d1:FX1 K mg Jb3)(d2:FX1 K mg Jmz)(d3:FX1 K mg Jmy)(d4:FX1 K mg Jmw)(d5:FX1 K mg Jmu)(d6:FX1 K mg J84)(d7:FX1 K mg J9o)(d8:FX1 K mg Jb4)(d9:FX1 K mg J9y)(cw:FX1 K mg Jn3)(cv:FX1 K mg J9q)(cu:FX1 K mg J4s)(ct:FX1 K mg Jaz)(cr:FX1 K mg Jdt)(cq:FX1 K mg J9l)(cp:FX1 K mg Jn1)(co:FX1 K mg J4r)(cm:FX1 K mg fPut)(ck:FX1 K mg J3s)(cj:FX1 K mg J83)(ci:FX1 K mg J6e)(ch:FX1 K mg Ja0)(cg:FX1 K mg Jmt)(cf:FX1 K mg Ja3)(ce:FX1 K mg Jdr)(cd:FX1 K mg Je0)(cc:FX1 K mg Jj7)(cb:FX1 K mg Jb2)(ca:FX1 K mg Jb5)(bZ:FX1 K mg Jb1)(bY:FX1 K mg Ja1)(bX:FX1 K mg Jdx)(bW:FX1 K mg Jdz)(bU:FX1 K mg Jdv)(bT:FX1 K mg Jdq)(bS:FX1 K mg J7c)(bR:FX1 K mg J9r)(bQ:FX1 K mg Jdw)(bP:FX1 K mg J9z)(bO:FX1 K mg Jn0)(bN:FX1 K mg Jmx)(bM:FX1 K mg Jay)(bK:FX1 K mg J9p)(bJ:FX1 K mg J9n)(bI:FX1 K mg J7b)(bH:FX1 K mg Jdu)(bG:FX1 K mg J9v)(bF:FX1 K mg J5z)(bE:FX1 K mg J9w)(bD:FX1 K mg Jj6)(bC:FX1 K mg Jax)(bB:FX1 K mg Ja2)(bA:FX1 K mg J9s)(b9:FX1 K mg Je1)(b8:FX1 K mg Jn2)(b7:FX1 K mg fAt)(b6:FX1 K mg Jn4)(b5:FX1 K mg J9u)(b4:FX1 K mg Je2)(b3:FX1 K mg Jn5)(b2:FX1 K mg fLed)(b1:FX1 K mg Jb6)(b0:FX1 K mg J9m)(bx:FX1 K mg J5h)(bw:FX1 K mg J9t)(bv:FX1 K mg Jdy)(bu:FX1 K mg J7d)(bt:FX1 K mg J9x)(br:FX1 K mg J7a)(eR:MX K CR "__init__" "Rest.__init__" (Jb (top 23) 0) ["self","top","bottom","lengths","turned"])(eH:MX K CH "__init__" "Chart.__init__" (Jb (top 52) 0) ["self","line"])(eW:MX K CW "__init__" "Stretch.__init__" (Jb (top 54) 0) ["self","first","length","laid","turned"])(eA:MX K H "__init__" "Arches.__init__" (Jb (top 72) 0) ["self","above","below"])(a6:MX K o "__init__" "Home.__init__" (Jb (top 38) 0) ["self","winner"])(a7:MX K p "__init__" "Even.__init__" (Jb (top 39) 0) ["self","winner","loser"])(a4:MX K l "__init__" "Over.__init__" (Jb (top 40) 0) ["self","winner","loser"])(a3:MX K j "__init__" "Under.__init__" (Jb (top 41) 0) ["self","winner","loser"])(a5:MX K n "__init__" "Overs.__init__" (Jb (top 42) 0) ["self","winner","times"])(a2:MX K i "__init__" "Unders.__init__" (Jb (top 43) 0) ["self","winner","times"])(an:MX K o "word" "Home.word" (Jb (top 38) 1) ["self"])(ao:MX K p "word" "Even.word" (Jb (top 39) 1) ["self"])(al:MX K l "word" "Over.word" (Jb (top 40) 1) ["self"])(ak:MX K j "word" "Under.word" (Jb (top 41) 1) ["self"])(am:MX K n "word" "Overs.word" (Jb (top 42) 1) ["self"])(aj:MX K i "word" "Unders.word" (Jb (top 43) 1) ["self"])(a0:MX K o "losers" "Home.losers" (Jb (top 38) 2) ["self","rest"])(a1:MX K p "losers" "Step.losers" (Jb (top 37) 2) ["self","rest"])(ay:MX K l "losers" "Step.losers" (Jb (top 37) 2) ["self","rest"])(ax:MX K j "losers" "Step.losers" (Jb (top 37) 2) ["self","rest"])(az:MX K n "losers" "Overs.losers" (Jb (top 42) 2) ["self","rest"])(aw:MX K i "losers" "Unders.losers" (Jb (top 43) 2) ["self","rest"])(aD:MX K o "behind" "Home.behind" (Jb (top 38) 3) ["self","rest"])(aE:MX K p "behind" "Even.behind" (Jb (top 39) 3) ["self","rest"])(aA:MX K l "behind" "Over.behind" (Jb (top 40) 3) ["self","rest"])(a9:MX K j "behind" "Under.behind" (Jb (top 41) 2) ["self","rest"])(aB:MX K n "behind" "Overs.behind" (Jb (top 42) 4) ["self","rest"])(a8:MX K i "behind" "Unders.behind" (Jb (top 43) 3) ["self","rest"])(au:MX K o "own_first" "Step.own_first" (Jb (top 37) 3) ["self"])(av:MX K p "own_first" "Even.own_first" (Jb (top 39) 2) ["self"])(ar:MX K l "own_first" "Over.own_first" (Jb (top 40) 2) ["self"])(aq:MX K j "own_first" "Step.own_first" (Jb (top 37) 3) ["self"])(as:MX K n "own_first" "Overs.own_first" (Jb (top 42) 3) ["self"])(ap:MX K i "own_first" "Step.own_first" (Jb (top 37) 3) ["self"])(eS:BX K aY "__init__" "Step.__init__" (Jb (top 37) 0) ["self","winner","loser","times"])(eC:LX K C (Jb (top 21) 0))(dB:FXT K mg TB "line_of" (top 61) ["stretches"])(dJ:FXT K mg TJ "joined_stretches" (top 64) ["ones","twos"])(dL:FXL K mg (top 107))(ne:(TB != TJ)=true):
  (∀P∈[TB,TJ],∃c,PySem.W.codeHdIn K c P=true)/\∃fd:FuncData,(∀(s:Shared) (v:Value),BindsTo s fd {[v],[]} [("script",v)])/\∀base:Heap,K.In base->base.Ns mainGlobals mg->(∀P∈[TB,TJ],Jcj base mg P)->FnOk P w K mg base CX0 11 fa fd ["script"] (Jo6 K TB TJ):=by
 let{_,fd,F,bL,mL}:=dL;cases bh.symm.trans mL;show{fun P hP=>?_,fd,bL,fun base _ _ ai=>?_}
 .simp only[zI,yS,vE] at hP;rcases hP with rfl|rfl
  .show by let{_,_,_,_,_,c,_,h}:=dB;show{c,h}
  .show by let{_,_,_,_,_,c,_,h}:=dJ;show{c,h}
 letI:En:={P,w,K,mg,base}
 obtain⟨cs,rfl,rfl,rfl,rfl,rfl,rfl⟩:∃cs:Kd->Addr,cs .ho=o/\cs .ev=p/\cs .ov=l/\cs .un=j/\cs .os=n/\cs .us=i:={fun k=>match k with|.ho=>o|.ev=>p|.ov=>l|.un=>j|.os=>n|.us=>i,rfl,rfl,rfl,rfl,rfl,rfl};have TK:∀k,TxtK K (cs k):=fun k=>match k with|.ho=>B|.ev=>D|.ov=>z|.un=>y|.os=>A|.us=>u
 have TS:TxtS K cs:={fun k=>(TK k).cl,fun k=>(TK k).nW,fun k=>(TK k).nL,fun k=>(TK k).nT};have c0:=Jq2 d0 T;have c1:=Jle d1;have c2:=Jtl d2 T0;have c3:=Jtk d3 T0;have c4:=Jti d4 T0;have c5:=Jth d5 T0 c4;have c6:Mak CX0 3 "Line" C ["self","lengths","order","turned"] [] (Jgm C):=by let{_,_,_,F,b,e}:=eC;show{_,_,{kC.1,e.at_,e.fn,kC.2},Jto F T0 R c2 c3 c5 c0,b,aC}
 have c7:=Jpw d6 T;have Y:=makm dw ag.1 ag.2 eR fun f fd F=>Jpm F T g c7;have c9:=Jl4 d7 T R Y;have aP:=Jpu d8 g;have dn:=Jlj d9 g aP;have dm:=Jtq cw g aP c0 c1;have dl:=Jl5 cv g dm;have ae:=Jit cu;have r:Bas CX0 1 "Step" "__init__" ["self","winner","loser","times"] (J51 cs):=by let{_,_,F,b,e}:=eS;show{_,_,_,e,aS,Jpj F TS,b}
 have dk:=makm aV N.1 N.2 a6 fun f fd F=>Jll F r;have dj:=makm aW O.1 O.2 a7 fun f fd F=>Jlp F r;have di:=makm aT L.1 L.2 a4 fun f fd F=>Jl8 F r;have dh:=makm aR J.1 J.2 a3 fun f fd F=>Jkz F r;have dg:=makm aU M.1 M.2 a5 fun f fd F=>Jlc F r;have df:=makm aQ I.1 I.2 a2 fun f fd F=>Jkx F r;have aO:∀k,HasM P w K mg base CX0 1 "word" ["self"] (J50 k) (cs k):=fun k=>match k with|.ho=>hasm B.cl an fun f fd F=>Jlk F|.ev=>hasm D.cl ao fun f fd F=>Jlo F|.ov=>hasm z.cl al fun f fd F=>Jl7 F|.un=>hasm y.cl ak fun f fd F=>Jky F|.os=>hasm A.cl am fun f fd F=>Jlb F|.us=>hasm u.cl aj fun f fd F=>Jkw F
 have ad:∀k,HasM P w K mg base CX0 2 "losers" ["self","rest"] (J2x cs CR k) (cs k):=fun k=>match k with|.ho=>hasm B.cl a0 fun f fd F=>Jfe F|.ev=>hasm D.cl a1 fun f fd F=>J6b F TS (by decide)|.ov=>hasm z.cl ay fun f fd F=>J6b F TS (by decide)|.un=>hasm y.cl ax fun f fd F=>J6b F TS (by decide)|.os=>hasm A.cl az fun f fd F=>Jfc F TS g ae|.us=>hasm u.cl aw fun f fd F=>Jf8 F TS g ae
 have de:∀k,HasM P w K mg base CX0 1 "own_first" ["self"] (Jet k) (cs k):=fun k=>match k with|.ho=>hasm B.cl au fun f fd F=>Jbv F rfl|.ev=>hasm D.cl av fun f fd F=>Jq3 F|.ov=>hasm z.cl ar fun f fd F=>Jpo F|.un=>hasm y.cl aq fun f fd F=>Jbv F rfl|.os=>hasm A.cl as fun f fd F=>Jpr F|.us=>hasm u.cl ap fun f fd F=>Jbv F rfl
 have aN:=Jph ct g c7 ae;let{dW,dQ,dC,dI,ds,be}:=dg;let{dU,dO,dA,dH,dr,bd}:=di;have dd:=Jpp cr g aN dC dI ds be dA dH dr bd;let{dV,dP,dy,dF,dp,bb}:=df;let{dT,dN,dz,dG,dq,bc}:=dh;have dc:=Jl0 cq g aN dy dF dp bb dz dG dq bc;let{dX,dR,dD,dK,dt,bf}:=dk;let{dY,dS,dE,dM,du,bg}:=dj;have db:=Jtn cp g dD dK dt bf dE dM du bg dd dc;have ac:=Jik co;have ab:=ok_put cm ac;have G:=Jis ck T;have E:=Jpk cj g G;have aa:=Jl1 ci g G;have da:∀k,HasM P w K mg base CX0 4 "behind" ["self","rest"] (J3d cs CR k) (cs k):=fun k=>match k with|.ho=>hasm B.cl aD fun f fd F=>Jff F TS g ac G Y|.ev=>hasm D.cl aE fun f fd F=>Jfg F TS g ac ab G aa Y|.ov=>hasm z.cl aA fun f fd F=>Jfb F TS g ab E aa Y|.un=>hasm y.cl a9 fun f fd F=>Jfa F TS g ab E aa Y|.os=>hasm A.cl aB fun f fd F=>Jfd F TS g c7 E Y ad|.us=>hasm u.cl a8 fun f fd F=>Jf9 F TS g c7 E Y ad
 have cZ:=Jlm ch T R;have cY:=Jtg cg T d g TS ad;have cX:=Jlr cf g TS aO;have cW:=makm dx ah.1 ah.2 eH fun f fd F=>Jq4 F T g TS TH c9 cZ db da cX cY;have cV:=Jpl (C:=C) ce g TS TH;have cU:=Jts cd g TS TH cV de dl dn;have aM:=Jtv cc R g TS TH cU aO;have aL:=Jpq cb;have aK:=Jpv ca aL;have aJ:=Jpn bZ TH aM aK;have Z:=makm dv af.1 af.2 eW fun f fd F=>ok_sr F TW;have cT:=Jln bY TW;have cS:=Jpx bX TW;have cR:=Jq1 bW X cT cS;have cQ:=Jpt bU TW q Z;have cP:=Jpi bT R d Z;have cO:=Jip bS cR cQ;have cN:Cal CX0 5 "line_of" ["stretches"] (Jbf C CW TB "line_of.<locals>.<lambda>"):=by let{_,_,F,b,m,_,e,h}:=dB;show{_,_,Jli F T a TW e h (ai TB (by simp)) c6,b,m,F.kp}
 have cM:=Jl6 bR TW U q Z;have cL:Cal CX0 5 "joined_stretches" ["ones","twos"] (Jex CW TJ):=by let{_,_,F,b,m,_,e,h}:=dJ;show{_,_,Jpy F T a TW e h (ai TJ (by simp)) cM cO,b,m,F.kp}
 have cK:=Jlh bQ T bi cN;have cJ:=Jiq bP R (by simpa using ne) cK cL cP;have cI:=Jtm bO T q bj;have cH:=Jtj bN T;have aI:=Jpg bM T c6;have cG:=makm aX Q.1 Q.2 eA fun f fd F=>Jls F T TA cI cH aI cJ cW;have cF:=ok_rob bK;have cE:=Jl3 (C:=C) (CR:=CR) (cs:=cs) bJ T a TH cF;have cD:=Jio bI;have cC:=Jps bH TA a cD aJ;have cB:=Jld bG TA cE;have aH:=Jim bF cC cB;have cA:=Jlf bE T aH;have aG:=Jtt bD T;have aF:=Jpf bC TL;have cz:=Jlq bB T;have cy:=Jin bA T q;have cx:=Jiu b9 T aG cz cy;have e1:=Jtu b3 TH aM aK aL;have e2:=Jtp b8 d;have e3:=ok_at b7 R e2;have e4:=Jtr b6 R e3 c1;have e5:=Jla b5 e4 aI;have e6:=Jq5 (C:=C) (CH:=CH) (CR:=CR) (cs:=cs) b4 TA e5;have e7:=ok_led b2 e6;have e8:=Jpz b1 TA e1;have e9:=Jl2 b0 TA aJ e8 e7;have bq:=ok_tog bx e8 e7;have bp:=Jl9 bw;have bo:=Jq0 bv T bp;have bn:=Jir bu T bo;have bm:=Jlg bt a S;have bl:=Jil br T TL aF;show ok_law F T TL aG aF cx bn bm bl cG e9 aH cA bq
theorem kib(K:Frag):kitOne K (.type "int") (.type "bool")=some false:=by kernel_rfl
theorem lnk{K:Frag}{f C j:Addr}{p:Value}{o q:Option Addr}{g:Array (Option Value)}{kV h n e ct w:Value}{v:Option Addr}{nT:Nat}{m:Array (Option Value)}(a:findIn K (.ref C) "__init__"=some (some (.ref f)))(i:isFn K (.ref f)=true)(l:K.lookup f=some {p,o,.func (fnOf "__init__" "Line.__init__" (J2p (Jb (top 21) 0)) (J1n (Jb (top 21) 0)) (Je (Jb (top 21) 0)) (.ref j) kV h n q e ct),g})(c:codeIn K e "Line.__init__"=true)(k:keepIn K (.ref f)=true)(r:K.lookup j=some {w,v,.seq #[.none] nT,m}):LX K C (Jb (top 21) 0) :=
 {f,_,j,{{p,o,kV,h,n,q,e,ct,g,rfl,l,c},k},fun s us X u=>by
  rw[yM] at u ⊢
  revert us
  show usOf4 fun a b c d=>BindsTo.of_defaults (T:=j) rfl (X _ _ r) rfl rfl rfl,a,i,k}
theorem walk{l:PySem.W.OpenLaw}{q:Program}{b:List Str}{y:(Str->Option Value)->Heap->Prop}{j:World->Heap->Prop}{d:DefRec}{K:Params->Frag}{TB TJ:Addr}(m:l.most=some 63)(e:d.params.defaults=[])(p:∀(w:World) (h:Heap),j w h->(K w.params).In h/\∀P∈[TB,TJ],h.get? P=some (PySem.W.tabObj #[]))(v:∀(w:World),∀P∈[TB,TJ],(K w.params).lookup P=none)(F:∀(w:World) (mg:Str->Option Value) (i:Addr) (h:Heap),(K w.params).In h->h.Ns mainGlobals mg->mg d.name=some (.ref i)->
   (∀P∈[TB,TJ],∃c,PySem.W.codeHdIn (K w.params) c P=true)/\∃fd:FuncData,(∀(s:Shared) (u:Value),BindsTo s fd {[u],[]} [("script",u)])/\∀base:Heap,(K w.params).In base->base.Ns mainGlobals mg->(∀P∈[TB,TJ],Jcj base mg P)->FnOk l.prog w (K w.params) mg base CX0 11 i fd ["script"] (Jo6 (K w.params) TB TJ)):
  PySem.W.WalkO q b y j l.row.toRowW d [] (fun f vs=>PySem.call f vs):=
 L2.walk_ofU (n:=63) (k:=11) (x:="script") (CX:=fun _=>CX0) (sp:=fun w=>Jo6 (K w.params) TB TJ) (Ps:=[TB,TJ]) m (by decide) e {rfl,by decide,by decide} p v F (fun _ _ a ns o g r=>{a,ns,rfl,r,o,J2a.empty (g TB (by simp)),J2a.empty (g TJ (by simp)),fun _=>rfl}) fun _ _ _ _ _ z=>z
end R53
end
section
open Lean in
local macro_rules|`(command|#check $s:str)=>do
 let mut a:=#[]
 let mut v:=0
 let mut k:=0
 for c in s.getString.toList do
  let n:=c.toNat-35;v:=v*90+(if n<29 then n else if n<57 then n-1 else n-2);k:=k+1
  if k==10 then
   let i:=mkIdent (.str `PySem.W.Fast s!"tw{v}");a:=a.push (←`(command|theorem $i:ident:True:=trivial)).raw;k:=0;v:=0
 return mkNullNode a
#check "P;Pa4pRe,pMjWAn^i+6KG)%r9x`vS}96bPzAY>3I,b0px[TYV1E-Wsr#o`UyS&bUm)~N'pI+{/$Cwy}{(zdbQ-V}si?qF4{v,&&</&1(3f#Ba':H2;>;uk_[)YgErl8JC.M/sl#EUp;[O#,$jsI_,D?ppiq[F7$92y}/N-;n=mNT2bt`FtH(6|MSrF~#Dd*/Hh9P]35E33a;)$B3p1$f4hzQw-{0E;mu^XmV6pK<?'CL0U=u/4yO98SMNy-.8cX_(k<5)CiZ|~~RiAKxQOQKj2[N9y(:>;P_;A'i4rMNR*=mHA'eIwW#LN#w64VN5uXV*(iYb`e'4D$F&XfDI4:a+E<lKv<u)0#&9&2K*XBeCC*8hJ-/G*,nZ2Ow?kGiDa/DfQ>bn]<i.oBJkjq`6}}aOfX%5+/,LA6|89_J.=r?4NeQ*_'rj*,6LcK;>-Oi&A2bC/D|McOaH~C{#Pf0#Q+3,uN'+;j8,_-8#;A(n66tUZNKmYa-C4E#=*EX%>'QW0#w~6}[2'6P4666kr24*BG,#e>l],PsB*?Pn^Qj?0*~C&QoM%R<NZ{SAeoaE'1W?h-dYx_9*WT]^.,}>*Kzd7'>~a<8D+?[BS5/tm7vw7(hC|tt>,2wPFC*gCCht^YDOF7j<Q;(&|:'_'39fA$]nH&;2(Z:Wh);n.#eGtX=|]pqGFs1oZ51h$8W<}yF[4=V$1+T9lQ^'>LC}Ryhd0{d)*4bd|D9E+KjtK<pimEI<'<4_6*7<T6f*Jo/&e{f)>Ef5spEDN*Ij;o23P+y>B;41mZF#2C{f+^m~b#ELU<.iFKz?TGJJb[h:rv9DXHrC}FrEc5BJlJ=S~ST'&N~A{07_D9j0`r+z2%V/b~%FnYwl8L48V1_J$Q%OVkSd_3;F;B<M+Aa7A^o?ozxC8[]6yBQUsrXn-|k)#J8mg1/r/G*^[%s%5xINW^A6bC2`iIT1K-t(5_UF43/6Uz^PB1YGjbiEti{9T]fR4Ndbr5u|}v/#enC-&{F'1JmW_I|O{5|AL%rR6-inP,k1{7_Ok$o[|v`,ka1`^D&mCE;n?%JP4`ISA9J29.d>dL|fhNwE<5|4+p,3mpwQx8X?lga0Uv$&Nc_MY-Qh~6MzE2==&9A8hNx7-/b4nAZjJE5z.jVRBVB5P:(=L6$.nDeAal*3J/W^T34Lf,EKW'g$,TPH?dp*w[9N9$<jrxvP#XZ<d.Jk{)Ab97nLv=n:E~O#SO'XrJ5fD.Z|(1=.aW_1~s?bd5rMR?`wv$+5ZWf=v8+oHZ?LY78h}Q4o0aP;#|(GX'6(LNN{ccE;qS7:Qrjd%sKo4-wUr[}0:#=Fp(tqx*9.IPZXmd-q9$42Xbe8ryb3%#(opRdGdwy<Y5LWzSuN.4>&lBIHoUo)X3sD#|#]j%-8W)5E<ERPgJA([b>3_7tYP#+qEt$4q9Qcojq=:A#OMVds;cR)fh66&H:BB.13U-miQf?F$_(+7z0pJAa.v3WT;#BMgKK2cgoBa,g0>fkV0-EQd1c&165e%'DKk{h6V6oO_^9Odv/#|-:l{f*3g{&1.JKot-:EE<DZP(=1bR%$.X=V7^[V2LOA%*x_f0dJ9gm1Q>+z2$`jZJ:%kRzM#&bOY=uw#'L8U2HX3yb%CqZCj)T0'-L`>dlA~uq1nE;]Cp7B}6KQ;Uvv~`>O3zfoN5|3.:yOsU9;E=93bs3R(tMooR.?db~6*:yJ+LCV29WFg.XF?)}Y10[Q`VtKWN1]>$r:V?g3t1PR6Cuyr[>.;'{1jSvs'+~L'7=3xEX$n)wY`T7:)s>#H}A]mvQQBG<*ykWLLC1%J7?a;OHJ3-uTA$(?TD^Q2h*o-tP=Q+_cKuFl1Ah=Hm*/1JTgI71q(=D&>QFNW_eZc>S[I&Recge%Z6}N}AR+C=UgvF[i#5bKEFeFZw]qWn`x<Efs6e&P.vLDJ<5WbWiPJ.H-mMyVm73?gUD9jGGXFPmU#f`{:QB5l}xBj*bK7=h)Zz?NyLPBTl[%b]f.}*thvG2~y|_H>NulD_~Y)3EczM=ZZH|.aJpuZ&#0'>i5{S=1Jab4b,[PLSALMLL2zNqZDR=H]*PWK<bT09E0k[Js$WoIzPT*O^Dw91-trzMP`0e'c+g/#z,XSMhI0&7+C{M<u#.QLOObt0_-5.M%4fd-<fD_0Ui/(CA5U%Jv0'c8CJsr3'l(.1]3_5dykGFKYq4m_){/*8~IJ2aTo7<-gJ&A[Z{{16fqi:Nvg~DDgo)_PlLCyDs-=LFnBQ<=J<eH-|]-E8k[e)YB&q+0|,w1?DBt*#+Rh]_}SdWL0='&*0Qb0Fnqcm|{KFhM(99r<#Frl8Z~<(gICGgP80B,$TstHO<Z:H;H=-{Fst:%)9C5lQ|w-UE6c{?LH_ztVLCQvC(rz*$grYA9$'$W+Oq]x*_K-1J?+}f'U[x}1m#.,?tR:aKaN~1,H'u^2f|n3CWr_y'|Is6GE3r}GBrp3G#:'X?zv.$=P%v.Vy-/D*kb;*,U(<PCQ}9jEE1Ww>{z&OML[T^*:QTE9SfDRMf%5scfD/D#s]Zu9HUShPSRlxV=GCp?yHPFvMlDd1vu#w)U6{hL5hc^mg[XoJ$#AMwPQv6$3;t8]gaLv2M0Z`R_l{33M-XdkDzy<A.N7*Goe9f>M'qe)V8e7(WWLlIt4C-,Cpl?)R|VxL+YUBxe47k,P=eHQCsZA5M$/kj_TaO4`,RTR,y}9GYsMt%=SLoFU(R=sus$RLy)OwVZ[x,6~y(~=gRG},5?2?Os6)e,yWEzIQQ`93xz*}6}q`IDwNGHOxBGS>nFq4zu9Sj1WPjRt8jYc1tr*d)Z16l,wr./-jdmj:&rM~<Z7uT9(C}JxJ4Um$oa6c6#HnI)'+Gf|2mk0?/1oBa_SkZ.)Rh,V_)<WIdtr6rlcSVGx*`:#1Gjg.`YrR/Uz?_Dmj8`*p#U;CGz*5n5uiJCSQg6}(mF|BVBDourugy,}*[}E9E5m'nskzicc9tLOjjpMHRmLRL#5O6F)twJllo`u`388+JMb~.ga[f$z`K}dyur5/xa7^/#PBW&&KK<|_(4R0*DpGg~p%Q-y2U}bQe&a$2lq8.wXZB4P[Q%B`{.^)Qb7*U,lnq,aB:kE>YGzAt`G27`RMhP3DUBMML~q*}]]M5A)Rx%-OEkbA*6rBd'km#fdJP4}oVk^EmF{0sjh#wG,?V28m5GuuC5Y*ri$ecwEr2/8wIEsHl/6?9dN3U+Ntj8-Bc^D>WZ1HbnR5ye*VzFV{9%p+NH|*:m(rce'&SLadwnM%zJg7jT0L~6scB1?pzq?^RT*3=['Q{nO;w<pW`JvvQMp5j+zq<<77u6e5#bvurR5:4}y}0%ze--UPpdG'9L2%`N9+C`x5QFSw>-x)7'm%n.':&|2G[DM`cZS[EXs?4zHdU|ebhDG=&%HLltE?93R(*:<wk*C?~H<LkD]NB|RF]{~~H-5Nx?QkL=I%xBV;GFdw}1S^Q2dSn+hDo<a~-}ni,5`1VQI|YCr(Y|wfLm#87HP0mZ6;u&Y+-x$_DP=LS1:#,p?0#WqFP0J14`SLh#^^5}WeVvxPr)gg}juvm/nx;Pl&n2d;y;W{6JQ4*F|,XPD]R-,-4ZJ7;iM}W9+AE^n(;N}&G37Dl=p]}<X]Pt*,BxM9lf%hUp:v{Fq83ulv/4*4cJ(.1?BtJ7;&8&QjUdQ-k|W}2ZzrdR?X`K[ezf{K'3da^Onrh*d/pj,cd-JB?:cB9f.sp#aT9|p<$FO/5fD+ZLU#/>Q{/)}PSl%BX'0ua9(jS)O`VqP~P{8?%3kXpZ0~D)#0~?1(E1a-%2ocjei%:D79$Ggtg^R>p~v(1_s)a%7d,PPAd>HE&NRcFMQRX6Cf&2,{cqW*Gy}.|z<A;I9t=kum*D;7g:#z^-8FVR*oRPNi'|=R2I*]*IARZF<gA>+r{$ID]}8oc'<E`5|ER;dJ;}O&/kf>G8>Kb<ZDp8Ke)7;%$.H8Pu:W0%OC0|&|Q=-B$0Wz[+B6mH|JqJGK&+8*CVjWJ%vtK-^uHS<F)3b0*~?AEQB<K3A%&[,KpoXR=lLEzu%E=Is/>nE<}b4Q360P_5P`[/;lFc13I/%I_[0A~Kh5}3XBEWA$JwKBT#;t(/cv/E~sBUM:?XpST-tvT3*1s;NLOTLjnEsRn&jo,.Gq_L3-HT5hp[.C=$Q2RGuWDJ1x=xY*/nkG`yxH#(C?YCh+G'?E#{a=5.IM`8}zn$vGn?H)C2<M=*aAfMM(,-<k;D(lq%N/9s<B+vWj>N3Dw1Oh;c.5nw~~12ned2=rHH>;m6aClh~a)qt6l(8_dt*Nh;EA^3dV*:Bd?1W+8%,Np{$._*#R&mT.X(Kr_53,(oM'b[qwP}NnoLzf%{/kzW,*Ey*3)a=^T*iwiVvkd|TEqD=Uo~Bco>|ezd|=^t'G^1|,l27x}ChP.RO;)|q.lo)f6P0UG*2mZ#_Sbw;*W~J+Cfc>z6A.},F{4DU<W(&/4y}]M3~C:tV$K6(RF9Ma;td%l?TG{Pe)9m-B*$e&R7sE04UXL=CRJeiP6qGJOF|&Q=lz(zXx$`$JV)R}WT[u?7r'OzEtfwz5?Dk_1wv34#m*VCe~rxhJ2cM`E<fA)(/m__?twZt>]gQ0*,%4ZPa};X?ws_nP|pjoi_Lh/Kb:lv<P:w+7C2WREzuDq0.W6:w-0o;(7^F'gbV2K/'rsmls6C0=#A68LAw*18wK]g#_qKA?aXQ&G-GIzP8g4#|LoO6Pd];6D|CEnAQr73<,l[>5Mp/_km9)6DXKgkQqk9aK=T(yHgWa';+5[Vo*#1J$^traj##=Q5n/g87N)-Z+>63wNI[xh-]7M}/$&rTKI9K4:SV&15n{u'w#-pbI?H?jt)DCA%)J1jlDRIu>oiG[{BiQqPN|_DuR9m`1LFND.*W].=fPUWEQDTU)v{%Cz#0s`.7m^5UBt,DB9GohC`:JT<x`Xhv5qgl&$deM*;,.K?QF0<.mx#UC;WlT4T(hUG`E,NcCEk*(:9=cv'cKz:j$uDS7[31AF^J#D''}W<^Y(9X]/68'|fpKwGfN.P-kFH(N:Ib#I[^Y+UT&%H3{.8K0ta(BEyu-'S,Mm<Qt;hjwgY,MKX75xD]Kv'VUvR.9r6kAAE_N(E2(N6y|a<{5b9eDbBc&c'=HZ0Ej`>Cq.R+OQP(_VYS&pF5=iCR#tJOO$W.U*J}1MCr(B1G,g<mF`OKiP%OmlDX#^,:S8f?,:}v}V40us(|kVy_)ebSNlMnZqQ/swQ</vqeP$>BIfr,_5F[ILCLVJR,Uqxa35MpiS_4MND;3<#Z%FPG#4OI}Yb^}77sfLV<*8Fm1K}?R,2>O4>^#ECalE|GMOzR(*4gpd8:>W{;d/F6:w>77cF+v[0i(-mT8N1/5;up0CTbxn-:xkw=Bq,1#3KjV:oo0n:t:yQ,M0kyM1HqJ,-r1:9uS[3P?hoCD#s5a*HT)jDbp6Iwe}xs,xbsm^v1,jS9;Usr`F{}+=3y8Sh/Fn8+Lol9GK-~&DYP+bYQ]KE^tVC=8SDLM'XT]IGA4CFNu0N}q^/oL7jLn?{um$+0c(n1Ng>p:^1k=x[EYF.ig+6H?T'B1k~iv+1*[mBJk.hq4U}E$wG~$0yM><,&P]GEg#z|DV8(oJhFxb'Tz#-`[h*aC62,poC4PDQwidxe^/p^FJ~KvuXud>$XyPFc.x$1/koN875$ZAC=)+q$:y{wKxQM;j&gyF*s+j46h{)%64T.,1.Sn>Ou'_SK-<i'*Fl.vp_2Q|$8dB~1Eyq)1s/-)ZhGQ?IwFE)pW9BjRcd}'.VwB6%^nv/SKcMbJ;]:rf=[cn94IeMH$oy==IR0Yr-0nA8;,W4WD0.lFXuW^~*gu6)|0`LTB2+6:AOLmtJn*LF+5/<OuYaQ7PrGvP,r-A<D9{804Zn)D<-s{Bk.m<OdsoWGb<r/S1w#LQN#UDEC3`2_ypy*;g2c2c9y=rO5RfAnaUpfF^9k7Kc;#[OM5Pwj8d`1Bn}o~YjtDC.g*2F(fU(4A|(cktl<}%Lt.l6Jt?;vAMKM3-TR<oO_mcj>U{/C:6VTqD6*I5,?5MC&5Q{`8ZuM4|}]QLG/D&3MKjp530[aU{x2/PJ)d8On|C4SB>/,2:ARkU(Xsd:zwU0C)9oQ>CCD*#=+'6/#{)V7>P#q2h5j_3NbE:2K<[{P(;/phJX:O/744i0L5x+o2~0{'PO~kxENik-;;4){P7OB7;H6]WI_`b9`Ek683>l:24&'?LBgjeL_F-#*%gnk_(D^pq'2p*(Mn6b-#o_1Mme9nH(|8yib;bdrPh%>_*bPn7?f[9v[ClXf-|0|*v6E=H1na}ycCu2r6-j~9ui_*vQ6]<hMdMs(%,SX3/v+r03h%<YPm|YGS0K)L5-w+Y=SdW2JU3Jp13+)zY?%Pj(;eWY|aD#b4E36/J8%Au6vHMH:Hfg>9a(?s~O_CNOgkB8=:t~lL??i#V3I*(,9U;e?m*R~&'+dr7R`^u8>;}]9h'c.HF>8.&NHSL8.V_uv/>uSHff5'F=*FP4W|{&QiXY)0G6n%U4HZhN)'0tt>([?L?LBCmpx1M9ZCov%wy-H0gW#`+-}w6R{bYv?pdEp/o7}R'[gla>fTGk0K|wKBSYxBK.(*aMiL`cO]p/a>0z<K.Eubv04q+C76iTQ38dMq^gVZLAtOd7O#?]-<R:K[mYi#bC%-/D--GEL4>{o1fb6V]1^WbZq'l%700]eJWBdk#2N5w^RNr5R9T^&3Md.cr9qj#XvgmgSRs(qh3e)=c0Sr6'IiWy1Jfg*u=d'gK.*),s4|zdGN~S0rxI*oaK:m^F}Za7l&/9c4H#r#/4bdrn{D=8zLT:71x+7SK9Lq1t82-=V2<546M<]C{8rRVqhHO's%:Q>yTHL8V.w['yoW/-068svz3=q]eG[0jwM.;m10J+xnuvA'Z2^SRM47YqOOQW(3==f?hF61gMh1txZDjN,*GEjm`?c.xK7+kY_$7?pRY$znM&>$Nn7;J/>00AsOE1wW<IyN?v?:,RC<ZJ]v8w$[7S70j,$(t[ZOgQ6QbXHvN:b41ORPiZ)HF.}<JRoP202ugt}{M%60qCRsKP3LQ$WmRcGbY/>&o|)7&YT+%*f)+x.N'?;ESikj2VgNOE|-TS($jCG+cbf8;-_9(NPE3}S3QJ4#DPkIt4Xjz&`*aM0|hk/PriS=#me3nR$Wk#u{j{(J^DV]_;,P1?}#Z#NN9j/2y_pV',j/P3Mp,o[I%x6;{rH{/N$<}1eHj,{m'Pg?3zgbi~bxB31>s905aY<6~ByPZ>pdtCU|6u*wStm/ULnLtDioUL>'1_&rA[5-Kpc_l:N|H7GB'CwH+Zu)*{RvE,[?J8nIMhu<k~c=h;,`Bl|=zHsl.#.T=qVB8a%bAlmM|Ff*=oNc]-k63Hha`m]H)FPw^Af&3S50iR%0K=lk]MV{-4Jci8*)^5O-BWgy^.J(tljz2z%MO)jVJ?Ho&:m.qeNisP69um[m[)R;rDSHn_erUp{'.TX37)[&J>+oIo)L_.0=L){c#G'/TJ)iF<kJVFj*OFN=u0+OEI<OGR:_(Eu?AY-g.(6,VR*LoN$</8<2$[7qu^6ST-]B'tF;{kyL'}hX6acS~)H|Rs1an2C=O[s<Ked5#$b*lK},po|&5ivWwz*^|&|5Ebsl1_7*4EYng?r*t0?Ar*t>I2[OmEXH;PxQ>%xU*?7?C#_L&>TJ=i.vfB}mOL}^z5C:,8R*~$|?O1k+}{A>,/U7xJ22>HoD15`G)vof4y<$^l3[~.``|=&AN9tR.9+*4H%T'y9HqGy3^G]Ueet3NU-,0I2^eIs_W[d$fBT.FbkTR~xkNH5?BLKD>_29<Um~[vG,FCa>,LD}FTVG?C+~)Wd$$0n#z.+38gv+H^f8`LZbJE$qsN|E-gv1.xWmjw&U,O?v|EDDUq{&v;t([;AK22Lct$0q?gR,t|=n=*Mly=yfwGY1_UY2>i:Vn4)SVM;uB[Ti*s0>Xf|v41R1JJHrM]kLW`{2wSRh.G^N~6RI6S0/M_m&2G{Pm=tvj?/=gf.Pb&]%'+E7l9g+.(TyIM|UkX,H%8$XlFtn~-}aRmpbubB%UW;[MqW8rOOOeQ44(]?1AcY/=B/*u#FY2xJpVeQ#vIIlv3=(6)f*h*70q{W,$Q[3/N8/3;(GTxw*&N*,Ls*aT#{tS/VC[|Lr9Q-*B(%s_9eaf;^IF_IXk1[Ogk+FyMl}?4{DDZH]ln_&0#fK95?BaLHpxk~y=#:3QOQ3'u9+i&l5:XtT<mW8}<:n$Hk-aD?P()$E'_{&o|AR^|>%`D<}-SR0G[sKfEc5('>%nL=5I},c3~(E7bvReYEH($VwxSzmlNcMz]Olr25`7)-99`;$cpsS/,<Qip$t#C>{T%tvIbK;;8?L4sI(`KtOIIr}Y.iIx<51EN2Lb2IxJon%YqVP+tX86K#UE6H4%0B<8G}:&XN:pSNdo&U>0Sy(9#w4Weus*gjq}E?;:7(B7rQ)W3qzD,%3BKNlX>{C6b`-ezwU*rjnsQopek6y<~c2,2_S}1,DM#7FGhsr-Vp5ajW'Jb]];)]'22/LgxtC?,}Cs'c[6%lLC'&}_W#3|OdMob+y;6e{tvM?5Aq3{&XJ5.CL:+xAV_oeN>J*%w(d|z*YZ*deham/PNh<MS)svI%l=3p61QZWtxCDE)p)wO4qk0)kJSAqER~>m;[2RP63T9/Y&H$cZG_K+^6dI}W5OQdT*D}p}d1"
end
open PySem PySem.W PyProof.Rows
set_option maxRecDepth 100000 in
set_option maxHeartbeats 0 in
theorem PySem.Challenge.cw_relaid_k53_strands_by_walking_holds : PySem.Challenge.rw_relaid_k53_strands_by_walking.Holds := by
  w_on; o_law; k_head; (case hw => w_witness2)
  k_fill
  refine R53.walk (l:= PySem.Challenge.rw_relaid_k53_strands_by_walking) rfl rfl (fun w h Y => ⟨PySem.W.km_in_of Y, PySem.W.km_tabs_of Y⟩) ?P ?F
  case P =>
    intro w P hP;simp only [List.mem_cons, List.not_mem_nil, or_false] at hP;rcases hP with rfl | rfl
    all_goals kernel_rfl
  case F =>
    intro w mg fa h KX G hmg;apply R53.law_ok hmg
    iterate 14 exact PySem.W.mg_of KX G (by k_is)
    iterate 6 exact PySem.W.mg_none_of KX G (by k_is)
    · constructor <;> exact PySem.W.mg_none_of KX G (by k_is)
    · exact ⟨PySem.W.mg_none_of KX G (by k_is), PySem.W.mg_none_of KX G (by k_is), PySem.W.mg_none_of KX G (by k_is), PySem.W.mg_none_of KX G (by k_is), PySem.W.mg_none_of KX G (by k_is), PySem.W.mg_none_of KX G (by k_is), PySem.W.mg_none_of KX G (by k_is), _, PySem.W.mg_of KX G (by k_is)⟩
    · exact ⟨PySem.W.mg_none_of KX G (by k_is), PySem.W.mg_none_of KX G (by k_is), PySem.W.mg_none_of KX G (by k_is), PySem.W.mg_none_of KX G (by k_is), R53.kib _⟩
    iterate 11 focus (constructor; exact L2.clk (by k_is) (by k_is) (by k_is) (by k_is); all_goals (show _ = _; k_is))
    iterate 11 exact ⟨by k_is, by k_is⟩
    iterate 70 exact L2.fnk KX G (by k_is) (by k_is) (by k_is) (by k_is) (by first | exact L2.usOf1 fun _ => rfl | exact L2.usOf2 fun _ _ => rfl | exact L2.usOf3 fun _ _ _ => rfl | exact L2.usOf4 fun _ _ _ _ => rfl)
    iterate 34 exact L2.mek (by k_is) (by k_is) (by k_is) (by k_is) (by k_is) (by first | exact L2.usOf1 fun _ => rfl | exact L2.usOf2 fun _ _ => rfl | exact L2.usOf3 fun _ _ _ => rfl | exact L2.usOf4 fun _ _ _ _ => rfl | exact L2.usOf5 fun _ _ _ _ _ => rfl)
    · exact L2.bsk (by k_is) (by k_is) (by k_is) (by k_is) (by k_is) (by k_is) (L2.usOf4 fun _ _ _ _ => rfl)
    · exact R53.lnk (by k_is) (by k_is) (by k_is) (by k_is) (by k_is) (by k_is)
    · exact L2.ftk KX G (by k_is) (by k_is) (by k_is) (by k_is) (L2.usOf1 fun _ => rfl) (by kernel_rfl)
    · exact L2.ftk KX G (by k_is) (by k_is) (by k_is) (by k_is) (L2.usOf2 fun _ _ => rfl) (by kernel_rfl)
    · exact L2.flk KX G (by k_is) (by k_is) (by k_is) (by k_is) fun _ => rfl
    · rfl
#print axioms PySem.Challenge.cw_relaid_k53_strands_by_walking_holds
