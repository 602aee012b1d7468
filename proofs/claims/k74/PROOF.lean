import PyProof.Rows.All
import Wide.All
import OpenK.AllK
import Wide.FinOn
import Lean
import PyProof.EqAt
import PyProof.EqKinds
import PyProof.TupleCall
import KE.KSortKey
import KE.KLam
import KE.KNestM
import PySem.Challenge.RW_relaid_k74_whole_back_and_forth
set_option compiler.extract_closed false
open PySem.Heap (get?_push_of_some get?_push_size lt_size)
open PySem.W (Frag callWith_K codeIn emptyDict findCls findIn fnOf handedIn hasDictIn instObj isFn keepIn lookIn makesIn methodCall_KW mg_of nsIn plainGet plainGet_of plainOver readsIn takerIn)
open List (all_eq_true append_nil cons_append drop_left ext_getElem? filter_append filter_cons flatMap_append flatMap_cons foldl getD_eq_getElem?_getD getElem?_append_left getElem?_append_right getElem?_eq_none getElem?_map getElem?_range getElem?_set_ne getElem_idxOf getElem_inj getElem_of_mem idxOf_lt_length_iff length_append length_cons length_drop length_filter_le length_map length_range length_replicate length_set length_take map_append map_congr_left map_cons map_map mem_append mem_append_left mem_append_right mem_cons mem_cons_of_mem mem_cons_self mem_filter mem_flatMap mem_map mem_of_mem_take mem_range mem_singleton nil_append nodup_append nodup_cons nodup_nil nodup_range not_mem_nil pairwise_cons pairwise_lt_range pairwise_map range_succ size_toArray sum_append sum_cons take_add_one take_append_drop take_length take_of_length_le)
open Array (length_toList)
open PyProof.Rows (boot_abs boot_list boot_min boot_sorted boot_sum boot_tuple callWith_builtin1 callWith_type1)
open Option (isSome_iff_exists map_some)
open PySem (boot_len mem_of_lookup)
set_option Elab.async false
set_option linter.all false
set_option maxRecDepth 100000
set_option maxHeartbeats 4000000
namespace L2
open PySem PySem.Spec PyProof.Rows
noncomputable abbrev Key:=Sum Int Str
noncomputable def Jh8:Key->Value->Bool
 | .inl k,v=>Value.isInt k v
 | .inr x,v=>Value.isStrOf x v
noncomputable def keyH(w:World):Key->Int
 | .inl k=>hashInt k
 | .inr x=>hashStr w x
theorem J20:∀ {k:Key} {v:Value},Jh8 k v=true->(∃ i t,k=Sum.inl i/\v=Value.int i t)\/(∃ x t,k=Sum.inr x/\v=Value.str x t)
 | .inl i,v,h=>by
  obtain ⟨t,e⟩:=Value.isInt_shape (k:=i) (v:=v) h;exact .inl ⟨i,t,rfl,e⟩
 | .inr x,v,h=>by
  obtain ⟨t,e⟩:=Value.isStrOf_shape (x:=x) (v:=v) h;exact .inr ⟨x,t,rfl,e⟩
theorem Jkk(i:Int)(t:Tok):Jh8 (.inl i) (.int i t)=true:=by simp [Jh8,Value.isInt]
theorem Jkj(x:Str)(t:Tok):Jh8 (.inr x) (.str x t)=true:=by simp [Jh8,Value.isStrOf]
theorem key_ll(a b:Int):decide ((Sum.inl a:Key)=Sum.inl b)=(a == b):=by
 grind
theorem key_rr(a b:Str):decide ((Sum.inr a:Key)=Sum.inr b)=decide (a=b):=by
 grind
theorem key_lr(a:Int)(b:Str):decide ((Sum.inl a:Key)=Sum.inr b)=false:=decide_eq_false (fun q=>nomatch q)
theorem key_rl(a:Str)(b:Int):decide ((Sum.inr a:Key)=Sum.inl b)=false:=decide_eq_false (fun q=>nomatch q)
noncomputable def J1z(prog:Program)(w:World):PySem.KeyKind prog w Key where
 is:=Jh8
 hash:=keyH w
 inj:=fun v a b f hb=>by
  rcases J20 f with ⟨i,t,rfl,rfl⟩ | ⟨x,t,rfl,rfl⟩
  ·rcases J20 hb with ⟨j,u,rfl,e⟩ | ⟨y,u,rfl,e⟩
   ·injection e with e1 _;rw [e1]
   ·exact nomatch e
  ·rcases J20 hb with ⟨j,u,rfl,e⟩ | ⟨y,u,rfl,e⟩
   ·exact nomatch e
   ·injection e with e1 _;rw [e1]
 byValue:=fun k v h=>by
  rcases J20 h with ⟨i,t,rfl,rfl⟩ | ⟨x,t,rfl,rfl⟩ <;> rfl
 pyHash:=fun c h=>by
  rcases J20 c with ⟨i,t,rfl,rfl⟩ | ⟨x,t,rfl,rfl⟩
  ·exact wpAny_pyHash_int h
  ·exact wpAny_pyHash_str h
 eqBool:=fun d c h=>by
  rcases J20 d with ⟨i,t,rfl,rfl⟩ | ⟨x,t,rfl,rfl⟩
  ·rcases J20 c with ⟨j,u,rfl,rfl⟩ | ⟨y,u,rfl,rfl⟩
   ·rw [key_ll] at h;exact wpAny_eqBool_int h
   ·rw [key_lr] at h;exact SeqAt.EqAt.int_str i t y u _ _ _ _ h
  ·rcases J20 c with ⟨j,u,rfl,rfl⟩ | ⟨y,u,rfl,rfl⟩
   ·rw [key_rl] at h;exact SeqAt.EqAt.str_int x t j u _ _ _ _ h
   ·rw [key_rr] at h;exact wpAny_eqBool_str h
 «strs»:=fun k x t v h=>by
  rcases J20 h with ⟨i,u,rfl,e⟩ | ⟨y,u,rfl,e⟩
  ·exact nomatch e
  ·injection e with e1 _
   subst e1;cases v <;> rfl
theorem Je6(prog:Program)(w:World)(i:Int)(t:Tok):(J1z prog w).is (.inl i) (.int i t)=true:=Jkk i t
theorem Je5(prog:Program)(w:World)(x:Str)(t:Tok):(J1z prog w).is (.inr x) (.str x t)=true:=Jkj x t
inductive V where
 | non | bl (b:Bool) | int (i:Int) | str (x:Str) | byt (b:Array UInt8) | flt (b:UInt64) | ref (a:Addr) | ty (n:String)
 deriving DecidableEq
noncomputable def RelV:V->Value->Prop
 | .non,u=>u=Value.none
 | .bl b,u=>u=Value.bool b
 | .int i,u=>∃ t,u=Value.int i t
 | .str x,u=>∃ t,u=Value.str x t
 | .byt b,u=>∃ t,u=Value.bytes b t
 | .flt b,u=>∃ t,u=Value.float b t
 | .ref a,u=>u=Value.ref a
 | .ty n,u=>u=Value.type n
noncomputable abbrev Vals:List V->List Value->Prop:=Paired RelV
theorem Vals.length(r:Vals xs us):xs.length=us.length:=Paired.length r
theorem Vals.get:∀ {xs:List V} {us:List Value} {i:Nat} {x:V},Vals xs us->xs[i]?=some x->∃ u,us[i]?=some u/\RelV x u
 | _,_,_,_,.nil,e=>by simp at e
 | _,_,0,_,.cons r _,e=>by simp at e;subst e;exact ⟨_,rfl,r⟩
 | _,_,i + 1,x,.cons _ t,e=>by
  obtain ⟨u,b,a⟩:=Vals.get (i:=i) (x:=x) t (by simpa using e);exact ⟨u,by assumption,a⟩
theorem Vals.set(r:RelV x u):∀ {xs:List V} {us:List Value} (i:Nat),Vals xs us->Vals (xs.set i x) (us.set i u)
 | _,_,_,.nil=>.nil
 | _,_,0,.cons _ t=>.cons r t
 | _,_,i + 1,.cons q t=>.cons q (Vals.set r i t)
theorem Vals.append:∀ {xs a:List V} {us ws:List Value},Vals xs us->Vals a ws->Vals (xs ++ a) (us ++ ws)
 | _,_,_,_,.nil,s=>s
 | _,_,_,_,.cons r t,s=>.cons r (Vals.append t s)
theorem Vals.take:∀ {xs:List V} {us:List Value} (n:Nat),Vals xs us->Vals (xs.take n) (us.take n)
 | _,_,0,_=>.nil
 | _,_,_ + 1,.nil=>.nil
 | _,_,n + 1,.cons r t=>.cons r (Vals.take n t)
theorem Vals.drop:∀ {xs:List V} {us:List Value} (n:Nat),Vals xs us->Vals (xs.drop n) (us.drop n)
 | _,_,0,r=>r
 | _,_,_ + 1,.nil=>.nil
 | _,_,n + 1,.cons _ t=>Vals.drop n t
noncomputable def RelO:Option V->Option Value->Prop
 | some v,some u=>RelV v u
 | none,none=>True
 | _,_=>False
noncomputable def KV{κ:Type}:List (κ × V)->List (κ × Value)->Prop:=Paired fun (p:κ × V) (q:κ × Value)=>p.1=q.1/\RelV p.2 q.2
noncomputable def kV:Key->V
 | .inl i=>.int i
 | .inr x=>.str x
inductive HO where
  | lst (xs:List V)
  | tup (xs:List V)
  | dK (kvs:List (Key × V)) | dT (kvs:List (List Key × V))
  | set (S:Int->Bool) (n:Nat)
  | ins (C dx:Addr) (fs:List (Str × V))
  | own (x:Addr)
  | xd (fs:List (Str × V))
  | met (f x:Addr)
  | rng (lo hi:Int)
  | frz (o:Obj) (u:HO)
  | tbl (ps:Array Value)
  | ext (φ:Heap->Prop)
noncomputable abbrev Hp:=Addr->Option HO
noncomputable def upd(H:Hp)(a:Addr)(o:HO):Hp:=fun b=>if b=a then some o else H b
theorem J6 :upd H a o a=some o:=by unfold upd;rw [if_pos rfl]
theorem Jm(h:b≠a):upd H a o b=H b:=by unfold upd;rw [if_neg h]
theorem Jde :upd (upd H a o) a u=upd H a u:=by
 funext b;unfold upd;split <;> rfl
theorem Joj{H:Hp}(h:H a=some o)(h':H b=some u)(d:o≠u):a≠b:=by
 intro e;subst e;rw [h] at h';exact d (Option.some.inj h')
theorem Jd{H:Hp}(h:H a=some o)(h':H b=none):a≠b:=by
 lia
section
variable(P:Program)(w:World)
noncomputable def TupX(h:Heap)(a:Addr)(b:Array Value):Prop:=∃ o,h.get? a=some o/\(o.cls=.type "tuple"/\o.dict=none)/\∃ n,o.data=.seq b n
theorem TupX.tup(x:TupX h a items):IsTup h a items:=by obtain ⟨o,e,c,r⟩:=x;exact ⟨o,e,c.1,r⟩
theorem TupX.lt(x:TupX h a items):a < h.objs.size:=by obtain ⟨_,e,_⟩:=x;exact lt_size e
theorem TupX.new(h:Heap)(a:Array Value):TupX (h.push { cls:=.type "tuple",data:=.seq a }) h.objs.size a:=⟨_,get?_push_size _ rfl,⟨rfl,rfl⟩,_,rfl⟩
noncomputable def J34(H:Hp)(h:Heap)(a:Addr):HO->Prop
 | .lst xs=>xs.length<=sizeLine/\∃ (its:List Value) (n:Nat),Vals xs its/\h.get? a=some { cls:=.type "list",data:=.seq its.toArray n }
 | .tup xs=>xs.length<=sizeLine/\∃ its:List Value,Vals xs its/\TupX h a its.toArray
 | .dK kvs=>kvs.length<=sizeLine/\(a == sysModules)=false/\∃ vs,KV kvs vs/\h.DictOf (J1z P w) a vs
 | .dT kvs=>kvs.length<=sizeLine/\(a == sysModules)=false/\∃ xs:List (List Key × Addr × Value),
   Paired (fun (p:List Key × V) (q:List Key × Addr × Value)=>p.1=q.1/\H q.2.1=some (.tup (p.1.map kV))/\RelV p.2 q.2.2) kvs xs/\
   ∃ o es ep,h.get? a=some o/\o.ExactDict/\o.data=.dict es ep/\es.toList=xs.map (entryOfKey (tupleKind (J1z P w)))/\(xs.map (·.1)).Nodup
 | .set S n=>h.SetOf (intKind P w) a S n
 | .ins C dx fs=>H dx=some (.own a)/\fs.length<=1000/\dx≠a/\h.get? a=some (instObj C dx)/\
   ∃ mA,h.Ns1 dx mA/\(∀ f,RelO (fs.lookup f) (mA f))/\PySem.Within mA (fs.map (·.1))
 | .own _=>∃ o,h.get? a=some o
 | .xd fs=>∃ mA,h.Ns1 a mA/\∀ f,RelO (fs.lookup f) (mA f)
 | .rng lo hi=>∃ t u v,h.get? a=some { cls:=.type "range",data:=.fields #[.int lo t,.int hi u,.int 1 v] }
 | .frz o u=>h.get? a=some o/\J34 H h a u
 | .tbl ps=>h.get? a=some { cls:=.none,data:=.fields ps }
 | .met f x=>h.get? a=some (PySem.W.methodObj (.ref f) (.ref x))
 | .ext φ=>φ h/\(∃ o,h.get? a=some o)/\∀ h1 h2:Heap,φ h1->(∀ o,h1.get? a=some o->h2.get? a=some o)->φ h2
noncomputable def HOk(H:Hp)(h:Heap):Prop:=∀ a o,H a=some o->J34 P w H h a o
end
section
variable{P:Program}{w:World}{H H':Hp}{h h':Heap}{a:Addr}{o:HO}
theorem J34.lt(x:J34 P w H h a o):a < h.objs.size:=by
 cases o with
 | lst xs=>obtain ⟨_,_,_,_,e⟩:=x;exact lt_size e
 | tup xs=>obtain ⟨_,_,_,p⟩:=x;exact p.lt
 | dK kvs=>obtain ⟨_,_,_,_,o,_,_,e,_⟩:=x;exact lt_size e
 | dT kvs=>obtain ⟨_,_,_,_,o,_,_,e,_⟩:=x;exact lt_size e
 | set S n=>obtain ⟨o,_,_,_,e,_⟩:=x;exact lt_size e
 | ins C dx fs=>obtain ⟨_,_,_,e,_⟩:=x;exact lt_size e
 | own y=>obtain ⟨_,e⟩:=x;exact lt_size e
 | xd fs=>obtain ⟨_,⟨_,_,_,e,_⟩,_⟩:=x;exact lt_size e
 | rng lo hi=>obtain ⟨_,_,_,e⟩:=x;exact lt_size e
 | frz ob u=>obtain ⟨e,_⟩:=x;exact lt_size e
 | tbl ps=>exact lt_size (show h.get? a=some _ from x)
 | met f y=>exact lt_size (show h.get? a=some _ from x)
 | ext φ=>obtain ⟨_,⟨_,e⟩,_⟩:=x;exact lt_size e
theorem Paired.mapP :∀ {l₁:List α} {l₂:List β},Paired F l₁ l₂->(∀ a b,F a b->G a b)->Paired G l₁ l₂
 | _,_,.nil,_=>.nil
 | _,_,.cons r t,f=>.cons (f _ _ r) (Paired.mapP t f)
theorem J34.stay(x:J34 P w H h a o)(k:∀ b u,(b=a\/H b=some (.own a))->h.get? b=some u->h'.get? b=some u)(A:∀ b,H b=some (.own a)->H' b=some (.own a))(s:∀ b xs,H b=some (.tup xs)->H' b=some (.tup xs)):J34 P w H' h' a o:=by
 induction o with
 | lst xs=>obtain ⟨z,j,n,r,e⟩:=x;exact ⟨z,j,n,r,k _ _ (.inl rfl) e⟩
 | tup xs=>obtain ⟨z,j,r,g,e,c⟩:=x;exact ⟨z,j,r,g,k _ _ (.inl rfl) e,c⟩
 | dK kvs=>obtain ⟨z,y,vs,r,g,i,ep,e,c⟩:=x;exact ⟨z,y,vs,r,g,i,ep,k _ _ (.inl rfl) e,c⟩
 | dT kvs =>
  obtain ⟨z,y,xs,r,g,i,ep,e,c⟩:=x;exact ⟨z,y,xs,Paired.mapP r fun p q z=>⟨z.1,s _ _ z.2.1,z.2.2⟩,g,i,ep,k _ _ (.inl rfl) e,c⟩
 | set S n=>obtain ⟨g,i,ep,t,e,c⟩:=x;exact ⟨g,i,ep,t,k _ _ (.inl rfl) e,c⟩
 | ins C dx fs =>
  obtain ⟨d,z,ne,e,m,⟨l,i,ep,B,c⟩,r⟩:=x;exact ⟨A _ d,z,ne,k _ _ (.inl rfl) e,m,⟨l,i,ep,k _ _ (.inr d) B,c⟩,r⟩
 | own y=>obtain ⟨g,e⟩:=x;exact ⟨g,k _ _ (.inl rfl) e⟩
 | xd fs=>obtain ⟨m,⟨l,i,ep,e,c⟩,r⟩:=x;exact ⟨m,⟨l,i,ep,k _ _ (.inl rfl) e,c⟩,r⟩
 | rng lo hi=>obtain ⟨t,u,v,e⟩:=x;exact ⟨t,u,v,k _ _ (.inl rfl) e⟩
 | frz g u ih=>obtain ⟨e,q⟩:=x;exact ⟨k _ _ (.inl rfl) e,ih q⟩
 | tbl ps =>
  have e:=x;exact k a _ (.inl rfl) e
 | met f y =>
  have e:=x;exact k a _ (.inl rfl) e
 | ext φ=>obtain ⟨p,⟨o,e⟩,st⟩:=x;exact ⟨st _ _ p fun o q=>k _ _ (.inl rfl) q,⟨o,k _ _ (.inl rfl) e⟩,st⟩
theorem HOk.lt(x:HOk P w H h)(e:H a=some o):a < h.objs.size:=(x a o e).lt
theorem HOk.fresh(x:HOk P w H h)(e:h.objs.size<=a):H a=none:=by
 cases q:H a with
 | none=>rfl
 | some u=>exact absurd (Nat.lt_of_lt_of_le (x.lt q) e) (Nat.lt_irrefl _)
theorem HOk.kept(x:HOk P w H h)(k:∀ b u,h.get? b=some u->h'.get? b=some u):HOk P w H h':=fun a o e =>
 (x a o e).stay (fun b u _ q=>k b u q) (fun _ q=>q) fun _ _ q=>q
theorem HOk.laid(x:HOk P w H h)(k:∀ b u,h.get? b=some u->h'.get? b=some u)(f:h.objs.size<=a)(new:J34 P w (upd H a o) h' a o):HOk P w (upd H a o) h':=fun b u e=>by
 have d:=x.fresh f;by_cases hb:b=a
 ·subst hb;rw [J6] at e;cases e;exact new
 ·rw [Jm hb] at e;exact (x b u e).stay (fun c v _ q=>k c v q) (fun c q=>by rw [Jm (Jd q d)];exact q) fun c xs q=>by rw [Jm (Jd q d)];exact q
end
noncomputable def Rd(H:Hp)(a:Addr)(u:HO):Prop:=H a=some u\/∃ o,H a=some (.frz o u)
theorem Rd.ok(r:Rd H a u)(x:HOk P w H h):J34 P w H h a u:=by
 rcases r with r | ⟨o,r⟩
 ·exact x a u r
 ·obtain ⟨_,q⟩:=x a _ r;exact q
noncomputable def Mut:Option HO->Prop
 | some (.lst _)=>True
 | some (.dK _)=>True
 | some (.dT _)=>True
 | some (.set _ _)=>True
 | some (.ins _ _ _)=>True
 | some (.ext _)=>True
 | _=>False
section
variable{P:Program}{w:World}{H:Hp}{h h':Heap}{x e:Addr}{o':HO}
theorem HOk.write(ok:HOk P w H h)(mu:Mut (H x))(l:e=x\/H e=some (.own x))(k:∀ b u,b≠e->h.get? b=some u->h'.get? b=some u)(i:∃ u,h'.get? e=some u)(new:J34 P w (upd H x o') h' x o'):HOk P w (upd H x o') h':=fun b u q=>by
 have d:∀ c y,H c=some (.own y)->c≠x:=fun c y r z=>by subst z;rw [r] at mu;exact mu
 have f:∀ c xs,H c=some (.tup xs)->c≠x:=fun c xs r z=>by subst z;rw [r] at mu;exact mu
 by_cases hb:b=x
 ·subst hb;rw [J6] at q;cases q;exact new
 ·rw [Jm hb] at q;by_cases a:b=e
  ·have j:H b=some (.own x):=by
    rcases l with z | z
    ·exact absurd (a.trans z) hb
    ·rw [a];exact z
   rw [q] at j;cases j;obtain ⟨v,m⟩:=i;exact ⟨v,by rw [a];exact m⟩
  ·refine (ok b u q).stay (fun c v g r=>k c v ?_ r) (fun c r=>by rw [Jm (d c b r)];exact r) fun c xs r=>by rw [Jm (f c xs r)];exact r
   rcases g with rfl | g
   ·exact a
   ·rintro rfl;rcases l with z | z
    ·exact d c b g z
    ·rw [g] at z;cases z;exact hb rfl
end
structure Un(fs ex:List Addr)(H H':Hp)(h h':Heap):Prop where
 keep:∀ b o,h.get? b=some o->H b=none->b ∉ fs->b ∉ ex->h'.get? b=some o
 slot:∀ b o,h.get? b=some o->H b=none->b∈fs->b ∉ ex->∃ sl,h'.get? b=some { o with slots:=sl }
 free:∀ b o,h.get? b=some o->H b=none->b ∉ ex->H' b=none
 there:∀ b o,h.get? b=some o->b ∉ ex->∃ o',h'.get? b=some o'
 tups:∀ b xs,H b=some (.tup xs)->H' b=some (.tup xs)
 frzs:∀ b o u,H b=some (.frz o u)->H' b=some (.frz o u)
 tbls:∀ b ps,H b=some (.tbl ps)->∃ more,H' b=some (.tbl (ps ++ more))
section
variable{fs fs' ex ex':List Addr}{H H1 H2:Hp}{h h1 h2 h':Heap}{a x e:Addr}{o:HO}
theorem Un.any(u:Un fs ex H H1 h h1)(q:h.get? b=some ob)(n:H b=none)(a:b ∉ ex):∃ c,h1.get? b=some { ob with slots:=c }:=by
 by_cases hb:b∈fs
 ·exact u.slot b ob q n hb a
 ·exact ⟨ob.slots,u.keep b ob q n hb a⟩
theorem Un.kept(k:∀ b u,h.get? b=some u->h'.get? b=some u):Un fs ex H H h h':=
 ⟨fun b a q _ _ _=>k b a q,fun b a q _ _ _=>⟨a.slots,k b a q⟩,fun _ _ _ n _=>n,fun b a q _=>⟨a,k b a q⟩,fun _ _ q=>q,fun _ _ _ q=>q,fun _ ps q=>⟨#[],by rw [q];simp⟩⟩
theorem Un.refl:Un fs ex H H h h:=Un.kept fun _ _ q=>q
theorem Un.laid(k:∀ b u,h.get? b=some u->h'.get? b=some u)(d:h.objs.size<=a)(c:H a=none):Un fs ex H (upd H a o) h h' where
 keep:=fun b u q _ _ _=>k b u q
 slot:=fun b u q _ _ _=>⟨u.slots,k b u q⟩
 free:=fun b u q n _=>by rw [Jm (Nat.ne_of_lt (Nat.lt_of_lt_of_le (lt_size q) d))];exact n
 there:=fun b u q _=>⟨u,k b u q⟩
 tups:=fun b xs q=>by rw [Jm (Jd q c)];exact q
 frzs:=fun b u xs q=>by rw [Jm (Jd q c)];exact q
 tbls:=fun b ps q=>⟨#[],by rw [Jm (Jd q c),q];simp⟩
theorem Un.write(mu:Mut (H x))(i:e=x\/H e=some (.own x))(k:∀ b u,b≠e->h.get? b=some u->h'.get? b=some u)(d:∃ u,h'.get? e=some u):Un fs ex H (upd H x o) h h':=by
 have g:∀ b,H b=none->b≠x:=fun b n z=>by subst z;rw [n] at mu;exact mu
 have hb:∀ b,H b=none->b≠e:=fun b n z=>by
  simp_all
 have c:∀ b u,H b=some u->¬ Mut (some u)->b≠x:=fun b u q f z=>by subst z;rw [q] at mu;exact f mu
 refine ⟨fun b u q n _ _=>k b u (hb b n) q,fun b u q n _ _=>⟨u.slots,k b u (hb b n) q⟩,fun b u q n _=>by rw [Jm (g b n)];exact n,fun b u q _=>?_,
  fun b xs q=>by rw [Jm (c b _ q fun z=>z)];exact q,fun b u xs q=>by rw [Jm (c b _ q fun z=>z)];exact q,fun b ps q=>⟨#[],by rw [Jm (c b _ q fun z=>z),q];simp⟩⟩
 by_cases a:b=e
 ·subst a;exact d
 ·exact ⟨u,k b u a q⟩
end
noncomputable def trk(h:Heap)(H:Hp):List Addr:=(List.range h.objs.size).filter fun a=>(H a).isSome
noncomputable def hidT(h:Heap)(H:Hp):Heap:=PySem.W.hideAll h (trk h H)
theorem Jkx(h:Heap)(H:Hp):(hidT h H).objs.size=h.objs.size:=PySem.W.hideAll_size _ _
theorem Jbf(e:h.get? b=some o)(n:H b=none):(hidT h H).get? b=some o:=
 PySem.W.hideAll_get _ e fun a=>by
  have q:=(mem_filter.mp a).2;rw [n] at q;simp at q
theorem Jrz(e:(hidT h H).get? b=some o):h.get? b=some o/\H b=none:=by
 have a:=PySem.W.of_hideAll (trk h H) e;refine ⟨a,?_⟩
 cases q:H b with
 | none=>rfl
 | some x =>
  have c:b∈trk h H:=mem_filter.mpr ⟨mem_range.mpr (lt_size a),by simp [q]⟩;have z:(hidT h H).get? b=none:=PySem.W.hideAll_none (trk h H) c;rw [z] at e;cases e
structure Mod(K:Frag)(mg:Str->Option Value)(base:Heap):Prop where
 kin:K.In base
 glob:base.Ns mainGlobals mg
 blt:∃ mb,base.Ns builtinsNs mb/\∀ x:Str,x≠"__name__"->mb x=bootBuiltins x
 nolimit:base.NoLimit
structure Cx where
 prog:Program
 w:World
 K:Frag
 mg:Str->Option Value
 base:Heap
 A:Around
 N:List Str
 s₀:Shared
 H₀:Hp
 env:Env
 outer:List Env
 stack:List Env
 ex:List Addr
 fn:Str->Bool
 calm:Bool
 pn:List (Addr × Obj)
 xe:Value->Shared->Prop
noncomputable def frs(l:List Env):List Addr:=l.filterMap (·.frame)
noncomputable abbrev Cx.fs(X:Cx):List Addr:=frs X.outer
noncomputable def Vis(a:Scope)(x:Str):Prop:=a.names.lookup x=some .local\/a.names.lookup x=some .cell\/a.names.lookup x=some .free
noncomputable def Loc(a:Scope)(x:Str):Prop:=a.names.lookup x=some .local\/a.names.lookup x=some .cell
noncomputable def Look(env:Env)(h:Heap)(m:Str->Option Value)(x:Str)(u:Value):Prop:=
 (env.kindOf x=some .local/\m x=some u)\/((env.kindOf x=some .cell\/env.kindOf x=some .free)/\∃ c,env.cells.lookup x=some c/\h.IsCell c (some u))
structure Cx.Ok(X:Cx):Prop where
 mod:Mod X.K X.mg X.base
 kind:X.env.scope.kind=.function
 glob:X.env.globals=mainGlobals
 blt:X.env.builtins=builtinsNs
 above:X.s₀.heap.objs.size<=X.env.locals
 inj:∀ x y c,X.env.cells.lookup x=some c->X.env.cells.lookup y=some c->x=y
 has:∀ x,(X.env.kindOf x=some .cell\/X.env.kindOf x=some .free)->∃ c,X.env.cells.lookup x=some c
 cab:∀ x c,X.fn x=true->X.env.cells.lookup x=some c->X.s₀.heap.objs.size<=c
 hd:X.calm=true->X.A.handled=none
 frames:X.A.frames=some X.stack
 stk:X.stack=X.outer\/(X.stack=X.env :: X.outer/\X.env.frame=some X.env.locals)
 exf:∀ b∈X.ex,b≠X.env.locals/\∀ x c,X.env.cells.lookup x=some c->c≠b
 bs:∀ b o,X.base.get? b=some o->X.s₀.heap.get? b=some o/\X.H₀ b=none
 bsz:X.base.objs.size<=X.s₀.heap.objs.size
 noex:∀ b o,X.base.get? b=some o->b ∉ X.ex
 exfs:∀ b∈X.ex,b ∉ X.fs
 funs:X.s₀.heap.FunFrames X.base X.outer
 frf:∀ b∈X.fs,X.H₀ b=none
structure Inv(X:Cx)(pins:List (Addr × Obj))(σ:List (Option V))(H:Hp)(s:Shared):Prop where
 ok:X.Ok
 os:s.os=X.s₀.os
 bare:AllBare s.gens
 base:Un X.fs X.ex X.H₀ H X.s₀.heap s.heap
 loc:∃ m,s.heap.Ns X.env.locals m/\∀ (i:Nat) (x:Str) (v:V),X.N[i]?=some x->σ[i]?=some (some v)->Vis X.env.scope x->∃ u,RelV v u/\Look X.env s.heap m x u
 cell:∀ x c,X.env.cells.lookup x=some c->∃ v,s.heap.IsCell c v
 free:H X.env.locals=none
 freeC:∀ x c,X.env.cells.lookup x=some c->H c=none
 pin:∀ p∈X.pn ++ pins,s.heap.get? p.1=some p.2/\H p.1=none/\p.1≠X.env.locals/\p.1 ∉ X.fs/\∀ v,p.2.data≠.cell v
 hok:HOk X.prog X.w H s.heap
 len:σ.length=X.N.length
section
variable{X:Cx}{pins:List (Addr × Obj)}{σ:List (Option V)}{H H':Hp}{s:Shared}{h':Heap}
theorem Cx.Ok.nofr(ok:X.Ok)(e:X.base.get? b=some o):b ∉ X.fs:=fun hb=>by
 have:=(ok.funs.mem hb).1
 grind
theorem Inv.bs(I:Inv X pins σ H s):∀ b o,X.base.get? b=some o->s.heap.get? b=some o/\H b=none:=fun b o e =>
 ⟨I.base.keep b o (I.ok.bs b o e).1 (I.ok.bs b o e).2 (I.ok.nofr e) (I.ok.noex b o e),I.base.free b o (I.ok.bs b o e).1 (I.ok.bs b o e).2 (I.ok.noex b o e)⟩
theorem Inv.bk(I:Inv X pins σ H s):∀ b o,X.base.get? b=some o->s.heap.get? b=some o:=fun b o e=>(I.bs b o e).1
theorem Inv.mod(I:Inv X pins σ H s):Mod X.K X.mg X.base:=I.ok.mod
theorem Inv.kIn(I:Inv X pins σ H s):X.K.In s.heap:=I.ok.mod.kin.keeps I.bk
theorem Inv.fr(I:Inv X pins σ H s):∃ m,Fr X.base X.env.locals s.heap m:=
 let ⟨m,hn,_⟩:=I.loc
 ⟨m,hn,I.bk,Nat.le_trans I.ok.bsz I.ok.above⟩
theorem Inv.lt(I:Inv X pins σ H s):X.env.locals < s.heap.objs.size:=by obtain ⟨_,a,_⟩:=I.loc;exact a.lt
theorem Inv.sz(I:Inv X pins σ H s):X.s₀.heap.objs.size<=s.heap.objs.size:=Nat.le_trans I.ok.above (Nat.le_of_lt I.lt)
theorem Inv.nofs(I:Inv X pins σ H s)(h:s.heap.objs.size<=a):a ∉ X.fs:=fun hb=>by
 obtain ⟨_,o,b,_⟩:=I.ok.funs.mem hb;exact absurd (Nat.lt_of_lt_of_le (lt_size b) (Nat.le_trans I.sz h)) (Nat.lt_irrefl _)
theorem Inv.cne(I:Inv X pins σ H s):∀ x c,X.env.cells.lookup x=some c->c≠X.env.locals:=fun x c e z=>by
 obtain ⟨v,o,f,hd⟩:=I.cell x c e;obtain ⟨m,⟨d,g,ep,a,b,_⟩,_⟩:=I.loc
 grind
theorem Inv.funs(I:Inv X pins σ H s):s.heap.FunFrames X.base X.outer:=by
 have all:∀ (l:List Env),(∀ b∈frs l,b∈X.fs)->X.s₀.heap.FunFrames X.base l->s.heap.FunFrames X.base l:=by
  intro l
  induction l with
  | nil=>intro _ _;trivial
  | cons env r ih =>
   intro d i;obtain ⟨j,⟨L,o,a,h,g,hd⟩,f⟩:=i;have c:=d L (by unfold frs;rw [List.filterMap_cons,a];exact mem_cons_self);obtain ⟨m,e⟩:=I.base.slot L o g (I.ok.frf L c) c fun z=>I.ok.exfs L z c;exact ⟨j,⟨L,_,a,h,e,hd⟩,ih (fun b hb=>d b (by unfold frs;rw [List.filterMap_cons,a];exact mem_cons_of_mem _ hb)) f⟩
 exact all X.outer (fun _ hb=>hb) I.ok.funs
theorem Inv.stack(I:Inv X pins σ H s):s.heap.FunFrames X.base X.stack:=by
 rcases I.ok.stk with e | ⟨e,hf⟩
 ·rw [e];exact I.funs
 ·rw [e];obtain ⟨m,a,_⟩:=I.loc;refine .cons (by rw [I.ok.kind];decide) hf a ?_ I.funs;exact Heap.get?_none_of_le (Nat.le_trans I.ok.bsz I.ok.above)
theorem Inv.stkSub(I:Inv X pins σ H s):∀ b∈frs X.stack,b∈X.env.locals :: X.fs:=fun b hb=>by
 rcases I.ok.stk with e | ⟨e,hf⟩
 ·simp_all
 ·rw [e] at hb;unfold frs at hb;rw [List.filterMap_cons,hf] at hb;exact hb
theorem Inv.stkFree(I:Inv X pins σ H s):∀ b∈frs X.stack,H b=none:=fun b hb=>by
 rcases mem_cons.mp (I.stkSub b hb) with e | hb
 ·rw [e];exact I.free
 ·obtain ⟨_,o,a,_⟩:=I.ok.funs.mem hb;exact I.base.free b o a (I.ok.frf b hb) fun z=>I.ok.exfs b z hb
theorem Inv.step{ch:List Addr}(I:Inv X pins σ H s)(g:∀ b∈ch,(b∈X.ex\/X.s₀.heap.objs.size<=b)/\b≠X.env.locals/\(∀ x c,X.env.cells.lookup x=some c->c≠b)/\∀ p∈X.pn ++ pins,p.1≠b)(keep:∀ b o,b≠X.env.locals->b ∉ X.fs->b ∉ ch->s.heap.get? b=some o->H b=none->h'.get? b=some o)(slot:∀ b o,b≠X.env.locals->b∈X.fs->b ∉ ch->s.heap.get? b=some o->H b=none->∃ G,h'.get? b=some { o with slots:=G })(free:∀ b o,b ∉ ch->s.heap.get? b=some o->H b=none->H' b=none)(there:∀ b o,b ∉ ch->s.heap.get? b=some o->∃ B,h'.get? b=some B)(tups:∀ b xs,H b=some (.tup xs)->H' b=some (.tup xs))(frzs:∀ b o u,H b=some (.frz o u)->H' b=some (.frz o u))(tbls:∀ b ps,H b=some (.tbl ps)->∃ D,H' b=some (.tbl (ps ++ D)))(ns:∀ m,s.heap.Ns X.env.locals m->h'.Ns X.env.locals m)(hok:HOk X.prog X.w H' h')(Q:AllBare g'):
  Inv X pins σ H' { s with heap:=h',gens:=g',drawn:=d',toks:=t' }:=by
 have C:∀ b o,X.s₀.heap.get? b=some o->b≠X.env.locals:=fun b o e=>Nat.ne_of_lt (Nat.lt_of_lt_of_le (lt_size e) I.ok.above);have j:∀ b o,X.s₀.heap.get? b=some o->b ∉ X.ex->b ∉ ch:=fun b o e a hb=>by
  rcases (g b hb).1 with z | z
  ·exact a z
  ·exact absurd (Nat.lt_of_lt_of_le (lt_size e) z) (Nat.lt_irrefl _)
 have h:∀ x c,X.env.cells.lookup x=some c->∀ v,s.heap.IsCell c v->h'.IsCell c v:=fun x c e v R=>by
  obtain ⟨o,A,hd⟩:=R;have f:=fun z=>(g c z).2.2.1 x c e rfl;by_cases L:c∈X.fs
  ·obtain ⟨G,q⟩:=slot c o (I.cne x c e) L f A (I.freeC x c e);exact ⟨_,q,hd⟩
  ·exact ⟨o,keep c o (I.cne x c e) L f A (I.freeC x c e),hd⟩
 refine ⟨I.ok,I.os,Q,⟨fun b o e n hb a=>?_,fun b o e n hb a=>?_,fun b o e n a=>?_,fun b o e a=>?_,fun b xs e=>tups b xs (I.base.tups b xs e),fun b o xs e=>frzs b o xs (I.base.frzs b o xs e),fun b ps e=>?_⟩,?_,fun x c e=>?_,?_,fun x c e=>?_,fun p K=>?_,hok,I.len⟩
 ·exact keep b o (C b o e) hb (j b o e a) (I.base.keep b o e n hb a) (I.base.free b o e n a)
 ·obtain ⟨G,y⟩:=I.base.slot b o e n hb a;obtain ⟨F,E⟩:=slot b _ (C b o e) hb (j b o e a) y (I.base.free b o e n a);exact ⟨F,E⟩
 ·obtain ⟨B,y⟩:=I.base.there b o e a;exact free b B (j b o e a) y (I.base.free b o e n a)
 ·obtain ⟨B,y⟩:=I.base.there b o e a;exact there b B (j b o e a) y
 ·obtain ⟨N,y⟩:=I.base.tbls b ps e;obtain ⟨M,E⟩:=tbls b _ y;exact ⟨N ++ M,by rw [E,Array.append_assoc]⟩
 ·obtain ⟨m,O,P⟩:=I.loc;refine ⟨m,ns m O,fun i x v y E S=>?_⟩;obtain ⟨u,r,l⟩:=P i x v y E S;refine ⟨u,r,?_⟩;rcases l with l | ⟨k,c,e,z⟩
  ·exact .inl l
  ·exact .inr ⟨k,c,e,h x c e _ z⟩
 ·obtain ⟨v,z⟩:=I.cell x c e;exact ⟨v,h x c e v z⟩
 ·obtain ⟨m,⟨o,_,_,A,_⟩,_⟩:=I.loc;exact free _ o (fun z=>(g _ z).2.1 rfl) A I.free
 ·obtain ⟨v,o,A,hd⟩:=I.cell x c e;exact free c o (fun z=>(g c z).2.2.1 x c e rfl) A (I.freeC x c e)
 ·obtain ⟨e,n,ne,J,d⟩:=I.pin p K;have f:=fun z=>(g p.1 z).2.2.2 p K rfl;exact ⟨keep p.1 p.2 ne J f e n,free p.1 p.2 f e n,ne,J,d⟩
theorem Inv.un(I:Inv X pins σ H s)(u:Un X.fs [] H H' s.heap h')(hok:HOk X.prog X.w H' h'):Inv X pins σ H' { s with heap:=h',toks:=t' }:=by
 obtain ⟨m,⟨o,q,ep,f,r⟩,_⟩:=id I.loc;obtain ⟨j,i⟩:=u.any f I.free (by simp);exact I.step (g':=s.gens) (d':=s.drawn) (ch:=[]) (fun _ z=>nomatch z) (fun b o _ hb _ e n=>u.keep b o e n hb (by simp)) (fun b o _ hb _ e n=>u.slot b o e n hb (by simp)) (fun b o _ e n=>u.free b o e n (by simp)) (fun b o _ e=>u.there b o e (by simp)) u.tups u.frzs u.tbls (fun p h=>by
  obtain ⟨l,c,d,a,g⟩:=h;rw [f] at a;cases a;exact ⟨_,c,d,i,g⟩) hok I.bare
theorem Inv.call(I:Inv X pins σ H s)(u:Un (frs X.stack) ch H H' s.heap h')(hok:HOk X.prog X.w H' h')(v:AllBare g')(f:∀ b∈ch,(b∈X.ex\/X.s₀.heap.objs.size<=b)/\b≠X.env.locals/\(∀ x c,X.env.cells.lookup x=some c->c≠b)/\∀ p∈X.pn ++ pins,p.1≠b):
  Inv X pins σ H' { s with heap:=h',gens:=g',drawn:=d',toks:=t' }:=by
 obtain ⟨m,⟨o,C,ep,j,r⟩,_⟩:=id I.loc;obtain ⟨y,g⟩:=u.any j I.free fun z=>(f _ z).2.1 rfl;exact I.step (ch:=ch) f (fun b o g hb a e n=>u.keep b o e n (fun z=>(mem_cons.mp (I.stkSub b z)).elim g hb) a) (fun b o _ _ a e n=>u.any e n a) (fun b o a e n=>u.free b o e n a) (fun b o a e=>u.there b o e a) u.tups u.frzs u.tbls (fun B q=>by
  obtain ⟨A,h,i,d,l⟩:=q;rw [j] at d;cases d;exact ⟨_,h,i,g,l⟩) hok v
theorem Inv.turned{t':Nat}{it:Addr}(I:Inv X pins σ H s)(k:∀ b o,b≠it->s.heap.get? b=some o->h'.get? b=some o)(h:H it=none)(f:it≠X.env.locals)(w:it∈X.ex\/X.s₀.heap.objs.size<=it)(l:∀ x c,X.env.cells.lookup x=some c->c≠it)(j:∀ p∈X.pn ++ pins,p.1≠it):Inv X pins σ H { s with heap:=h',toks:=t' }:=by
 have d:∀ b u,H b=some u->b≠it:=fun b u e z=>by rw [z,h] at e;cases e
 refine I.step (g':=s.gens) (d':=s.drawn) (ch:=[it]) (fun b hb=>?_) (fun b o _ _ a e _=>k b o (fun z=>a (by simp [z])) e) (fun b o _ _ a e _=>⟨o.slots,k b o (fun z=>a (by simp [z])) e⟩) (fun _ _ _ _ n=>n)
  (fun b o a e=>⟨o,k b o (fun z=>a (by simp [z])) e⟩) (fun _ _ e=>e) (fun _ _ _ e=>e) (fun b ps e=>⟨#[],by rw [e];simp⟩) (fun m i=>?_) (fun b u e=>?_) I.bare
 ·have e:b=it:=by simpa using hb
  subst e;exact ⟨w,f,l,j⟩
 ·obtain ⟨o,y,ep,g,r⟩:=i;exact ⟨o,y,ep,k _ o (Ne.symm f) g,r⟩
 ·refine (I.hok b u e).stay (fun c v a q=>k c v ?_ q) (fun _ q=>q) fun _ _ q=>q;rcases a with z | z
  ·rw [z];exact d b u e
  ·exact d c _ z
theorem Inv.tok(I:Inv X pins σ H s)(t:Nat):Inv X pins σ H { s with toks:=t }:=I.un (h':=s.heap) (t':=t) Un.refl I.hok
theorem Inv.kept(I:Inv X pins σ H s)(k:∀ b u,s.heap.get? b=some u->h'.get? b=some u):Inv X pins σ H { s with heap:=h',toks:=t' }:=I.un (Un.kept k) (I.hok.kept k)
theorem Inv.laid(I:Inv X pins σ H s)(k:∀ b u,s.heap.get? b=some u->h'.get? b=some u)(c:s.heap.objs.size<=a)(new:J34 X.prog X.w (upd H a o) h' a o):
  Inv X pins σ (upd H a o) { s with heap:=h',toks:=t' }:=I.un (Un.laid k c (I.hok.fresh c)) (I.hok.laid k c new)
theorem Inv.write(I:Inv X pins σ H s)(mu:Mut (H x))(c:e=x\/H e=some (.own x))(k:∀ b u,b≠e->s.heap.get? b=some u->h'.get? b=some u)(a:∃ u,h'.get? e=some u)(new:J34 X.prog X.w (upd H x o) h' x o):Inv X pins σ (upd H x o) { s with heap:=h',toks:=t' }:=I.un (Un.write mu c k a) (I.hok.write mu c k a new)
theorem Inv.pins_of(I:Inv X pins σ H s)(h:∀ p∈pins',s.heap.get? p.1=some p.2/\H p.1=none/\p.1≠X.env.locals/\p.1 ∉ X.fs/\∀ v,p.2.data≠.cell v):Inv X pins' σ H s:=
 ⟨I.ok,I.os,I.bare,I.base,I.loc,I.cell,I.free,I.freeC,fun p a=>(mem_append.mp a).elim (fun z=>I.pin p (mem_append_left _ z)) (h p),I.hok,I.len⟩
theorem Jfr{N:List Str}(c:N.Nodup){i:Nat}(a:N[i]?=some x)(b:N[j]?=some x):i=j:=by
 obtain ⟨g,e⟩:=List.getElem?_eq_some_iff.mp a;obtain ⟨f,d⟩:=List.getElem?_eq_some_iff.mp b;exact (getElem_inj c).mp (e.trans d.symm)
theorem Jbt(I:Inv X pins σ H s)(hN:X.N.Nodup)(hi:X.N[i]?=some x)(C:Loc X.env.scope x)(r:RelV v u)(h:∀ s',Inv X pins (σ.set i (some v)) H s'->(∃ a,Heap.SameBut a s.heap s'.heap/\(a=X.env.locals\/X.env.cells.lookup x=some a))->Q () s')(hf:X.fn x=true\/X.env.scope.names.lookup x=some .local:=by first | exact .inl rfl | exact .inr rfl | assumption):wpAny M A (storeName X.env x u) Q E s:=by
 obtain ⟨m,hn,hl⟩:=id I.loc;have P:(X.env.scope.kind == .class || (X.env.scope.kind == .module && X.env.locals != X.env.globals))=false:=by rw [I.ok.kind];rfl
 have O:i < σ.length:=by rw [I.len];exact (List.getElem?_eq_some_iff.mp hi).1
 have cne:=I.cne;have g:∀ {a:Addr} {h':Heap},(∃ o,s.heap.get? a=some o/\H a=none)->Heap.SameBut a s.heap h'->HOk X.prog X.w H h':=fun {a h'} ha f b ob e=>by
  obtain ⟨_,_,D⟩:=ha;refine (I.hok b ob e).stay (fun c T B q=>(f.2 c ?_).trans q) (fun _ q=>q) fun _ _ q=>q;rintro rfl;rcases B with rfl | B
  ·rw [D] at e;cases e
  ·rw [D] at B;cases B
 rcases C with hk | hk
 ·refine wpAny_storeName_local hk hn (fun h' ab f=>?_) P;obtain ⟨oL,_,_,aa,_⟩:=id hn;refine h _ ⟨I.ok,I.os,I.bare,⟨fun b o e n hb C=>?_,fun b o e n hb C=>?_,I.base.free,fun b o e C=>?_,I.base.tups,I.base.frzs,I.base.tbls⟩,⟨_,ab,fun j y U l F e3=>?_⟩,fun y c e=>?_,I.free,I.freeC,fun p hp=>?_,g ⟨oL,aa,I.free⟩ f,by simpa using I.len⟩ ⟨_,f,.inl rfl⟩
  ·exact (f.2 b (Nat.ne_of_lt (Nat.lt_of_lt_of_le (lt_size e) I.ok.above))).trans (I.base.keep b o e n hb C)
  ·obtain ⟨Y,l⟩:=I.base.slot b o e n hb C;exact ⟨Y,(f.2 b (Nat.ne_of_lt (Nat.lt_of_lt_of_le (lt_size e) I.ok.above))).trans l⟩
  ·obtain ⟨o',l⟩:=I.base.there b o e C;exact ⟨o',(f.2 b (Nat.ne_of_lt (Nat.lt_of_lt_of_le (lt_size e) I.ok.above))).trans l⟩
  ·by_cases G:j=i
   ·subst G;rw [hi] at l;cases l;rw [List.getElem?_set_self O] at F;cases F;exact ⟨u,r,.inl ⟨hk,by simp⟩⟩
   ·rw [getElem?_set_ne (Ne.symm G)] at F;obtain ⟨W,Z,q⟩:=hl j y U l F e3;refine ⟨W,Z,?_⟩;rcases q with ⟨k,e⟩ | ⟨k,c,e,z⟩
    ·refine .inl ⟨k,?_⟩;have:y≠x:=fun e=>G (Jfr hN l (e ▸ hi));simp [this,e]
    ·exact .inr ⟨k,c,e,z.sameBut f (cne y c e)⟩
  ·obtain ⟨T,z⟩:=I.cell y c e;exact ⟨T,z.sameBut f (cne y c e)⟩
  ·obtain ⟨e,n,ne,nf,d⟩:=I.pin p hp;exact ⟨(f.2 p.1 ne).trans e,n,ne,nf,d⟩
 ·have J:X.fn x=true:=by
   rcases hf with z | z
   ·exact z
   ·rw [z] at hk;cases hk
  obtain ⟨c,B⟩:=I.ok.has x (.inl hk);obtain ⟨T,z⟩:=I.cell x c B;refine wpAny_storeName_cell I.ok.kind hk B z (fun h' S f=>?_);obtain ⟨oc,L,K⟩:=id z;refine h { s with heap:=h' } ⟨I.ok,I.os,I.bare,⟨fun b o e n hb C=>?_,fun b o e n hb C=>?_,I.base.free,fun b o e C=>?_,I.base.tups,I.base.frzs,I.base.tbls⟩,⟨m,hn.sameBut f (Ne.symm (cne x c B)),fun j y U l F e3=>?_⟩,fun y c' e=>?_,I.free,I.freeC,fun p hp=>?_,g ⟨oc,L,I.freeC x c B⟩ f,by simpa using I.len⟩ ⟨c,f,.inr B⟩
  ·exact (f.2 b (Nat.ne_of_lt (Nat.lt_of_lt_of_le (lt_size e) (I.ok.cab x c J B)))).trans (I.base.keep b o e n hb C)
  ·obtain ⟨Y,l⟩:=I.base.slot b o e n hb C;exact ⟨Y,(f.2 b (Nat.ne_of_lt (Nat.lt_of_lt_of_le (lt_size e) (I.ok.cab x c J B)))).trans l⟩
  ·obtain ⟨o',l⟩:=I.base.there b o e C;exact ⟨o',(f.2 b (Nat.ne_of_lt (Nat.lt_of_lt_of_le (lt_size e) (I.ok.cab x c J B)))).trans l⟩
  ·by_cases G:j=i
   ·subst G;rw [hi] at l;cases l;rw [List.getElem?_set_self O] at F;cases F;exact ⟨u,r,.inr ⟨.inl hk,c,B,S⟩⟩
   ·rw [getElem?_set_ne (Ne.symm G)] at F;obtain ⟨W,Z,q⟩:=hl j y U l F e3;refine ⟨W,Z,?_⟩;rcases q with q | ⟨k,c',e,z'⟩
    ·exact .inl q
    ·refine .inr ⟨k,c',e,z'.sameBut f ?_⟩;rintro rfl;exact G (Jfr hN l (I.ok.inj _ _ _ e B ▸ hi))
  ·by_cases R:c'=c
   ·subst R;exact ⟨_,S⟩
   ·obtain ⟨w2,z2⟩:=I.cell y c' e;exact ⟨w2,z2.sameBut f R⟩
  ·obtain ⟨e,n,ne,nf,d⟩:=I.pin p hp;refine ⟨(f.2 p.1 ?_).trans e,n,ne,nf,d⟩;intro q;rw [q,L] at e;have q':=Option.some.inj e;exact d T (by rw [<- q'];exact K)
theorem Jex{M:Model}{A:Around}{E:Value->Shared->Prop}{i:Nat}{x:Str}{v:V}{u:Value}{Q:Unit->Shared->Prop}(I:Inv X pins σ H s)(c:X.N.Nodup)(hi:X.N[i]?=some x)(a:Loc X.env.scope x)(r:RelV v u)(h:∀ s',Inv X pins (σ.set i (some v)) H s'->Q () s')(b:X.fn x=true\/X.env.scope.names.lookup x=some .local:=by first | exact .inl rfl | exact .inr rfl | assumption):wpAny M A (storeName X.env x u) Q E s:=
 Jbt I c hi a r (fun s' d _=>h s' d) b
theorem Inv.call'(I:Inv X pins σ H s)(d:s'.os=s.os)(u:Un (frs X.stack) ch H H' s.heap s'.heap)(hok:HOk X.prog X.w H' s'.heap)(f:AllBare s'.gens)(a:∀ b∈ch,(b∈X.ex\/X.s₀.heap.objs.size<=b)/\b≠X.env.locals/\(∀ x c,X.env.cells.lookup x=some c->c≠b)/\∀ p∈X.pn ++ pins,p.1≠b):Inv X pins σ H' s':=by
 obtain ⟨h',g',d',t',g⟩:=s';have e:=d;subst e;exact I.call (g':=g') (t':=t') (d':=d') u hok f a
end
noncomputable abbrev XK:=Value->Option Addr->Hp->Prop
noncomputable abbrev St:=List (Option V)
noncomputable abbrev VK:=V->Hp->Prop
noncomputable abbrev TE:=St->Hp->VK->Prop
noncomputable abbrev TT:=St->Hp->(Bool->Hp->Prop)->Prop
noncomputable abbrev TA:=St->Hp->(List V->Hp->Prop)->Prop
structure Ends where
 nx:St->Hp->Prop
 rt:VK
 bk:St->Hp->Prop:=fun _ _=>False
 ct:St->Hp->Prop:=fun _ _=>False
noncomputable abbrev TS:=Ends->St->Hp->Prop
noncomputable def EP(X:Cx)(pins:List (Addr × Obj))(σ:St)(Q:VK)(u:Value)(s':Shared):Prop:=∃ v a,Inv X pins σ a s'/\RelV v u/\Q v a
noncomputable def TP(X:Cx)(pins:List (Addr × Obj))(σ:St)(Q:Bool->Hp->Prop)(b:Bool)(s':Shared):Prop:=∃ a,Inv X pins σ a s'/\Q b a
noncomputable def AP(X:Cx)(pins:List (Addr × Obj))(σ:St)(Q:List V->Hp->Prop)(us:List Value)(s':Shared):Prop:=∃ vs a,Inv X pins σ a s'/\Vals vs us/\Q vs a
noncomputable def SP(X:Cx)(pins:List (Addr × Obj))(D:Ends)(f:Flow)(s':Shared):Prop:=
 match f with
 | .next=>∃ σ' H',Inv X pins σ' H' s'/\D.nx σ' H'
 | .brk=>∃ σ' H',Inv X pins σ' H' s'/\D.bk σ' H'
 | .cont=>∃ σ' H',Inv X pins σ' H' s'/\D.ct σ' H'
 | .ret u=>∃ v σ' H',Inv X pins σ' H' s'/\RelV v u/\D.rt v H'
noncomputable def PE(X:Cx)(e:Expr)(t:TE):Prop:=
 ∀ (pins:List (Addr × Obj)) (s:Shared) (σ:St) (H:Hp) (Q:VK),Inv X pins σ H s->t σ H Q->wpAny (model X.prog X.w) X.A (eval e X.env) (EP X pins σ Q) X.xe s
noncomputable def PT(X:Cx)(e:Expr)(t:TT):Prop:=
 ∀ (pins:List (Addr × Obj)) (s:Shared) (σ:St) (H:Hp) (Q:Bool->Hp->Prop),Inv X pins σ H s->t σ H Q->wpAny (model X.prog X.w) X.A (isTrue e X.env (eval e X.env)) (TP X pins σ Q) X.xe s
noncomputable def PW(X:Cx)(e:Expr)(t:TT):Prop:=
 ∀ (whole:Sem Value) (pins:List (Addr × Obj)) (s:Shared) (σ:St) (H:Hp) (Q:Bool->Hp->Prop),Inv X pins σ H s->t σ H Q->wpAny (model X.prog X.w) X.A (isTrue e X.env whole) (TP X pins σ Q) X.xe s
theorem PW.pt(h:PW X e t):PT X e t:=h _
noncomputable def PA(X:Cx)(a:List Expr)(t:TA):Prop:=
 ∀ (pos:Pos) (pins:List (Addr × Obj)) (s:Shared) (σ:St) (H:Hp) (Q:List V->Hp->Prop),Inv X pins σ H s->t σ H Q->wpAny (model X.prog X.w) X.A (spliced (backTo pos (starEach a X.env))) (AP X pins σ Q) X.xe s
noncomputable def PS(X:Cx)(st:Stmt)(t:TS):Prop:=
 ∀ (pins:List (Addr × Obj)) (s:Shared) (σ:St) (H:Hp) (D:Ends),Inv X pins σ H s->t D σ H->wpAny (model X.prog X.w) X.A (exec st X.env) (SP X pins D) X.xe s
noncomputable def PSs(X:Cx)(st:List Stmt)(t:TS):Prop:=
 ∀ (pins:List (Addr × Obj)) (s:Shared) (σ:St) (H:Hp) (D:Ends),Inv X pins σ H s->t D σ H->wpAny (model X.prog X.w) X.A (execs st X.env) (SP X pins D) X.xe s
theorem thn(h:wpAny M A t Q E s)(b:∀ a s,Q a s->Q' a s):wpAny M A t Q' E s:=wpAny_mono h b fun _ _ x=>x
section
variable{X:Cx}
inductive tVarR(i:Nat)(σ:St)(H:Hp)(Q:VK):Prop
 | mk(v:_)(_:σ[i]?=some (some v))(_:Q v H)
noncomputable def tVar(i:Nat):TE:=fun σ H Q=>tVarR i σ H Q
noncomputable def tC(v:V):TE:=fun _ H Q=>Q v H
theorem pe_var(g:X.N[i]?=some x)(b:Vis X.env.scope x)(hd:(x == ("__debug__":Str))=false:=by decide)(a:(x == ("__classdict__":Str))=false:=by decide):PE X (.Name x pos) (tVar i):=by
 intro pins s σ H Q I h;obtain ⟨v,e,h⟩:=h;obtain ⟨m,d,f⟩:=I.loc;obtain ⟨u,r,l⟩:=f i x v g e b;have fin:EP X pins σ Q u s:=⟨v,H,I,r,h⟩;rcases l with ⟨hk,hm⟩ | ⟨hk,c,hc,hcell⟩
 ·exact wpAny_Name (wpAny_loadName_local I.ok.kind hk d hm fin) hd
 ·rcases hk with hk | hk
  ·exact wpAny_Name (wpAny_loadName_cell I.ok.kind hk hc hcell fin) hd
  ·exact wpAny_Name (wpAny_loadName_free I.ok.kind hk hc hcell fin a) hd
theorem Ja :PE X (.Constant (.int i) j pos) (tC (.int i)):=fun _ _ _ H _ I h=>wpAny_Constant_int ⟨.int i,H,I.tok _,⟨_,rfl⟩,h⟩
theorem J70 :PE X (.Constant (.bool b) j pos) (tC (.bl b)):=fun _ _ _ H _ I h=>Constant_bool ⟨.bl b,H,I,rfl,h⟩
theorem Jj6 :PE X (.Constant .none j pos) (tC .non):=fun _ _ _ H _ I h=>Constant_none ⟨.non,H,I,rfl,h⟩
theorem J6e :PE X (.Constant (.str x) j pos) (tC (.str x)):=fun _ _ _ H _ I h=>Calls.Constant_str ⟨.str x,H,I.tok _,⟨_,rfl⟩,h⟩
noncomputable def Gl(X:Cx)(x:Str):Prop:=X.env.kindOf x=some .globalImplicit
theorem Jbc(I:Inv X pins σ H s)(b:Gl X x)(a:X.mg x=some u)(h:Q u s)(hd:(x == ("__debug__":Str))=false:=by decide):wpAny (model X.prog X.w) X.A (eval (.Name x pos) X.env) Q E s :=
 Calls.Name_function_global I.ok.kind b (Calls.loadGlobal_global (by rw [I.ok.glob];exact I.mod.glob.keeps I.bk) a h) hd
theorem J7g(I:Inv X pins σ H s)(d:Gl X x)(c:X.mg x=none)(a:bootBuiltins x=some u)(h:Q u s)(b:x≠"__name__":=by decide)(hd:(x == ("__debug__":Str))=false:=by decide):wpAny (model X.prog X.w) X.A (eval (.Name x pos) X.env) Q E s:=by
 obtain ⟨g,f,e⟩:=I.mod.blt;exact Calls.Name_function_global I.ok.kind d (Calls.loadGlobal_builtin (by rw [I.ok.glob];exact I.mod.glob.keeps I.bk) c (by rw [I.ok.blt];exact f.keeps I.bk) ((e x b).trans a) h) hd
theorem Jj7(b:Gl X x)(a:X.mg x=some u)(r:RelV v u)(hd:(x == ("__debug__":Str))=false:=by decide):PE X (.Name x pos) (tC v) :=
 fun _ _ _ H _ I h=>Jbc I b a ⟨v,H,I,r,h⟩ hd
variable{a b:Expr}{ta tb:TE}{pos:Pos}
noncomputable def PC(X:Cx)(e:CmpOp)(a b:Expr)(t:TE):Prop:=
 ∀ (pins:List (Addr × Obj)) (s:Shared) (σ:St) (H:Hp) (Q:VK),Inv X pins σ H s->t σ H Q->
  wpAny (model X.prog X.w) X.A (eval a X.env) (fun v d=>wpAny (model X.prog X.w) X.A (eval b X.env) (fun u c=>wpAny (model X.prog X.w) X.A (compareOp e v u) (EP X pins σ Q) X.xe c) X.xe d) X.xe s
theorem Jog(b:Expr)(h:op≠.In)(d:op≠.NotIn):behindInMarks op b=false:=by
 have c:(op == CmpOp.In)=false:=by grind
 have a:(op == CmpOp.NotIn)=false:=by grind
 cases b <;> simp [behindInMarks,c,a]
noncomputable def tIsN(a:TE):TE:=fun σ H Q=>a σ H fun x b=>Q (.bl (decide (x=.non))) b
theorem RelV.none_iff(r:RelV x v):(v == Value.none)=decide (x=.non):=by
 cases x with
 | non=>cases r;rfl
 | bl _=>cases r;rfl
 | int _=>obtain ⟨t,rfl⟩:=r;rfl
 | str _=>obtain ⟨t,rfl⟩:=r;rfl
 | byt _=>obtain ⟨t,rfl⟩:=r;rfl
 | flt _=>obtain ⟨t,rfl⟩:=r;rfl
 | ref _=>cases r;rfl
 | ty _=>cases r;rfl
theorem pc_isN(d:PE X a ta):PC X .Is a (.Constant .none j pos') (tIsN ta):=by
 intro pins s σ H Q I h;refine thn (d pins s σ H _ I h) fun v i e=>?_;obtain ⟨x,g,f,b,c⟩:=e;exact Constant_none (is_none_gen ⟨.bl _,g,f,by rw [b.none_iff];rfl,c⟩)
inductive tBR(Q:Bool->Hp->Prop)(x:V)(a:Hp):Prop
 | mk(c:_)(_:x=.bl c)(_:Q c a)
noncomputable def tB(t:TE):TT:=fun σ H Q=>t σ H fun x a=>tBR Q x a
theorem pt_cmp{e:CmpOp}{t:TE}(h:PC X e a b t)(f:behindInMarks e b=false:=by first | exact Jog _ (by decide) (by decide) | rfl):PT X (.Compare a [e] [b] pos) (tB t):=by
 intro pins s σ H Q I hw;refine wpAny_isTrue_Compare1 (thn (h pins s σ H _ I hw) fun v r f=>thn f fun u p l=>thn l fun c o j=>?_) f;obtain ⟨x,n,m,g,i⟩:=j;obtain ⟨d,rfl,q⟩:=i;cases g;exact wpAny_truthy_bool ⟨n,m,q⟩
theorem J3r{e:Expr}{t:TE}(h:PE X e t)(c:∀ whole,isTrue e X.env whole=(do let v <- whole;standAt e.pos;holding [v] (truthy v)):=by intro _;rfl):PT X e (tB t):=by
 intro pins s σ H Q I hw;refine isTrue_plain (thn (h pins s σ H _ I hw) fun v j f=>?_) (c _);obtain ⟨x,i,g,a,b⟩:=f;obtain ⟨d,rfl,q⟩:=b;cases a;exact wpAny_truthy_bool ⟨i,g,q⟩
variable{tA tB':TT}{rest:List Expr}
noncomputable def tAnd(t u:TT):TT:=fun σ H Q=>t σ H fun c a=>if c=true then u σ a Q else Q false a
noncomputable def tOr(t u:TT):TT:=fun σ H Q=>t σ H fun c a=>if c=true then Q true a else u σ a Q
noncomputable def tNot(t:TT):TT:=fun σ H Q=>t σ H fun c a=>Q (!c) a
theorem Jdr(b:PT X a tA):PW X (.BoolOp .And [a] pos) tA:=by
 intro d pins s σ H Q I h;refine isTrue_and (thn (b pins s σ H Q I h) fun c f e=>?_)
 cases c with
 | true=>exact isTrue_and_nil e
 | false=>exact e
theorem Ja7(b:PT X a tA):PW X (.BoolOp .Or [a] pos) tA:=by
 intro d pins s σ H Q I h;refine isTrue_or (thn (b pins s σ H Q I h) fun c f e=>?_)
 cases c with
 | false=>exact isTrue_or_nil e
 | true=>exact e
theorem Jj0(j:PT X a tA)(hb:PW X (.BoolOp .And (b :: rest) pos) tB'):PW X (.BoolOp .And (a :: b :: rest) pos) (tAnd tA tB'):=by
 intro g pins s σ H Q I h;refine isTrue_and (thn (j pins s σ H _ I h) fun c i l=>?_);obtain ⟨f,e,d⟩:=l
 cases c with
 | true=>exact hb g pins i σ f Q e d
 | false=>exact ⟨f,e,d⟩
theorem Jgt(j:PT X a tA)(hb:PW X (.BoolOp .Or (b :: rest) pos) tB'):PW X (.BoolOp .Or (a :: b :: rest) pos) (tOr tA tB'):=by
 intro g pins s σ H Q I h;refine isTrue_or (thn (j pins s σ H _ I h) fun c i l=>?_);obtain ⟨f,e,d⟩:=l
 cases c with
 | true=>exact ⟨f,e,d⟩
 | false=>exact hb g pins i σ f Q e d
theorem pt_not(b:PT X a tA):PT X (.UnaryOp .Not a pos) (tNot tA):=by
 intro pins s σ H Q I h;exact isTrue_not (b pins s σ H (fun c d=>Q (!c) d) I h)
inductive tAndVR(b:TE)(σ:St)(Q:VK)(x:V)(a:Hp):Prop
 | mk(c:_)(_:x=.bl c)(_:if c=true then b σ a Q else Q (.bl false) a)
noncomputable def tAndV(b a:TE):TE:=fun σ H Q=>b σ H fun x c=>tAndVR a σ Q x c
theorem Jpq(h:PE X a t):PE X (.BoolOp op [a] pos) t:=fun pins s σ H Q I hw=>BoolOp_one (h pins s σ H Q I hw)
theorem Jps(j:PE X a ta)(hb:PE X (.BoolOp .And (b :: rest) pos) tb):PE X (.BoolOp .And (a :: b :: rest) pos) (tAndV ta tb):=by
 intro pins s σ H Q I h;refine BoolOp_and (thn (j pins s σ H _ I h) fun v g l=>?_);obtain ⟨x,f,e,i,d⟩:=l;obtain ⟨c,rfl,d⟩:=d;cases i;refine wpAny_truthy_bool ?_
 cases c with
 | true=>exact hb pins g σ f Q e d
 | false=>exact ⟨.bl false,f,e,rfl,d⟩
noncomputable def tIf(t:TT)(d b:TE):TE:=fun σ H Q=>t σ H fun c a=>if c=true then d σ a Q else b σ a Q
theorem J2y(j:PT X c tA)(l:PE X a ta)(hb:PE X b tb):PE X (.IfExp c a b pos) (tIf tA ta tb):=by
 intro pins s σ H Q I h;refine wpAny_IfExp (thn (j pins s σ H _ I h) fun d e m=>?_);obtain ⟨i,g,f⟩:=m
 cases d with
 | true=>exact l pins e σ i Q g f
 | false=>exact hb pins e σ i Q g f
end
noncomputable def SqL(K:Frag)(H:Hp)(a:Addr)(xs:List V):Prop:=
 Rd H a (.lst xs)\/
  ∃ (o:Obj) (b:Array Value) (n:Nat),K.lookup a=some o/\o.cls=.type "list"/\o.dict=none/\o.data=.seq b n/\b.size<=sizeLine/\Vals xs b.toList
noncomputable def SqT(K:Frag)(H:Hp)(a:Addr)(xs:List V):Prop:=
 Rd H a (.tup xs)\/
  ∃ (o:Obj) (b:Array Value) (n:Nat),K.lookup a=some o/\o.cls=.type "tuple"/\o.data=.seq b n/\b.size<=sizeLine/\Vals xs b.toList
noncomputable def absV:Value->Option V
 | .none=>some .non
 | .bool b=>some (.bl b)
 | .int i _=>some (.int i)
 | .str x _=>some (.str x)
 | .bytes b _=>some (.byt b)
 | .float b _=>some (.flt b)
 | .ref a=>some (.ref a)
 | .type n=>some (.ty n)
 | _=>none
theorem RelV.abs(r:RelV x u):absV u=some x:=by
 cases x with
 | non=>cases r;rfl
 | bl _=>cases r;rfl
 | int _=>obtain ⟨t,rfl⟩:=r;rfl
 | str _=>obtain ⟨t,rfl⟩:=r;rfl
 | byt _=>obtain ⟨t,rfl⟩:=r;rfl
 | flt _=>obtain ⟨t,rfl⟩:=r;rfl
 | ref _=>cases r;rfl
 | ty _=>cases r;rfl
theorem RelV.inj(r:RelV x u)(q:RelV y u):x=y:=Option.some.inj (r.abs.symm.trans q.abs)
theorem Vals.inj:∀ {xs a:List V} {us:List Value},Vals xs us->Vals a us->xs=a
 | _,_,_,.nil,.nil=>rfl
 | _,_,_,.cons r t,.cons r' t'=>by rw [r.inj r',Vals.inj t t']
section
variable{X:Cx}{pins:List (Addr × Obj)}{σ:St}{H:Hp}{s:Shared}{a:Addr}{xs ys:List V}
theorem SqL.of{K:Frag}(h:H a=some (.lst xs)):SqL K H a xs:=.inl (.inl h)
theorem SqT.of{K:Frag}(h:H a=some (.tup xs)):SqT K H a xs:=.inl (.inl h)
theorem Inv.list(I:Inv X pins σ H s)(h:SqL X.K H a xs):∃ b:List Value,Vals xs b/\PlainL s.heap a b.toArray/\xs.length<=sizeLine:=by
 rcases h with h | ⟨o,b,n,hk,hc,hd,hs,hz,r⟩
 ·obtain ⟨z,b,n,r,e⟩:=h.ok I.hok;exact ⟨b,r,⟨_,n,e,rfl,rfl,rfl⟩,z⟩
 ·refine ⟨b.toList,r,⟨o,n,I.kIn a o hk,hc,hd,by simpa using hs⟩,?_⟩;have e:=r.length
  grind
theorem Inv.tuple(I:Inv X pins σ H s)(h:SqT X.K H a xs):∃ b:List Value,Vals xs b/\IsTup s.heap a b.toArray/\xs.length<=sizeLine:=by
 rcases h with h | ⟨o,b,n,hk,hc,hs,hz,r⟩
 ·obtain ⟨z,b,r,p⟩:=h.ok I.hok;exact ⟨b,r,p.tup,z⟩
 ·refine ⟨b.toList,r,⟨o,I.kIn a o hk,hc,n,by simpa using hs⟩,?_⟩;have e:=r.length;simp only [length_toList] at e;lia
theorem Inv.list_inj(I:Inv X pins σ H s)(h:SqL X.K H a xs)(h':SqL X.K H a ys):xs=ys:=by
 obtain ⟨b,r,⟨o,n,e,_,_,d⟩,_⟩:=I.list h;obtain ⟨its',c,⟨f,g,i,_,_,d'⟩,_⟩:=I.list h';have:b=its':=by simp_all
 subst this;exact r.inj c
theorem Inv.tuple_inj(I:Inv X pins σ H s)(h:SqT X.K H a xs)(h':SqT X.K H a ys):xs=ys:=by
 obtain ⟨b,r,⟨o,e,_,n,d⟩,_⟩:=I.tuple h;obtain ⟨its',c,⟨f,i,_,g,d'⟩,_⟩:=I.tuple h';have:b=its':=by simp_all
 subst this;exact r.inj c
end
noncomputable abbrev Cx.wish(X:Cx)(E:Value->Shared->Prop):Cx:={ X with xe:=E }
noncomputable abbrev Cx.nox(X:Cx):Cx:=X.wish fun _ _=>False
theorem Cx.Ok.wish{X:Cx}(ok:X.Ok)(E:Value->Shared->Prop):(X.wish E).Ok:=
 ⟨ok.mod,ok.kind,ok.glob,ok.blt,ok.above,ok.inj,ok.has,ok.cab,ok.hd,ok.frames,ok.stk,ok.exf,ok.bs,ok.bsz,ok.noex,ok.exfs,ok.funs,ok.frf⟩
theorem Cx.Ok.unwish{X:Cx}(ok:(X.wish E).Ok):X.Ok:=
 ⟨ok.mod,ok.kind,ok.glob,ok.blt,ok.above,ok.inj,ok.has,ok.cab,ok.hd,ok.frames,ok.stk,ok.exf,ok.bs,ok.bsz,ok.noex,ok.exfs,ok.funs,ok.frf⟩
section
variable{X:Cx}{pins:List (Addr × Obj)}{σ:St}{H:Hp}{s:Shared}{E:Value->Shared->Prop}
theorem Inv.wish(I:Inv X pins σ H s)(E:Value->Shared->Prop):Inv (X.wish E) pins σ H s:=⟨I.ok.wish E,I.os,I.bare,I.base,I.loc,I.cell,I.free,I.freeC,I.pin,I.hok,I.len⟩
theorem Inv.unwish(I:Inv (X.wish E) pins σ H s):Inv X pins σ H s:=⟨I.ok.unwish,I.os,I.bare,I.base,I.loc,I.cell,I.free,I.freeC,I.pin,I.hok,I.len⟩
theorem SP.unwish(h:SP (X.wish E) pins D f s'):SP X pins D f s':=by
 cases f with
 | next=>obtain ⟨σ',a,I,q⟩:=h;exact ⟨σ',a,I.unwish,q⟩
 | brk=>obtain ⟨σ',a,I,q⟩:=h;exact ⟨σ',a,I.unwish,q⟩
 | cont=>obtain ⟨σ',a,I,q⟩:=h;exact ⟨σ',a,I.unwish,q⟩
 | ret u=>obtain ⟨v,σ',a,I,r,q⟩:=h;exact ⟨v,σ',a,I.unwish,r,q⟩
theorem PSs.nox{st:List Stmt}(h:PSs X.nox st t):PSs X st t:=fun pins s σ H D I hw =>
 wpAny_mono (h pins s σ H D (I.wish _) hw) (fun _ _ q=>q.unwish) fun _ _ z=>False.elim z
end
section
variable{X:Cx}{st:Stmt}{rest:List Stmt}{t u:TS}{e:Expr}{te:TE}{pos:Pos}
noncomputable def tNext:TS:=fun D σ H=>D.nx σ H
noncomputable def tSeq(t u:TS):TS:=fun D σ H=>t { D with nx:=u D } σ H
theorem J13:PSs X [] tNext:=fun _ _ σ H _ I h=>wpAny_execs_nil ⟨σ,H,I,h⟩
theorem J1(c:PS X st t)(b:PSs X rest u):PSs X (st :: rest) (tSeq t u):=by
 intro pins s σ H D I h;refine wpAny_execs_cons (thn (c pins s σ H { D with nx:=u D } I h) fun f a q=>?_)
 cases f with
 | next =>
  obtain ⟨σ',e,d,q⟩:=q;exact b pins a σ' e D d q
 | ret v=>exact q
 | brk=>exact q
 | cont=>exact q
theorem J7(a:PS X st t):PSs X [st] t:=by
 intro pins s σ H D I h;refine wpAny_execs_cons (thn (a pins s σ H D I h) fun f b q=>?_)
 cases f with
 | next=>exact wpAny_execs_nil q
 | ret v=>exact q
 | brk=>exact q
 | cont=>exact q
theorem Inv.quiet(I:Inv X pins σ H s):interactive X.env=false:=by simp [interactive,I.ok.kind]
noncomputable def tDrop(a:TE):TS:=fun D σ H=>a σ H fun _ b=>D.nx σ b
theorem J1t(c:PE X e te)(b:swapsWith e none pos.line X.env=pure false:=by rfl):PS X (.Expr e pos) (tDrop te):=by
 intro pins s σ H D I h;exact wpAny_Expr_any (thn (c pins s σ H _ I h) fun v i d=>by obtain ⟨x,g,f,j,a⟩:=d;exact ⟨σ,g,f,a⟩) I.quiet b
noncomputable def tRet(a:TE):TS:=fun D σ H=>a σ H D.rt
theorem Jh(c:PE X e te):PS X (.Return (some e) pos) (tRet te):=by
 intro pins s σ H D I h;exact wpAny_Return_some (thn (c pins s σ H _ I h) fun v i d=>by obtain ⟨x,g,f,a,b⟩:=d;exact ⟨x,σ,g,f,a,b⟩)
noncomputable def tIfS(c:TT)(t u:TS):TS:=fun D σ H=>c σ H fun b a=>if b=true then t D σ a else u D σ a
theorem J24(j:PT X c tc)(l:PSs X a t)(hb:PSs X b u):PS X (.If c a b pos) (tIfS tc t u):=by
 intro pins s σ H D I h;refine wpAny_If (thn (j pins s σ H _ I h) fun d e m=>?_);obtain ⟨i,g,f⟩:=m
 cases d with
 | true=>exact l pins e σ i D g f
 | false=>exact hb pins e σ i D g f
noncomputable def tNever:TS:=fun _ _ _=>False
theorem J25:PS X st tNever:=fun _ _ _ _ _ _ h=>h.elim
end
noncomputable abbrev TG:=V->St->Hp->(St->Hp->Prop)->Prop
noncomputable abbrev TGs:=List V->St->Hp->(St->Hp->Prop)->Prop
noncomputable def PG(X:Cx)(a:Expr)(t:TG):Prop:=
 ∀ (pins:List (Addr × Obj)) (s:Shared) (σ:St) (H:Hp) (v:V) (u:Value) (Q:St->Hp->Prop),Inv X pins σ H s->RelV v u->t v σ H Q->
  wpAny (model X.prog X.w) X.A (assign a X.env u) (fun _ s'=>∃ σ' b,Inv X pins σ' b s'/\Q σ' b) X.xe s
noncomputable def PGs(X:Cx)(ts:List Expr)(t:TGs):Prop:=
 ∀ (pins:List (Addr × Obj)) (s:Shared) (σ:St) (H:Hp) (vs:List V) (us:List Value) (Q:St->Hp->Prop),Inv X pins σ H s->Vals vs us->t vs σ H Q->
  wpAny (model X.prog X.w) X.A (assignInOrder ((assignEach ts X.env).map (·.2)) us) (fun _ s'=>∃ σ' a,Inv X pins σ' a s'/\Q σ' a) X.xe s
noncomputable abbrev TSet:=V->V->V->Hp->(Hp->Prop)->Prop
noncomputable def PSet(X:Cx)(t:TSet):Prop:=
 ∀ (pins:List (Addr × Obj)) (s:Shared) (σ:St) (H:Hp) (o i v:V) (a b u:Value) (Q:Hp->Prop),Inv X pins σ H s->RelV o a->RelV i b->RelV v u->t o i v H Q->
  wpAny (model X.prog X.w) X.A (setItem a b u) (fun _ s'=>∃ c,Inv X pins σ c s'/\Q c) X.xe s
section
variable{X:Cx}{pos:Pos}
noncomputable def Jhc(i:Nat):TG:=fun v σ H Q=>Q (σ.set i (some v)) H
theorem J1y{i:Nat}{x:Str}(c:X.N.Nodup)(hi:X.N[i]?=some x)(a:Loc X.env.scope x)(b:X.fn x=true\/X.env.scope.names.lookup x=some .local:=by first | exact .inl rfl | exact .inr rfl | assumption):PG X (.Name x pos) (Jhc i):=by
 intro pins s σ H v u Q I r h;exact wpAny_assign_Name (Jex I c hi a r (fun s' d=>⟨_,H,d,h⟩) b)
noncomputable def gNil:TGs:=fun vs σ H Q=>vs=[]/\Q σ H
inductive gConsR(t:TG)(u:TGs)(vs:List V)(σ:St)(H:Hp)(Q:St->Hp->Prop):Prop
 | mk(v r:_)(_:vs=v :: r)(_:t v σ H fun σ' a=>u r σ' a Q)
noncomputable def Jsg(t:TG)(u:TGs):TGs:=fun vs σ H Q=>gConsR t u vs σ H Q
theorem Jb6:PGs X [] gNil:=by
 intro pins s σ H vs us Q I r h;obtain ⟨e,h⟩:=h;exact assignInOrder_nil ⟨σ,H,I,h⟩
theorem J3g(g:PG X e t)(f:PGs X es u)(c:(assignEach (e :: es) X.env).map (·.2)=assign e X.env :: (assignEach es X.env).map (·.2):=by rfl):PGs X (e :: es) (Jsg t u):=by
 intro pins s σ H vs us Q I r h;obtain ⟨v,m,i,h⟩:=h;subst i
 cases r with
 | cons r rr =>
  rw [c];refine assignInOrder_cons (thn (g pins s σ H _ _ _ I r h) fun _ a d=>?_);obtain ⟨σ1,l,j,b⟩:=d;exact f pins a σ1 l _ _ Q j rr b
inductive gTupR(K:Frag)(n:Nat)(t:TGs)(v:V)(σ:St)(H:Hp)(Q:St->Hp->Prop):Prop
 | mk(a xs:_)(_:v=.ref a)(_:SqT K H a xs)(_:xs.length=n)(_:t xs σ H Q)
noncomputable def gTup(K:Frag)(n:Nat)(t:TGs):TG:=fun v σ H Q=>gTupR K n t v σ H Q
theorem Jfj(p:X.calm=true)(h:PGs X es t)(l:(assignEach es X.env).length=n:=by rfl)(c:(assignEach es X.env).findIdx? (·.1)=none:=by rfl):PG X (.Tuple es k pos) (gTup X.K n t):=by
 intro pins s σ H v u Q I r hw;obtain ⟨a,xs,q,j,m,hw⟩:=hw;subst q;cases r;obtain ⟨f,d,i,y⟩:=I.tuple j;refine assign_Tuple_tuple (I.ok.hd p) i (by simp [l,<- m,d.length]) c fun h' g=>?_;have w:=I.kept (t':=s.toks) fun b o e=>g b o (Nat.ne_of_lt (lt_size e)) e;exact h pins _ σ H xs _ Q w (by simp_all) hw
noncomputable def gSub(a b:TE)(t:TSet):TG:=fun v σ H Q=>a σ H fun o e=>b σ e fun i d=>t o i v d fun c=>Q σ c
theorem Jfk{o i:Expr}{d e:TE}{t:TSet}(w:PE X o d)(hi:PE X i e)(q:PSet X t)(z:∀ v,assign (.Subscript o i pos) X.env v=(do
   let a <- holding [v] (eval o X.env);let b <- holding [v,a] (eval i X.env)
   standAt pos
   holding [v,a,b] (setItem a b v)
   release [v,a,b] []):=by intro _;rfl):PG X (.Subscript o i pos) (gSub d e t):=by
 intro pins s σ H v u Q I r h;rw [z];refine wpAny_bind (wpAny_holding (thn (w pins s σ H _ I h) fun a g c=>?_));obtain ⟨x,F,C,l,p⟩:=c;refine wpAny_bind (wpAny_holding (thn (hi pins g σ F _ C p) fun b f c=>?_));obtain ⟨y,E,B,j,n⟩:=c;refine wpAny_bind (wpAny_standAt (wpAny_bind (wpAny_holding (thn (q pins f σ E x y v a b u _ B l j r n) fun _ G c=>?_))));obtain ⟨D,A,m⟩:=c;exact wpAny_release ⟨σ,D,A,m⟩
noncomputable def tAsg(a:TE)(g:TG):TS:=fun D σ H=>a σ H fun x b=>g x σ b D.nx
theorem Jfh(i:PE X e te)(f:PG X tg g)(d:swapsWithSole [tg] e pos.line X.env=pure false:=by rfl)(hw:swappedStores [tg] e X.env=pure none:=by rfl)(l:(assignEach [tg] X.env).map (·.2)=[assign tg X.env]:=by rfl):PS X (.Assign [tg] e pos) (tAsg te g):=by
 intro pins s σ H D I h;refine wpAny_Assign_stores (thn (i pins s σ H _ I h) fun v a j=>?_) d hw;obtain ⟨x,n,m,b,c⟩:=j;rw [l];exact thn (f pins a σ n x v _ m b c) fun _ o q=>q
theorem Jf{i:Nat}{x:Str}{e:Expr}{b:TE}{a:Pos}(m:X.N.Nodup)(hi:X.N[i]?=some x)(f:Loc X.env.scope x)(l:PE X e b)(g:swapsWith e (some (.Name x a)) pos.line X.env=pure false:=by rfl)(j:X.fn x=true\/X.env.scope.names.lookup x=some .local:=by first | exact .inl rfl | exact .inr rfl | assumption):
  PS X (.Assign [.Name x a] e pos) (tAsg b (Jhc i)):=by
 intro pins s σ H D I h;refine wpAny_Assign_Name (thn (l pins s σ H _ I h) fun v u n=>?_) g;obtain ⟨y,q,p,c,d⟩:=n;exact Jex p m hi f c (fun r o=>⟨_,q,o,d⟩) j
end
section
variable{X:Cx}{pos:Pos}
noncomputable def tWhile(c:TT)(f:TS):TS:=fun D σ H=>∃ W:Nat->St->Hp->Prop,(∃ m,W m σ H)/\∀ m σ H,W m σ H->
 c σ H fun b d=>if b=true then ∃ N:St->Hp->Prop,(∀ σ' e,N σ' e->∃ a,a < m/\W a σ' e)/\f { D with nx:=N,ct:=N,bk:=D.nx } σ d else D.nx σ d
theorem Jb3(o:PassesOwn (model X.prog X.w) X.A X.env X.xe)(G:PT X c tc)(hb:PSs X body tb):PS X (.While c body [] pos) (tWhile tc tb):=by
 intro pins s σ H D I h;obtain ⟨W,⟨F,B⟩,turn⟩:=h;refine wpAny_While (codeAny_whileLoop (fun n s'=>∃ σ' y,Inv X pins σ' y s'/\W n σ' y) ?_ F ⟨σ,H,I,B⟩);rintro n E ⟨σ1,u,K,z⟩;refine wpAny_passesOwn o (thn (G pins E σ1 u _ K (turn n σ1 u z)) fun b C J=>?_);obtain ⟨r,q,e⟩:=J
 cases b with
 | true =>
  obtain ⟨N,p,e⟩:=e;refine wpAny_passesOwn o (thn (hb pins C σ1 r _ q e) fun f L d=>?_)
  cases f with
  | next =>
   obtain ⟨σ3,a,m,i⟩:=d;obtain ⟨j,l,g⟩:=p σ3 a i;exact ⟨j,l,σ3,a,m,g⟩
  | cont =>
   obtain ⟨σ3,a,m,i⟩:=d;obtain ⟨j,l,g⟩:=p σ3 a i;exact ⟨j,l,σ3,a,m,g⟩
  | brk=>exact d
  | ret v=>exact d
 | false =>
  exact wpAny_execs_nil ⟨σ1,r,q,e⟩
end
structure It where
 go:Nat->Hp->Prop
 yld:Nat->Hp->V->Hp->Prop
 stop:Nat->Hp->Prop
noncomputable def FpOk(X:Cx)(pins:List (Addr × Obj))(H:Hp)(b:Addr):Prop:=
 H b=none/\b≠X.env.locals/\b ∉ X.fs/\(b∈X.ex\/X.s₀.heap.objs.size<=b)/\(∀ x c,X.env.cells.lookup x=some c->c≠b)/\∀ p∈X.pn ++ pins,p.1≠b
theorem Inv.fpOk(I:Inv X pins σ H s)(hb:s.heap.objs.size<=b)(d:H' b=none):FpOk X pins H' b:=by
 refine ⟨d,Nat.ne_of_gt (Nat.lt_of_lt_of_le I.lt hb),I.nofs hb,.inr (Nat.le_trans I.sz hb),fun x c e z=>?_,fun p a z=>?_⟩
 ·obtain ⟨v,q⟩:=I.cell x c e;exact absurd (Nat.lt_of_lt_of_le q.lt (by rw [z];exact hb)) (Nat.lt_irrefl _)
 ·exact absurd (Nat.lt_of_lt_of_le (lt_size (I.pin p a).1) (by rw [z];exact hb)) (Nat.lt_irrefl _)
structure Turn(P:Program)(w:World)(K:Frag)(tg:Expr)(J:It)(fp:List Addr)(it:Addr)(tn:Nat->Heap->Prop):Prop where
 mem:it∈fp
 obj:∀ i h,tn i h->∀ b∈fp,∃ o,h.get? b=some o/\∀ v,o.data≠.cell v
 keep:∀ i h h',tn i h->(∀ b∈fp,∀ o,h.get? b=some o->h'.get? b=some o)->tn i h'
 item:∀ (X:Cx),X.prog=P->X.w=w->X.K=K->X.calm=true->∀ (i:Nat) (pins:List (Addr × Obj)) (s:Shared) (σ:St) (H:Hp) (E:Value->Shared->Prop),Inv X pins σ H s->(∀ b∈fp,FpOk X pins H b)->tn i s.heap->J.go i H->
  wpAny (model P w) X.A (pyNext (.ref it)) (fun r s1=>∃ u,r=some u/\
   wpAny (model P w) X.A (letOwnedTupleGo tg (.ref it) u) (fun _ s2=>∃ x H',Inv X pins σ H' s2/\RelV x u/\J.yld i H x H'/\tn (i + 1) s2.heap/\∀ b∈fp,H' b=none) E s1) E s
 done:∀ (X:Cx),X.prog=P->X.w=w->X.K=K->X.calm=true->∀ (i:Nat) (pins:List (Addr × Obj)) (s:Shared) (σ:St) (H:Hp) (E:Value->Shared->Prop),Inv X pins σ H s->(∀ b∈fp,FpOk X pins H b)->tn i s.heap->J.stop i H->
  wpAny (model P w) X.A (pyNext (.ref it)) (fun r s1=>r=none/\Inv X pins σ H s1) E s
 self:∀ (A:Around) (i:Nat) (s:Shared) (Q:Value->Shared->Prop) (E:Value->Shared->Prop),tn i s.heap->Q (.ref it) s->wpAny (model P w) A (pyIter (.ref it)) Q E s
noncomputable abbrev TI:=St->Hp->(It->Hp->Prop)->Prop
noncomputable def PIE(X:Cx)(pins:List (Addr × Obj))(σ:St)(g:Expr)(R:It->Hp->Prop)(a:Value)(e:Shared):Prop:=
 ∃ (it:Addr) (f:List Addr) (d:Nat->Heap->Prop) (J:It) (c:Hp),a=.ref it/\Inv X pins σ c e/\Turn X.prog X.w X.K g J f it d/\d 0 e.heap/\(∀ b∈f,FpOk X pins c b)/\R J c
noncomputable def PI(X:Cx)(c a:Expr)(b:TI):Prop:=
 ∀ (pins:List (Addr × Obj)) (s:Shared) (σ:St) (H:Hp) (R:It->Hp->Prop),Inv X pins σ H s->b σ H R->
  wpAny (model X.prog X.w) X.A (eval a X.env) (fun v d=>wpAny (model X.prog X.w) X.A (pyIter v) (PIE X pins σ c R) X.xe d) X.xe s
theorem go_of(b : s.heap.get? it = some o)(d : o.cls = .type n)(hd : o.data = .fields vs)(c : ["enumerate", "zip", "dict_itemiterator", "dict_reverseitemiterator", "odict_iterator", "itertools.zip_longest", "itertools.pairwise"].contains n = false)(a : Q () s): wpAny M A (letOwnedTupleGo tg (.ref it) u) Q E s := by
  cases tg <;> first
    | exact wpAny_pure a
    | (cases u <;> first
        | exact wpAny_pure a
        | (refine wpAny_bind (wpAny_load b ?_)
           rw [d, hd];show wpAny M A (if (["enumerate", "zip", "dict_itemiterator", "dict_reverseitemiterator", "odict_iterator", "itertools.zip_longest", "itertools.pairwise"].contains n && vs[0]? == some (rawInt _)) = true then _ else _) Q E s;rw [if_neg (by intro h; rw [c, Bool.false_and] at h; cases h)];exact wpAny_pure a))
noncomputable def Itl(K:Frag)(a:Addr):It:=
 ⟨fun i H=>∃ xs x,SqL K H a xs/\xs[i]?=some x,fun i H x b=>b=H/\∀ xs,SqL K H a xs->xs[i]?=some x,fun i H=>∃ xs,SqL K H a xs/\xs.length<=i⟩
noncomputable def Itt(K:Frag)(a:Addr):It:=
 ⟨fun i H=>∃ xs x,SqT K H a xs/\xs[i]?=some x,fun i H x b=>b=H/\∀ xs,SqT K H a xs->xs[i]?=some x,fun i H=>∃ xs,SqT K H a xs/\xs.length<=i⟩
noncomputable def Itr(lo:Int)(n:Nat):It:=⟨fun i _=>i < n,fun i H x a=>a=H/\x=.int (lo + i),fun i _=>n<=i⟩
theorem Jhu{P:Program}{w:World}{K:Frag}{J:Expr}(a it:Addr):Turn P w K J (Itl K a) [it] it (fun i h=>h.IsListIter it a i) where
 mem:=by simp
 obj:=fun i h st b hb=>by
  have e:b=it:=by simpa using hb
  subst e;obtain ⟨o,e,c,d⟩:=st;exact ⟨o,e,fun v z=>by rw [d] at z;cases z⟩
 keep:=fun i h h' st k=>st.at fun o e=>k it (by simp) o e
 item:=by
  intro X r hw y G i pins s σ H E I j st q;subst r hw y;obtain ⟨xs,x,g,n⟩:=q;obtain ⟨m,l,p,N⟩:=I.list g;obtain ⟨u,Q,M⟩:=l.get n;obtain ⟨F,D,R,C,B,A⟩:=j it (by simp);refine wpAny_pyNext_list_item st p.isList (x:=u) (by simpa using Q) fun h' f L=>?_;have T:Inv X pins σ H { s with heap:=h' }:=I.turned (t':=s.toks) (fun b o hb e=>(L.2 b hb).trans e) F D C B A;obtain ⟨o,e,c,d⟩:=id f;exact ⟨u,rfl,go_of (s:={ s with heap:=h' }) e c d (by decide) ⟨x,H,T,M,⟨rfl,fun U O=>by rw [I.list_inj O g];exact n⟩,f,fun b hb=>(j b hb).1⟩⟩
 done:=by
  intro X r hw y G i pins s σ H E I j st q;subst r hw y;obtain ⟨xs,g,n⟩:=q;obtain ⟨m,l,p,N⟩:=I.list g;obtain ⟨F,D,R,C,B,A⟩:=j it (by simp);have W:=l.length;exact wpAny_pyNext_list_end (I.ok.hd G) st p.isList (by simp;lia) fun h' S=>⟨rfl,I.turned (t':=s.toks) (fun b o hb e=>S b o hb e) F D C B A⟩
 self:=fun _ _ _ _ _ st h=>wpAny_pyIter_listiter st h
theorem Jgk{P:Program}{w:World}{K:Frag}{J:Expr}(a it:Addr):Turn P w K J (Itt K a) [it] it (fun i h=>h.IsTupleIter it a i) where
 mem:=by simp
 obj:=fun i h st b hb=>by
  have e:b=it:=by simpa using hb
  subst e;obtain ⟨o,e,c,d⟩:=st;exact ⟨o,e,fun v z=>by rw [d] at z;cases z⟩
 keep:=fun i h h' st k=>st.at fun o e=>k it (by simp) o e
 item:=by
  intro X r hw y G i pins s σ H E I l st q;subst r hw y;obtain ⟨xs,x,j,n⟩:=q;obtain ⟨f,m,p,N⟩:=I.tuple j;obtain ⟨u,Q,M⟩:=m.get n;obtain ⟨F,D,R,C,B,A⟩:=l it (by simp);refine wpAny_pyNext_tuple_item st (show s.heap.IsTuple a f.toArray from p) (x:=u) (by simpa using Q) fun h' g L=>?_;have T:Inv X pins σ H { s with heap:=h' }:=I.turned (t':=s.toks) (fun b o hb e=>(L.2 b hb).trans e) F D C B A;obtain ⟨o,e,c,d⟩:=id g;exact ⟨u,rfl,go_of (s:={ s with heap:=h' }) e c d (by decide) ⟨x,H,T,M,⟨rfl,fun U O=>by rw [I.tuple_inj O j];exact n⟩,g,fun b hb=>(l b hb).1⟩⟩
 done:=by
  intro X r hw y G i pins s σ H E I l st q;subst r hw y;obtain ⟨xs,j,n⟩:=q;obtain ⟨f,m,p,N⟩:=I.tuple j;obtain ⟨F,D,R,C,B,A⟩:=l it (by simp);have W:=m.length;exact wpAny_pyNext_tuple_end (I.ok.hd G) st (show s.heap.IsTuple a f.toArray from p) (by simp;lia) fun h' S=>⟨rfl,I.turned (t':=s.toks) (fun b o hb e=>S b o hb e) F D C B A⟩
 self:=fun _ _ _ _ _ st h=>wpAny_pyIter_tupleiter st h
theorem Jgl{K:Frag}(it:Addr)(lo:Int)(n:Nat):Turn P w K tg (Itr lo n) [it] it (fun i h=>IsRangeIter h it (lo + (i:Nat) * 1) ((n:Int) - (i:Nat)) 1) where
 mem:=by simp
 obj:=fun i h st b hb=>by
  simp_all
 keep:=fun i h h' st k=>k it (by simp) _ st
 item:=by
  intro X r hw u f i pins s σ H E I c st d;subst r hw u;obtain ⟨p,m,A,l,j,g⟩:=c it (by simp);have W:=Walks.range (prog:=X.prog) (w:=X.w) (I.ok.hd f) it lo 1 n;refine W.item i s _ _ d st fun v h' q z a y=>?_;obtain ⟨t,rfl⟩:=z;have C:Inv X pins σ H { s with heap:=h',toks:=q }:=I.turned (fun b o hb e=>y b o (by simpa using hb) e) p m l j g;refine ⟨_,rfl,go_of (s:={ s with heap:=h',toks:=q }) (n:="range_iterator") a rfl rfl (by decide) ⟨.int (lo + i),H,C,⟨t,?_⟩,⟨rfl,rfl⟩,a,fun b hb=>(c b hb).1⟩⟩;rw [Int.mul_one]
 done:=by
  intro X r hw u f i pins s σ H E I c st d;obtain ⟨p,m,A,l,j,g⟩:=c it (by simp);exact wpAny_pyNext_range_end (I.ok.hd f) st (by have:n<=i:=d;lia) fun h' B=>⟨rfl,I.turned (t':=s.toks) (fun b o hb e=>B b o hb e) p m l j g⟩
 self:=fun _ _ _ _ _ st h=>wpAny_pyIter_rangeiter st h
section
variable{X:Cx}{tg:Expr}
inductive iListR(K:Frag)(R:It->Hp->Prop)(x:V)(b:Hp):Prop
 | mk(a:_)(_:x=.ref a)(_:(∃ xs,SqL K b a xs))(_:R (Itl K a) b)
noncomputable def iList(K:Frag)(tl:TE):TI:=fun σ H R=>tl σ H fun x a=>iListR K R x a
inductive iTupR(K:Frag)(R:It->Hp->Prop)(x:V)(b:Hp):Prop
 | mk(a:_)(_:x=.ref a)(_:(∃ xs,SqT K b a xs))(_:R (Itt K a) b)
noncomputable def iTup(K:Frag)(tl:TE):TI:=fun σ H R=>tl σ H fun x a=>iTupR K R x a
theorem J33{l:Expr}{tl:TE}(m:PE X l tl):PI X tg l (iList X.K tl):=by
 intro pins s σ H R I h;refine thn (m pins s σ H _ I h) fun v c n=>?_;obtain ⟨x,r,d,f,g⟩:=n;obtain ⟨a,e,⟨xs,j⟩,q⟩:=g;subst e;cases f;obtain ⟨i,u,p,w⟩:=d.list j;refine wpAny_pyIter_list p.isList ?_;refine ⟨c.heap.objs.size,[c.heap.objs.size],_,_,r,rfl,d.kept (t':=c.toks) fun b o e=>get?_push_of_some _ e,Jhu a _,⟨_,get?_push_size _ rfl,rfl,rfl⟩,fun b hb=>?_,q⟩;have e:b=c.heap.objs.size:=by simpa using hb
 subst e;exact d.fpOk (Nat.le_refl _) (d.hok.fresh (Nat.le_refl _))
theorem Ja8{l:Expr}{tl:TE}(m:PE X l tl):PI X tg l (iTup X.K tl):=by
 intro pins s σ H R I h;refine thn (m pins s σ H _ I h) fun v c n=>?_;obtain ⟨x,r,d,g,i⟩:=n;obtain ⟨a,e,⟨xs,j⟩,q⟩:=i;subst e;cases g;obtain ⟨f,u,p,w⟩:=d.tuple j;refine wpAny_pyIter_tuple (show c.heap.IsTuple a f.toArray from p) ?_;refine ⟨c.heap.objs.size,[c.heap.objs.size],_,_,r,rfl,d.kept (t':=c.toks) fun b o e=>get?_push_of_some _ e,Jgk a _,⟨_,get?_push_size _ rfl,rfl,rfl⟩,fun b hb=>?_,q⟩;have e:b=c.heap.objs.size:=by simpa using hb
 subst e;exact d.fpOk (Nat.le_refl _) (d.hok.fresh (Nat.le_refl _))
theorem Jn6{lo:Int}(I:Inv X pins σ H s)(g:-(2 ^ 62)<=lo)(f:lo < 2 ^ 62)(d:-(2 ^ 62)<=hi)(c:hi < 2 ^ 62)(q:R (Itr lo (hi - lo).toNat) H):wpAny (model X.prog X.w) X.A (pyIter (.ref s.heap.objs.size)) (PIE X pins σ tg R) E { s with heap:=s.heap.push { cls:=.type "range",data:=.fields #[.int lo t,.int hi u,.int 1 v] },toks:=tk }:=by
 refine wpAny_pyIter_range (IsRange.new ..) (small_one g f d c) ?_;have a:Inv X pins σ H { s with heap:=s.heap.push { cls:=.type "range",data:=.fields #[.int lo t,.int hi u,.int 1 v] },toks:=tk }:=I.kept fun b o e=>get?_push_of_some _ e;refine ⟨(s.heap.push { cls:=.type "range",data:=.fields #[.int lo t,.int hi u,.int 1 v] }).objs.size,[(s.heap.push { cls:=.type "range",data:=.fields #[.int lo t,.int hi u,.int 1 v] }).objs.size],_,_,H,rfl,
  a.kept (t':=tk) fun b o e=>get?_push_of_some _ e,Jgl _ lo (hi - lo).toNat,?_,fun b hb=>?_,q⟩
 ·have i:lo + ((0:Nat):Int) * 1=lo:=by simp
  have h:(((hi - lo).toNat:Nat):Int) - ((0:Nat):Int)=Builtin.Range.rangeSize lo hi 1:=by rw [rangeSize_one];split <;> lia
  rw [i,h];exact get?_push_size _ rfl
 ·have e:b=(s.heap.push { cls:=.type "range",data:=.fields #[.int lo t,.int hi u,.int 1 v] }).objs.size:=by simpa using hb
  subst e;exact a.fpOk (Nat.le_refl _) (a.hok.fresh (Nat.le_refl _))
inductive iRng1R(R:It->Hp->Prop)(vs:List V)(a:Hp):Prop
 | mk(j:Int)(_:vs=[.int j])(_:-(2 ^ 62)<=j)(_:j < 2 ^ 62)(_:R (Itr 0 j.toNat) a)
noncomputable def iRng1(a:TA):TI:=fun σ H R=>a σ H fun vs b=>iRng1R R vs b
theorem J6d(i:Gl X "range")(g:X.mg "range"=none)(l:PA X [a] ta)(f:starEach [a] X.env=[(false,eval a X.env)]:=by rfl):PI X tg (.Call (.Name "range" p) [a] [] pos) (iRng1 ta):=by
 intro pins s σ H R I h;refine Call_ (J7g I i g boot_range (callWith_type1 (thn (l pos pins s σ H _ I h) fun us o m=>?_) f rfl));obtain ⟨vs,u,n,c,b⟩:=m;obtain ⟨j,e,b,d,q⟩:=b;subst e
 cases c with
 | cons r rr =>
  cases rr;obtain ⟨t,rfl⟩:=r;exact call_range_1 (Jn6 n (by lia) (by lia) b d (by simp_all))
noncomputable def tFor(c:TI)(g:TG)(d:TS):TS:=fun D σ H=>c σ H fun J f=>∃ W:Nat->Nat->St->Hp->Prop,(∃ m,W 0 m σ f)/\∀ i m σ H,W i m σ H->
 (J.stop i H/\D.nx σ H)\/(J.go i H/\∃ N:St->Hp->Prop,(∀ σ' a,N σ' a->∃ b,b < m/\W (i + 1) b σ' a)/\∀ x a,J.yld i H x a->g x σ a fun σ2 e=>d { D with nx:=N,ct:=N,bk:=D.nx } σ2 e)
noncomputable def Jc5(a:List Addr)(h:Heap):List (Addr × Obj):=a.filterMap fun b=>(h.get? b).map fun o=>(b,o)
theorem J5e(hb:b∈fp)(e:h.get? b=some o):(b,o)∈Jc5 fp h:=List.mem_filterMap.mpr ⟨b,hb,by rw [e];rfl⟩
theorem Jk3(a:p∈Jc5 fp h):p.1∈fp/\h.get? p.1=some p.2:=by
 obtain ⟨b,hb,e⟩:=List.mem_filterMap.mp a
 cases q:h.get? b with
 | none=>simp_all
 | some o =>
  rw [q] at e;have c:=Option.some.inj e;subst c;exact ⟨hb,q⟩
theorem Inv.pinned(I:Inv X pins σ H s)(g:∀ b∈fp,FpOk X pins H b)(f:∀ b∈fp,∃ o,s.heap.get? b=some o/\∀ v,o.data≠.cell v):Inv X (pins ++ Jc5 fp s.heap) σ H s:=
 I.pins_of fun p c=>(mem_append.mp c).elim (fun z=>I.pin p (mem_append_right _ z)) fun z=>by
  obtain ⟨hb,e⟩:=Jk3 z;obtain ⟨j,i,h,_⟩:=g p.1 hb;obtain ⟨o,a,d⟩:=f p.1 hb;rw [e] at a;cases a;exact ⟨e,j,i,h,d⟩
theorem Inv.unpinned(I:Inv X (pins ++ pl) σ H s):Inv X pins σ H s:=I.pins_of fun p a=>I.pin p (mem_append_right _ (mem_append_left _ a))
theorem J3s(E:PassesOwn (model X.prog X.w) X.A X.env X.xe)(Y:X.calm=true)(hi:PI X tg iter wi)(hg:PG X tg g)(hb:PSs X body tb)(hs:∀ x,foldedSetIterable iter X.env x=pure x:=by intro _;rfl):PS X (.For tg iter body [] pos) (tFor wi g tb):=by
 intro pins s σ H D I h;refine wpAny_For (thn (hi pins s σ H _ I h) fun v s1 h1=>thn h1 fun aa s2 h2=>?_) hs;obtain ⟨it,G,R,J,H2,e,I2,T,L,Z,W,⟨m0,w0⟩,turn⟩:=h2;subst e;have a:∀ {p:Hp},(∀ b∈G,p b=none)->∀ b∈G,FpOk X pins p b:=fun hn b hb=>⟨hn b hb,(Z b hb).2⟩;refine codeAny_forLoop_any (fun n s'=>∃ i σ' p,Inv X pins σ' p s'/\R i s'.heap/\(∀ b∈G,p b=none)/\W i n σ' p) ?_ m0 ⟨0,σ,H2,I2,L,fun b hb=>(Z b hb).1,w0⟩;rintro n U ⟨i,σ3,K,I3,B,F,w3⟩;rcases turn i n σ3 K w3 with ⟨stop,qn⟩ | ⟨go,N,hN,step⟩
 ·refine wpAny_passesOwn E (thn (T.done X rfl rfl rfl Y i pins U σ3 K X.xe I3 (a F) B stop) fun r s4 z=>?_);obtain ⟨O,I4⟩:=z;subst O;exact wpAny_execs_nil ⟨σ3,K,I4,qn⟩
 ·refine wpAny_passesOwn E (thn (T.item X rfl rfl rfl Y i pins U σ3 K X.xe I3 (a F) B go) fun r s4 z=>?_);obtain ⟨u,O,h4⟩:=z;subst O;refine wpAny_passesOwn E (thn h4 fun _ S z=>?_);obtain ⟨x,H5,I5,r5,y5,y,P⟩:=z;have Q:=I5.pinned (a P) (T.obj _ _ y);refine wpAny_passesOwn E (thn (hg _ S σ3 H5 x u _ Q r5 (step x H5 y5)) fun _ s6 z=>?_);obtain ⟨σ6,H6,I6,q6⟩:=z;refine wpAny_passesOwn E (thn (hb _ s6 σ6 H6 _ I6 q6) fun f M q=>?_);have c:∀ {σ7:St} {l:Hp},Inv X (pins ++ Jc5 G S.heap) σ7 l M->N σ7 l->∃ m,m < n/\∃ i σ' p,Inv X pins σ' p M/\R i M.heap/\(∀ b∈G,p b=none)/\W i m σ' p:=fun {σ7 l} j C=>by
   obtain ⟨m',hm,w7⟩:=hN σ7 l C;refine ⟨m',hm,i + 1,σ7,l,j.unpinned,T.keep _ _ _ y fun b hb o e=>(j.pin (b,o) (mem_append_right _ (mem_append_right _ (J5e hb e)))).1,fun b hb=>?_,w7⟩;obtain ⟨o,e,d⟩:=T.obj _ _ y b hb;exact (j.pin (b,o) (mem_append_right _ (mem_append_right _ (J5e hb e)))).2.1
  cases f with
  | next=>obtain ⟨σ7,l,j,C⟩:=q;exact c j C
  | cont=>obtain ⟨σ7,l,j,C⟩:=q;exact c j C
  | brk=>obtain ⟨σ7,l,j,q⟩:=q;exact ⟨σ7,l,j.unpinned,q⟩
  | ret v=>obtain ⟨x7,σ7,l,j,r7,q⟩:=q;exact ⟨x7,σ7,l,j.unpinned,r7,q⟩
end
theorem J5i{K:Frag}{g:TG}{h:TS}{D:Ends}(b:Nat->St->Hp->Prop)(r:b 0 σ H)(o:∀ i σ H,i<=xs.length->b i σ H->SqL K H a xs)(n:∀ i x σ H,xs[i]?=some x->b i σ H->g x σ H fun σ2 f=>h { D with nx:=b (i + 1),ct:=b (i + 1),bk:=D.nx } σ2 f)(hd:∀ σ H,b xs.length σ H->D.nx σ H):
  ∃ W:Nat->Nat->St->Hp->Prop,(∃ m,W 0 m σ H)/\∀ i m σ H,W i m σ H->
   ((Itl K a).stop i H/\D.nx σ H)\/((Itl K a).go i H/\∃ N:St->Hp->Prop,(∀ σ' c,N σ' c->∃ j,j < m/\W (i + 1) j σ' c)/\∀ x c,(Itl K a).yld i H x c->g x σ c fun σ2 f=>h { D with nx:=N,ct:=N,bk:=D.nx } σ2 f):=by
 refine ⟨fun i m σ H=>m=xs.length - i/\i<=xs.length/\b i σ H,⟨xs.length,by simp,Nat.zero_le _,r⟩,?_⟩;rintro i m σ H ⟨rfl,hi,p⟩;have q:=o i σ H hi p;by_cases d:i < xs.length
 ·refine .inr ⟨⟨xs,xs[i],q,by simp [d]⟩,b (i + 1),fun σ' c l=>⟨xs.length - (i + 1),by lia,rfl,d,l⟩,fun x c y=>?_⟩;obtain ⟨e,y⟩:=y;subst e;exact n i x σ _ (y xs q) p
 ·have e:i=xs.length:=by lia
  subst e;exact .inl ⟨⟨xs,q,Nat.le_refl _⟩,hd σ H p⟩
theorem Jee{K:Frag}{g:TG}{h:TS}{D:Ends}(b:Nat->St->Hp->Prop)(r:b 0 σ H)(o:∀ i σ H,i<=xs.length->b i σ H->SqT K H a xs)(n:∀ i x σ H,xs[i]?=some x->b i σ H->g x σ H fun σ2 f=>h { D with nx:=b (i + 1),ct:=b (i + 1),bk:=D.nx } σ2 f)(hd:∀ σ H,b xs.length σ H->D.nx σ H):
  ∃ W:Nat->Nat->St->Hp->Prop,(∃ m,W 0 m σ H)/\∀ i m σ H,W i m σ H->
   ((Itt K a).stop i H/\D.nx σ H)\/((Itt K a).go i H/\∃ N:St->Hp->Prop,(∀ σ' c,N σ' c->∃ j,j < m/\W (i + 1) j σ' c)/\∀ x c,(Itt K a).yld i H x c->g x σ c fun σ2 f=>h { D with nx:=N,ct:=N,bk:=D.nx } σ2 f):=by
 refine ⟨fun i m σ H=>m=xs.length - i/\i<=xs.length/\b i σ H,⟨xs.length,by simp,Nat.zero_le _,r⟩,?_⟩;rintro i m σ H ⟨rfl,hi,p⟩;have q:=o i σ H hi p;by_cases d:i < xs.length
 ·refine .inr ⟨⟨xs,xs[i],q,by simp [d]⟩,b (i + 1),fun σ' c l=>⟨xs.length - (i + 1),by lia,rfl,d,l⟩,fun x c y=>?_⟩;obtain ⟨e,y⟩:=y;subst e;exact n i x σ _ (y xs q) p
 ·have e:i=xs.length:=by lia
  subst e;exact .inl ⟨⟨xs,q,Nat.le_refl _⟩,hd σ H p⟩
theorem Jck{lo:Int}{n:Nat}{g:TG}{f:TS}{D:Ends}{σ:St}{H:Hp}(b:Nat->St->Hp->Prop)(o:b 0 σ H)(l:∀ i σ H,i < n->b i σ H->g (.int (lo + i)) σ H fun σ2 d=>f { D with nx:=b (i + 1),ct:=b (i + 1),bk:=D.nx } σ2 d)(hd:∀ σ H,b n σ H->D.nx σ H):
  ∃ W:Nat->Nat->St->Hp->Prop,(∃ m,W 0 m σ H)/\∀ i m σ H,W i m σ H->
   ((Itr lo n).stop i H/\D.nx σ H)\/((Itr lo n).go i H/\∃ N:St->Hp->Prop,(∀ σ' c,N σ' c->∃ h,h < m/\W (i + 1) h σ' c)/\∀ x c,(Itr lo n).yld i H x c->g x σ c fun σ2 d=>f { D with nx:=N,ct:=N,bk:=D.nx } σ2 d):=by
 refine ⟨fun i m σ H=>m=n - i/\i<=n/\b i σ H,⟨n,by simp,Nat.zero_le _,o⟩,?_⟩;rintro i m σ H ⟨rfl,hi,p⟩;by_cases a:i < n
 ·refine .inr ⟨a,b (i + 1),fun σ' c j=>⟨n - (i + 1),by lia,rfl,a,j⟩,fun x c y=>?_⟩;obtain ⟨e,y⟩:=y;subst e y;exact l i σ _ a p
 ·have e:i=n:=by lia
  subst e;exact .inl ⟨Nat.le_refl _,hd σ H p⟩
noncomputable abbrev R2:=V->V->Hp->VK->Prop
noncomputable def OpR(X:Cx)(f:Value->Value->Sem Value)(r:R2):Prop:=
 ∀ (pins:List (Addr × Obj)) (s:Shared) (σ:St) (H:Hp) (x y:V) (v u:Value) (Q:VK),Inv X pins σ H s->RelV x v->RelV y u->r x y H Q->
  wpAny (model X.prog X.w) X.A (f v u) (EP X pins σ Q) X.xe s
noncomputable def UnR(X:Cx)(f:Value->Sem Value)(r:V->Hp->VK->Prop):Prop:=
 ∀ (pins:List (Addr × Obj)) (s:Shared) (σ:St) (H:Hp) (x:V) (v:Value) (Q:VK),Inv X pins σ H s->RelV x v->r x H Q->
  wpAny (model X.prog X.w) X.A (f v) (EP X pins σ Q) X.xe s
noncomputable def J59(X:Cx)(f:Value)(r:List V->Hp->VK->Prop):Prop:=
 ∀ (pins:List (Addr × Obj)) (s:Shared) (σ:St) (H:Hp) (xs:List V) (us:List Value) (Q:VK),Inv X pins σ H s->Vals xs us->r xs H Q->
  wpAny (model X.prog X.w) X.A (call f us) (EP X pins σ Q) X.xe s
noncomputable def TruR(X:Cx)(r:V->Hp->(Bool->Hp->Prop)->Prop):Prop:=
 ∀ (pins:List (Addr × Obj)) (s:Shared) (σ:St) (H:Hp) (x:V) (v:Value) (Q:Bool->Hp->Prop),Inv X pins σ H s->RelV x v->r x H Q->
  wpAny (model X.prog X.w) X.A (truthy v) (TP X pins σ Q) X.xe s
noncomputable def tOp(r:R2)(b a:TE):TE:=fun σ H Q=>b σ H fun x d=>a σ d fun y c=>r x y c Q
noncomputable def tUn(r:V->Hp->VK->Prop)(a:TE):TE:=fun σ H Q=>a σ H fun x b=>r x b Q
inductive rIR(C:Int->Int->Prop)(g:Int->Int->V)(x y:V)(H:Hp)(Q:VK):Prop
 | mk(i j:_)(_:x=.int i)(_:y=.int j)(_:C i j)(_:Q (g i j) H)
noncomputable def rI(C:Int->Int->Prop)(g:Int->Int->V):R2:=fun x y H Q=>rIR C g x y H Q
inductive rI0R(g:Int->Int->V)(x y:V)(H:Hp)(Q:VK):Prop
 | mk(i j:_)(_:x=.int i)(_:y=.int j)(_:Q (g i j) H)
noncomputable def rI0(g:Int->Int->V):R2:=fun x y H Q=>rI0R g x y H Q
inductive rUR(g:Int->V)(x:V)(H:Hp)(Q:VK):Prop
 | mk(i:_)(_:x=.int i)(_:Q (g i) H)
noncomputable def rU(g:Int->V):V->Hp->VK->Prop:=fun x H Q=>rUR g x H Q
section
variable{X:Cx}{a b c:Expr}{ta tb tc:TE}{pos:Pos}
theorem binT(r:PE X a ta)(hb:PE X b tb){σ:St}{R:V->V->Hp->Prop}(I:Inv X pins σ H s)(h:ta σ H fun x g=>tb σ g fun y c=>R x y c){f:Value->Value->Sem Value}(q:∀ v u d x y c,Inv X pins σ c d->RelV x v->RelV y u->R x y c->wpAny (model X.prog X.w) X.A (f v u) Q X.xe d):
  wpAny (model X.prog X.w) X.A (eval a X.env) (fun v j=>wpAny (model X.prog X.w) X.A (eval b X.env) (fun u i=>wpAny (model X.prog X.w) X.A (f v u) Q X.xe i) X.xe j) X.xe s:=by
 refine thn (r pins s σ H _ I h) fun v l e=>?_;obtain ⟨x,g,B,n,p⟩:=e;refine thn (hb pins l σ g _ B p) fun u d e=>?_;obtain ⟨y,c,z,m,o⟩:=e;exact q v u d x y c z n m o
theorem Jl(f:OpR X (binaryOp op) r)(g:PE X a ta)(hb:PE X b tb):PE X (.BinOp a op b pos) (tOp r ta tb):=by
 intro pins s σ H Q I h;exact wpAny_BinOp (binT g hb I h fun v u c x y j i e d q=>f pins c σ j x y v u Q i e d q)
theorem J9s(e:UnR X (unaryOp op) r)(f:PE X a ta):PE X (.UnaryOp op a pos) (tUn r ta):=by
 intro pins s σ H Q I h;exact UnaryOp_ (thn (f pins s σ H _ I h) fun v b g=>by obtain ⟨x,j,i,c,d⟩:=g;exact e pins b σ j x v Q i c d)
theorem opI{g:Int->Int->Int}(a:∀ (i j:Int) (t u:Tok) (s:Shared) (Q:Value->Shared->Prop) (E:Value->Shared->Prop),C i j->Q (.int (g i j) s.toks) { s with toks:=s.toks + 1 }->wpAny (model X.prog X.w) X.A (f (.int i t) (.int j u)) Q E s):
  OpR X f (rI C fun i j=>.int (g i j)):=by
 intro pins s σ H x y v u Q I c b h;obtain ⟨i,j,rfl,rfl,d,q⟩:=h;obtain ⟨t,rfl⟩:=c;obtain ⟨t',rfl⟩:=b;exact a i j t t' s _ _ d ⟨.int (g i j),H,I.tok _,⟨_,rfl⟩,q⟩
theorem opI0{g:Int->Int->Int}(a:∀ (i j:Int) (t u:Tok) (s:Shared) (Q:Value->Shared->Prop) (E:Value->Shared->Prop),Q (.int (g i j) s.toks) { s with toks:=s.toks + 1 }->wpAny (model X.prog X.w) X.A (f (.int i t) (.int j u)) Q E s):
  OpR X f (rI0 fun i j=>.int (g i j)):=by
 intro pins s σ H x y v u Q I c b h;obtain ⟨i,j,rfl,rfl,q⟩:=h;obtain ⟨t,rfl⟩:=c;obtain ⟨t',rfl⟩:=b;exact a i j t t' s _ _ ⟨.int (g i j),H,I.tok _,⟨_,rfl⟩,q⟩
theorem opB0{g:Int->Int->Bool}(a:∀ (i j:Int) (t u:Tok) (s:Shared) (Q:Value->Shared->Prop) (E:Value->Shared->Prop),Q (.bool (g i j)) s->wpAny (model X.prog X.w) X.A (f (.int i t) (.int j u)) Q E s):
  OpR X f (rI0 fun i j=>.bl (g i j)):=by
 intro pins s σ H x y v u Q I c b h;obtain ⟨i,j,rfl,rfl,q⟩:=h;obtain ⟨t,rfl⟩:=c;obtain ⟨t',rfl⟩:=b;exact a i j t t' s _ _ ⟨.bl (g i j),H,I,rfl,q⟩
noncomputable def CDiv(i j:Int):Prop:=0 < j/\j < 1073741824
noncomputable def CPow(i j:Int):Prop:=0<=j/\j<=1000000/\i.natAbs < 2 ^ 64
noncomputable def CMul(i j:Int):Prop:=(-(2 ^ 64) < i/\i < 2 ^ 64)\/(-(2 ^ 64) < j/\j < 2 ^ 64)
theorem CMul.ok(h:CMul i j):IntMulOk i j:=by
 rcases h with ⟨h1,h2⟩ | ⟨h1,h2⟩
 ·exact .of_left (intBits_le_64 h1 h2)
 ·exact .of_right (intBits_le_64 h1 h2)
theorem Jgj(k:Nat):(0:Int)<=2 ^ k:=by
 rw [two_pow_cast];exact Int.natCast_nonneg _
theorem J1b:OpR X (binaryOp .Add) (rI0 fun i j=>.int (i + j)):=opI0 fun _ _ _ _ _ _ _ q=>add_int q
theorem J1u:OpR X (binaryOp .Sub) (rI0 fun i j=>.int (i - j)):=opI0 fun _ _ _ _ _ _ _ q=>sub_int q
theorem J8l:OpR X (binaryOp .Mult) (rI CMul fun i j=>.int (i * j)):=opI fun _ _ _ _ _ _ _ a q=>mul_int q a.ok
theorem J8o:OpR X (binaryOp .FloorDiv) (rI CDiv fun i j=>.int (i / j)):=opI fun i j _ _ _ _ _ a q=>by
 have c:=a.1;have b:=a.2;exact floordiv_int (by lia) (by rw [Int.fdiv_eq_ediv_of_nonneg i (by lia)];exact q) (.inl (PyProof.noPylong_small (by lia)))
theorem J2u:OpR X (binaryOp .Mod) (rI (fun _ j=>0 < j) fun i j=>.int (i % j)):=opI fun i j _ _ _ _ _ a q=>by
 exact mod_int' (by lia) (by rw [Int.fmod_eq_emod_of_nonneg i (by lia)];exact q)
theorem Jc8:OpR X (binaryOp .Pow) (rI CPow fun i j=>.int (i ^ j.toNat)):=opI fun _ _ _ _ _ _ _ a q=>pow_int_small a.1 a.2.1 a.2.2 q
theorem op_shr:OpR X (binaryOp .RShift) (rI (fun _ j=>0<=j) fun i j=>.int (i / 2 ^ j.toNat)):=opI fun i j _ _ _ _ _ a q =>
 rshift_int a (by rw [Int.fdiv_eq_ediv_of_nonneg i (Jgj _)];exact q)
theorem unI{g:Int->Int}(a:∀ (i:Int) (t:Tok) (s:Shared) (Q:Value->Shared->Prop) (E:Value->Shared->Prop),Q (.int (g i) s.toks) { s with toks:=s.toks + 1 }->wpAny (model X.prog X.w) X.A (f (.int i t)) Q E s):
  UnR X f (rU fun i=>.int (g i)):=by
 intro pins s σ H x v Q I b h;obtain ⟨i,rfl,q⟩:=h;obtain ⟨t,rfl⟩:=b;exact a i t s _ _ ⟨.int (g i),H,I.tok _,⟨_,rfl⟩,q⟩
theorem J5p:UnR X (unaryOp .USub) (rU fun i=>.int (-i)):=unI fun _ _ _ _ _ q=>neg_int q
end
noncomputable def scal:V->V->Bool
 | .non,.non=>true | .non,.int _=>true | .int _,.non=>true | .non,.bl _=>true | .bl _,.non=>true | .non,.str _=>true | .str _,.non=>true
 | .int _,.int _=>true | .bl _,.bl _=>true | .str _,.str _=>true | .byt _,.byt _=>true
 | .int _,.str _=>true | .str _,.int _=>true | .bl _,.str _=>true | .str _,.bl _=>true
 | _,_=>false
noncomputable def rEq:R2:=fun x y H Q=>scal x y=true/\Q (.bl (decide (x=y))) H
noncomputable def rNe:R2:=fun x y H Q=>scal x y=true/\Q (.bl (!decide (x=y))) H
theorem Jlk :decide (V.int i=V.int j)=(i == j):=by
 rw [Bool.eq_iff_iff];simp
theorem Jq9 :decide (V.bl i=V.bl j)=(i == j):=by
 rw [Bool.eq_iff_iff];simp
theorem Jlj :decide (V.str i=V.str j)=(i == j):=by
 rw [Bool.eq_iff_iff];simp
theorem Jll :decide (V.byt i=V.byt j)=(i.toList == j.toList):=by
 rw [Bool.eq_iff_iff];cases i;cases j;simp
section
variable{X:Cx}{a b c:Expr}{ta tb tc:TE}{pos:Pos}
theorem J1l(I:Inv X pins σ H s)(q:Q (.bl k) H)(e:k=k'):EP X pins σ Q (.bool k') s:=by
 subst e;exact ⟨.bl k,H,I,rfl,q⟩
theorem J9u:OpR X (compareOp .Eq) rEq:=by
 intro pins s σ H x y v u Q I c a h;obtain ⟨b,q⟩:=h
 cases x with
 | non =>
  cases c
  cases y with
  | non=>cases a;exact PySem.EqNone.eq_none_none (J1l I q (by simp))
  | bl j=>cases a;exact PySem.EqNone.eq_none_bool (J1l I q (by simp))
  | int j=>obtain ⟨t',rfl⟩:=a;exact PySem.EqNone.eq_none_int (J1l I q (by simp))
  | str j=>obtain ⟨t',rfl⟩:=a;exact PySem.EqNone.eq_none_str (J1l I q (by simp))
  | _=>exact absurd (show false=true from b) Bool.false_ne_true
 | bl i =>
  cases c
  cases y with
  | non=>cases a;exact PySem.EqNone.eq_bool_none (J1l I q (by simp))
  | bl j=>cases a;exact eq_bool (J1l I q Jq9)
  | str j=>obtain ⟨t',rfl⟩:=a;exact PySem.EqMixed.eq_bool_str (J1l I q (by simp))
  | _=>exact absurd (show false=true from b) Bool.false_ne_true
 | int i =>
  obtain ⟨t,rfl⟩:=c
  cases y with
  | non=>cases a;exact PySem.EqNone.eq_int_none (J1l I q (by simp))
  | int j=>obtain ⟨t',rfl⟩:=a;exact eq_int (J1l I q Jlk)
  | str j=>obtain ⟨t',rfl⟩:=a;exact PySem.EqMixed.eq_int_str (J1l I q (by simp))
  | _=>exact absurd (show false=true from b) Bool.false_ne_true
 | str i =>
  obtain ⟨t,rfl⟩:=c
  cases y with
  | non=>cases a;exact PySem.EqNone.eq_str_none (J1l I q (by simp))
  | bl j=>cases a;exact PySem.EqMixed.eq_str_bool (J1l I q (by simp))
  | int j=>obtain ⟨t',rfl⟩:=a;exact PySem.EqMixed.eq_str_int (J1l I q (by simp))
  | str j=>obtain ⟨t',rfl⟩:=a;exact eq_str (J1l I q Jlj)
  | _=>exact absurd (show false=true from b) Bool.false_ne_true
 | byt i =>
  obtain ⟨t,rfl⟩:=c
  cases y with
  | byt j=>obtain ⟨t',rfl⟩:=a;exact PySem.W.eq_bytes (J1l I q Jll)
  | _=>exact absurd (show false=true from b) Bool.false_ne_true
 | _=>cases y <;> exact absurd (show false=true from b) Bool.false_ne_true
theorem J9t:OpR X (compareOp .NotEq) rNe:=by
 intro pins s σ H x y v u Q I c a h;obtain ⟨b,q⟩:=h
 cases x with
 | non =>
  cases c
  cases y with
  | non=>cases a;exact PySem.EqNone.ne_none_none (J1l I q (by simp))
  | bl j=>cases a;exact PySem.EqNone.ne_none_bool (J1l I q (by simp))
  | int j=>obtain ⟨t',rfl⟩:=a;exact PySem.EqNone.ne_none_int (J1l I q (by simp))
  | str j=>obtain ⟨t',rfl⟩:=a;exact PySem.EqNone.ne_none_str (J1l I q (by simp))
  | _=>exact absurd (show false=true from b) Bool.false_ne_true
 | bl i =>
  cases c
  cases y with
  | non=>cases a;exact PySem.EqNone.ne_bool_none (J1l I q (by simp))
  | bl j=>cases a;exact ne_bool (J1l I q (congrArg not Jq9))
  | str j=>obtain ⟨t',rfl⟩:=a;exact PySem.EqMixed.ne_bool_str (J1l I q (by simp))
  | _=>exact absurd (show false=true from b) Bool.false_ne_true
 | int i =>
  obtain ⟨t,rfl⟩:=c
  cases y with
  | non=>cases a;exact PySem.EqNone.ne_int_none (J1l I q (by simp))
  | int j=>obtain ⟨t',rfl⟩:=a;exact ne_int (J1l I q (congrArg not Jlk))
  | str j=>obtain ⟨t',rfl⟩:=a;exact PySem.EqMixed.ne_int_str (J1l I q (by simp))
  | _=>exact absurd (show false=true from b) Bool.false_ne_true
 | str i =>
  obtain ⟨t,rfl⟩:=c
  cases y with
  | non=>cases a;exact PySem.EqNone.ne_str_none (J1l I q (by simp))
  | bl j=>cases a;exact PySem.EqMixed.ne_str_bool (J1l I q (by simp))
  | int j=>obtain ⟨t',rfl⟩:=a;exact PySem.EqMixed.ne_str_int (J1l I q (by simp))
  | str j=>obtain ⟨t',rfl⟩:=a;exact ne_str (J1l I q (congrArg not Jlj))
  | _=>exact absurd (show false=true from b) Bool.false_ne_true
 | byt i =>
  obtain ⟨t,rfl⟩:=c
  cases y with
  | byt j=>obtain ⟨t',rfl⟩:=a;exact PySem.W.ne_bytes (J1l I q (congrArg not Jll))
  | _=>exact absurd (show false=true from b) Bool.false_ne_true
 | _=>cases y <;> exact absurd (show false=true from b) Bool.false_ne_true
theorem J8m:OpR X (compareOp .Lt) (rI0 fun i j=>.bl (decide (i < j))):=opB0 fun _ _ _ _ _ _ _ q=>lt_int q
theorem J8n:OpR X (compareOp .Gt) (rI0 fun i j=>.bl (decide (j < i))):=opB0 fun _ _ _ _ _ _ _ q=>gt_int q
theorem Jgv:OpR X (compareOp .GtE) (rI0 fun i j=>.bl (decide (j<=i))):=opB0 fun _ _ _ _ _ _ _ q=>ge_int q
theorem Jv(b:Expr)(h:op≠.In:=by decide)(d:op≠.NotIn:=by decide):behindInMarks op b=false:=by
 have c:(op == CmpOp.In)=false:=by grind
 have a:(op == CmpOp.NotIn)=false:=by grind
 cases b <;> simp [behindInMarks,c,a]
theorem J4u(f:OpR X (compareOp op) r)(i:PE X a ta)(hb:PE X b tb)(g:behindInMarks op b=false):PE X (.Compare a [op] [b] pos) (tOp r ta tb):=by
 intro pins s σ H Q I h;exact wpAny_Compare1 (binT i hb I h fun v u c x y l j e d q=>f pins c σ l x y v u Q j e d q) g
inductive tTestR(Q:Bool->Hp->Prop)(x:V)(a:Hp):Prop
 | mk(k:_)(_:x=.bl k)(_:Q k a)
noncomputable def tTest(t:TE):TT:=fun σ H Q=>t σ H fun x a=>tTestR Q x a
theorem Jq(p:OpR X (compareOp op) r)(w:PE X a ta)(hb:PE X b tb)(q:behindInMarks op b=false):PT X (.Compare a [op] [b] pos) (tTest (tOp r ta tb)):=by
 intro pins s σ H Q I h;refine wpAny_isTrue_Compare1 (thn (w pins s σ H _ I h) fun v g d=>?_) q;obtain ⟨x,F,C,l,o⟩:=d;refine thn (hb pins g σ F _ C o) fun u f d=>?_;obtain ⟨y,E,B,j,n⟩:=d;refine thn (p pins f σ E x y v u _ B l j n) fun c G d=>?_;obtain ⟨z,D,A,i,k,e,m⟩:=d;subst e;cases i;exact wpAny_truthy_bool ⟨D,A,m⟩
noncomputable def TruV(K:Frag)(x:V)(H:Hp)(k:Bool):Prop:=
 match x with
 | .non=>k=false
 | .bl b=>k=b
 | .int i=>k=(i != 0)
 | .str y=>y.length<=sizeLine/\k=((y.length:Int) != 0)
 | .byt y=>y.size<=sizeLine/\k=((y.size:Int) != 0)
 | .ref p=>(∃ xs,SqL K H p xs/\k=!xs.isEmpty)\/(∃ xs,SqT K H p xs/\k=!xs.isEmpty)\/∃ kvs,H p=some (.dK kvs)/\k=!kvs.isEmpty
 | _=>False
theorem Jh9(r:KV kvs vs):(!vs.isEmpty)=!kvs.isEmpty:=by
 cases r <;> rfl
theorem Jac(r:Vals xs its):(!its.toArray.isEmpty)=!xs.isEmpty:=by
 cases r <;> simp
theorem J8u:(sizeLine:Nat) < 2 ^ 63:=by decide
theorem tru_ok:TruR X (fun x H Q=>∃ k,TruV X.K x H k/\Q k H):=by
 intro pins s σ H x v Q I d h;obtain ⟨k,e,q⟩:=h;have o:=J8u;have n:=sizeLine_eq
 cases x with
 | non =>
  cases d;have a:=e;subst a;exact truthy_none ⟨H,I,q⟩
 | bl b =>
  cases d;have a:=e;subst a;exact wpAny_truthy_bool ⟨H,I,q⟩
 | int i =>
  obtain ⟨t,rfl⟩:=d;have a:=e;subst a;exact PySem.P.truthy_int ⟨H,I,q⟩
 | str y =>
  obtain ⟨t,rfl⟩:=d;obtain ⟨j,a⟩:y.length<=sizeLine/\k=((y.length:Int) != 0):=e;subst a;exact PySem.P.truthy_str (by lia) ⟨H,I.tok _,q⟩
 | byt y =>
  obtain ⟨t,rfl⟩:=d;obtain ⟨j,a⟩:y.size<=sizeLine/\k=((y.size:Int) != 0):=e;subst a;exact PySem.W.truthy_bytes (by lia) ⟨H,I.tok _,q⟩
 | ref p =>
  cases d;have a:(∃ xs,SqL X.K H p xs/\k=!xs.isEmpty)\/(∃ xs,SqT X.K H p xs/\k=!xs.isEmpty)\/∃ kvs,H p=some (.dK kvs)/\k=!kvs.isEmpty:=e;rcases a with ⟨xs,hx,a⟩ | ⟨xs,hx,a⟩ | ⟨kvs,hx,a⟩
  ·subst a;obtain ⟨f,r,pl,g⟩:=I.list hx;have c:=r.length;exact wpAny_truthy_list pl.isList (by simp only [size_toArray];lia) ⟨H,I.tok _,by rw [Jac r];exact q⟩
  ·subst a;obtain ⟨f,r,pl,g⟩:=I.tuple hx;have c:=r.length;exact truthy_tuple pl (by simp only [size_toArray];lia) ⟨H,I.tok _,by rw [Jac r];exact q⟩
  ·subst a;obtain ⟨g,l,vs,r,m⟩:kvs.length<=sizeLine/\(p == sysModules)=false/\∃ vs,KV kvs vs/\s.heap.DictOf (J1z X.prog X.w) p vs:=I.hok p _ hx;have c:kvs.length=vs.length:=Paired.length r;exact wpAny_truthy_dict l m (by lia) ⟨H,I.tok _,by rw [Jh9 r];exact q⟩
 | _=>exact (show False from e).elim
theorem Jne(g:PE X a ta)(f:∀ whole,isTrue a X.env whole=(do let v <- whole;standAt a.pos;holding [v] (truthy v))):
  PT X a (fun σ H Q=>ta σ H fun x b=>∃ k,TruV X.K x b k/\Q k b):=by
 intro pins s σ H Q I h;exact isTrue_plain (thn (g pins s σ H _ I h) fun v c i=>by obtain ⟨x,l,j,d,e⟩:=i;exact tru_ok pins c σ l x v Q j d e) (f _)
theorem J6s(r:Vals [x] us):∃ u,us=[u]/\RelV x u:=by
 cases r with
 | cons r1 r2=>cases r2;exact ⟨_,rfl,r1⟩
theorem Jqg(r:Vals [x,y] us):∃ u a,us=[u,a]/\RelV x u/\RelV y a:=by
 cases r with
 | cons r1 r2 =>
  cases r2 with
  | cons r3 r4=>cases r4;exact ⟨_,_,rfl,r1,r3⟩
theorem Jgc:J59 X (.builtin "abs") (fun xs H Q=>∃ i,xs=[.int i]/\Q (.int (if i < 0 then -i else i)) H):=by
 intro pins s σ H xs us Q I r h;obtain ⟨i,rfl,q⟩:=h;obtain ⟨u,rfl,t,rfl⟩:=J6s r;exact call_abs_int fun u a=>⟨.int (if i < 0 then -i else i),H,I.tok _,⟨_,rfl⟩,q⟩
theorem Jlv(b:X.calm=true):J59 X (.builtin "max") (fun xs H Q=>∃ i j,xs=[.int i,.int j]/\Q (.int (if j > i then j else i)) H):=by
 intro pins s σ H xs us Q I r h;obtain ⟨i,j,rfl,q⟩:=h;obtain ⟨u,c,rfl,⟨t,rfl⟩,⟨t',rfl⟩⟩:=Jqg r;refine max_two_ints (I.ok.hd b) fun h' d k=>⟨_,H,I.kept k,?_,q⟩;by_cases a:j > i
 ·rw [if_pos a,if_pos a];exact ⟨_,rfl⟩
 ·rw [if_neg a,if_neg a];exact ⟨_,rfl⟩
theorem J9p(b:X.calm=true):J59 X (.builtin "min") (fun xs H Q=>∃ i j,xs=[.int i,.int j]/\Q (.int (if j < i then j else i)) H):=by
 intro pins s σ H xs us Q I r h;obtain ⟨i,j,rfl,q⟩:=h;obtain ⟨u,c,rfl,⟨t,rfl⟩,⟨t',rfl⟩⟩:=Jqg r;refine min_two_ints (I.ok.hd b) fun h' d k=>⟨_,H,I.kept k,?_,q⟩;by_cases a:j < i
 ·rw [if_pos a,if_pos a];exact ⟨_,rfl⟩
 ·rw [if_neg a,if_neg a];exact ⟨_,rfl⟩
end
structure ObjM(h:Heap)(x dx C:Addr)(mA:Str->Option Value):Prop where
 obj:h.get? x=some (instObj C dx)
 ns:h.Ns1 dx mA
 ne:dx≠x
theorem Jk9{h:Heap}(n:h.Ns1 dx mA):∃ c,h.get? dx=some c/\∀ name,lookIn name c=some (mA name):=by
 obtain ⟨o,d,ep,g,hd,j,_,i⟩:=n;refine ⟨o,g,fun name=>?_⟩;have e:=i name;unfold nsFind findBy at e;rw [<- Array.find?_toList] at e;unfold lookIn;rw [hd];dsimp only;split
 ·rename_i y q;rw [q] at e;exact congrArg some e
 ·rename_i q;rw [q] at e;have a:d.toList.any (·.refKey)=false:=by
   rw [List.any_eq_false];intro y f;obtain ⟨z,t,b⟩:=j y (Array.mem_toList_iff.mp f);simp [DictEntry.refKey,b]
  have l:¬ d.toList.any (·.refKey)=true:=by rw [a];exact Bool.false_ne_true
  rw [if_neg l];exact congrArg some e
theorem ObjM.look(I:ObjM h x dx C mA):∃ a,PySem.W.InstAt h x (instObj C dx) C (some a)/\∀ name,lookIn name a=some (mA name):=
 let ⟨a,ho,hl⟩:=Jk9 I.ns
 ⟨a,⟨I.obj,rfl,rfl,ho⟩,hl⟩
section
variable{prog:Program}{w:World}{A:Around}{E:Value->Shared->Prop}{s:Shared}{K:Frag}{x dx C f:Addr}{mA:Str->Option Value}{name:Str}{v:Value}
theorem Jsf(X:K.In s.heap)(I:ObjM s.heap x dx C mA)(e:plainGet K C name=true)(d:hasDictIn K C=true)(f:findIn K (.ref C) name=some none)(b:mA name=some v)(a:handedIn v=true)(h:Q v { s with toks:=s.toks + 1 }):
  wpAny (model prog w) A (getAttr (.ref x) name expr) Q E s:=by
 obtain ⟨g,J,c⟩:=I.look;exact PySem.W.get_value X J (plainGet_of e).1 (PySem.W.findObj_own d f rfl (by rw [c,b])) a h
theorem Jov(X:K.In s.heap)(I:ObjM s.heap x dx C mA)(a:plainGet K C name=true)(g:findIn K (.ref C) name=some (some (.ref f)))(d:isFn K (.ref f)=true)(c:mA name=none)(h:Q (.ref f,[.ref x]) s):
  wpAny (model prog w) A (getMethod (.ref x) name pl) Q E s:=by
 obtain ⟨b,J,e⟩:=I.look;exact PySem.W.method_fn X J (plainGet_of a).1 (plainGet_of a).2 g (beq_iff_eq.mp d) (by show (lookIn name b).map (·.isSome)=some false;rw [e,c];rfl) h
theorem Jqo(X:K.In s.heap)(I:ObjM s.heap x dx C mA)(m:findIn K (.ref C) "__setattr__"=some (some (.builtin "object.__setattr__")))(n:plainOver K C=true)(l:takerIn K C name=some none)(o:hasDictIn K C=true)(hw:PySem.Within mA ns)(hsz:ns.length<=sizeLine)(h:∀ h',ObjM h' x dx C (fun y=>if y=name then some v else mA y)->Heap.SameBut dx s.heap h'->Q () { s with heap:=h',toks:=s.toks + 2 }):
  wpAny (model prog w) A (setAttr (.ref x) name v) Q E s:=by
 obtain ⟨z,J,D⟩:=I.look;refine PySem.W.set_plain X J m (PySem.W.osa_open (s:={ s with toks:=s.toks + 1 }) (r:=none) X J n l fun b=>?_);obtain ⟨F,p,g⟩:=PySem.W.any_some o;have j:=I.obj;refine wpAny_bind (wpAny_pure (wpAny_bind (wpAny_bind (wpAny_loadPart j (wpAny_bind (PySem.W.Looks.here (s:={ s with toks:=s.toks + 1 }) (PySem.W.looks_clsIn X p) ?_))))));rw [g];refine wpAny_pure (a:=some dx) (wpAny_bind (wpAny_pure (wpAny_bind ?_)));refine wpAny_nsSet1 (s:={ s with toks:=s.toks + 1 }) I.ns fun h' d c=>?_;obtain ⟨B,q,u,e,f,i⟩:=d.count (PySem.Within.cons name v hw);refine wpAny_bind (wpAny_lookBehind e (by rw [f];exact pastItsLine_dict (Nat.le_trans i (by grind))) ?_);exact wpAny_pure (h _ ⟨(c.2 _ (Ne.symm I.ne)).trans I.obj,d,I.ne⟩ c)
theorem Jok(X:K.In s.heap)(a:makesIn K C=true)(hi:findIn K (.ref C) "__init__"=some (some (.ref f)))(b:PySem.W.typeIn K (.ref f)=some (.type "function"))(h:codeAny (model prog w) (A.under (.builtin "type.__call__" ⟨.ref C :: vs,kw⟩)) (.call (.ref f) ⟨.ref (s.heap.objs.size + 1) :: vs,kw⟩) (PySem.W.InitBack (s.heap.objs.size + 1) R)
   { s with heap:=(s.heap.push emptyDict).push (instObj C s.heap.objs.size) }):
  codeAny (model prog w) A (.call (.ref C) ⟨vs,kw⟩) R s:=by
 exact PySem.W.make_core (PySem.W.makes_of X a) (PySem.W.looks_findIn X hi) (fun self=>PySem.W.bind_fn X self b) (.inl rfl) h
end
noncomputable def putF(f:Str)(v:V):List (Str × V)->List (Str × V)
 | []=>[(f,v)]
 | (g,x) :: r=>if g=f then (g,v) :: r else (g,x) :: putF f v r
theorem J46(f g:Str)(v:V):∀ fs ,(putF f v fs).lookup g=if g=f then some v else fs.lookup g
 | []=>by
  show List.lookup g [(f,v)]=_;by_cases h:g=f
  ·have hb:=beq_iff_eq.mpr h;simp only [List.lookup,hb,if_pos h]
  ·have hb:=beq_eq_false_iff_ne.mpr h;simp only [List.lookup,hb,if_neg h]
 | (k,x) :: r=>by
  have b:=J46 f g v r;rw [show putF f v ((k,x) :: r)=(if k=f then (k,v) :: r else (k,x) :: putF f v r) from rfl];by_cases a:k=f
  ·rw [if_pos a];by_cases h:g=k
   ·have hb:=beq_iff_eq.mpr h;simp only [List.lookup,hb,if_pos (h.trans a)]
   ·have hb:=beq_eq_false_iff_ne.mpr h;simp only [List.lookup,hb,if_neg (fun e:g=f=>h (e.trans a.symm))]
  ·rw [if_neg a];by_cases h:g=k
   ·have hb:=beq_iff_eq.mpr h;simp only [List.lookup,hb,if_neg (fun e =>a (h.symm.trans e))]
   ·have hb:=beq_eq_false_iff_ne.mpr h;simp only [List.lookup,hb];exact b
theorem J8y(f:Str)(v:V):∀ fs ,f∈(putF f v fs).map (·.1)/\∀ g,g∈fs.map (·.1)->g∈(putF f v fs).map (·.1)
 | []=>⟨by simp [putF],fun g h=>by simp at h⟩
 | (k,x) :: r=>by
  obtain ⟨b,a⟩:=J8y f v r;rw [show putF f v ((k,x) :: r)=(if k=f then (k,v) :: r else (k,x) :: putF f v r) from rfl]
  grind
theorem J1i(f:Str)(v:V):∀ fs ,(putF f v fs).length<=fs.length + 1
 | []=>by simp [putF]
 | (k,x) :: r=>by
  have a:=J1i f v r;rw [show putF f v ((k,x) :: r)=(if k=f then (k,v) :: r else (k,x) :: putF f v r) from rfl]
  grind
theorem RelO.some_of(r:RelO (some v) o):∃ u,o=some u/\RelV v u:=by
 cases o with
 | none=>exact (show False from r).elim
 | some u=>exact ⟨u,rfl,r⟩
theorem RelO.none_of(r:RelO none o):o=none:=by
 cases o with
 | none=>rfl
 | some u=>exact (show False from r).elim
theorem Jky(r:RelV v u):handedIn u=true:=by
 cases v with
 | non=>cases (show u=Value.none from r);rfl
 | bl b=>cases (show u=Value.bool b from r);rfl
 | int i=>obtain ⟨t,e⟩:=(show ∃ t,u=Value.int i t from r);cases e;rfl
 | str x=>obtain ⟨t,e⟩:=(show ∃ t,u=Value.str x t from r);cases e;rfl
 | byt b=>obtain ⟨t,e⟩:=(show ∃ t,u=Value.bytes b t from r);cases e;rfl
 | flt b=>obtain ⟨t,e⟩:=(show ∃ t,u=Value.float b t from r);cases e;rfl
 | ref a=>cases (show u=Value.ref a from r);rfl
 | ty n=>cases (show u=Value.type n from r);rfl
section
variable{P:Program}{w:World}{H H':Hp}{h h':Heap}{a C dx:Addr}{fs fs':List (Str × V)}
theorem Jeb(hok:HOk P w H h)(e:H a=some (.ins C dx fs)):∃ b,ObjM h a dx C b/\(∀ f,RelO (fs.lookup f) (b f))/\PySem.Within b (fs.map (·.1))/\fs.length<=1000/\H dx=some (.own a):=by
 obtain ⟨d,z,ne,c,b,n,r,q⟩:=(show J34 P w H h a (.ins C dx fs) from hok a _ e);exact ⟨b,⟨c,n,ne⟩,r,q,z,d⟩
end
structure Cls(K:Frag)(C:Addr):Prop where
 pg:plainGet K C Str.empty=true
 hd:hasDictIn K C=true
 po:plainOver K C=true
 sa:findIn K (.ref C) "__setattr__"=some (some (.builtin "object.__setattr__"))
theorem Cls.get{K:Frag}(c:Cls K C)(f:Str):plainGet K C f=true:=c.pg
noncomputable def J19(K:Frag)(C:Addr)(f:Str):Prop:=findIn K (.ref C) f=some none
theorem J19.taker{K:Frag}(n:J19 K C f):takerIn K C f=some none:=by
 unfold takerIn;rw [show findIn K (.ref C) f=some none from n];rfl
structure Meth(K:Frag)(C:Addr)(m:Str)(f:Addr):Prop where
 at_:findIn K (.ref C) m=some (some (.ref f))
 fn:isFn K (.ref f)=true
 kp:keepIn K (.ref f)=true
section
variable{X:Cx}{pins:List (Addr × Obj)}{σ:St}{H:Hp}{s:Shared}{a C dx:Addr}{fs:List (Str × V)}{f:Str}{v:V}{A:Around}{E:Value->Shared->Prop}
theorem Jhb(I:Inv X pins σ H s)(e:H a=some (.ins C dx fs))(c:Cls X.K C)(n:J19 X.K C f)(l:fs.lookup f=some v)(h:∀ u s',Inv X pins σ H s'->RelV v u->Q u s'):wpAny (model X.prog X.w) A (getAttr (.ref a) f b) Q E s:=by
 obtain ⟨g,O,r,_,_,_⟩:=Jeb I.hok e;obtain ⟨u,i,d⟩:=RelO.some_of (v:=v) (o:=g f) (by rw [<- l];exact r f);exact Jsf I.kIn O (c.get f) c.hd n i (Jky d) (h u _ (I.tok _) d)
theorem Jae(I:Inv X pins σ H s)(e:H a=some (.ins C dx fs))(c:Cls X.K C)(k:Meth X.K C m g)(l:fs.lookup m=none)(h:Q (.ref g,[.ref a]) s):wpAny (model X.prog X.w) A (getMethod (.ref a) m pl) Q E s:=by
 obtain ⟨d,O,r,_,_,_⟩:=Jeb I.hok e;have b:=RelO.none_of (by rw [<- l];exact r m);exact Jov I.kIn O (c.get m) k.at_ k.fn b h
theorem Jgn(I:Inv X pins σ H s)(e:H a=some (.ins C dx fs))(c:Cls X.K C)(n:J19 X.K C f)(F:fs.length < 1000)(p:RelV y u)(h:∀ s',Inv X pins σ (upd H a (.ins C dx (putF f y fs))) s'->Q () s'):wpAny (model X.prog X.w) A (setAttr (.ref a) f u) Q E s:=by
 obtain ⟨j,O,r,i,_,l⟩:=Jeb I.hok e;have v:(fs.map (·.1)).length<=sizeLine:=by rw [length_map,sizeLine_eq];lia
 refine Jqo I.kIn O c.sa c.po n.taker c.hd i v fun h' d m=>h _ ?_;have hd:∃ o,h'.get? dx=some o:=by obtain ⟨o,_,_,D,_⟩:=d.ns;exact ⟨o,D⟩
 refine I.write (x:=a) (e:=dx) (by rw [e];exact True.intro) (.inr l) (fun b q hb z=>(m.2 b hb).trans z) hd ?_;refine ⟨by rw [Jm O.ne];exact l,?_,O.ne,d.obj,_,d.ns,fun g=>?_,fun g B=>?_⟩
 ·have:=J1i f y fs;lia
 ·show RelO ((putF f y fs).lookup g) (if g=f then some u else j g);rw [J46];by_cases q:g=f
  ·rw [if_pos q,if_pos q];exact p
  ·rw [if_neg q,if_neg q];exact r g
 ·by_cases q:g=f
  ·rw [q];exact (J8y f y fs).1
  ·refine (J8y f y fs).2 g (i g fun z=>B ?_);show (if g=f then some u else j g)=none;rw [if_neg q];exact z
theorem Inv.made(I:Inv X pins σ H s):Inv X pins σ (upd (upd H s.heap.objs.size (.own (s.heap.objs.size + 1))) (s.heap.objs.size + 1) (.ins C s.heap.objs.size []))
  { s with heap:=(s.heap.push emptyDict).push (instObj C s.heap.objs.size) }:=by
 have c:(s.heap.push emptyDict).get? s.heap.objs.size=some emptyDict:=get?_push_size s.heap rfl;have h:((s.heap.push emptyDict).push (instObj C s.heap.objs.size)).get? (s.heap.objs.size + 1)=some (instObj C s.heap.objs.size):=by
  have:=get?_push_size (s.heap.push emptyDict) (o:=instObj C s.heap.objs.size) rfl;rwa [Heap.size_push] at this
 have g:(s.heap.push emptyDict).Ns s.heap.objs.size (fun _=>none):=⟨emptyDict,#[],_,c,rfl,(fun e f=>absurd f (by simp)),fun _=>rfl⟩;have i:=I.laid (a:=s.heap.objs.size) (o:=.own (s.heap.objs.size + 1)) (h':=s.heap.push emptyDict) (t':=s.toks) (fun b u q=>get?_push_of_some _ q) (Nat.le_refl _) ⟨_,c⟩;refine i.laid (a:=s.heap.objs.size + 1) (o:=.ins C s.heap.objs.size []) (t':=s.toks) (fun b u q=>get?_push_of_some _ q) (Nat.le_of_eq (Heap.size_push _ _)) ?_;have ne:s.heap.objs.size≠s.heap.objs.size + 1:=Nat.ne_of_lt (Nat.lt_succ_self _);refine ⟨by rw [Jm ne,J6],Nat.zero_le _,ne,h,fun _=>none,(Heap.Ns1.of_empty g).at fun o q=>get?_push_of_some _ q,fun _=>True.intro,fun y d=>absurd rfl d⟩
theorem Jsm(hb:attributeBase e f env (eval e env)=eval e env)(h:wpAny (model prog w) A (eval e env) (fun o a=>wpAny (model prog w) A (getAttr o f true) Q E a) E s):wpAny (model prog w) A (eval (.Attribute e f pos) env) Q E s:=
 Attribute_any_ h (by rw [arm_eval_Attribute,hb])
end
inductive tFldR(K:Frag)(f:Str)(Q:VK)(x:V)(b:Hp):Prop
 | mk(a C c fs v:_)(_:x=.ref a)(_:b a=some (.ins C c fs))(_:Cls K C)(_:J19 K C f)(_:fs.lookup f=some v)(_:Q v b)
noncomputable def tFld(K:Frag)(a:TE)(f:Str):TE:=fun σ H Q=>a σ H fun x b=>tFldR K f Q x b
inductive sFldR(K:Frag)(f:Str)(D:Ends)(σ:St)(y x:V)(c:Hp):Prop
 | mk(a C b fs:_)(_:x=.ref a)(_:c a=some (.ins C b fs))(_:Cls K C)(_:J19 K C f)(_:fs.length < 1000)(_:D.nx σ (upd c a (.ins C b (putF f y fs))))
noncomputable def sFld(K:Frag)(b a:TE)(f:Str):TS:=fun D σ H=>a σ H fun y d=>b σ d fun x c=>sFldR K f D σ y x c
section
variable{X:Cx}{o e value:Expr}{f:Str}{pos pos' tpos:Pos}{ta tv:TE}
theorem J8(g:PE X e ta)(hb:attributeBase e f X.env (eval e X.env)=eval e X.env:=by rfl):PE X (.Attribute e f pos) (tFld X.K ta f):=by
 intro pins s σ H Q I h;refine Jsm hb (thn (g pins s σ H _ I h) fun u y i=>?_);obtain ⟨x,p,o,b,a,C,z,fs,v,ex,j,c,n,l,q⟩:=i;subst ex;obtain rfl:u=Value.ref a:=b;exact Jhb o j c n l fun r w m d=>⟨v,p,m,d,q⟩
theorem J1s(r:PE X o ta)(m:PE X value tv)(p:swapsWith value (some (.Attribute o f pos')) pos.line X.env=pure false):PS X (.Assign [.Attribute o f pos'] value pos) (sFld X.K ta tv f):=by
 intro pins s σ H D I h;refine plainObj_wpAny_Assign_Attribute (thn (m pins s σ H _ I h) fun u d b=>?_) p;obtain ⟨y,B,A,e,q⟩:=b;refine thn (r pins d σ B _ A q) fun j F b=>?_;obtain ⟨x,J,z,g,a,C,G,fs,ex,v,c,n,l,i⟩:=b;subst ex;obtain rfl:j=Value.ref a:=g;exact Jgn z v c n l e fun E w=>⟨σ,_,w,i⟩
end
structure Room(k:Nat)(A:Around):Prop where
 hd:A.handled=none
 dp:A.depth + 3 * k + 5 < recursionLimit
 un:A.units + 16 * k + 200 < cLine
theorem Room.mono(r:Room k A)(h:j<=k):Room j A:=⟨r.hd,by have:=r.dp;lia,by have:=r.un;lia⟩
theorem Room.deeper(r:Room (k + 1) A)(env:Env):Room k (A.deeper env):=
 ⟨r.hd,by have:=r.dp;show A.depth + 1 + 3 * k + 5 < _;lia,by have:=r.un;show A.units + 3 + 16 * k + 200 < _;lia⟩
theorem Room.in1{k:Nat}{A:Around}(r:Room (k + 1) A):Room k A.in1:=
 ⟨r.hd,by have:=r.dp;show A.depth + 3 * k + 5 < _;lia,by have:=r.un;show A.units + 1 + 16 * k + 200 < _;lia⟩
theorem Jh4{A:Around}:(A.under (.builtin "type.__call__" ⟨.ref C :: us,kw⟩)).depth=A.depth + 1:=by
 rfl
theorem Jh3{A:Around}:(A.under (.builtin "type.__call__" ⟨.ref C :: us,kw⟩)).units=A.units + 1:=by
 rfl
theorem Room.make(r:Room (k + 1) A)(C:Addr)(us:List Value)(a:List (Str × Value)):Room k (A.under (.builtin "type.__call__" ⟨.ref C :: us,a⟩)) :=
 ⟨r.hd,by have:=r.dp;rw [Jh4];lia,by have:=r.un;rw [Jh3];lia⟩
theorem Room.depth(r:Room k A):A.depth < recursionLimit:=by have:=r.dp;lia
theorem Room.units(r:Room k A):A.units + 64 < cLine:=by have:=r.un;lia
theorem Room.units0(r:Room k A):A.units < cLine:=by have:=r.un;lia
noncomputable def tNil:TA:=fun _ H Q=>Q [] H
noncomputable def tCons(b:TE)(a:TA):TA:=fun σ H Q=>b σ H fun x d=>a σ d fun xs c=>Q (x :: xs) c
section
variable{X:Cx}{e:Expr}{es:List Expr}{te:TE}{t:TA}{pos:Pos}
theorem J3:PA X [] tNil:=fun _ _ _ _ H Q I h=>Calls.spliced_nil ⟨[],H,I,.nil,h⟩
theorem J0(l:PE X e te)(j:PA X es t)(i:starEach (e :: es) X.env=(false,eval e X.env) :: starEach es X.env:=by rfl):PA X (e :: es) (tCons te t):=by
 intro pos pins s σ H Q I h;rw [i];refine Calls.spliced_cons (thn (l pins s σ H _ I h) fun u b a=>?_);obtain ⟨x,p,n,d,g⟩:=a;exact thn (j pos pins b σ p _ n g) fun us q a=>by obtain ⟨xs,o,m,c,f⟩:=a;exact ⟨x :: xs,o,m,.cons d c,f⟩
noncomputable def tTup(t:TA):TE:=fun σ H Q=>t σ H fun xs a=>xs.length<=sizeLine/\∀ p,a p=none->Q (.ref p) (upd a p (.tup xs))
noncomputable def tLst(t:TA):TE:=fun σ H Q=>t σ H fun xs a=>xs.length<=sizeLine/\∀ p,a p=none->Q (.ref p) (upd a p (.lst xs))
theorem J30(h:PA X es t):PE X (.Tuple es x1 pos) (tTup t):=by
 intro pins s σ H Q I d;refine wpAny_Tuple_spliced (thn (h pos pins s σ H _ I d) fun us a g=>?_);obtain ⟨xs,i,c,r,z,q⟩:=g;refine ⟨by rw [<- r.length];exact z,?_⟩;have f:=c.hok.fresh (Nat.le_refl _);refine ⟨.ref a.heap.objs.size,upd i a.heap.objs.size (.tup xs),c.laid (t':=a.toks) (fun b u e=>get?_push_of_some _ e) (Nat.le_refl _) ?_,rfl,q _ f⟩;exact ⟨z,us,r,⟨_,get?_push_size _ rfl,⟨rfl,rfl⟩,_,rfl⟩⟩
theorem J2q(h:PA X es t):PE X (.List es pos) (tLst t):=by
 intro pins s σ H Q I d;refine wpAny_List_spliced (thn (h pos pins s σ H _ I d) fun us a g=>?_);obtain ⟨xs,i,c,r,z,q⟩:=g;refine ⟨by rw [<- r.length];exact z,?_⟩;have f:=c.hok.fresh (Nat.le_refl _);refine ⟨.ref a.heap.objs.size,upd i a.heap.objs.size (.lst xs),c.laid (t':=a.toks) (fun b u e=>get?_push_of_some _ e) (Nat.le_refl _) ?_,rfl,q _ f⟩;exact ⟨z,us,0,r,get?_push_size _ rfl⟩
end
noncomputable abbrev Sp:=List V->Hp->VK->XK->Prop
noncomputable abbrev CXT:=List Env->Hp->Shared->XK->Value->Shared->Prop
structure Env0(P:Program)(w:World)(K:Frag)(mg:Str->Option Value)(base:Heap)(A:Around)(outer:List Env)(s:Shared)(H:Hp):Prop where
 frames:A.frames=some outer
 mod:Mod K mg base
 bs:∀ b o,base.get? b=some o->s.heap.get? b=some o/\H b=none
 bsz:base.objs.size<=s.heap.objs.size
 funs:s.heap.FunFrames base outer
 frf:∀ b∈frs outer,H b=none
 hok:HOk P w H s.heap
 bare:AllBare s.gens
noncomputable def CE(outer:List Env)(P:Program)(w:World)(H:Hp)(s:Shared)(Q:VK)(u:Value)(s':Shared):Prop:=
 ∃ v a,s'.os=s.os/\AllBare s'.gens/\Un (frs outer) [] H a s.heap s'.heap/\HOk P w a s'.heap/\RelV v u/\Q v a
noncomputable def CR(CX:CXT)(outer:List Env)(P:Program)(w:World)(H:Hp)(s:Shared)(Q:VK)(E:XK)(r:Result)(s':Shared):Prop:=
 match r with
 | .ok (.ret u)=>CE outer P w H s Q u s'
 | .ok _=>False
 | .error e=>CX outer H s E e s'
structure FnOk(P:Program)(w:World)(K:Frag)(mg:Str->Option Value)(base:Heap)(CX:CXT)(k:Nat)(f:Addr)(fd:FuncData)(ps:List Str)(sp:Sp):Prop where
 len:∀ vs H Q E,sp vs H Q E->vs.length=ps.length
 run:∀ (A:Around) (outer:List Env) (s:Shared) (H:Hp) (args:Args) (us:List Value) (vs:List V) (Q:VK) (E:XK),Room k A->Env0 P w K mg base A outer s H->BindsTo s fd args (ps.zip us)->Vals vs us->sp vs H Q E->
  codeAny (model P w) A (.call (.ref f) args) (CR CX outer P w H s Q E) s
theorem Env0.make{K:Frag}(e:Env0 P w K mg base A outer s H)(C:Addr)(us:List Value)(a:List (Str × Value)):
  Env0 P w K mg base (A.under (.builtin "type.__call__" ⟨.ref C :: us,a⟩)) outer s H:=⟨by first | exact e.frames | grind,e.mod,e.bs,e.bsz,e.funs,e.frf,e.hok,e.bare⟩
theorem Env0.in1{P:Program}{w:World}{K:Frag}{mg:Str->Option Value}{base:Heap}{A:Around}{outer:List Env}{s:Shared}{H:Hp}(e:Env0 P w K mg base A outer s H):
  Env0 P w K mg base A.in1 outer s H:=⟨e.frames,e.mod,e.bs,e.bsz,e.funs,e.frf,e.hok,e.bare⟩
section
variable{X:Cx}{pins:List (Addr × Obj)}{σ:St}{H:Hp}{s s':Shared}
theorem Inv.env0(I:Inv X pins σ H s):Env0 X.prog X.w X.K X.mg X.base X.A X.stack s H:=
 ⟨I.ok.frames,I.ok.mod,I.bs,Nat.le_trans I.ok.bsz I.sz,I.stack,I.stkFree,I.hok,I.bare⟩
theorem Inv.after(I:Inv X pins σ H s)(h:CE X.stack X.prog X.w H s Q u s'):EP X pins σ Q u s':=by
 obtain ⟨v,e,os,bare,un,hok,r,q⟩:=h;obtain ⟨c,g,d,t,a⟩:=s';obtain rfl:a=s.os:=os;exact ⟨v,e,I.call (h':=c) (g':=g) (d':=d) (t':=t) (ch:=[]) un hok bare (fun b z=>absurd z (by simp)),r,q⟩
end
noncomputable def Jm4(sp:Sp)(dvs:List V)(E:XK)(t:TA):TE:=fun σ H Q=>t σ H fun vs a=>sp (vs ++ dvs) a Q E
noncomputable def tMake(C:Addr)(sp:Sp)(dvs:List V)(E:XK)(t:TA):TE:=fun σ H Q=>t σ H fun vs b=>∀ x a,b x=none->b a=none->a≠x->
 sp (.ref x :: (vs ++ dvs)) (upd (upd b a (.own x)) x (.ins C a [])) (fun v c=>v=.non/\Q (.ref x) c) E
noncomputable def J2t(K:Frag)(fd:FuncData)(ps:List Str)(a:List Value):Prop:=
 ∀ (s:Shared) (us:List Value),K.In s.heap->(us ++ a).length=ps.length->BindsTo s fd ⟨us,[]⟩ (ps.zip (us ++ a))
theorem J2t.all{K:Frag}(h:∀ us ,us.length=ps.length->bindArgs fd ⟨us,[]⟩=pure (ps.zip us)):J2t K fd ps []:=fun s us _ a=>by
 rw [append_nil] at a ⊢;exact .of_eq (h us a)
noncomputable def J57(CX:CXT)(X:Cx)(E:XK):Prop:=∀ (pins:List (Addr × Obj)) (σ:St) (H:Hp) (s:Shared) (e:Value) (s':Shared),Inv X pins σ H s->CX X.stack H s E e s'->X.xe e s'
section
variable{X:Cx}{CX:CXT}{k:Nat}{f C:Addr}{fd:FuncData}{ps:List Str}{sp:Sp}{dvs:List V}{ds:List Value}{E:XK}{x m:Str}{p pos apos:Pos}{e o:Expr}{es:List Expr}{ta:TE}{t:TA}
theorem Jff(F:FnOk X.prog X.w X.K X.mg X.base CX k f fd ps sp)(d:Room k X.A)(hb:J2t X.K fd ps ds)(hd:Vals dvs ds)(c:J57 CX X E)(I:Inv X pins σ H s)(r:Vals vs us)(h:sp (vs ++ dvs) H Q E):wpAny (model X.prog X.w) X.A (call (.ref f) us) (EP X pins σ Q) X.xe s:=by
 have b:=r.append hd;have g:(us ++ ds).length=ps.length:=by rw [<- b.length];exact F.len _ _ _ _ h
 refine wpAny_call (codeAny_mono (F.run X.A X.stack s H ⟨us,[]⟩ (us ++ ds) (vs ++ dvs) Q E d I.env0 (hb s us I.kIn g) b h) fun r s' a=>?_)
 cases r with
 | error e=>exact c pins σ H s e s' I a
 | ok fl =>
  cases fl with
  | ret u=>exact I.after a
  | next=>exact False.elim a
  | brk=>exact False.elim a
  | cont=>exact False.elim a
theorem Jrh(F:FnOk X.prog X.w X.K X.mg X.base CX k f fd ps sp)(g:Room k X.A)(l:Gl X x)(i:X.mg x=some (.ref f))(j:keepIn X.K (.ref f)=true)(hb:J2t X.K fd ps ds)(hd:Vals dvs ds)(d:J57 CX X E)(n:PA X (e :: es) t)(b:(x == ("__debug__":Str))=false:=by decide)(m:starEach (e :: es) X.env=(false,eval e X.env) :: starEach es X.env:=by rfl)(a:(backTo pos (starEach es X.env)).any (·.1)=false:=by rfl):
  PE X (.Call (.Name x p) (e :: es) [] pos) (Jm4 sp dvs E t):=by
 intro pins s σ H Q I h;refine wpAny_Call_Name_kw (Jbc I l i ?_ b);refine callWith_K (h₀:=X.base) I.ok.mod.kin j (thn (n pos pins s σ H _ I h) fun us u o=>?_) m a;obtain ⟨vs,v,c,r,q⟩:=o;refine ⟨c.kIn,?_⟩;exact Jff F g hb hd d c r q
structure Mk(K:Frag)(C f:Addr):Prop where
 makes:makesIn K C=true
 init:findIn K (.ref C) "__init__"=some (some (.ref f))
 fn:isFn K (.ref f)=true
 kp:keepIn K (.ref C)=true
theorem Jmz{pins:List (Addr × Obj)}{σ:St}{H:Hp}{s:Shared}{Q:VK}{us:List Value}{vs:List V}(M:Mk X.K C f)(F:FnOk X.prog X.w X.K X.mg X.base CX k f fd ps sp)(m:Room (k + 1) X.A)(hb:J2t X.K fd ps ds)(hd:Vals dvs ds)(l:J57 CX X E)(I:Inv X pins σ H s)(r:Vals vs us)(h:∀ x b,H x=none->H b=none->b≠x->sp (.ref x :: (vs ++ dvs)) (upd (upd H b (.own x)) x (.ins C b [])) (fun v q=>v=.non/\Q (.ref x) q) E):
  wpAny (model X.prog X.w) X.A (call (.ref C) us) (EP X pins σ Q) X.xe s:=by
 have g:=h (s.heap.objs.size + 1) s.heap.objs.size (I.hok.fresh (Nat.le_succ _)) (I.hok.fresh (Nat.le_refl _)) (Nat.ne_of_lt (Nat.lt_succ_self _));have c:=Inv.made (C:=C) I;have d:Vals (V.ref (s.heap.objs.size + 1) :: (vs ++ dvs)) (Value.ref (s.heap.objs.size + 1) :: (us ++ ds)):=.cons rfl (r.append hd);have n:(Value.ref (s.heap.objs.size + 1) :: us ++ ds).length=ps.length:=by
  have e:=d.length;rw [F.len _ _ _ _ g] at e;exact e.symm
 refine wpAny_call (Jok (f:=f) I.kIn M.makes M.init (beq_iff_eq.mp M.fn) (codeAny_mono (F.run _ X.stack _ _ ⟨Value.ref (s.heap.objs.size + 1) :: us,[]⟩ (Value.ref (s.heap.objs.size + 1) :: (us ++ ds)) _ _ E (m.make C us [])
  (c.env0.make C us []) (hb _ (Value.ref (s.heap.objs.size + 1) :: us) c.kIn n) d g) fun r s' a=>?_))
 cases r with
 | error e=>exact l pins σ _ _ e s' c a
 | ok fl =>
  cases fl with
  | ret u =>
   obtain ⟨v,y,p,i,o,j⟩:=c.after a;subst o;exact ⟨i,⟨V.ref (s.heap.objs.size + 1),y,p,rfl,j⟩⟩
  | next=>exact False.elim a
  | brk=>exact False.elim a
  | cont=>exact False.elim a
theorem J5v(M:Mk X.K C f)(F:FnOk X.prog X.w X.K X.mg X.base CX k f fd ps sp)(g:Room (k + 1) X.A)(j:Gl X x)(i:X.mg x=some (.ref C))(hb:J2t X.K fd ps ds)(hd:Vals dvs ds)(d:J57 CX X E)(m:PA X (e :: es) t)(b:(x == ("__debug__":Str))=false:=by decide)(l:starEach (e :: es) X.env=(false,eval e X.env) :: starEach es X.env:=by rfl)(a:(backTo pos (starEach es X.env)).any (·.1)=false:=by rfl):
  PE X (.Call (.Name x p) (e :: es) [] pos) (tMake C sp dvs E t):=by
 intro pins s σ H Q I h;refine wpAny_Call_Name_kw (Jbc I j i ?_ b);refine callWith_K (h₀:=X.base) I.ok.mod.kin M.kp (thn (m pos pins s σ H _ I h) fun us o n=>?_) l a;obtain ⟨vs,u,c,r,q⟩:=n;refine ⟨c.kIn,?_⟩;exact Jmz M F g hb hd d c r q
end
structure Jr(N P:List Str)(sc:Scope):Prop where
 kind:sc.kind=.function
 co:sc.isCoroutine=false
 gen:sc.isGenerator=false
 nd:N.Nodup
 pre:N.take P.length=P
 par:∀ x∈P,sc.names.lookup x=some .local\/sc.names.lookup x=some .cell
 nofree:∀ y∈sc.names,y.2≠.free
theorem Jd7{b:Str->Option NameKind}:∀ {a:List (Str × Value)} {m:Str->Option Value},(∀ v,(x,v) ∉ a)->bindL b a m x=m x
 | [],_,_=>rfl
 | (n,v) :: r,m,h=>by
  unfold bindL;rw [Jd7 fun w hw=>h w (mem_cons_of_mem _ hw)];split
  ·have:x≠n:=by rintro rfl;exact h v mem_cons_self
   simp [this]
  ·rfl
theorem Jd9{b:Str->Option NameKind}:∀ {a:List (Str × Value)} {m:Str->Option Value},(∀ v,(x,v) ∉ a)->bindC b a m x=m x
 | [],_,_=>rfl
 | (n,v) :: r,m,h=>by
  unfold bindC;rw [Jd9 fun w hw=>h w (mem_cons_of_mem _ hw)];split
  ·rfl
  ·have:x≠n:=by rintro rfl;exact h v mem_cons_self
   simp [this]
theorem Jd8{a:Str->Option NameKind}:∀ {P:List Str} {vs:List Value} {i:Nat} {m:Str->Option Value},P.Nodup->P[i]?=some x->vs[i]?=some v->a x=some .local->
  bindL a (P.zip vs) m x=some v
 | [],_,_,_,_,h,_,_=>by simp at h
 | _ :: _,[],_,_,_,_,h,_=>by simp at h
 | p :: P,w :: vs,0,m,nd,h1,h2,hk=>by
  simp at h1 h2;subst h1;subst h2;show bindL a ((p,w) :: P.zip vs) m p=_;unfold bindL;rw [Jd7 fun v b=>(nodup_cons.mp nd).1 (List.of_mem_zip b).1,if_pos hk];simp
 | p :: P,w :: vs,i + 1,m,nd,h1,h2,hk=>by
  show bindL a ((p,w) :: P.zip vs) m x=_;exact Jd8 (i:=i) (nodup_cons.mp nd).2 (by simpa using h1) (by assumption) hk
theorem Jda{a:Str->Option NameKind}:∀ {P:List Str} {vs:List Value} {i:Nat} {m:Str->Option Value},P.Nodup->P[i]?=some x->vs[i]?=some v->a x≠some .local->
  bindC a (P.zip vs) m x=some v
 | [],_,_,_,_,h,_,_=>by simp at h
 | _ :: _,[],_,_,_,_,h,_=>by simp at h
 | p :: P,w :: vs,0,m,nd,h1,h2,hk=>by
  simp at h1 h2;subst h1;subst h2;show bindC a ((p,w) :: P.zip vs) m p=_;unfold bindC;rw [Jd9 fun v b=>(nodup_cons.mp nd).1 (List.of_mem_zip b).1,if_neg hk];simp
 | p :: P,w :: vs,i + 1,m,nd,h1,h2,hk=>by
  show bindC a ((p,w) :: P.zip vs) m x=_;exact Jda (i:=i) (nodup_cons.mp nd).2 (by simpa using h1) (by assumption) hk
noncomputable def start(N:List Str)(vs:List V):St:=vs.map some ++ List.replicate (N.length - vs.length) none
noncomputable def cxOf(CX:CXT)(P:Program)(w:World)(K:Frag)(mg:Str->Option Value)(base:Heap)(N:List Str)(qual:Str)(a:Scope)(f:Addr)(c:Value)(A:Around)(outer:List Env)(s:Shared)(H:Hp)(E:XK):Cx where
 prog:=P
 w:=w
 K:=K
 mg:=mg
 base:=base
 A:=A.deeper (envOfC qual a s.heap.objs.size f c)
 N:=N
 s₀:=s
 H₀:=H
 env:=envOfC qual a s.heap.objs.size f c
 outer:=outer
 stack:=envOfC qual a s.heap.objs.size f c :: outer
 ex:=[]
 calm:=true
 fn:=fun _=>true
 pn:=[]
 xe:=fun e s'=>wpAny (model P w) (A.deeper (envOfC qual a s.heap.objs.size f c)) (leaving (envOfC qual a s.heap.objs.size f c) e) (fun _ b=>CX outer H s E e b) (fun d b=>CX outer H s E d b) s'
theorem Jga{a:Scope}(h:a.names.lookup x=some .cell):∃ c,(cellsFrom n a.names []).lookup x=some c:=by
 have q:=PySem.W.cellsFrom_some a.names n [] (.inl h);exact isSome_iff_exists.mp q
theorem Jks{K:Frag}(S:Jr N ps scope)(hd:A.handled=none)(g:Env0 P w K mg base A outer s H)(L:vs.length=ps.length)(r:Vals vs us)(x:InCallC s s.heap.objs.size (bindL (envOfC qual scope s.heap.objs.size f cd).kindOf (ps.zip us) fun _=>none) (cellsFrom (s.heap.objs.size + 1) scope.names []) (bindC (envOfC qual scope s.heap.objs.size f cd).kindOf (ps.zip us) fun _=>none) s1):
  Inv (cxOf CX P w K mg base N qual scope f cd A outer s H E) [] (start N vs) H s1:=by
 have G:ps.length<=N.length:=by have:=congrArg List.length S.pre;rw [length_take] at this;lia
 obtain ⟨B,J,rfl,D⟩:=x.done;have j:∀ b ,b ∉ (cxOf CX P w K mg base N qual scope f cd A outer s H E).ex:=fun b z=>absurd (show b∈([]:List Addr) from z) (by simp);refine ⟨⟨g.mod,S.kind,rfl,rfl,Nat.le_refl _,fun y z c B d=>?_,fun y l=>?_,fun y c _ h=>?_,fun _=>hd,Around.frames_deeper g.frames,.inr ⟨rfl,rfl⟩,fun b z=>absurd z (j b),g.bs,g.bsz,fun b _ _=>j b,fun b z=>absurd z (j b),g.funs,g.frf⟩,
  rfl,g.bare,Un.kept D,⟨_,x.toInCall.ns,fun i y v B d M=>?_⟩,fun y c h=>⟨_,x.cell y c h⟩,g.hok.fresh (Nat.le_refl _),fun y c h=>?_,fun p o=>absurd (show p∈([]:List (Addr × Obj)) from o) (by simp),g.hok.kept D,?_⟩
 ·exact name_of_addr x.apart (mem_of_lookup B) (mem_of_lookup d)
 ·have l:=l;rcases l with l | l
  ·exact Jga l
  ·exact absurd rfl (S.nofree _ (mem_of_lookup l))
 ·exact Nat.le_of_lt (x.above y c (mem_of_lookup h))
 ·have hi:i < vs.length:=by
   unfold start at d;by_cases hi:i < vs.length
   ·exact hi
   ·rw [getElem?_append_right (by simpa using hi)] at d;rw [List.getElem?_replicate] at d;split at d <;> cases d
  have I:vs[i]?=some v:=by
   unfold start at d;rw [getElem?_append_left (by simpa using hi),getElem?_map] at d
   cases e:vs[i]? with
   | none=>rw [e] at d;cases d
   | some a=>rw [e] at d;cases d;rfl
  obtain ⟨u,C,F⟩:=r.get I;have o:ps[i]?=some y:=by
   rw [<- S.pre,List.getElem?_take_of_lt (by lia)];exact B
  have m:ps.Nodup:=by rw [<- S.pre];exact S.nd.sublist (List.take_sublist _ _)
  refine ⟨u,F,?_⟩;rcases S.par y (List.mem_of_getElem? o) with k | k
  ·exact .inl ⟨k,Jd8 m o C k⟩
  ·obtain ⟨c,e⟩:=Jga (n:=s.heap.objs.size + 1) k;refine .inr ⟨.inl k,c,e,?_⟩;have q:=x.cell y c e;rw [Jda m o C (by show scope.names.lookup y≠_;rw [k];decide)] at q;exact q
 ·exact g.hok.fresh (Nat.le_of_lt (x.above y c (mem_of_lookup h)))
 ·unfold start;show _=N.length;rw [length_append,length_map,length_replicate];lia
theorem Jsi{K:Frag}{kV:Value}(C:K.lookup f=some ⟨oc,od,.func (fnOf name qual params body scope dV kV doc pm an cdv ct),osl⟩)(p:codeIn K cdv qual=true)(S:Jr N ps scope)(len:∀ vs H Q E,sp vs H Q E->vs.length=ps.length)(d:∀ (A:Around) (outer:List Env) (s:Shared) (H:Hp) (vs:List V) (Q:VK) (E:XK),Room k (A.deeper (envOfC qual scope s.heap.objs.size f cdv))->sp vs H Q E->
   ∃ t,PSs (cxOf CX P w K mg base N qual scope f cdv A outer s H E) body t/\t { nx:=fun _ a=>Q .non a,rt:=Q } (start N vs) H):
  FnOk P w K mg base CX (k + 1) f (fnOf name qual params body scope dV kV doc pm an cdv ct) ps sp:=by
 refine ⟨len,fun A outer s H args us vs Q E m i hb r h=>?_⟩;have L:=len _ _ _ _ h;have B:=i.mod.kin.keeps fun b o e=>(i.bs b o e).1;have l:=i.mod.nolimit.keeps fun b o e=>(i.bs b o e).1;have c:∀ y∈ps.zip us,scope.names.lookup y.1=some .local\/(scope.names.lookup y.1=some .cell/\((cellsFrom (s.heap.objs.size + 1) scope.names []).lookup y.1).isSome=true):=fun O D=>by
  obtain ⟨n,v⟩:=O;rcases S.par n (List.of_mem_zip D).1 with q | q
  ·exact .inl q
  ·exact .inr ⟨q,PySem.W.cellsFrom_some _ _ _ (.inl q)⟩
 refine codeAny_call_function m.depth (B _ _ C) rfl S.co S.gen rfl (PySem.W.codeRec_of B p) (hb _ _ _ _ ?_);refine wpAny_newFunctionEnv_cells S.kind c fun env M z x=>?_;subst M;refine ⟨l.keeps x.toInCall.keep,codeAny_func ?_⟩;obtain ⟨t,F,G⟩:=d A outer s H vs Q E (m.deeper _) h;have I:Inv (cxOf CX P w K mg base N qual scope f cdv A outer s H E) [] (start N vs) H z:=Jks S m.hd i L r x;refine wpAny_mono (F [] z (start N vs) H _ I G) (fun R s' g=>?_) fun e s' g=>g;have fin:∀ {σ':St} {a:Hp} {v:V} {u:Value},Inv (cxOf CX P w K mg base N qual scope f cdv A outer s H E) [] σ' a s'->RelV v u->Q v a->CE outer P w H s Q u s':=
  fun {σ' a v u} J j q=>⟨v,a,J.os,J.bare,J.base,J.hok,j,q⟩
 cases R with
 | ret u =>
  obtain ⟨v,σ',a,J,j,q⟩:=g;exact fin J j q
 | next =>
  obtain ⟨σ',a,J,q⟩:=g;exact fin (v:=V.non) (u:=Value.none) J rfl q
 | brk =>
  obtain ⟨_,_,_,q⟩:=g;exact False.elim q
 | cont =>
  obtain ⟨_,_,_,q⟩:=g;exact False.elim q
section
variable{X:Cx}{x:Str}{p pos:Pos}{e:Expr}{es:List Expr}{t:TA}{id T:String}{r:List V->Hp->VK->Prop}
noncomputable def tCB(r:List V->Hp->VK->Prop)(t:TA):TE:=fun σ H Q=>t σ H fun vs a=>r vs a Q
theorem Jw(n:J59 X (.builtin id) r)(l:Gl X x)(j:X.mg x=none)(g:bootBuiltins x=some (.builtin id))(o:PA X (e :: es) t)(i:x≠"__name__":=by decide)(b:(x == ("__debug__":Str))=false:=by decide)(m:starEach (e :: es) X.env=(false,eval e X.env) :: starEach es X.env:=by rfl)(a:(backTo pos (starEach es X.env)).any (·.1)=false:=by rfl):PE X (.Call (.Name x p) (e :: es) [] pos) (tCB r t):=by
 intro pins s σ H Q I h;refine wpAny_Call_Name_kw (J7g I l j g ?_ i b);exact callWith_builtin1 (thn (o pos pins s σ H _ I h) fun us c q=>by obtain ⟨vs,v,u,d,f⟩:=q;exact n pins c σ v vs us Q u d f) m a
theorem J15(n:J59 X (.type T) r)(l:Gl X x)(j:X.mg x=none)(g:bootBuiltins x=some (.type T))(o:PA X (e :: es) t)(i:x≠"__name__":=by decide)(b:(x == ("__debug__":Str))=false:=by decide)(m:starEach (e :: es) X.env=(false,eval e X.env) :: starEach es X.env:=by rfl)(a:(backTo pos (starEach es X.env)).any (·.1)=false:=by rfl):PE X (.Call (.Name x p) (e :: es) [] pos) (tCB r t):=by
 intro pins s σ H Q I h;refine wpAny_Call_Name_kw (J7g I l j g ?_ i b);exact callWith_type1 (thn (o pos pins s σ H _ I h) fun us c q=>by obtain ⟨vs,v,u,d,f⟩:=q;exact n pins c σ v vs us Q u d f) m a
end
end L2
namespace HT
open PySem PyProof.Rows
section
variable{prog:Program}{w:World}{A:Around}{E:Value->Shared->Prop}{s:Shared}
noncomputable def sIx(n d:Nat):Option Int->Nat
 | none=>d
 | some v=>if v < 0 then (v + (n:Int)).toNat else min v.toNat n
theorem sIx_none(n d:Nat):sIx n d none=d:=rfl
theorem sIx_nat(n d k:Nat):sIx n d (some (k:Int))=min k n:=by
 rfl
theorem sIx_le(n d:Nat)(hd:d<=n)(o:Option Int):sIx n d o<=n:=by
 cases o with
 | none=>exact hd
 | some v =>
  show (if v < 0 then (v + (n:Int)).toNat else min v.toNat n)<=n
  grind
theorem Jlt(v:Int)(n d:Nat):(if v < 0 then max (v + (n:Int)) 0 else min v (n:Int))=((sIx n d (some v):Nat):Int):=by
 show (if v < 0 then max (v + (n:Int)) 0 else min v (n:Int))=(((if v < 0 then (v + (n:Int)).toNat else min v.toNat n):Nat):Int)
 grind
theorem Jhq(lo hi:Option Int)(n:Nat):Builtin.Slice.sliceAdjust lo hi 1 (n:Int)=(((sIx n 0 lo:Nat):Int),((sIx n n hi:Nat):Int)):=by
 refine Prod.ext ?_ ?_
 ·cases lo with
  | none=>rfl
  | some v=>exact Jlt v n 0
 ·cases hi with
  | none=>rfl
  | some v=>exact Jlt v n n
theorem Jgu(i j:Nat):Builtin.Slice.slicePlaces (i:Int) (j:Int) 1=j - i:=by
 unfold Builtin.Slice.slicePlaces
 grind
theorem Ja3(p:IsPart v o)(h:Q o s):wpAny (model prog w) A (Builtin.Slice.slicePartIndex v) Q E s:=by
 cases p with
 | none=>exact slicePart_none h
 | int i t=>exact slicePart_int h
theorem J7m{lo:Option Int}{n:Nat}(d:s.heap.IsSliceOf sl vl vu .none)(pl:IsPart vl lo)(c:IsPart vu hi)(h:Q (((sIx n 0 lo:Nat):Int),1,sIx n n hi - sIx n 0 lo) s):wpAny (model prog w) A (Builtin.Slice.sliceApplied (.ref sl) (pure (n:Int))) Q E s:=by
 obtain ⟨os,a,e,b⟩:=id d;refine wpAny_bind (wpAny_bind (wpAny_field a b (x:=vl) rfl (wpAny_bind (wpAny_field a b (x:=vu) rfl (wpAny_bind (wpAny_field a b (x:=.none) rfl (wpAny_pure ?_)))))));refine wpAny_bind (slicePart_none ?_);refine wpAny_bind (Ja3 pl (wpAny_bind (Ja3 c (wpAny_bind (wpAny_pure ?_)))));show wpAny _ _ (match Builtin.Slice.sliceAdjust lo hi 1 (n:Int) with | (lo,hi)=>pure (lo,(1:Int),Builtin.Slice.slicePlaces lo hi 1)) _ _ s;rw [Jhq lo hi n];show wpAny _ _ (pure (((sIx n 0 lo:Nat):Int),(1:Int),Builtin.Slice.slicePlaces ((sIx n 0 lo:Nat):Int) ((sIx n n hi:Nat):Int) 1)) _ _ s;rw [Jgu];exact wpAny_pure h
theorem Jng(xs:Array Value)(i k:Nat):((List.range k).filterMap fun (m:Nat)=>xs[((i:Int) + (m:Int) * 1).toNat]?).toArray=((xs.toList.drop i).take k).toArray:=by
 have e:(fun (m:Nat)=>xs[((i:Int) + (m:Int) * 1).toNat]?)=fun m=>xs[i + m]?:=by
  funext m
  have:((i:Int) + (m:Int) * 1).toNat=i + m:=by lia
  rw [this]
 rw [e];have:=pick_run xs i k;rw [List.filterMap_map] at this;have a:((fun x=>xs[x]?) ∘ fun x=>i + x)=fun m=>xs[i + m]?:=rfl;rw [a] at this;rw [this]
theorem getItem_tuple_cut{lo:Option Int}(b:IsTup s.heap t items)(g:s.heap.IsSliceOf sl vl vu .none)(pl:IsPart vl lo)(i:IsPart vu hi)(hw:¬ (sIx items.size 0 lo=0/\sIx items.size items.size hi=items.size))(h:Q (.ref s.heap.objs.size) { s with heap:=s.heap.push { cls:=.type "tuple",data:=.seq ((items.toList.drop (sIx items.size 0 lo)).take (sIx items.size items.size hi - sIx items.size 0 lo)).toArray } })(hsz:items.size<=sizeLine):wpAny (model prog w) A (getItem (.ref t) (.ref sl)) Q E s:=by
 have a:sizeOk (.seq ((items.toList.drop (sIx items.size 0 lo)).take (sIx items.size items.size hi - sIx items.size 0 lo)).toArray):=by
  show ((items.toList.drop (sIx items.size 0 lo)).take (sIx items.size items.size hi - sIx items.size 0 lo)).toArray.size<=sizeLine;rw [size_toArray,length_take,length_drop,length_toList];lia
 have l:sIx items.size items.size hi<=items.size:=sIx_le _ _ (Nat.le_refl _) hi;obtain ⟨os,c,e,j⟩:=id g;have f:s.TypeIs (.ref sl) "slice":=⟨os,c,e⟩;unfold getItem
 try with_reducible refine wpAny_holding ?_
 refine wpAny_bind (wpAny_sequenceKey b.typeIs (by decide) ?_);refine wpAny_bind (wpAny_callSpecial?_slot (name:=Str.ofString "__getitem__") b.typeIs PyProof.Rows.slot_tuple_getitem
  (wpAny_call_entry PyProof.Rows.slot_tuple_getitem b.typeIs entry_tuple_getitem ?_ (args_tuple_getitem _ _)))
 show wpAny _ _ (Builtin.Tuple.tupleItemsOf (.ref t) >>= _) _ _ s;refine wpAny_bind (tupleItemsOf_ b ?_);refine wpAny_bind (wpAny_typeOf f ?_);refine wpAny_bind (J7m g pl i ?_);have d:¬ ((((sIx items.size 0 lo:Nat):Int) == 0 && (1:Int) == 1 && (sIx items.size items.size hi - sIx items.size 0 lo) == items.size)=true):=by
  grind
 show wpAny _ _ (if (((sIx items.size 0 lo:Nat):Int) == 0 && (1:Int) == 1 && (sIx items.size items.size hi - sIx items.size 0 lo) == items.size)=true then _ else _) _ _ s;rw [if_neg d,Jng]
 first
  | exact wpAny_bind (m:=Builtin.Tuple.tupleExact _) (wpAny_newObj_type (wpAny_pure ⟨_,rfl,wpAny_pure h⟩) a)
  | grind
  | exact wpAny_bind (wpAny_bind (m:=Builtin.Tuple.tupleExact _) (wpAny_newObj_type (wpAny_pure (wpAny_pure ⟨_,rfl,wpAny_pure h⟩)) a))
  | exact wpAny_bind (wpAny_bind (m:=Builtin.Tuple.tupleExact _) (wpAny_newObj_type (wpAny_pure ⟨_,rfl,wpAny_pure h⟩) a))
end
end HT
namespace L2
open PySem PySem.Spec PyProof.Rows
noncomputable abbrev TO:=St->Hp->(Option Int->Hp->Prop)->Prop
noncomputable def PO(X:Cx)(e:Option Expr)(t:TO):Prop:=
 ∀ (pins:List (Addr × Obj)) (s:Shared) (σ:St) (H:Hp) (Q:Option Int->Hp->Prop),Inv X pins σ H s->t σ H Q->
  wpAny (model X.prog X.w) X.A (evalPart e X.env) (fun u s'=>∃ o a,Inv X pins σ a s'/\IsPart u o/\Q o a) X.xe s
noncomputable def Jqj:TO:=fun _ H Q=>Q none H
inductive tPartR(Q:Option Int->Hp->Prop)(x:V)(a:Hp):Prop
 | mk(i:_)(_:x=.int i)(_:Q (some i) a)
noncomputable def tPart(t:TE):TO:=fun σ H Q=>t σ H fun x a=>tPartR Q x a
theorem J23 :∀ {us:List Value},Vals (ns.map V.int) us->IntsAre us ns:=by
 induction ns with
 | nil=>intro us r;cases r;exact .nil
 | cons n ns ih =>
  intro us r
  cases r with
  | cons r1 r2 =>
   obtain ⟨t,e⟩:=r1;subst e;exact .cons n t (ih r2)
section
variable{X:Cx}{e:Expr}{te:TE}{lo hi:Option Expr}{tl th:TO}{pos p2:Pos}
theorem Jb5:PO X none Jqj:=by
 intro pins s σ H Q I h;exact wpAny_pure ⟨none,H,I,.none,h⟩
theorem Jb4(h:PE X e te):PO X (some e) (tPart te):=by
 intro pins s σ H Q I hw;refine thn (h pins s σ H _ I hw) fun u g c=>?_;obtain ⟨x,f,d,a,b⟩:=c;obtain ⟨i,rfl,q⟩:=b;obtain ⟨t,rfl⟩:=a;exact ⟨some i,f,d,.int i t,q⟩
noncomputable def SlR(X:Cx)(r:V->Option Int->Option Int->Hp->VK->Prop):Prop:=
 ∀ (pins:List (Addr × Obj)) (s:Shared) (σ:St) (H:Hp) (x:V) (v b a:Value) (lo hi:Option Int) (c:Addr) (Q:VK),Inv X pins σ H s->RelV x v->s.heap.IsSliceOf c b a .none->IsPart b lo->IsPart a hi->r x lo hi H Q->
  ∃ T id,typeLookup (.type T) "__getitem__"=pure (some (.builtin id))/\s.TypeIs v T/\wpAny (model X.prog X.w) X.A (getItem v (.ref c)) (EP X pins σ Q) X.xe s
noncomputable def tSl(r:V->Option Int->Option Int->Hp->VK->Prop)(b:TE)(tl a:TO):TE:=fun σ H Q=>b σ H fun x e=>tl σ e fun l d=>a σ d fun u c=>r x l u c Q
theorem J7y(A:SlR X r)(D:PE X e te)(B:PO X lo tl)(y:PO X hi th):PE X (.Subscript e (.Slice lo hi none p2) pos) (tSl r te tl th):=by
 intro pins s σ H Q I h;refine Subscript_ (thn (D pins s σ H _ I h) fun v j c=>?_);obtain ⟨x,M,K,m,p⟩:=c;refine wpAny_Slice (thn (B pins j σ M _ K p) fun f i c=>?_);obtain ⟨l,L,J,pl,o⟩:=c;refine thn (y pins i σ L _ J o) fun d a c=>?_;obtain ⟨u,g,G,w,n⟩:=c;refine wpAny_pure ?_;have F:Inv X pins σ g { a with heap:=a.heap.push { cls:=.type "slice",data:=.fields #[f,d,.none] } }:=G.kept (t':=a.toks) fun b N q=>get?_push_of_some _ q;obtain ⟨T,id,E,z,C⟩:=A pins { a with heap:=a.heap.push { cls:=.type "slice",data:=.fields #[f,d,.none] } } σ g x v f d l u a.heap.objs.size Q F m (Heap.IsSliceOf.new ..) pl w n;exact tail_any (ops:=[.ref a.heap.objs.size,v]) z E C (by rfl)
noncomputable def cutV(xs:List V)(lo hi:Option Int):List V:=(xs.drop (HT.sIx xs.length 0 lo)).take (HT.sIx xs.length xs.length hi - HT.sIx xs.length 0 lo)
theorem J9m(xs:List V)(lo hi:Option Int):(cutV xs lo hi).length<=xs.length:=by
 unfold cutV;rw [length_take,length_drop];lia
inductive rSlTR(K:Frag)(x:V)(lo hi:Option Int)(H:Hp)(Q:VK):Prop
 | mk(a xs:_)(_:x=.ref a)(_:SqT K H a xs)(_:¬ (HT.sIx xs.length 0 lo=0/\HT.sIx xs.length xs.length hi=xs.length))(_:∀ p,H p=none->Q (.ref p) (upd H p (.tup (cutV xs lo hi))))
noncomputable def rSlT(K:Frag):V->Option Int->Option Int->Hp->VK->Prop:=fun x lo hi H Q=>rSlTR K x lo hi H Q
theorem sl_tup:SlR X (rSlT X.K):=by
 intro pins s σ H x v n m lo hi p Q I g l pl i h;obtain ⟨a,xs,rfl,j,hw,q⟩:=h;cases g;obtain ⟨d,r,f,e⟩:=I.tuple j;have c:d.toArray.size=xs.length:=by exact r.length.symm
 refine ⟨"tuple",_,PyProof.Rows.slot_tuple_getitem.lookup,f.typeIs,?_⟩;refine HT.getItem_tuple_cut f l pl i (by rw [c];exact hw) ?_ (by rw [c];exact e);rw [c];refine ⟨.ref s.heap.objs.size,_,I.laid (t':=s.toks) (o:=.tup (cutV xs lo hi)) (fun b u q=>get?_push_of_some _ q) (Nat.le_refl _) ?_,rfl,q _ (I.hok.fresh (Nat.le_refl _))⟩;exact ⟨Nat.le_trans (J9m xs lo hi) e,_,(r.drop (HT.sIx xs.length 0 lo)).take (HT.sIx xs.length xs.length hi - HT.sIx xs.length 0 lo),TupX.new _ _⟩
end
noncomputable def ixN(n:Nat)(i:Int):Option Nat:=if 0<=i then (if i < n then some i.toNat else none) else if -(n:Int)<=i then some (i + n).toNat else none
noncomputable def atI{α:Type}(xs:List α)(i:Int):Option α:=(ixN xs.length i).bind fun j=>xs[j]?
theorem Jko(h:ixN n i=some j):seqIndex? i n=some j/\j < n/\-(n:Int)<=i/\i < n:=by
 unfold ixN at h;by_cases b:0<=i
 ·rw [if_pos b] at h;by_cases a:i < n
  ·rw [if_pos a] at h;have e:=Option.some.inj h;exact ⟨by rw [seqIndex_of b a,e],by lia,by lia,a⟩
  ·rw [if_neg a] at h;cases h
 ·rw [if_neg b] at h;by_cases a:-(n:Int)<=i
  ·rw [if_pos a] at h;have e:=Option.some.inj h;exact ⟨by rw [seqIndex_neg (by lia) a,e],by lia,a,by lia⟩
  ·rw [if_neg a] at h;cases h
theorem Jlx(h:atI xs i=some v):∃ j,seqIndex? i xs.length=some j/\xs[j]?=some v/\j < xs.length/\-(xs.length:Int)<=i/\i < xs.length:=by
 unfold atI at h
 cases e:ixN xs.length i with
 | none=>simp_all
 | some j =>
  rw [e] at h;obtain ⟨d,c,b,a⟩:=Jko e;exact ⟨j,d,h,c,b,a⟩
theorem Jc{xs:List α}{j:Nat}{v:α}(h:xs[j]?=some v):atI xs (j:Int)=some v:=by
 have a:=(List.getElem?_eq_some_iff.mp h).1;have e:ixN xs.length (j:Int)=some j:=by
  unfold ixN;rw [if_pos (by lia),if_pos (by lia)];simp
 unfold atI;rw [e];exact h
theorem atI_last{α:Type}(xs:List α)(v:α):atI (xs ++ [v]) (-1)=some v:=by
 have a:(xs ++ [v]).length=xs.length + 1:=by simp
 have e:ixN (xs ++ [v]).length (-1)=some xs.length:=by
  unfold ixN;rw [a,if_neg (by decide),if_pos (by lia)]
  congr 1
  lia
 unfold atI;rw [e];show (xs ++ [v])[xs.length]?=some v;simp
noncomputable def Jm2(b:Expr):Prop:=∀ o i,subscripted b false o i=operate [o,i] (getItem o i)
noncomputable def IxR(X:Cx)(r:R2):Prop:=
 ∀ (b a:Expr) (pins:List (Addr × Obj)) (s:Shared) (σ:St) (H:Hp) (x y:V) (v u:Value) (Q:VK),Inv X pins σ H s->RelV x v->RelV y u->r x y H Q->
  subscripted a false v u=operate [v,u] (getItem v u)->wpAny (model X.prog X.w) X.A (subscriptTail b a v u) (EP X pins σ Q) X.xe s
noncomputable def MtR(X:Cx)(id:String)(r:V->List V->Hp->VK->Prop):Prop:=
 ∀ (pins:List (Addr × Obj)) (s:Shared) (σ:St) (H:Hp) (x:V) (xs:List V) (v:Value) (us:List Value) (Q:VK),Inv X pins σ H s->RelV x v->Vals xs us->r x xs H Q->
  wpAny (model X.prog X.w) X.A (call (.builtin id) (v :: us)) (EP X pins σ Q) X.xe s
section
variable{X:Cx}{a b:Expr}{ta tb:TE}{pos:Pos}
theorem Jp(g:IxR X r)(i:PE X a ta)(hb:PE X b tb)(f:Jm2 b:=by exact fun _ _=>rfl):PE X (.Subscript a b pos) (tOp r ta tb):=by
 intro pins s σ H Q I h;exact Subscript_ (binT i hb I h fun v u c x y l j e d q=>g a b pins c σ l x y v u Q j e d q (f _ _))
inductive rIxLR(K:Frag)(x y:V)(H:Hp)(Q:VK):Prop
 | mk(p xs i v:_)(_:x=.ref p)(_:y=.int i)(_:SqL K H p xs)(_:atI xs i=some v)(_:Q v H)
noncomputable def rIxL(K:Frag):R2:=fun x y H Q=>rIxLR K x y H Q
inductive rIxTR(K:Frag)(x y:V)(H:Hp)(Q:VK):Prop
 | mk(p xs i v:_)(_:x=.ref p)(_:y=.int i)(_:SqT K H p xs)(_:atI xs i=some v)(_:Q v H)
noncomputable def rIxT(K:Frag):R2:=fun x y H Q=>rIxTR K x y H Q
theorem J4z:IxR X (rIxL X.K):=by
 intro b c pins s σ H x y v u Q I o n h g;obtain ⟨p,xs,i,z,rfl,rfl,A,C,q⟩:=h;cases o;obtain ⟨t,rfl⟩:=n;obtain ⟨e,r,pl,G⟩:=I.list A;obtain ⟨j,a,F,L,E,D⟩:=Jlx C;obtain ⟨w,m,d⟩:=r.get F;have B:=r.length;have J:=J8u;have fin:EP X pins σ Q w s:=⟨z,H,I,d,q⟩;by_cases l:0<=i
 ·have f:i.toNat=j:=by
   rw [seqIndex_of l D] at a;exact Option.some.inj a
  exact item_listR pl.isList l (by lia) (by rw [f];simpa using m) fin g
 ·have f:(i + (e.toArray.size:Int)).toNat=j:=by
   rw [seqIndex_neg (by lia) E] at a;rw [size_toArray,<- B];exact Option.some.inj a
  exact subscriptTail_builtinR (x:=w) pl.isList.typeIs slot_list_getitem.lookup
   (wpAny_getItem_list_neg (Q:=fun r s'=>r=w/\EP X pins σ Q r s') pl.isList (by lia) (by rw [size_toArray] <;> lia) (by lia) (by rw [f];simpa using m) ⟨rfl,fin⟩) g
theorem Jj:IxR X (rIxT X.K):=by
 intro a b pins s σ H x y v u Q I e d h g;obtain ⟨p,xs,i,z,rfl,rfl,l,m,q⟩:=h;cases e;obtain ⟨t,rfl⟩:=d;obtain ⟨f,r,pl,A⟩:=I.tuple l;obtain ⟨j,G,n,F,E,D⟩:=Jlx m;obtain ⟨w,o,c⟩:=r.get n;have C:=r.length;have B:=J8u;have fin:EP X pins σ Q w s:=⟨z,H,I,c,q⟩;exact subscriptTail_builtinR (x:=w) pl.typeIs slot_tuple_getitem.lookup
  (getItem_tuple (j:=j) (Q:=fun r s'=>r=w/\EP X pins σ Q r s') pl (by lia) (by lia) (by simp_all) (by simpa using o) ⟨rfl,fin⟩) g
theorem Jh2(a:List Value)(n j:Nat)(u:Value):Obj.mapSeq (·.setIfInBounds j u) { cls:=.type "list",data:=.seq a.toArray n }={ cls:=.type "list",data:=.seq (a.set j u).toArray n }:=by
 simp [Obj.mapSeq]
theorem Inv.lst(I:Inv X pins σ H s)(h:H p=some (.lst xs)):
  ∃ (a:List Value) (n:Nat),Vals xs a/\s.heap.get? p=some { cls:=.type "list",data:=.seq a.toArray n }/\xs.length<=sizeLine:=by
 obtain ⟨z,a,n,r,e⟩:=I.hok p _ h;exact ⟨a,n,r,e,z⟩
theorem Inv.lstUpd{a:List Value}(I:Inv X pins σ H s)(h:H p=some (.lst xs))(g:s.heap.get? p=some { cls:=.type "list",data:=.seq a.toArray n })(c:f { cls:=.type "list",data:=.seq a.toArray n }={ cls:=.type "list",data:=.seq its'.toArray n' })(r:Vals ys its')(d:ys.length<=sizeLine)(t:Nat):
  Inv X pins σ (upd H p (.lst ys)) { s with heap:=s.heap.update p f,toks:=t }:=by
 have e:(s.heap.update p f).get? p=some { cls:=.type "list",data:=.seq its'.toArray n' }:=by
  rw [Heap.get?_update_self f g (by rw [c] <;> rfl),c]
 refine I.write (x:=p) (e:=p) (by rw [h];trivial) (.inl rfl) (fun b u hb q=>(Heap.get?_update_other _ _ (Ne.symm hb)).trans q) ⟨_,e⟩ ?_;exact ⟨d,its',n',r,e⟩
inductive rSetLR(o i v:V)(H:Hp)(Q:Hp->Prop):Prop
 | mk(p xs k j:_)(_:o=.ref p)(_:i=.int k)(_:H p=some (.lst xs))(_:ixN xs.length k=some j)(_:Q (upd H p (.lst (xs.set j v))))
noncomputable def rSetL:V->V->V->Hp->(Hp->Prop)->Prop:=fun o i v H Q=>rSetLR o i v H Q
theorem J7u:PSet X rSetL:=by
 intro pins s σ H o i v D E u Q I z A y h;obtain ⟨p,xs,k,j,rfl,rfl,f,C,q⟩:=h;cases z;obtain ⟨t,rfl⟩:=A;obtain ⟨a,n,r,c,B⟩:=I.lst f;obtain ⟨b,G,l,g⟩:=Jko C;have d:=r.length;have F:=J8u;have w:Inv X pins σ (upd H p (.lst (xs.set j v))) { s with heap:=s.heap.update p (Obj.mapSeq (·.setIfInBounds j u)) }:=
  I.lstUpd f c (Jh2 a n j u) (r.set y j) (by rw [length_set];exact B) s.toks
 by_cases m:0<=k
 ·have e:k.toNat=j:=by
   rw [seqIndex_of m g] at b;exact Option.some.inj b
  exact PySem.W.ki_setAt c m (by lia) (by rw [size_toArray,<- d];exact g) (by rw [e];exact ⟨_,w,q⟩)
 ·have e:(k + (a.toArray.size:Int)).toNat=j:=by
   rw [seqIndex_neg (by lia) l] at b;rw [size_toArray,<- d];exact Option.some.inj b
  exact PySem.W.ki_setBack c (by lia) (by rw [size_toArray,<- d];exact l) (by lia) (by rw [e];exact ⟨_,w,q⟩)
theorem Jby(lo hi:Option Int)(n:Nat):(sliceBounds lo hi none n).1=((HT.sIx n 0 lo:Nat):Int)/\(sliceBounds lo hi none n).2.1=((HT.sIx n n hi:Nat):Int)/\(sliceBounds lo hi none n).2.2=1:=by
 refine ⟨?_,?_,rfl⟩
 ·cases lo with
  | none=>simp [sliceBounds,HT.sIx]
  | some i =>
   simp only [sliceBounds,HT.sIx,Option.getD_none,show (1:Int) > 0 by decide,if_true];by_cases h:i < 0
   ·simp only [h,if_true] <;> lia
   ·simp only [h,if_false] <;> lia
 ·cases hi with
  | none=>simp [sliceBounds,HT.sIx]
  | some i =>
   simp only [sliceBounds,HT.sIx,Option.getD_none,show (1:Int) > 0 by decide,if_true];by_cases h:i < 0
   ·simp only [h,if_true] <;> lia
   ·simp only [h,if_false] <;> lia
theorem Jaw(a:List Value)(lo hi:Option Int):slicePick a.toArray lo hi none=((a.drop (HT.sIx a.length 0 lo)).take (HT.sIx a.length a.length hi - HT.sIx a.length 0 lo)).toArray:=by
 obtain ⟨d,c,b⟩:=Jby lo hi a.toArray.size;unfold slicePick;rw [d,c,b];simp only [sliceRange_one,pick_run,size_toArray] <;> rfl
inductive rSlLR(K:Frag)(x:V)(lo hi:Option Int)(H:Hp)(Q:VK):Prop
 | mk(a xs:_)(_:x=.ref a)(_:SqL K H a xs)(_:∀ p,H p=none->Q (.ref p) (upd H p (.lst (cutV xs lo hi))))
noncomputable def rSlL(K:Frag):V->Option Int->Option Int->Hp->VK->Prop:=fun x lo hi H Q=>rSlLR K x lo hi H Q
theorem Jdo:SlR X (rSlL X.K):=by
 intro pins s σ H x v n m lo hi p Q I e l pl f h;obtain ⟨a,xs,rfl,j,q⟩:=h;cases e;obtain ⟨g,r,d,i⟩:=I.list j;have c:=r.length;refine ⟨"list",_,slot_list_getitem.lookup,d.isList.typeIs,?_⟩;refine wpAny_getItem_list_slice d.isList l pl f .none (by simp) ?_ (by grind);rw [Jaw,<- c];refine ⟨.ref s.heap.objs.size,_,I.laid (t':=s.toks) (o:=.lst (cutV xs lo hi)) (fun b u q=>get?_push_of_some _ q) (Nat.le_refl _) ?_,rfl,q _ (I.hok.fresh (Nat.le_refl _))⟩;exact ⟨Nat.le_trans (J9m xs lo hi) i,_,0,(r.drop (HT.sIx xs.length 0 lo)).take (HT.sIx xs.length xs.length hi - HT.sIx xs.length 0 lo),get?_push_size _ rfl⟩
noncomputable def J5z:V->Bool
 | .non=>true
 | .bl _=>true
 | .int _=>true
 | .str _=>true
 | _=>false
noncomputable def eqV:V->V->Bool
 | .non,.non=>true
 | .bl a,.bl b=>a == b
 | .bl a,.int b=>(if a then 1 else 0) == b
 | .int a,.bl b=>a == (if b then 1 else 0)
 | .int a,.int b=>a == b
 | .str a,.str b=>a == b
 | _,_=>false
theorem Jg8(d:RelV y u)(c:RelV x v)(f:J5z y=true)(e:J5z x=true):SeqAt.EqAt A s u v (eqV y x):=by
 cases y with
 | non =>
  cases d
  cases x with
  | non=>cases c;exact SeqAt.EqAt.same _
  | bl b=>cases c;exact SeqAt.EqAt.none_bool b
  | int b=>obtain ⟨t,rfl⟩:=c;exact SeqAt.EqAt.none_int b t
  | str b=>obtain ⟨t,rfl⟩:=c;exact SeqAt.EqAt.none_str b t
  | _=>exact absurd (show false=true from e) Bool.false_ne_true
 | bl a =>
  cases d
  cases x with
  | non=>cases c;exact SeqAt.EqAt.bool_none a
  | bl b=>cases c;exact SeqAt.EqAt.bool_bool a b
  | int b=>obtain ⟨t,rfl⟩:=c;exact SeqAt.EqAt.bool_int a b t
  | str b=>obtain ⟨t,rfl⟩:=c;exact SeqAt.EqAt.bool_str a b t
  | _=>exact absurd (show false=true from e) Bool.false_ne_true
 | int a =>
  obtain ⟨t',rfl⟩:=d
  cases x with
  | non=>cases c;exact SeqAt.EqAt.int_none a t'
  | bl b=>cases c;exact SeqAt.EqAt.int_bool a t' b
  | int b=>obtain ⟨t,rfl⟩:=c;exact SeqAt.EqAt.int_int a t' b t
  | str b=>obtain ⟨t,rfl⟩:=c;exact SeqAt.EqAt.int_str a t' b t
  | _=>exact absurd (show false=true from e) Bool.false_ne_true
 | str a =>
  obtain ⟨t',rfl⟩:=d
  cases x with
  | non=>cases c;exact SeqAt.EqAt.str_none a t'
  | bl b=>cases c;exact SeqAt.EqAt.str_bool a t' b
  | int b=>obtain ⟨t,rfl⟩:=c;exact SeqAt.EqAt.str_int a t' b t
  | str b=>obtain ⟨t,rfl⟩:=c;exact SeqAt.EqAt.str_str a t' b t
  | _=>exact absurd (show false=true from e) Bool.false_ne_true
 | _=>exact absurd (show false=true from f) Bool.false_ne_true
noncomputable def eqU(x:V)(u:Value):Bool:=match u with
 | .none=>eqV .non x
 | .bool b=>eqV (.bl b) x
 | .int i _=>eqV (.int i) x
 | .str z _=>eqV (.str z) x
 | _=>false
theorem Jq7(r:RelV y u)(f:J5z y=true):eqU x u=eqV y x:=by
 cases y with
 | non=>cases r;rfl
 | bl b=>cases r;rfl
 | int i=>obtain ⟨t,rfl⟩:=r;rfl
 | str z=>obtain ⟨t,rfl⟩:=r;rfl
 | _=>exact absurd (show false=true from f) Bool.false_ne_true
theorem J9q :∀ {xs:List V} {us:List Value},Vals xs us->xs.all J5z=true->us.any (eqU x)=xs.any fun y=>eqV y x
 | _,_,.nil,_=>rfl
 | y :: xs,u :: us,.cons r t,f=>by
  rw [List.all_cons,Bool.and_eq_true] at f;rw [List.any_cons,List.any_cons,Jq7 r f.1,J9q t f.2]
theorem J6k(b:RelV x v)(c:J5z x=true):∀ {xs:List V} {us:List Value},Vals xs us->xs.all J5z=true->∀ u∈us,SeqAt.EqAt A s u v (eqU x u)
 | _,_,.nil,_=>fun u a=>by cases a
 | y :: xs,u :: us,.cons r t,f=>fun d a=>by
  rw [List.all_cons,Bool.and_eq_true] at f;rcases mem_cons.mp a with rfl | a
  ·rw [Jq7 r f.1];exact Jg8 r b f.1 c
  ·exact J6k b c t f.2 d a
noncomputable def inV(x:V)(xs:List V):Bool:=xs.any fun y=>eqV y x
inductive rInR(K:Frag)(a:Bool)(x y:V)(H:Hp)(Q:VK):Prop
 | mk(p xs:_)(_:y=.ref p)(_:(SqL K H p xs\/SqT K H p xs))(_:J5z x=true)(_:xs.all J5z=true)(_:Q (.bl (if a then !inV x xs else inV x xs)) H)
noncomputable def rIn(K:Frag)(a:Bool):R2:=fun x y H Q=>rInR K a x y H Q
theorem Jja:OpR X (compareOp .In) (rIn X.K false):=by
 intro pins s σ H x y v u Q I c e h;obtain ⟨p,xs,rfl,b,d,fs,q⟩:=h;cases e;rcases b with b | b
 ·obtain ⟨a,r,pl,f⟩:=I.list b;refine SeqAt.in_listAt (eqU x) pl.isList (fun w hw=>J6k c d r fs w (by simpa using hw)) ⟨.bl _,H,I,rfl,?_⟩;rw [show a.toArray.any (eqU x)=a.any (eqU x) by simp,J9q r fs];exact q
 ·obtain ⟨a,r,pl,f⟩:=I.tuple b;refine SeqAt.in_tupleAt (eqU x) pl (fun w hw=>J6k c d r fs w (by simpa using hw)) ⟨.bl _,H,I,rfl,?_⟩;rw [show a.toArray.any (eqU x)=a.any (eqU x) by simp,J9q r fs];exact q
theorem J7d:OpR X (compareOp .NotIn) (rIn X.K true):=by
 intro pins s σ H x y v u Q I c e h;obtain ⟨p,xs,rfl,b,d,fs,q⟩:=h;cases e;rcases b with b | b
 ·obtain ⟨a,r,pl,f⟩:=I.list b;refine SeqAt.notIn_listAt (eqU x) pl.isList (fun w hw=>J6k c d r fs w (by simpa using hw)) ⟨.bl _,H,I,rfl,?_⟩;rw [show a.toArray.any (eqU x)=a.any (eqU x) by simp,J9q r fs];exact q
 ·obtain ⟨a,r,pl,f⟩:=I.tuple b;refine SeqAt.notIn_tupleAt (eqU x) pl (fun w hw=>J6k c d r fs w (by simpa using hw)) ⟨.bl _,H,I,rfl,?_⟩;rw [show a.toArray.any (eqU x)=a.any (eqU x) by simp,J9q r fs];exact q
theorem J12:J59 X (.builtin "len") (fun xs H Q=>∃ p b,xs=[.ref p]/\(SqL X.K H p b\/SqT X.K H p b)/\Q (.int b.length) H):=by
 intro pins s σ H xs us Q I r h;obtain ⟨p,b,rfl,c,q⟩:=h;obtain ⟨u,rfl,f⟩:=J6s r;cases f;have i:=J8u;rcases c with c | c
 ·obtain ⟨e,d,pl,g⟩:=I.list c;have a:=d.length;exact Calls.call_len_list pl.isList (by simp only [size_toArray] <;> lia) ⟨.int b.length,H,I.tok _,⟨s.toks + 1,by rw [size_toArray,a]⟩,q⟩
 ·obtain ⟨e,d,pl,g⟩:=I.tuple c;have a:=d.length;exact len_tuple pl (by simp only [size_toArray] <;> lia) ⟨.int b.length,H,I.tok _,⟨s.toks + 1,by rw [size_toArray,a]⟩,q⟩
theorem Jd6:J59 X (.type "list") (fun xs H Q=>∃ p c,xs=[.ref p]/\(SqL X.K H p c\/SqT X.K H p c)/\∀ l,H l=none->Q (.ref l) (upd H l (.lst c))):=by
 intro pins s σ H xs us Q I r h;obtain ⟨p,c,rfl,g,q⟩:=h;obtain ⟨u,rfl,y⟩:=J6s r;cases y;have fin:∀ (a:List Value),Vals c a->c.length<=sizeLine->∀ (h':Heap) (c':Nat),(∀ b v,s.heap.get? b=some v->h'.get? b=some v)->
   h'.get? s.heap.objs.size=some { cls:=.type "list",dict:=none,data:=.seq a.toArray c',slots:=#[] }->EP X pins σ Q (.ref s.heap.objs.size) { s with heap:=h' }:=fun a d f h' c' kp e =>
  ⟨.ref s.heap.objs.size,_,I.laid (t':=s.toks) kp (Nat.le_refl _) (show J34 X.prog X.w _ h' _ (.lst c) from ⟨f,a,c',d,e⟩),rfl,q _ (I.hok.fresh (Nat.le_refl _))⟩
 rcases g with g | g
 ·obtain ⟨a,d,pl,f⟩:=I.list g;have i:=d.length;obtain ⟨o,j,m,n,hd⟩:=pl.isList;exact call_list_seq p (.inl rfl) j m hd (fun h' c' kp e=>fin a d f h' c' kp e) (by simp only [size_toArray] <;> lia)
 ·obtain ⟨a,d,pl,f⟩:=I.tuple g;have i:=d.length;obtain ⟨o,j,m,n,hd⟩:=pl;exact call_list_seq p (.inr rfl) j m hd (fun h' c' kp e=>fin a d f h' c' kp e) (by simp only [size_toArray] <;> lia)
theorem Jbm:J59 X (.type "tuple") (fun xs H Q=>∃ p a,xs=[.ref p]/\((SqL X.K H p a/\∀ l,H l=none->Q (.ref l) (upd H l (.tup a)))\/(SqT X.K H p a/\Q (.ref p) H))):=by
 intro pins s σ H xs us Q I r h;obtain ⟨p,a,rfl,h⟩:=h;obtain ⟨u,rfl,j⟩:=J6s r;cases j;rcases h with ⟨hq,q⟩ | ⟨hq,q⟩
 ·obtain ⟨c,d,pl,f⟩:=I.list hq;have g:=d.length;refine call_tuple_list pl.isList (fun h' kp=>?_) (by simp only [size_toArray] <;> lia);have i:=I.kept (t':=s.toks) kp;have m:=
   i.laid (t':=s.toks) (fun b o e=>get?_push_of_some _ e) (Nat.le_refl _) (show J34 X.prog X.w _ _ _ (.tup a) from ⟨f,c,d,TupX.new _ _⟩)
  exact ⟨.ref h'.objs.size,_,m,rfl,q _ (i.hok.fresh (Nat.le_refl _))⟩
 ·obtain ⟨c,d,pl,f⟩:=I.tuple hq;exact call_tuple_same pl ⟨.ref p,H,I,rfl,q⟩
noncomputable def tyV(K:Frag)(T:String)(x:V)(H:Hp):Prop:=match x with
 | .str _=>T="str"
 | .int _=>T="int"
 | .ref p=>(T="list"/\∃ xs,SqL K H p xs)\/(T="tuple"/\∃ o,K.lookup p=some o/\o.cls=.type "tuple"/\o.dict=none)\/
   (T="dict"/\((∃ kvs,H p=some (.dK kvs))\/∃ kvs,H p=some (.dT kvs)))\/(T="set"/\∃ S n,H p=some (.set S n))
 | _=>False
theorem Jp7(I:Inv X pins σ H s)(r:RelV x v)(b:tyV X.K T x H):
  s.TypeIs v T/\∀ a,v=.ref a->∃ f,s.heap.get? a=some f/\f.dict=none:=by
 cases x with
 | str z =>
  obtain ⟨t,rfl⟩:=r;cases (show T="str" from b);exact ⟨typeIs_str s z t,fun _ e=>nomatch e⟩
 | int i =>
  obtain ⟨t,rfl⟩:=r;cases (show T="int" from b);exact ⟨typeIs_int s i t,fun _ e=>nomatch e⟩
 | ref p =>
  cases r;rcases b with ⟨rfl,xs,hq⟩ | ⟨rfl,o,hk,hc,hd⟩ | ⟨rfl,hk⟩ | ⟨rfl,S,n,hk⟩
  ·obtain ⟨g,_,pl,_⟩:=I.list hq;refine ⟨pl.isList.typeIs,fun a e=>?_⟩;cases e;obtain ⟨o,n,e,c,hd,_⟩:=pl;exact ⟨o,e,hd⟩
  ·refine ⟨⟨o,I.kIn p o hk,hc⟩,fun a e=>?_⟩;cases e;exact ⟨o,I.kIn _ o hk,hd⟩
  ·have z:∃ o,s.heap.get? p=some o/\o.ExactDict:=by
    rcases hk with ⟨kvs,hk⟩ | ⟨kvs,hk⟩
    ·obtain ⟨_,_,_,_,o,_,_,e,ex,_⟩:=I.hok p _ hk;exact ⟨o,e,ex⟩
    ·obtain ⟨_,_,_,_,o,_,_,e,ex,_⟩:=I.hok p _ hk;exact ⟨o,e,ex⟩
   obtain ⟨o,e,ex⟩:=z;refine ⟨⟨o,e,ex.1⟩,fun a d=>?_⟩;cases d;exact ⟨o,e,ex.2.1⟩
  ·obtain ⟨o,_,_,_,e,ex,_⟩:=I.hok p _ hk;refine ⟨⟨o,e,ex.1⟩,fun a d=>?_⟩;cases d;exact ⟨o,e,ex.2.1⟩
 | _=>exact False.elim b
noncomputable def tBM(K:Frag)(T:String)(r:V->List V->Hp->VK->Prop)(b:TE)(t:TA):TE:=fun σ H Q=>b σ H fun x a=>tyV K T x a/\t σ a fun xs c=>r x xs c Q
variable{o e:Expr}{es:List Expr}{to:TE}{t:TA}{name:Str}{apos cpos:Pos}{T id:String}{r:V->List V->Hp->VK->Prop}
theorem J6z(y:PlainAttrs T)(slot:Slot T name id)(f:typeOf (.builtin id)=pure (.type "method_descriptor"))(B:MtR X id r)(A:PE X o to)(C:PA X (e :: es) t)(b:attributeBase o name X.env (eval o X.env)=eval o X.env:=by rfl)(c:((backTo cpos (starEach (e :: es) X.env)).all (fun x=>!x.1) && (backToKw cpos (keywordEach [] X.env)).all (fun x=>x.1.isSome)
   && decide ((e :: es).length + ([]:List Keyword).length + (if ([]:List Keyword).isEmpty then 0 else 1) < 30))=true:=by rfl)(a:(apos.endLine == cpos.line)=true:=by rfl)(z:starEach (e :: es) X.env=(false,eval e X.env) :: starEach es X.env:=by rfl)(d:(backTo cpos (starEach es X.env)).any (·.1)=false:=by rfl):
  PE X (.Call (.Attribute o name apos) (e :: es) [] cpos) (tBM X.K T r to t):=by
 intro pins s σ H Q I h;refine wpAny_Call_method_late b c a rfl (thn (A pins s σ H _ I h) fun v p g=>?_);obtain ⟨x,J,l,i,m,w⟩:=g;obtain ⟨E,D⟩:=Jp7 l i m;refine ⟨T,id,y,slot,f,E,D,?_⟩;have j:=C cpos pins p σ J _ l w;rw [z] at j ⊢;refine Calls.callWith_builtin (by assumption) (Calls.evalArgs_plain ?_);exact thn j fun us n g=>by obtain ⟨vs,G,F,q,u⟩:=g;exact B pins n σ G x vs v us Q F i q u
end
noncomputable def MtM(X:Cx)(id:String)(r:V->List V->Hp->VK->Prop):Prop:=
 ∀ (pins:List (Addr × Obj)) (s:Shared) (σ:St) (H:Hp) (x:V) (xs:List V) (v:Value) (us:List Value) (Q:VK),Inv X pins σ H s->RelV x v->Vals xs us->r x xs H Q->
  wpAny (model X.prog X.w) X.A (call (.builtin id) (v :: us)) (EP X pins σ Q) X.xe s
theorem Vals.one:∀ {x:V} {us:List Value},Vals [x] us->∃ u,us=[u]/\RelV x u:=fun r=>J6s r
theorem Vals.two:∀ {x y:V} {us:List Value},Vals [x,y] us->∃ u v,us=[u,v]/\RelV x u/\RelV y v:=fun r=>Jqg r
theorem Vals.rep(h:Vals xs us):∀ k ,Vals (List.replicate k xs).flatten (List.replicate k us).flatten
 | 0=>.nil
 | k + 1=>by
  exact Vals.append h (Vals.rep h k)
theorem J96(a:List Value):∀ (k:Nat) (acc:List Value),
  foldl (fun c b=>c ++ b) acc.toArray (List.replicate k a.toArray)=(acc ++ (List.replicate k a).flatten).toArray
 | 0,acc=>by simp
 | k + 1,acc=>by
  have e:acc.toArray ++ a.toArray=(acc ++ a).toArray:=by simp
  have d:(acc ++ a) ++ (List.replicate k a).flatten=acc ++ (List.replicate (k + 1) a).flatten:=by
   rw [List.replicate_succ,List.flatten_cons,List.append_assoc]
  rw [<- d,<- J96 a k (acc ++ a),<- e,List.replicate_succ,List.foldl_cons]
section
variable{X:Cx}{pins:List (Addr × Obj)}{σ:St}{H:Hp}{s:Shared}{l b:Addr}{xs ys zs:List V}
theorem Inv.lset{a:List Value}(I:Inv X pins σ H s)(h:H l=some (.lst xs))(e:s.heap.get? l=some { cls:=.type "list",data:=.seq a.toArray n })(g:f a.toArray=its'.toArray)(c:Vals ys its')(b:ys.length<=sizeLine):
  Inv X pins σ (upd H l (.lst ys)) { s with heap:=s.heap.update l (Obj.mapSeq f),toks:=t' }:=by
 have q:=PySem.IsL.update e f;rw [g] at q;refine I.write (x:=l) (e:=l) (by rw [h];exact trivial) (.inl rfl) (fun b' u hb d=>(Heap.get?_update_other s.heap (Obj.mapSeq f) (Ne.symm hb)).trans d) ⟨_,q⟩ ?_;exact ⟨b,its',_,c,q⟩
theorem Inv.lnew(I:Inv X pins σ H s)(b:Vals ys its)(a:ys.length<=sizeLine):
  Inv X pins σ (upd H s.heap.objs.size (.lst ys)) { s with heap:=s.heap.push { cls:=.type "list",data:=.seq its.toArray },toks:=t' } :=
 I.laid (fun _ _ q=>get?_push_of_some _ q) (Nat.le_refl _) ⟨a,its,0,b,get?_push_size _ rfl⟩
theorem Inv.fresh(I:Inv X pins σ H s):H s.heap.objs.size=none:=I.hok.fresh (Nat.le_refl _)
theorem Inv.lstM(I:Inv X pins σ H s)(b:H l=some (.lst xs)):xs.length<=sizeLine/\∃ (a:List Value) (n:Nat),Vals xs a/\xs.length=a.length/\s.heap.get? l=some { cls:=.type "list",data:=.seq a.toArray n }:=by
 obtain ⟨z,a,n,r,e⟩:=I.hok l _ b;exact ⟨z,a,n,r,r.length,e⟩
theorem Jfq(h:n<=sizeLine):Builtin.List.listTooLong n=false:=by
 unfold Builtin.List.listTooLong
 grind
end
section
variable{X:Cx}
inductive Jnb(x:V)(vs:List V)(H:Hp)(Q:VK):Prop
 | mk(l xs y:_)(_:x=.ref l)(_:vs=[y])(_:H l=some (.lst xs))(_:xs.length < sizeLine)(_:Q .non (upd H l (.lst (xs ++ [y]))))
noncomputable def Jrf:V->List V->Hp->VK->Prop:=fun x vs H Q=>Jnb x vs H Q
theorem J31:MtM X "list.append" Jrf:=by
 intro pins s σ H x vs v us Q I c d h;obtain ⟨l,xs,y,rfl,rfl,b,g,q⟩:=h;cases c;obtain ⟨u,rfl,f⟩:=d.one;obtain ⟨z,a,n,r,i,e⟩:=I.lstM b;refine call_meets F.slot_list_append ⟨_,e,rfl⟩ F.entry_list_append (F.args_list_append_2 _ _) (PySem.list_append l a.toArray n u (by grind)) ⟨e,?_⟩;refine ⟨.non,_,I.lset (its':=a ++ [u]) b e (by simp) (r.append (.cons f .nil)) ?_,rfl,q⟩;rw [length_append,List.length_singleton];lia
inductive Jna(x:V)(vs:List V)(H:Hp)(Q:VK):Prop
 | mk(l b xs a:_)(_:x=.ref l)(_:vs=[.ref b])(_:H l=some (.lst xs))(_:H b=some (.lst a))(_:xs.length + a.length<=sizeLine)(_:Q .non (upd H l (.lst (xs ++ a))))
noncomputable def Jre:V->List V->Hp->VK->Prop:=fun x vs H Q=>Jna x vs H Q
theorem Jca:MtM X "list.extend" Jre:=by
 intro pins s σ H x vs v us Q I g i h;obtain ⟨l,b,xs,A,rfl,rfl,f,w,C,q⟩:=h;cases g;obtain ⟨u,rfl,j⟩:=i.one;cases j;obtain ⟨z,c,n,r,D,e⟩:=I.lstM f;obtain ⟨B,a,o,m,p,y⟩:=I.lstM w;have hsz:c.toArray.size + a.toArray.size<=sizeLine:=by grind
 have d:¬ (!c.toArray.isEmpty && Builtin.List.listTooLong (c.toArray.size + a.toArray.size))=true:=by
  rw [Jfq hsz,Bool.and_false];exact Bool.false_ne_true
 refine call_meets F.slot_list_extend ⟨_,e,rfl⟩ F.entry_list_extend (F.args_list_extend_2 _ _)
  (AutoSeq1.list_extend_list_list_0 l c.toArray n b a.toArray o d (by grind) (by lia)) ⟨e,y,?_⟩
 refine ⟨.non,_,I.lset (its':=c ++ a) f e (by simp) (r.append m) ?_,rfl,q⟩;rw [length_append];lia
inductive rCatR(x y:V)(H:Hp)(Q:VK):Prop
 | mk(l b xs a:_)(_:x=.ref l)(_:y=.ref b)(_:H l=some (.lst xs))(_:H b=some (.lst a))(_:xs.length + a.length<=sizeLine)(_:∀ p,H p=none->Q (.ref p) (upd H p (.lst (xs ++ a))))
noncomputable def rCat:R2:=fun x y H Q=>rCatR x y H Q
theorem Jpv:OpR X (binaryOp .Add) rCat:=by
 intro pins s σ H x y v u Q I f d h;obtain ⟨l,b,xs,w,rfl,rfl,j,m,C,q⟩:=h;cases f;cases d;obtain ⟨z,c,n,r,D,e⟩:=I.lstM j;obtain ⟨A,a,B,g,i,p⟩:=I.lstM m;refine PySem.P.add_list e p ?_ (by simp_all);have o:c.toArray ++ a.toArray=(c ++ a).toArray:=by simp
 rw [o];exact ⟨.ref _,_,I.lnew (t':=s.toks) (r.append g) (by rw [length_append];lia),rfl,q _ I.fresh⟩
inductive rRepR(x y:V)(H:Hp)(Q:VK):Prop
 | mk(l k xs:_)(_:x=.ref l)(_:y=.int k)(_:H l=some (.lst xs))(_:-(2 ^ 63)<=k)(_:k < 2 ^ 63)(_:xs.length * k.toNat<=sizeLine)(_:∀ p,H p=none->Q (.ref p) (upd H p (.lst (List.replicate k.toNat xs).flatten)))
noncomputable def rRep:R2:=fun x y H Q=>rRepR x y H Q
theorem Jkg{α:Type}(xs:List α)(k:Nat):(List.replicate k xs).flatten.length=k * xs.length:=by
 simp_all
theorem Jpt:OpR X (binaryOp .Mult) rRep:=by
 intro pins s σ H x y v u Q I A w h;obtain ⟨l,k,xs,rfl,rfl,C,E,D,p,q⟩:=h;cases A;obtain ⟨t,rfl⟩:=w;obtain ⟨z,b,n,r,B,e⟩:=I.lstM C;have f:b.toArray.size * k.toNat<=sizeLine:=by rw [size_toArray,<- B];exact p
 have i:¬ b.toArray.size * k.toNat > (2 ^ 63 - 1) / 8:=by
  have:(sizeLine:Nat)<=(2 ^ 63 - 1) / 8:=by decide
  lia
 have g:¬ (!Builtin.List.listFitsIndex k)=true:=by
  rw [fitsIndex_both E D];exact Bool.false_ne_true
 have c:¬ Builtin.List.listTooLong (b.toArray.size * k.toNat)=true:=by
  rw [Jfq f];exact Bool.false_ne_true
 have d:foldl (fun o j=>o ++ j) #[] (List.replicate (if b.toArray.isEmpty=true then 0 else k.toNat) b.toArray)=(List.replicate k.toNat b).flatten.toArray:=by
  have G:∀ m ,foldl (fun o j=>o ++ j) #[] (List.replicate m b.toArray)=(List.replicate m b).flatten.toArray:=fun m=>by
   have:=J96 b m [];exact this
  rw [G]
  cases b with
  | nil=>simp
  | cons a r'=>rw [if_neg (by simp)]
 refine wpAny_binaryOp_repeat_ref (T:="list") (U:="int") (by decide) ⟨_,e,rfl⟩ (fun s'=>typeIs_int s' k t) noFill_list_mul F.fills_int_mul F.slot_int_rmul repeat_list F.slot_int_index.lookup
  (call_meets F.slot_int_rmul (typeIs_int s k t) F.entry_int_rmul (F.args_int_rmul_2 _ _) (int___rmul___int_list k t l b.toArray n)
   ⟨e,rfl,⟨_,e,rfl⟩,call_meets F.slot_list_mul ⟨_,e,rfl⟩ F.entry_list_mul (F.args_list_mul_2 _ _) (AutoListH.list___mul___list_int_3 l b.toArray n k t g i c) ⟨e,?_⟩⟩)
 rw [d];exact ⟨.ref _,_,I.lnew (t':=s.toks) (r.rep k.toNat) (by rw [Jkg,Nat.mul_comm];exact p),rfl,q _ I.fresh⟩
end
section
variable{prog:Program}{w:World}{A:Around}{E:Value->Shared->Prop}{s:Shared}
set_option maxRecDepth 100000 in
end
end L2
namespace Att
open PySem PySem.W PySem.Calls PyProof.Rows
theorem J93 :∀ (ns:List Int) (vs:List Value),WellAll P h vs (ns.map WData.int)->IntsAre vs ns:=by
 intro ns
 induction ns with
 | nil =>
  intro vs w;cases w;exact .nil
 | cons n ns ih =>
  intro vs w
  cases w with
  | cons a b =>
   cases a;exact .cons _ _ (ih _ b)
theorem Jin{l:OpenLaw}{n:Nat}(p:l.most=some n){P:Params}{h:Heap}{args:List WData}{b:List Value}(c:l.row.toRowW.claim.pre args=true)(i:WellAll P h b args):
  ∃ a vs ns,b=[Value.ref a]/\args=[WData.list (ns.map WData.int)]/\h.get? a=some { cls:=.type "list",data:=.seq vs.toArray }/\IntsAre vs ns/\ns.length<=n:=by
 have j:WShape.hasAll [] args [.list .int]=true:=(pre_splitW c).1;have m:l.pre.holds [] { args:=args }=true:=(pre_splitW c).2;obtain ⟨d,r,rfl,v,u⟩:=hasAllW_cons j;obtain rfl:=hasAllW_nil u;obtain ⟨xs,rfl,s⟩:=hasW_list v;obtain ⟨ns,rfl⟩:=items_int s;have e:ns.length<=n:=by
  unfold OpenLaw.pre at m;have g:(WTm.not (.lt (.lit (.int (n:Int))) (.len (.arg 0)))).holds [] { args:=[.list (ns.map .int)] }=true:=by
   have g:=(holds_andW m).1;rw [p] at g;exact g
  have f:=condW_of g (w_not (w_lt w_lit (w_len_list (w_arg rfl))));rw [length_map] at f;refine Nat.le_of_not_lt fun q=>?_;have o:(n:Int) < ((ns.length:Nat):Int):=by lia
  first
   | (rw [decide_eq_true o] at f;exact absurd f (by decide))
   | (simp at f;lia)
 cases i with
 | cons w1 w2 =>
  cases w2
  cases w1 with
  | list ho hall=>exact ⟨_,_,ns,rfl,rfl,ho,J93 ns _ hall,e⟩
theorem Jj2(l:OpenLaw)(args:List WData):l.row.toRowW.claim.post args (.bool true) args=true:=
 postW_of (r:=l.row.toRowW) (X:=(true == true))
  (show WShape.has [] (.bool true) .bool=true by rfl)
  (show (WTm.eq .res (.lit (.bool true))).value [] { args:=args,res:=some (.bool true),after:=args }=some (.bool (true == true)) from w_eq_bool (w_res rfl) w_lit) rfl
theorem attach_call{l:OpenLaw}(H:l.most=some n)(y:d.params.defaults=[])(call:∀ (w:World) (s₀ b:Shared) (mg s:Str->Option Value) (j:Addr) (o:Obj) (p m e:Value) (a:Addr) (vs:List Value) (ns:List Int),
   Ground q loose [] XP w s₀ mg s b.heap->YP w b.heap->
   b.heap.get? j=some o->o.data=.func (docDef d.name d.params d.body d.scope p m e)->b.heap.CodeRec m d.name->mg d.name=some (.ref j)->
   b.heap.get? a=some { cls:=.type "list",data:=.seq vs.toArray }->IntsAre vs ns->ns.length<=n->b.gens=#[]->
   codeAny (model l.prog w) callerA (.call (.ref j) ⟨[.ref a],[]⟩) (fun r s'=>r=.ok (.ret (.bool true))/\OldK b.heap s'.heap/\s'.os=b.os/\AllBare s'.gens) b):
  WalkO q loose XP YP l.row.toRowW d [] (fun f vs=>PySem.call f vs):=by
 intro w s₀ b mg s G Y j o p m e O kV F hd z C v K args A P g B D u J;obtain rfl:O=.none:=Dflts.none C y;obtain rfl:kV=.none:=Dflts.noKw C;obtain ⟨a,vs,ns,rfl,rfl,h,c,i⟩:=Jin H g u;refine enter_call (codeAny_mono (call w s₀ b mg s j o p m e a vs ns G Y F (fd_plain hd) z v h c i K) fun r s' E=>?_);obtain ⟨rfl,N,M,L⟩:=E;exact ⟨.inl ⟨.bool true,.bool true,[],rfl,fun _=>rfl,.bool true,Jj2 l _,fun _=>⟨List.Pairwise.nil,fun _ I=>(nomatch I)⟩⟩,N,M,L⟩
end Att
namespace L2
open PySem PySem.Spec PyProof.Rows
theorem J4l:∀ {vs:List Value} {ns:List Int},IntsAre vs ns->Vals (ns.map V.int) vs
 | _,_,.nil=>.nil
 | _,_,.cons n t h=>.cons ⟨t,rfl⟩ (J4l h)
noncomputable def Jb(s:Stmt)(j:Nat):Stmt:=match s with
 | .ClassDef _ _ _ body _ _ _ _ _ _ _=>body.getD j (.Pass ⟨0,0,0,0⟩)
 | _=>.Pass ⟨0,0,0,0⟩
noncomputable def J2i(s:Stmt):Arguments:=match s with
 | .FunctionDef _ a _ _ _ _ _ _ _ _=>a
 | _=>{ posonlyargs:=[],args:=[],vararg:=none,kwonlyargs:=[],kw_defaults:=[],kwarg:=none,defaults:=[] }
noncomputable def J1j(s:Stmt):List Stmt:=match s with
 | .FunctionDef _ _ b _ _ _ _ _ _ _=>b
 | _=>[]
noncomputable def Je(s:Stmt):Scope:=match s with
 | .FunctionDef _ _ _ _ _ _ sc _ _ _=>sc
 | _=>{ kind:=.function,names:=[],isGenerator:=false,isCoroutine:=false }
noncomputable abbrev CX0:CXT:=fun _ _ _ _ _ _=>False
noncomputable abbrev E0:XK:=fun _ _ _=>False
theorem Jg :J57 CX0 X E0:=fun _ _ _ _ _ _ _ h=>h.elim
structure Fun(K:Frag)(x qual:Str)(st:Stmt)(f:Addr)(fd:FuncData):Prop where
 ex:∃ (oc:Value) (od:Option Addr) (kV doc pm:Value) (an:Option Addr) (cdv ct:Value) (osl:Array (Option Value)),
  fd=fnOf x qual (J2i st) (J1j st) (Je st) .none kV doc pm an cdv ct/\K.lookup f=some ⟨oc,od,.func fd,osl⟩/\codeIn K cdv qual=true
 kp:keepIn K (.ref f)=true
section
variable{P:Program}{w:World}{K:Frag}{mg:Str->Option Value}{base:Heap}
theorem Fun.ok{st:Stmt}(F:Fun K x qual st f fd)(S:Jr N ps (Je st))(len:∀ vs H Q E,sp vs H Q E->vs.length=ps.length)(b:∀ (a:Value) (A:Around) (outer:List Env) (s:Shared) (H:Hp) (vs:List V) (Q:VK) (E:XK),Room k (A.deeper (envOfC qual (Je st) s.heap.objs.size f a))->sp vs H Q E->
   ∃ t,PSs (cxOf CX0 P w K mg base N qual (Je st) f a A outer s H E).nox (J1j st) t/\t { nx:=fun _ l=>Q .non l,rt:=Q } (start N vs) H):FnOk P w K mg base CX0 (k + 1) f fd ps sp:=by
 obtain ⟨o,n,kV,j,m,p,a,ct,e,rfl,g,d⟩:=F.ex;refine Jsi g d S len fun A outer s H vs Q E i c=>?_;obtain ⟨t,h,q⟩:=b a A outer s H vs Q E i c;exact ⟨t,h.nox,q⟩
theorem Jcj{st:Stmt}{kV:Value}(l:K.lookup f=some ⟨oc,od,.func (fnOf x qual (J2i st) (J1j st) (Je st) .none kV doc pm an cdv ct),osl⟩)(c:codeIn K cdv qual=true)(k:keepIn K (.ref f)=true):Fun K x qual st f (fnOf x qual (J2i st) (J1j st) (Je st) .none kV doc pm an cdv ct):=⟨⟨oc,od,kV,doc,pm,an,cdv,ct,osl,rfl,l,c⟩,k⟩
end
theorem Jsa(a:Room k A):A.units + 1 < cLine:=Nat.lt_of_le_of_lt (Nat.add_le_add_left (by decide:1<=64) _) a.units
theorem J14(h:n<=1000):n < sizeLine:=Nat.lt_of_le_of_lt h (by decide)
section
variable{X:Cx}
theorem pv(i:Nat){x:Str}{pos:Pos}(c:X.N[i]?=some x:=by rfl)(b:Vis X.env.scope x:=by first | exact Or.inl rfl | exact Or.inr (Or.inl rfl) | exact Or.inr (Or.inr rfl))(hd:(x == ("__debug__":Str))=false:=by decide)(a:(x == ("__classdict__":Str))=false:=by decide):PE X (.Name x pos) (tVar i):=pe_var c b hd a
end
theorem iteF{A:Prop}(h:B):if false=true then A else B:=by
 simp_all
theorem iteT{A:Prop}(h:A):if true=true then A else B:=by
 simp_all
theorem Jkq{A:Prop}[Decidable c](a:c)(h:B):if (!decide c)=true then A else B:=by
 simp_all
noncomputable def Same(H a:Hp):Prop:=∀ b o,H b=some o->a b=some o
theorem Same.refl(H:Hp):Same H H:=fun _ _ h=>h
theorem Same.trans(a:Same H H1)(b:Same H1 H2):Same H H2:=fun c o h=>b c o (a c o h)
theorem Same.free(e:Same H H')(h:H' l=Option.none):H l=Option.none:=by
 cases q:H l with
 | none=>rfl
 | some o =>
  rw [e l o q] at h;cases h
theorem Same.seq{K:Frag}(e:Same H H')(h:SqL K H a xs):SqL K H' a xs:=by
 rcases h with (h | ⟨o,h⟩) | h
 ·exact .inl (.inl (e _ _ h))
 ·exact .inl (.inr ⟨o,e _ _ h⟩)
 ·exact .inr h
noncomputable abbrev Cx.block(X:Cx)(N:List Str)(a:Scope)(cl:List (Str × Addr))(C:Addr)(b:List Addr)(s:Shared)(H:Hp):Cx:=
 { X with N:=N,s₀:=s,H₀:=H,env:=compEnvC a cl C X.env,outer:=X.stack,stack:=X.stack,ex:=b,fn:=fun _=>false,pn:=[],xe:=fun _ _=>False }
theorem J8i{env:Env}:∀ {names:List (Str × NameKind)} {x:Str} {k:NameKind},(names.map fun (n,k)=>if (k == NameKind.free && env.scope.kind == .function && env.kindOf n == some .cell) then (n,NameKind.cell) else (n,k)).lookup x=some k->
  k=.cell\/k=.free->(∀ p∈names,p.2≠.cell)->∃ p∈names,p.1=x/\p.2=.free
 | [],_,_,h,_,_=>by simp at h
 | (n,q) :: r,x,k,h,hk,hc=>by
  have d:=@J8i env r x k;have f:q≠.cell:=hc (n,q) mem_cons_self;rw [map_cons] at h;by_cases c:x=n
  ·subst c;by_cases e:(q == NameKind.free && env.scope.kind == .function && env.kindOf x == some .cell)=true
   ·simp only [Bool.and_eq_true] at e;exact ⟨(x,q),mem_cons_self,rfl,by simpa using e.1.1⟩
   ·have a:List.lookup x ((x,q) :: List.map (fun (n,k)=>if (k == NameKind.free && env.scope.kind == .function && env.kindOf n == some .cell) then (n,NameKind.cell) else (n,k)) r)=some k:=by
     simpa only [e,if_false,Bool.false_eq_true] using h
    rw [List.lookup_cons_self] at a;cases a;rcases hk with hk | hk
    ·exact absurd hk f
    ·exact ⟨(x,q),mem_cons_self,rfl,hk⟩
  ·have hb:(x == n)=false:=by simpa using c
   have h':(List.map (fun (n,k)=>if (k == NameKind.free && env.scope.kind == .function && env.kindOf n == some .cell) then (n,NameKind.cell) else (n,k)) r).lookup x=some k:=by
    by_cases e:(q == NameKind.free && env.scope.kind == .function && env.kindOf n == some .cell)=true
    ·simp only [e,if_true,List.lookup_cons,hb] at h;exact h
    ·simp only [e,if_false,Bool.false_eq_true,List.lookup_cons,hb] at h;exact h
   obtain ⟨p,b,g,a⟩:=d h' hk fun p b=>hc p (mem_cons_of_mem _ b);exact ⟨p,mem_cons_of_mem _ b,g,a⟩
noncomputable def capv(σ:St)(js:List Nat):St:=js.map fun j=>(σ[j]?).join
theorem Jgb{k:Nat}(h:(capv σ js)[k]?=some (some v)):∃ j,js[k]?=some j/\σ[j]?=some (some v):=by
 unfold capv at h;rw [getElem?_map] at h
 cases e:js[k]? with
 | none=>rw [e] at h;cases h
 | some j =>
  rw [e] at h;refine ⟨j,rfl,?_⟩
  cases e2:σ[j]? with
  | none=>rw [map_some,e2] at h;cases h
  | some o=>simp_all
section
variable{X:Cx}{elt iter:Expr}{x y:Str}{px py:Pos}{scope:Scope}{cl:List (Str × Addr)}{pos spos:Pos}{wi:TI}{te:TE}{caps:List Str}{js:List Nat}{i:Nat}
theorem Jge(I:Inv X pins σ H s)(m:s.heap.objs.size<=C)(j:∀ b∈fp,FpOk X pins H b)(u:∀ b∈fp,b < s.heap.objs.size)(f:scope.kind=.function)(g:∀ p∈scope.names,p.2≠.cell)(d:∀ p∈cl,X.env.cells.lookup p.1=some p.2)(i:∀ p∈scope.names,p.2=.free->∃ c,cl.lookup p.1=some c):
  (X.block (x :: caps) scope cl C fp s H).Ok where
 mod:=I.ok.mod
 kind:=f
 glob:=I.ok.glob
 blt:=I.ok.blt
 above:=m
 inj:=fun a b c l r=>I.ok.inj a b c (d _ (mem_of_lookup l)) (d _ (mem_of_lookup r))
 has:=fun a h=>by
  have h':(∃ k,(relabel scope X.env).names.lookup a=some k/\(k=.cell\/k=.free)):=by
   rcases h with h | h
   ·exact ⟨_,h,.inl rfl⟩
   ·exact ⟨_,h,.inr rfl⟩
  obtain ⟨k,l,q⟩:=h';obtain ⟨p,n,w,v⟩:=J8i l q g;rw [<- w];exact i p n v
 cab:=fun _ _ h=>nomatch h
 hd:=I.ok.hd
 frames:=I.ok.frames
 stk:=.inl rfl
 exf:=fun b hb=>⟨Nat.ne_of_lt (Nat.lt_of_lt_of_le (u b hb) m),fun a c e=>(j b hb).2.2.2.2.1 a c (d _ (mem_of_lookup e))⟩
 bs:=I.bs
 bsz:=Nat.le_trans I.ok.bsz I.sz
 noex:=fun b o e hb=>by
  rcases (j b hb).2.2.2.1 with z | z
  ·exact I.ok.noex b o e z
  ·exact absurd (Nat.lt_of_lt_of_le (lt_size e) (Nat.le_trans I.ok.bsz z)) (Nat.lt_irrefl _)
 exfs:=fun b hb z=>by
  rcases mem_cons.mp (I.stkSub b z) with e | e
  ·exact (j b hb).2.1 e
  ·exact (j b hb).2.2.1 e
 funs:=I.stack
 frf:=I.stkFree
end
section
variable{X:Cx}
inductive Jn7(x:V)(vs:List V)(H:Hp)(Q:VK):Prop
 | mk(l:Addr)(xs:List V)(k:Nat)(y:V)(_:x=.ref l)(_:vs=[.int k,y])(_:H l=some (.lst xs))(_:k<=xs.length)(_:xs.length < sizeLine)(_:Q .non (upd H l (.lst (xs.take k ++ y :: xs.drop k))))
noncomputable def Jrb:V->List V->Hp->VK->Prop:=fun x vs H Q=>Jn7 x vs H Q
theorem Jk7:MtM X "list.insert" Jrb:=by
 intro pins s σ H x vs v us Q I f g h;obtain ⟨l,xs,k,y,rfl,rfl,d,A,u,q⟩:=h;cases f;obtain ⟨p,c,rfl,⟨t,rfl⟩,i⟩:=g.two;obtain ⟨z,a,n,r,m,e⟩:=I.lstM d;have w:=J8u;obtain ⟨x,j⟩:∃ x:Int,x=(k:Int):=⟨_,rfl⟩;rw [<- j];have b:¬ (!Builtin.List.listFitsIndex x)=true:=by
  rw [fitsIndex_both (by lia) (by lia)];exact Bool.false_ne_true
 have hsz:a.toArray.size<=sizeLine:=by rw [size_toArray,<- m];exact z
 refine call_meets F.slot_list_insert ⟨_,e,rfl⟩ F.entry_list_insert (F.args_list_insert_3 _ _ _) (PySem.AutoSeq1.list_insert_list_int_val_1 l a.toArray n x t c b hsz) ⟨e,?_⟩;refine ⟨.non,_,I.lset (its':=a.take k ++ c :: a.drop k) d e ?_ ((r.take k).append (.cons i (r.drop k))) ?_,rfl,q⟩
 ·have o:(if x < 0 then (x + (a.toArray.size:Int)).toNat else min x.toNat a.toArray.size)=k:=by
   rw [if_neg (by lia),size_toArray];lia
  dsimp only;rw [o];apply Array.ext';simp;rw [take_of_length_le (by rw [length_drop];exact Nat.le_refl _)]
 ·rw [length_append,length_cons,length_take,length_drop];lia
end
section
variable{X:Cx}
noncomputable abbrev SqI(K:Frag)(H:Hp)(p:Addr)(xs:List V):Prop:=SqL K H p xs\/SqT K H p xs
theorem J84(hi:IntsAre its ns):∃ xs:Array (Int × Tok),its.toArray=intItems xs/\preSum (numAt xs) xs.size=ns.sum/\ns=xs.toList.map (·.1):=by
 obtain ⟨xs,a⟩:=hi.allInts.items;have b:ns=xs.toList.map (·.1):=by
  rw [<- nums_intItems,<- a];exact (show numsOf its.toArray.toList=ns from hi.numsOf).symm
 refine ⟨xs,a,?_,b⟩;rw [preSum_eq,take_of_length_le (by simp),b]
theorem J4d(m:X.calm=true):J59 X (.builtin "sum") (fun xs H Q=>∃ (p:Addr) (ns:List Int),xs=[.ref p]/\SqI X.K H p (ns.map V.int)/\Q (.int ns.sum) H):=by
 intro pins s σ H xs us Q I r h;obtain ⟨p,ns,rfl,b,q⟩:=h;obtain ⟨u,rfl,j⟩:=J6s r;cases j;have g:=I.ok.hd m;rcases b with b | b
 ·obtain ⟨a,c,pl,l⟩:=I.list b;obtain ⟨xs,d,f,_⟩:=J84 (J23 c);refine sum_intListG g (d ▸ pl.isList) fun h' i t' e=>?_;rw [f];exact ⟨.int ns.sum,H,I.kept e,⟨t',rfl⟩,q⟩
 ·obtain ⟨a,c,pl,l⟩:=I.tuple b;obtain ⟨xs,d,f,_⟩:=J84 (J23 c);refine PySem.W.ktm_sumG g (d ▸ (show s.heap.IsTuple p a.toArray from pl)) fun h' i t' e=>?_;rw [f];exact ⟨.int ns.sum,H,I.kept e,⟨t',rfl⟩,q⟩
theorem Jcc(p:A.handled=none)(d:s.heap.IsTuple l (intItems xs))(f:0 < xs.size)(h:∀ v h' c,(intItems xs)[argBest (fun i j=>decide (numAt xs i < numAt xs j)) (xs.size - 1)]?=some v->(∀ b o,s.heap.get? b=some o->h'.get? b=some o)->Q v { s with heap:=h',toks:=c }):
  wpAny (model prog w) A (call (.builtin "min") [.ref l]) Q E s:=by
 obtain ⟨o,g,r,n,hd⟩:=id d;have a:=Nat.ne_of_lt (lt_size g);refine call_min_walk (wpAny_pyIter_tuple d ?_);refine ⟨s.heap.objs.size,_,_,_,_,_,_,rfl,Walks.tuple (A:=A.in1) p _ l a (intItems xs),⟨⟨_,get?_push_size _ rfl,rfl,rfl⟩,d.at fun o e=>get?_push_of_some _ e⟩,fun b hb=>?_,by simpa [intItems] using f,CmpOf.ints_lt (numAt xs) (fun _ _=>intItems_at),fun v h' c q m=>?_⟩
 ·rcases mem_cons.mp hb with rfl | hb
  ·exact lt_size (get?_push_size _ rfl)
  ·obtain rfl:=mem_singleton.mp hb;exact lt_size (get?_push_of_some _ g)
 ·refine h v h' c (by simpa [intItems] using q) fun b o e=>m b o (fun hb=>absurd (lt_size e) ((mem_singleton.mp hb) ▸ Nat.lt_irrefl _)) (get?_push_of_some _ e)
theorem Jgg(b:ns=xs.toList.map (·.1))(hsz:0 < xs.size):
  numAt xs (argBest (fun i j=>decide (numAt xs i < numAt xs j)) (xs.size - 1))∈ns/\∀ a∈ns,numAt xs (argBest (fun i j=>decide (numAt xs i < numAt xs j)) (xs.size - 1))<=a:=by
 obtain ⟨f,e⟩:=argBest_lt (numAt xs) (xs.size - 1);refine ⟨?_,fun a c=>?_⟩
 ·rw [b,numAt_eq];exact getD_mem (by rw [length_map,length_toList];lia)
 ·rw [b] at c;obtain ⟨j,d,rfl⟩:=mem_getD c;rw [length_map,length_toList] at d;rw [<- numAt_eq];exact e j (by lia)
theorem Jp4(z:X.calm=true):J59 X (.builtin "min") (fun xs H Q=>∃ (p:Addr) (ns:List Int),xs=[.ref p]/\SqI X.K H p (ns.map V.int)/\0 < ns.length/\∀ M,M∈ns->(∀ a∈ns,M<=a)->Q (.int M) H):=by
 intro pins s σ H xs us Q I r h;obtain ⟨p,ns,rfl,d,b,q⟩:=h;obtain ⟨u,rfl,w⟩:=J6s r;cases w;have n:=I.ok.hd z;rcases d with d | d
 ·obtain ⟨c,f,pl,y⟩:=I.list d;obtain ⟨xs,g,_,e⟩:=J84 (J23 f);have hsz:0 < xs.size:=by rw [e,length_map,length_toList] at b;exact b
  refine min_intList n (g ▸ pl.isList) hsz fun v h' o i j=>?_;obtain ⟨t,rfl⟩:=intItems_at i;obtain ⟨m,l⟩:=Jgg e hsz;exact ⟨.int _,H,I.kept j,⟨t,rfl⟩,q _ m l⟩
 ·obtain ⟨c,f,pl,y⟩:=I.tuple d;obtain ⟨xs,g,_,e⟩:=J84 (J23 f);have hsz:0 < xs.size:=by rw [e,length_map,length_toList] at b;exact b
  refine Jcc n (g ▸ (show s.heap.IsTuple p c.toArray from pl)) hsz fun v h' o i j=>?_;obtain ⟨t,rfl⟩:=intItems_at i;obtain ⟨m,l⟩:=Jgg e hsz;exact ⟨.int _,H,I.kept j,⟨t,rfl⟩,q _ m l⟩
end
section
variable{prog:Program}{w:World}{A:Around}{E:Value->Shared->Prop}{s:Shared}
theorem Jbj(c:s.heap.IsTuple l vs.toArray)(h:Q vs { s with heap:=(s.heap.push (seqObj "list" #[] 0)).update s.heap.objs.size (Obj.mapSeq (· ++ vs.toArray)) })(hsz:vs.length<=sizeLine):
  wpAny (model prog w) A (collect (.ref l)) Q E s:=by
 obtain ⟨o,b,d,n,hd⟩:=id c;unfold collect;refine wpAny_bind (wpAny_runValue (codeAny_builtin entry_proto_collect' ?_));show wpAny _ _ (do again (.builtin "list.__iadd__" ⟨[<- newList [],.ref l],[]⟩)) _ _ s;refine wpAny_bind (wpAny_newList (wpAny_pure ⟨Code.quiet_builtin _ (by decide +kernel),codeAny_builtin entry_list_iadd' ?_⟩));show wpAny _ _ (Builtin.List.listExtendWith (.ref s.heap.objs.size) (.ref l) (.ref s.heap.objs.size)) _ _ { s with heap:=s.heap.push (seqObj "list" #[] 0) };unfold Builtin.List.listExtendWith;have a:(s.heap.push (seqObj "list" #[] 0)).get? l=some o:=get?_push_of_some _ b;refine wpAny_bind (wpAny_typeOf (T:="tuple") ⟨o,a,d⟩ ?_);rw [if_pos (by simp_all)];refine wpAny_bind (listItems_at a hd ?_);refine wpAny_bind (listItems_at (xs:=#[]) (n:=0) (get?_push_size _ rfl) rfl ?_);refine wpAny_bind (listUpdate_at (xs:=#[]) (n:=0) (get?_push_size _ rfl) rfl ?_ (Nat.zero_le _) (by grind));refine wpAny_pure ?_;refine wpAny_bind (wpAny_load (get?_update_seq (get?_push_size _ rfl) _) ?_);show wpAny _ _ (pure ((#[]:Array Value) ++ vs.toArray).toList) Q E _;rw [show ((#[]:Array Value) ++ vs.toArray).toList=vs by simp];exact wpAny_pure h
theorem Jbx(d:s.heap.IsTuple l vs.toArray)(e:IntsAre vs ns)(c:vs.length < 64)(h:∀ (out:Array Value) (a:List Int),IntsAre out.toList a->a.Perm ns->a.Pairwise (·<=·)->Q (.ref (s.heap.objs.size + 1)) { s with heap:=sortedAll s.heap vs out }):
  wpAny (model prog w) A (call (.builtin "sorted") [.ref l]) Q E s:=by
 refine Calls.call_function_entry kind_sorted plain_sorted entry_sorted (args_sorted1 _) ?_;refine wpAny_bind (m:=checkCount "sorted" 1 1 _) (wpAny_pure ?_);refine wpAny_bind (Jbj d ?_ (Nat.le_of_lt (Nat.lt_of_lt_of_le c (by decide))));refine wpAny_bind (wpAny_newList ?_);have hsz:((s.heap.push (seqObj "list" #[] 0)).update s.heap.objs.size (Obj.mapSeq (· ++ vs.toArray))).objs.size=s.heap.objs.size + 1:=by
  simp_all
 have b:(((s.heap.push (seqObj "list" #[] 0)).update s.heap.objs.size (Obj.mapSeq (· ++ vs.toArray))).push (seqObj "list" vs.toArray 0)).get? (s.heap.objs.size + 1)=some (seqObj "list" vs.toArray 0):=by
  rw [<- hsz];exact get?_push_size _ rfl
 rw [hsz];refine wpAny_bind (wpAny_holding (wpAny_call_entry slot_list_sort ⟨_,b,rfl⟩ entry_list_sort (list_sort_tree b e c fun out a i g f=>⟨_,rfl,?_⟩) (args_list_sort _)));exact wpAny_pure ⟨_,rfl,h out a i g f⟩
end
section
variable{X:Cx}
theorem Jen:J59 X (.builtin "sorted") (fun xs H Q=>∃ (p:Addr) (ns:List Int),xs=[.ref p]/\SqI X.K H p (ns.map V.int)/\ns.length < 64/\∀ l (c:List Int),H l=none->c.Perm ns->c.Pairwise (·<=·)->Q (.ref l) (upd H l (.lst (c.map V.int)))):=by
 intro pins s σ H xs us Q I r h;obtain ⟨p,ns,rfl,g,w,q⟩:=h;obtain ⟨u,rfl,n⟩:=J6s r;cases n;have fin:∀ (d:List Value) (out:Array Value) (c:List Int),IntsAre out.toList c->c.Perm ns->c.Pairwise (·<=·)->EP X pins σ Q (.ref (s.heap.objs.size + 1)) { s with heap:=sortedAll s.heap d out }:=fun d out c z m y=>by
  obtain ⟨e,v⟩:=sortedAll_at s.heap d out;have i:(c.map V.int).length<=sizeLine:=by
   rw [length_map,m.length_eq];exact Nat.le_of_lt (J14 (by lia))
  refine ⟨.ref _,_,I.laid (t':=s.toks) (a:=s.heap.objs.size + 1) (o:=.lst (c.map V.int)) (fun b o e=>sortedAll_old e) (Nat.le_succ _) ⟨i,out.toList,e,J4l z,v⟩,rfl,q _ c (I.hok.fresh (Nat.le_succ _)) m y⟩
 rcases g with g | g
 ·obtain ⟨d,f,pl,i⟩:=I.list g;have j:=f.length;rw [length_map] at j;exact sorted_ints pl.isList (J23 f) (by lia) (fin d)
 ·obtain ⟨d,f,pl,i⟩:=I.tuple g;have j:=f.length;rw [length_map] at j;exact Jbx (show s.heap.IsTuple p d.toArray from pl) (J23 f) (by lia) (fin d)
theorem J89:J59 X (.type "range") (fun xs H Q=>∃ j:Int,xs=[.int j]/\∀ r,H r=none->Q (.ref r) (upd H r (.rng 0 j))):=by
 intro pins s σ H xs us Q I r h;obtain ⟨j,rfl,q⟩:=h;obtain ⟨u,rfl,t,rfl⟩:=J6s r;refine call_range_1 ?_;exact ⟨.ref s.heap.objs.size,_,I.laid (o:=.rng 0 j) (fun b o e=>get?_push_of_some _ e) (Nat.le_refl _) ⟨_,_,_,get?_push_size _ rfl⟩,rfl,q _ (I.hok.fresh (Nat.le_refl _))⟩
theorem J3z{f:Nat->Int}:∀ {n:Nat} {us:List Value},us.length=n->(∀ (i:Nat) (v:Value),us[i]?=some v->∃ t,v=Value.int (f i) t)->Vals ((List.range n).map fun i=>V.int (f i)) us:=by
 intro n us b h
 induction n generalizing f us with
 | zero=>cases us with
  | nil=>exact .nil
  | cons a r=>simp at b
 | succ n ih=>cases us with
  | nil=>simp at b
  | cons a r =>
   obtain ⟨t,e⟩:=h 0 a rfl;subst e;rw [List.range_succ_eq_map,map_cons,map_map];exact .cons ⟨t,rfl⟩ (ih (f:=fun i=>f (i + 1)) (by simpa using b) fun i v e=>h (i + 1) v (by simpa using e))
theorem J4e(w:X.calm=true):J59 X (.type "list") (fun xs H Q=>∃ (r:Addr) (n:Nat),xs=[.ref r]/\H r=some (.rng 0 (n:Int))/\n<=1000/\∀ l,H l=none->Q (.ref l) (upd H l (.lst (((List.range n).map fun (i:Nat)=>(i:Int)).map V.int)))):=by
 intro pins s σ H xs us Q I r h;obtain ⟨p,n,rfl,g,j,q⟩:=h;simp only [map_map,Function.comp_def] at q;obtain ⟨u,rfl,d⟩:=J6s r;cases d;obtain ⟨t,u,v,e⟩:=I.hok p _ g;refine call_list_range (I.ok.hd w) (show IsRange s.heap p 0 (n:Int) 1 t u v from e) (small_one (by lia) (by lia) (by lia) (by lia)) (by rw [rangeSize_one];split <;> lia) (n:=n) (by lia) fun h' y b c' m c a=>?_;have f:Vals ((List.range n).map fun (i:Nat)=>V.int (i:Int)) b.toList:=J3z (by exact a.1) fun i v e=>by
  obtain ⟨t,rfl⟩:=a.2 i v (by simpa using e);exact ⟨t,by simp⟩
 refine ⟨.ref s.heap.objs.size,_,I.laid (o:=.lst ((List.range n).map fun (i:Nat)=>V.int (i:Int))) m (Nat.le_refl _) ⟨?_,b.toList,c',f,by simpa using c⟩,rfl,q _ (I.hok.fresh (Nat.le_refl _))⟩;rw [length_map,length_range];exact Nat.le_of_lt (J14 j)
noncomputable def Kin(xs c:List V):Prop:=∀ a∈xs,∀ b∈c,J5z a=true/\J5z b=true/\eqV a b=decide (a=b)
theorem Kin.ints(ns c:List Int):Kin (ns.map V.int) (c.map V.int):=fun a d b hb=>by
 obtain ⟨i,_,rfl⟩:=mem_map.mp d;obtain ⟨j,_,rfl⟩:=mem_map.mp hb;refine ⟨rfl,rfl,?_⟩;show (i == j)=decide (V.int i=V.int j);by_cases e:i=j
 ·simp_all
 ·simp_all
theorem Kin.bls(ns c:List Bool):Kin (ns.map V.bl) (c.map V.bl):=fun a d b hb=>by
 obtain ⟨i,_,rfl⟩:=mem_map.mp d;obtain ⟨j,_,rfl⟩:=mem_map.mp hb;refine ⟨rfl,rfl,?_⟩;show (i == j)=decide (V.bl i=V.bl j);cases i <;> cases j <;> rfl
noncomputable def eAt(xs ys:List V)(j:Nat):Bool:=match xs[j]?,ys[j]? with
 | some a,some b=>eqV a b
 | _,_=>true
theorem Jly(c:xs.length=ys.length)(d:Kin xs ys):((List.range xs.length).all (eAt xs ys))=decide (xs=ys):=by
 rw [Bool.eq_iff_iff,all_eq_true,decide_eq_true_iff];constructor
 ·intro h;apply ext_getElem?;intro j;by_cases a:j < xs.length
  ·have f:=List.getElem?_eq_getElem a;have e:=List.getElem?_eq_getElem (c ▸ a);have:=h j (mem_range.mpr a);unfold eAt at this;rw [f,e] at this;have k:=(d _ (List.getElem_mem a) _ (List.getElem_mem (c ▸ a))).2.2;have this:eqV xs[j] (ys[j]'(c ▸ a))=true:=this;rw [k,decide_eq_true_iff] at this;rw [f,e,this]
  grind
 ·rintro rfl j a;have b:=mem_range.mp a;unfold eAt;rw [List.getElem?_eq_getElem b];have k:=(d _ (List.getElem_mem b) _ (List.getElem_mem b)).2.2;show eqV _ _=true;rw [k];simp
theorem Jq8(r:Vals xs its)(c:Vals ys its2)(h:Kin xs ys)(j:Nat)(l:j < its.toArray.size)(i:j < its2.toArray.size):SeqAt.EqAt A s its.toArray[j] its2.toArray[j] (eAt xs ys j):=by
 have l1:=r.length;have o:=c.length;rw [size_toArray] at l i;have e:xs[j]?=some (xs[j]'(by lia)):=List.getElem?_eq_getElem (by lia);have d:ys[j]?=some (ys[j]'(by lia)):=List.getElem?_eq_getElem (by lia);obtain ⟨u,q,g⟩:=r.get e;obtain ⟨v,p,f⟩:=c.get d;have b:its.toArray[j]=u:=by
  simp_all
 have a:its2.toArray[j]=v:=by
  simp_all
 obtain ⟨n,m,_⟩:=h _ (List.getElem_mem (by lia:j < xs.length)) _ (List.getElem_mem (by lia:j < ys.length));unfold eAt;rw [e,d,b,a];exact Jg8 g f n m
inductive rNeLR(K:Frag)(x y:V)(H:Hp)(Q:VK):Prop
 | mk(p q xs a:_)(_:x=.ref p)(_:y=.ref q)(_:SqL K H p xs)(_:SqL K H q a)(_:Kin xs a)(_:Q (.bl (!decide (xs=a))) H)
noncomputable def rNeL(K:Frag):R2:=fun x y H Q=>rNeLR K x y H Q
theorem op_neL(f:X.A.units < cLine):OpR X (compareOp .NotEq) (rNeL X.K):=by
 intro pins s σ H x y v u Q I n m h;obtain ⟨p,q,xs,l,rfl,rfl,z,w,i,b⟩:=h;cases n;cases m;obtain ⟨o,r,pl,_⟩:=I.list z;obtain ⟨d,c,a,_⟩:=I.list w;have l1:=r.length;have D:=c.length;by_cases g:xs.length=l.length
 ·refine SeqAt.RcNeAt.lists pl.isList a.isList (by rw [size_toArray,size_toArray];lia) f (fun j C B=>Jq8 r c i j C B) _ _ _ _ ?_;rw [size_toArray,<- l1,Jly g i];exact ⟨.bl _,H,I,rfl,b⟩
 ·refine SeqAt.RcNeAt.lists_lengths pl.isList a.isList (by simp;lia) f _ _ _ _ ?_;rw [decide_eq_false (fun e=>g (congrArg List.length e))] at b;exact ⟨.bl true,H,I,rfl,b⟩
end
theorem J7o:fillsNumberSlot (.type "tuple") "mul"=pure false :=
 PySem.fillsNumberSlot_seq (id:="tuple.__mul__") (r:=some (.builtin "tuple.__rmul__")) F.slot_tuple_mul.lookup (by rfl) F.slot_tuple_rmul.lookup (by rfl)
theorem Jc3:seqRepeat? (.type "tuple")=pure (some (.builtin "tuple.__mul__")):=by
 rfl
theorem J9w(a:Int)(t:Tok)(l:Addr)(b:Array Value)(n:Nat)(d:Option Addr)(c:Array (Option Value)):
  Meets (Builtin.«int.__rmul__» ⟨[.int a t,.ref l],[]⟩) (fun _ R s=>s.heap.get? l=some { cls:=.type "tuple",dict:=d,data:=.seq b n,slots:=c }/\R (.ok (.ret Value.notImplemented)) s) :=
 .of_wp fun prog w A R s h=>by obtain ⟨e,h⟩:=h;wp_walk;exact ⟨_,rfl,h⟩
theorem Jdg(l:Addr)(a:Array Value)(n:Nat)(d:Option Addr)(b:Array (Option Value))(t:Tok):
  Meets (Builtin.«tuple.__mul__» ⟨[.ref l,.int 1 t],[]⟩) (fun _ R s=>s.heap.get? l=some { cls:=.type "tuple",dict:=d,data:=.seq a n,slots:=b }/\R (.ok (.ret (.ref l))) { s with heap:=s.heap,toks:=s.toks }) :=
 .of_wp fun prog w A R s h=>by
  obtain ⟨c,h⟩:=h
  wp_walk using AutoSeq1.wpAny_loadPart' c;exact ⟨_,rfl,h⟩
theorem Jdf(l:Addr)(a:Array Value)(n:Nat)(m:Option Addr)(i:Array (Option Value))(k:Int)(t:Tok)(B:1 < k)(z:k < 2 ^ 63)(b:a.isEmpty=false)(hsz:a.size * k.toNat<=sizeLine):
  Meets (Builtin.«tuple.__mul__» ⟨[.ref l,.int k t],[]⟩) (fun _ R s=>s.heap.get? l=some { cls:=.type "tuple",dict:=m,data:=.seq a n,slots:=i }/\
   R (.ok (.ret (.ref s.heap.objs.size))) { s with heap:=s.heap.push { cls:=.type "tuple",data:=.seq ((List.replicate k.toNat a).foldl (· ++ ·) #[]) },toks:=s.toks }) :=
 .of_wp fun prog w A R s h=>by
  obtain ⟨y,g,d,v,os⟩:=s;obtain ⟨c,h⟩:=h;have D:=AutoSeq1.idx_int;have C:=AutoSeq1.sub_tuple_tuple;have u:¬ (decide (k < -(2 ^ 63)) || decide (k>=2 ^ 63))=true:=by simp;lia
  have r:¬ (a.isEmpty || k == 1)=true:=by rw [b];simp;lia
  have q:¬ (decide (k<=0) || a.isEmpty)=true:=by rw [b];simp;lia
  have f:(a.size:Int) * k=((a.size * k.toNat:Nat):Int):=by
   rw [Int.natCast_mul,Int.toNat_of_nonneg (by lia)]
  have j:(sizeLine:Nat)<=(2 ^ 63 - 1) / 8:=by decide
  have p:¬ ((a.size:Int) * k > (2 ^ 63 - 1) / 8):=by rw [f];lia
  have o:¬ Builtin.Tuple.tupleTooMany ((a.size:Int) * k)=true:=by
   unfold Builtin.Tuple.tupleTooMany;rw [f,decide_eq_true_iff];lia
  have e:((List.replicate k.toNat a).foldl (· ++ ·) #[]).size<=sizeLine:=by
   rw [AutoSeq1.size_joined];simp;rw [Nat.mul_comm];exact hsz
  wp_walk using AutoSeq1.wpAny_loadPart' c
  refine wpAny_ite_false (decide_eq_false u) ?_
  wp_walk using AutoSeq1.wpAny_loadPart' c
  refine wpAny_ite_false (decide_eq_false r) ?_;refine wpAny_ite_false (decide_eq_false q) ?_;refine wpAny_ite_false (decide_eq_false p) ?_;refine wpAny_ite_false (decide_eq_false o) ?_
  wp_walk using AutoSeq1.wpAny_loadPart' c
  exact ⟨_,rfl,h⟩
section
variable{X:Cx}
inductive rRepTR(x y:V)(H:Hp)(Q:VK):Prop
 | mk(l:Addr)(k:Int)(xs:List V)(_:x=.ref l)(_:y=.int k)(_:H l=some (.tup xs))(_:xs≠[])(_:1<=k)(_:k < 2 ^ 63)(_:xs.length * k.toNat<=sizeLine)(_:(k=1->Q (.ref l) H))(_:(1 < k->∀ p,H p=none->Q (.ref p) (upd H p (.tup (List.replicate k.toNat xs).flatten))))
noncomputable def rRepT:R2:=fun x y H Q=>rRepTR x y H Q
theorem Jj8:OpR X (binaryOp .Mult) rRepT:=by
 intro pins s σ H x y v u Q I D C h;obtain ⟨l,k,xs,rfl,rfl,K,j,N,L,p,G,E⟩:=h;cases D;obtain ⟨t,rfl⟩:=C;obtain ⟨c,r,pl,J⟩:=I.tuple (SqT.of K);obtain ⟨⟨cls,m,data,g⟩,d,z,n,hd⟩:=id pl;simp only at z hd;subst z hd;have w:=r.length;refine wpAny_binaryOp_repeat_ref (T:="tuple") (U:="int") (by decide) ⟨_,d,rfl⟩ (fun s'=>typeIs_int s' k t) J7o F.fills_int_mul F.slot_int_rmul Jc3 F.slot_int_index.lookup
  (call_meets F.slot_int_rmul (typeIs_int s k t) F.entry_int_rmul (F.args_int_rmul_2 _ _) (J9w k t l c.toArray n m g) ⟨d,rfl,⟨_,d,rfl⟩,?_⟩)
 by_cases e:k=1
 ·subst e;exact call_meets F.slot_tuple_mul ⟨_,d,rfl⟩ F.entry_tuple_mul (F.args_tuple_mul_2 _ _) (Jdg l c.toArray n m g t) ⟨d,⟨.ref l,H,I,rfl,G rfl⟩⟩
 ·have i:c.toArray.isEmpty=false:=by
   cases c with
   | nil=>exact absurd (List.length_eq_zero_iff.mp (by simpa using w)) j
   | cons a r'=>rfl
  refine call_meets F.slot_tuple_mul ⟨_,d,rfl⟩ F.entry_tuple_mul (F.args_tuple_mul_2 _ _) (Jdf l c.toArray n m g k t (by lia) L i (by rw [size_toArray,<- w];exact p)) ⟨d,?_⟩;have f:foldl (fun B A=>B ++ A) #[] (List.replicate k.toNat c.toArray)=(List.replicate k.toNat c).flatten.toArray:=by
   have:=J96 c k.toNat [];rw [nil_append] at this;exact this
  rw [f];refine ⟨.ref _,_,I.laid (t':=s.toks) (o:=.tup (List.replicate k.toNat xs).flatten) (fun b M q=>get?_push_of_some _ q) (Nat.le_refl _) ⟨?_,_,r.rep k.toNat,⟨_,get?_push_size _ rfl,⟨rfl,rfl⟩,_,rfl⟩⟩,rfl,E (by lia) _ (I.hok.fresh (Nat.le_refl _))⟩;rw [Jkg,Nat.mul_comm];exact p
end
section
variable{X:Cx}
@[irreducible] noncomputable def rTup(K:Frag):List V->Hp->VK->Prop:=fun xs H Q=>∃ p ys,xs=[.ref p]/\((SqL K H p ys/\∀ l,H l=none->Q (.ref l) (upd H l (.tup ys)))\/(SqT K H p ys/\Q (.ref p) H))
theorem J26:J59 X (.type "tuple") (rTup X.K):=by
 unfold rTup;exact Jbm
end
section
variable{prog:Program}{w:World}{A:Around}{E:Value->Shared->Prop}{z:Shared}
theorem J8r(c:z.heap.IsTupleIter nu tu j)(e:z.heap.IsTuple tu xs)(d:xs[j]?=some y)(f:∀ g,g.IsTupleIter nu tu (j + 1)->Heap.SameBut nu z.heap g->Q y { z with heap:=g }):wpAny (model prog w) A (Builtin.SmallTypes.nextOf (.ref nu)) Q E z:=by
 obtain ⟨l,a,cn,dn⟩:=id c;obtain ⟨i,b,_,m,h⟩:=e;refine wpAny_bind (wpAny_callSpecial?_slot (name:=Str.ofString "__next__") c.typeIs F.slot_tuple_iterator_next (wpAny_call_entry F.slot_tuple_iterator_next c.typeIs F.entry_tuple_iterator_next ?_ (F.args_tuple_iterator_next_1 _)));show wpAny _ _ (field (.ref nu) 0 >>= _) _ _ z;refine wpAny_bind (wpAny_field a dn (x:=.ref tu) rfl ?_);refine wpAny_bind (wpAny_field a dn (x:=.int j 0) rfl ?_);refine wpAny_bind (wpAny_seqItems b h ?_);simp only [Int.toNat_natCast,d];refine wpAny_bind (wpAny_setField a dn (by simp) (wpAny_pure ⟨y,rfl,wpAny_pure (f _ ?_ (Heap.SameBut.update ..))⟩));exact ⟨_,Heap.get?_update_self _ a (Obj.isFreed_of_fields (Obj.data_mapFields dn _)),(Obj.cls_mapFields ..).trans cn,by rw [Obj.data_mapFields dn];simp [rawInt]⟩
theorem J9v(i:A.handled=none)(d:z.heap.IsTupleIter nu tu j)(h:z.heap.IsTuple tu xs)(f:xs[j]?=none)(l:∀ g e,Heap.ExtBut nu z.heap g->(∃ o,g.get? e=some o/\o.cls=.type "StopIteration")->E (.ref e) { z with heap:=g }):wpAny (model prog w) A (Builtin.SmallTypes.nextOf (.ref nu)) Q E z:=by
 obtain ⟨q,b,cn,dn⟩:=id d;obtain ⟨p,c,_,r,n⟩:=h;unfold Builtin.SmallTypes.nextOf;refine wpAny_bind (wpAny_callSpecial?_slot (name:=Str.ofString "__next__") d.typeIs F.slot_tuple_iterator_next (wpAny_call_entry F.slot_tuple_iterator_next d.typeIs F.entry_tuple_iterator_next ?_ (F.args_tuple_iterator_next_1 _)));show wpAny _ _ (field (.ref nu) 0 >>= _) _ _ z;refine wpAny_bind (wpAny_field b dn (x:=.ref tu) rfl ?_);refine wpAny_bind (wpAny_field b dn (x:=.int j 0) rfl ?_);refine wpAny_bind (wpAny_seqItems c n ?_);simp only [Int.toNat_natCast,f];refine wpAny_bind (wpAny_rule (wpAny_bind (wpAny_setField b dn (by simp) ?_)));refine wpAny_bind ?_;refine wpAny_bind (m:=firstArgMember _ _) (wpAny_of_eq (a:=Value.none) (by rfl) ?_);refine wpAny_newObj_type ?_ (by size_fits);refine wpAny_bind (wpAny_handled ?_)
 first | grind | rw [i]
 refine wpAny_bind (wpAny_pure (wpAny_throw ?_));exact l _ _ (((Heap.SameBut.update ..).extBut.push _).push _) ⟨_,get?_push_size _ rfl,rfl⟩
theorem Jle{St:Heap->Prop}{Q:Value->Shared->Prop}(J:IsEnum z.heap en nu j old)(m:en≠nu)(a:∀ g g' ,St g->(∀ o,g.get? nu=some o->g'.get? nu=some o)->St g')(NX:∀ (A':Around) (E':Value->Shared->Prop) (T:Value->Shared->Prop),(∀ g,St g->Heap.SameBut nu z.heap g->T y { z with heap:=g })->wpAny (model prog w) A' (Builtin.SmallTypes.nextOf (.ref nu)) T E' z)(U:∀ g,IsEnumOut g en nu ((j:Int) + 1) y z.heap.objs.size->St g->g.get? z.heap.objs.size=some { cls:=.type "tuple",data:=.seq #[.int j z.toks,y] }->g.objs.size=z.heap.objs.size + 1->
   (∀ b o,b≠en->b≠nu->z.heap.get? b=some o->g.get? b=some o)->Q (.ref z.heap.objs.size) { z with heap:=g,toks:=z.toks + 1 }):
  wpAny (model prog w) A (Builtin.«enumerate.__next__» ⟨[.ref en],[]⟩) (fun fin s'=>∃ v,fin=.done (.ret v)/\Q v s') E z:=by
 obtain ⟨B,q,d,c,os⟩:=z;show wpAny _ _ (field (.ref en) 2 >>= _) _ _ _;refine wpAny_bind (wpAny_field J rfl (x:=.ref nu) rfl (wpAny_bind (NX _ _ _ fun C G i=>?_)));have i :=i;have N :=(i.2 en m).trans J;show wpAny _ _ (field (.ref en) 3 >>= _) _ _ ⟨C,q,d,c,os⟩;refine wpAny_bind (wpAny_field N rfl (x:=rawInt j) rfl ?_);show wpAny _ _ (field (.ref en) 4 >>= _) _ _ ⟨C,q,d,c,os⟩;refine wpAny_bind (wpAny_field N rfl (x:=.none) rfl ?_);show wpAny _ _ (mkInt j >>= _) _ _ ⟨C,q,d,c,os⟩;refine wpAny_bind (wpAny_mkInt ?_);show wpAny _ _ (setField (.ref en) 3 (rawInt ((j:Int) + 1)) >>= _) _ _ ⟨C,q,d,c + 1,os⟩;refine wpAny_bind (wpAny_setField_rec N (by simp) fun X M h=>?_);have h :=h;have M :=M;show wpAny _ _ (setField (.ref en) 4 .none >>= _) _ _ ⟨X,q,d,c + 1,os⟩;refine wpAny_bind (wpAny_setField_rec M (by simp) fun p L f=>?_);have f :=f;have L :=L;show wpAny _ _ (newTuple [.int j c,y] >>= _) _ _ ⟨p,q,d,c + 1,os⟩;refine wpAny_bind (wpAny_newTuple ?_);have F :=a _ _ G fun o e=>f.extBut _ _ (Ne.symm m) (h.extBut _ _ (Ne.symm m) e);have D:IsEnum (p.push { cls:=.type "tuple",data:=.seq #[.int j c,y] }) en nu ((j:Int) + 1) old:=get?_push_of_some _ L;have r:St (p.push { cls:=.type "tuple",data:=.seq #[.int j c,y] }):=a _ _ F fun o e=>get?_push_of_some _ e;have H:p.objs.size=B.objs.size:=by rw [f.1,h.1,i.1]
 have I:en < B.objs.size:=lt_size J;have P:(p.push { cls:=.type "tuple",data:=.seq #[.int j c,y] }).get? B.objs.size=some { cls:=.type "tuple",data:=.seq #[.int j c,y] }:=by rw [<- H];exact get?_push_size _ rfl
 have O:(p.push { cls:=.type "tuple",data:=.seq #[.int j c,y] }).objs.size=B.objs.size + 1:=by rw [Heap.size_push,H]
 have R:∀ b o,b≠en->b≠nu->B.get? b=some o->(p.push { cls:=.type "tuple",data:=.seq #[.int j c,y] }).get? b=some o:=fun b o n K e =>
  get?_push_of_some _ (f.extBut b o n (h.extBut b o n (i.extBut b o K e)))
 generalize p.push { cls:=.type "tuple",data:=.seq #[.int j c,y] }=g₄ at D r P O R;show wpAny _ _ (Builtin.SmallTypes.ownedTupleIsFree (.ref en) >>= _) _ _ ⟨g₄,q,d,c + 1,os⟩;rw [H];refine wpAny_bind ?_
 ·unfold Builtin.SmallTypes.ownedTupleIsFree;refine wpAny_bind (wpAny_field D rfl (x:=.none) rfl (wpAny_pure ?_));simp only [if_true];refine wpAny_bind (wpAny_rule (wpAny_bind (wpAny_field D rfl (x:=old) rfl (wpAny_bind (wpAny_setField_rec D (by simp) fun W e₅ l=>?_)))));have l:Heap.SameBut en g₄ W:=l;refine wpAny_bind ?_
  ·refine wpAny_bind (wpAny_setField_rec e₅ (by simp) fun g₆ Z u=>?_);refine wpAny_setField_rec Z (by simp) fun S Y s=>?_;have up:∀ b o,b≠en->g₄.get? b=some o->S.get? b=some o:=fun b o n e=>s.extBut b o n (u.extBut b o n (l.extBut b o n e));exact wpAny_bind (wpAny_letGo (wpAny_pure ⟨_,rfl,U S Y (a _ _ r fun o e=>up _ _ (Ne.symm m) e) (up _ _ (Nat.ne_of_gt I) P) (by rw [s.1,u.1,l.1,O]) fun b o n K e=>up b o n (R b o n K e)⟩))
theorem Jhh{j:Nat}(f:IsEnum z.heap en nu j old)(n:z.heap.IsTupleIter nu tu j)(m:z.heap.IsTuple tu xs)(l:xs[j]?=some y)(e:en≠nu)(p:∀ g,IsEnumOut g en nu ((j:Int) + 1) y z.heap.objs.size->g.IsTupleIter nu tu (j + 1)->g.get? z.heap.objs.size=some { cls:=.type "tuple",data:=.seq #[.int j z.toks,y] }->g.objs.size=z.heap.objs.size + 1->
   (∀ b o,b≠en->b≠nu->z.heap.get? b=some o->g.get? b=some o)->Q (some (.ref z.heap.objs.size)) { z with heap:=g,toks:=z.toks + 1 }):
  wpAny (model prog w) A (pyNext (.ref en)) Q E z:=by
 have i:z.TypeIs (.ref en) "enumerate":=⟨_,f,rfl⟩;exact wpAny_bind (wpAny_attempt (wpAny_callSpecial?_slot (name:=Str.ofString "__next__") i F.slot_enumerate_next (wpAny_call_entry F.slot_enumerate_next i F.entry_enumerate_next
   (Jle (St:=fun g=>g.IsTupleIter nu tu (j + 1)) f e (fun g g' st k=>let ⟨o,ho,r⟩:=st;⟨o,k o ho,r⟩) (fun u s q h=>J8r n m l h) fun g a b c d k=>wpAny_pure (p g a b c d k)) (F.args_enumerate_next_1 _))))
theorem Jlg{j:Nat}(m:A.handled=none)(d:IsEnum z.heap en nu j old)(l:z.heap.IsTupleIter nu tu j)(h:z.heap.IsTuple tu xs)(f:xs[j]?=none)(p:∀ g,Heap.ExtBut nu z.heap g->Q none { z with heap:=g }):wpAny (model prog w) A (pyNext (.ref en)) Q E z:=by
 have e:z.TypeIs (.ref en) "enumerate":=⟨_,d,rfl⟩;refine wpAny_bind (wpAny_attempt (wpAny_callSpecial?_slot (name:=Str.ofString "__next__") e F.slot_enumerate_next (wpAny_call_entry F.slot_enumerate_next e F.entry_enumerate_next ?_ (F.args_enumerate_next_1 _))));show wpAny _ _ (field (.ref en) 2 >>= _) _ _ _;refine wpAny_bind (wpAny_field d rfl (x:=.ref nu) rfl (wpAny_bind (J9v m l h f fun g x c a=>?_)));obtain ⟨o,i,n⟩:=a;exact wpAny_bind (wpAny_isInstance (T:="StopIteration") (b:=true) ⟨o,i,n⟩ isSubtype_stop (wpAny_pure (p _ c)))
theorem Jlf(l:Addr)(xs:Array Value)(n:Nat)(e:Option Addr)(j:Array (Option Value)):
  Meets (Builtin.«enumerate.__new__» ⟨[.type "enumerate",.ref l],[]⟩) (fun _ R s=>s.heap.get? l=some { cls:=.type "tuple",dict:=e,data:=.seq xs n,slots:=j }/\
   R (.ok (.ret (.ref (s.heap.push { cls:=.type "tuple_iterator",data:=.fields #[.ref l,.int 0 0] }).objs.size)))
    { s with heap:=(s.heap.push { cls:=.type "tuple_iterator",data:=.fields #[.ref l,.int 0 0] }).push { cls:=.type "enumerate",data:=.fields #[.none,.bool false,.ref s.heap.objs.size,rawInt 0,.none,.none] } }) :=
 .of_wp fun prog w A R s h=>by
  obtain ⟨m,g,d,i,os⟩:=s;obtain ⟨b,h⟩:=h;have f:=sub_enumerate;have a:Heap.IsTuple (Shared.heap ⟨m,g,d,i,os⟩) l xs:=⟨_,b,rfl,n,rfl⟩
  wp_walk using AutoSeq1.wpAny_loadPart' b
  refine wpAny_stack_any fun st=>wpAny_pure ?_;split
  ·rename_i c _ _ _ _ _;cases (c == Value.type "enumerate") <;> (wp_walk using AutoSeq1.wpAny_loadPart' b,wpAny_pyIter_tuple a;exact ⟨_,rfl,h⟩)
  ·(wp_walk using AutoSeq1.wpAny_loadPart' b,wpAny_pyIter_tuple a;exact ⟨_,rfl,h⟩)
theorem Jhm{l:Addr}{xs:Array Value}{Q:Value->Shared->Prop}(m:z.heap.IsTuple l xs)(h:∀ g,IsEnum g (z.heap.objs.size + 1) z.heap.objs.size 0 .none->g.IsTupleIter z.heap.objs.size l 0->g.objs.size=z.heap.objs.size + 2->(∀ b o,z.heap.get? b=some o->g.get? b=some o)->Q (.ref (z.heap.objs.size + 1)) { z with heap:=g }):
  wpAny (model prog w) A (call (.type "enumerate") [.ref l]) Q E z:=by
 obtain ⟨⟨c,e,p,i⟩,j,d,n,hd⟩:=m;have d:c=.type "tuple":=d;have hd:p=.seq xs n:=hd;subst d hd;refine callType_new F.called_enumerate (by decide) (F.typeCall_enumerate_1 _) (F.newCall_enumerate_1 _) (fun obj=>F.args_object_init_2 obj _) F.entry_enumerate_new (Jlf l xs n e i) ⟨j,?_⟩;have a:(z.heap.push { cls:=.type "tuple_iterator",data:=.fields #[.ref l,.int 0 0] }).objs.size=z.heap.objs.size + 1:=Heap.size_push ..;show _/\_;rw [a];have f:IsEnum ((z.heap.push { cls:=.type "tuple_iterator",data:=.fields #[.ref l,.int 0 0] }).push { cls:=.type "enumerate",data:=.fields #[.none,.bool false,.ref z.heap.objs.size,rawInt 0,.none,.none] }) (z.heap.objs.size + 1) z.heap.objs.size 0 .none:=by
  have q:=get?_push_size (z.heap.push { cls:=.type "tuple_iterator",data:=.fields #[.ref l,.int 0 0] }) (o:={ cls:=.type "enumerate",data:=.fields #[.none,.bool false,.ref z.heap.objs.size,rawInt 0,.none,.none] }) rfl;rw [a] at q;exact q
 exact ⟨⟨_,f,rfl⟩,h _ f ⟨_,get?_push_of_some _ (get?_push_size _ rfl),rfl,rfl⟩ (by rw [Heap.size_push,a]) fun b o q=>get?_push_of_some _ (get?_push_of_some _ q)⟩
end
section
variable{X:Cx}{pins:List (Addr × Obj)}{σ:St}{H:Hp}{s:Shared}{h':Heap}
theorem Inv.turned2{t':Nat}{f d p:Addr}{o:HO}(I:Inv X pins σ H s)(k:∀ b u,b≠f->b≠d->s.heap.get? b=some u->h'.get? b=some u)(i:FpOk X pins H f)(h:FpOk X pins H d)(B:s.heap.objs.size<=p)(G:∃ u,h'.get? f=some u)(F:∃ u,h'.get? d=some u)(new:J34 X.prog X.w (upd H p o) h' p o):Inv X pins σ (upd H p o) { s with heap:=h',toks:=t' }:=by
 have y:H p=none:=I.hok.fresh B;have lt:∀ b u,s.heap.get? b=some u->b≠p:=fun b u e=>Nat.ne_of_lt (Nat.lt_of_lt_of_le (lt_size e) B);have l:∀ b u,H b=some u->b≠f:=fun b u e z=>by rw [z,i.1] at e;cases e
 have j:∀ b u,H b=some u->b≠d:=fun b u e z=>by rw [z,h.1] at e;cases e
 have g:∀ b,b ∉ [f,d]->b≠f/\b≠d:=fun b hb=>⟨fun z=>hb (by simp [z]),fun z=>hb (by simp [z])⟩;refine I.step (g':=s.gens) (d':=s.drawn) (ch:=[f,d]) (fun b hb=>?_) (fun b u _ _ a e _=>k b u (g b a).1 (g b a).2 e) (fun b u _ _ a e _=>⟨u.slots,k b u (g b a).1 (g b a).2 e⟩) (fun b u a e n=>by rw [Jm (lt b u e)];exact n)
  (fun b u a e=>⟨u,k b u (g b a).1 (g b a).2 e⟩) (fun b xs e=>by rw [Jm (Jd e y)];exact e) (fun b u v e=>by rw [Jm (Jd e y)];exact e) (fun b ps e=>⟨#[],by rw [Jm (Jd e y),e];simp⟩) (fun m D=>?_) (fun b u e=>?_) I.bare
 ·have hb:b=f\/b=d:=by simpa using hb
  rcases hb with rfl | rfl
  ·exact ⟨i.2.2.2.1,i.2.1,i.2.2.2.2.1,i.2.2.2.2.2⟩
  ·exact ⟨h.2.2.2.1,h.2.1,h.2.2.2.2.1,h.2.2.2.2.2⟩
 ·obtain ⟨A,E,ep,C,r⟩:=D;exact ⟨A,E,ep,k _ A (Ne.symm i.2.1) (Ne.symm h.2.1) C,r⟩
 ·by_cases hb:b=p
  ·subst hb;rw [J6] at e;cases e;exact new
  ·rw [Jm hb] at e;refine (I.hok b u e).stay (fun c v a q=>k c v ?_ ?_ q) (fun c q=>by rw [Jm (Jd q y)];exact q) fun c xs q=>by rw [Jm (Jd q y)];exact q
   ·rcases a with q | q
    ·rw [q];exact l b u e
    ·exact l c _ q
   ·rcases a with q | q
    ·rw [q];exact j b u e
    ·exact j c _ q
end
noncomputable def Ite(K:Frag)(a:Addr):It:=
 ⟨fun i H=>∃ xs x,SqT K H a xs/\xs[i]?=some x,fun i H v b=>∃ p x,v=.ref p/\H p=none/\b=upd H p (.tup [.int (i:Int),x])/\∀ xs,SqT K H a xs->xs[i]?=some x,fun i H=>∃ xs,SqT K H a xs/\xs.length<=i⟩
theorem Jhv{P:Program}{w:World}{K:Frag}{C:List Expr}{kk:Nat}{tp:Pos}(a f d:Addr)(q:f≠d):Turn P w K (.Tuple C kk tp) (Ite K a) [f,d] f (fun i h=>(∃ c,IsEnum h f d (i:Int) c)/\h.IsTupleIter d a i) where
 mem:=by simp
 obj:=fun i h st b hb=>by
  obtain ⟨⟨c,j⟩,o,l,_,d2⟩:=st;have hb:b=f\/b=d:=by simpa using hb
  rcases hb with rfl | rfl
  ·exact ⟨_,j,fun v z=>by
    have z':Data.fields _=Data.cell v:=z;cases z'⟩
  ·exact ⟨_,l,fun v z=>by rw [d2] at z;cases z⟩
 keep:=fun i h h' st k=>by
  obtain ⟨⟨c,j⟩,o,l,r⟩:=st;exact ⟨⟨c,k f (by simp) _ j⟩,o,k d (by simp) _ l,r⟩
 item:=by
  intro X S hw T hc i pins s σ H E I B st N;subst S hw T;obtain ⟨⟨c,j⟩,l⟩:=st;obtain ⟨xs,x,F,Y⟩:=N;obtain ⟨m,r,pl,hz⟩:=I.tuple F;obtain ⟨u,hu,ru⟩:=r.get Y;have U:=B f (by simp);have f2:=B d (by simp);refine Jhh j l (show s.heap.IsTuple a m.toArray from pl) (y:=u) (by simpa using hu) q fun g o1 n1 t1 z1 k1=>?_;refine ⟨_,rfl,?_⟩;have Z:f < s.heap.objs.size:=lt_size j;refine wpAny_letOwnedTupleGo_enum o1 fun G e3 n=>?_;have n:Heap.SameBut f g G:=n;have W:G.IsTupleIter d a (i + 1):=n1.extBut n.extBut (Ne.symm q);have L:∀ b o,b≠f->b≠d->s.heap.get? b=some o->G.get? b=some o:=fun b o h1 h2 e=>(n.2 b h1).trans (k1 b o h1 h2 e);have t2:G.get? s.heap.objs.size=some { cls:=.type "tuple",data:=.seq #[.int i s.toks,u] }:=(n.2 _ (Nat.ne_of_gt Z)).trans t1;obtain ⟨on,M,_⟩:=id W;have J:=I.turned2 (t':=s.toks + 1) (o:=.tup [.int (i:Int),x]) (p:=s.heap.objs.size) L U f2 (Nat.le_refl _) ⟨_,e3⟩ ⟨_,M⟩
   ⟨(by show 2<=sizeLine;decide),[.int i s.toks,u],.cons ⟨_,rfl⟩ (.cons ru .nil),⟨_,t2,⟨rfl,rfl⟩,_,rfl⟩⟩
  have O:H s.heap.objs.size=none:=I.hok.fresh (Nat.le_refl _);have D:((i + 1:Nat):Int)=(i:Int) + 1:=by omega
  refine ⟨.ref s.heap.objs.size,_,J,rfl,⟨_,x,rfl,O,rfl,fun ys hy=>?_⟩,⟨⟨u,by rw [D];exact e3⟩,W⟩,fun b hb=>?_⟩
  ·rw [<- I.tuple_inj F hy];exact Y
  ·have R:b < s.heap.objs.size:=by
    have hb:b=f\/b=d:=by simpa using hb
    rcases hb with rfl | rfl
    ·exact Z
    ·obtain ⟨o,ho,_⟩:=l;exact lt_size ho
   rw [Jm (Nat.ne_of_lt R)];exact (B b hb).1
 done:=by
  intro X S hw T hc i pins s σ H E I B st N;subst S hw T;obtain ⟨⟨c,j⟩,l⟩:=st;obtain ⟨xs,F,hl⟩:=N;obtain ⟨m,r,pl,hz⟩:=I.tuple F;obtain ⟨f0,U,f2,f3,f4,f5⟩:=B d (by simp);refine Jlg (I.ok.hd hc) j l (show s.heap.IsTuple a m.toArray from pl) (by have:=r.length;simp;omega) fun g eb=>⟨rfl,I.turned (t':=s.toks) (fun b o hb e=>eb b o hb e) f0 U f3 f4 f5⟩
 self:=fun A i s Q E st h=>by
  obtain ⟨⟨c,j⟩,_⟩:=st;exact wpAny_pyIter_enum j h
section
variable{X:Cx}
inductive iEnumR(K:Frag)(R:It->Hp->Prop)(vs:List V)(b:Hp):Prop
 | mk(a:_)(_:vs=[.ref a])(_:(∃ xs,SqT K b a xs))(_:R (Ite K a) b)
noncomputable def iEnum(K:Frag)(a:TA):TI:=fun σ H R=>a σ H fun vs b=>iEnumR K R vs b
theorem Jds{f:List Expr}{y:Nat}{tp:Pos}{a:Expr}{l:TA}{p pos:Pos}(D:Gl X "enumerate")(C:X.mg "enumerate"=none)(E:PA X [a] l)(A:starEach [a] X.env=[(false,eval a X.env)]:=by rfl):PI X (.Tuple f y tp) (.Call (.Name "enumerate" p) [a] [] pos) (iEnum X.K l):=by
 intro pins s σ H R I h;refine Call_ (J7g I D C boot_enumerate (callWith_type1 (thn (E pos pins s σ H _ I h) fun us c F=>?_) A rfl));obtain ⟨vs,n,i,v,w⟩:=F;obtain ⟨a,e,⟨xs,B⟩,q⟩:=w;subst e;obtain ⟨u,rfl,o⟩:=J6s v;cases o;obtain ⟨j,r,pl,M⟩:=i.tuple B;refine Jhm (show c.heap.IsTuple a j.toArray from pl) fun g m G L z=>?_;have J:Inv X pins σ n { c with heap:=g }:=i.kept (t':=c.toks) z;refine wpAny_pyIter_enum m ?_;refine ⟨_,_,_,_,n,rfl,J,Jhv a _ _ (Nat.succ_ne_self _),⟨⟨.none,m⟩,G⟩,fun b hb=>?_,q⟩;have hb:b=c.heap.objs.size + 1\/b=c.heap.objs.size:=by simpa using hb
 have d:c.heap.objs.size<=b:=by
  rcases hb with e | e
  ·rw [e];exact Nat.le_succ _
  ·rw [e];exact Nat.le_refl _
 exact i.fpOk d (i.hok.fresh d)
theorem Jow{K:Frag}{g:TG}{h:TS}{D:Ends}(b:Nat->St->Hp->Prop)(u:b 0 σ H)(s:∀ i σ H,i<=xs.length->b i σ H->SqT K H a xs)(o:∀ i x σ H p,xs[i]?=some x->b i σ H->H p=none->g (.ref p) σ (upd H p (.tup [.int (i:Int),x])) fun σ2 f=>h { D with nx:=b (i + 1),ct:=b (i + 1),bk:=D.nx } σ2 f)(hd:∀ σ H,b xs.length σ H->D.nx σ H):
  ∃ W:Nat->Nat->St->Hp->Prop,(∃ m,W 0 m σ H)/\∀ i m σ H,W i m σ H->
   ((Ite K a).stop i H/\D.nx σ H)\/((Ite K a).go i H/\∃ N:St->Hp->Prop,(∀ σ' c,N σ' c->∃ j,j < m/\W (i + 1) j σ' c)/\∀ x c,(Ite K a).yld i H x c->g x σ c fun σ2 f=>h { D with nx:=N,ct:=N,bk:=D.nx } σ2 f):=by
 refine ⟨fun i m σ H=>m=xs.length - i/\i<=xs.length/\b i σ H,⟨xs.length,by simp,Nat.zero_le _,u⟩,?_⟩;rintro i m σ H ⟨rfl,hi,p⟩;have q:=s i σ H hi p;by_cases d:i < xs.length
 ·refine .inr ⟨⟨xs,xs[i],q,by simp [d]⟩,b (i + 1),fun σ' c n=>⟨xs.length - (i + 1),by omega,rfl,d,n⟩,fun v c y=>?_⟩;obtain ⟨l,x,rfl,r,rfl,y⟩:=y;exact o i x σ H l (y xs q) p r
 ·have e:i=xs.length:=by omega
  subst e;exact .inl ⟨⟨xs,q,Nat.le_refl _⟩,hd σ H p⟩
end
noncomputable def PTs(X:Cx)(a:List Expr)(t:TT):Prop:=
 ∀ (pins:List (Addr × Obj)) (s:Shared) (σ:St) (H:Hp) (Q:Bool->Hp->Prop),Inv X pins σ H s->t σ H Q->
  wpAny (model X.prog X.w) X.A (forIn a true fun c r=>if r=true then do let ok <- isTrue c X.env (eval c X.env);pure (ForInStep.yield ok) else pure (ForInStep.yield r)) (TP X pins σ Q) X.xe s
noncomputable def tYes:TT:=fun _ H Q=>Q true H
theorem J3l :PTs X [] tYes:=fun _ s σ H Q I h=>wpAny_tests_nil ⟨H,I,h⟩
theorem Jb2(h:PT X c t):PTs X [c] t:=fun pins s σ H Q I q=>wpAny_tests_one (h pins s σ H Q I q)
theorem J5o(J:Nat->Shared->Prop)(turn:∀ n s,J n s->wpAny (model prog w) A (pyNext it) (fun r d=>match r with
   | none=>R (.ok .next) d
   | some v=>wpAny (model prog w) A (letOwnedTupleGo target it v) (fun _ a=>wpAny (model prog w) A (assign target env v) (fun _ i =>
     wpAny (model prog w) A (forIn ifs true fun c r=>if r=true then do let ok <- isTrue c env (eval c env);pure (ForInStep.yield ok) else pure (ForInStep.yield r)) (fun ok b =>
      if ok=true then wpAny (model prog w) A (eval elt env) (fun x g =>
       wpAny (model prog w) A (call (.builtin "list.append") [acc,x]) (fun _ f=>∃ m,m < n/\J m f) (fun _ _=>False) g) (fun _ _=>False) b
      else ∃ m,m < n/\J m b) (fun _ _=>False) i) (fun _ _=>False) a) (fun _ _=>False) d) (fun _ _=>False) s)(n:Nat)(h:J n s):codeAny (model prog w) A (.compLoop (.ListComp elt [⟨target,iter,ifs,0⟩] scope pos) 0 it acc env) R s:=by
 refine codeAny_loop rfl J (fun n s u=>?_) n h;refine wpAny_noted ?_;rw [compTurn_list];refine wpAny_bind (wpAny_standAt (wpAny_bind (wpAny_mono (turn n s u) (fun r d l=>?_) fun _ _ h'=>False.elim h')))
 cases r with
 | none=>exact wpAny_pure l
 | some v =>
  refine wpAny_bind (wpAny_mono l (fun _ a e=>?_) fun _ _ h'=>False.elim h');refine wpAny_bind (wpAny_mono e (fun _ i q=>wpAny_bind (wpAny_mono q (fun ok b j=>?_) fun _ _ h'=>False.elim h')) fun _ _ h'=>False.elim h')
  cases ok with
  | false=>exact wpAny_pure ⟨rfl,j⟩
  | true =>
   exact wpAny_bind (wpAny_bind (wpAny_mono j (fun x g p=>wpAny_bind (wpAny_mono p (fun _ f o=>wpAny_pure (wpAny_pure ⟨rfl,o⟩)) fun _ _ h'=>False.elim h')) fun _ _ h'=>False.elim h'))
noncomputable def LCW(J:It)(l:TT)(j:TE)(σ:St)(js:List Nat)(Q:VK)(n:Hp)(d:Addr):Prop:=∃ W:Nat->Nat->List V->Hp->Prop,(∃ m,W 0 m [] (upd n d (.lst [])))/\
 ∀ i m a c,W i m a c->c d=some (.lst a)/\((J.stop i c/\Q (.ref d) c)\/(J.go i c/\a.length < sizeLine/\∀ v h,J.yld i c v h->
  l (some v :: capv σ js) h fun b g=>if b=true then j (some v :: capv σ js) g fun y f=>f d=some (.lst a)/\∃ e,e < m/\W (i + 1) e (a ++ [y]) (upd f d (.lst (a ++ [y])))
   else ∃ e,e < m/\W (i + 1) e a g))
noncomputable def tLC(b:TI)(e:TT)(c:TE)(js:List Nat):TE:=fun σ H Q=>b σ H fun J a=>∀ d,a d=none->LCW J e c σ js Q a d
section
variable{X:Cx}{elt iter:Expr}{ifs:List Expr}{x y:Str}{px py:Pos}{scope:Scope}{cl:List (Str × Addr)}{pos spos:Pos}{wi:TI}{tc:TT}{te:TE}{caps:List Str}{js:List Nat}{i:Nat}
noncomputable def LCWg(g:TG)(n:Nat)(J:It)(p:TT)(o:TE)(σ:St)(js:List Nat)(Q:VK)(s:Hp)(d:Addr):Prop:=∃ W:Nat->Nat->List V->Hp->Prop,(∃ m,W 0 m [] (upd s d (.lst [])))/\
 ∀ i m a b,W i m a b->b d=some (.lst a)/\((J.stop i b/\Q (.ref d) b)\/(J.go i b/\a.length < sizeLine/\∀ v l,J.yld i b v l->∀ f:List (Option V),f.length=n->
  g v (f ++ capv σ js) l fun σ' r=>∃ e:List (Option V),e.length=n/\σ'=e ++ capv σ js/\p σ' r fun q j=>if q=true then o σ' j fun y h=>h d=some (.lst a)/\∃ c,c < m/\W (i + 1) c (a ++ [y]) (upd h d (.lst (a ++ [y])))
   else ∃ c,c < m/\W (i + 1) c a j))
theorem Jam(hc:X.calm=true)(hp:PI X tgt iter wi)(hg:∀ (C:Addr) (i:List Addr) (s:Shared) (H:Hp),PG (X.block (x :: (xr ++ caps)) scope cl C i s H) tgt g)(he:∀ (C:Addr) (i:List Addr) (s:Shared) (H:Hp),PE (X.block (x :: (xr ++ caps)) scope cl C i s H) elt te)(ht:∀ (C:Addr) (i:List Addr) (s:Shared) (H:Hp),PTs (X.block (x :: (xr ++ caps)) scope cl C i s H) ifs tc)(E:∀ p∈scope.names,p.2≠.cell)(Y:∀ p∈scope.names,p.2=.local->scope.names.lookup p.1=some .local)(l:∀ p∈cl,X.env.cells.lookup p.1=some p.2)(aa:∀ p∈scope.names,p.2=.free->∃ c,cl.lookup p.1=some c)(ak:caps.length=js.length)(ag:∀ (k:Nat) (c:Str),caps[k]?=some c->∃ (j:Nat) (a:Addr),js[k]?=some j/\X.N[j]?=some c/\X.env.scope.names.lookup c=some .cell/\cl.lookup c=some a/\(relabel scope X.env).names.lookup c=some .cell)(af:closureFor scope X.env=pure cl)(z:scope.kind=.function)(hs:∀ v,foldedSetIterable iter X.env v=pure v)(I:Inv X pins σ H s)(h:wi σ H R)(hR:∀ J H1,R J H1->∀ d,H1 d=none->LCWg g (xr.length + 1) J tc te σ js Q H1 d)(fin:∀ (d:Addr) (n:Hp) (s5:Shared) (C:Addr),Inv X pins σ n s5->Q (.ref d) n->(∃ m,s5.heap.Ns C m)->FpOk X pins n C->compPost (model X.prog X.w) X.A X.xe use QV (.ref d) C (.ok .next) s5):
  wpAny (model X.prog X.w) X.A (comprehension (.ListComp elt [⟨tgt,iter,ifs,0⟩] scope pos) scope X.env p0 (newList []) false (eval iter X.env) use) QV X.xe s:=by
 refine wpAny_comprehension_free (cl:=cl) (use:=use) (Q:=QV) rfl hs af z Y (thn (hp pins s σ H _ I h) fun v s1 h1=>thn h1 fun a1 f h2=>?_);obtain ⟨it,i,tn,J,S,e,M,T,ad,f2,h3⟩:=h2;subst e;have al :=M.hok.fresh (Nat.le_refl _);obtain ⟨W,⟨m0,w0⟩,hW⟩:=hR _ _ h3 f.heap.objs.size al;refine wpAny_newObj_type (wpAny_newFunctionEnv E (by intro y hy;simp at hy) (fun h₁ P F=>?_) z);dsimp only at P F ⊢;generalize hH2:f.heap.push { cls:=.type "list",dict:=none,data:=.seq ([]:List Value).toArray }=G at P F ⊢;have hC:G.objs.size=f.heap.objs.size + 1:=by rw [<- hH2,Heap.size_push]
 have an:f.heap.objs.size≠G.objs.size:=by rw [hC];exact Nat.ne_of_lt (Nat.lt_succ_self _)
 have B:f.heap.objs.size<=G.objs.size:=by rw [hC];exact Nat.le_succ _
 have K:=fun b o e=>F.extBut b o (by rw [hC];exact Nat.ne_of_lt (Nat.lt_succ_of_lt (lt_size e))) (get?_push_of_some _ (hH2 ▸ get?_push_of_some _ e));have am:=F.extBut _ _ an (get?_push_of_some _ (hH2 ▸ get?_push_size _ rfl));have fl:∀ b∈i,b < f.heap.objs.size:=fun b hb=>by
  obtain ⟨o,e,_⟩:=T.obj _ _ ad b hb;exact lt_size e
 have av:=fun hm=>Nat.lt_irrefl _ (fl _ hm);have aj:HOk X.prog X.w (upd S f.heap.objs.size (.lst [])) h₁:=M.hok.laid K (Nat.le_refl _) ⟨Nat.zero_le _,[],0,.nil,am⟩;have az:∀ tk,Inv (X.block (x :: (xr ++ caps)) scope cl G.objs.size i f S) [] (List.replicate (xr.length + 1) none ++ capv σ js) (upd S f.heap.objs.size (.lst [])) { f with heap:=h₁,toks:=tk }:=fun tk=>by
  refine ⟨Jge M B f2 fl z E l aa,rfl,M.bare,Un.laid K (Nat.le_refl _) al,⟨_,P,fun k q v e1 e2 e3=>?_⟩,fun q c e=>?_,?_,fun q c e=>?_,fun p hp=>absurd hp (by simp),aj,?_⟩
  ·by_cases hk:k < xr.length + 1
   ·rw [getElem?_append_left (by rw [length_replicate];exact hk),List.getElem?_replicate,if_pos hk] at e2;cases e2
   ·obtain ⟨k,rfl⟩:∃ k',k=xr.length + 1 + k':=⟨k - (xr.length + 1),by omega⟩;have ay:caps[k]?=some q:=by
     have e1:(x :: (xr ++ caps))[xr.length + 1 + k]?=some q:=e1;rw [show xr.length + 1 + k=(xr.length + k) + 1 by omega,List.getElem?_cons_succ,getElem?_append_right (by omega),show xr.length + k - xr.length=k by omega] at e1;exact e1
    have ax:(capv σ js)[k]?=some (some v):=by
     rw [getElem?_append_right (by rw [length_replicate];omega),length_replicate,show xr.length + 1 + k - (xr.length + 1)=k by omega] at e2;exact e2
    obtain ⟨j,a,q1,q2,q3,q4,q5⟩:=ag k q ay;obtain ⟨j',r1,r2⟩:=Jgb ax;rw [q1] at r1;cases r1;obtain ⟨m,hm,hl⟩:=M.loc;obtain ⟨u,ru,lu⟩:=hl j q v q2 r2 (.inr (.inl q3));refine ⟨u,ru,.inr ⟨.inl q5,a,q4,?_⟩⟩;rcases lu with ⟨k1,_⟩ | ⟨_,c,ec,o,ho,hd⟩
    ·have ai:X.env.scope.names.lookup q=some .local:=k1;rw [q3] at ai;cases ai
    ·have:=l _ (mem_of_lookup q4);rw [ec] at this;cases this;exact ⟨o,K _ _ ho,hd⟩
  ·obtain ⟨v,o,ho,hd⟩:=M.cell q c (l _ (mem_of_lookup e));exact ⟨v,o,K _ _ ho,hd⟩
  ·show upd S f.heap.objs.size (.lst []) G.objs.size=none;rw [Jm an.symm];exact M.hok.fresh B
  ·have ec:=l _ (mem_of_lookup e);obtain ⟨v,o,ho,hd⟩:=M.cell q c ec;rw [Jm (Nat.ne_of_lt (lt_size ho))];exact M.freeC q c ec
  ·show (List.replicate (xr.length + 1) none ++ capv σ js).length=(x :: (xr ++ caps)).length;unfold capv;simp [ak];omega
 have O:∀ {n:Hp},(∀ b∈i,n b=none)->∀ b∈i,FpOk (X.block (x :: (xr ++ caps)) scope cl G.objs.size i f S) [] n b:=fun hn b hb =>
  ⟨hn b hb,Nat.ne_of_lt (Nat.lt_of_lt_of_le (fl b hb) B),(Jge (x:=x) (caps:=xr ++ caps) M B f2 fl z E l aa).exfs b hb,.inl hb,fun q c e=>(f2 b hb).2.2.2.2.1 q c (l _ (mem_of_lookup e)),fun p hp=>absurd hp (by simp)⟩
 have Z:∀ tk,codeAny (model X.prog X.w) X.A (.compLoop (.ListComp elt [⟨tgt,iter,ifs,0⟩] scope pos) 0 (.ref it) (.ref f.heap.objs.size) (compEnvC scope cl G.objs.size X.env))
   (compPost (model X.prog X.w) X.A X.xe use QV (.ref f.heap.objs.size) G.objs.size) { f with heap:=h₁,toks:=tk }:=fun tk=>by
  refine J5o (fun m s'=>∃ (k:Nat) (ou:List (Option V)) (U:List V) (n:Hp),ou.length=xr.length + 1/\Inv (X.block (x :: (xr ++ caps)) scope cl G.objs.size i f S) [] (ou ++ capv σ js) n s'/\tn k s'.heap/\(∀ b∈i,n b=none)/\W k m U n) ?_ m0
   ⟨0,_,[],_,length_replicate,az tk,T.keep _ _ _ ad fun b hb o e=>K b o e,fun b hb=>by
    rw [Jm (show b≠f.heap.objs.size from fun e=>av (by rw [<- e];exact hb))];exact (f2 b hb).1,w0⟩
  rintro m s3 ⟨k,ou,U,n,ar,I3,ah,ao,w3⟩;obtain ⟨hd,au⟩:=hW k m U n w3;rcases au with ⟨stop,q⟩ | ⟨go,hz,step⟩
  ·refine thn (T.done (X.block (x :: (xr ++ caps)) scope cl G.objs.size i f S) rfl rfl rfl hc k [] s3 _ _ (fun _ _=>False) I3 (O ao) ah stop) fun r s4 L=>?_;obtain ⟨hr,I4⟩:=L;subst hr;have J5:Inv X pins σ n s4:=M.call' (ch:=i) I4.os I4.base I4.hok I4.bare fun b hb=>⟨(f2 b hb).2.2.2.1,(f2 b hb).2.1,(f2 b hb).2.2.2.2.1,(f2 b hb).2.2.2.2.2⟩;exact fin _ n s4 _ J5 q (by obtain ⟨m,q,_⟩:=I4.loc;exact ⟨m,q⟩) (M.fpOk B I4.free)
  ·refine thn (T.item (X.block (x :: (xr ++ caps)) scope cl G.objs.size i f S) rfl rfl rfl hc k [] s3 _ _ (fun _ _=>False) I3 (O ao) ah go) fun r s4 L=>?_;obtain ⟨u,hr,h4⟩:=L;subst hr;refine thn h4 fun _ s5 L=>?_;obtain ⟨v,H5,I5,r5,y5,ac,aw⟩:=L;have a0:=I5.pinned (O aw) (T.obj _ _ ac);refine thn (hg _ _ _ _ _ s5 _ _ _ u _ a0 r5 (step v H5 y5 ou ar)) fun _ s6 L=>?_;obtain ⟨σ6,H6,I6,ov,aq,q6,stp⟩:=L;subst q6;refine thn (ht _ _ _ _ _ s6 _ _ _ I6 stp) fun ok s7 L=>?_;obtain ⟨H7,I7,q7⟩:=L;have back:∀ {s8:Shared} {H8:Hp} {ab:List V} {D:Nat},Inv (X.block (x :: (xr ++ caps)) scope cl G.objs.size i f S) ([] ++ Jc5 i s5.heap) (ov ++ capv σ js) H8 s8->D < m->W (k + 1) D ab H8->
     ∃ D,D < m/\∃ (k:Nat) (ou:List (Option V)) (U:List V) (n:Hp),ou.length=xr.length + 1/\Inv (X.block (x :: (xr ++ caps)) scope cl G.objs.size i f S) [] (ou ++ capv σ js) n s8/\tn k s8.heap/\(∀ b∈i,n b=none)/\W k D U n:=fun {s8 H8 ab D} I8 hm w8=>by
    refine ⟨D,hm,k + 1,ov,ab,H8,aq,I8.unpinned,T.keep _ _ _ ac fun b hb o e=>(I8.pin (b,o) (mem_append_right _ (mem_append_right _ (J5e hb e)))).1,fun b hb=>?_,w8⟩;obtain ⟨o,e,d⟩:=T.obj _ _ ac b hb;exact (I8.pin (b,o) (mem_append_right _ (mem_append_right _ (J5e hb e)))).2.1
   cases ok with
   | false =>
    have ae:∃ D,D < m/\W (k + 1) D U H7:=by
     have:=q7;rwa [if_neg (by decide)] at this
    obtain ⟨D,hm,w8⟩:=ae;exact back I7 hm w8
   | true =>
    have ae:te (ov ++ capv σ js) H7 fun y H5=>H5 f.heap.objs.size=some (.lst U)/\∃ D,D < m/\W (k + 1) D (U ++ [y]) (upd H5 f.heap.objs.size (.lst (U ++ [y]))):=by
     have:=q7;rwa [if_pos rfl] at this
    refine (show wpAny _ _ _ _ _ _ from thn (he _ _ _ _ _ s7 _ _ _ I7 ae) fun u8 s8 L=>?_);obtain ⟨v8,H8,I8,r8,as,D,hm,w8⟩:=L;refine thn (J31 (X:=X.block (x :: (xr ++ caps)) scope cl G.objs.size i f S) _ s8 _ _ (.ref f.heap.objs.size) [v8] (.ref f.heap.objs.size) [u8]
     (fun _ n=>n=upd H8 f.heap.objs.size (.lst (U ++ [v8]))) I8 rfl (.cons r8 .nil) ⟨f.heap.objs.size,_,v8,rfl,rfl,as,hz,rfl⟩) fun _ s9 L=>?_
    obtain ⟨_,H9,I9,_,q9⟩:=L;subst q9;exact back I9 hm w8
 have ap:tn 0 h₁:=T.keep _ _ _ ad fun b hb o e=>K b o e;exact codeAny_compStart_list (Z _) (T.self X.A 0 _ _ _ ap (Z _))
theorem Jd4(Z:X.calm=true)(U:PI X (.Name x px) iter wi)(Y:∀ (C:Addr) (z:List Addr) (s:Shared) (H:Hp),PE (X.block (x :: caps) scope cl C z s H) elt te)(S:∀ (C:Addr) (z:List Addr) (s:Shared) (H:Hp),PTs (X.block (x :: caps) scope cl C z s H) ifs tc)(g:∀ p∈scope.names,p.2≠.cell)(b:∀ p∈scope.names,p.2=.local->scope.names.lookup p.1=some .local)(E:(x :: caps).Nodup)(q:∀ p∈cl,X.env.cells.lookup p.1=some p.2)(u:∀ p∈scope.names,p.2=.free->∃ c,cl.lookup p.1=some c)(r:caps.length=js.length)(l:∀ (k:Nat) (c:Str),caps[k]?=some c->∃ (j:Nat) (a:Addr),js[k]?=some j/\X.N[j]?=some c/\X.env.scope.names.lookup c=some .cell/\cl.lookup c=some a/\(relabel scope X.env).names.lookup c=some .cell)(f:closureFor scope X.env=pure cl)(e:scope.kind=.function)(R:scope.names.lookup x=some .local)(T:∀ v,foldedSetIterable iter X.env v=pure v)(I:Inv X pins σ H s)(h:tLC wi tc te js σ H Q)(fin:∀ (d:Addr) (F:Hp) (B:Shared) (C:Addr),Inv X pins σ F B->Q (.ref d) F->(∃ m,B.heap.Ns C m)->FpOk X pins F C->compPost (model X.prog X.w) X.A X.xe use QV (.ref d) C (.ok .next) B):
  wpAny (model X.prog X.w) X.A (comprehension (.ListComp elt [⟨.Name x px,iter,ifs,0⟩] scope pos) scope X.env p0 (newList []) false (eval iter X.env) use) QV X.xe s:=by
 have n:(relabel scope X.env).names.lookup x=some .local:=lookup_relabel_local R;refine Jam (xr:=[]) Z U (fun C z s H=>J1y (X:=X.block (x :: caps) scope cl C z s H) (i:=0) (pos:=px) E rfl (.inl n) (.inr n)) Y S g b q u r l f e T I h (fun J H1 hL d hd=>?_) fin;obtain ⟨W,M,K⟩:=hL d hd;refine ⟨W,M,fun i m G L w=>⟨(K i m G L w).1,(K i m G L w).2.imp id fun ⟨go,P,st⟩=>⟨go,P,fun v H3 y O D=>?_⟩⟩⟩
 match O,D with
 | [o],_=>exact ⟨[some v],rfl,rfl,st v H3 y⟩
noncomputable def J7k(X:Cx)(a:Scope)(cl:List (Str × Addr))(caps:List Str)(js:List Nat):Bool:=
 (caps.zip js).all fun q=>X.N[q.2]? == some q.1 && X.env.scope.names.lookup q.1 == some .cell && (cl.lookup q.1).isSome && (relabel a X.env).names.lookup q.1 == some .cell
theorem J7k.get(b:caps.length=js.length)(h:J7k X scope cl caps js=true):∀ (k:Nat) (c:Str),caps[k]?=some c->∃ (j:Nat) (a:Addr),js[k]?=some j/\X.N[j]?=some c/\X.env.scope.names.lookup c=some .cell/\cl.lookup c=some a/\(relabel scope X.env).names.lookup c=some .cell:=fun k c e=>by
 have d:=(List.getElem?_eq_some_iff.mp e).1;have f:=List.getElem?_eq_getElem (b ▸ d);have n:(c,js[k]'(b ▸ d))∈caps.zip js:=by
  refine List.mem_iff_getElem?.mpr ⟨k,?_⟩;rw [List.getElem?_zip_eq_some];exact ⟨e,f⟩
 have:=all_eq_true.mp h _ n;simp only [Bool.and_eq_true,beq_iff_eq] at this;obtain ⟨⟨⟨m,l⟩,i⟩,g⟩:=this;obtain ⟨a,o⟩:=isSome_iff_exists.mp i;exact ⟨_,a,f,m,l,o,g⟩
noncomputable def J50(a:Scope)(cl:List (Str × Addr)):Bool:=a.names.all fun p=>p.2 != .free || (cl.lookup p.1).isSome
theorem J50.get(h:J50 scope cl=true):∀ p∈scope.names,p.2=.free->∃ c,cl.lookup p.1=some c:=fun p a e=>by
 have:=all_eq_true.mp h p a;exact isSome_iff_exists.mp (by simp_all)
theorem Jc6(G:X.calm=true)(E:PI X (.Name x px) iter wi)(i:closureFor scope X.env=pure cl)(B:∀ (C:Addr) (c:List Addr) (s:Shared) (H:Hp),PTs (X.block (x :: caps) scope cl C c s H) ifs tc)(F:∀ (C:Addr) (c:List Addr) (s:Shared) (H:Hp),PE (X.block (x :: caps) scope cl C c s H) elt te)(j:∀ p∈scope.names,p.2≠.cell:=by decide +kernel)(a:∀ p∈scope.names,p.2=.local->scope.names.lookup p.1=some .local:=by decide +kernel)(y:(x :: caps).Nodup:=by decide +kernel)(n:∀ p∈cl,X.env.cells.lookup p.1=some p.2:=by repeat (first | exact List.forall_mem_nil _ | refine List.forall_mem_cons.mpr ⟨rfl,?_⟩))(r:J50 scope cl=true:=by rfl)(f:caps.length=js.length:=by rfl)(l:J7k X scope cl caps js=true:=by rfl)(g:scope.kind=.function:=by rfl)(A:scope.names.lookup x=some .local:=by rfl)(D:∀ v,foldedSetIterable iter X.env v=pure v:=by intro _;rfl):
  PE X (.ListComp elt [⟨.Name x px,iter,ifs,0⟩] scope pos) (tLC wi tc te js):=by
 intro pins s σ H Q I h;refine Jd4 (use:=none) G E F B j a y n (J50.get r) f (J7k.get f l) i g A D I h fun d L z C K q J c=>?_;obtain ⟨m,u⟩:=J;exact ⟨m,u,fun h' w=>⟨.ref d,L,K.turned (h':=h') (t':=z.toks) (it:=C) (fun b o hb e=>(w.2 b hb).trans e) c.1 c.2.1 c.2.2.2.1 c.2.2.2.2.1 c.2.2.2.2.2,rfl,q⟩⟩
noncomputable def tSetLC(t:TE)(i:Nat):TS:=fun D σ H=>t σ H fun v a=>D.nx (σ.set i (some v)) a
theorem Jnf(W:X.N.Nodup)(hi:X.N[i]?=some y)(K:Loc X.env.scope y)(T:X.calm=true)(Q:PI X (.Name x px) iter wi)(m:closureFor scope X.env=pure cl)(M:∀ (C:Addr) (c:List Addr) (s:Shared) (H:Hp),PTs (X.block (x :: caps) scope cl C c s H) ifs tc)(S:∀ (C:Addr) (c:List Addr) (s:Shared) (H:Hp),PE (X.block (x :: caps) scope cl C c s H) elt te)(n:∀ p∈scope.names,p.2≠.cell:=by decide +kernel)(f:∀ p∈scope.names,p.2=.local->scope.names.lookup p.1=some .local:=by decide +kernel)(F:(x :: caps).Nodup:=by decide +kernel)(u:∀ p∈cl,X.env.cells.lookup p.1=some p.2:=by repeat (first | exact List.forall_mem_nil _ | refine List.forall_mem_cons.mpr ⟨rfl,?_⟩))(w:J50 scope cl=true:=by rfl)(g:caps.length=js.length:=by rfl)(r:J7k X scope cl caps js=true:=by rfl)(R:X.fn y=true\/X.env.scope.names.lookup y=some .local:=by first | exact .inl rfl | exact .inr rfl | assumption)(B:swapsWith (.ListComp elt [⟨.Name x px,iter,ifs,0⟩] scope pos) (some (.Name y py)) spos.line X.env=pure true:=by rfl)(l:scope.kind=.function:=by rfl)(L:scope.names.lookup x=some .local:=by rfl)(O:∀ v,foldedSetIterable iter X.env v=pure v:=by intro _;rfl):
  PS X (.Assign [.Name y py] (.ListComp elt [⟨.Name x px,iter,ifs,0⟩] scope pos) spos) (tSetLC (tLC wi tc te js) i):=by
 intro pins s σ H D I h;rw [exec_Assign_Name_used _ _ _ _ B];refine wpAny_bind (wpAny_standAt (wpAny_bind ?_));show wpAny _ X.A (do let _ <- comprehension (.ListComp elt [⟨.Name x px,iter,ifs,0⟩] scope pos) scope X.env _ (newList []) false (eval iter X.env) (some (assign (.Name y py) X.env))) _ _ s;refine wpAny_bind (wpAny_mono (Jd4 (use:=some (assign (.Name y py) X.env)) (QV:=fun _ s'=>SP X pins D .next s') T Q S M n f F u (J50.get w) g (J7k.get g r) m l L O I h fun d H' s5 C J5 q Y c=>?_)
  (fun _ s' P=>wpAny_pure (wpAny_pure P)) fun _ _ e=>e)
 obtain ⟨J,z⟩:=Y;refine wpAny_assign_Name ?_;refine Jbt J5 W hi K (v:=.ref d) rfl (fun G I6 j=>?_) R;obtain ⟨a,sa,U⟩:=j;have Z:a≠C:=by
  rcases U with e | e
  ·rw [e];exact Ne.symm c.2.1
  ·exact c.2.2.2.2.1 y a e
 exact ⟨J,z.sameBut sa (Ne.symm Z),fun h' E=>⟨_,H',I6.turned (h':=h') (t':=G.toks) (it:=C) (fun b o hb e=>(E.2 b hb).trans e) c.1 c.2.1 c.2.2.2.1 c.2.2.2.2.1 c.2.2.2.2.2,q⟩⟩
end
theorem Jbd{J:It}{E:TT}{D:TE}{Q:VK}(n:Nat)(g:Nat->Bool)(f:Nat->V)(hd:H1 d=none)(P:n<=1000)(B:∀ i H,i < n->Same H1 H->J.go i H)(A:∀ H,Same H1 H->J.stop n H)(z:Nat->V)(L:∀ i H v c,i < n->Same H1 H->J.yld i H v c->c=H/\v=z i)(M:∀ i H G,i < n->Same H1 H->(∀ c,Same H c->G (g i) c)->E (some (z i) :: capv σ js) H G)(O:∀ i H I,i < n->g i=true->Same H1 H->(∀ c,Same H c->I (f i) c)->D (some (z i) :: capv σ js) H I)(N:∀ c,Same H1 c->c d=some (.lst (((List.range n).filter g).map f))->Q (.ref d) c):
  ∃ W:Nat->Nat->List V->Hp->Prop,(∃ m,W 0 m [] (upd H1 d (.lst [])))/\
   ∀ i m h j,W i m h j->j d=some (.lst h)/\((J.stop i j/\Q (.ref d) j)\/(J.go i j/\h.length < sizeLine/\∀ v r,J.yld i j v r->
    E (some v :: capv σ js) r fun b w=>if b=true then D (some v :: capv σ js) w fun y C=>C d=some (.lst h)/\∃ q,q < m/\W (i + 1) q (h ++ [y]) (upd C d (.lst (h ++ [y])))
     else ∃ q,q < m/\W (i + 1) q h w)):=by
 have s0:∀ o,Same H1 (upd H1 d o):=fun o b u e=>by rw [Jm (Jd e hd)];exact e
 refine ⟨fun i m h H=>m=n - i/\i<=n/\h=((List.range i).filter g).map f/\Same H1 H/\H d=some (.lst h),⟨n,rfl,Nat.zero_le _,rfl,s0 _,J6⟩,?_⟩;rintro i m h j ⟨rfl,hi,rfl,l,s⟩;refine ⟨s,?_⟩;by_cases a:i < n
 ·refine .inr ⟨B i j a l,?_,fun v r K=>?_⟩
  ·have R:(((List.range i).filter g).map f).length<=i:=by
    rw [length_map];exact Nat.le_trans (length_filter_le _ _) (by rw [length_range];exact Nat.le_refl _)
   exact J14 (by omega)
  ·obtain ⟨rfl,rfl⟩:=L i j v r a l K;refine M i r _ a l fun w p=>?_
   cases hg:g i with
   | false =>
    refine ⟨n - (i + 1),by omega,rfl,a,?_,l.trans p,p _ _ s⟩;rw [range_succ,filter_append,map_append];simp [hg]
   | true =>
    refine O i w _ a hg (l.trans p) fun C F=>⟨F _ _ (p _ _ s),n - (i + 1),by omega,rfl,a,?_,?_,J6⟩
    ·rw [range_succ,filter_append,map_append];simp [hg]
    ·intro b u e;rw [Jm (Jd e hd)];exact F _ _ (p _ _ (l _ _ e))
 ·have e:i=n:=by omega
  subst e;exact .inl ⟨A j l,N j l s⟩
theorem Same.tup{K:Frag}(e:Same H H')(h:SqT K H a xs):SqT K H' a xs:=by
 rcases h with (h | ⟨o,h⟩) | h
 ·exact .inl (.inl (e _ _ h))
 ·exact .inl (.inr ⟨o,e _ _ h⟩)
 ·exact .inr h
theorem Jfi{α:Type}(G:α->Bool)(F:α->V):∀ xs:List α,
  ((List.range xs.length).filter fun i=>match xs[i]? with | some v=>G v | none=>false).map (fun i=>match xs[i]? with | some v=>F v | none=>V.non)=(xs.filter G).map F
 | []=>rfl
 | a :: r=>by
  have b:=Jfi G F r;rw [length_cons,List.range_succ_eq_map,filter_cons,List.filter_map,filter_cons];have e:(fun i=>match (a :: r)[i]? with | some v=>G v | none=>false) ∘ Nat.succ=fun i=>match r[i]? with | some v=>G v | none=>false:=by
   funext i;simp
  have c:(fun i=>match (a :: r)[i]? with | some v=>F v | none=>V.non) ∘ Nat.succ=fun i=>match r[i]? with | some v=>F v | none=>V.non:=by
   rfl
  cases hg:G a with
  | true =>
   simp_all
  | false =>
   simp_all
section
variable{α:Type}{K:Frag}{a:Addr}{H1:Hp}{tc:TT}{te:TE}{σ:St}{js:List Nat}{Q:VK}{d:Addr}
theorem Jq1(e:α->V)(xs:List α)(G:α->Bool)(F:α->V)(m:xs.length<=1000)(hd:H1 d=none)(c:∀ i H,i < xs.length->Same H1 H->J.go i H)(b:∀ H,Same H1 H->J.stop xs.length H)(j:∀ i H v a,i < xs.length->Same H1 H->J.yld i H v a->a=H/\(xs.map e)[i]?=some v)(p:∀ v∈xs,∀ H f,Same H1 H->(∀ a,Same H a->f (G v) a)->tc (some (e v) :: capv σ js) H f)(r:∀ v∈xs,∀ H g,G v=true->Same H1 H->(∀ a,Same H a->g (F v) a)->te (some (e v) :: capv σ js) H g)(l:∀ a,Same H1 a->a d=some (.lst ((xs.filter G).map F))->Q (.ref d) a):LCW J tc te σ js Q H1 d:=by
 refine Jbd xs.length (fun i=>match xs[i]? with | some v=>G v | none=>false) (fun i=>match xs[i]? with | some v=>F v | none=>V.non) hd m c b (fun i=>((xs.map e)[i]?).getD .non)
  (fun i H v a hi s y=>?_) (fun i H f hi s k=>?_) (fun i H g hi q s k=>?_) (fun a s h=>?_)
 ·obtain ⟨o,n⟩:=j i H v a hi s y;exact ⟨o,by rw [n];rfl⟩
 ·simp_all
 ·simp_all
 ·rw [Jfi] at h;exact l a s h
theorem Jq0(e:α->V)(xs:List α)(G:α->Bool)(F:α->V)(c:SqT K H1 a (xs.map e))(l:xs.length<=1000)(hd:H1 d=none)(h:∀ v∈xs,∀ H f,Same H1 H->(∀ b,Same H b->f (G v) b)->tc (some (e v) :: capv σ js) H f)(m:∀ v∈xs,∀ H g,G v=true->Same H1 H->(∀ b,Same H b->g (F v) b)->te (some (e v) :: capv σ js) H g)(j:∀ b,Same H1 b->b d=some (.lst ((xs.filter G).map F))->Q (.ref d) b):LCW (Itt K a) tc te σ js Q H1 d:=
 Jq1 e xs G F l hd (fun i H hi s=>⟨_,_,s.tup c,by rw [getElem?_map,List.getElem?_eq_getElem hi];rfl⟩) (fun H s=>⟨_,s.tup c,by simp_all⟩)
  (fun i H v b hi s y=>⟨y.1,y.2 _ (s.tup c)⟩) h m j
theorem lc_lst(e:α->V)(xs:List α)(G:α->Bool)(F:α->V)(c:SqL K H1 a (xs.map e))(l:xs.length<=1000)(hd:H1 d=none)(h:∀ v∈xs,∀ H f,Same H1 H->(∀ b,Same H b->f (G v) b)->tc (some (e v) :: capv σ js) H f)(m:∀ v∈xs,∀ H g,G v=true->Same H1 H->(∀ b,Same H b->g (F v) b)->te (some (e v) :: capv σ js) H g)(j:∀ b,Same H1 b->b d=some (.lst ((xs.filter G).map F))->Q (.ref d) b):LCW (Itl K a) tc te σ js Q H1 d:=
 Jq1 e xs G F l hd (fun i H hi s=>⟨_,_,s.seq c,by rw [getElem?_map,List.getElem?_eq_getElem hi];rfl⟩) (fun H s=>⟨_,s.seq c,by simp_all⟩)
  (fun i H v b hi s y=>⟨y.1,y.2 _ (s.seq c)⟩) h m j
theorem Jq2(lo:Int)(n:Nat)(G:Nat->Bool)(F:Nat->V)(g:n<=1000)(hd:H1 d=none)(e:∀ i,i < n->∀ H b,Same H1 H->(∀ a,Same H a->b (G i) a)->tc (some (.int (lo + i)) :: capv σ js) H b)(j:∀ i,i < n->∀ H c,G i=true->Same H1 H->(∀ a,Same H a->c (F i) a)->te (some (.int (lo + i)) :: capv σ js) H c)(f:∀ a,Same H1 a->a d=some (.lst (((List.range n).filter G).map F))->Q (.ref d) a):LCW (Itr lo n) tc te σ js Q H1 d:=
 Jbd n G F hd g (fun i H hi _=>hi) (fun H _=>Nat.le_refl _) (fun i=>.int (lo + i)) (fun i H v a hi _ y=>y) (fun i H b hi s k=>e i hi H b s k) (fun i H c hi h s k=>j i hi H c h s k) f
end
theorem J3v{α:Type}(xs:List α):xs.filter (fun _=>true)=xs:=List.filter_eq_self.mpr fun _ _=>rfl
theorem J8k(d:IxR X r)(e:PE X a ta)(hb:PE X b tb)(c:Jm2 b:=by intro _ _;rfl):PE X (.Subscript a b pos) (tOp r ta tb):=Jp d e hb c
section
variable{X:Cx}
inductive rEqTR(K:Frag)(x y:V)(H:Hp)(Q:VK):Prop
 | mk(p q xs a:_)(_:x=.ref p)(_:y=.ref q)(_:SqT K H p xs)(_:SqT K H q a)(_:Kin xs a)(_:Q (.bl (decide (xs=a))) H)
noncomputable def rEqT(K:Frag):R2:=fun x y H Q=>rEqTR K x y H Q
theorem Jqh{xs c:List V}{b a:List Value}(l1:xs.length=b.length)(f:c.length=a.length)(g:Kin xs c):
  ((List.range (min b.toArray.size a.toArray.size)).all (eAt xs c) && b.toArray.size == a.toArray.size)=decide (xs=c):=by
 rw [size_toArray,size_toArray,<- l1,<- f];by_cases d:xs.length=c.length
 ·rw [d,Nat.min_self,<- d,Jly d g];simp
 ·rw [decide_eq_false (fun e=>d (congrArg List.length e)),show (xs.length == c.length)=false from by simpa using d,Bool.and_false]
theorem Jpu(i:X.A.units < cLine):OpR X (compareOp .Eq) (rEqT X.K):=by
 intro pins s σ H x y v u Q I g f h;obtain ⟨p,q,xs,z,rfl,rfl,m,l,e,n⟩:=h;cases g;cases f;obtain ⟨c,r,pl,_⟩:=I.tuple m;obtain ⟨a,d,b,_⟩:=I.tuple l;refine SeqAt.eq_tupleAt (show s.heap.IsTuple p c.toArray from pl) (show s.heap.IsTuple q a.toArray from b) i (fun j w o=>Jq8 r d e j w o) ?_;rw [Jqh r.length d.length e];exact ⟨.bl _,H,I,rfl,n⟩
noncomputable def CBig(i j:Int):Prop:=i.natAbs < 2 ^ 4000/\j.natAbs < 2 ^ 4000
theorem Jgf(h:k.natAbs < 2 ^ 4000):Builtin.Int.intBits k<=2 ^ 20:=by
 unfold Builtin.Int.intBits;split
 ·exact Nat.zero_le _
 ·have:k.natAbs.log2 < 4000:=by
   rcases Nat.eq_zero_or_pos k.natAbs with h0 | hp
   ·rw [h0];decide
   ·exact (Nat.log2_lt (Nat.ne_of_gt hp)).mpr h
  grind
theorem J3c:OpR X (binaryOp .Mult) (rI CBig fun i j=>.int (i * j)):=opI fun _ _ _ _ _ _ _ a q=>mul_int q (.of_bits (Jgf a.1) (Jgf a.2))
noncomputable def Jsq(i j:Int):Prop:=0 < j/\j.natAbs < 2 ^ 4000
theorem J39:OpR X (binaryOp .FloorDiv) (rI Jsq fun i j=>.int (i / j)):=opI fun i j _ _ _ _ _ a q=>by
 have d:=a.1;have b:=a.2;refine floordiv_int (by lia) (by rw [Int.fdiv_eq_ediv_of_nonneg i (by lia)];exact q) (.inl (PyProof.noPylong_of_log2 ?_));have c:j.natAbs≠0:=by lia
 have:=(Nat.log2_lt c).mpr b;lia
inductive Jn9(K:Frag)(x:V)(vs:List V)(H:Hp)(Q:VK):Prop
 | mk(l:Addr)(ns:List Int)(k:Int)(_:x=.ref l)(_:vs=[.int k])(_:SqL K H l (ns.map V.int))(_:k∈ns)(_:Q (.int (ns.idxOf k:Nat)) H)
noncomputable def Jrd(K:Frag):V->List V->Hp->VK->Prop:=fun x vs H Q=>Jn9 K x vs H Q
theorem J8s:MtM X "list.index" (Jrd X.K):=by
 intro pins s σ H x vs v us Q I m o h;obtain ⟨l,ns,k,rfl,rfl,z,w,q⟩:=h;cases m;obtain ⟨C,rfl,⟨t,rfl⟩⟩:=o.one;obtain ⟨a,p,pl,r⟩:=I.list z;have hi:=J23 p;have b:=hi.length;obtain ⟨⟨cls,B,data,i⟩,f,g,n,hd⟩:=id pl.isList;simp only at g hd;subst g hd;have e:=idxOf_lt_length_iff.mpr w;have A:=J8u;rw [length_map] at r;refine call_meets PySem.F.slot_list_index ⟨_,f,rfl⟩ PySem.F.entry_list_index (PySem.F.args_list_index_2 _ _)
  (SeqAt.list_indexAt l a.toArray n B i (.int k t) (isInt k) (ns.idxOf k) (by simpa [b] using e) (by lia) ?_ ?_) ⟨f,fun y u=>(eq_isInt k t hi y (by simpa using u)).at _ _,⟨.int _,H,I.tok _,⟨_,rfl⟩,q⟩⟩
 ·show isInt k a[ns.idxOf k]=true;rw [isInt_at k hi _ (by lia) e];simpa using getElem_idxOf e
 ·intro j d c;show isInt k a[j]=false;rw [isInt_at k hi j (by simpa using d) (by lia)];exact ne_of_lt_idxOf c _
end
noncomputable def HasM(P:Program)(w:World)(K:Frag)(mg:Str->Option Value)(base:Heap)(CX:CXT)(k:Nat)(m:Str)(ps:List Str)(sp:Sp)(C:Addr):Prop:=
 ∃ f fd,Cls K C/\Meth K C m f/\FnOk P w K mg base CX k f fd ps sp/\J2t K fd ps []
inductive Jqk(m:Str)(cls:ι->Addr)(sp:ι->Sp)(E:XK)(t:TA)(σ:St)(Q:VK)(x:V)(b:Hp):Prop
 | mk(a k c fs:_)(_:x=.ref a)(_:b a=some (.ins (cls k) c fs))(_:fs.lookup m=none)(_:t σ b fun vs d=>sp k (x :: vs) d Q E)
noncomputable def Jp8{ι:Type}(m:Str)(cls:ι->Addr)(sp:ι->Sp)(E:XK)(a:TE)(t:TA):TE:=fun σ H Q=>a σ H fun x b=>Jqk m cls sp E t σ Q x b
section
variable{X:Cx}{CX:CXT}{k:Nat}{f:Addr}{fd:FuncData}{ps:List Str}{ι:Type}{cls:ι->Addr}{sp:ι->Sp}{spB:Sp}{dvs:List V}{ds:List Value}{E:XK}{x m b:Str}{p pos apos:Pos}{e o:Expr}{es:List Expr}{ta:TE}{t:TA}{B:Addr}{mc:Value}
theorem J6f(D:PE X o ta)(J:∀ i,HasM X.prog X.w X.K X.mg X.base CX k m ps (sp i) (cls i))(C:Room k X.A)(z:J57 CX X E)(G:PA X (e :: es) t)(b:starEach (e :: es) X.env=(false,eval e X.env) :: starEach es X.env:=by rfl)(d:(backTo pos (starEach es X.env)).any (·.1)=false:=by rfl)(B:eval (.Call (.Attribute o m apos) (e :: es) [] pos) X.env=(do
   let ov <- eval o X.env
   standAt apos.atName
   let (f,first) <- holding [ov] (getMethod ov m pl)
   callWith pos f first (backTo pos (starEach (e :: es) X.env)) (backToKw pos (keywordEach [] X.env))):=by rfl):
  PE X (.Call (.Attribute o m apos) (e :: es) [] pos) (Jp8 m cls sp E ta t):=by
 intro pins s σ H Q I h;refine methodCall_KW (pl:=pl) (thn (D pins s σ H _ I h) fun u v g=>?_) B;obtain ⟨x,M,p,y,a,i,P,fs,ex,L,l,q⟩:=g;subst ex;obtain rfl:u=Value.ref a:=y;obtain ⟨f,fd,c,j,F,hb⟩:=J i;refine Jae p L c j l ?_;refine callWith_K (first:=[.ref a]) (h₀:=X.base) I.ok.mod.kin j.kp (thn (G pos pins v σ M _ p q) fun us N g=>?_) b d;obtain ⟨vs,R,n,r,O⟩:=g;refine ⟨n.kIn,?_⟩;exact Jff (us:=.ref a :: us) (vs:=.ref a :: vs) (dvs:=[]) F C hb .nil z n (.cons rfl r) (by simp_all)
theorem J3t(p:PE X o ta)(r:∀ i,HasM X.prog X.w X.K X.mg X.base CX k m ps (sp i) (cls i))(n:Room k X.A)(g:J57 CX X E)(j:eval (.Call (.Attribute o m apos) [] [] pos) X.env=(do
   let ov <- eval o X.env
   standAt apos.atName
   let (f,first) <- holding [ov] (getMethod ov m pl)
   callWith pos f first (backTo pos (starEach [] X.env)) (backToKw pos (keywordEach [] X.env))):=by rfl):
  PE X (.Call (.Attribute o m apos) [] [] pos) (Jp8 m cls sp E ta tNil):=by
 intro pins s σ H Q I h;refine methodCall_KW (pl:=pl) (thn (p pins s σ H _ I h) fun u z v=>?_) j;obtain ⟨x,C,b,e,a,i,B,fs,ex,y,l,q⟩:=v;subst ex;obtain rfl:u=Value.ref a:=e;obtain ⟨f,fd,c,d,F,hb⟩:=r i;refine Jae b y c d l ?_;exact PySem.W.callWith_K0 (first:=[.ref a]) b.kIn d.kp (Jff (us:=[.ref a]) (vs:=[.ref a]) (dvs:=[]) F n hb .nil g b (.cons rfl .nil) q)
structure Jsr(K:Frag)(B:Addr)(m:Str)(f:Addr):Prop where
 sp:PySem.W.specialIn K (.ref B) "__getattribute__"=some (some (.builtin "type.__getattribute__"))
 rd:readsIn K B (.type "type")=true
 fd:findCls K (.ref B) (.type "type") m=some (.val (.ref f))
 kp:keepIn K (.ref f)=true
theorem Jri(M:Jsr X.K B m f)(g:Gl X b)(d:X.mg b=some (.ref B))(F:FnOk X.prog X.w X.K X.mg X.base CX k f fd ps spB)(q:Room k X.A)(hb:J2t X.K fd ps ds)(hd:Vals dvs ds)(n:J57 CX X E)(u:PA X (e :: es) t)(i:(b == ("__debug__":Str))=false:=by decide)(a:starEach (e :: es) X.env=(false,eval e X.env) :: starEach es X.env:=by rfl)(c:(backTo pos (starEach es X.env)).any (·.1)=false:=by rfl)(o:eval (.Call (.Attribute (.Name b p) m apos) (e :: es) [] pos) X.env=(do
   let ov <- eval (.Name b p) X.env
   standAt apos.atName
   let (f,first) <- holding [ov] (getMethod ov m pl)
   callWith pos f first (backTo pos (starEach (e :: es) X.env)) (backToKw pos (keywordEach [] X.env))):=by rfl):
  PE X (.Call (.Attribute (.Name b p) m apos) (e :: es) [] pos) (Jm4 spB dvs E t):=by
 intro pins s σ H Q I h;refine methodCall_KW (pl:=pl) (Jbc I g d ?_ i) o;refine PySem.W.method_cls I.kIn M.sp (PySem.W.cls_value I.kIn M.rd M.fd rfl ?_);have y:=I.tok (s.toks + 1);refine callWith_K (first:=[]) (h₀:=X.base) I.ok.mod.kin M.kp (thn (u pos pins _ σ H _ y h) fun us z v=>?_) a c;obtain ⟨vs,C,j,r,l⟩:=v;refine ⟨j.kIn,?_⟩;exact Jff (us:=us) (vs:=vs) F q hb hd n j r l
end
noncomputable def Its(lo c:Int)(n:Nat):It:=⟨fun i _=>i < n,fun i H x a=>a=H/\x=.int (lo + (i:Nat) * c),fun i _=>n<=i⟩
theorem J9z{K:Frag}(a:Addr)(lo c:Int)(n:Nat):Turn P w K tg (Its lo c n) [a] a (fun i h=>IsRangeIter h a (lo + (i:Nat) * c) ((n:Int) - (i:Nat)) c) where
 mem:=by simp
 obj:=fun i h st b hb=>by
  simp_all
 keep:=fun i h h' st k=>k a (by simp) _ st
 item:=by
  intro X y hw z j i pins s σ H E I g st f;subst y hw z;obtain ⟨r,q,C,p,m,l⟩:=g a (by simp);refine (Walks.range (prog:=X.prog) (w:=X.w) (I.ok.hd j) a lo c n).item i s _ _ f st fun v h' u B d A=>?_;obtain ⟨t,rfl⟩:=B;have J:Inv X pins σ H { s with heap:=h',toks:=u }:=I.turned (fun b o hb e=>A b o (by simpa using hb) e) r q p m l;exact ⟨_,rfl,go_of (s:={ s with heap:=h',toks:=u }) (n:="range_iterator") d rfl rfl (by decide) ⟨.int (lo + (i:Nat) * c),H,J,⟨t,rfl⟩,⟨rfl,rfl⟩,d,fun b hb=>(g b hb).1⟩⟩
 done:=by
  intro X y hw z j i pins s σ H E I g st f;obtain ⟨r,q,C,p,m,l⟩:=g a (by simp);have f:n<=i:=f;exact wpAny_pyNext_range_end (I.ok.hd j) st (by lia) fun h' D=>⟨rfl,I.turned (t':=s.toks) (fun b o hb e=>D b o hb e) r q p m l⟩
 self:=fun _ _ _ _ _ st h=>wpAny_pyIter_rangeiter st h
theorem J5c(d:0 < c)(a b:Int):Builtin.Range.rangeSize a b c=if a < b then (b - a - 1) / c + 1 else 0:=by
 unfold Builtin.Range.rangeSize;rw [if_pos (show c > 0 from d)]
theorem Jdi(h:0<=a)(g:a<=1000)(hb:-1<=b)(f:b<=1000)(d:0 < c)(e:c<=1000):Builtin.Range.small a b c=true:=by
 unfold Builtin.Range.small;rw [J5c d];have j:0<=(if a < b then (b - a - 1) / c + 1 else 0)/\(if a < b then (b - a - 1) / c + 1 else 0)<=1001:=by
  split
  ·have l:0<=(b - a - 1) / c:=Int.ediv_nonneg (by lia) (by lia);have i:(b - a - 1) / c<=b - a - 1:=Int.ediv_le_self _ (by lia);lia
  ·lia
 generalize (if a < b then (b - a - 1) / c + 1 else 0)=n at *;simp only [Builtin.Range.rangeFitsLong,Bool.and_eq_true,Bool.or_eq_true,decide_eq_true_eq,show c > 0 from d,if_true];refine ⟨?_,?_⟩ <;> lia
inductive Js9(R:It->Hp->Prop)(vs:List V)(d:Hp):Prop
 | mk(a b c:Int)(_:vs=[.int a,.int b,.int c])(_:(0<=a/\a<=1000/\-1<=b/\b<=1000/\0 < c/\c<=1000))(_:R (Its a c (Builtin.Range.rangeSize a b c).toNat) d)
noncomputable def iSteps(a:TA):TI:=fun σ H R=>a σ H fun vs b=>Js9 R vs b
section
variable{X:Cx}{tg:Expr}
theorem Jnh(D:Gl X "range")(C:X.mg "range"=none)(E:PA X [a,b,c] ta)(B:starEach [a,b,c] X.env=[(false,eval a X.env),(false,eval b X.env),(false,eval c X.env)]:=by rfl)(g:starEach [b,c] X.env=[(false,eval b X.env),(false,eval c X.env)]:=by rfl):
  PI X tg (.Call (.Name "range" p) [a,b,c] [] pos) (iSteps ta):=by
 intro pins s σ H R I h;refine Call_ (J7g I D C boot_range (callWith_type1 (thn (E pos pins s σ H _ I h) fun us f F=>?_) (by rw [B,g]) (by rw [g];rfl)));obtain ⟨vs,u,K,v,l⟩:=F;obtain ⟨i,j,c,e,⟨l,A,z,y,n,w⟩,q⟩:=l;subst e
 cases v with
 | cons r rr =>
  cases rr with
  | cons r' rr =>
   cases rr with
   | cons r'' rr =>
    cases rr;obtain ⟨t,rfl⟩:=r;obtain ⟨t',rfl⟩:=r';obtain ⟨d,rfl⟩:=r'';refine call_range_3 (by lia) ?_ (Or.inl (PyProof.noPylong_small (by lia)));have m:Inv X pins σ u { f with heap:=f.heap.push { cls:=.type "range",data:=.fields #[.int i t,.int j t',.int c d] },toks:=f.toks }:=K.kept fun b o e=>get?_push_of_some _ e;refine wpAny_pyIter_range (IsRange.new ..) (Jdi l A z y n w) ?_;refine ⟨(f.heap.push { cls:=.type "range",data:=.fields #[.int i t,.int j t',.int c d] }).objs.size,[(f.heap.push { cls:=.type "range",data:=.fields #[.int i t,.int j t',.int c d] }).objs.size],_,_,u,rfl,
     m.kept (t':=f.toks) fun b o e=>get?_push_of_some _ e,J9z _ i c (Builtin.Range.rangeSize i j c).toNat,?_,fun b hb=>?_,q⟩
    ·have J:i + ((0:Nat):Int) * c=i:=by simp
     have G:(((Builtin.Range.rangeSize i j c).toNat:Nat):Int) - ((0:Nat):Int)=Builtin.Range.rangeSize i j c:=by
      have:0<=Builtin.Range.rangeSize i j c:=by
       rw [J5c n];split
       ·have:=Int.ediv_nonneg (show 0<=j - i - 1 by lia) (show 0<=c by lia);lia
       ·lia
      lia
     show IsRangeIter _ _ (i + ((0:Nat):Int) * c) ((((Builtin.Range.rangeSize i j c).toNat:Nat):Int) - ((0:Nat):Int)) c;rw [J,G];exact get?_push_size _ rfl
    ·obtain rfl:b=(f.heap.push { cls:=.type "range",data:=.fields #[.int i t,.int j t',.int c d] }).objs.size:=by simpa using hb
     exact m.fpOk (Nat.le_refl _) (m.hok.fresh (Nat.le_refl _))
end
theorem lc_stp(lo c:Int)(n:Nat)(F:Nat->V)(j:n<=1000)(hd:H1 d=none)(f:∀ i,i < n->∀ H b,Same H1 H->(∀ a,Same H a->b true a)->tc (some (.int (lo + (i:Nat) * c)) :: capv σ js) H b)(l:∀ i,i < n->∀ H e,Same H1 H->(∀ a,Same H a->e (F i) a)->te (some (.int (lo + (i:Nat) * c)) :: capv σ js) H e)(g:∀ a,Same H1 a->a d=some (.lst ((List.range n).map F))->Q (.ref d) a):LCW (Its lo c n) tc te σ js Q H1 d:=
 Jbd n (fun _=>true) F hd j (fun i H hi _=>hi) (fun H _=>Nat.le_refl _) (fun i=>.int (lo + (i:Nat) * c)) (fun i H v a hi _ y=>y) (fun i H b hi s k=>f i hi H b s k) (fun i H e hi _ s k=>l i hi H e s k)
  (fun a s h=>g a s (by rw [J3v] at h;exact h))
theorem Jm6(d:0 < c)(h:i < (Builtin.Range.rangeSize a b c).toNat):a + (i:Int) * c < b:=by
 rw [J5c d] at h;split at h
 ·have e:(i:Int)<=(b - a - 1) / c:=by lia
  have f:=Int.mul_le_of_le_ediv d e;lia
 ·simp at h
theorem Jhz{b c:Int}(d:0 < c):(Builtin.Range.rangeSize a b c).toNat<=(b - a).toNat:=by
 rw [J5c d];split
 ·have e:(b - a - 1) / c<=b - a - 1:=Int.ediv_le_self _ (by lia);lia
 ·simp
theorem J8c(k:Nat)(f:Nat->β->Sem (ForInStep β))(I:Nat->β->Shared->Prop)(Q:β->Shared->Prop)(turn:∀ i b s,i < k->I i b s->wpAny M A (f i b) (fun r s'=>match r with | .yield b'=>I (i + 1) b' s' | .done b'=>Q b' s') E s)(fin:∀ b s,I k b s->Q b s)(b:β)(h:I 0 b s):wpAny M A (forIn ([0:k]:Std.Legacy.Range) b f) Q E s:=by
 rw [Std.Legacy.Range.forIn_eq_forIn_range'];simp only [ Nat.div_one];refine wpAny_forIn_list _ (fun rest b s'=>∃ i,rest=List.range' i (k - i)/\i<=k/\I i b s') _ ?_ ?_ _ _ ⟨0,by simp,Nat.zero_le _,h⟩
 ·rintro x rest b s' ⟨i,g,hi,j⟩;have d:i < k:=by
   rcases Nat.lt_or_ge i k with q | q
   ·exact q
   ·rw [Nat.sub_eq_zero_of_le q] at g;simp at g
  obtain ⟨rfl,a⟩:x=i/\rest=List.range' (i + 1) (k - (i + 1)):=by
   have e:k - i=(k - (i + 1)) + 1:=by omega
   rw [e,List.range'_succ] at g;injection g with h1 h2
   exact ⟨h1,h2⟩
  refine wpAny_mono (turn x b s' d j) (fun r l c=>?_) fun _ _ z=>z
  cases r with
  | done b'=>exact c
  | yield b'=>exact ⟨x + 1,a,d,c⟩
 ·grind
theorem Jap(l:Addr)(a:Array Value)(n:Nat)(B:Option Addr)(r:Array (Option Value))(x:Value)(e:Value->Bool)(j:Nat)(C:j < a.size)(hit:e a[j]=true)(o:∀ m (hm:m < a.size),m < j->e a[m]=false):
  Meets (Builtin.«tuple.index» ⟨[.ref l,x],[]⟩)
   (fun A R s=>s.heap.get? l=some { cls:=.type "tuple",dict:=B,data:=.seq a n,slots:=r }/\(∀ y,y∈a->SeqAt.EqAt A.in1 s y x (e y))/\R (.ok (.ret (.int j s.toks))) { s with toks:=s.toks + 1 }) :=
 .of_wp fun prog w A R s h=>by
  obtain ⟨u,g,d,p,os⟩:=s;obtain ⟨v,z,h⟩:=h
  wp_walk using AutoSeq1.wpAny_loadPart' v,J8c _ _ (fun i b s'=>b=(none,())/\s'=⟨u,g,d,p,os⟩/\i<=j) _
  case turn =>
   rintro i b s' hi ⟨rfl,rfl,f⟩;have c:i < a.size:=by simpa using hi
   dsimp only;rw [Array.getElem?_eq_getElem c];refine wpAny_bind (z _ (Array.getElem_mem c) prog w _ _ ?_);rcases Nat.lt_or_ge i j with q | q
   ·rw [o i c q]
    wp_walk
    exact ⟨rfl,rfl,q⟩
   ·have:i=j:=by omega
    subst this;rw [hit]
    wp_walk
    exact ⟨_,rfl,h⟩
  case fin =>
   rintro b s' ⟨rfl,rfl,f⟩;exfalso;simp at f;omega
  case h=>exact ⟨rfl,rfl,Nat.zero_le _⟩
inductive Jn8(x:V)(vs:List V)(H:Hp)(Q:VK):Prop
 | mk(l:Addr)(ns:List Int)(k:Int)(_:x=.ref l)(_:vs=[.int k])(_:H l=some (.tup (ns.map V.int)))(_:k∈ns)(_:Q (.int (ns.idxOf k:Nat)) H)
noncomputable def Jrc:V->List V->Hp->VK->Prop:=fun x vs H Q=>Jn8 x vs H Q
theorem Jk8 :MtM X "tuple.index" Jrc:=by
 intro pins s σ H x vs v us Q I i m h;obtain ⟨l,ns,k,rfl,rfl,w,r,q⟩:=h;cases i;obtain ⟨A,rfl,⟨t,rfl⟩⟩:=m.one;obtain ⟨a,o,pl,B⟩:=I.tuple (SqT.of w);have hi:=J23 o;have b:=hi.length;obtain ⟨⟨cls,z,data,g⟩,f,u,n,hd⟩:=id pl;subst u hd;have e:=idxOf_lt_length_iff.mpr r;refine call_meets PySem.F.slot_tuple_index ⟨_,f,rfl⟩ PySem.F.entry_tuple_index (PySem.F.args_tuple_index_2 _ _)
  (Jap l a.toArray n z g (.int k t) (isInt k) (ns.idxOf k) (by simpa [b] using e) ?_ ?_) ⟨f,fun y p=>(eq_isInt k t hi y (by simpa using p)).at _ _,⟨.int _,H,I.tok _,⟨_,rfl⟩,q⟩⟩
 ·show isInt k a[ns.idxOf k]=true;rw [isInt_at k hi _ (by omega) e];simpa using getElem_idxOf e
 ·intro j d c;show isInt k a[j]=false;rw [isInt_at k hi j (by simpa using d) (by omega)];exact ne_of_lt_idxOf c _
noncomputable def tBMT(r:V->List V->Hp->VK->Prop)(b:TE)(t:TA):TE:=fun σ H Q=>b σ H fun x a=>(∃ p xs,x=.ref p/\a p=some (.tup xs))/\t σ a fun xs c=>r x xs c Q
theorem pe_bmT{id:String}(slot:Slot "tuple" name id)(g:typeOf (.builtin id)=pure (.type "method_descriptor"))(J:MtR X id r)(G:PE X o to)(K:PA X (e :: es) t)(c:attributeBase o name X.env (eval o X.env)=eval o X.env:=by rfl)(d:((backTo cpos (starEach (e :: es) X.env)).all (fun x=>!x.1) && (backToKw cpos (keywordEach [] X.env)).all (fun x=>x.1.isSome)
   && decide ((e :: es).length + ([]:List Keyword).length + (if ([]:List Keyword).isEmpty then 0 else 1) < 30))=true:=by rfl)(b:(apos.endLine == cpos.line)=true:=by rfl)(D:starEach (e :: es) X.env=(false,eval e X.env) :: starEach es X.env:=by rfl)(f:(backTo cpos (starEach es X.env)).any (·.1)=false:=by rfl):
  PE X (.Call (.Attribute o name apos) (e :: es) [] cpos) (tBMT r to t):=by
 intro pins s σ H Q I h;refine wpAny_Call_method_late c d b rfl (thn (G pins s σ H _ I h) fun v j i=>?_);obtain ⟨x,n,m,z,q,B⟩:=i;obtain ⟨p,xs,rfl,E⟩:=q;obtain rfl:v=Value.ref p:=z;obtain ⟨_,C,_,o,L,⟨M,R⟩,_⟩:=(show J34 X.prog X.w n j.heap p (.tup xs) from m.hok p _ E);refine ⟨"tuple",id,PySem.F.plainAttrs_tuple,slot,g,⟨o,L,M⟩,fun a P=>by simp_all,?_⟩;have l:=K cpos pins j σ n _ m B;rw [D] at l ⊢;refine Calls.callWith_builtin (by assumption) (Calls.evalArgs_plain ?_);exact thn l fun us u i=>by obtain ⟨vs,O,N,y,A⟩:=i;exact J pins u σ O (.ref p) vs (.ref p) us Q N rfl y A
section
variable{X:Cx}
theorem Jfy(K:Frag)(h:X.K=K:=by rfl):IxR X (rIxL K):=by subst h;exact J4z
theorem J8z(K:Frag)(h:X.K=K:=by rfl):IxR X (rIxT K):=by subst h;exact Jj
theorem J3u(K:Frag)(a:PE X e ta)(h:X.K=K:=by rfl)(hb:attributeBase e f X.env (eval e X.env)=eval e X.env:=by rfl):PE X (.Attribute e f pos) (tFld K ta f):=by subst h;exact J8 a hb
theorem Jlu(K:Frag)(a:X.calm=true:=by rfl)(h:X.K=K:=by rfl):J59 X (.builtin "sum") (fun xs H Q=>∃ (p:Addr) (ns:List Int),xs=[.ref p]/\SqI K H p (ns.map V.int)/\Q (.int ns.sum) H):=by subst h;exact J4d a
theorem Jbn(K:Frag)(h:X.K=K:=by rfl):J59 X (.builtin "len") (fun xs H Q=>∃ p a,xs=[.ref p]/\(SqL K H p a\/SqT K H p a)/\Q (.int a.length) H):=by subst h;exact J12
end
noncomputable def Alk1(K:Frag)(H:Hp)(x y:V):Prop:=(x=y/\J5z x=true)\/∃ (a b:Addr) (c:List V),x=.ref a/\y=.ref b/\SqT K H a c/\SqT K H b c/\c.all J5z=true
structure AlkL(K:Frag)(H:Hp)(xs ys:List V):Prop where
 len:xs.length=ys.length
 at_:∀ (j:Nat) (a b:V),xs[j]?=some a->ys[j]?=some b->Alk1 K H a b
theorem Jg7{x:V}(h:J5z x=true):eqV x x=true:=by
 cases x with
 | non=>rfl
 | bl a=>cases a <;> rfl
 | int a=>show (a == a)=true;exact beq_self_eq_true _
 | str a=>show (a == a)=true;exact beq_self_eq_true _
 | _=>cases h
theorem J82{xs:List V}{b:List Value}(r:Vals xs b){j:Nat}(h:j < b.toArray.size):∃ a,xs[j]?=some a/\RelV a b.toArray[j]:=by
 have l1:=r.length;have h':j < b.length:=by rw [size_toArray] at h;exact h
 have d:xs[j]?=some (xs[j]'(by lia)):=List.getElem?_eq_getElem (by lia);obtain ⟨u,f,e⟩:=r.get d;have c:b.toArray[j]=u:=by
  have:=List.getElem?_eq_getElem h';rw [f] at this;simpa using (Option.some.inj this).symm
 exact ⟨_,d,by rw [c];exact e⟩
theorem Jld{A:Around}{s:Shared}{c:List V}{e d:List Value}(l:Vals c e)(i:Vals c d)(o:c.all J5z=true)(j:Nat)(q:j < e.toArray.size)(p:j < d.toArray.size):SeqAt.EqAt A s e.toArray[j] d.toArray[j] true:=by
 obtain ⟨a,h,n⟩:=J82 l q;obtain ⟨b,g,m⟩:=J82 i p;rw [h] at g;cases g;have f:=all_eq_true.mp o _ (List.mem_of_getElem? h);have:=Jg8 (A:=A) (s:=s) n m f f;rw [Jg7 f] at this;exact this
theorem Jsn{X:Cx}{pins:List (Addr × Obj)}{σ:St}{H:Hp}{s:Shared}(I:Inv X pins σ H s){A:Around}(y:A.units < cLine){a b:V}{u v:Value}(n:RelV a u)(m:RelV b v)(h:Alk1 X.K H a b):SeqAt.EqAt A s u v true:=by
 rcases h with ⟨rfl,f⟩ | ⟨p,q,zs,rfl,rfl,z1,z2,hf⟩
 ·have:=Jg8 (A:=A) (s:=s) n m f f;rw [Jg7 f] at this;exact this
 ·cases (show u=Value.ref p from n);cases (show v=Value.ref q from m);by_cases c:p=q
  ·rw [c];exact SeqAt.EqAt.same _
  ·obtain ⟨g,l,l1,_⟩:=I.tuple z1;obtain ⟨d,i,w,_⟩:=I.tuple z2;have r:=l.length;have o:=i.length;refine SeqAt.EqAt.of_refs c ?_;have:=SeqAt.RcAt.tuples (A:=A) (s:=s) (e:=fun _=>true) (show s.heap.IsTuple p g.toArray from l1) (show s.heap.IsTuple q d.toArray from w) y (fun j B z=>Jld l i hf j B z);have e:((List.range (min g.toArray.size d.toArray.size)).all (fun _=>true) && g.toArray.size == d.toArray.size)=true:=by
    rw [size_toArray,size_toArray,<- r,<- o];simp
   rw [e] at this;exact this
theorem Jlz{X:Cx}{pins:List (Addr × Obj)}{σ:St}{H:Hp}{s:Shared}(I:Inv X pins σ H s){A:Around}(m:A.units < cLine){xs e:List V}{d c:List Value}(g:Vals xs d)(f:Vals e c)(h:AlkL X.K H xs e)(j:Nat)(o:j < d.toArray.size)(n:j < c.toArray.size):SeqAt.EqAt A s d.toArray[j] c.toArray[j] true:=by
 obtain ⟨a,q,l⟩:=J82 g o;obtain ⟨b,p,i⟩:=J82 f n;exact Jsn I m l i (h.at_ j a b q p)
inductive rAlkR(K:Frag)(r:Bool)(x y:V)(H:Hp)(Q:VK):Prop
 | mk(p q xs a:_)(_:x=.ref p)(_:y=.ref q)(_:((SqL K H p xs/\SqL K H q a)\/(SqT K H p xs/\SqT K H q a)))(_:AlkL K H xs a)(_:Q (.bl r) H)
noncomputable def rAlk(K:Frag)(r:Bool):R2:=fun x y H Q=>rAlkR K r x y H Q
theorem Jj9{X:Cx}(n:X.A.units + 1 < cLine):OpR X (compareOp .NotEq) (rAlk X.K false):=by
 intro pins s σ H x y v u Q I z w h;obtain ⟨p,q,xs,B,rfl,rfl,f,l,o⟩:=h;cases z;cases w;have len:=l.len;rcases f with ⟨hp,hq⟩ | ⟨hp,hq⟩
 ·obtain ⟨b,r,pl,_⟩:=I.list hp;obtain ⟨a,d,c,_⟩:=I.list hq;have l1:=r.length;have m:=d.length;refine SeqAt.RcNeAt.lists (e:=fun _=>true) pl.isList c.isList (by rw [size_toArray,size_toArray];lia) (by lia) (fun j i g=>Jlz I n r d l j i g) _ _ _ _ ?_;have e:((List.range b.toArray.size).all fun _=>true)=true:=by simp
  rw [e];exact ⟨.bl false,H,I,rfl,o⟩
 ·obtain ⟨b,r,pl,_⟩:=I.tuple hp;obtain ⟨a,d,c,_⟩:=I.tuple hq;have l1:=r.length;have m:=d.length;refine SeqAt.RcNeAt.tuples (e:=fun _=>true) (show s.heap.IsTuple p b.toArray from pl) (show s.heap.IsTuple q a.toArray from c) (by lia) (fun j i g=>Jlz I n r d l j i g) _ _ _ _ ?_;have e:((List.range (min b.toArray.size a.toArray.size)).all (fun _=>true) && b.toArray.size == a.toArray.size)=true:=by
   rw [size_toArray,size_toArray,<- l1,<- m,len];simp
  rw [e];exact ⟨.bl false,H,I,rfl,o⟩
structure Refs(Pr:Addr->Nat->Prop)(xs:List V)(n:Nat):Prop where
 len:xs.length=n
 at_:∀ i,i < n->∃ q,xs[i]?=some (.ref q)/\Pr q i
theorem Refs.nil :Refs Pr [] 0:=⟨rfl,fun i h=>absurd h (Nat.not_lt_zero _)⟩
theorem Refs.snoc(h:Refs Pr xs n)(a:Pr q n):Refs Pr (xs ++ [.ref q]) (n + 1):=by
 refine ⟨by rw [length_append,h.len];rfl,fun i hi=>?_⟩;by_cases c:i < n
 ·obtain ⟨p,e,b⟩:=h.at_ i c;exact ⟨p,by rw [getElem?_append_left (by rw [h.len];exact c)];exact e,b⟩
 ·have e:i=n:=by lia
  subst e;refine ⟨q,?_,a⟩;rw [getElem?_append_right (by rw [h.len];exact Nat.le_refl _),h.len,Nat.sub_self];rfl
theorem Refs.mono(h:Refs Pr xs n)(m:∀ q i,i < n->Pr q i->Pr' q i):Refs Pr' xs n:=
 ⟨h.len,fun i hi=>by obtain ⟨q,e,p⟩:=h.at_ i hi;exact ⟨q,e,m q i hi p⟩⟩
noncomputable def Jp6(d:Addr)(H a:Hp):Prop:=∀ b o,H b=some o->b≠d->a b=some o
end L2
namespace Rl
noncomputable def J7p(ns:List Int)(k:Nat):Int:=ns.getD k 0
noncomputable def Jcg(xs:List Nat)(i y:Nat):List Nat:=xs.take i ++ y :: xs.drop i
theorem Jha(xs:List Nat)(i y:Nat):(Jcg xs i y).Perm (y :: xs):=by
 unfold Jcg;have h:(xs.take i ++ y :: xs.drop i).Perm (y :: (xs.take i ++ xs.drop i)):=List.perm_middle;rwa [take_append_drop] at h
theorem Jp9 :∀ (xs:List Int),(∀ a∈xs,a<=b)->xs.sum<=(xs.length:Int) * b
 | [],_=>by simp
 | x :: xs,h=>by
  have e:=h x mem_cons_self;have d:=Jp9 xs fun a c=>h a (mem_cons_of_mem _ c);rw [sum_cons,length_cons]
  grind
theorem Js3{n:Nat}{b:Int}(a:n<=24)(hb:0<=b):(n:Int) * b<=24 * b:=Int.mul_le_mul_of_nonneg_right (by lia) hb
noncomputable def J5l(ls:List Int)(os:List Nat):Nat->List Int × Int
 | 0=>(List.replicate ls.length 0,0)
 | i + 1=>((J5l ls os i).1.set (os.getD i 0) (J5l ls os i).2,(J5l ls os i).2 + ls.getD (os.getD i 0) 0)
theorem J4m(ls:List Int)(os:List Nat):∀ i,(J5l ls os i).1.length=ls.length
 | 0=>by simp [J5l]
 | i + 1=>by
  show ((J5l ls os i).1.set _ _).length=_;rw [length_set];exact J4m ls os i
noncomputable def firsts(ls:List Int)(os:List Nat):List Int:=(J5l ls os os.length).1
theorem J5j(ls:List Int)(os:List Nat):(firsts ls os).length=ls.length:=J4m ls os _
theorem J5s:∀ {xs a:List Int},xs.Perm a->xs.Pairwise (·<=·)->a.Pairwise (·<=·)->xs=a
 | [],a,h,_,_=>(List.Perm.nil_eq h)
 | x :: xs,[],h,_,_=>absurd h.length_eq (by simp)
 | x :: xs,y :: a,h,hx,hy=>by
  have c:=pairwise_cons.mp hx;have b:=pairwise_cons.mp hy;have f:=h.mem_iff.mp mem_cons_self;have d:=h.mem_iff.mpr mem_cons_self;have e:x=y:=by
   grind
  subst e;rw [J5s h.cons_inv c.2 b.2]
noncomputable def natI(os:List Nat):List Int:=os.map fun (n:Nat)=>(n:Int)
theorem Jc4(n:Nat):(natI (List.range n)).Pairwise (·<=·):=by
 unfold natI;rw [pairwise_map];exact pairwise_lt_range.imp fun h=>by lia
theorem Jbw(a:os.Perm (List.range n))(c:ns'.Perm (natI os))(b:ns'.Pairwise (·<=·)):ns'=natI (List.range n):=
 J5s (c.trans (a.map _)) b (Jc4 n)
noncomputable def Jt(ls:List Int)(os:List Nat)(i:Nat):Int:=(J5l ls os i).2
theorem J3e(ls:List Int)(os:List Nat):Jt ls os 0=0:=rfl
theorem J1d(ls:List Int)(os:List Nat)(i:Nat):Jt ls os (i + 1)=Jt ls os i + ls.getD (os.getD i 0) 0:=rfl
structure Ord(ls:List Int)(os:List Nat):Prop where
 pos:∀ a∈ls,1<=a
 perm:os.Perm (List.range ls.length)
theorem Ord.range(h:Ord ls os):Ord ls (List.range ls.length):=⟨h.pos,List.Perm.refl _⟩
theorem Ord.len(h:Ord ls os):os.length=ls.length:=by rw [h.perm.length_eq,length_range]
theorem Ord.nodup(h:Ord ls os):os.Nodup:=h.perm.nodup_iff.mpr nodup_range
theorem J27{os:List Nat}(h:i < os.length):os.getD i 0∈os:=by
 simp_all
theorem Jci{ls:List Int}(h:i < ls.length):ls.getD i 0∈ls:=by
 simp_all
theorem Ord.lt(h:Ord ls os)(hi:i < ls.length):os.getD i 0 < ls.length:=
 mem_range.mp (h.perm.mem_iff.mp (J27 (by rw [h.len];exact hi)))
theorem Ord.one(h:Ord ls os)(a:j < ls.length):1<=ls.getD j 0:=h.pos _ (Jci a)
theorem Ord.inj(h:Ord ls os)(hi:i < ls.length)(a:j < ls.length)(e:os.getD i 0=os.getD j 0):i=j:=by
 rw [getD_eq_getElem?_getD,getD_eq_getElem?_getD,List.getElem?_eq_getElem (by rw [h.len];exact hi),List.getElem?_eq_getElem (by rw [h.len];exact a)] at e;exact (getElem_inj h.nodup).mp e
theorem Ord.onto(h:Ord ls os)(a:j < ls.length):∃ i,i < ls.length/\os.getD i 0=j:=by
 obtain ⟨i,hi,e⟩:=getElem_of_mem (h.perm.mem_iff.mpr (mem_range.mpr a));refine ⟨i,by rw [<- h.len];exact hi,?_⟩;rw [getD_eq_getElem?_getD,List.getElem?_eq_getElem hi];exact e
theorem Ord.step(h:Ord ls os)(hi:i < ls.length):Jt ls os i < Jt ls os (i + 1):=by
 have:=h.one (h.lt hi);rw [J1d];lia
theorem Ord.mono(h:Ord ls os):∀ {k:Nat},i<=k->k<=ls.length->Jt ls os i<=Jt ls os k
 | 0,h1,_=>by simp_all
 | k + 1,h1,h2=>by
  by_cases e:i=k + 1
  ·rw [e];exact Int.le_refl _
  ·have a:=h.mono (i:=i) (k:=k) (by lia) (by lia);have b:=h.step (i:=k) (by lia);lia
theorem Jdp(f:List Int)(p q:Nat)(v:Int)(a:p < f.length):(f.set p v).getD q 0=if q=p then v else f.getD q 0:=by
 rw [getD_eq_getElem?_getD,getD_eq_getElem?_getD];by_cases e:q=p
 ·simp_all
 ·rw [getElem?_set_ne (Ne.symm e),if_neg e]
theorem Ord.at(h:Ord ls os):∀ {k:Nat},i < k->k<=ls.length->(J5l ls os k).1.getD (os.getD i 0) 0=Jt ls os i
 | 0,h1,_=>absurd h1 (Nat.not_lt_zero _)
 | k + 1,h1,h2=>by
  show ((J5l ls os k).1.set (os.getD k 0) (J5l ls os k).2).getD (os.getD i 0) 0=_;rw [Jdp _ _ _ _ (by rw [J4m];exact h.lt (by lia))];by_cases e:i=k
  ·subst e;rw [if_pos rfl];rfl
  ·rw [if_neg (fun q=>e (h.inj (by lia) (by lia) q))];exact h.at (by lia) (by lia)
theorem Ord.first(h:Ord ls os)(hi:i < ls.length):(firsts ls os).getD (os.getD i 0) 0=Jt ls os i:=by
 unfold firsts;rw [h.len];exact h.at hi (Nat.le_refl _)
theorem J3m(ls:List Int):(List.range ls.length).map (fun j=>ls.getD j 0)=ls:=by
 apply ext_getElem?;intro k;by_cases a:k < ls.length
 ·simp_all
 ·simp_all
theorem J4g(ls:List Int)(os:List Nat):∀ i,i<=os.length->Jt ls os i=((os.take i).map fun j=>ls.getD j 0).sum
 | 0,_=>by rfl
 | i + 1,h=>by
  rw [J1d,J4g ls os i (by lia),List.take_succ,List.getElem?_eq_getElem (by lia)];simp only [ map_append,sum_append,List.sum_nil];rw [getD_eq_getElem?_getD (l:=os),List.getElem?_eq_getElem (by lia)];simp
theorem Jb7{xs:List Int}(h:xs.Perm ys):xs.sum=ys.sum:=by
 induction h with
 | nil=>rfl
 | cons x _ ih=>simp_all
 | swap x y l=>rw [sum_cons,sum_cons,sum_cons,sum_cons];lia
 | trans _ _ a b=>exact a.trans b
theorem Ord.whole(h:Ord ls os):Jt ls os ls.length=ls.sum:=by
 rw [J4g ls os _ (by rw [h.len];exact Nat.le_refl _),take_of_length_le (by rw [h.len];exact Nat.le_refl _)];have p:(os.map fun j=>ls.getD j 0).Perm ((List.range ls.length).map fun j=>ls.getD j 0):=h.perm.map _;rw [Jb7 p,J3m]
noncomputable def Lies(fs ls:List Int)(x:Int)(j:Nat):Prop:=j < ls.length/\fs.getD j 0<=x/\x < fs.getD j 0 + ls.getD j 0
theorem J51{S:Nat->Int}:∀ (k:Nat),S 0<=x->x < S k->∃ i,i < k/\S i<=x/\x < S (i + 1)
 | 0,h0,h1=>by lia
 | k + 1,h0,h1=>by
  by_cases e:x < S k
  ·obtain ⟨i,hi,q⟩:=J51 k h0 e;exact ⟨i,by lia,q⟩
  ·exact ⟨k,by lia,by lia,h1⟩
theorem Ord.lies(h:Ord ls os)(hi:i < ls.length)(b:Jt ls os i<=x)(a:x < Jt ls os (i + 1)):Lies (firsts ls os) ls x (os.getD i 0):=by
 refine ⟨h.lt hi,?_,?_⟩
 ·rw [h.first hi];exact b
 ·rw [h.first hi];exact a
theorem Ord.lies_of(h:Ord ls os)(q:Lies (firsts ls os) ls x j):∃ i,i < ls.length/\os.getD i 0=j/\Jt ls os i<=x/\x < Jt ls os (i + 1):=by
 obtain ⟨c,a,b⟩:=q;obtain ⟨i,hi,e⟩:=h.onto c;subst e;rw [h.first hi] at a b;exact ⟨i,hi,rfl,a,by assumption⟩
theorem Ord.exists(h:Ord ls os)(d:0<=x)(c:x < ls.sum):∃ j,Lies (firsts ls os) ls x j:=by
 obtain ⟨i,hi,a,b⟩:=J51 (S:=Jt ls os) ls.length (by assumption) (by rw [h.whole];exact c);exact ⟨_,h.lies hi a b⟩
theorem Ord.unique(h:Ord ls os)(a:Lies (firsts ls os) ls x j)(b:Lies (firsts ls os) ls x k):j=k:=by
 obtain ⟨i,hi,rfl,n,m⟩:=h.lies_of a;obtain ⟨c,d,rfl,l,g⟩:=h.lies_of b;have:i=c:=by
  by_cases e:i < c
  ·have:=h.mono (i:=i + 1) (k:=c) e (by lia);lia
  ·by_cases f:c < i
   ·have:=h.mono (i:=c + 1) (k:=i) f (by lia);lia
   ·lia
 rw [this]
theorem Ord.inside(h:Ord ls os)(a:Lies (firsts ls os) ls x j):0<=x/\x < ls.sum:=by
 obtain ⟨i,hi,rfl,e,d⟩:=h.lies_of a;have c:=h.mono (i:=0) (k:=i) (Nat.zero_le _) (by lia);have b:=h.mono (i:=i + 1) (k:=ls.length) (by lia) (Nat.le_refl _);rw [h.whole] at b;rw [J3e] at c;lia
noncomputable def J45(ls:List Int)(ts:List Bool)(j:Nat)(off:Int)(fs:List Int):Int:=if ts.getD j false=true then fs.getD j 0 + ls.getD j 0 - 1 - off else fs.getD j 0 + off
theorem Jcb(q:Lies fs ls x j):Lies gs ls (J45 ls ts j (x - fs.getD j 0) gs) j/\J45 ls ts j (J45 ls ts j (x - fs.getD j 0) gs - gs.getD j 0) fs=x:=by
 obtain ⟨c,b,a⟩:=q;unfold Lies J45
 grind
noncomputable def J2(ls:List Int)(row:List Nat):Int:=(row.map fun j=>ls.getD j 0).sum
theorem J5y(ls:List Int)(os:List Nat):Jt ls os os.length=J2 ls os:=by
 rw [J4g ls os _ (Nat.le_refl _),take_length];rfl
theorem J21(ls:List Int):J2 ls []=0:=rfl
theorem Jn(ls:List Int)(j:Nat)(os:List Nat):J2 ls (j :: os)=ls.getD j 0 + J2 ls os:=by
 rfl
theorem Ji(ls:List Int)(xs a:List Nat):J2 ls (xs ++ a)=J2 ls xs + J2 ls a:=by
 unfold J2;rw [map_append,sum_append]
theorem J2l(h:xs.Perm ys):J2 ls xs=J2 ls ys:=Jb7 (h.map _)
theorem J18(h:∀ j∈os,0<=ls.getD j 0):0<=J2 ls os:=by
 induction os with
 | nil=>exact Int.le_refl _
 | cons a r ih =>
  rw [Jn];have:=h a mem_cons_self;have:=ih fun j b=>h j (mem_cons_of_mem _ b);lia
theorem J6n(h:∀ j∈os,1<=ls.getD j 0)(b:os≠[]):1<=J2 ls os:=by
 cases os with
 | nil=>exact absurd rfl b
 | cons a r =>
  rw [Jn];have:=h a mem_cons_self;have:=J18 (ls:=ls) (os:=r) fun j c=>by grind
  lia
theorem Jkh(h:∀ j∈os,0<=ls.getD j 0)(b:j∈os):ls.getD j 0<=J2 ls os:=by
 induction os with
 | nil=>cases b
 | cons a r ih =>
  rw [Jn];have d:=h a mem_cons_self;have c:=J18 (ls:=ls) (os:=r) fun j b=>h j (mem_cons_of_mem _ b)
  grind
structure Row(ls:List Int)(os:List Nat):Prop where
 nd:os.Nodup
 lt:∀ j∈os,j < ls.length
 pos:∀ j∈os,1<=ls.getD j 0
theorem Row.inj(h:Row ls os)(hi:i < os.length)(a:j < os.length)(e:os.getD i 0=os.getD j 0):i=j:=by
 rw [getD_eq_getElem?_getD,getD_eq_getElem?_getD,List.getElem?_eq_getElem hi,List.getElem?_eq_getElem a] at e;exact (getElem_inj h.nd).mp e
theorem Row.at(h:Row ls os):∀ {k:Nat},i < k->k<=os.length->(J5l ls os k).1.getD (os.getD i 0) 0=Jt ls os i
 | 0,h1,_=>absurd h1 (Nat.not_lt_zero _)
 | k + 1,h1,h2=>by
  show ((J5l ls os k).1.set (os.getD k 0) (J5l ls os k).2).getD (os.getD i 0) 0=_;rw [Jdp _ _ _ _ (by rw [J4m];exact h.lt _ (J27 (by lia)))];by_cases e:i=k
  ·subst e;rw [if_pos rfl];rfl
  ·rw [if_neg (fun q=>e (h.inj (by lia) (by lia) q))];exact h.at (by lia) (by lia)
theorem Row.first(h:Row ls os)(hi:i < os.length):(firsts ls os).getD (os.getD i 0) 0=Jt ls os i:=h.at hi (Nat.le_refl _)
theorem Row.step(h:Row ls os)(hi:i < os.length):Jt ls os i < Jt ls os (i + 1):=by
 rw [J1d];have:=h.pos _ (J27 hi);lia
theorem Row.mono(h:Row ls os):∀ {k:Nat},i<=k->k<=os.length->Jt ls os i<=Jt ls os k
 | 0,h1,_=>by
  simp_all
 | k + 1,h1,h2=>by
  by_cases e:i=k + 1
  ·subst e;exact Int.le_refl _
  ·have a:=Row.mono h (i:=i) (k:=k) (by lia) (by lia);have b:=h.step (i:=k) (by lia);lia
noncomputable def AtR(ls:List Int)(os:List Nat)(y:Int)(i:Nat):Prop:=i < os.length/\Jt ls os i<=y/\y < Jt ls os (i + 1)
theorem Row.exists(h:Row ls os)(d:0<=y)(c:y < J2 ls os):∃ i,AtR ls os y i:=by
 rw [<- J5y] at c;obtain ⟨i,hi,a,b⟩:=J51 (S:=Jt ls os) os.length (by assumption) c;exact ⟨i,hi,a,b⟩
theorem Row.unique(h:Row ls os)(a:AtR ls os y i)(b:AtR ls os y k):i=k:=by
 obtain ⟨j,g,f⟩:=a;obtain ⟨e,d,c⟩:=b;rcases Nat.lt_trichotomy i k with q | q | q
 ·have:=h.mono (i:=i + 1) (k:=k) (by lia) (by lia);lia
 ·exact q
 ·have:=h.mono (i:=k + 1) (k:=i) (by lia) (by lia);lia
theorem Row.inside(h:Row ls os)(a:AtR ls os y i):0<=y/\y < J2 ls os:=by
 obtain ⟨f,e,d⟩:=a;have c:=h.mono (i:=0) (k:=i) (by lia) (by lia);have b:=h.mono (i:=i + 1) (k:=os.length) (by lia) (Nat.le_refl _);rw [J3e] at c;rw [J5y] at b;lia
structure Rst where
 top:List Nat
 bot:List Nat
 ls:List Int
 ts:List Bool
structure Rst.Ok(r:Rst):Prop where
 row:Row r.ls r.top
 perm:r.bot.Perm r.top
 zl:∀ j,j ∉ r.top->r.ls.getD j 0=0
 zt:∀ j,j ∉ r.top->r.ts.getD j false=false
 len:r.ts.length=r.ls.length
 few:r.ls.length<=24
noncomputable def Rst.size(r:Rst):Int:=J2 r.ls r.top
theorem Rst.Ok.rowB{r:Rst}(h:r.Ok):Row r.ls r.bot:=⟨h.perm.nodup_iff.mpr h.row.nd,fun j a=>h.row.lt j (h.perm.mem_iff.mp a),fun j a=>h.row.pos j (h.perm.mem_iff.mp a)⟩
theorem Rst.Ok.sizeB{r:Rst}(h:r.Ok):J2 r.ls r.bot=r.size:=J2l h.perm
noncomputable def J2v(r:Rst)(y z:Int):Prop:=∃ i,AtR r.ls r.top y i/\z=J45 r.ls r.ts (r.top.getD i 0) (y - Jt r.ls r.top i) (firsts r.ls r.bot)
theorem Jfu{os:List Nat}(h:j∈os):∃ k,k < os.length/\os.getD k 0=j:=by
 obtain ⟨k,a,e⟩:=getElem_of_mem h;exact ⟨k,a,by simp_all⟩
theorem Rst.Ok.goes(h:r.Ok)(g:J2v r y z):∃ i k,AtR r.ls r.top y i/\AtR r.ls r.bot z k/\r.bot.getD k 0=r.top.getD i 0/\
  z - Jt r.ls r.bot k=(if r.ts.getD (r.top.getD i 0) false=true then r.ls.getD (r.top.getD i 0) 0 - 1 - (y - Jt r.ls r.top i) else y - Jt r.ls r.top i):=by
 obtain ⟨i,⟨c,e,b⟩,rfl⟩:=g;obtain ⟨k,d,a⟩:=Jfu (h.perm.mem_iff.mpr (J27 c));have f:=h.rowB.first d;rw [a] at f;rw [J1d] at b;refine ⟨i,k,⟨c,e,by exact b⟩,?_,a,?_⟩
 ·unfold J45;refine ⟨d,?_,?_⟩
  ·rw [f];split <;> lia
  ·rw [J1d,a,f];split <;> lia
 ·unfold J45;rw [f];split <;> lia
theorem Rst.Ok.fun_(h:r.Ok)(a:J2v r y z)(b:J2v r y z'):z=z':=by
 obtain ⟨i,hi,rfl⟩:=a;obtain ⟨k,c,rfl⟩:=b;obtain rfl:=h.row.unique hi c;rfl
theorem Rst.Ok.inj(h:r.Ok)(a:J2v r y z)(b:J2v r y' z):y=y':=by
 obtain ⟨i,k,hi,f,g,o1⟩:=h.goes a;obtain ⟨l,k',d,c,e,j⟩:=h.goes b;obtain rfl:=h.rowB.unique f c;rw [g] at e;obtain rfl:=h.row.inj hi.1 d.1 e
 grind
theorem Rst.Ok.there(h:r.Ok)(b:0<=y)(a:y < r.size):∃ z,J2v r y z:=by
 obtain ⟨i,hi⟩:=h.row.exists b a;exact ⟨_,i,hi,rfl⟩
theorem Rst.Ok.stays(h:r.Ok)(a:J2v r y z):0<=z/\z < r.size:=by
 obtain ⟨i,k,_,b,_,_⟩:=h.goes a;have:=h.rowB.inside b;rw [h.sizeB] at this;exact this
theorem J63(c:os.Perm (List.range ls.length))(pos:∀ a∈ls,1<=a)(hts:ts.length=ls.length)(few:ls.length<=24):(Rst.mk (List.range ls.length) os ls ts).Ok where
 row:=⟨nodup_range,fun j b=>mem_range.mp b,fun j b=>pos _ (Jci (mem_range.mp b))⟩
 perm:=c
 zl:=fun j b=>by
  grind
 zt:=fun j b=>by
  grind
 len:=hts
 few:=few
theorem Jgi(ls:List Int)(os:List Nat)(ts:List Bool):(Rst.mk (List.range ls.length) os ls ts).size=ls.sum:=by
 show ((List.range ls.length).map fun j=>ls.getD j 0).sum=_;rw [J3m]
noncomputable def mixN(c:Int):Nat->Int
 | 0=>1 + c % 1000000006
 | k + 1=>mixN c k * 48271 % 2147483647
theorem Jh1(c:Int):∀ k,0<=mixN c k/\mixN c k < 2147483647
 | 0=>by
  have b:=Int.emod_nonneg c (show (1000000006:Int)≠0 by decide);have a:=Int.emod_lt_of_pos c (show (0:Int) < 1000000006 by decide);unfold mixN;lia
 | k + 1=>by
  unfold mixN;exact ⟨Int.emod_nonneg _ (by decide),Int.emod_lt_of_pos _ (by decide)⟩
noncomputable def spotS(c:Int)(k:Nat):Nat:=(mixN c (k + 1) % ((k:Int) + 1)).toNat
theorem Jm8(c:Int)(k:Nat):spotS c k<=k/\((spotS c k:Nat):Int)=mixN c (k + 1) % ((k:Int) + 1):=by
 unfold spotS;have b:=Int.emod_nonneg (mixN c (k + 1)) (show (k:Int) + 1≠0 by lia);have a:=Int.emod_lt_of_pos (mixN c (k + 1)) (show (0:Int) < (k:Int) + 1 by lia);lia
noncomputable def J7n(c:Int)(ys:List Nat):Nat->List Nat
 | 0=>[]
 | k + 1=>Jcg (J7n c ys k) (spotS c k) (ys.getD k 0)
theorem J6v(c:Int)(a:List Nat):∀ k,k<=a.length->(J7n c a k).Perm (a.take k)
 | 0,_=>List.Perm.refl _
 | k + 1,h=>by
  have b:=J6v c a k (by lia);have e:a.take (k + 1)=a.take k ++ [a.getD k 0]:=by
   rw [take_add_one,getD_eq_getElem?_getD,List.getElem?_eq_getElem (by lia)];rfl
  rw [e];unfold J7n;refine (Jha _ _ _).trans ?_;refine (List.Perm.cons _ b).trans ?_;exact (List.perm_append_singleton _ _).symm
theorem Jil(c:Int)(a:List Nat)(k:Nat)(h:k<=a.length):(J7n c a k).length=k:=by
 rw [(J6v c a k h).length_eq,length_take];lia
theorem Jim(c:Int)(a:List Nat):(J7n c a a.length).Perm a:=by
 have:=J6v c a a.length (Nat.le_refl _);rwa [take_length] at this
theorem J2x(h:k < n):(List.range n).getD k 0=k:=by
 simp_all
noncomputable def J4(row:List Nat)(a:Nat):List Nat:=row.drop (row.idxOf a + 1)
noncomputable def withoutR(row:List Nat)(x:Nat):List Nat:=row.filter fun j=>decide (j≠x)
noncomputable def putR(row:List Nat)(w l:Nat)(a:Bool):List Nat:=
 (withoutR row l).take (if a=true then (withoutR row l).idxOf w else (withoutR row l).idxOf w + 1) ++ [l] ++ (withoutR row l).drop (if a=true then (withoutR row l).idxOf w else (withoutR row l).idxOf w + 1)
theorem J16 :j∈withoutR row x↔j∈row/\j≠x:=by
 unfold withoutR;rw [mem_filter,decide_eq_true_iff]
theorem J44(h:row.Nodup)(x:Nat):(withoutR row x).Nodup:=h.filter _
theorem J3y(h:row.Nodup)(c:x∈row):(withoutR row x).length + 1=row.length:=by
 induction row with
 | nil=>cases c
 | cons a r ih =>
  obtain ⟨g,f⟩:=nodup_cons.mp h;unfold withoutR;rw [filter_cons];by_cases e:a=x
  ·subst e;have:r.filter (fun j=>decide (j≠a))=r:=List.filter_eq_self.mpr fun j d=>decide_eq_true (fun q=>g (q ▸ d));rw [if_neg (by simp),this];rfl
  ·rw [if_pos (by simpa using e)];have b:=(mem_cons.mp c).resolve_left (fun q=>e q.symm);have:=ih f b;unfold withoutR at this;simp only [length_cons];lia
theorem J3f(h:row.Nodup)(a:x∈row):(x :: withoutR row x).Perm row:=by
 refine (List.perm_ext_iff_of_nodup (nodup_cons.mpr ⟨fun q=>(J16.mp q).2 rfl,J44 h x⟩) h).mpr fun j=>?_;rw [mem_cons,J16];constructor
 ·rintro (rfl | q)
  ·exact a
  ·exact q.1
 ·intro q;by_cases e:j=x
  ·exact .inl e
  ·exact .inr ⟨q,e⟩
theorem J37(h:row.Nodup)(b:l∈row)(a:Bool):(putR row w l a).Perm row:=by
 unfold putR;generalize (if a=true then (withoutR row l).idxOf w else (withoutR row l).idxOf w + 1)=n;refine List.Perm.trans ?_ (J3f h b);have e:l :: withoutR row l=[l] ++ ((withoutR row l).take n ++ (withoutR row l).drop n):=by simp_all
 rw [e,<- List.append_assoc];exact List.Perm.append_right _ List.perm_append_comm
theorem J4t(h:xs.Perm ys)(x:Nat):(withoutR xs x).Perm (withoutR ys x):=h.filter _
theorem Jx(f:List Int)(p q:Nat)(v:Int)(a:p < f.length):(f.set p v).getD q 0=if q=p then v else f.getD q 0:=Jdp f p q v a
theorem J2h(f:List Bool)(p q:Nat)(v:Bool)(a:p < f.length):(f.set p v).getD q false=if q=p then v else f.getD q false:=by
 rw [getD_eq_getElem?_getD,getD_eq_getElem?_getD];by_cases e:q=p
 ·simp_all
 ·rw [getElem?_set_ne (Ne.symm e),if_neg e]
inductive Stp where
 | home (a:Nat) | even (a b:Nat) | over (a b:Nat) | under (a b:Nat) | overs (a:Nat) (t:Int) | unders (a:Nat) (t:Int)
noncomputable def Stp.winner:Stp->Nat
 | .home a=>a | .even a _=>a | .over a _=>a | .under a _=>a | .overs a _=>a | .unders a _=>a
noncomputable def Stp.times:Stp->Int
 | .overs _ t=>t | .unders _ t=>t | _=>1
noncomputable def Stp.losers(r:Rst):Stp->List Nat
 | .home _=>[] | .even _ b=>[b] | .over _ b=>[b] | .under _ b=>[b] | .overs a _=>J4 r.bot a | .unders a _=>J4 r.top a
noncomputable def Stp.own:Stp->Bool
 | .even _ _=>true | .over _ _=>true | .overs _ _=>true | _=>false
noncomputable def J2d(r:Rst)(w l:Nat):List Bool:=r.ts.set l (r.ts.getD w false != r.ts.getD l false)
noncomputable def Stp.behind(r:Rst):Stp->Rst
 | .home a=>⟨withoutR r.top a,withoutR r.bot a,r.ls.set a 0,r.ts.set a false⟩
 | .even a b=>⟨withoutR r.top a,withoutR (putR r.bot a b false) a,r.ls.set a 0,(J2d r a b).set a false⟩
 | .over a b=>⟨r.top,putR r.bot a b (r.ts.getD a false),r.ls.set a (r.ls.getD a 0 - r.ls.getD b 0),J2d r a b⟩
 | .under a b=>⟨putR r.top a b (r.ts.getD a false),r.bot,r.ls.set a (r.ls.getD a 0 - r.ls.getD b 0),J2d r a b⟩
 | .overs a t=>⟨r.top,r.bot,r.ls.set a (r.ls.getD a 0 - t * J2 r.ls (J4 r.bot a)),r.ts⟩
 | .unders a t=>⟨r.top,r.bot,r.ls.set a (r.ls.getD a 0 - t * J2 r.ls (J4 r.top a)),r.ts⟩
noncomputable def J1q(r:Rst)(a:Nat)(row:List Nat):Int:=if r.ts.getD a false=true then 0 else (r.ls.getD a 0 - 1) / J2 r.ls (J4 row a)
noncomputable abbrev lastT(r:Rst):Nat:=r.top.getD (r.top.length - 1) 0
noncomputable abbrev lastB(r:Rst):Nat:=r.bot.getD (r.bot.length - 1) 0
noncomputable def nextN(r:Rst):Stp:=
 if lastT r=lastB r then .home (lastT r)
 else if r.ls.getD (lastT r) 0=r.ls.getD (lastB r) 0 then .even (lastT r) (lastB r)
 else if r.ls.getD (lastB r) 0 < r.ls.getD (lastT r) 0 then
  (if 0 < J1q r (lastT r) r.bot then .overs (lastT r) (J1q r (lastT r) r.bot) else .over (lastT r) (lastB r))
 else (if 0 < J1q r (lastB r) r.top then .unders (lastB r) (J1q r (lastB r) r.top) else .under (lastB r) (lastT r))
theorem Rst.Ok.lens{r:Rst}(h:r.Ok):r.bot.length=r.top.length:=h.perm.length_eq
theorem Rst.Ok.mT(h:r.Ok)(ne:r.top≠[]):lastT r∈r.top:=J27 (by have:=List.length_pos_iff.mpr ne;lia)
theorem Rst.Ok.mB(h:r.Ok)(ne:r.top≠[]):lastB r∈r.top:=h.perm.mem_iff.mp (J27 (by have:=List.length_pos_iff.mpr ne;have:=h.lens;lia))
theorem J1c{row:List Nat}(h:j∈row.drop n):j∈row:=List.mem_of_mem_drop h
theorem Jdb(c:a∈row)(h:row.getD (row.length - 1) 0≠a):J4 row a≠[]:=by
 have b:=idxOf_lt_length_iff.mpr c;intro e;have f:=List.drop_eq_nil_iff.mp e;have d:row.idxOf a=row.length - 1:=by lia
 apply h;rw [<- d,getD_eq_getElem?_getD,List.getElem?_eq_getElem b];exact getElem_idxOf b
theorem Rst.Ok.of_rows{r:Rst}(h:r.Ok){top bot:List Nat}{ls:List Int}{ts:List Bool}(b:top.Perm r.top)(hb:bot.Perm r.top)(d:ls.length=r.ls.length)(c:ts.length=r.ts.length)(pos:∀ j∈r.top,1<=ls.getD j 0)(zl:∀ j,j ∉ r.top->ls.getD j 0=0)(zt:∀ j,j ∉ r.top->ts.getD j false=false):(Rst.mk top bot ls ts).Ok where
 row:=⟨b.nodup_iff.mpr h.row.nd,fun j a=>by rw [d];exact h.row.lt j (b.mem_iff.mp a),fun j a=>pos j (b.mem_iff.mp a)⟩
 perm:=hb.trans b.symm
 zl:=fun j a=>zl j fun q=>a (b.mem_iff.mpr q)
 zt:=fun j a=>zt j fun q=>a (b.mem_iff.mpr q)
 len:=by rw [d,c];exact h.len
 few:=by rw [d];exact h.few
theorem J6t(h:r.Ok)(a:l∈r.top):∀ j,j ∉ r.top->(J2d r w l).getD j false=false:=fun j b=>by
 unfold J2d;rw [J2h _ _ _ _ (by rw [h.len];exact h.row.lt l a),if_neg (show ¬ j=l from fun e=>b (by rw [e];exact a))];exact h.zt j b
theorem Jay{r:Rst}(h:r.Ok)(c:a∈r.top):∀ j,j ∉ r.top->(r.ls.set a v).getD j 0=0:=fun j b=>by
 rw [Jx _ _ _ _ (h.row.lt a c),if_neg (show ¬ j=a from fun e=>b (by rw [e];exact c))];exact h.zl j b
theorem Jax{r:Rst}(h:r.Ok)(d:a∈r.top)(b:1<=v):∀ j∈r.top,1<=(r.ls.set a v).getD j 0:=fun j c=>by
 rw [Jx _ _ _ _ (h.row.lt a d)];split
 ·exact b
 ·exact h.row.pos j c
theorem J2w(r:Rst)(w l:Nat):(J2d r w l).length=r.ts.length:=by unfold J2d;rw [length_set]
theorem Rst.Ok.less{r:Rst}(h:r.Ok)(d:a∈r.top){bot:List Nat}{ts:List Bool}(hb:bot.Perm (withoutR r.top a))(c:ts.length=r.ts.length)(zt:∀ j,j ∉ r.top->ts.getD j false=false)(f:ts.getD a false=false):(Rst.mk (withoutR r.top a) bot (r.ls.set a 0) ts).Ok where
 row:=⟨J44 h.row.nd a,fun j b=>by rw [length_set];exact h.row.lt j (J16.mp b).1,fun j b=>by
  rw [Jx _ _ _ _ (h.row.lt a d),if_neg (J16.mp b).2];exact h.row.pos j (J16.mp b).1⟩
 perm:=hb
 zl:=fun j b=>by
  show (r.ls.set a 0).getD j 0=0;rw [Jx _ _ _ _ (h.row.lt a d)];split
  ·rfl
  ·rename_i e;exact h.zl j fun q=>b (J16.mpr ⟨q,e⟩)
 zt:=fun j b=>by
  by_cases e:j=a
  ·subst e;exact f
  ·exact zt j fun q=>b (J16.mpr ⟨q,e⟩)
 len:=by rw [length_set,c];exact h.len
 few:=by rw [length_set];exact h.few
theorem Jhx{la:Int}(a:1<=s):(la - 1) / s * s<=la - 1:=Int.ediv_mul_le _ (by lia)
theorem J2k(h:r.Ok)(ne:r.top≠[]){p:Stp->Prop}(H:lastT r=lastB r->p (.home (lastT r)))(I:lastT r≠lastB r->r.ls.getD (lastT r) 0=r.ls.getD (lastB r) 0->p (.even (lastT r) (lastB r)))(C:lastT r≠lastB r->r.ls.getD (lastB r) 0 < r.ls.getD (lastT r) 0->(r.ts.getD (lastT r) false=true\/r.ls.getD (lastT r) 0<=J2 r.ls (J4 r.bot (lastT r)))->p (.over (lastT r) (lastB r)))(B:lastT r≠lastB r->r.ls.getD (lastT r) 0 < r.ls.getD (lastB r) 0->(r.ts.getD (lastB r) false=true\/r.ls.getD (lastB r) 0<=J2 r.ls (J4 r.top (lastB r)))->p (.under (lastB r) (lastT r)))(D:∀ t,lastT r≠lastB r->r.ls.getD (lastB r) 0 < r.ls.getD (lastT r) 0->r.ts.getD (lastT r) false=false->1<=t->1<=J2 r.ls (J4 r.bot (lastT r))->J2 r.ls (J4 r.bot (lastT r)) < r.ls.getD (lastT r) 0->t=(r.ls.getD (lastT r) 0 - 1) / J2 r.ls (J4 r.bot (lastT r))->t * J2 r.ls (J4 r.bot (lastT r)) < r.ls.getD (lastT r) 0->p (.overs (lastT r) t))(A:∀ t,lastT r≠lastB r->r.ls.getD (lastT r) 0 < r.ls.getD (lastB r) 0->r.ts.getD (lastB r) false=false->1<=t->1<=J2 r.ls (J4 r.top (lastB r))->J2 r.ls (J4 r.top (lastB r)) < r.ls.getD (lastB r) 0->t=(r.ls.getD (lastB r) 0 - 1) / J2 r.ls (J4 r.top (lastB r))->t * J2 r.ls (J4 r.top (lastB r)) < r.ls.getD (lastB r) 0->p (.unders (lastB r) t)):p (nextN r):=by
 unfold nextN;have mT:=h.mT ne;have mB:=h.mB ne;by_cases d:lastT r=lastB r
 ·rw [if_pos d];exact H d
 rw [if_neg d];by_cases E:r.ls.getD (lastT r) 0=r.ls.getD (lastB r) 0
 ·rw [if_pos E];exact I d E
 rw [if_neg E];have i:∀ (row:List Nat) (a:Nat),a∈row->(∀ j∈row,1<=r.ls.getD j 0)->row.getD (row.length - 1) 0≠a->
   1<=J2 r.ls (J4 row a)/\(0 < J1q r a row->r.ts.getD a false=false/\1<=J1q r a row/\J2 r.ls (J4 row a) < r.ls.getD a 0/\J1q r a row=(r.ls.getD a 0 - 1) / J2 r.ls (J4 row a)/\J1q r a row * J2 r.ls (J4 row a) < r.ls.getD a 0)/\
   (¬ 0 < J1q r a row->r.ts.getD a false=true\/r.ls.getD a 0<=J2 r.ls (J4 row a)):=fun row a J F G=>by
  have g:1<=J2 r.ls (J4 row a):=J6n (fun j l=>F j (J1c l)) (Jdb J G);refine ⟨g,fun hw=>?_,fun hw=>?_⟩
  ·by_cases ct:r.ts.getD a false=true
   ·unfold J1q at hw;rw [if_pos ct] at hw;lia
   ·have e:J1q r a row=(r.ls.getD a 0 - 1) / J2 r.ls (J4 row a):=by unfold J1q;rw [if_neg ct]
    have L:=Jhx (la:=r.ls.getD a 0) g;rw [e] at hw ⊢;refine ⟨by simpa using ct,by lia,?_,rfl,by lia⟩;have K:J2 r.ls (J4 row a) * 1<=J2 r.ls (J4 row a) * ((r.ls.getD a 0 - 1) / J2 r.ls (J4 row a)):=Int.mul_le_mul_of_nonneg_left (by lia) (by lia);rw [Int.mul_comm (J2 r.ls (J4 row a)) ((r.ls.getD a 0 - 1) / J2 r.ls (J4 row a))] at K;lia
  ·by_cases ct:r.ts.getD a false=true
   ·exact .inl ct
   ·right;have e:J1q r a row=(r.ls.getD a 0 - 1) / J2 r.ls (J4 row a):=by unfold J1q;rw [if_neg ct]
    rw [e] at hw;by_cases q:r.ls.getD a 0<=J2 r.ls (J4 row a)
    ·exact q
    ·have:=(Int.le_ediv_iff_mul_le (a:=1) (b:=r.ls.getD a 0 - 1) (c:=J2 r.ls (J4 row a)) (by lia)).mpr (by lia);lia
 by_cases n:r.ls.getD (lastB r) 0 < r.ls.getD (lastT r) 0
 ·rw [if_pos n];obtain ⟨g,z,y⟩:=i r.bot (lastT r) (h.perm.mem_iff.mpr mT) (fun j l=>h.rowB.pos j l) (fun e=>d e.symm);by_cases f:0 < J1q r (lastT r) r.bot
  ·rw [if_pos f];obtain ⟨w,v,u,s,o⟩:=z f;exact D _ d n w v g u s o
  ·rw [if_neg f];exact C d n (y f)
 ·rw [if_neg n];have m:r.ls.getD (lastT r) 0 < r.ls.getD (lastB r) 0:=by lia
  obtain ⟨g,z,y⟩:=i r.top (lastB r) mB (fun j l=>h.row.pos j l) d;by_cases f:0 < J1q r (lastB r) r.top
  ·rw [if_pos f];obtain ⟨w,v,u,s,o⟩:=z f;exact A _ d m w v g u s o
  ·rw [if_neg f];exact B d m (y f)
theorem Rst.Ok.next(h:r.Ok)(ne:r.top≠[]):((nextN r).behind r).Ok:=by
 have mT:=h.mT ne;have mB:=h.mB ne;have f:=h.perm.mem_iff.mpr mT;have b:=h.perm.mem_iff.mpr mB;have a:=h.rowB.nd;refine J2k h ne (p:=fun s=>(s.behind r).Ok) (fun _=>?_) (fun d c=>?_) (fun d c _=>?_) (fun d c _=>?_) (fun t d c n m l _ i g=>?_) (fun t d c n m l _ i g=>?_)
 ·refine h.less mT (J4t h.perm _) (by rw [length_set]) (fun j e=>?_) ?_
  ·rw [J2h _ _ _ _ (by rw [h.len];exact h.row.lt _ mT)];split
   ·rfl
   ·exact h.zt j e
  ·rw [J2h _ _ _ _ (by rw [h.len];exact h.row.lt _ mT),if_pos rfl]
 ·refine h.less mT ((J4t (J37 a b false) _).trans (J4t h.perm _)) (by rw [length_set,J2w]) (fun j e=>?_) ?_
  ·rw [J2h _ _ _ _ (by rw [J2w,h.len];exact h.row.lt _ mT)];split
   ·rfl
   ·exact J6t h mB j e
  ·rw [J2h _ _ _ _ (by rw [J2w,h.len];exact h.row.lt _ mT),if_pos rfl]
 ·exact h.of_rows (List.Perm.refl _) ((J37 a b _).trans h.perm) (by rw [length_set]) (J2w _ _ _) (Jax h mT (by lia)) (Jay h mT) (J6t h mB)
 ·exact h.of_rows (J37 h.row.nd mT _) h.perm (by rw [length_set]) (J2w _ _ _) (Jax h mB (by lia)) (Jay h mB) (J6t h mT)
 ·exact h.of_rows (List.Perm.refl _) h.perm (by rw [length_set]) rfl (Jax h mT (by lia)) (Jay h mT) h.zt
 ·exact h.of_rows (List.Perm.refl _) h.perm (by rw [length_set]) rfl (Jax h mB (by lia)) (Jay h mB) h.zt
theorem J7z:∀ (n:Nat) (row:List Nat),row.Nodup->(∀ j∈row,j < n)->row.length<=n
 | 0,row,_,h=>by
  cases row with
  | nil=>exact Nat.le_refl _
  | cons a r=>exact absurd (h a mem_cons_self) (Nat.not_lt_zero _)
 | n + 1,row,nd,h=>by
  by_cases c:n∈row
  ·have d:=J3y nd c;have e:=J7z n (withoutR row n) (J44 nd n) fun j b=>by
    have:=h j (J16.mp b).1;have:=(J16.mp b).2;lia
   lia
  ·have:=J7z n row nd fun j b=>by
    have d:=h j b
    grind
   lia
theorem Row.len_le(h:Row ls row):row.length<=ls.length:=J7z _ _ h.nd h.lt
theorem take_snoc{ks:List Nat}{i:Nat}(h:i < ks.length):ks.take (i + 1)=ks.take i ++ [ks.getD i 0]:=by
 rw [take_add_one,getD_eq_getElem?_getD,List.getElem?_eq_getElem h];rfl
theorem Ja1(h:row≠[]):row=row.dropLast ++ [row.getD (row.length - 1) 0]:=by
 have a:=List.length_pos_iff.mpr h;have e:row.getD (row.length - 1) 0=row.getLast h:=by
  rw [getD_eq_getElem?_getD,List.getElem?_eq_getElem (by lia),List.getLast_eq_getElem];rfl
 rw [e];exact (List.dropLast_concat_getLast h).symm
theorem J1p(xs a:List Nat)(x:Nat):withoutR (xs ++ a) x=withoutR xs x ++ withoutR a x:=by unfold withoutR;rw [filter_append]
theorem J1o(h:x ∉ xs):withoutR xs x=xs:=List.filter_eq_self.mpr fun j a=>decide_eq_true (fun e=>h (e ▸ a))
theorem J1x(x:Nat):withoutR [x] x=[]:=by unfold withoutR;simp
theorem J94(t:List Nat)(h:a ∉ s):(s ++ a :: t).idxOf a=s.length:=by
 grind
theorem J7f(ls:List Int)(p:Nat->Bool):∀ os ,(∀ j∈os,p j=false->ls.getD j 0=0)->J2 ls (os.filter p)=J2 ls os
 | [],_=>rfl
 | a :: r,h=>by
  have b:=J7f ls p r fun j d=>h j (mem_cons_of_mem _ d);rw [filter_cons,Jn]
  cases c:p a with
  | true=>rw [if_pos rfl,Jn,b]
  | false=>rw [if_neg (by decide),b,h a mem_cons_self c,Int.zero_add]
theorem Rst.Ok.size_sum{r:Rst}(h:r.Ok):r.size=r.ls.sum:=by
 have b:J2 r.ls (List.range r.ls.length)=r.ls.sum:=by unfold J2;rw [J3m]
 rw [<- b,<- J7f r.ls (fun j=>decide (j∈r.top)) (List.range r.ls.length) fun j _ a=>h.zl j (of_decide_eq_false a)];refine J2l ?_;refine (List.perm_ext_iff_of_nodup h.row.nd (nodup_range.filter _)).mpr fun j=>?_;rw [mem_filter,mem_range,decide_eq_true_iff];exact ⟨fun q=>⟨h.row.lt j q,q⟩,fun q=>q.2⟩
noncomputable def J2b(r:Rst):Stp->Prop
 | .home a=>a=lastT r/\a=lastB r
 | .even a b=>a=lastT r/\b=lastB r/\a≠b/\r.ls.getD a 0=r.ls.getD b 0
 | .over a b=>a=lastT r/\b=lastB r/\a≠b/\r.ls.getD b 0 < r.ls.getD a 0
 | .under a b=>a=lastB r/\b=lastT r/\a≠b/\r.ls.getD b 0 < r.ls.getD a 0
 | .overs a t=>a=lastT r/\a≠lastB r/\r.ts.getD a false=false/\1<=t/\1<=J2 r.ls (J4 r.bot a)/\t * J2 r.ls (J4 r.bot a) < r.ls.getD a 0
 | .unders a t=>a=lastB r/\a≠lastT r/\r.ts.getD a false=false/\1<=t/\1<=J2 r.ls (J4 r.top a)/\t * J2 r.ls (J4 r.top a) < r.ls.getD a 0
theorem J5m(h:r.Ok)(ne:r.top≠[]):J2b r (nextN r):=
 J2k h ne (p:=J2b r) (fun c=>⟨rfl,c⟩) (fun a b=>⟨rfl,rfl,a,b⟩) (fun a b _=>⟨rfl,rfl,a,b⟩) (fun a b _=>⟨rfl,rfl,fun e=>a e.symm,b⟩)
  (fun t a b i g f _ _ d=>⟨rfl,a,i,g,f,d⟩) (fun t a b i g f _ _ d=>⟨rfl,fun e=>a e.symm,i,g,f,d⟩)
theorem J2b.win(h:r.Ok)(ne:r.top≠[])(n:J2b r s):s.winner∈r.top:=by
 have mT:=h.mT ne;have mB:=h.mB ne
 cases s with
 | home a=>rw [ n.1];exact mT
 | even a b=>rw [ n.1];exact mT
 | over a b=>rw [ n.1];exact mT
 | under a b=>rw [ n.1];exact mB
 | overs a t=>rw [ n.1];exact mT
 | unders a t=>rw [ n.1];exact mB
theorem Rst.Ok.le_size{r:Rst}(h:r.Ok)(a:j∈r.top):r.ls.getD j 0<=r.size:=Jkh (fun j a=>by have:=h.row.pos j a;lia) a
theorem J2b.times(h:r.Ok)(ne:r.top≠[])(n:J2b r s)(i:r.size<=10 ^ 30):s.times.natAbs<=10 ^ 30:=by
 have hw:=h.le_size (n.win h ne);have c:∀ {t l s:Int},1<=t->1<=s->t * s < l->t<=l:=fun {t l s} m g j=>by
  have:t * 1<=t * s:=Int.mul_le_mul_of_nonneg_left g (by lia);lia
 cases s with
 | overs a t =>
  obtain ⟨_,_,_,f,e,d⟩:=n;have:=c f e d;show t.natAbs<=10 ^ 30;have hw:r.ls.getD a 0<=r.size:=hw;lia
 | unders a t =>
  obtain ⟨_,_,_,f,e,d⟩:=n;have:=c f e d;show t.natAbs<=10 ^ 30;have hw:r.ls.getD a 0<=r.size:=hw;lia
 | home a=>show (1:Int).natAbs<=10 ^ 30;decide
 | even a b=>show (1:Int).natAbs<=10 ^ 30;decide
 | over a b=>show (1:Int).natAbs<=10 ^ 30;decide
 | under a b=>show (1:Int).natAbs<=10 ^ 30;decide
theorem J2b.losers_lt(h:r.Ok)(ne:r.top≠[])(n:J2b r s):(∀ j∈s.losers r,j∈r.top)/\(s.losers r).length<=24:=by
 have mT:=h.mT ne;have mB:=h.mB ne;have l1:=Nat.le_trans h.row.len_le h.few;have d:=Nat.le_trans h.rowB.len_le h.few
 cases s with
 | home a=>exact ⟨fun j c=>absurd c (by simp [Stp.losers]),Nat.zero_le _⟩
 | even a b=>exact ⟨fun j c=>by rw [mem_singleton.mp c,n.2.1];exact mB,by show 1<=24;decide⟩
 | over a b=>exact ⟨fun j c=>by rw [mem_singleton.mp c,n.2.1];exact mB,by show 1<=24;decide⟩
 | under a b=>exact ⟨fun j c=>by rw [mem_singleton.mp c,n.2.1];exact mT,by show 1<=24;decide⟩
 | overs a t=>exact ⟨fun j c=>h.perm.mem_iff.mp (J1c c),by show (J4 r.bot a).length<=24;unfold J4;rw [length_drop];lia⟩
 | unders a t=>exact ⟨fun j c=>J1c c,by show (J4 r.top a).length<=24;unfold J4;rw [length_drop];lia⟩
theorem Jc9{r:Rst}(h:r.Ok):∀ {os:List Nat},os.Nodup->(∀ j∈os,j∈r.top)->J2 r.ls os<=r.size:=fun {os} nd d=>by
 have e:J2 r.ls (r.top.filter fun j=>decide (j∈os))=J2 r.ls os:=J2l ((List.perm_ext_iff_of_nodup (h.row.nd.filter _) nd).mpr fun j=>by
  rw [mem_filter,decide_eq_true_iff];exact ⟨fun q=>q.2,fun q=>⟨d j q,q⟩⟩)
 have f:∀ (p:Nat->Bool) (row:List Nat),(∀ j∈row,0<=r.ls.getD j 0)->J2 r.ls (row.filter p)<=J2 r.ls row:=by
  intro p row c
  induction row with
  | nil=>exact Int.le_refl _
  | cons a t ih =>
   rw [filter_cons,Jn];have i:=c a mem_cons_self;have g:=ih fun j b=>c j (mem_cons_of_mem _ b);split
   ·rw [Jn];lia
   ·lia
 rw [<- e];exact f _ _ fun j b=>by have:=h.row.pos j b;lia
theorem J2b.losers_nd(h:r.Ok){s:Stp}:(s.losers r).Nodup:=by
 cases s with
 | home a=>exact nodup_nil
 | even a b=>exact (by simp:[b].Nodup)
 | over a b=>exact (by simp:[b].Nodup)
 | under a b=>exact (by simp:[b].Nodup)
 | overs a t=>exact List.Sublist.nodup (List.drop_sublist _ _) h.rowB.nd
 | unders a t=>exact List.Sublist.nodup (List.drop_sublist _ _) h.row.nd
theorem Jk(ls:List Int)(v:Int):∀ {row:List Nat},a ∉ row->J2 (ls.set a v) row=J2 ls row
 | [],_=>rfl
 | b :: row,h=>by
  have c:a≠b:=fun e=>h (e ▸ mem_cons_self ..);rw [Jn,Jn,Jk ls v (row:=row) fun q=>h (mem_cons_of_mem _ q)];rw [getD_eq_getElem?_getD,getD_eq_getElem?_getD,getElem?_set_ne c]
theorem J4y(ls:List Int)(v:Int)(c:a < ls.length):∀ {row:List Nat},row.Nodup->a∈row->J2 (ls.set a v) row=J2 ls row - ls.getD a 0 + v
 | b :: row,nd,h=>by
  rw [nodup_cons] at nd;rw [Jn,Jn];by_cases e:a=b
  ·subst e;rw [Jk ls v nd.1,Jx _ _ _ _ c,if_pos rfl];lia
  ·have d:=(mem_cons.mp h).resolve_left e;rw [J4y ls v c nd.2 d,Jx _ _ _ _ c,if_neg (fun q=>e q.symm)];lia
theorem J6m(nd:row.Nodup)(b:a∈row):J2 ls (withoutR row a) + ls.getD a 0=J2 ls row:=by
 rw [<- J2l (J3f nd b),Jn];lia
theorem J8q(row:List Nat)(a:Nat):a ∉ withoutR row a:=fun h=>(J16.mp h).2 rfl
noncomputable def Jh6(ls:List Int)(a:List Nat)(t:Int)(row:List Nat):Int:=(row.map fun j=>if j∈a then ls.getD j 0 * (1 + t) else ls.getD j 0).sum
theorem Jh5(ls:List Int)(a:List Nat)(t:Int)(j:Nat)(row:List Nat):Jh6 ls a t (j :: row)=(if j∈a then ls.getD j 0 * (1 + t) else ls.getD j 0) + Jh6 ls a t row:=by
 rfl
theorem Jfv(ls:List Int)(a:List Nat)(t:Int):∀ row ,Jh6 ls a t row=J2 ls row + t * J2 ls (row.filter fun j=>decide (j∈a))
 | []=>by unfold Jh6;simp [J21]
 | j :: row=>by
  rw [Jh5,Jn,Jfv ls a t row,filter_cons];by_cases c:j∈a
  ·rw [if_pos c,if_pos (decide_eq_true c),Jn,Int.mul_add,Int.mul_add,Int.mul_one,Int.mul_comm (ls.getD j 0) t];lia
  ·rw [if_neg c,if_neg (by simpa using c)];lia
theorem J98{row:List Nat}(nd:row.Nodup)(a:los.Nodup)(b:∀ j∈los,j∈row):(row.filter fun j=>decide (j∈los)).Perm los:=by
 refine (List.perm_ext_iff_of_nodup (nd.filter _) a).mpr fun j=>?_;rw [mem_filter,decide_eq_true_iff];exact ⟨fun q=>q.2,fun q=>⟨b j q,q⟩⟩
noncomputable def Stp.isHome:Stp->Bool
 | .home _=>true | _=>false
noncomputable def Stp.drops:Stp->Bool
 | .home _=>true | .even _ _=>true | _=>false
theorem J1w(nd:row.Nodup)(b:a∈row):a ∉ J4 row a:=fun h=>by
 unfold J4 at h;obtain ⟨i,hi,e⟩:=getElem_of_mem h;rw [List.getElem_drop] at e;have d:=idxOf_lt_length_iff.mpr b;have c:=getElem_idxOf d;have f:=(getElem_inj nd).mp (e.trans c.symm);lia
structure Down(r:Rst)(s:Stp):Prop where
 size:(s.behind r).size + s.times * J2 r.ls (s.losers r) + (if s.isHome=true then r.ls.getD s.winner 0 else 0)=r.size
 less:(s.behind r).size < r.size
 made:Jh6 (s.behind r).ls (s.losers r) s.times (s.behind r).top=(s.behind r).size + s.times * J2 r.ls (s.losers r)
 sub:∀ j∈(s.behind r).top,j∈r.top
 len:(s.behind r).top.length + (if s.drops=true then 1 else 0)=r.top.length
theorem J3w{r l:Rst}(nd:l.top.Nodup)(c:los.Nodup)(d:∀ j∈los,j∈l.top)(b:l.ls=r.ls.set a v)(e:a ∉ los):
  Jh6 l.ls los t l.top=l.size + t * J2 r.ls los:=by
 rw [Jfv,J2l (J98 nd c d)];rw [b,Jk _ _ e,<- b];rfl
theorem Rst.Ok.down(h:r.Ok)(ne:r.top≠[]):Down r (nextN r):=by
 have n:=J5m h ne;have ok:=h.next ne;have w:=n.win h ne;have mT:=h.mT ne;have mB:=h.mB ne;have nd:=h.row.nd;have C:=h.rowB.nd;have m:=J2b.losers_nd h (s:=nextN r);have f:=h.row.lt;have pos:=h.row.pos;generalize nextN r=s at *
 cases s with
 | home a =>
  have d:a∈r.top:=w;have sz:((Stp.home a).behind r).size=J2 r.ls (withoutR r.top a):=Jk _ _ (J8q _ _);have e:=J6m (ls:=r.ls) nd d;have p:=pos a d;have y:r.size=J2 r.ls r.top:=rfl;refine ⟨?_,by lia,?_,fun j c=>(J16.mp c).1,J3y nd d⟩
  ·show ((Stp.home a).behind r).size + 1 * J2 r.ls [] + (if true=true then r.ls.getD a 0 else 0)=r.size;rw [if_pos rfl,J21];lia
  ·exact J3w (a:=a) (v:=0) ok.row.nd m (fun j c=>nomatch c) rfl (fun q=>nomatch q)
 | even a b =>
  obtain ⟨A,l,i,o⟩:=n;have d:a∈r.top:=w;have g:b∈r.top:=by rw [l];exact mB
  have sz:((Stp.even a b).behind r).size=J2 r.ls (withoutR r.top a):=Jk _ _ (J8q _ _);have e:=J6m (ls:=r.ls) nd d;have p:=pos a d;have y:r.size=J2 r.ls r.top:=rfl;have u:J2 r.ls [b]=r.ls.getD b 0:=by rw [Jn,J21,Int.add_zero]
  refine ⟨?_,by lia,?_,fun j c=>(J16.mp c).1,J3y nd d⟩
  ·show ((Stp.even a b).behind r).size + 1 * J2 r.ls [b] + (if false=true then r.ls.getD a 0 else 0)=r.size;rw [if_neg (by decide),u];lia
  ·refine J3w (a:=a) (v:=0) ok.row.nd m (fun j c=>?_) rfl (fun q=>?_)
   ·cases mem_singleton.mp c;exact J16.mpr ⟨g,fun e=>i e.symm⟩
   ·exact i (mem_singleton.mp q)
 | over a b =>
  obtain ⟨A,l,i,o⟩:=n;have d:=w;have g:b∈r.top:=by rw [l];exact mB
  have sz:((Stp.over a b).behind r).size=J2 r.ls r.top - r.ls.getD a 0 + (r.ls.getD a 0 - r.ls.getD b 0):=J4y _ _ (f a d) nd d;have p:=pos b g;have y:r.size=J2 r.ls r.top:=rfl;have u:J2 r.ls [b]=r.ls.getD b 0:=by rw [Jn,J21,Int.add_zero]
  refine ⟨?_,by lia,?_,fun j c=>c,rfl⟩
  ·show ((Stp.over a b).behind r).size + 1 * J2 r.ls [b] + (if false=true then r.ls.getD a 0 else 0)=r.size;rw [if_neg (by decide),u];lia
  ·refine J3w (a:=a) (v:=r.ls.getD a 0 - r.ls.getD b 0) ok.row.nd m (fun j c=>?_) rfl (fun q=>?_)
   ·cases mem_singleton.mp c;exact g
   ·exact i (mem_singleton.mp q)
 | under a b =>
  obtain ⟨A,l,i,o⟩:=n;have d:a∈r.top:=w;have g:b∈r.top:=by rw [l];exact mT
  have z:=J37 nd (w:=a) g (r.ts.getD a false);have sz:((Stp.under a b).behind r).size=J2 r.ls r.top - r.ls.getD a 0 + (r.ls.getD a 0 - r.ls.getD b 0):=(J2l z).trans (J4y _ _ (f a d) nd d);have p:=pos b g;have y:r.size=J2 r.ls r.top:=rfl;have u:J2 r.ls [b]=r.ls.getD b 0:=by rw [Jn,J21,Int.add_zero]
  refine ⟨?_,by lia,?_,fun j c=>z.mem_iff.mp c,z.length_eq⟩
  ·show ((Stp.under a b).behind r).size + 1 * J2 r.ls [b] + (if false=true then r.ls.getD a 0 else 0)=r.size;rw [if_neg (by decide),u];lia
  ·refine J3w (a:=a) (v:=r.ls.getD a 0 - r.ls.getD b 0) ok.row.nd m (fun j c=>?_) rfl (fun q=>?_)
   ·cases mem_singleton.mp c;exact z.mem_iff.mpr g
   ·exact i (mem_singleton.mp q)
 | overs a t =>
  obtain ⟨A,l,i,o,D,E⟩:=n;have d:a∈r.top:=w;have B:a∈r.bot:=h.perm.mem_iff.mpr d;have sz:((Stp.overs a t).behind r).size=J2 r.ls r.top - r.ls.getD a 0 + (r.ls.getD a 0 - t * J2 r.ls (J4 r.bot a)):=J4y _ _ (f a d) nd d;have y:r.size=J2 r.ls r.top:=rfl;have p:1<=t * J2 r.ls (J4 r.bot a):=by
   have:=Int.mul_le_mul o D (by decide) (by lia);lia
  refine ⟨?_,by lia,?_,fun j c=>c,rfl⟩
  ·show ((Stp.overs a t).behind r).size + t * J2 r.ls (J4 r.bot a) + (if false=true then r.ls.getD a 0 else 0)=r.size;rw [if_neg (by decide)];lia
  ·exact J3w (a:=a) ok.row.nd m (fun j c=>h.perm.mem_iff.mp (J1c c)) rfl (J1w C B)
 | unders a t =>
  obtain ⟨A,l,i,o,D,E⟩:=n;have d:a∈r.top:=w;have sz:((Stp.unders a t).behind r).size=J2 r.ls r.top - r.ls.getD a 0 + (r.ls.getD a 0 - t * J2 r.ls (J4 r.top a)):=J4y _ _ (f a d) nd d;have y:r.size=J2 r.ls r.top:=rfl;have p:1<=t * J2 r.ls (J4 r.top a):=by
   have:=Int.mul_le_mul o D (by decide) (by lia);lia
  refine ⟨?_,by lia,?_,fun j c=>c,rfl⟩
  ·show ((Stp.unders a t).behind r).size + t * J2 r.ls (J4 r.top a) + (if false=true then r.ls.getD a 0 else 0)=r.size;rw [if_neg (by decide)];lia
  ·exact J3w (a:=a) ok.row.nd m (fun j c=>J1c c) rfl (J1w nd d)
noncomputable def fS(f:Nat->Int)(row:List Nat):Int:=(row.map f).sum
theorem fS_nil(f:Nat->Int):fS f []=0:=rfl
theorem J3d(f:Nat->Int)(j:Nat)(row:List Nat):fS f (j :: row)=f j + fS f row:=by rfl
theorem Jbh(h:xs.Perm ys):fS f xs=fS f ys:=Jb7 (h.map _)
theorem J86 :∀ {row:List Nat},(∀ j∈row,f j=g j)->fS f row=fS g row
 | [],_=>rfl
 | j :: row,h=>by
  rw [J3d,J3d,h j mem_cons_self,J86 fun i hi=>h i (mem_cons_of_mem _ hi)]
theorem Jq6(f g:Nat->Int):∀ row ,fS (fun j=>f j + g j) row=fS f row + fS g row
 | []=>rfl
 | j :: row=>by
  rw [J3d,J3d,J3d,Jq6 f g row];lia
theorem Jah(nd:row.Nodup)(b:a∈row):fS f (withoutR row a) + f a=fS f row:=by
 rw [<- Jbh (J3f nd b),J3d];lia
theorem fS_if(c:Int)(f:Nat->Int)(a:List Nat):∀ row ,fS (fun j=>if j∈a then c * f j else 0) row=c * fS f (row.filter fun j=>decide (j∈a))
 | []=>by simp [fS_nil]
 | j :: row=>by
  rw [J3d,fS_if c f a row,filter_cons];by_cases q:j∈a
  ·rw [if_pos q,if_pos (decide_eq_true q),J3d,Int.mul_add]
  ·simp_all
theorem Jcl :∀ {row:List Nat},(∀ j∈row,0<=f j)->0<=fS f row
 | [],_=>Int.le_refl _
 | j :: row,h=>by
  rw [J3d];have:=h j mem_cons_self;have:=Jcl fun i hi=>h i (mem_cons_of_mem _ hi);lia
theorem Jq5 :∀ {row:List Nat},(∀ j∈row,0<=f j)->∀ {j:Nat},j∈row->f j<=fS f row
 | a :: row,h,j,hj=>by
  rw [J3d];have c:=h a mem_cons_self;have b:=Jcl fun i hi=>h i (mem_cons_of_mem _ hi);rcases mem_cons.mp hj with rfl | hj
  ·lia
  ·have:=Jq5 (fun i hi=>h i (mem_cons_of_mem _ hi)) hj;lia
noncomputable def towB(s:Stp)(r:Rst)(T:List Int):List Int:=(List.range T.length).map fun j=>if j∈(s.behind r).top then (if j∈s.losers r then T.getD j 0 + T.getD s.winner 0 * s.times else T.getD j 0) else 0
theorem Jet(s:Stp)(r:Rst)(T:List Int):(towB s r T).length=T.length:=by unfold towB;rw [length_map,length_range]
theorem Jeu(s:Stp)(r:Rst)(T:List Int)(h:j < T.length):(towB s r T).getD j 0=if j∈(s.behind r).top then (if j∈s.losers r then T.getD j 0 + T.getD s.winner 0 * s.times else T.getD j 0) else 0:=by
 unfold towB;rw [getD_eq_getElem?_getD,getElem?_map,getElem?_range h];rfl
noncomputable def wS(ls T:List Int)(row:List Nat):Int:=fS (fun j=>ls.getD j 0 * T.getD j 0) row
theorem Ji0{r l:Rst}(nd:r.top.Nodup)(i:a∈r.top)(m:a < r.ls.length)(s:los.Nodup)(u:∀ j∈los,j∈l.top)(B:a ∉ los)(g:l.ls=r.ls.set a v)(d:l.top.Nodup)(w:∀ j∈l.top,T'.getD j 0=T.getD j 0 + (if j∈los then T.getD a 0 * t else 0))(b:l.top.Perm r.top\/(l.top.Perm (withoutR r.top a)/\v=0)):
  wS l.ls T' l.top=wS r.ls T r.top - r.ls.getD a 0 * T.getD a 0 + v * T.getD a 0 + T.getD a 0 * t * J2 r.ls los:=by
 have z:wS l.ls T' l.top=wS l.ls T l.top + T.getD a 0 * t * J2 r.ls los:=by
  have c:wS l.ls T' l.top=fS (fun j=>l.ls.getD j 0 * T.getD j 0 + (if j∈los then (T.getD a 0 * t) * l.ls.getD j 0 else 0)) l.top:=J86 fun j h=>by
   rw [w j h,Int.mul_add];by_cases q:j∈los
   ·rw [if_pos q,if_pos q,Int.mul_comm (l.ls.getD j 0) (T.getD a 0 * t)]
   ·rw [if_neg q,if_neg q,Int.mul_zero]
  rw [c,Jq6,fS_if];have e:fS (fun j=>l.ls.getD j 0) (l.top.filter fun j=>decide (j∈los))=J2 r.ls los:=by
   rw [Jbh (J98 d s u)];show J2 l.ls los=_;rw [g,Jk _ _ B]
  rw [e];rfl
 have A:l.ls.getD a 0=v:=by rw [g,Jx _ _ _ _ m,if_pos rfl]
 have o:fS (fun j=>l.ls.getD j 0 * T.getD j 0) (withoutR r.top a)=fS (fun j=>r.ls.getD j 0 * T.getD j 0) (withoutR r.top a):=J86 fun j h=>by
  have q:=(J16.mp h).2;rw [g,Jx _ _ _ _ m,if_neg q]
 have n:=Jah (f:=fun j=>r.ls.getD j 0 * T.getD j 0) nd i;have y:wS l.ls T l.top=wS r.ls T r.top - r.ls.getD a 0 * T.getD a 0 + v * T.getD a 0:=by
  rcases b with p | ⟨p,rfl⟩
  ·have e:=Jah (f:=fun j=>l.ls.getD j 0 * T.getD j 0) nd i;unfold wS;rw [Jbh p,<- e,o];simp only [A] at *;lia
  ·unfold wS;rw [Jbh p,o];simp only [Int.zero_mul] at *;lia
 rw [z,y]
theorem J6h(h:r.Ok)(ne:r.top≠[]):if (nextN r).drops=true then ((nextN r).behind r).top=withoutR r.top (nextN r).winner else ((nextN r).behind r).top.Perm r.top:=by
 refine J2k h ne (p:=fun s=>if s.drops=true then (s.behind r).top=withoutR r.top s.winner else (s.behind r).top.Perm r.top) (fun _=>?_) (fun _ _=>?_) (fun _ _ _=>?_) (fun _ _ _=>?_) (fun t _ _ _ _ _ _ _ _=>?_) (fun t _ _ _ _ _ _ _ _=>?_)
 ·rfl
 ·rfl
 ·exact List.Perm.refl _
 ·exact J37 h.row.nd (h.mT ne) _
 ·exact List.Perm.refl _
 ·exact List.Perm.refl _
structure LosP(r:Rst)(s:Stp):Prop where
 sub:∀ j∈s.losers r,j∈(s.behind r).top
 no:s.winner ∉ s.losers r
 one:1<=s.times
 tl:s.isHome=false->r.ls.getD s.winner 0 - s.times * J2 r.ls (s.losers r)=(s.behind r).ls.getD s.winner 0
 ls:(s.behind r).ls=r.ls.set s.winner ((s.behind r).ls.getD s.winner 0)
 zero:s.drops=true->(s.behind r).ls.getD s.winner 0=0
theorem Joi(h:r.Ok)(ne:r.top≠[]):LosP r (nextN r):=by
 have n:=J5m h ne;have w:=n.win h ne;have mT:=h.mT ne;have mB:=h.mB ne;have nd:=h.row.nd;have u:=h.rowB.nd;have y:=h.row.lt;generalize nextN r=s at *;have c:∀ (v:Int),(r.ls.set s.winner v).getD s.winner 0=v:=fun v=>by rw [Jx _ _ _ _ (y _ w),if_pos rfl]
 have d:∀ b,J2 r.ls [b]=r.ls.getD b 0:=fun b=>by rw [Jn,J21,Int.add_zero]
 cases s with
 | home a =>
  have c:∀ (v:Int),(r.ls.set a v).getD a 0=v:=c;refine ⟨fun j f=>(nomatch f),fun q=>(nomatch q),Int.le_refl _,fun q=>(nomatch q),?_,fun _=>c 0⟩;show r.ls.set a 0=r.ls.set a ((r.ls.set a 0).getD a 0);rw [c]
 | even a b =>
  obtain ⟨o,i,g,m⟩:=n;have c:∀ (v:Int),(r.ls.set a v).getD a 0=v:=c;have l:b∈r.top:=by rw [i];exact mB
  refine ⟨fun j f=>?_,fun q=>g (mem_singleton.mp q),Int.le_refl _,fun _=>?_,?_,fun _=>c 0⟩
  ·cases mem_singleton.mp f;exact J16.mpr ⟨l,fun e=>g e.symm⟩
  ·show r.ls.getD a 0 - 1 * J2 r.ls [b]=(r.ls.set a 0).getD a 0;rw [c,d];lia
  ·show r.ls.set a 0=r.ls.set a ((r.ls.set a 0).getD a 0);rw [c]
 | over a b =>
  obtain ⟨o,i,g,m⟩:=n;have c:∀ (v:Int),(r.ls.set a v).getD a 0=v:=c;have l:b∈r.top:=by rw [i];exact mB
  refine ⟨fun j f=>?_,fun q=>g (mem_singleton.mp q),Int.le_refl _,fun _=>?_,?_,fun q=>nomatch q⟩
  ·cases mem_singleton.mp f;exact l
  ·show r.ls.getD a 0 - 1 * J2 r.ls [b]=(r.ls.set a (r.ls.getD a 0 - r.ls.getD b 0)).getD a 0;rw [c,d];lia
  ·show r.ls.set a _=r.ls.set a ((r.ls.set a (r.ls.getD a 0 - r.ls.getD b 0)).getD a 0);rw [c]
 | under a b =>
  obtain ⟨o,i,g,m⟩:=n;have c:∀ (v:Int),(r.ls.set a v).getD a 0=v:=c;have l:b∈r.top:=by rw [i];exact mT
  have z:=J37 nd (w:=a) l (r.ts.getD a false);refine ⟨fun j f=>?_,fun q=>g (mem_singleton.mp q),Int.le_refl _,fun _=>?_,?_,fun q=>nomatch q⟩
  ·cases mem_singleton.mp f;exact z.mem_iff.mpr l
  ·show r.ls.getD a 0 - 1 * J2 r.ls [b]=(r.ls.set a (r.ls.getD a 0 - r.ls.getD b 0)).getD a 0;rw [c,d];lia
  ·show r.ls.set a _=r.ls.set a ((r.ls.set a (r.ls.getD a 0 - r.ls.getD b 0)).getD a 0);rw [c]
 | overs a t =>
  obtain ⟨o,i,g,m,B,A⟩:=n;have c:∀ (v:Int),(r.ls.set a v).getD a 0=v:=c;have p:a∈r.bot:=h.perm.mem_iff.mpr w;refine ⟨fun j f=>h.perm.mem_iff.mp (J1c f),J1w u p,m,fun _=>?_,?_,fun q=>nomatch q⟩
  ·show r.ls.getD a 0 - t * J2 r.ls (J4 r.bot a)=(r.ls.set a (r.ls.getD a 0 - t * J2 r.ls (J4 r.bot a))).getD a 0;rw [c]
  ·show r.ls.set a _=r.ls.set a ((r.ls.set a (r.ls.getD a 0 - t * J2 r.ls (J4 r.bot a))).getD a 0);rw [c]
 | unders a t =>
  obtain ⟨o,i,g,m,B,A⟩:=n;have c:∀ (v:Int),(r.ls.set a v).getD a 0=v:=c;refine ⟨fun j f=>J1c f,J1w nd w,m,fun _=>?_,?_,fun q=>nomatch q⟩
  ·show r.ls.getD a 0 - t * J2 r.ls (J4 r.top a)=(r.ls.set a (r.ls.getD a 0 - t * J2 r.ls (J4 r.top a))).getD a 0;rw [c]
  ·show r.ls.set a _=r.ls.set a ((r.ls.set a (r.ls.getD a 0 - t * J2 r.ls (J4 r.top a))).getD a 0);rw [c]
structure Tow(r:Rst)(T:List Int):Prop where
 len:T.length=r.ls.length
 pos:∀ j∈r.top,1<=T.getD j 0
 sum:wS r.ls T r.top<=10 ^ 30
theorem Tow.le(h:r.Ok)(t:Tow r T)(a:j∈r.top):T.getD j 0<=10 ^ 30:=by
 have c:r.ls.getD j 0 * T.getD j 0<=wS r.ls T r.top:=Jq5 (f:=fun j=>r.ls.getD j 0 * T.getD j 0) (fun i hi=>Int.mul_nonneg (by have:=h.row.pos i hi;lia) (by have:=t.pos i hi;lia)) a;have b:1 * T.getD j 0<=r.ls.getD j 0 * T.getD j 0:=Int.mul_le_mul_of_nonneg_right (h.row.pos j a) (by have:=t.pos j a;lia);have:=t.sum;lia
theorem J7c(h:r.Ok)(ne:r.top≠[])(b:T.length=r.ls.length)(a:j∈((nextN r).behind r).top):
  (towB (nextN r) r T).getD j 0=T.getD j 0 + (if j∈(nextN r).losers r then T.getD (nextN r).winner 0 * (nextN r).times else 0):=by
 rw [Jeu _ _ _ (by rw [b];exact h.row.lt j ((h.down ne).sub j a)),if_pos a];split <;> lia
theorem Rst.Ok.stay(h:r.Ok)(ne:r.top≠[])(g:T.length=r.ls.length):
  wS ((nextN r).behind r).ls (towB (nextN r) r T) ((nextN r).behind r).top + (if (nextN r).isHome=true then r.ls.getD (nextN r).winner 0 * T.getD (nextN r).winner 0 else 0)=wS r.ls T r.top:=by
 have n:=J5m h ne;have w:=n.win h ne;have L:=Joi h ne;have okl:=h.next ne;have b:=J2b.losers_nd h (s:=nextN r);have tp:=J6h h ne;have a:=fun j=>J7c (j:=j) h ne (T:=T) g;have e:=Ji0 (T:=T) (T':=towB (nextN r) r T) (t:=(nextN r).times) h.row.nd w (h.row.lt _ w) b L.sub L.no L.ls okl.row.nd (fun j f=>a j f) (by
  by_cases c:(nextN r).drops=true
  ·rw [if_pos c] at tp;exact .inr ⟨by rw [tp],L.zero c⟩
  ·rw [if_neg c] at tp;exact .inl tp)
 rw [e];by_cases c:(nextN r).isHome=true
 ·have d:(nextN r).drops=true:=by
   generalize nextN r=s at *;cases s <;> first | rfl | exact absurd c Bool.false_ne_true
  have l0:J2 r.ls ((nextN r).losers r)=0:=by
   generalize nextN r=s at *;cases s <;> first | rfl | exact absurd c Bool.false_ne_true
  rw [if_pos c,L.zero d,l0];lia
 ·rw [if_neg c];have t:=L.tl (by simpa using c);rw [<- t,Int.sub_mul,Int.mul_comm (T.getD (nextN r).winner 0) (nextN r).times,Int.mul_assoc,Int.mul_assoc,Int.mul_comm (T.getD (nextN r).winner 0) (J2 r.ls ((nextN r).losers r))];lia
theorem Tow.next(h:r.Ok)(ne:r.top≠[])(t:Tow r T):Tow ((nextN r).behind r) (towB (nextN r) r T):=by
 have L:=Joi h ne;have w:=(J5m h ne).win h ne;have b:=t.pos _ w;have st:=h.stay ne t.len;refine ⟨?_,fun j a=>?_,?_⟩
 ·rw [Jet,t.len,L.ls,length_set]
 ·rw [J7c h ne t.len a];have:=t.pos j ((h.down ne).sub j a);have m:=Int.mul_le_mul b L.one (by decide) (by lia);split <;> lia
 ·have:=t.sum;have z:0<=r.ls.getD (nextN r).winner 0 * T.getD (nextN r).winner 0:=Int.mul_nonneg (by have:=h.row.pos _ w;lia) (by lia);by_cases c:(nextN r).isHome=true
  ·rw [if_pos c] at st;lia
  ·rw [if_neg c] at st;lia
noncomputable def lg(x:Int):Nat:=Nat.log2 x.toNat
theorem lg_le(d:1<=x)(h:x<=y):lg x<=lg y:=by
 unfold lg;have c:x.toNat≠0:=by lia
 have b:y.toNat≠0:=by lia
 have a:=(Nat.le_log2 c (k:=x.toNat.log2)).mp (Nat.le_refl _);exact (Nat.le_log2 b).mpr (by lia)
theorem lg_dbl(i:1<=x)(g:1<=y)(h:lg x<=lg y)(f:x + y<=z):lg x + 1<=lg z:=by
 unfold lg at *;have e:x.toNat≠0:=by lia
 have d:y.toNat≠0:=by lia
 have c:z.toNat≠0:=by lia
 have a:=(Nat.le_log2 e (k:=x.toNat.log2)).mp (Nat.le_refl _);have b:=(Nat.le_log2 d (k:=x.toNat.log2)).mp h;refine (Nat.le_log2 c).mpr ?_;rw [Nat.pow_succ];lia
theorem Jon(b:1<=x)(h:x<=10 ^ 30):lg x<=99:=by
 unfold lg;have a:x.toNat≠0:=by lia
 have:=(Nat.log2_lt a (k:=100)).mpr (by lia);lia
noncomputable def nS(f:Nat->Nat)(row:List Nat):Nat:=(row.map f).sum
theorem J72(f:Nat->Nat)(j:Nat)(row:List Nat):nS f (j :: row)=f j + nS f row:=by rfl
theorem Jk5(h:xs.Perm ys):nS f xs=nS f ys:=by
 unfold nS
 grind
theorem Js2 :∀ {row:List Nat},(∀ j∈row,f j<=g j)->nS f row<=nS g row
 | [],_=>Nat.le_refl _
 | j :: row,h=>by
  rw [J72,J72];have:=h j mem_cons_self;have:=Js2 fun i hi=>h i (mem_cons_of_mem _ hi);lia
theorem nS_lt :∀ {row:List Nat},(∀ j∈row,f j<=g j)->∀ {b:Nat},b∈row->f b < g b->nS f row < nS g row
 | j :: row,h,b,hb,hlt=>by
  rw [J72,J72];have c:=h j mem_cons_self;have a:=Js2 fun i hi=>h i (mem_cons_of_mem _ hi);rcases mem_cons.mp hb with rfl | hb
  ·lia
  ·have:=nS_lt (fun i hi=>h i (mem_cons_of_mem _ hi)) hb hlt;lia
theorem Jab(nd:row.Nodup)(b:a∈row):nS f (withoutR row a) + f a=nS f row:=by
 rw [<- Jk5 (J3f nd b),J72];lia
theorem Jpy :∀ {row:List Nat},(∀ j∈row,f j<=c)->nS f row<=row.length * c
 | [],_=>Nat.zero_le _
 | j :: row,h=>by
  rw [J72,length_cons,Nat.succ_mul];have:=h j mem_cons_self;have:=Jpy fun i hi=>h i (mem_cons_of_mem _ hi);lia
noncomputable abbrev fE(T:List Int)(row:List Nat):Nat:=nS (fun j=>100 - lg (T.getD j 0)) row
noncomputable def need(ls:List Int):Int->List Nat->Nat
 | _,[]=>0
 | x,b :: bs=>if x<=ls.getD b 0 then 1 else 1 + need ls (x - ls.getD b 0) bs
theorem Jfs(ls:List Int):∀ (x:Int) (bs:List Nat),need ls x bs<=bs.length
 | _,[]=>Nat.le_refl _
 | x,b :: bs=>by
  unfold need;have:=Jfs ls (x - ls.getD b 0) bs;rw [length_cons]
  grind
theorem Jft(ls:List Int)(a:List Nat):∀ (x:Int) (bs:List Nat),1<=x->x<=J2 ls bs->need ls x (bs ++ a)=need ls x bs
 | x,[],h1,h2=>by rw [J21] at h2;lia
 | x,b :: bs,h1,h2=>by
  rw [Jn] at h2;rw [cons_append];unfold need;by_cases c:x<=ls.getD b 0
  ·rw [if_pos c,if_pos c]
  ·rw [if_neg c,if_neg c,Jft ls a (x - ls.getD b 0) bs (by lia) (by lia)]
theorem Jaa :∀ (x:Int) {bs:List Nat},(∀ j∈bs,ls.getD j 0=ls'.getD j 0)->need ls x bs=need ls' x bs
 | _,[],_=>rfl
 | x,b :: bs,h=>by
  unfold need;rw [h b mem_cons_self,Jaa (x - ls'.getD b 0) fun j a=>h j (mem_cons_of_mem _ a)]
noncomputable def mu(r:Rst):Stp->Nat
 | .over a _=>if r.ts.getD a false=true then (J4 r.bot a).length else need r.ls (r.ls.getD a 0) (J4 r.bot a).reverse
 | .under a _=>if r.ts.getD a false=true then (J4 r.top a).length else need r.ls (r.ls.getD a 0) (J4 r.top a).reverse
 | .overs _ _=>25
 | .unders _ _=>25
 | _=>0
theorem Jho(row:List Nat)(a:Nat):(J4 row a).length<=row.length:=by unfold J4;rw [length_drop];lia
theorem J6i{ts:List Bool}(h:row.length<=24):(if ts.getD a false=true then (J4 row a).length else need ls (ls.getD a 0) (J4 row a).reverse)<=24:=by
 have c:=Jho row a;have b:=Jfs ls (ls.getD a 0) (J4 row a).reverse
 grind
theorem Rst.Ok.len24{r:Rst}(h:r.Ok):r.top.length<=24/\r.bot.length<=24:=⟨Nat.le_trans h.row.len_le h.few,Nat.le_trans h.rowB.len_le h.few⟩
theorem mu_le(h:r.Ok)(s:Stp):mu r s<=25:=by
 obtain ⟨d,c⟩:=h.len24
 cases s with
 | over a b=>exact Nat.le_succ_of_le (J6i c)
 | under a b=>exact Nat.le_succ_of_le (J6i d)
 | _=>first | exact Nat.le_refl _ | exact Nat.zero_le _
theorem J79(t:List Nat)(h:a ∉ s):J4 (s ++ a :: t) a=t:=by
 unfold J4;rw [J94 t h,show s ++ a :: t=(s ++ [a]) ++ t by simp,show s.length + 1=(s ++ [a]).length by simp,drop_left]
theorem Jhn(nd:row.Nodup)(i:a∈row)(hb:row.getD (row.length - 1) 0=b)(c:a≠b):
  ∃ q,J4 row a=q ++ [b]/\J4 (putR row a b false) a=b :: q/\J4 (putR row a b true) a=q/\a ∉ q:=by
 have g:row≠[]:=fun e=>by rw [e] at i;cases i
 have e:=Ja1 g;rw [hb] at e;generalize row.dropLast=d at e;subst e;have h:=(mem_append.mp i).resolve_right fun q=>c (mem_singleton.mp q);obtain ⟨s,t,rfl⟩:=List.append_of_mem h;have m:=nodup_append.mp nd;have l:=nodup_append.mp m.1;have p:=nodup_cons.mp l.2.1;have f:=fun q=>l.2.2 a q a mem_cons_self rfl;have r:=fun q=>m.2.2 b q b (by simp) rfl;have at_:=p.1
 have j:withoutR (s ++ a :: t ++ [b]) b=s ++ a :: t:=by
  rw [J1p,J1x,append_nil];exact J1o r
 have o:(s ++ a :: t).take (s.length + 1)=s ++ [a]:=by
  rw [show s ++ a :: t=(s ++ [a]) ++ t by simp,show s.length + 1=(s ++ [a]).length by simp,List.take_left]
 have n:(s ++ a :: t).drop (s.length + 1)=t:=by
  rw [show s ++ a :: t=(s ++ [a]) ++ t by simp,show s.length + 1=(s ++ [a]).length by simp,drop_left]
 refine ⟨t,?_,?_,?_,at_⟩
 ·rw [show s ++ a :: t ++ [b]=s ++ a :: (t ++ [b]) by simp];exact J79 _ f
 ·unfold putR;rw [j,J94 t f,if_neg (by decide),o,n];rw [show s ++ [a] ++ [b] ++ t=s ++ a :: (b :: t) by simp];exact J79 _ f
 ·unfold putR;rw [j,J94 t f,if_pos rfl,List.take_left,drop_left];refine J79 _ fun q=>?_;rcases mem_append.mp q with q | q
  ·exact f q
  ·exact c (mem_singleton.mp q)
theorem J47(b:a∈row)(h:row.getD (row.length - 1) 0≠a):row.getD (row.length - 1) 0∈J4 row a:=by
 have c:=idxOf_lt_length_iff.mpr b;have g:=getElem_idxOf c;have d:row.length - 1 < row.length:=by lia
 have e:row.getD (row.length - 1) 0=row[row.length - 1]:=by simp_all
 rw [e] at h ⊢;have f:row.idxOf a≠row.length - 1:=fun q=>h (by simp_all);unfold J4;refine List.mem_iff_getElem.mpr ⟨row.length - 1 - (row.idxOf a + 1),by grind,?_⟩;rw [List.getElem_drop]
 congr 1
 lia
theorem Jbb(ls:List Int)(row:List Nat):J2 ls row.reverse=J2 ls row:=J2l (List.reverse_perm row)
theorem Jk6{ts ts':List Bool}(nd:row.Nodup)(u:a∈row)(hb:row.getD (row.length - 1) 0=b)(d:a≠b)(f:a < ls.length)(s:1<=ls.getD b 0)(p:ls.getD b 0 < ls.getD a 0)(r:ts.getD a false=true\/ls.getD a 0<=J2 ls (J4 row a))(n:ts'.getD a false=ts.getD a false):
  ((if ts'.getD a false=true then (J4 (putR row a b (ts.getD a false)) a).length else need (ls.set a (ls.getD a 0 - ls.getD b 0)) ((ls.set a (ls.getD a 0 - ls.getD b 0)).getD a 0) (J4 (putR row a b (ts.getD a false)) a).reverse) <
  (if ts.getD a false=true then (J4 row a).length else need ls (ls.getD a 0) (J4 row a).reverse))/\
  (ts'.getD a false=false->¬ J2 (ls.set a (ls.getD a 0 - ls.getD b 0)) (J4 (putR row a b (ts.getD a false)) a) < (ls.set a (ls.getD a 0 - ls.getD b 0)).getD a 0):=by
 obtain ⟨q,g,m,l,h⟩:=Jhn nd u hb d;have i:(ls.set a (ls.getD a 0 - ls.getD b 0)).getD a 0=ls.getD a 0 - ls.getD b 0:=by rw [Jx _ _ _ _ f,if_pos rfl]
 rw [n,i];by_cases c:ts.getD a false=true
 ·rw [c,l,g];exact ⟨by simp,fun e=>nomatch e⟩
 ·have c':ts.getD a false=false:=by simpa using c
  have v:=r.resolve_left c;rw [c',if_neg (by decide),if_neg (by decide),m,g];rw [g,Ji,Jn,J21] at v;constructor
  ·rw [List.reverse_cons,List.reverse_append,List.reverse_cons,List.reverse_nil,nil_append,cons_append,nil_append];have y:need ls (ls.getD a 0) (b :: q.reverse)=1 + need ls (ls.getD a 0 - ls.getD b 0) q.reverse:=by
    rw [need,if_neg (by lia)]
   have w:need (ls.set a (ls.getD a 0 - ls.getD b 0)) (ls.getD a 0 - ls.getD b 0) (q.reverse ++ [b])=need ls (ls.getD a 0 - ls.getD b 0) (q.reverse ++ [b]):=Jaa _ fun j o=>by
    have:j≠a:=fun e=>by
     subst e;rcases mem_append.mp o with x | x
     ·exact h (List.mem_reverse.mp x)
     ·exact d (mem_singleton.mp x)
    rw [Jx _ _ _ _ f,if_neg this]
   rw [y,w,Jft _ _ _ _ (by lia) (by rw [Jbb];lia)];lia
  ·rw [Jk _ _ (fun x=>by
    rcases mem_cons.mp x with x | x
    ·exact d x
    ·exact h x),Jn]
   lia
theorem Ja0{x:Int}(c:1<=S)(a:t=(x - 1) / S):x - t * S<=S:=by
 subst a;have d:=Int.emod_lt_of_pos (x - 1) (show 0 < S by lia);have b:=Int.mul_ediv_add_emod (x - 1) S;rw [Int.mul_comm] at b;lia
theorem Jn0(h:r.Ok)(ne:r.top≠[]):(nextN r).drops=false->(nextN ((nextN r).behind r)).drops=false->
  ((nextN ((nextN r).behind r)).winner=(nextN r).winner/\mu ((nextN r).behind r) (nextN ((nextN r).behind r)) < mu r (nextN r))\/(nextN r).winner∈(nextN ((nextN r).behind r)).losers ((nextN r).behind r):=by
 have okl:=h.next ne;have tp:=J6h h ne;have mT:=h.mT ne;have mB:=h.mB ne;have q:=h.perm.mem_iff.mpr mT;have C:=h.perm.mem_iff.mpr mB;have nd:=h.row.nd;have n:=h.rowB.nd;have i:=h.row.lt
 revert okl tp
 refine J2k h ne (p:=fun s=>(s.behind r).Ok->(if s.drops=true then (s.behind r).top=withoutR r.top s.winner else (s.behind r).top.Perm r.top)->s.drops=false->(nextN (s.behind r)).drops=false->
  ((nextN (s.behind r)).winner=s.winner/\mu (s.behind r) (nextN (s.behind r)) < mu r s)\/s.winner∈(nextN (s.behind r)).losers (s.behind r))
  (fun _ _ _ e=>nomatch e) (fun _ _ _ _ e=>nomatch e) ?_ ?_ ?_ ?_
 ·intro m v u okl tp _;have tp:=tp;have b:((Stp.over (lastT r) (lastB r)).behind r).top≠[]:=fun e=>ne (by rw [e] at tp;exact tp.symm.eq_nil);have w:(J2d r (lastT r) (lastB r)).getD (lastT r) false=r.ts.getD (lastT r) false:=by
   unfold J2d;rw [J2h _ _ _ _ (by rw [h.len];exact i _ mB),if_neg m]
  have o:=Jk6 (ts':=J2d r (lastT r) (lastB r)) n q rfl m (i _ mT) (h.row.pos _ mB) v u w;refine J2k okl b (p:=fun s'=>s'.drops=false->(s'.winner=lastT r/\mu ((Stp.over (lastT r) (lastB r)).behind r) s' < mu r (.over (lastT r) (lastB r)))\/lastT r∈s'.losers ((Stp.over (lastT r) (lastB r)).behind r))
   (fun _ e=>nomatch e) (fun _ _ e=>nomatch e) ?_ ?_ ?_ ?_
  ·intro c f d _;exact .inl ⟨rfl,o.1⟩
  ·intro c f d _;exact .inr (mem_singleton.mpr rfl)
  ·intro t c f d l j g _ _ _;exact absurd g (o.2 d)
  ·intro t c f d l j g _ _ _;exact .inr (J47 (okl.mB b) c)
 ·intro m v u okl tp _;have tp:=tp;have b:((Stp.under (lastB r) (lastT r)).behind r).top≠[]:=fun e=>ne (by rw [e] at tp;exact tp.symm.eq_nil);have w:(J2d r (lastB r) (lastT r)).getD (lastB r) false=r.ts.getD (lastB r) false:=by
   unfold J2d;rw [J2h _ _ _ _ (by rw [h.len];exact i _ mT),if_neg (fun e=>m e.symm)]
  have o:=Jk6 (ts':=J2d r (lastB r) (lastT r)) nd mB rfl (fun e=>m e.symm) (i _ mB) (h.row.pos _ mT) v u w;refine J2k okl b (p:=fun s'=>s'.drops=false->(s'.winner=lastB r/\mu ((Stp.under (lastB r) (lastT r)).behind r) s' < mu r (.under (lastB r) (lastT r)))\/lastB r∈s'.losers ((Stp.under (lastB r) (lastT r)).behind r))
   (fun _ e=>nomatch e) (fun _ _ e=>nomatch e) ?_ ?_ ?_ ?_
  ·intro c f d _;exact .inr (mem_singleton.mpr rfl)
  ·intro c f d _;exact .inl ⟨rfl,o.1⟩
  ·intro t c f d l j g _ _ _;exact .inr (J47 (okl.perm.mem_iff.mpr (okl.mT b)) (fun e=>c e.symm))
  ·intro t c f d l j g _ _ _;exact absurd g (o.2 d)
 ·intro t m v u G z F y E okl tp _;have tp:=tp;have b:((Stp.overs (lastT r) t).behind r).top≠[]:=fun e=>ne (by rw [e] at tp;exact tp.symm.eq_nil);have D:=Ja0 z y;have A:((Stp.overs (lastT r) t).behind r).ls.getD (lastT r) 0=r.ls.getD (lastT r) 0 - t * J2 r.ls (J4 r.bot (lastT r)):=by
   show (r.ls.set (lastT r) _).getD (lastT r) 0=_;rw [Jx _ _ _ _ (i _ mT),if_pos rfl]
  have B:J2 ((Stp.overs (lastT r) t).behind r).ls (J4 r.bot (lastT r))=J2 r.ls (J4 r.bot (lastT r)):=Jk _ _ (J1w n q);refine J2k okl b (p:=fun s'=>s'.drops=false->(s'.winner=lastT r/\mu ((Stp.overs (lastT r) t).behind r) s' < mu r (.overs (lastT r) t))\/lastT r∈s'.losers ((Stp.overs (lastT r) t).behind r))
   (fun _ e=>nomatch e) (fun _ _ e=>nomatch e) ?_ ?_ ?_ ?_
  ·intro c f d _;refine .inl ⟨rfl,Nat.lt_succ_of_le ?_⟩;exact J6i (ls:=((Stp.overs (lastT r) t).behind r).ls) (ts:=r.ts) (a:=lastT r) h.len24.2
  ·intro c f d _;exact .inr (mem_singleton.mpr rfl)
  ·intro t' c f d l j g _ _ _;have g:J2 ((Stp.overs (lastT r) t).behind r).ls (J4 r.bot (lastT r)) < ((Stp.overs (lastT r) t).behind r).ls.getD (lastT r) 0:=g;rw [ A] at g;lia
  ·intro t' c f d l j g _ _ _;exact .inr (J47 (okl.mB b) c)
 ·intro t m v u G z F y E okl tp _;have tp:List.Perm ((Stp.unders (lastB r) t).behind r).top r.top:=tp;have b:((Stp.unders (lastB r) t).behind r).top≠[]:=fun e=>ne (by rw [e] at tp;exact tp.symm.eq_nil);have D:=Ja0 z y;have A:((Stp.unders (lastB r) t).behind r).ls.getD (lastB r) 0=r.ls.getD (lastB r) 0 - t * J2 r.ls (J4 r.top (lastB r)):=by
   show (r.ls.set (lastB r) _).getD (lastB r) 0=_;rw [Jx _ _ _ _ (i _ mB),if_pos rfl]
  have B:J2 ((Stp.unders (lastB r) t).behind r).ls (J4 r.top (lastB r))=J2 r.ls (J4 r.top (lastB r)):=Jk _ _ (J1w nd mB);refine J2k okl b (p:=fun s'=>s'.drops=false->(s'.winner=lastB r/\mu ((Stp.unders (lastB r) t).behind r) s' < mu r (.unders (lastB r) t))\/lastB r∈s'.losers ((Stp.unders (lastB r) t).behind r))
   (fun _ e=>nomatch e) (fun _ _ e=>nomatch e) ?_ ?_ ?_ ?_
  ·intro c f d _;exact .inr (mem_singleton.mpr rfl)
  ·intro c f d _;refine .inl ⟨rfl,Nat.lt_succ_of_le ?_⟩;exact J6i (ls:=((Stp.unders (lastB r) t).behind r).ls) (ts:=r.ts) (a:=lastB r) h.len24.1
  ·intro t' c f d l j g _ _ _;exact .inr (J47 (okl.perm.mem_iff.mpr (okl.mT b)) (fun e=>c e.symm))
  ·intro t' c f d l j g _ _ _;have g:J2 ((Stp.unders (lastB r) t).behind r).ls (J4 r.top (lastB r)) < ((Stp.unders (lastB r) t).behind r).ls.getD (lastB r) 0:=g;lia
noncomputable def Up(r:Rst)(T:List Int)(s:Stp):Prop:=s.drops=true\/∃ b∈s.losers r,lg (T.getD b 0)<=lg (T.getD s.winner 0)
open Classical in
noncomputable def pot(r:Rst)(T:List Int):Nat:=
 if r.top=[] then 0 else (fE T r.top * 102 + (if Up r T (nextN r) then 0 else lg (T.getD (nextN r).winner 0) + 1)) * 26 + (if Up r T (nextN r) then 0 else mu r (nextN r))
theorem Tow.lg99(h:r.Ok)(t:Tow r T)(a:j∈r.top):lg (T.getD j 0)<=99:=Jon (t.pos j a) (t.le h a)
theorem pot_le(h:r.Ok)(t:Tow r T):pot r T<=6367451:=by
 unfold pot;by_cases c:r.top=[]
 ·simp_all
 rw [if_neg c];have e:fE T r.top<=r.top.length * 100:=Jpy fun j _=>by lia
 have d:=h.len24.1;have b:=t.lg99 h ((J5m h c).win h c);have a:=mu_le h (nextN r);split <;> lia
theorem up_lt{r:Rst}{T:List Int}(h:r.Ok)(ne:r.top≠[])(t:Tow r T):fE (towB (nextN r) r T) ((nextN r).behind r).top<=fE T r.top/\(Up r T (nextN r)->fE (towB (nextN r) r T) ((nextN r).behind r).top < fE T r.top):=by
 have L:=Joi h ne;have w:=(J5m h ne).win h ne;have l:=t.pos _ w;have tp:=J6h h ne;have okl:=h.next ne;have tl:=t.next h ne;have sub:=(h.down ne).sub;have one:T.getD (nextN r).winner 0<=T.getD (nextN r).winner 0 * (nextN r).times:=by
  have:T.getD (nextN r).winner 0 * 1<=T.getD (nextN r).winner 0 * (nextN r).times:=Int.mul_le_mul_of_nonneg_left L.one (by lia);lia
 have le:∀ j∈((nextN r).behind r).top,T.getD j 0<=(towB (nextN r) r T).getD j 0:=fun j a=>by
  rw [J7c h ne t.len a];split <;> lia
 have mono:∀ j∈((nextN r).behind r).top,100 - lg ((towB (nextN r) r T).getD j 0)<=100 - lg (T.getD j 0):=fun j a=>by
  have:=lg_le (t.pos j (sub j a)) (le j a);lia
 have m:=Js2 (f:=fun j=>100 - lg ((towB (nextN r) r T).getD j 0)) (g:=fun j=>100 - lg (T.getD j 0)) mono;by_cases c:(nextN r).drops=true
 ·rw [if_pos c] at tp;have e:=Jab (f:=fun j=>100 - lg (T.getD j 0)) h.row.nd w;have g:=t.lg99 h w;rw [<- tp] at e;have:fE (towB (nextN r) r T) ((nextN r).behind r).top < fE T r.top:=by
   show nS _ _ < nS _ _;rw [<- e];lia
  exact ⟨Nat.le_of_lt this,fun _=>this⟩
 ·rw [if_neg c] at tp;have e:fE T ((nextN r).behind r).top=fE T r.top:=Jk5 tp;refine ⟨by rw [<- e];exact m,fun u=>?_⟩;rcases u with u | ⟨b,hb,hg⟩
  ·exact absurd u c
  rw [<- e];have i:=L.sub b hb;refine nS_lt mono i ?_;have n:=J7c h ne t.len i;rw [if_pos hb] at n;have d:=lg_dbl (z:=(towB (nextN r) r T).getD b 0) (t.pos b (sub b i)) l hg (by lia);have g:=tl.lg99 okl i;lia
theorem pot_lt(h:r.Ok)(ne:r.top≠[])(t:Tow r T):pot ((nextN r).behind r) (towB (nextN r) r T) < pot r T:=by
 obtain ⟨y,p⟩:=up_lt h ne t;have okl:=h.next ne;have tl:=t.next h ne;have L:=Joi h ne;have w:=(J5m h ne).win h ne;unfold pot;rw [if_neg ne];have b:1<=fE T r.top:=by
  have e:=Jab (f:=fun j=>100 - lg (T.getD j 0)) h.row.nd w;have g:=t.lg99 h w;show 1<=nS _ _;rw [<- e];lia
 by_cases c:((nextN r).behind r).top=[]
 ·rw [if_pos c];lia
 rw [if_neg c];have n:=(J5m okl c).win okl c;have g':=tl.lg99 okl n;have v:=mu_le okl (nextN ((nextN r).behind r));by_cases u:Up r T (nextN r)
 ·rw [ if_pos u];have:=p u;split <;> lia
 rw [if_neg u,if_neg u];by_cases a:Up ((nextN r).behind r) (towB (nextN r) r T) (nextN ((nextN r).behind r))
 ·rw [if_pos a,if_pos a];lia
 rw [if_neg a,if_neg a];have i:(nextN r).drops=false:=by
  cases q:(nextN r).drops
  ·rfl
  ·exact absurd (.inl q) u
 have s:(nextN ((nextN r).behind r)).drops=false:=by
  cases q:(nextN ((nextN r).behind r)).drops
  ·rfl
  ·exact absurd (.inl q) a
 have tp:=J6h h ne;rw [if_neg (by rw [i];decide)] at tp;have l:=tp.mem_iff.mpr w;have d:(towB (nextN r) r T).getD (nextN r).winner 0=T.getD (nextN r).winner 0:=by
  rw [J7c h ne t.len l,if_neg L.no];lia
 rcases Jn0 h ne i s with ⟨e,m⟩ | q
 ·rw [e,d];lia
 ·have o:¬ lg ((towB (nextN r) r T).getD (nextN r).winner 0)<=lg ((towB (nextN r) r T).getD (nextN ((nextN r).behind r)).winner 0):=fun x=>a (.inr ⟨_,q,x⟩);rw [d] at o;lia
noncomputable abbrev Cst:=Rst × List Int
noncomputable def chS(p:Cst):Cst:=((nextN p.1).behind p.1,towB (nextN p.1) p.1 p.2)
noncomputable def chN(p:Cst):Nat->Cst
 | 0=>p
 | k + 1=>chS (chN p k)
noncomputable abbrev Band:=Int × Int × Int × Bool
noncomputable def bndB(p:Cst):List Band:=if (nextN p.1).isHome=true then [((chS p).1.size,p.1.ls.getD (nextN p.1).winner 0,p.2.getD (nextN p.1).winner 0,p.1.ts.getD (nextN p.1).winner false)] else []
noncomputable def bndN(p:Cst):Nat->List Band
 | 0=>[]
 | k + 1=>bndN p k ++ bndB (chN p k)
theorem Jgd(p:Cst):(bndB p).length<=1:=by unfold bndB;split <;> simp
theorem J8b(p:Cst):∀ k,(bndN p k).length<=k
 | 0=>Nat.le_refl _
 | k + 1=>by
  have b:=J8b p k;have a:=Jgd (chN p k);show (bndN p k ++ bndB (chN p k)).length<=k + 1
  grind
noncomputable def Long(p:Cst)(k:Nat):Prop:=∀ i < k,(chN p i).1.top≠[]
structure Cok(p:Cst):Prop where
 ok:p.1.Ok
 tow:Tow p.1 p.2
theorem Cok.next(h:Cok p)(ne:p.1.top≠[]):Cok (chS p):=⟨h.ok.next ne,h.tow.next h.ok ne⟩
theorem Cok.at_(h:Cok p):∀ {k:Nat},Long p k->Cok (chN p k)
 | 0,_=>h
 | k + 1,l=>(h.at_ fun i hi=>l i (by lia)).next (l k (by lia))
theorem Cok.short(h:Cok p):∀ {k:Nat},Long p k->k + pot (chN p k).1 (chN p k).2<=pot p.1 p.2
 | 0,_=>by rw [Nat.zero_add];exact Nat.le_refl _
 | k + 1,l=>by
  have b:=h.short (k:=k) fun i hi=>l i (by lia);have c:=h.at_ (k:=k) fun i hi=>l i (by lia);have a:pot (chS (chN p k)).1 (chS (chN p k)).2 < _:=pot_lt c.ok (l k (by lia)) c.tow;show k + 1 + pot (chS (chN p k)).1 (chS (chN p k)).2<=_;lia
theorem Cok.few(h:Cok p)(l:Long p k):k<=6367451:=by
 have b:=h.short l;have a:=pot_le h.ok h.tow;lia
theorem Jl4 :∀ {row:List Nat} {n:Nat},(∀ j∈row,j < n)->wS ls (List.replicate n 1) row=J2 ls row
 | row,n,h=>J86 fun j a=>by
  simp_all
theorem Jbp(h:r.Ok)(a:r.size<=10 ^ 30):Cok (r,List.replicate r.ls.length 1):=⟨h,by
 refine ⟨length_replicate,fun j b=>?_,?_⟩
 ·rw [getD_eq_getElem?_getD,List.getElem?_replicate,if_pos (h.row.lt j b)];exact Int.le_refl _
 ·rw [Jl4 h.row.lt];exact a⟩
theorem Cok.size30(h:Cok p):p.1.size<=10 ^ 30:=by
 have f:p.1.size<=wS p.1.ls p.2 p.1.top:=by
  show J2 _ _<=_;have:∀ row ,(∀ j∈row,j∈p.1.top)->J2 p.1.ls row<=wS p.1.ls p.2 row:=fun row=>by
   induction row with
   | nil=>intro _;exact Int.le_refl _
   | cons a row ih =>
    intro c;have d:=c a mem_cons_self;have f:=h.ok.row.pos a d;have e:=h.tow.pos a d;have i:p.1.ls.getD a 0 * 1<=p.1.ls.getD a 0 * p.2.getD a 0:=Int.mul_le_mul_of_nonneg_left e (by lia);have g:=ih fun j b=>c j (mem_cons_of_mem _ b);rw [Jn];unfold wS at *;rw [J3d];lia
  exact this _ fun j b=>b
 have:=h.tow.sum;lia
end Rl
namespace L2
open PySem PySem.Spec PySem.Calls PyProof.Rows PySem.W
section
variable{X:Cx}{pins:List (Addr × Obj)}{σ:St}{H:Hp}{A:Around}{E:Value->Shared->Prop}{s:Shared}{a kS:Addr}{vs:List Value}{kz:List Int}{keys:Array Value}{e e1:Nat}{P:PySem.Fin->Shared->Prop}
theorem Jbg(I:Inv X pins σ H s){b:Addr}{h':Heap}{t':Nat}(f:FpOk X pins H b)(k:Heap.SameBut b s.heap h'):Inv X pins σ H { s with heap:=h',toks:=t' }:=
 I.turned (h':=h') (t':=t') (it:=b) (fun c o a e=>(k.2 c a).trans e) f.1 f.2.1 f.2.2.2.1 f.2.2.2.2.1 f.2.2.2.2.2
theorem Jbz{st:SortSt}(I:Inv X pins σ H s)(D:FpOk X pins H kS)(F:FpOk X pins H a)(v:s.heap.get? kS=some (seqObj "list" keys e))(y:s.heap.get? a=some (seqObj "list" #[] e1))(i:kS≠a)(r:IntsAre keys.toList kz)(q:kz.length=vs.length)(B:vs.length < 64)(p:(arrOf st).Perm (keys.zip vs.toArray))(z:SortedTo (arrOf st) (arrOf st).size)(j:failedOf st=none)(h:∀ h' n out c,Inv X pins σ H { s with heap:=h',toks:=n }->h'.get? a=some (seqObj "list" out c)->KskOut false kz vs out.toList->P (.done (.ret .none)) { s with heap:=h',toks:=n }):
  wpAny (model X.prog X.w) A (ksk_tail a false e1 (.ref kS) st) P E s:=by
 have hsz:keys.size=vs.length:=by
  have C:=r.length;rw [length_toList] at C;omega
 have f:(arrOf st).size=vs.length:=by rw [p.size_eq,Array.size_zip,hsz,size_toArray,Nat.min_self]
 have g:(if false=true then ((arrOf st).map (·.2)).reverse else (arrOf st).map (·.2)).size=vs.length:=by
  simp only [Bool.false_eq_true,if_false,Array.size_map];exact f
 have o:=Heap.SameBut.update s.heap kS (Obj.mapSeq fun _=>(#[]:Array Value));have d:(s.heap.update kS (Obj.mapSeq fun _=>(#[]:Array Value))).get? a=some (seqObj "list" #[] e1):=(o.2 a i.symm).trans y;have u:=Heap.SameBut.update (s.heap.update kS (Obj.mapSeq fun _=>(#[]:Array Value))) a (Obj.mapSeq fun _=>if false=true then ((arrOf st).map (·.2)).reverse else (arrOf st).map (·.2));obtain ⟨m,l⟩:∃ m,((s.heap.update kS (Obj.mapSeq fun _=>(#[]:Array Value))).update a (Obj.mapSeq fun _=>if false=true then ((arrOf st).map (·.2)).reverse else (arrOf st).map (·.2))).get? a=some (seqObj "list" (if false=true then ((arrOf st).map (·.2)).reverse else (arrOf st).map (·.2)) m) :=
  ⟨_,get?_update_seq d fun _=>if false=true then ((arrOf st).map (·.2)).reverse else (arrOf st).map (·.2)⟩
 unfold ksk_tail
 try dsimp only
 refine wpAny_bind (listUpdate_at v rfl ?_ (by rw [hsz,sizeLine_eq];omega) (Nat.zero_le _));refine wpAny_bind (wpAny_letGo ?_);refine wpAny_bind (seqEpoch_at d rfl ?_);refine wpAny_bind (listUpdate_at d rfl ?_ (Nat.zero_le _) (Nat.le_trans (Nat.le_of_eq g) (by rw [sizeLine_eq];omega)));rw [j];simp only [bne_self_eq_false,Bool.false_eq_true,if_false];have G:Inv X pins σ H { s with heap:=s.heap.update kS (Obj.mapSeq fun _=>(#[]:Array Value)) }:=Jbg (t':=s.toks) I D o;exact wpAny_pure (h _ _ _ m (Jbg (t':=_) G F u) l (ksk_out (b:=false) r p z))
theorem Jmb(I:Inv X pins σ H s)(v:FpOk X pins H kS)(y:FpOk X pins H a)(q:s.heap.get? kS=some (seqObj "list" keys e))(r:s.heap.get? a=some (seqObj "list" #[] e1))(m:kS≠a)(n:IntsAre keys.toList kz)(d:kz.length=vs.length)(g:vs.length < 64)(h:∀ h' p out c,Inv X pins σ H { s with heap:=h',toks:=p }->h'.get? a=some (seqObj "list" out c)->KskOut false kz vs out.toList->P (.done (.ret .none)) { s with heap:=h',toks:=p }):
  wpAny (model X.prog X.w) A (ksk_end a false vs.toArray e1 (.ref kS) keys) P E s:=by
 have hsz:keys.size=vs.length:=by
  have F:=n.length;rw [length_toList] at F;omega
 have f:(keys.zip vs.toArray).size=vs.length:=by rw [Array.size_zip,hsz,size_toArray,Nat.min_self]
 unfold ksk_end
 try dsimp only
 simp only [Bool.false_eq_true,if_false];by_cases l:vs.toArray.size < 2
 ·rw [if_pos l,if_pos l];refine wpAny_bind (wpAny_pure ?_);rw [StateT.run_pure];refine wpAny_bind (wpAny_pure ?_)
  try dsimp only
  refine Jbz (st:=SortSt.mk' general' (keys.zip vs.toArray) #[] 7 none) I v y q r m n d g (Array.Perm.refl _) ?_ rfl h;intro i j C B;have o:=B;rw [f] at o;rw [size_toArray] at l;have:i=j:=by omega
  subst this;exact Int.le_refl _
 ·rw [if_neg l,if_neg l];rw [size_toArray] at l;rw [ksk_kind n (by rw [hsz];omega)];refine wpAny_bind (wpAny_pure ?_);refine wpAny_bind (wpAny_mono (wpS_sortRuns (a₀:=keys.zip vs.toArray) (st:=SortSt.mk' oneType' (keys.zip vs.toArray) #[] 7 none)
   (Q:=fun _ b=>(arrOf b).Perm (keys.zip vs.toArray)/\failedOf b=none/\SortedTo (arrOf b) (keys.zip vs.toArray).size)
   (ksk_intKeys n) ⟨Array.Perm.refl _,rfl,rfl,rfl⟩ (by rw [f];omega) (by rw [f];exact g) fun b K J G=>⟨K,J,G⟩) ?_ fun _ _ e=>e)
  rintro ⟨⟨⟩,b⟩ s' ⟨rfl,u,D,z⟩;exact Jbz I v y q r m n d g u (by rw [u.size_eq];exact z) D h
noncomputable def Jeq(X:Cx)(pins:List (Addr × Obj))(σ:St)(H:Hp)(A:Around)(f v:Value)(k:Int):Prop:=∀ s',Inv X pins σ H s'->
 wpAny (model X.prog X.w) A (call f [v]) (fun r a=>∃ t,r=.int k t/\Inv X pins σ H a/\∀ b o,FpOk X pins H b->s'.heap.get? b=some o->a.heap.get? b=some o) (fun _ _=>False) s'
theorem Jik(I:Inv X pins σ H s)(C:FpOk X pins H kS)(K:FpOk X pins H a)(M:s.heap.get? kS=some (seqObj "list" #[] 0))(N:s.heap.get? a=some (seqObj "list" #[] e1))(r:kS≠a)(p:kz.length=vs.length)(B:vs.length < 64)(turn:∀ (i:Nat) (v:Value) (k:Int),vs[i]?=some v->kz[i]?=some k->Jeq X pins σ H A f v k)(h:∀ s' out c,Inv X pins σ H s'->s'.heap.get? a=some (seqObj "list" out c)->KskOut false kz vs out.toList->P (.done (.ret .none)) s'):
  wpAny (model X.prog X.w) A (ksk_rest a f false vs.toArray e1 (.ref kS)) P E s:=by
 unfold ksk_rest;refine wpAny_bind (wpAny_rule ?_)
 first
  | rw [List.forIn_toArray]
  | (rw [<- Array.forIn_toList];simp only [List.toList_toArray])
  | rw [<- Array.forIn_toList]
 refine wpAny_bind (ksk_fold (fun i s'=>∃ d e,Inv X pins σ H s'/\s'.heap.get? kS=some (seqObj "list" d e)/\s'.heap.get? a=some (seqObj "list" #[] e1)/\IntsAre d.toList (kz.take i)) vs 0 s
  ⟨#[],0,I,M,N,by simpa using IntsAre.nil⟩ ?step ?done)
 case step =>
  rintro j x s' J ⟨d,e,F,b,m,n⟩;simp only [Nat.zero_add] at n ⊢;have hj:=(List.getElem?_eq_some_iff.mp J).1;obtain ⟨k,q⟩:∃ k,kz[j]?=some k:=⟨_,List.getElem?_eq_getElem (by omega)⟩;have hz:d.size<=vs.length:=by
   have T:=n.length;rw [length_toList,length_take] at T;omega
  refine wpAny_bind (wpAny_attempt (wpAny_mono (turn j x k J q s' F) (fun v l R=>?_) fun _ _ S=>S.elim));obtain ⟨g,rfl,I2,keep⟩:=R
  try dsimp only
  have o:=keep _ _ C b;have u:=keep _ _ K m;have G:=Heap.SameBut.update l.heap kS (Obj.mapSeq (·.push (.int k g)));obtain ⟨D,z⟩:∃ D,(l.heap.update kS (Obj.mapSeq (·.push (.int k g)))).get? kS=some (seqObj "list" (d.push (.int k g)) D):=⟨_,get?_update_seq o (·.push (.int k g))⟩;have U:kz.take (j + 1)=kz.take j ++ [k]:=by rw [take_add_one,q];simp
  have W:(d.push (Value.int k g)).toList=d.toList ++ [Value.int k g]:=by simp
  refine wpAny_bind (listUpdate_at o rfl ?_ (by rw [sizeLine_eq];omega) (Nat.le_trans (Nat.le_of_eq (Array.size_push ..)) (by rw [sizeLine_eq];omega)));exact wpAny_pure ⟨rfl,d.push (.int k g),D,Jbg (t':=l.toks) I2 C G,z,(G.2 a r.symm).trans u,by rw [W,U];exact ksk_snoc n⟩
 case done =>
  rintro s' ⟨d,e,F,b,m,n⟩;have y:=by
   have Y:kz.take (0 + vs.length)=kz:=take_of_length_le (by omega);rw [Y] at n;exact n
  refine wpAny_bind (listItems_at b rfl ?_);exact Jmb F C K b m r y p B fun h3 L out c Z O Q=>h _ out c Z O Q
theorem Jij(I:Inv X pins σ H s)(p:FpOk X pins H a)(l:s.heap.get? a=some (seqObj "list" vs.toArray n))(g:kz.length=vs.length)(m:vs.length < 64)(turn:∀ (i:Nat) (v:Value) (k:Int),vs[i]?=some v->kz[i]?=some k->Jeq X pins σ H A f v k)(h:∀ s' out c,Inv X pins σ H s'->s'.heap.get? a=some (seqObj "list" out c)->KskOut false kz vs out.toList->P (.done (.ret .none)) s'):
  wpAny (model X.prog X.w) A (ksk_tree a f false) P E s:=by
 have u :=lt_size l;have r:=Heap.SameBut.update s.heap a (Obj.mapSeq fun _=>(#[]:Array Value));obtain ⟨q,d⟩:∃ q,(s.heap.update a (Obj.mapSeq fun _=>(#[]:Array Value))).get? a=some (seqObj "list" #[] q):=⟨_,get?_update_seq l fun _=>#[]⟩;have j:((s.heap.update a (Obj.mapSeq fun _=>(#[]:Array Value))).push (seqObj "tuple" vs.toArray 0)).objs.size=s.heap.objs.size + 1:=by rw [size_push',Heap.size_update]
 unfold ksk_tree;refine wpAny_bind (listItems_at l rfl ?_);refine wpAny_bind (listUpdate_at l rfl ?_ (by rw [size_toArray,sizeLine_eq];omega) (Nat.zero_le _));refine wpAny_bind (seqEpoch_at d rfl ?_);refine wpAny_bind (wpAny_newTuple ?_ (by show vs.length<=_;rw [sizeLine_eq];omega));refine wpAny_bind (wpAny_newList ?_ (Nat.zero_le _));refine wpAny_holding ?_;have B :=Jbg (t':=s.toks) I p r;have z:Inv X pins σ H { s with heap:=((s.heap.update a (Obj.mapSeq fun _=>(#[]:Array Value))).push (seqObj "tuple" vs.toArray 0)).push (seqObj "list" #[] 0) }:=B.kept (t':=s.toks) fun b o e=>get?_push_of_some _ (get?_push_of_some _ e);have y:FpOk X pins H ((s.heap.update a (Obj.mapSeq fun _=>(#[]:Array Value))).push (seqObj "tuple" vs.toArray 0)).objs.size:=by
  rw [j];exact I.fpOk (Nat.le_succ _) (I.hok.fresh (Nat.le_succ _))
 exact Jik (s:={ s with heap:=((s.heap.update a (Obj.mapSeq fun _=>(#[]:Array Value))).push (seqObj "tuple" vs.toArray 0)).push (seqObj "list" #[] 0) }) z y p (get?_push_size _ rfl)
  (get?_push_of_some _ (get?_push_of_some _ d)) (by rw [j];exact Nat.ne_of_gt (Nat.lt_succ_of_lt u)) g m turn h
end
noncomputable def Joy(X:Cx)(A:Around)(N:List Str)(qual:Str)(a:Scope)(f:Addr)(b:Value)(cl:List (Str × Addr))(s:Shared)(H:Hp):Cx where
 prog:=X.prog
 w:=X.w
 K:=X.K
 mg:=X.mg
 base:=X.base
 A:=A.deeper (envX qual a s.heap.objs.size f b cl)
 N:=N
 s₀:=s
 H₀:=H
 env:=envX qual a s.heap.objs.size f b cl
 outer:=X.stack
 stack:=envX qual a s.heap.objs.size f b cl :: X.stack
 ex:=[]
 calm:=true
 fn:=fun _=>false
 pn:=[]
 xe:=fun _ _=>False
structure Jso(X:Cx)(scope:Scope)(cl:List (Str × Addr))(x:Str)(caps:List Str)(js:List Nat):Prop where
 co:scope.isCoroutine=false
 gen:scope.isGenerator=false
 kind:scope.kind=.function
 cell:∀ p∈scope.names,p.2≠.cell
 loc:scope.names.lookup x=some .local
 sub:∀ p∈cl,X.env.cells.lookup p.1=some p.2
 has:∀ p∈scope.names,p.2=.free->∃ c,cl.lookup p.1=some c
 len:caps.length=js.length
 caps:∀ (k:Nat) (c:Str),caps[k]?=some c->∃ (j:Nat) (a:Addr),js[k]?=some j/\X.N[j]?=some c/\X.env.scope.names.lookup c=some .cell/\cl.lookup c=some a/\scope.names.lookup c=some .free
section
variable{X:Cx}{pins:List (Addr × Obj)}{σ:St}{H:Hp}{A:Around}{s:Shared}{name qual:Str}{params:Arguments}{body:Expr}{scope:Scope}{cl:List (Str × Addr)}{pm ctv:Value}{c' f:Addr}{x:Str}{caps:List Str}{js:List Nat}{te:TE}
theorem Js7(I:Inv X pins σ H s)(L:Jso X scope cl x caps js)(Y:A.frames=some X.stack)(hd:A.handled=none)(r:RelV v u)(E:h₁.Ns s.heap.objs.size (fun y=>([(x,u)]:List (Str × Value)).reverse.lookup y))(C:Heap.SameBut s.heap.objs.size (s.heap.push { cls:=.type "frame",data:=.dict #[] }) h₁):
  Inv (Joy X A (x :: caps) qual scope f (.ref c') cl s H) [] (some v :: capv σ js) H { s with heap:=h₁,toks:=s.toks + 1 }:=by
 have keep:=fun b o e=>C.extBut b o (Nat.ne_of_lt (lt_size e)) (get?_push_of_some _ e);have n:=I.env0;have d:∀ b ,b ∉ (Joy X A (x :: caps) qual scope f (.ref c') cl s H).ex:=fun b z=>absurd (show b∈([]:List Addr) from z) (by simp);refine ⟨⟨n.mod,L.kind,rfl,rfl,Nat.le_refl _,fun a b c h1 Z=>?_,fun a h=>?_,(fun _ _ h=>nomatch h),fun _=>hd,Around.frames_deeper Y,.inr ⟨rfl,rfl⟩,fun b z=>absurd z (d b),n.bs,n.bsz,fun b _ _=>d b,fun b z=>absurd z (d b),n.funs,n.frf⟩,
  rfl,I.bare,Un.kept keep,⟨_,E,fun k q w i B e3=>?_⟩,fun q c e=>?_,I.hok.fresh (Nat.le_refl _),fun q c e=>?_,fun p U=>absurd (show p∈([]:List (Addr × Obj)) from U) (by simp),I.hok.kept keep,?_⟩
 ·exact I.ok.inj a b c (L.sub _ (mem_of_lookup h1)) (L.sub _ (mem_of_lookup Z))
 ·have h:=h;rcases h with h | h
  ·exact absurd rfl (L.cell _ (mem_of_lookup h))
  ·exact L.has _ (mem_of_lookup h) rfl
 ·cases k with
  | zero =>
   have i:some x=some q:=i;cases i;have B:=B;cases B;refine ⟨u,r,.inl ⟨L.loc,?_⟩⟩;show (([(x,u)]:List (Str × Value)).reverse.lookup x)=some u;simp
  | succ k =>
   have i:(x :: caps)[k + 1]?=some q:=i;have G:=by simpa using i
   have F:=by simpa using B
   obtain ⟨j,a,S,R,M,K,Q⟩:=L.caps k q G;obtain ⟨j',J,P⟩:=Jgb F;rw [S] at J;cases J;obtain ⟨m,hm,W⟩:=I.loc;obtain ⟨N,O,T⟩:=W j q w R P (.inr (.inl M));refine ⟨N,O,.inr ⟨.inr Q,a,K,?_⟩⟩;rcases T with ⟨k1,_⟩ | ⟨_,c,ec,o,D,g⟩
   ·have l:X.env.scope.names.lookup q=some .local:=k1;rw [M] at l;cases l
   ·have:=L.sub _ (mem_of_lookup K);rw [ec] at this;cases this;exact ⟨o,keep _ _ D,g⟩
 ·obtain ⟨w,o,D,g⟩:=I.cell q c (L.sub _ (mem_of_lookup e));exact ⟨w,o,keep _ _ D,g⟩
 ·exact I.freeC q c (L.sub _ (mem_of_lookup e))
 ·show (some v :: capv σ js).length=(x :: caps).length;unfold capv;simp [L.len]
theorem Jop{v:V}{u:Value}{k:Int}(I:Inv X pins σ H s)(L:Jso X scope cl x caps js)(F:A.frames=some X.stack)(hd:A.handled=none)(a:A.depth < recursionLimit)(r:RelV v u)(D:s.heap.get? f=some (kla_obj name qual params body scope cl pm c' ctv))(n:s.heap.CodeRec (.ref c') qual)(c:bindArgs (kla_fn name qual params body scope cl pm (.ref c') ctv) ⟨[u],[]⟩=pure [(x,u)])(E:PE (Joy X A (x :: caps) qual scope f (.ref c') cl s H) body te)(q:te (some v :: capv σ js) H fun y i=>y=.int k/\i=H):
  wpAny (model X.prog X.w) A (call (.ref f) [u]) (fun r g=>∃ t,r=.int k t/\Inv X pins σ H g/\∀ b o,FpOk X pins H b->s.heap.get? b=some o->g.heap.get? b=some o) (fun _ _=>False) s:=by
 have j:s.heap.NoLimit:=I.env0.mod.nolimit.keeps fun b o e=>(I.env0.bs b o e).1;refine wpAny_call (kla_callFunE a D rfl L.co L.gen rfl n ?_);rw [c];refine wpAny_pure (wpAny_newFunctionEnv L.cell (fun y l=>by
  have l:y=(x,u):=by simpa using l
  rw [l];exact L.loc) (fun P m h=>⟨j.fresh _ h,?_⟩) L.kind)
 refine kla_codeExpr ?_;have J:=Js7 (qual:=qual) (f:=f) (c':=c') I L F hd r m h;refine wpAny_mono (E [] _ _ H _ J q) (fun z s' h'=>?_) fun _ _ h'=>h'.elim;obtain ⟨y,i,d,B,G,K⟩:=h';rw [K] at d;rw [G] at B;obtain ⟨t,rfl⟩:=B;obtain ⟨N,S,C,O,R,M⟩:=I.after (Q:=fun y i=>y=.int k/\i=H) (u:=.int k t) (s':=s') ⟨.int k,H,d.os,d.bare,d.base,d.hok,⟨t,rfl⟩,rfl,rfl⟩;rw [M] at C;refine ⟨t,rfl,C,fun b o p e=>d.base.keep b o e p.1 (fun z=>?_) (fun z=>absurd (show b∈([]:List Addr) from z) (by simp))⟩;rcases mem_cons.mp (I.stkSub b z) with z | z
 ·exact p.2.1 z
 ·exact p.2.2.1 z
end
structure J2j(H:Hp)(P:Addr)(pos:Pos)(qual:Str):Prop where
 ex:∃ ps,H P=some (.tbl ps)/\TriplesOk ps.toList/\∀ cv,codeAmong pos ps.toList=some cv->∃ c' oc vs t,cv=.ref c'/\H c'=some (.frz oc (.own c'))/\oc.data=.fields vs/\vs[1]?=some (.str qual t)
noncomputable def isTbl:HO->Bool
 | .tbl _=>true
 | _=>false
noncomputable def J22(H a:Hp):Prop:=∀ b u,H b=some u->isTbl u=false->a b=some u
structure J9y(base:Heap)(mg:Str->Option Value)(P:Addr):Prop where
 ex:∃ bm o,mg "__builtins__"=some (.ref bm)/\bm≠builtinsNs/\bm≠mainGlobals/\bm≠P/\base.get? bm=some o/\o.cls=.type "module"/\o.dict=some builtinsNs/\o.data=.plain
section
variable{X:Cx}{pins:List (Addr × Obj)}{σ:St}{H:Hp}{A:Around}{s:Shared}{params:Arguments}{body:Expr}{scope:Scope}{cl:List (Str × Addr)}{c P:Addr}{pos:Pos}
theorem Joq(I:Inv X pins σ H s)(U:defaultsOf params X.env=([],[]))(W:closureFor scope X.env=pure cl)(p:X.env.code=.ref c)(C:codeHdIn X.K c P=true)(B:J9y X.base X.mg P)(T:J2j H P pos (X.env.qual ++ "<lambda>"))(h:∀ f c' a g s',Inv X pins σ g s'->s'.heap.get? f=some (kla_obj "<lambda>" (X.env.qual ++ "<lambda>") params body scope cl ((X.mg "__name__").getD .none) c' a)->FpOk X pins g f->(∃ D vs t,g c'=some (.frz D (.own c'))/\D.data=.fields vs/\vs[1]?=some (.str (X.env.qual ++ "<lambda>") t))->
   J22 H g->J2j g P pos (X.env.qual ++ "<lambda>")->(∀ Q l i,Q≠P->J2j H Q l i->J2j g Q l i)->(∀ b,b < s.heap.objs.size->H b=none->g b=none)->Q (.ref f) s'):
  wpAny (model X.prog X.w) A (eval (.Lambda params body scope pos) X.env) Q E s:=by
 obtain ⟨ps,j,ht,hc⟩:=T.ex;obtain ⟨bm,ob,b1,b2,b3,b4,b5,b6,b7,b8⟩:=B.ex;have KX:=I.env0.mod.kin.keeps fun b o e=>(I.env0.bs b o e).1;have G:s.heap.Ns mainGlobals X.mg:=by obtain ⟨o,es,ep,e,r⟩:=I.env0.mod.glob;exact ⟨o,es,ep,(I.env0.bs _ _ e).1,r⟩
 have y:=I.hok P _ j;have Y:s.heap.BuiltinsAt X.mg P:=⟨bm,ob,b1,b2,b3,b4,(I.env0.bs _ _ b5).1,b6,b7,b8⟩;have ab:mainGlobals≠P:=fun q=>by
  obtain ⟨o,es,ep,e,hd,_⟩:=G;rw [q,y] at e;cases e;cases hd
 have CH:=codeHd_of_K KX C;refine kla_eval U ?_
 cases ca:codeAmong pos ps.toList with
 | none =>
  refine kla_makeFunction (mg:=X.mg) W I.ok.glob G p CH y ht ca ab Y fun c' a h' tk hx m S N M=>?_;obtain ⟨c2,D,vs,t,e2,R,hd,hv⟩:=N;obtain rfl:c'=c2:=by cases e2;rfl
  have hn:=I.hok.fresh m;have ae:=Nat.ne_of_lt (Nat.lt_of_lt_of_le (lt_size y) m);obtain ⟨g,eH⟩:∃ g,g=upd (upd H c' (.frz D (.own c'))) P (.tbl (ps ++ #[rawInt pos.line,rawInt pos.col,.ref c'])):=⟨_,rfl⟩;have L:g P=some (.tbl (ps ++ #[rawInt pos.line,rawInt pos.col,.ref c'])):=by rw [eH,J6]
  have J:g c'=some (.frz D (.own c')):=by rw [eH,Jm ae.symm,J6]
  have oth:∀ b,b≠P->b≠c'->g b=H b:=fun b n1 n2=>by rw [eH,Jm n1,Jm n2]
  have aa:∀ b o,s.heap.get? b=some o->b≠c':=fun b o e=>Nat.ne_of_lt (Nat.lt_of_lt_of_le (lt_size e) m);have F:∀ b u,H b=some u->b≠c':=fun b u e=>Jd e hn;have kp:∀ b o,b≠P->s.heap.get? b=some o->(h'.push (kla_obj "<lambda>" (X.env.qual ++ "<lambda>") params body scope cl ((X.mg "__name__").getD .none) c' a)).get? b=some o:=fun b o n e=>get?_push_of_some _ (hx b o n e);have O:HOk X.prog X.w g (h'.push (kla_obj "<lambda>" (X.env.qual ++ "<lambda>") params body scope cl ((X.mg "__name__").getD .none) c' a)):=fun b u e=>by
   by_cases e1:b=P
   ·subst e1;rw [L] at e;cases e;exact get?_push_of_some _ M
   ·by_cases e2:b=c'
    ·subst e2;rw [J] at e;cases e;exact ⟨get?_push_of_some _ R,_,get?_push_of_some _ R⟩
    ·rw [oth b e1 e2] at e;refine (I.hok b u e).stay (fun d v hd q=>kp d v ?_ q) (fun d q=>?_) fun d xs q=>?_
     ·rcases hd with rfl | hd
      ·exact e1
      ·intro z;rw [z,j] at hd;cases hd
     ·rw [oth d (fun z=>by rw [z,j] at q;cases q) (F _ _ q)];exact q
     ·rw [oth d (fun z=>by rw [z,j] at q;cases q) (F _ _ q)];exact q
  have un:Un X.fs [] H g s.heap (h'.push (kla_obj "<lambda>" (X.env.qual ++ "<lambda>") params body scope cl ((X.mg "__name__").getD .none) c' a)):=by
   refine ⟨fun b o e n _ _=>kp b o (fun z=>by rw [z,j] at n;cases n) e,fun b o e n _ _=>⟨o.slots,kp b o (fun z=>by rw [z,j] at n;cases n) e⟩,fun b o e n _=>?_,fun b o e _=>?_,fun b xs e=>?_,fun b o u e=>?_,fun b qs e=>?_⟩
   ·rw [oth b (fun z=>by rw [z,j] at n;cases n) (aa b o e)];exact n
   ·by_cases z:b=P
    ·rw [z];exact ⟨_,get?_push_of_some _ M⟩
    ·exact ⟨o,kp b o z e⟩
   ·rw [oth b (fun z=>by rw [z,j] at e;cases e) (F _ _ e)];exact e
   ·rw [oth b (fun z=>by rw [z,j] at e;cases e) (F _ _ e)];exact e
   ·by_cases z:b=P
    ·rw [z,j] at e;cases e;exact ⟨_,by rw [z];exact L⟩
    ·exact ⟨#[],by rw [oth b z (F _ _ e),e];simp⟩
  have hsz:s.heap.objs.size<=h'.objs.size:=Nat.le_trans m (Nat.le_of_lt S);have ac:g h'.objs.size=none:=by
   rw [oth _ (Nat.ne_of_gt (Nat.lt_of_lt_of_le (lt_size y) hsz)) (Nat.ne_of_gt S)];exact I.hok.fresh hsz
  refine h _ c' a g _ (I.un (t':=tk) un O) (get?_push_size _ rfl) (I.fpOk hsz ac) ⟨D,vs,t,J,hd,hv⟩ (fun b u e z=>?_) ⟨_,L,?_,fun Z e=>?_⟩ (fun Q l i nQ TQ=>?_) (fun b hb n=>?_)
  ·rw [oth b (fun q=>by rw [q,j] at e;cases e;cases z) (F _ _ e)];exact e
  ·rw [Array.toList_append];exact TriplesOk_snoc _ _ _ _ ht
  ·rw [Array.toList_append] at e;have e':codeAmong pos (ps.toList ++ [rawInt pos.line,rawInt pos.col,.ref c'])=some Z:=e;rw [codeAmong_snoc _ ht ca] at e';cases e';exact ⟨c',D,vs,t,rfl,J,hd,hv⟩
  ·obtain ⟨qs,q1,q2,q3⟩:=TQ.ex;refine ⟨qs,by rw [oth Q nQ (F _ _ q1)];exact q1,q2,fun Z e=>?_⟩;obtain ⟨d,od,ws,t',r1,r2,r3,r4⟩:=q3 Z e;exact ⟨d,od,ws,t',r1,by rw [oth d (fun z=>by rw [z,j] at r2;cases r2) (F _ _ r2)];exact r2,r3,r4⟩
  ·rw [oth b (fun z=>by rw [z,j] at n;cases n) (Nat.ne_of_lt (Nat.lt_of_lt_of_le hb m))];exact n
 | some Z =>
  obtain ⟨c',D,vs,t,rfl,ad,hd,hv⟩:=hc Z ca;refine kla_makeFunctionHit (mg:=X.mg) W I.ok.glob G p CH y ht ca Y fun a h' tk hk hsz=>?_;have kp:∀ b o,s.heap.get? b=some o->(h'.push (kla_obj "<lambda>" (X.env.qual ++ "<lambda>") params body scope cl ((X.mg "__name__").getD .none) c' a)).get? b=some o:=fun b o e=>get?_push_of_some _ (hk b o e);exact h _ c' a H _ (I.kept (t':=tk) kp) (get?_push_size _ rfl) (I.fpOk hsz (I.hok.fresh hsz)) ⟨D,vs,t,ad,hd,hv⟩ (fun b u e _=>e) T (fun _ _ _ _ T=>T) (fun _ _ n=>n)
end
section
variable{prog:Program}{w:World}{A:Around}{E:Value->Shared->Prop}{s:Shared}
theorem Jbk{n:Nat}(m:A.handled=none)(j:IsRange s.heap r 0 (n:Int) 1 t u v)(q:n<=1000)(h:∀ h' f (acc:Array Value),(∀ b o,s.heap.get? b=some o->h'.get? b=some o)->ItemsOf (fun i v=>∃ t,v=.int (0 + (i:Int) * 1) t) acc n->Q acc.toList { s with heap:=h',toks:=f }):
  wpAny (model prog w) A (collect (.ref r)) Q E s:=by
 refine wpAny_bind (wpAny_runValue (codeAny_builtin PySem.F.entry_proto_collect ?_));refine wpAny_bind (wpAny_newObj_type ?_);refine wpAny_pure ⟨plainId_quiet PySem.F.plain_list_iadd _,codeAny_builtin PySem.F.entry_list_iadd ?_⟩;have p:(s.heap.push { cls:=.type "list",data:=.seq ([]:List Value).toArray }).get? s.heap.objs.size=some { cls:=.type "list",data:=.seq ([]:List Value).toArray }:=get?_push_size _ rfl;refine wpAny_extend_range (A:=A) (prog:=prog) (w:=w) (R:=fun (res:Result) s'=>match res with
  | .ok (.ret v)=>wpAny (model prog w) A (match v with
   | .ref a=>do
    let o <- load a
    match o.data with
    | .seq xs _=>pure xs.toList
    | _=>unsupported "internal:collect"
   | _=>unsupported "internal:collect") Q E s'
  | .ok _=>False
  | .error e=>E e s') (s:={ s with heap:=s.heap.push { cls:=.type "list",data:=.seq ([]:List Value).toArray } }) m (get?_push_of_some _ j) (small_one (a:=0) (b:=(n:Int)) (by omega) (by omega) (by omega) (by omega)) (n:=n) (by rw [rangeSize_one];grind) (by omega) s.heap.objs.size _ _ p fun h' f d c' l g c=>?_
 refine wpAny_bind (wpAny_load g ?_);exact wpAny_pure (h h' f d (fun b o e=>l b o (Nat.ne_of_lt (lt_size e)) (get?_push_of_some _ e)) c)
end
section
variable{X:Cx}{pins:List (Addr × Obj)}{σ:St}{H:Hp}{A:Around}{E:Value->Shared->Prop}{s:Shared}{vs:List Value}{kz:List Int}
theorem Jmc(n:kz.length=xs.length)(K:xs.length < 64)(j:wpAny (model X.prog X.w) A.in1 (collect (.ref l)) (fun C a=>Vals xs C/\Inv X pins σ H a) E s)(turn:∀ (i:Nat) (y:V) (v:Value) (k:Int),xs[i]?=some y->RelV y v->kz[i]?=some k->Jeq X pins σ H A.in1.in1 (.ref f) v k)(h:∀ s' D out c us,Vals xs us->Inv X pins σ H s'->FpOk X pins H D->X.s₀.heap.objs.size<=D->s'.heap.get? D=some (seqObj "list" out c)->KskOut false kz us out.toList->Q (.ref D) s'):
  wpAny (model X.prog X.w) A (call (.builtin "sorted") [.ref l] [(Str.ofString "key",.ref f)]) Q E s:=by
 refine call_function_entry_kw kind_sorted plain_sorted entry_sorted (ksk_s1 _ _) ?_;unfold Builtin.«sorted»;refine wpAny_bind (m:=checkCount "sorted" 1 1 _) (wpAny_pure ?_);refine wpAny_bind (wpAny_mono j (fun vs a J=>?_) fun _ _ x=>x);obtain ⟨r,g⟩:=J;have N:=r.length;refine wpAny_bind (wpAny_newList ?_ (by rw [sizeLine_eq];omega));have d:(a.heap.push (seqObj "list" vs.toArray 0)).get? a.heap.objs.size=some (seqObj "list" vs.toArray 0):=get?_push_size _ rfl;have p:FpOk X pins H a.heap.objs.size:=g.fpOk (Nat.le_refl _) (g.hok.fresh (Nat.le_refl _));have I:X.s₀.heap.objs.size<=a.heap.objs.size:=g.sz;show wpAny _ _ _ _ _ { a with heap:=a.heap.push (seqObj "list" vs.toArray 0) };refine wpAny_bind (wpAny_holding (wpAny_call_entry_kw slot_list_sort ⟨_,d,rfl⟩ entry_list_sort ?body (ksk_l1 _ _)))
 case body =>
  show wpAny (model X.prog X.w) A.in1.in1 (Builtin.«list.sort» ⟨[.ref a.heap.objs.size],[(Str.ofString "key",.ref f)]⟩) _ _ _;rw [ksk_t1];refine Jij (s:={ a with heap:=a.heap.push (seqObj "list" vs.toArray 0) })
   (g.kept (t':=a.toks) fun b o e=>get?_push_of_some _ e) p d (show kz.length=vs.length by omega) (by omega) (fun i v k B L=>?_) fun s' out c M G k'=>⟨_,rfl,?_⟩
  ·obtain ⟨y,q⟩:∃ y,xs[i]?=some y:=by
    have hi:i < vs.length:=(List.getElem?_eq_some_iff.mp B).1;exact ⟨xs[i]'(by omega),List.getElem?_eq_getElem _⟩
   obtain ⟨u,z,F⟩:=r.get q;rw [B] at z;cases z;exact turn i y v k q F L
  ·exact wpAny_pure ⟨_,rfl,h s' _ out c vs r M p I G k'⟩
theorem Inv.adopt(I:Inv X pins σ H s)(f:FpOk X pins H D)(m:X.s₀.heap.objs.size<=D)(new:J34 X.prog X.w (upd H D o) s.heap D o):Inv X pins σ (upd H D o) s:=by
 obtain ⟨C,B,F,E,A,y⟩:=f;have l:∀ b u,H b=some u->b≠D:=fun b u e z=>by rw [z,C] at e;cases e
 have kp:∀ b u,H b=some u->upd H D o b=some u:=fun b u e=>by rw [Jm (l b u e)];exact e
 refine ⟨I.ok,I.os,I.bare,⟨I.base.keep,I.base.slot,fun b d q n r=>?_,I.base.there,fun b xs q=>kp _ _ (I.base.tups b xs q),fun b d u q=>kp _ _ (I.base.frzs b d u q),fun b ps q=>?_⟩,I.loc,I.cell,?_,fun x c e=>?_,fun p g=>?_,fun b u e=>?_,I.len⟩
 ·rw [Jm (Nat.ne_of_lt (Nat.lt_of_lt_of_le (lt_size q) m))];exact I.base.free b d q n r
 ·obtain ⟨a,e⟩:=I.base.tbls b ps q;exact ⟨a,kp _ _ e⟩
 ·rw [Jm (Ne.symm B)];exact I.free
 ·rw [Jm (A x c e)];exact I.freeC x c e
 ·obtain ⟨j,i,h⟩:=I.pin p g;exact ⟨j,by rw [Jm (y p g)];exact i,h⟩
 ·by_cases hb:b=D
  ·subst hb;rw [J6] at e;cases e;exact new
  ·rw [Jm hb] at e;exact (I.hok b u e).stay (fun c v _ q=>q) (fun c q=>kp _ _ q) fun c xs q=>kp _ _ q
end
theorem Jb8{α β:Type}{f:α->β}{ps h:List β}(p:ps.Perm h):∀ {z:List α},h=z.map f->∃ c:List α,c.Perm z/\ps=c.map f:=by
 induction p with
 | nil =>
  intro z e
  cases z with
  | nil=>exact ⟨[],.refl _,rfl⟩
  | cons a r=>cases e
 | cons x _ ih =>
  intro z e
  cases z with
  | nil=>cases e
  | cons a r =>
   obtain ⟨o,n⟩:=List.cons.inj e;obtain ⟨c,g,d⟩:=ih n;exact ⟨a :: c,.cons a g,by rw [map_cons,<- d,<- o]⟩
 | swap x y l =>
  intro z e
  match z,e with
  | [],e=>cases e
  | [a],e=>simp at e
  | a :: b :: r,e =>
   simp only [map_cons,List.cons.injEq] at e;exact ⟨b :: a :: r,.swap _ _ _,by rw [map_cons,map_cons,e.1,e.2.1,e.2.2]⟩
 | trans _ _ ih1 ih2 =>
  intro z e;obtain ⟨q,g,d⟩:=ih2 e;obtain ⟨i,m,j⟩:=ih1 d;exact ⟨i,m.trans g,j⟩
theorem Jbq:∀ {ks:List Int} {xs:List V} {us:List Value},ks.length=xs.length->Vals xs us->
  ∃ z:List (Int × V × Value),z.map (fun t=>(t.1,t.2.1))=ks.zip xs/\z.map (fun t=>(t.1,t.2.2))=ks.zip us/\∀ t∈z,RelV t.2.1 t.2.2
 | [],[],_,_,.nil=>⟨[],rfl,rfl,fun _ h=>by simp at h⟩
 | k :: ks,x :: xs,u :: us,hl,.cons r rs=>by
  obtain ⟨z,d,c,b⟩:=Jbq (ks:=ks) (by simpa using hl) rs;refine ⟨(k,x,u) :: z,by simp [d],by simp [c],fun t a=>?_⟩;rcases mem_cons.mp a with rfl | a
  ·exact r
  ·exact b t a
theorem J7b:∀ {z:List (Int × V × Value)},(∀ t∈z,RelV t.2.1 t.2.2)->Vals ((z.map (fun t=>(t.1,t.2.1))).map Prod.snd) ((z.map (fun t=>(t.1,t.2.2))).map Prod.snd)
 | [],_=>.nil
 | a :: r,h=>.cons (h a (mem_cons_self ..)) (J7b fun t b=>h t (mem_cons_of_mem _ b))
theorem kskV(g:ks.length=xs.length)(r:Vals xs us)(k:KskOut false ks us out):
  ∃ a:List (Int × V),a.Perm (ks.zip xs)/\Vals (a.map Prod.snd) out/\a.Pairwise (fun p q=>p.1<=q.1):=by
 obtain ⟨ps,d,rfl,c⟩:=k;obtain ⟨z,l,j,i⟩:=Jbq g r;rw [<- j] at d;obtain ⟨e,b,rfl⟩:=Jb8 d rfl;refine ⟨e.map fun t=>(t.1,t.2.1),by rw [<- l];exact b.map _,J7b fun t f=>i t (b.mem_iff.mp f),?_⟩;rw [pairwise_map] at c ⊢;exact c.imp fun h=>by simp_all
noncomputable def SrtOf(H:Hp)(p:Addr)(xs:List V):Prop:=H p=some (.lst xs)\/∃ n:Nat,H p=some (.rng 0 (n:Int))/\xs=(List.range n).map fun (i:Nat)=>V.int (i:Int)
noncomputable def srtR(P:Addr)(pos:Pos)(qual:Str)(js:List Nat)(h:TE)(σ:St)(Q:VK)(v:V)(f:Hp):Prop:=∃ (p:Addr) (xs:List V) (ks:List Int),v=.ref p/\SrtOf f p xs/\xs.length < 64/\ks.length=xs.length/\J2j f P pos qual/\
 (∀ d,J22 f d->∀ (i:Nat) (y:V) (k:Int),xs[i]?=some y->ks[i]?=some k->h (some y :: capv σ js) d fun z j=>z=.int k/\j=d)/\
 ∀ d l (ys:List (Int × V)),J22 f d->J2j d P pos qual->(∀ g e c,g≠P->J2j f g e c->J2j d g e c)->d l=none->ys.Perm (ks.zip xs)->ys.Pairwise (fun a b=>a.1<=b.1)->Q (.ref l) (upd d l (.lst (ys.map Prod.snd)))
noncomputable def tSortK(P:Addr)(pos:Pos)(qual:Str)(js:List Nat)(a b:TE):TE:=fun σ H Q=>b σ H (srtR P pos qual js a σ Q)
section
variable{X:Cx}{params:Arguments}{body e1:Expr}{scope:Scope}{cl:List (Str × Addr)}{c P:Addr}{lpos kp p pos:Pos}{x:Str}{caps:List Str}{js:List Nat}{te t1:TE}
theorem Jb9(hc:X.calm=true)(hr:Room 1 X.A)(hg:Gl X "sorted")(hm:X.mg "sorted"=none)(r:defaultsOf params X.env=([],[]))(aa:closureFor scope X.env=pure cl)(g:X.env.code=.ref c)(C:codeHdIn X.K c P=true)(B:J9y X.base X.mg P)(L:Jso X scope cl x caps js)(j:∀ u pm ab a,bindArgs (kla_fn "<lambda>" (X.env.qual ++ "<lambda>") params body scope cl pm ab a) ⟨[u],[]⟩=pure [(x,u)])(he:∀ A f c' s H,PE (Joy X A (x :: caps) (X.env.qual ++ "<lambda>") scope f (.ref c') cl s H) body te)(h1:PE X F t1)(W:starEach [F] X.env=(false,eval F X.env) :: starEach [] X.env:=by rfl):
  PE X (.Call (.Name "sorted" p) [F] [⟨some "key",.Lambda params body scope lpos,kp⟩] pos) (tSortK P lpos (X.env.qual ++ "<lambda>") js te t1):=by
 intro pins s σ H Q I h;refine wpAny_Call_Name_kw (J7g I hg hm rfl ?_ (by decide) (by decide));refine PyProof.Rows.callWith_kw ?_ (by rw [W];rfl) (by rw [W];rfl);refine thn ((J0 h1 J3 W) pos pins s σ H (fun vs H1=>match vs with
  | [v]=>srtR P lpos (X.env.qual ++ "<lambda>") js te σ Q v H1
  | _=>False) I h) fun us s1 ⟨vs,H1,I1,S,U⟩=>?_
 match vs,S,U with
 | [v],S,U =>
  obtain ⟨q,xs,ks,rfl,w,E,hk,T,ht,fin⟩:=U;obtain ⟨u,rfl,rx⟩:=J6s S;cases rx;refine kws_cons (Joq I1 r aa g C B T fun f c' a O N I2 ho ff cd M T2 TQ nn=>kws_nil ?_);obtain ⟨oc,ws,t,F,e2,e3⟩:=cd;show wpAny _ _ (call (.builtin "sorted") [.ref q] [(Str.ofString "key",.ref f)]) _ _ N;have G:Inv X ((f,kla_obj "<lambda>" (X.env.qual ++ "<lambda>") params body scope cl ((X.mg "__name__").getD .none) c' a) :: pins) σ O N:=I2.pins_of fun p Y=>(mem_cons.mp Y).elim (fun z=>by
   rw [z];exact ⟨ho,ff.1,ff.2.1,ff.2.2.1,fun v q=>by cases q⟩) fun z=>I2.pin p (mem_append_right _ z)
  refine Jmc (pins:=(f,kla_obj "<lambda>" (X.env.qual ++ "<lambda>") params body scope cl ((X.mg "__name__").getD .none) c' a) :: pins) (σ:=σ) (H:=O) hk E ?_ (fun i y v k ey ry ek s' l=>?_) fun s' D out cc ac ru l fD hz hD kk=>?_
  ·rcases w with w | ⟨n,w,rfl⟩
   ·obtain ⟨ad,r',pl,hz⟩:=G.list (.inl (.inl (M _ _ w rfl)));refine collect_list pl.isList ⟨r',G.kept (t':=N.toks) fun b o e=>?_⟩ (by rw [sizeLine_eq];have:=r'.length;omega);have m:=lt_size e;rw [Heap.get?_update_ne _ _ _ _ (Nat.ne_of_lt m),Heap.get?_push_ne _ _ _ (Nat.ne_of_lt m)];exact e
   ·obtain ⟨t,u,v,e⟩:=G.hok q _ (M _ _ w rfl);refine Jbk (G.ok.hd hc) (show IsRange N.heap q 0 (n:Int) 1 t u v from e) (by rw [length_map,length_range] at E;omega) fun h' tk acc Z d=>⟨J3z (by rw [length_toList];exact d.1) fun i v e=>?_,G.kept (t':=tk) Z⟩;obtain ⟨t,rfl⟩:=d.2 i v (by simpa using e);exact ⟨t,by simp⟩
  ·have po:=(l.pin _ (mem_append_right _ (mem_cons_self ..))).1;have cr:s'.heap.CodeRec (.ref c') (X.env.qual ++ "<lambda>"):=⟨c',oc,ws,t,rfl,(l.hok c' _ F).1,e2,e3⟩;exact Jop l L l.ok.frames (l.ok.hd hc) hr.depth ry po cr (j _ _ _ _) (he _ _ _ _ _) (ht O M i y k ey ek)
  ·obtain ⟨R,y1,y2,y3⟩:=kskV hk ru kk;have len:(R.map Prod.snd).length<=sizeLine:=by
    rw [length_map,y1.length_eq,List.length_zip,sizeLine_eq];omega
   have J:=l.adopt (o:=.lst (R.map Prod.snd)) fD hz ⟨len,out.toList,cc,y2,hD⟩;exact ⟨.ref D,_,J.pins_of fun p Y=>J.pin p (mem_append_right _ (mem_cons_of_mem _ Y)),rfl,fin O D R M T2 TQ fD.1 y1 y3⟩
end
theorem Fun.okK{K:Frag}{st:Stmt}(F:Fun K x qual st f fd)(a:fd.code=.ref c)(S:Jr N ps (Je st))(len:∀ vs H Q E,sp vs H Q E->vs.length=ps.length)(b:∀ (A:Around) (outer:List Env) (s:Shared) (H:Hp) (vs:List V) (Q:VK) (E:XK),Room k (A.deeper (envOfC qual (Je st) s.heap.objs.size f (.ref c)))->sp vs H Q E->
   ∃ t,PSs (cxOf CX0 P w K mg base N qual (Je st) f (.ref c) A outer s H E).nox (J1j st) t/\t { nx:=fun _ n=>Q .non n,rt:=Q } (start N vs) H):FnOk P w K mg base CX0 (k + 1) f fd ps sp:=by
 obtain ⟨r,p,kV,m,o,u,g,ct,i,rfl,j,e⟩:=F.ex;obtain rfl:g=.ref c:=a;refine Jsi j e S len fun A outer s H vs Q E l d=>?_;obtain ⟨t,h,q⟩:=b A outer s H vs Q E l d;exact ⟨t,h.nox,q⟩
theorem Jos{K:Frag}(X:K.In h)(e:codeHdIn K c P=true):isCodeTable h P:=by
 obtain ⟨o,vs,_,_,_,_,_,_,_,f,d,b,a,_⟩:=codeHd_of_K X e;exact ⟨c,o,vs,f,d,b,a⟩
theorem Jki{K:Frag}{Ps:List Addr}(KX:K.In s₁.heap)(y:s₁.heap.Ns mainGlobals mg)(hb:s₁.heap.Ns builtinsNs mb)(S:∀ x:Str,x≠"__name__"->mb x=bootBuiltins x)(J:s₁.heap.NoLimit)(hg:s₁.gens=#[])(C:s₁.heap.get? a=some { cls:=.type "list",data:=.seq vs.toArray })(hi:IntsAre vs ns)(hl:ns.length<=sizeLine)(hr:Room k callerA)(c:∀ P∈Ps,s₁.heap.get? P=some (tabObj #[])/\isCodeTable s₁.heap P/\K.lookup P=none)(R:∃ p D,mg "__builtins__"=some (.ref p)/\p≠builtinsNs/\s₁.heap.get? p=some D/\D.cls=.type "module"/\D.dict=some builtinsNs/\D.data=.plain)(F:∀ base ,K.In base->base.Ns mainGlobals mg->(∀ P∈Ps,J9y base mg P)->FnOk P w K mg base CX k fa fd [x] sp)(A:∀ (s:Shared) (u:Value),BindsTo s fd ⟨[u],[]⟩ [(x,u)])(O:∀ H ,(∀ P∈Ps,H P=some (.tbl #[]))->SqL K H a (ns.map V.int)->sp [.ref a] H (fun v _=>v=.bl true) fun _ _ _=>False)(U:∀ H e s',CX [] H s₁ (fun _ _ _=>False) e s'->False):
  codeAny (model P w) callerA (.call (.ref fa) ⟨[.ref a],[]⟩) (fun r s'=>r=.ok (.ret (.bool true))/\OldK s₁.heap s'.heap/\s'.os=s₁.os/\AllBare s'.gens) s₁:=by
 have Z:=J4l hi;have I:=hi.length;have n:∀ H ,(∀ P∈Ps,H P=some (.tbl #[]))->SqL K H a (ns.map V.int)->
   (∀ b u,H b=some u->(b∈Ps/\u=.tbl #[])\/(b=a/\K.lookup a=none/\u=.frz { cls:=.type "list",data:=.seq vs.toArray } (.lst (ns.map V.int))))->
   codeAny (model P w) callerA (.call (.ref fa) ⟨[.ref a],[]⟩) (fun r s'=>r=.ok (.ret (.bool true))/\OldK s₁.heap s'.heap/\s'.os=s₁.os/\AllBare s'.gens) s₁:=by
  intro H hT hS M;have hok:HOk P w H s₁.heap:=fun b u e=>by
   rcases M b u e with ⟨hb,rfl⟩ | ⟨rfl,_,rfl⟩
   ·exact (c b hb).1
   ·exact ⟨C,by rw [length_map];exact hl,vs,_,Z,C⟩
  have f:∀ {b:Addr} {o:Obj} {N:Array DictEntry} {ep:Nat},s₁.heap.get? b=some o->o.data=.dict N ep->H b=none:=fun {b o N ep} e d=>by
   cases q:H b with
   | none=>rfl
   | some u =>
    rcases M b u q with ⟨hb,_⟩ | ⟨rfl,_⟩
    ·rw [(c b hb).1] at e;cases e;cases d
    ·rw [C] at e;cases e;cases d
  have i:∀ {b:Addr} {m:Str->Option Value},s₁.heap.Ns b m->(hidT s₁.heap H).Ns b m:=fun {b m} h9=>by obtain ⟨o,N,ep,e,d,r⟩:=h9;exact ⟨o,N,ep,Jbf e (f e d),d,r⟩
  have L:K.In (hidT s₁.heap H):=fun b o e=>Jbf (KX b o e) (by
   cases q:H b with
   | none=>rfl
   | some u =>
    rcases M b u q with ⟨hb,_⟩ | ⟨rfl,hk,_⟩
    ·rw [(c b hb).2.2] at e;cases e
    ·rw [hk] at e;cases e)
  have hM:Mod K mg (hidT s₁.heap H):=⟨L,i y,⟨mb,i hb,S⟩,by obtain ⟨mc,h1,h2⟩:=J;exact ⟨mc,i h1,h2⟩⟩;have e0:Env0 P w K mg (hidT s₁.heap H) callerA [] s₁ H:=⟨rfl,hM,fun b o e=>Jrz e,Nat.le_of_eq (Jkx _ _),trivial,fun b hb=>absurd (show b∈([]:List Addr) from hb) (by simp),hok,.of_eq hg⟩;have W:∀ Q∈Ps,J9y (hidT s₁.heap H) mg Q:=fun Q hQ=>by
   obtain ⟨p,D,b1,b2,j,b4,b5,E⟩:=R;refine ⟨p,D,b1,b2,fun e=>?_,fun e=>?_,Jbf j ?_,b4,b5,E⟩
   ·obtain ⟨o,N,ep,e1,X,_⟩:=y;rw [e,e1] at j;cases j;rw [X] at E;cases E
   ·rw [e,(c Q hQ).1] at j;cases j;cases E
   ·cases q:H p with
    | none=>rfl
    | some u =>
     rcases M p u q with ⟨hb,_⟩ | ⟨rfl,_⟩
     ·rw [(c p hb).1] at j;cases j;cases E
     ·rw [C] at j;cases j;cases E
  refine codeAny_mono ((F _ L (i y) W).run callerA [] s₁ H ⟨[.ref a],[]⟩ [.ref a] [.ref a] _ _ hr e0 (A s₁ (.ref a)) (.cons rfl .nil) (O H hT hS)) fun r s' h=>?_
  cases r with
  | error e=>exact (U H e s' h).elim
  | ok fl =>
   cases fl with
   | next=>exact False.elim h
   | brk=>exact False.elim h
   | cont=>exact False.elim h
   | ret u =>
    obtain ⟨v,H',os,bare,un,l,r',q⟩:=h;obtain rfl:v=.bl true:=q;obtain rfl:u=Value.bool true:=r';have kp:∀ b o,s₁.heap.get? b=some o->asItWas s₁.heap s'.heap b o:=fun b o e=>by
     cases q:H b with
     | none=>exact .inl (un.keep b o e q (by intro z;exact absurd (show b∈([]:List Addr) from z) (by simp)) (by simp))
     | some u =>
      rcases M b u q with ⟨hb,rfl⟩ | ⟨rfl,_,rfl⟩
      ·obtain ⟨G,z⟩:=un.tbls b #[] q;obtain ⟨t1,t2,_⟩:=c b hb;rw [t1] at e;cases e;exact .inr (.inl ⟨t2,rfl,#[],G,rfl,l b _ z⟩)
      ·obtain ⟨X,_⟩:=l b _ (un.frzs b _ _ q);rw [C] at e;cases e;exact .inl X
    exact ⟨rfl,⟨kp,fun b o e=>un.there b o e (by simp)⟩,os,bare⟩
 have nP:a ∉ Ps:=fun h=>by
  have e:=(c a h).1;rw [C] at e;cases e
 cases hk:K.lookup a with
 | some o =>
  have e:=KX a o hk;rw [C] at e;cases e;refine n (fun b=>if b∈Ps then some (.tbl #[]) else none) (fun P T=>if_pos T) (.inr ⟨_,vs.toArray,_,hk,rfl,rfl,rfl,by rw [size_toArray,I];exact hl,by simpa using Z⟩) fun b u z=>?_;by_cases hb:b∈Ps
  ·have g:=(if_pos hb).symm.trans z;cases g;exact .inl ⟨hb,rfl⟩
  ·have g:=(if_neg hb).symm.trans z;cases g
 | none =>
  refine n (fun b=>if b∈Ps then some (.tbl #[]) else if b=a then some (.frz { cls:=.type "list",data:=.seq vs.toArray } (.lst (ns.map V.int))) else none) (fun P T=>if_pos T)
   (.inl (.inr ⟨{ cls:=.type "list",data:=.seq vs.toArray },(if_neg nP).trans (if_pos rfl)⟩)) fun b u z=>?_
  by_cases hb:b∈Ps
  ·have g:=(if_pos hb).symm.trans z;cases g;exact .inl ⟨hb,rfl⟩
  ·have Y:=(if_neg hb).symm.trans z;by_cases B:b=a
   ·have g:=(if_pos B).symm.trans Y;cases g;exact .inr ⟨B,hk,rfl⟩
   ·have g:=(if_neg B).symm.trans Y;cases g
theorem J2j.empty(h:H P=some (.tbl #[])):J2j H P pos qual:=⟨#[],h,by first | trivial | exact .nil | grind,fun a e=>by simp [codeAmong] at e⟩
theorem lc_inv{K:Frag}{a d:Addr}{j:Hp}{h:TE}{σ:St}{js:List Nat}{Q:VK}(xs:List V)(e:Nat->List V->Hp->Prop)(s:e 0 [] (upd j d (.lst [])))(o:∀ i b H,i<=xs.length->e i b H->SqL K H a xs)(z:xs.length<=1000)(step:∀ i v b H (Qe:VK),xs[i]?=some v->e i b H->H d=some (.lst b)->b.length=i->(∀ y g,g d=some (.lst b)->e (i + 1) (b ++ [y]) (upd g d (.lst (b ++ [y])))->Qe y g)->h (some v :: capv σ js) H Qe)(fin:∀ b H,e xs.length b H->H d=some (.lst b)->b.length=xs.length->Q (.ref d) H):LCW (Itl K a) tYes h σ js Q j d:=by
 refine ⟨fun i m b H=>m=xs.length - i/\i<=xs.length/\H d=some (.lst b)/\b.length=i/\e i b H,⟨xs.length,by simp,Nat.zero_le _,J6,rfl,s⟩,?_⟩;rintro i m b H ⟨rfl,hi,hd,f,p⟩;have q:=o i b H hi p;refine ⟨hd,?_⟩;rcases Nat.lt_or_ge i xs.length with c | c
 ·right;refine ⟨⟨xs,xs[i],q,List.getElem?_eq_getElem c⟩,?_,?_⟩
  ·rw [f,sizeLine_eq];omega
  rintro v w ⟨rfl,n⟩;have u:=n xs q;unfold tYes;dsimp only;rw [if_pos rfl];exact step i v b w _ u p hd f fun y g r l=>⟨r,xs.length - (i + 1),by omega,rfl,c,J6,by simp [f],l⟩
 ·left;obtain rfl:i=xs.length:=by omega
  exact ⟨⟨xs,q,Nat.le_refl _⟩,fin b H p hd f⟩
theorem walk_ofU{l:PySem.W.OpenLaw}{K:Params->Frag}{CX:World->CXT}{sp:World->Sp}{Ps:List Addr}(L:l.most=some n)(z:n<=sizeLine)(B:d.params.defaults=[])(J:Room k callerA)(O:∀ (w:World) (h:Heap),YP w h->(K w.params).In h/\∀ P∈Ps,h.get? P=some (tabObj #[]))(R:∀ (w:World),∀ P∈Ps,(K w.params).lookup P=none)(F:∀ (w:World) (mg:Str->Option Value) (r:Addr) (h:Heap),(K w.params).In h->h.Ns mainGlobals mg->mg d.name=some (.ref r)->
   (∀ P∈Ps,∃ c,codeHdIn (K w.params) c P=true)/\∃ fd:FuncData,(∀ (s:Shared) (u:Value),BindsTo s fd ⟨[u],[]⟩ [(x,u)])/\
    ∀ base ,(K w.params).In base->base.Ns mainGlobals mg->(∀ P∈Ps,J9y base mg P)->FnOk l.prog w (K w.params) mg base (CX w) k r fd [x] (sp w))(y:∀ (w:World) (H:Hp) (a:Addr) (ns:List Int),ns.length<=n->(∀ P∈Ps,H P=some (.tbl #[]))->SqL (K w.params) H a (ns.map V.int)->sp w [.ref a] H (fun v _=>v=.bl true) fun _ _ _=>False)(C:∀ (w:World) (H:Hp) (s:Shared) (e:Value) (s':Shared),CX w [] H s (fun _ _ _=>False) e s'->False):
  PySem.W.WalkO q loose XP YP l.row.toRowW d [] (fun f vs=>PySem.call f vs):=by
 refine Att.attach_call L B fun w s₀ I mg mb r o pm cd Z a vs ns G Y ho hd N A p j i M=>?_;obtain ⟨D,E⟩:=O w _ Y;obtain ⟨X,fd,hb,U⟩:=F w mg r _ D G.T.g A;refine Jki D G.T.g G.T.b G.T.builtins G.T.nolimit M p j (Nat.le_trans i z) J (fun P m=>⟨E P m,?_,R w P m⟩) G.T.bmain U hb (fun H S Q=>y w H a ns i S Q) fun H e s'=>C w H I e s';obtain ⟨c,e⟩:=X P m;exact Jos D e
end L2
namespace Rl
structure Sr where
 fi:Int
 le:Int
 la:Int
 tu:Bool
noncomputable def fgo(s:Sr):Int:=if s.tu=true then s.la + s.le - 1 else s.la
noncomputable def lgo(s:Sr):Int:=if s.tu=true then s.la else s.la + s.le - 1
noncomputable def gtog(a b:Sr):Bool:=decide ((if fgo b - lgo a < 0 then -(fgo b - lgo a) else fgo b - lgo a)=1)
noncomputable def mk1(a b:Sr):Sr:=⟨a.fi,a.le + b.le,if b.la < a.la then b.la else a.la,decide (b.la < a.la) && decide (1 < a.le + b.le)⟩
noncomputable def lstp(acc:List Sr)(s:Sr):List Sr:=match acc.getLast? with
 | some a=>if gtog a s=true then acc.dropLast ++ [mk1 a s] else acc ++ [s]
 | none=>[s]
noncomputable def lgst(a:List Sr):List Sr:=a.foldl lstp []
structure Pc(g:Int->Int)(a:Int)(s:Sr):Prop where
 fi:s.fi=a
 le:1<=s.le
 tu:s.tu=true->1 < s.le
 up:s.tu=false->∀ x,0<=x->x < s.le->g (a + x)=s.la + x
 dn:s.tu=true->∀ x,0<=x->x < s.le->g (a + x)=s.la + s.le - 1 - x
noncomputable def near(u v:Int):Prop:=u - v=1\/v - u=1
noncomputable def Rep(g:Int->Int):Int->List Sr->Int->Prop
 | a,[],b=>a=b
 | a,s :: r,b=>Pc g a s/\Rep g (a + s.le) r b
noncomputable def RepS(g:Int->Int):Int->List Sr->Int->Prop
 | a,[],b=>a=b
 | a,s :: r,b=>Pc g a s/\(r≠[]->¬ near (g (a + s.le)) (g (a + s.le - 1)))/\RepS g (a + s.le) r b
theorem Pc.fgo(p:Pc g a s):fgo s=g a:=by
 unfold Rl.fgo;have l:=p.le;by_cases t:s.tu=true
 ·rw [if_pos t];have:=p.dn t 0 (by lia) (by lia)
  grind
 ·rw [if_neg t];have:=p.up (by simpa using t) 0 (by lia) (by lia);rw [show a + 0=a by lia] at this;lia
theorem Pc.lgo(p:Pc g a s):lgo s=g (a + s.le - 1):=by
 unfold Rl.lgo;have l:=p.le;by_cases t:s.tu=true
 ·rw [if_pos t];have:=p.dn t (s.le - 1) (by lia) (by lia)
  grind
 ·rw [if_neg t];have:=p.up (by simpa using t) (s.le - 1) (by lia) (by lia);rw [show a + (s.le - 1)=a + s.le - 1 by lia] at this;lia
theorem Jg3(c:Pc g a p)(b:Pc g (a + p.le) q):gtog p q=true↔near (g (a + p.le)) (g (a + p.le - 1)):=by
 unfold gtog near;rw [b.fgo,c.lgo,decide_eq_true_iff];generalize g (a + p.le)=u;generalize g (a + p.le - 1)=v;split <;> lia
theorem Pc.merge{g:Int->Int}{a b:Int}{p q:Sr}(inj:∀ x y,a<=x->x < b->a<=y->y < b->g x=g y->x=y)(d:Pc g a p)(f:Pc g (a + p.le) q)(hb:a + p.le + q.le<=b)(h:near (g (a + p.le)) (g (a + p.le - 1))):Pc g a (mk1 p q):=by
 have l1:=d.le;have w:=f.le;have n:=d.lgo;have m:=f.fgo;unfold Rl.lgo at n;unfold Rl.fgo at m;rcases h with h | h
 ·-- upward
  have pt:p.tu=false:=by
   cases t:p.tu with
   | false=>rfl
   | true =>
    have c:=d.tu t;have e:=d.dn t (p.le - 2) (by lia) (by lia);rw [if_pos t] at n;have:=inj (a + (p.le - 2)) (a + p.le) (by lia) (by lia) (by lia) (by lia) (by lia);lia
  have o:q.tu=false:=by
   cases t:q.tu with
   | false=>rfl
   | true =>
    have c:=f.tu t;have e:=f.dn t 1 (by lia) (by lia);rw [if_pos t] at m;have:=inj (a + p.le + 1) (a + p.le - 1) (by lia) (by lia) (by lia) (by lia) (by lia);lia
  rw [pt,if_neg (by decide)] at n;rw [o,if_neg (by decide)] at m;have j:¬ q.la < p.la:=by lia
  refine ⟨d.fi,by show 1<=p.le + q.le;lia,fun t=>by show 1 < p.le + q.le;lia,fun t x i c=>?_,fun t=>?_⟩
  ·have c:x < p.le + q.le:=c;show g (a + x)=(if q.la < p.la then q.la else p.la) + x;rw [if_neg j];rcases Int.lt_or_le x p.le with hx | hx
   ·exact d.up pt x i hx
   ·have:=f.up o (x - p.le) (by lia) (by lia);rw [show a + p.le + (x - p.le)=a + x by lia] at this;lia
  ·have t:(decide (q.la < p.la) && decide (1 < p.le + q.le))=true:=t;rw [decide_eq_false j] at t;cases t
 ·-- downward
  have s:∀ x,0<=x->x < p.le->g (a + x)=p.la + p.le - 1 - x:=by
   cases t:p.tu with
   | true=>exact d.dn t
   | false =>
    intro x i c;rw [t,if_neg (by decide)] at n;rcases Int.lt_or_le 1 p.le with l | l
    ·have e:=d.up t (p.le - 2) (by lia) (by lia);have:=inj (a + (p.le - 2)) (a + p.le) (by lia) (by lia) (by lia) (by lia) (by lia);lia
    ·have e:=d.up t x i c;lia
  have r:∀ x,0<=x->x < q.le->g (a + p.le + x)=q.la + q.le - 1 - x:=by
   cases t:q.tu with
   | true=>exact f.dn t
   | false =>
    intro x i c;rw [t,if_neg (by decide)] at m;rcases Int.lt_or_le 1 q.le with l | l
    ·have e:=f.up t 1 (by lia) (by lia);have:=inj (a + p.le + 1) (a + p.le - 1) (by lia) (by lia) (by lia) (by lia) (by lia);lia
    ·have e:=f.up t x i c;lia
  have v:=s (p.le - 1) (by lia) (by lia);have u:=r 0 (by lia) (by lia);rw [show a + (p.le - 1)=a + p.le - 1 by lia] at v;rw [show a + p.le + 0=a + p.le by lia] at u;have j:q.la < p.la:=by lia
  refine ⟨d.fi,by show 1<=p.le + q.le;lia,fun t=>by show 1 < p.le + q.le;lia,fun t=>?_,fun t x i c=>?_⟩
  ·have t:(decide (q.la < p.la) && decide (1 < p.le + q.le))=false:=t;rw [decide_eq_true j,decide_eq_true (by lia:1 < p.le + q.le)] at t;cases t
  ·have c:x < p.le + q.le:=c;show g (a + x)=(if q.la < p.la then q.la else p.la) + (p.le + q.le) - 1 - x;rw [if_pos j];rcases Int.lt_or_le x p.le with hx | hx
   ·have:=s x i hx;lia
   ·have:=r (x - p.le) (by lia) (by lia);rw [show a + p.le + (x - p.le)=a + x by lia] at this;lia
theorem RepS.last :∀ {init:List Sr} {a m:Int} {p:Sr},RepS g a (init ++ [p]) m->∃ k,a<=k/\Pc g k p/\m=k + p.le/\(∀ b,Pc g k b->RepS g a (init ++ [b]) (k + b.le))/\
  ∀ q,Pc g m q->¬ near (g m) (g (m - 1))->RepS g a (init ++ [p] ++ [q]) (m + q.le)
 | [],a,m,p,h=>by
  obtain ⟨c,_,i⟩:=h;subst i;exact ⟨a,Int.le_refl _,c,rfl,fun b e=>⟨e,fun z=>absurd rfl z,rfl⟩,fun q d f=>⟨c,fun _=>f,d,fun z=>absurd rfl z,rfl⟩⟩
 | s :: r,a,m,p,h=>by
  obtain ⟨c,j,i⟩:=h;obtain ⟨k,v,u,o,n,l⟩:=RepS.last (init:=r) i;have:=c.le;refine ⟨k,by lia,u,o,fun b e=>⟨c,fun _=>j (by simp),n b e⟩,fun q d f=>⟨c,fun _=>j (by simp),l q d f⟩⟩
theorem RepS.le :∀ {c:List Sr} {a b:Int},RepS g a c b->a<=b
 | [],a,b,h=>Int.le_of_eq h
 | s :: r,a,b,⟨h1,_,h3⟩=>by have:=RepS.le h3;have:=h1.le;lia
theorem Jm7{acc:List Sr}(e:acc.getLast?=some a):acc=acc.dropLast ++ [a]:=by
 rcases List.eq_nil_or_concat acc with rfl | ⟨l,b,rfl⟩
 ·cases e
 ·grind
theorem RepS.step(inj:∀ x y,a<=x->x < b->a<=y->y < b->g x=g y->x=y)(h:RepS g a acc m)(d:Pc g m s)(hb:m + s.le<=b):RepS g a (lstp acc s) (m + s.le):=by
 unfold lstp
 cases e:acc.getLast? with
 | none =>
  have:=List.getLast?_eq_none_iff.mp e;subst this;have h:=h;subst h;exact ⟨d,fun z=>absurd rfl z,rfl⟩
 | some p =>
  have sp:=Jm7 e;dsimp only;rw [sp] at h;obtain ⟨k,v,f,q,o,l⟩:=h.last;subst q;by_cases c:gtog p s=true
  ·rw [if_pos c];have M:=Pc.merge (a:=k) (b:=b) (fun x y u j r i e=>inj x y (by lia) j (by lia) i e) f d (by lia) ((Jg3 f d).mp c);have:=o _ M;rw [show k + p.le + s.le=k + (mk1 p s).le by show _=k + (p.le + s.le);lia];exact this
  ·rw [if_neg c];have:=l s d fun n=>c ((Jg3 f d).mpr n);rw [<- sp] at this;exact this
theorem Rep.le :∀ {c:List Sr} {a b:Int},Rep g a c b->a<=b
 | [],a,b,h=>Int.le_of_eq h
 | s :: r,a,b,⟨h1,h3⟩=>by have:=Rep.le h3;have:=h1.le;lia
theorem Jg4(inj:∀ x y,a<=x->x < b->a<=y->y < b->g x=g y->x=y):∀ (c:List Sr) {acc:List Sr} {m:Int},RepS g a acc m->Rep g m c b->RepS g a (c.foldl lstp acc) b
 | [],acc,m,h,e=>by
  subst e;exact h
 | s :: r,acc,m,h,⟨h1,h2⟩=>by
  exact Jg4 inj r (RepS.step inj h h1 h2.le) h2
theorem J81(inj:∀ x y,a<=x->x < b->a<=y->y < b->g x=g y->x=y)(h:Rep g a ss b):RepS g a (lgst ss) b:=Jg4 inj ss (acc:=[]) (m:=a) rfl h
theorem Pc.near(p:Pc g a s)(e:a < m)(d:m < a + s.le):near (g m) (g (m - 1)):=by
 cases t:s.tu with
 | false =>
  have c:=p.up t (m - a) (by lia) (by lia);have b:=p.up t (m - 1 - a) (by lia) (by lia);rw [show a + (m - a)=m by lia] at c;rw [show a + (m - 1 - a)=m - 1 by lia] at b;left;lia
 | true =>
  have c:=p.dn t (m - a) (by lia) (by lia);have b:=p.dn t (m - 1 - a) (by lia) (by lia);rw [show a + (m - a)=m by lia] at c;rw [show a + (m - 1 - a)=m - 1 by lia] at b;right;lia
theorem Pc.uni(b:Pc g a p)(c:Pc g a q)(e:p.le=q.le):p=q:=by
 have l:=b.le;have t:p.tu=q.tu:=by
  cases tp:p.tu with
  | false =>
   cases tq:q.tu with
   | false=>rfl
   | true =>
    have h:=c.tu tq;have i:=b.up tp 0 (by lia) (by lia);have m:=b.up tp 1 (by lia) (by lia);have d:=c.dn tq 0 (by lia) (by lia);have j:=c.dn tq 1 (by lia) (by lia);lia
  | true =>
   cases tq:q.tu with
   | true=>rfl
   | false =>
    have h:=b.tu tp;have i:=b.dn tp 0 (by lia) (by lia);have m:=b.dn tp 1 (by lia) (by lia);have d:=c.up tq 0 (by lia) (by lia);have j:=c.up tq 1 (by lia) (by lia);lia
 have la:p.la=q.la:=by
  cases tp:p.tu with
  | false =>
   have i:=b.up tp 0 (by lia) (by lia);have d:=c.up (by rw [<- t];exact tp) 0 (by lia) (by lia);lia
  | true =>
   have i:=b.dn tp 0 (by lia) (by lia);have d:=c.dn (by rw [<- t];exact tp) 0 (by lia) (by lia);lia
 have f:=b.fi.trans c.fi.symm;obtain ⟨u,pl,v,pt⟩:=p;obtain ⟨r,o,s,n⟩:=q;simp only at e t la f;rw [e,t,la,f]
theorem RepS.uni :∀ {j i:List Sr} {a b:Int},RepS g a j b->RepS g a i b->j=i
 | [],[],_,_,_,_=>rfl
 | [],t :: r,a,b,h,⟨h1,_,d⟩=>by
  have h:a=b:=h;have:=d.le;have:=h1.le;lia
 | s :: r,[],a,b,⟨h1,_,d⟩,h=>by
  have h:a=b:=h;have:=d.le;have:=h1.le;lia
 | s :: r,t :: r',a,b,⟨h1,h2,d⟩,⟨k1,k2,f⟩=>by
  have l1:=h1.le;have o:=k1.le;have e:s.le=t.le:=by
   have n:=d.le;have l:=f.le;rcases Int.lt_trichotomy s.le t.le with c | c | c
   ·have:r≠[]:=fun z=>by
     subst z;have d:a + s.le=b:=d;lia
    exact absurd (k1.near (m:=a + s.le) (by lia) (by lia)) (h2 this)
   ·exact c
   ·have:r'≠[]:=fun z=>by
     subst z;have f:a + t.le=b:=f;lia
    exact absurd (h1.near (m:=a + t.le) (by lia) (by lia)) (k2 this)
  have st:=h1.uni k1 e;subst st;rw [RepS.uni d f]
noncomputable def srO(ls:List Int)(os:List Nat)(ts:List Bool)(i:Nat):Sr:=⟨(firsts ls (List.range ls.length)).getD i 0,ls.getD i 0,(firsts ls os).getD i 0,ts.getD i false && decide (1 < ls.getD i 0)⟩
noncomputable def srsL(ls:List Int)(os:List Nat)(ts:List Bool):List Sr:=(List.range ls.length).map (srO ls os ts)
noncomputable def gL(ls:List Int)(os:List Nat)(ts:List Bool)(x:Int):Int:=by
 classical exact if h:∃ j,Lies (firsts ls (List.range ls.length)) ls x j then J45 ls ts h.choose (x - (firsts ls (List.range ls.length)).getD h.choose 0) (firsts ls os) else 0
theorem Jhd(O:Ord ls os)(q:Lies (firsts ls (List.range ls.length)) ls x j):gL ls os ts x=J45 ls ts j (x - (firsts ls (List.range ls.length)).getD j 0) (firsts ls os):=by
 unfold gL;have h:∃ j,Lies (firsts ls (List.range ls.length)) ls x j:=⟨j,q⟩;rw [dif_pos h,O.range.unique h.choose_spec q]
theorem Jed(O:Ord ls os)(q:Lies (firsts ls (List.range ls.length)) ls x j):Lies (firsts ls os) ls (gL ls os ts x) j:=by
 rw [Jhd O q];exact (Jcb q).1
theorem Jq4(O:Ord ls os)(i:0<=x)(h:x < ls.sum)(g:0<=y)(f:y < ls.sum)(e:gL ls os ts x=gL ls os ts y):x=y:=by
 obtain ⟨j,d⟩:=O.range.exists i h;obtain ⟨k,c⟩:=O.range.exists g f;have a:=Jed (ts:=ts) O d;have b:=Jed (ts:=ts) O c;rw [e] at a;have jk:=O.unique a b;subst jk;rw [Jhd O d,Jhd O c] at e;unfold J45 at e;split at e <;> lia
theorem gL_in(O:Ord ls os)(b:0<=x)(a:x < ls.sum):0<=gL ls os ts x/\gL ls os ts x < ls.sum:=by
 obtain ⟨j,c⟩:=O.range.exists b a;exact O.inside (Jed O c)
theorem J49(O:Ord ls os)(h:k < ls.length):(firsts ls (List.range ls.length)).getD k 0=Jt ls (List.range ls.length) k:=by
 have:=O.range.first h;rwa [J2x h] at this
theorem sr_pc(O:Ord ls os)(h:k < ls.length):Pc (gL ls os ts) (Jt ls (List.range ls.length) k) (srO ls os ts k):=by
 have fr:=J49 O h;have one:=O.one h;have at_:∀ x,0<=x->x < ls.getD k 0->gL ls os ts (Jt ls (List.range ls.length) k + x)=if ts.getD k false=true then (firsts ls os).getD k 0 + ls.getD k 0 - 1 - x else (firsts ls os).getD k 0 + x:=fun x b a=>by
  rw [Jhd O (j:=k) ⟨h,by lia,by lia⟩];unfold J45;rw [fr,show Jt ls (List.range ls.length) k + x - Jt ls (List.range ls.length) k=x by lia]
 refine ⟨fr,one,fun t=>?_,fun t x b a=>?_,fun t x b a=>?_⟩
 ·have t:(ts.getD k false && decide (1 < ls.getD k 0))=true:=t;rw [Bool.and_eq_true] at t;exact of_decide_eq_true t.2
 ·have a:x < ls.getD k 0:=a;have t:(ts.getD k false && decide (1 < ls.getD k 0))=false:=t;rw [at_ x b a];show _=(firsts ls os).getD k 0 + x;by_cases c:ts.getD k false=true
  ·rw [c,Bool.true_and] at t;have:=of_decide_eq_false t;rw [if_pos c];lia
  ·rw [if_neg c]
 ·have t:(ts.getD k false && decide (1 < ls.getD k 0))=true:=t;rw [Bool.and_eq_true] at t;rw [at_ x b a,if_pos t.1];rfl
theorem Jey(O:Ord ls os):∀ (d k:Nat),k + d=ls.length->Rep (gL ls os ts) (Jt ls (List.range ls.length) k) (((List.range ls.length).drop k).map (srO ls os ts)) ls.sum
 | 0,k,e=>by
  subst e;rw [List.drop_of_length_le (by simp)];exact O.range.whole
 | d + 1,k,e=>by
  have a:k < ls.length:=by lia
  rw [List.drop_eq_getElem_cons (by simp_all),List.getElem_range,map_cons];refine ⟨sr_pc O a,?_⟩;have:=Jey (ts:=ts) O d (k + 1) (by lia);rw [J1d,J2x a] at this;exact this
theorem J6u(O:Ord ls os):Rep (gL ls os ts) 0 (srsL ls os ts) ls.sum:=Jey O ls.length 0 (by lia)
theorem Jkd{ls:List Int}{os:List Nat}{ts:List Bool}(O:Ord ls os):RepS (gL ls os ts) 0 (lgst (srsL ls os ts)) ls.sum:=
 J81 (fun x y d c b a e=>Jq4 O d c b a e) (J6u O)
theorem Pc.congr{g h:Int->Int}{a:Int}{s:Sr}(p:Pc g a s)(e:∀ x,a<=x->x < a + s.le->g x=h x):Pc h a s:=
 ⟨p.fi,p.le,p.tu,fun t x c b=>by rw [<- e _ (by lia) (by lia)];exact p.up t x c b,fun t x c b=>by rw [<- e _ (by lia) (by lia)];exact p.dn t x c b⟩
theorem RepS.congr{g h:Int->Int}:∀ {f:List Sr} {a b:Int},RepS g a f b->(∀ x,a<=x->x < b->g x=h x)->RepS h a f b
 | [],_,_,r,_=>r
 | s :: r,a,b,⟨h1,h2,h3⟩,e=>by
  have l:=h1.le;have z:=h3.le;refine ⟨h1.congr fun x d c=>e x d (by lia),fun n=>?_,RepS.congr h3 fun x d c=>e x (by lia) c⟩;have lt:a + s.le < b:=by
   cases r with
   | nil=>exact absurd rfl n
   | cons t r'=>have:=h3.1.le;have:=h3.2.2.le;lia
  rw [<- e _ (by lia) lt,<- e _ (by lia) (by lia)];exact h2 n
theorem Pc.val(p:Pc g a s)(q:Pc h a s)(e:a<=x)(d:x < a + s.le):g x=h x:=by
 cases t:s.tu with
 | false =>
  have c:=p.up t (x - a) (by lia) (by lia);have b:=q.up t (x - a) (by lia) (by lia)
  grind
 | true =>
  have c:=p.dn t (x - a) (by lia) (by lia);have b:=q.dn t (x - a) (by lia) (by lia)
  grind
theorem RepS.at :∀ {L:List Sr} {a b:Int},RepS g a L b->∀ (i:Nat) (s:Sr),L[i]?=some s->Pc g s.fi s/\a<=s.fi/\s.fi + s.le<=b
 | [],_,_,_,i,s,e=>by simp at e
 | t :: r,a,b,⟨h1,h2,h3⟩,0,s,e=>by
  cases e;have:=h3.le;have f:=h1.fi;rw [f];exact ⟨h1,Int.le_refl _,this⟩
 | t :: r,a,b,⟨h1,h2,h3⟩,i + 1,s,e=>by
  obtain ⟨d,h,c⟩:=RepS.at h3 i s e;have:=h1.le;exact ⟨d,by lia,c⟩
theorem RepS.next :∀ {L:List Sr} {a b:Int},RepS g a L b->∀ (i:Nat) (s t:Sr),L[i]?=some s->L[i + 1]?=some t->t.fi=s.fi + s.le
 | [],_,_,_,i,s,t,e,_=>by simp at e
 | u :: r,a,b,⟨h1,h2,h3⟩,0,s,t,e,e2=>by
  cases e
  cases r with
  | nil=>simp at e2
  | cons v r' =>
   cases e2;rw [h3.1.fi,h1.fi]
 | u :: r,a,b,⟨h1,h2,h3⟩,i + 1,s,t,e,e2=>RepS.next h3 i s t e e2
theorem RepS.before :∀ {L:List Sr} {a b:Int},RepS g a L b->∀ (i j:Nat) (s t:Sr),i < j->L[i]?=some s->L[j]?=some t->s.fi + s.le<=t.fi
 | [],_,_,_,i,j,s,t,_,e,_=>by simp at e
 | u :: r,a,b,⟨h1,h2,h3⟩,0,j + 1,s,t,_,e,e2=>by
  cases e;obtain ⟨_,c,_⟩:=RepS.at h3 j t e2;have:=h1.fi;lia
 | u :: r,a,b,⟨h1,h2,h3⟩,i + 1,j + 1,s,t,h,e,e2=>RepS.before h3 i j s t (by lia) e e2
theorem RepS.tot :∀ {L:List Sr} {a b:Int},RepS g a L b->a + (L.map Sr.le).sum=b
 | [],a,b,e=>by
  have e:a=b:=e;simp [e]
 | s :: r,a,b,⟨_,_,h3⟩=>by
  have:=RepS.tot h3;rw [map_cons,sum_cons];lia
theorem Pc.hit(p:Pc g a s)(c:s.la<=v)(b:v < s.la + s.le):∃ x,a<=x/\x < a + s.le/\g x=v:=by
 cases t:s.tu with
 | false=>exact ⟨a + (v - s.la),by lia,by lia,by rw [p.up t _ (by lia) (by lia)];lia⟩
 | true=>exact ⟨a + (s.la + s.le - 1 - v),by lia,by lia,by rw [p.dn t _ (by lia) (by lia)];lia⟩
theorem Pc.low(p:Pc g a s):∃ x,a<=x/\x < a + s.le/\g x=s.la:=p.hit (Int.le_refl _) (by have:=p.le;lia)
theorem Pc.high(p:Pc g a s):∃ x,a<=x/\x < a + s.le/\g x=s.la + s.le - 1:=p.hit (by have:=p.le;lia) (by lia)
noncomputable def s0:Sr:=⟨0,0,0,false⟩
section
variable{g:Int->Int}{L:List Sr}{N:Int}{os:List Nat}
theorem getL(h:i < L.length):L[i]?=some (L.getD i s0):=by simp_all
theorem leD(h:i < L.length):(L.map Sr.le).getD i 0=(L.getD i s0).le:=by
 rw [getD_eq_getElem?_getD,getElem?_map,getL h];rfl
theorem laD(h:i < L.length):(L.map Sr.la).getD i 0=(L.getD i s0).la:=by
 rw [getD_eq_getElem?_getD,getElem?_map,getL h];rfl
theorem tuD(h:i < L.length):(L.map Sr.tu).getD i false=(L.getD i s0).tu:=by
 rw [getD_eq_getElem?_getD,getElem?_map,getL h];rfl
theorem RepS.ord(R:RepS g 0 L N)(p:os.Perm (List.range L.length)):Ord (L.map Sr.le) os:=
 ⟨fun a c=>by
  obtain ⟨s,b,rfl⟩:=mem_map.mp c;obtain ⟨i,hi,e⟩:=getElem_of_mem b;exact (R.at i s (by simp_all)).1.le,by simp_all⟩
theorem RepS.apart(R:RepS g 0 L N)(inj:∀ x y,0<=x->x < N->0<=y->y < N->g x=g y->x=y)(hi:i < L.length)(a:j < L.length)(ne:i≠j)(h:(L.getD i s0).la<=(L.getD j s0).la):(L.getD i s0).la + (L.getD i s0).le<=(L.getD j s0).la:=by
 obtain ⟨d,r,q⟩:=R.at i _ (getL hi);obtain ⟨b,p,o⟩:=R.at j _ (getL a);rcases Int.lt_or_le (L.getD j s0).la ((L.getD i s0).la + (L.getD i s0).le) with c | c
 ·obtain ⟨x,n,m,ex⟩:=d.hit h c;obtain ⟨y,f,e,s⟩:=b.low;have:=inj x y (by lia) (by lia) (by lia) (by lia) (by lia);subst this;rcases Nat.lt_or_gt_of_ne ne with l | l
  ·have:=R.before i j _ _ l (getL hi) (getL a);lia
  ·have:=R.before j i _ _ l (getL a) (getL hi);lia
 ·exact c
theorem RepS.laid(R:RepS g 0 L N)(inj:∀ x y,0<=x->x < N->0<=y->y < N->g x=g y->x=y)(inn:∀ x,0<=x->x < N->0<=g x/\g x < N)(p:os.Perm (List.range L.length))(srt:os.Pairwise (fun i j=>(L.map Sr.la).getD i 0<=(L.map Sr.la).getD j 0)):∀ k,k < L.length->(L.getD (os.getD k 0) s0).la=Jt (L.map Sr.le) os k:=by
 have O:=R.ord p;have u:(L.map Sr.le).length=L.length:=length_map ..;have w:os.length=L.length:=by rw [p.length_eq,length_range]
 have lt:∀ k,k < L.length->os.getD k 0 < L.length:=fun k h=>by have:=O.lt (i:=k) (by lia);lia
 have a:∀ k,Jt (L.map Sr.le) os (k + 1)=Jt (L.map Sr.le) os k + (L.map Sr.le).getD (os.getD k 0) 0:=fun k=>J1d _ _ k;have step:=fun k h=>by
  refine R.apart inj (lt k (by lia)) (lt (k + 1) h) (fun e=>?_) ?_
  ·have:=O.inj (i:=k) (j:=k + 1) (by lia) (by lia) e;lia
  ·have:=(List.pairwise_iff_getElem.mp srt) k (k + 1) (by lia) (by lia) (by lia);rw [<- laD (lt k (by lia)),<- laD (lt (k + 1) h)];rw [getD_eq_getElem?_getD (l:=os),List.getElem?_eq_getElem (by lia:k < os.length),getD_eq_getElem?_getD (l:=os),List.getElem?_eq_getElem (by lia:k + 1 < os.length)];exact this
 have b:∀ k,k < L.length->Jt (L.map Sr.le) os k<=(L.getD (os.getD k 0) s0).la:=by
  intro k
  induction k with
  | zero =>
   intro h;obtain ⟨f,s,r⟩:=R.at _ _ (getL (lt 0 h));obtain ⟨x,q,o,ex⟩:=f.low;have:=inn x (by lia) (by lia);rw [J3e];lia
  | succ k ih =>
   intro h;have n:=ih (by lia);have m:=step k h;rw [a,leD (lt k (by lia))];lia
 have tot:Jt (L.map Sr.le) os L.length=N:=by
  have h:=O.whole;rw [u] at h;have:=R.tot;lia
 have c:∀ d k,k + d + 1=L.length->(L.getD (os.getD k 0) s0).la + (L.getD (os.getD k 0) s0).le<=Jt (L.map Sr.le) os (k + 1):=by
  intro d
  induction d with
  | zero =>
   intro k h;obtain ⟨f,s,r⟩:=R.at _ _ (getL (lt k (by lia)));obtain ⟨x,q,o,ex⟩:=f.high;have:=inn x (by lia) (by lia);rw [show k + 1=L.length by lia,tot];lia
  | succ d ih =>
   intro k h;have n:=ih (k + 1) (by lia);have m:=step k (by lia);have v:=a (k + 1);rw [leD (lt (k + 1) (by lia))] at v;lia
 intro k h;have n:=b k h;have m:=c (L.length - 1 - k) k (by lia);rw [a,leD (lt k h)] at m;lia
theorem RepS.fis(R:RepS g 0 L N):∀ k,k < L.length->(L.getD k s0).fi=Jt (L.map Sr.le) (List.range L.length) k
 | 0,h=>by
  cases L with
  | nil=>simp at h
  | cons s r=>exact R.1.fi
 | k + 1,h=>by
  have b:=RepS.fis R k (by lia);have a:=R.next k _ _ (getL (by lia)) (getL h);rw [a,b,J1d,J2x (by lia:k < L.length),leD (by lia)]
theorem RepS.own(R:RepS g 0 L N)(inj:∀ x y,0<=x->x < N->0<=y->y < N->g x=g y->x=y)(inn:∀ x,0<=x->x < N->0<=g x/\g x < N)(p:os.Perm (List.range L.length))(srt:os.Pairwise (fun i j=>(L.map Sr.la).getD i 0<=(L.map Sr.la).getD j 0)):srsL (L.map Sr.le) os (L.map Sr.tu)=L:=by
 have O:=R.ord p;have a:(L.map Sr.le).length=L.length:=length_map ..;apply ext_getElem?;intro i;unfold srsL;rw [a,getElem?_map];by_cases h:i < L.length
 ·rw [getElem?_range h,getL h];refine congrArg some ?_;obtain ⟨k,f,b⟩:=O.onto (j:=i) (by lia);have e:=R.laid inj inn p srt k (by lia);rw [b] at e;have d:=O.first (i:=k) f;rw [b] at d;have l:=R.fis i h;have c:=J49 O (k:=i) (by lia);rw [a] at c;have P:=(R.at i _ (getL h)).1;unfold srO;rw [a,c,<- l,leD h,d,<- e,tuD h];generalize L.getD i s0=s at *;have t:(s.tu && decide (1 < s.le))=s.tu:=by
   cases q:s.tu with
   | false=>rfl
   | true=>rw [decide_eq_true (P.tu q)];rfl
  rw [t]
 ·simp_all
end
theorem RepS.rep :∀ {L:List Sr} {a b:Int},RepS g a L b->Rep g a L b
 | [],_,_,h=>h
 | s :: r,_,_,⟨h1,_,h3⟩=>⟨h1,RepS.rep h3⟩
theorem Rep.val :∀ {d:List Sr} {a b c:Int},Rep g a d b->Rep h a d c->b=c/\∀ x,a<=x->x < b->g x=h x
 | [],a,b,c,i,f=>by
  have i:a=b:=i;have f:a=c:=f
  grind
 | s :: r,a,b,c,⟨h1,h3⟩,⟨k1,k3⟩=>by
  obtain ⟨e,v⟩:=Rep.val h3 k3;refine ⟨e,fun x l j=>?_⟩;rcases Int.lt_or_le x (a + s.le) with c | c
  ·exact h1.val k1 l c
  ·exact v x c j
theorem RepS.order{g:Int->Int}{L:List Sr}{N:Int}{os a:List Nat}(R:RepS g 0 L N)(inj:∀ x y,0<=x->x < N->0<=y->y < N->g x=g y->x=y)(p:os.Perm (List.range L.length))(srt:os.Pairwise (fun i j=>(L.map Sr.la).getD i 0<=(L.map Sr.la).getD j 0))(d:a.Perm (List.range L.length))(c:a.Pairwise (fun i j=>(L.map Sr.la).getD i 0<=(L.map Sr.la).getD j 0)):os=a:=by
 have m:os.map (fun i=>(L.map Sr.la).getD i 0)=a.map (fun i=>(L.map Sr.la).getD i 0):=
  J5s ((p.trans d.symm).map _) (pairwise_map.mpr srt) (pairwise_map.mpr c)
 have one:∀ i j,i < L.length->j < L.length->(L.map Sr.la).getD i 0=(L.map Sr.la).getD j 0->i=j:=fun i j hi n e=>by
  rw [laD hi,laD n] at e;rcases Nat.decEq i j with ne | ne
  ·have s:=R.apart inj hi n ne (by lia);have:=(R.at i _ (getL hi)).1.le;lia
  ·exact ne
 have go:∀ (xs b:List Nat),(∀ i∈xs,i < L.length)->(∀ i∈b,i < L.length)->xs.map (fun i=>(L.map Sr.la).getD i 0)=b.map (fun i=>(L.map Sr.la).getD i 0)->xs=b:=by
  intro xs
  induction xs with
  | nil =>
   intro b _ _ e
   cases b with
   | nil=>rfl
   | cons y r=>cases e
  | cons x r ih =>
   intro b l f e
   cases b with
   | nil=>cases e
   | cons y r' =>
    rw [map_cons,map_cons] at e;obtain ⟨q,o⟩:=List.cons.inj e;rw [one x y (l x (mem_cons_self ..)) (f y (mem_cons_self ..)) q,ih r' (fun i h=>l i (mem_cons_of_mem _ h)) (fun i h=>f i (mem_cons_of_mem _ h)) o]
 exact go os a (fun i h=>mem_range.mp (p.mem_iff.mp h)) (fun i h=>mem_range.mp (d.mem_iff.mp h)) m
structure PlO(L:List Sr)(os:List Nat):Prop where
 perm:os.Perm (List.range L.length)
 srt:os.Pairwise (fun i j=>(L.map Sr.la).getD i 0<=(L.map Sr.la).getD j 0)
theorem flat_one{α β:Type}{f:α->List β}{g:α->β}:∀ {l:List α},(∀ o∈l,f o=[g o])->l.flatMap f=l.map g
 | [],_=>rfl
 | a :: r,h=>by
  rw [flatMap_cons,h a (mem_cons_self ..),flat_one fun o b=>h o (mem_cons_of_mem _ b)];rfl
theorem Rep.all :∀ {L:List Sr} {a b:Int},Rep g a L b->∀ s∈L,Pc g s.fi s/\a<=s.fi/\s.fi + s.le<=b
 | [],_,_,_,s,h=>by cases h
 | t :: r,a,b,⟨h1,h2⟩,s,h=>by
  have e:=h1.fi;have l:=h1.le;have c:=h2.le;rcases mem_cons.mp h with rfl | h
  ·rw [e];exact ⟨h1,Int.le_refl _,c⟩
  ·obtain ⟨f,i,d⟩:=Rep.all h2 s h;exact ⟨f,by lia,d⟩
theorem Rep.pair :∀ {L:List Sr} {a b:Int},Rep g a L b->L.Pairwise (fun s t=>s.fi + s.le<=t.fi)
 | [],_,_,_=>.nil
 | t :: r,a,b,⟨h1,h2⟩=>.cons (fun s c=>by have:=(h2.all s c).2.1;have:=h1.fi;lia) (Rep.pair h2)
theorem Rep.cover :∀ {L:List Sr} {a b:Int},Rep g a L b->∀ x,a<=x->x < b->∃ s∈L,s.fi<=x/\x < s.fi + s.le
 | [],a,b,h,x,x0,x1=>by have h:a=b:=h;lia
 | t :: r,a,b,⟨h1,h2⟩,x,x0,x1=>by
  have e:=h1.fi;by_cases c:x < a + t.le
  ·grind
  ·obtain ⟨s,d,k⟩:=Rep.cover h2 x (by lia) x1;exact ⟨s,mem_cons_of_mem _ d,k⟩
theorem J9n :∀ (L:List Sr) (a N:Int),(∀ s∈L,Pc f s.fi s)->(∀ s∈L,a<=s.fi/\s.fi + s.le<=N)->L.Pairwise (fun s t=>s.fi<=t.fi)->L.Pairwise (fun s t=>s.fi + s.le<=t.fi\/t.fi + t.le<=s.fi)->
  (∀ x,a<=x->x < N->∃ s∈L,s.fi<=x/\x < s.fi + s.le)->a<=N->Rep f a L N
 | [],a,N,_,_,_,_,cv,h=>by
  show a=N;rcases Int.lt_or_le a N with c | c
  ·obtain ⟨s,g,_⟩:=cv a (Int.le_refl _) c;cases g
  ·lia
 | s :: r,a,N,hp,hb,g,hd,cv,h=>by
  obtain ⟨p,o⟩:=pairwise_cons.mp g;obtain ⟨u,q⟩:=pairwise_cons.mp hd;have d:=hp s (mem_cons_self ..);have l:=d.le;obtain ⟨A,y⟩:=hb s (mem_cons_self ..);have e:s.fi=a:=by
   obtain ⟨t,b,j,i⟩:=cv a (Int.le_refl _) (by lia);rcases mem_cons.mp b with rfl | b
   ·lia
   ·have:=p t b;have:=(hb t (mem_cons_of_mem _ b)).1;lia
  refine ⟨e ▸ d,?_⟩;refine J9n r (a + s.le) N (fun t b=>hp t (mem_cons_of_mem _ b)) (fun t b=>?_) o q (fun x v n=>?_) (by lia)
  ·obtain ⟨w,m⟩:=hb t (mem_cons_of_mem _ b);have:=(hp t (mem_cons_of_mem _ b)).le;rcases u t b with z | z
   ·exact ⟨by lia,m⟩
   ·exact ⟨by lia,m⟩
  ·obtain ⟨t,b,j,i⟩:=cv x (by lia) n;rcases mem_cons.mp b with rfl | b
   ·lia
   ·exact ⟨t,b,j,i⟩
noncomputable def jb(o t:Sr):Int:=if t.fi > o.la then t.fi else o.la
noncomputable def je(o t:Sr):Int:=if t.fi + t.le < o.la + o.le then t.fi + t.le else o.la + o.le
noncomputable def J1m(o t:Sr):Sr:=⟨o.fi + (if o.tu=true then o.la + o.le - je o t else jb o t - o.la),je o t - jb o t,t.la + (if t.tu=true then t.fi + t.le - je o t else jb o t - t.fi),(o.tu != t.tu) && decide (1 < je o t - jb o t)⟩
noncomputable def J38(o t:Sr):List Sr:=if je o t<=jb o t then [] else [J1m o t]
theorem Jkn(o t:Sr):o.la<=jb o t/\t.fi<=jb o t/\je o t<=o.la + o.le/\je o t<=t.fi + t.le:=by
 unfold jb je
 grind
theorem j_in(d:o.la<=v)(c:v < o.la + o.le)(b:t.fi<=v)(a:v < t.fi + t.le):jb o t<=v/\v < je o t:=by
 unfold jb je;refine ⟨?_,?_⟩ <;> split <;> lia
theorem Pc.image(p:Pc g a s)(c:a<=x)(b:x < a + s.le):s.la<=g x/\g x < s.la + s.le:=by
 cases t:s.tu with
 | true =>
  have:=p.dn t (x - a) (by lia) (by lia);rw [show a + (x - a)=x by lia] at this;lia
 | false =>
  have:=p.up t (x - a) (by lia) (by lia)
  grind
theorem J6o(po:Pc g o.fi o)(pt:Pc h t.fi t)(hb:jb o t < je o t):
  Pc (fun x=>h (g x)) (J1m o t).fi (J1m o t)/\o.fi<=(J1m o t).fi/\(J1m o t).fi + (J1m o t).le<=o.fi + o.le/\∀ x,(J1m o t).fi<=x->x < (J1m o t).fi + (J1m o t).le->jb o t<=g x/\g x < je o t:=by
 obtain ⟨p,n,m,l⟩:=Jkn o t;unfold J1m;dsimp only;generalize jb o t=b at *;generalize je o t=e at *;have go:∀ x,0<=x->x < e - b->g (o.fi + (if o.tu=true then o.la + o.le - e else b - o.la) + x)=if o.tu=true then e - 1 - x else b + x:=fun x d a=>by
  cases tu:o.tu with
  | true =>
   rw [if_pos rfl,if_pos rfl];have:=po.dn tu (o.la + o.le - e + x) (by lia) (by lia);rw [show o.fi + (o.la + o.le - e) + x=o.fi + (o.la + o.le - e + x) by lia,this];lia
  | false =>
   rw [if_neg (by decide),if_neg (by decide)];have:=po.up tu (b - o.la + x) (by lia) (by lia);rw [show o.fi + (b - o.la) + x=o.fi + (b - o.la + x) by lia,this];lia
 have f:∀ v,b<=v->v < e->h v=if t.tu=true then t.la + t.le - 1 - (v - t.fi) else t.la + (v - t.fi):=fun v j i=>by
  cases tu:t.tu with
  | true =>
   rw [if_pos rfl];have:=pt.dn tu (v - t.fi) (by lia) (by lia);rw [show t.fi + (v - t.fi)=v by lia] at this;exact this
  | false =>
   rw [if_neg (by decide)];have:=pt.up tu (v - t.fi) (by lia) (by lia);rw [show t.fi + (v - t.fi)=v by lia] at this;exact this
 have val:∀ x,0<=x->x < e - b->h (g (o.fi + (if o.tu=true then o.la + o.le - e else b - o.la) + x))=if (o.tu != t.tu)=true then t.la + (if t.tu=true then t.fi + t.le - e else b - t.fi) + (e - b) - 1 - x else t.la + (if t.tu=true then t.fi + t.le - e else b - t.fi) + x:=fun x d a=>by
  rw [go x d a,f _ (by split <;> lia) (by split <;> lia)];cases o.tu <;> cases t.tu <;> simp <;> lia
 refine ⟨⟨rfl,by show 1<=e - b;lia,fun z=>?_,fun z x d a=>?_,fun z x d a=>?_⟩,?_,?_,fun x d a=>?_⟩
 ·have z:=z;rw [Bool.and_eq_true,decide_eq_true_iff] at z;exact z.2
 ·have z:=z;have a:x < e - b:=a;show h (g (o.fi + _ + x))=_;rw [val x d a];by_cases c:(o.tu != t.tu)=true
  ·rw [if_pos c];rw [c,Bool.true_and,decide_eq_false_iff_not] at z;show _=t.la + (if t.tu=true then t.fi + t.le - e else b - t.fi) + x;lia
  ·rw [if_neg c]
 ·have z:=z;rw [Bool.and_eq_true] at z;have a:=a;show h (g (o.fi + _ + x))=_;rw [val x d a,if_pos z.1]
 ·show o.fi<=o.fi + (if o.tu=true then o.la + o.le - e else b - o.la);split <;> lia
 ·show o.fi + (if o.tu=true then o.la + o.le - e else b - o.la) + (e - b)<=o.fi + o.le;split <;> lia
 ·have:=go (x - (o.fi + (if o.tu=true then o.la + o.le - e else b - o.la))) (by lia) (by lia);rw [show o.fi + (if o.tu=true then o.la + o.le - e else b - o.la) + (x - (o.fi + (if o.tu=true then o.la + o.le - e else b - o.la)))=x by lia] at this;rw [this];by_cases tu:o.tu=true
  ·rw [if_pos tu] at d a;rw [if_pos tu,if_pos tu];lia
  ·rw [if_neg tu] at d a;rw [if_neg tu,if_neg tu];lia
theorem Jkl{h:Int->Int}(po:Pc g o.fi o)(f:o.fi<=x)(d:x < o.fi + o.le)(m:t.fi<=g x)(l:g x < t.fi + t.le):jb o t < je o t/\(J1m o t).fi<=x/\x < (J1m o t).fi + (J1m o t).le:=by
 obtain ⟨j,i⟩:=po.image f d;obtain ⟨c,a⟩:=j_in j i m l;obtain ⟨r,q,p,n⟩:=Jkn o t;unfold J1m;dsimp only;generalize jb o t=b at *;generalize je o t=e at *;have:g x=if o.tu=true then o.la + o.le - 1 - (x - o.fi) else o.la + (x - o.fi):=by
  cases tu:o.tu with
  | true =>
   have:=po.dn tu (x - o.fi) (by lia) (by lia);rwa [show o.fi + (x - o.fi)=x by lia] at this
  | false =>
   have:=po.up tu (x - o.fi) (by lia) (by lia);rwa [show o.fi + (x - o.fi)=x by lia] at this
 rw [this] at c a;by_cases tu:o.tu=true
 ·rw [if_pos tu] at c a;rw [if_pos tu];exact ⟨by lia,by lia,by lia⟩
 ·rw [if_neg tu] at c a;rw [if_neg tu];exact ⟨by lia,by lia,by lia⟩
noncomputable def jn(os ts:List Sr):List Sr:=os.flatMap fun o=>ts.flatMap (J38 o)
theorem J6j :s∈J38 o t↔jb o t < je o t/\s=J1m o t:=by
 unfold J38
 grind
theorem Jpz :s∈jn os ts↔∃ o∈os,∃ t∈ts,jb o t < je o t/\s=J1m o t:=by
 unfold jn;simp only [mem_flatMap,J6j]
theorem jn_rep(m:Rep g 0 os N)(q:Rep h 0 ts N)(inn:∀ x,0<=x->x < N->0<=g x/\g x < N)(U:0<=N)(p:L.Perm (jn os ts))(srt:L.Pairwise (fun s t=>s.fi<=t.fi)):Rep (fun x=>h (g x)) 0 L N:=by
 have n:∀ s∈jn os ts,∃ o∈os,∃ t∈ts,s=J1m o t/\Pc (fun x=>h (g x)) s.fi s/\o.fi<=s.fi/\s.fi + s.le<=o.fi + o.le/\∀ x,s.fi<=x->x < s.fi + s.le->t.fi<=g x/\g x < t.fi + t.le:=fun s l=>by
  obtain ⟨o,e,t,j,hb,rfl⟩:=Jpz.mp l;obtain ⟨D,C,B,w⟩:=J6o (m.all o e).1 (q.all t j).1 hb;obtain ⟨b1,b2,b3,b4⟩:=Jkn o t;exact ⟨o,e,t,j,rfl,D,C,B,fun x A z=>by have:=w x A z;lia⟩
 have J:(jn os ts).Pairwise (fun s t=>s.fi + s.le<=t.fi\/t.fi + t.le<=s.fi):=by
  unfold jn;rw [List.pairwise_flatMap];refine ⟨fun o e=>?_,?_⟩
  ·rw [List.pairwise_flatMap];refine ⟨fun t j=>?_,?_⟩
   ·unfold J38;split
    ·exact .nil
    ·exact List.pairwise_singleton _ _
   ·refine q.pair.imp_of_mem fun {i f} H G I s l u y=>?_;obtain ⟨v,rfl⟩:=J6j.mp l;obtain ⟨r,rfl⟩:=J6j.mp y;obtain ⟨D,C,B,w⟩:=J6o (m.all o e).1 (q.all i H).1 v;obtain ⟨K,P,O,E⟩:=J6o (m.all o e).1 (q.all f G).1 r;obtain ⟨_,_,_,c4⟩:=Jkn o i;obtain ⟨_,M,_,_⟩:=Jkn o f;have l1:=D.le;have l2:=K.le;rcases Int.lt_or_le (J1m o i).fi (J1m o f).fi with c | c
    ·rcases Int.lt_or_le (J1m o f).fi ((J1m o i).fi + (J1m o i).le) with d | d
     ·have Z:=w (J1m o f).fi (by lia) d;have Y:=E (J1m o f).fi (Int.le_refl _) (by lia);lia
     ·exact .inl d
    ·rcases Int.lt_or_le (J1m o i).fi ((J1m o f).fi + (J1m o f).le) with d | d
     ·have Z:=w (J1m o i).fi (Int.le_refl _) (by lia);have Y:=E (J1m o i).fi c d;lia
     ·exact .inr d
  ·refine m.pair.imp_of_mem fun {o1 F} H G I s l u y=>?_;obtain ⟨i,R,l⟩:=mem_flatMap.mp l;obtain ⟨f,Q,y⟩:=mem_flatMap.mp y;obtain ⟨v,rfl⟩:=J6j.mp l;obtain ⟨r,rfl⟩:=J6j.mp y;obtain ⟨D,C,B,w⟩:=J6o (m.all o1 H).1 (q.all i R).1 v;obtain ⟨K,P,O,E⟩:=J6o (m.all F G).1 (q.all f Q).1 r;left;lia
 refine J9n L 0 N (fun s l=>?_) (fun s l=>?_) srt ?_ (fun x A z=>?_) U
 ·obtain ⟨o,_,t,_,_,k,_⟩:=n s (p.mem_iff.mp l);exact k
 ·obtain ⟨o,e,t,_,_,k,C,B,_⟩:=n s (p.mem_iff.mp l);have:=(m.all o e).2;lia
 ·exact (p.pairwise_iff (fun {a b} h=>h.symm)).mpr J
 ·obtain ⟨o,e,o1,F⟩:=m.cover x A z;obtain ⟨T,S⟩:=inn x A z;obtain ⟨t,j,i,f⟩:=q.cover (g x) T S;obtain ⟨X,M,W⟩:=Jkl (h:=h) (m.all o e).1 o1 F i f;exact ⟨J1m o t,p.mem_iff.mpr (Jpz.mpr ⟨o,e,t,j,X,rfl⟩),M,W⟩
theorem Jkt{α:Type}(p:α->Prop)[DecidablePred p]:∀ (L:List α),L.Pairwise (fun a b=>¬ (p a/\p b))->(L.map fun a=>if p a then 1 else 0).sum<=1
 | [],_=>by simp
 | a :: r,h=>by
  obtain ⟨e,d⟩:=pairwise_cons.mp h;rw [map_cons,sum_cons];by_cases c:p a
  ·have:(r.map fun a=>if p a then 1 else 0).sum=0:=by
    have:(r.map fun a=>if p a then 1 else 0)=r.map fun _=>0:=map_congr_left fun b hb=>if_neg fun z=>e b hb ⟨c,z⟩;rw [this];clear this h e d
    induction r with
    | nil=>rfl
    | cons b r ih=>rw [map_cons,sum_cons,ih]
   rw [if_pos c,this];lia
  ·have:=Jkt p r d;rw [if_neg c];lia
theorem Jar{α:Type}(f g:α->Nat):∀ L:List α,(L.map fun a=>f a + g a).sum=(L.map f).sum + (L.map g).sum
 | []=>rfl
 | a :: r=>by simp only [map_cons,sum_cons,Jar f g r];lia
theorem Jev{α β:Type}(f:α->β->Nat)(c:List β):∀ xs:List α,(xs.map fun a=>(c.map fun b=>f a b).sum).sum=(c.map fun b=>(xs.map fun a=>f a b).sum).sum
 | []=>by
  have:∀ c:List β,(c.map fun _=>([]:List Nat).sum).sum=0:=fun c=>by
   induction c with
   | nil=>rfl
   | cons b r ih=>rw [map_cons,sum_cons,ih];rfl
  exact (this c).symm
 | a :: r=>by
  rw [map_cons,sum_cons,Jev f c r,<- Jar]
  congr 1
theorem J64{α:Type}{f g:α->Nat}:∀ {L:List α},(∀ a∈L,f a<=g a)->(L.map f).sum<=(L.map g).sum
 | [],_=>Nat.le_refl _
 | a :: r,h=>by
  rw [map_cons,sum_cons,map_cons,sum_cons];have:=h a (mem_cons_self ..);have:=J64 (L:=r) fun b hb=>h b (mem_cons_of_mem _ hb);lia
theorem Jaq{α:Type}:∀ L:List α,(L.map fun _=>1).sum=L.length
 | []=>rfl
 | a :: r=>by rw [map_cons,sum_cons,Jaq r,length_cons];lia
theorem Jq3(a:Rep g 0 os N)(p:Rep h 0 ts N)(inj:∀ x y,0<=x->x < N->0<=y->y < N->g x=g y->x=y):(jn os ts).length<=os.length + ts.length:=by
 have e:(jn os ts).length=(os.map fun o=>(ts.map fun t=>(J38 o t).length).sum).sum:=by
  unfold jn;rw [List.length_flatMap]
  congr 1
  refine map_congr_left fun o _=>?_;rw [List.length_flatMap]
 have b:∀ o t:Sr,(J38 o t).length<=(if t.fi<=o.la/\o.la < t.fi + t.le then 1 else 0) + (if o.la < t.fi/\t.fi < o.la + o.le then 1 else 0):=fun o t=>by
  unfold J38;split
  ·simp
  ·rename_i c;show 1<=_;have c:jb o t < je o t:=by lia
   unfold jb je at c;by_cases d:t.fi > o.la
   ·rw [if_pos d] at c;have:o.la < t.fi/\t.fi < o.la + o.le:=⟨d,by split at c <;> lia⟩;rw [if_pos this];lia
   ·rw [if_neg d] at c;have:t.fi<=o.la/\o.la < t.fi + t.le:=⟨by lia,by split at c <;> lia⟩;rw [if_pos this];lia
 rw [e];have q:(os.map fun o=>(ts.map fun t=>(J38 o t).length).sum).sum<=(os.map fun o=>(ts.map fun t=>if t.fi<=o.la/\o.la < t.fi + t.le then 1 else 0).sum + (ts.map fun t=>if o.la < t.fi/\t.fi < o.la + o.le then 1 else 0).sum).sum:=
  J64 fun o _=>by rw [<- Jar];exact J64 fun t _=>b o t
 rw [Jar] at q;have I:(os.map fun o=>(ts.map fun t=>if t.fi<=o.la/\o.la < t.fi + t.le then 1 else 0).sum).sum<=os.length:=by
  rw [<- Jaq os];refine J64 fun o _=>Jkt (fun t=>t.fi<=o.la/\o.la < t.fi + t.le) ts (p.pair.imp fun {C B} f z=>?_);lia
 have H:(os.map fun o=>(ts.map fun t=>if o.la < t.fi/\t.fi < o.la + o.le then 1 else 0).sum).sum<=ts.length:=by
  rw [Jev,<- Jaq ts];refine J64 fun t _=>Jkt (fun o=>o.la < t.fi/\t.fi < o.la + o.le) os (a.pair.imp_of_mem fun {o1 l} n m f z=>?_);obtain ⟨j,G,F⟩:=a.all o1 n;obtain ⟨i,E,D⟩:=a.all l m;obtain ⟨x,A,w,ex⟩:=j.hit (v:=t.fi) (by lia) (by lia);obtain ⟨y,u,s,r⟩:=i.hit (v:=t.fi) (by lia) (by lia);have:=inj x y (by lia) (by lia) (by lia) (by lia) (by rw [ex,r]);lia
 lia
structure Bij(N:Int)(g k:Int->Int):Prop where
 inn:∀ x,0<=x->x < N->0<=g x/\g x < N
 ink:∀ x,0<=x->x < N->0<=k x/\k x < N
 kg:∀ x,0<=x->x < N->k (g x)=x
 gk:∀ x,0<=x->x < N->g (k x)=x
theorem Bij.inj(b:Bij N g k):∀ x y,0<=x->x < N->0<=y->y < N->g x=g y->x=y:=fun x y f d c a e=>by
 rw [<- b.kg x f d,<- b.kg y c a,e]
theorem Bij.symm{N:Int}{g k:Int->Int}(b:Bij N g k):Bij N k g:=⟨b.ink,b.inn,b.gk,b.kg⟩
theorem Bij.comp(a : Bij N g k)(b : Bij N h l): Bij N (fun x => h (g x)) (fun x => k (l x)):=
  ⟨fun x d c => let ⟨i, j⟩:= a.inn x d c; b.inn _ i j, fun x d c => let ⟨i, j⟩:= b.ink x d c; a.ink _ i j,
   fun x d c => by obtain ⟨i, j⟩:= a.inn x d c; rw [b.kg _ i j, a.kg x d c],
   fun x d c => by obtain ⟨i, j⟩:= b.ink x d c; rw [a.gk _ i j, b.gk x d c]⟩
theorem Bij.id(N:Int):Bij N (fun x=>x) (fun x=>x):=⟨fun _ a b=>⟨a,b⟩,fun _ a b=>⟨a,b⟩,fun _ _ _=>rfl,fun _ _ _=>rfl⟩
noncomputable def kL(ls:List Int)(os:List Nat)(ts:List Bool)(y:Int):Int:=by
 classical exact if h:∃ x,(0<=x/\x < ls.sum)/\gL ls os ts x=y then h.choose else 0
theorem gL_sur(O:Ord ls os)(c:0<=y)(b:y < ls.sum):∃ x,(0<=x/\x < ls.sum)/\gL ls os ts x=y:=by
 obtain ⟨j,q⟩:=O.exists c b;have m:=Jcb (gs:=firsts ls (List.range ls.length)) (ts:=ts) q;obtain ⟨a,d⟩:=m;have i:=O.range.inside a;refine ⟨_,i,?_⟩;rw [Jhd O a];exact d
theorem J3h(O:Ord ls os):Bij ls.sum (gL ls os ts) (kL ls os ts):=by
 have sp:∀ y,0<=y->y < ls.sum->(0<=kL ls os ts y/\kL ls os ts y < ls.sum)/\gL ls os ts (kL ls os ts y)=y:=fun y e d=>by
  have h:=gL_sur (ts:=ts) O e d;unfold kL;rw [dif_pos h];exact h.choose_spec
 refine ⟨fun x g f=>gL_in O g f,fun y e d=>(sp y e d).1,fun x g f=>?_,fun y e d=>(sp y e d).2⟩;obtain ⟨i,j⟩:=gL_in (ts:=ts) O g f;obtain ⟨⟨a,b⟩,c⟩:=sp _ i j;exact Jq4 O a b g f c
structure PlG(g:Int->Int)(N:Int)(ls:List Int)(os:List Nat)(ts:List Bool):Prop where
 ex:∃ L,RepS g 0 L N/\ls=L.map Sr.le/\ts=L.map Sr.tu/\PlO L os
theorem PlG.ord(h:PlG g N ls os ts):Ord ls os:=by
 obtain ⟨L,R,rfl,rfl,P⟩:=h.ex;exact R.ord P.perm
theorem PlG.len(h:PlG g N ls os ts):ts.length=ls.length:=by
 obtain ⟨L,R,rfl,rfl,P⟩:=h.ex;rw [length_map,length_map]
theorem PlG.sum(h:PlG g N ls os ts):ls.sum=N:=by
 obtain ⟨L,R,rfl,rfl,P⟩:=h.ex;have:=R.tot;lia
theorem PlG.goes(h:PlG g N ls os ts)(b:Bij N g k):∀ x,0<=x->x < N->gL ls os ts x=g x:=by
 have O:=h.ord;obtain ⟨L,R,rfl,rfl,P⟩:=h.ex;have a:=J6u (ts:=L.map Sr.tu) O;rw [R.own b.inj b.inn P.perm P.srt] at a;exact fun x d c=>((R.rep.val a).2 x d c).symm
theorem PlG.uni{g k g':Int->Int}{N:Int}{ls c:List Int}{os a:List Nat}{ts ts':List Bool}(h:PlG g N ls os ts)(h':PlG g' N c a ts')(b:Bij N g k)(e:∀ x,0<=x->x < N->g x=g' x):ls=c/\os=a/\ts=ts':=by
 obtain ⟨L,R,rfl,rfl,P⟩:=h.ex;obtain ⟨l,j,rfl,rfl,d⟩:=h'.ex;have R2:=R.congr fun x i f=>e x i f;have:=R2.uni j;subst this;exact ⟨rfl,R.order b.inj P.perm P.srt d.perm d.srt,rfl⟩
noncomputable def bk1(s:Sr):Sr:=⟨s.la,s.le,s.fi,s.tu && decide (1 < s.le)⟩
theorem bk1_pc{g k:Int->Int}{N:Int}{s:Sr}(b:Bij N g k)(p:Pc g s.fi s)(f:0<=s.fi)(d:s.fi + s.le<=N):Pc k s.la (bk1 s):=by
 have tu:(s.tu && decide (1 < s.le))=s.tu:=by
  cases e:s.tu with
  | true=>simp [p.tu e]
  | false=>rfl
 refine ⟨rfl,p.le,fun z=>?_,fun z x c a=>?_,fun z x c a=>?_⟩
 ·have z:(s.tu && decide (1 < s.le))=true:=z;exact p.tu (tu ▸ z)
 ·have z:(s.tu && decide (1 < s.le))=false:=z;have a:x < s.le:=a;show k (s.la + x)=s.fi + x;rw [<- p.up (tu ▸ z) x c a];exact b.kg _ (by lia) (by lia)
 ·have z:(s.tu && decide (1 < s.le))=true:=z;have a:x < s.le:=a;show k (s.la + x)=s.fi + s.le - 1 - x;have:=p.dn (tu ▸ z) (s.le - 1 - x) (by lia) (by lia);rw [show s.la + x=g (s.fi + (s.le - 1 - x)) by rw [this];lia,b.kg _ (by lia) (by lia)];lia
theorem Jqd{g k:Int->Int}{N:Int}{r L:List Sr}(b:Bij N g k)(h:Rep g 0 r N)(M:0<=N)(p:L.Perm (r.map bk1))(srt:L.Pairwise (fun s t=>s.fi<=t.fi)):Rep k 0 L N:=by
 have mem:∀ s∈L,∃ t∈r,s=bk1 t:=fun s f=>by
  obtain ⟨t,j,e⟩:=mem_map.mp (p.mem_iff.mp f);exact ⟨t,j,e.symm⟩
 refine J9n L 0 N (fun s f=>?_) (fun s f=>?_) srt ?_ (fun y o n=>?_) M
 ·obtain ⟨t,j,rfl⟩:=mem s f;obtain ⟨q,i,m⟩:=h.all t j;exact bk1_pc b q i m
 ·obtain ⟨t,j,rfl⟩:=mem s f;obtain ⟨q,i,m⟩:=h.all t j;have l:=q.le;obtain ⟨x,A,w,e⟩:=q.low;obtain ⟨z,z0,P,X⟩:=q.high;have W:=b.inn x (by lia) (by lia);have U:=b.inn z (by lia) (by lia);show 0<=t.la/\t.la + t.le<=N;lia
 ·refine (p.pairwise_iff (fun {a b} h=>h.symm)).mpr ?_;rw [pairwise_map];refine h.pair.imp_of_mem fun {s t} H G K=>?_;obtain ⟨u,S,R⟩:=h.all s H;obtain ⟨i,m,Q⟩:=h.all t G;show s.la + s.le<=t.la\/t.la + t.le<=s.la;rcases Int.lt_or_le t.la (s.la + s.le) with c | c
  ·rcases Int.lt_or_le s.la (t.la + t.le) with d | d
   ·exfalso;have l1:=u.le;have T:=i.le;obtain ⟨v,E,D,C,B⟩:∃ v,s.la<=v/\v < s.la + s.le/\t.la<=v/\v < t.la + t.le:=by
     rcases Int.le_total s.la t.la with e | e
     ·exact ⟨t.la,e,c,Int.le_refl _,by lia⟩
     ·exact ⟨s.la,Int.le_refl _,by lia,e,d⟩
    obtain ⟨x,A,w,ex⟩:=u.hit E D;obtain ⟨y,o,n,O⟩:=i.hit C B;have:=b.inj x y (by lia) (by lia) (by lia) (by lia) (by rw [ex,O]);lia
   ·exact .inr d
  ·exact .inl c
 ·obtain ⟨J,I⟩:=b.ink y o n;obtain ⟨s,f,s0,F⟩:=h.cover _ J I;obtain ⟨q,i,m⟩:=h.all s f;have:=q.image s0 F;rw [b.gk y o n] at this;exact ⟨bk1 s,p.mem_iff.mpr (List.mem_map_of_mem f),this⟩
noncomputable def itF(f:Int->Int):Nat->Int->Int
 | 0,x=>x
 | n + 1,x=>f (itF f n x)
theorem Jea{N:Int}{g k:Int->Int}(b:Bij N g k):∀ n,∃ k',Bij N (itF g n) k'
 | 0=>⟨_,Bij.id N⟩
 | n + 1=>by
  obtain ⟨k',h⟩:=Jea b n;exact ⟨_,h.comp b⟩
theorem Jjb{N:Int}(h:1<=N):RepS (fun x=>x) 0 [⟨0,N,0,false⟩] N:=
 ⟨⟨rfl,h,(fun z=>by cases z),(fun _ x _ _=>rfl),(fun z=>by cases z)⟩,fun z=>absurd rfl z,by show (0:Int) + N=N;lia⟩
theorem Jkm(a:Bij N g k)(e:Bij N h l)(c:Rep g 0 os N)(b:Rep h 0 ts N)(d:0<=N)(p:L.Perm (jn os ts))(srt:L.Pairwise (fun s t=>s.fi<=t.fi)):RepS (fun x=>h (g x)) 0 (lgst L) N:=
 J81 (a.comp e).inj (jn_rep c b a.inn d p srt)
end Rl
namespace L2
open PySem PyProof.Rows
theorem Jd3{a:Int}(b:-1<=a):Builtin.Range.rangeSize a (-1) (-1)=a + 1:=by
 unfold Builtin.Range.rangeSize;rw [if_neg (by decide)];split
 ·rw [show (-(-1:Int))=1 by decide,Int.ediv_one];lia
 ·lia
theorem Jhi{a:Int}(c:-1<=a)(b:a < 2 ^ 24):Builtin.Range.small a (-1) (-1)=true:=by
 unfold Builtin.Range.small;rw [Jd3 c];simp only [Builtin.Range.rangeFitsLong,Bool.and_eq_true,Bool.or_eq_true,decide_eq_true_eq,beq_iff_eq];refine ⟨?_,?_⟩ <;> simp <;> lia
inductive iDownR(R:It->Hp->Prop)(vs:List V)(b:Hp):Prop
 | mk(a:Int)(_:vs=[.int a,.int (-1),.int (-1)])(_:(-1<=a/\a < 2 ^ 24))(_:R (Its a (-1) (a + 1).toNat) b)
noncomputable def iDown(a:TA):TI:=fun σ H R=>a σ H fun vs b=>iDownR R vs b
section
variable{X:Cx}{tg:Expr}
theorem Jrg{a b c:Expr}{m:TA}{p pos:Pos}(z:Gl X "range")(y:X.mg "range"=none)(A:PA X [a,b,c] m)(w:starEach [a,b,c] X.env=[(false,eval a X.env),(false,eval b X.env),(false,eval c X.env)]:=by rfl)(g:starEach [b,c] X.env=[(false,eval b X.env),(false,eval c X.env)]:=by rfl):
  PI X tg (.Call (.Name "range" p) [a,b,c] [] pos) (iDown m):=by
 intro pins s σ H R I h;refine Call_ (J7g I z y boot_range (callWith_type1 (thn (A pos pins s σ H _ I h) fun us f B=>?_) (by rw [w,g]) (by rw [g];rfl)));obtain ⟨vs,n,E,u,j⟩:=B;obtain ⟨i,e,⟨j,v⟩,q⟩:=j;subst e
 cases u with
 | cons r rr =>
  cases rr with
  | cons r' rr =>
   cases rr with
   | cons r'' rr =>
    cases rr;obtain ⟨t,rfl⟩:=r;obtain ⟨t',rfl⟩:=r';obtain ⟨d,rfl⟩:=r'';refine call_range_3 (by decide) ?_ (Or.inl (PyProof.noPylong_small (by decide)));have l:Inv X pins σ n { f with heap:=f.heap.push { cls:=.type "range",data:=.fields #[.int i t,.int (-1) t',.int (-1) d] },toks:=f.toks }:=E.kept fun b o e=>get?_push_of_some _ e;refine wpAny_pyIter_range (IsRange.new ..) (Jhi j v) ?_;refine ⟨(f.heap.push { cls:=.type "range",data:=.fields #[.int i t,.int (-1) t',.int (-1) d] }).objs.size,[(f.heap.push { cls:=.type "range",data:=.fields #[.int i t,.int (-1) t',.int (-1) d] }).objs.size],_,_,n,rfl,
     l.kept (t':=f.toks) fun b o e=>get?_push_of_some _ e,J9z _ i (-1) (i + 1).toNat,?_,fun b hb=>?_,q⟩
    ·have D:i + ((0:Nat):Int) * (-1)=i:=by simp
     have C:(((i + 1).toNat:Nat):Int) - ((0:Nat):Int)=Builtin.Range.rangeSize i (-1) (-1):=by
      rw [Jd3 j];lia
     show IsRangeIter _ _ (i + ((0:Nat):Int) * (-1)) ((((i + 1).toNat:Nat):Int) - ((0:Nat):Int)) (-1);rw [D,C];exact get?_push_size _ rfl
    ·obtain rfl:b=(f.heap.push { cls:=.type "range",data:=.fields #[.int i t,.int (-1) t',.int (-1) d] }).objs.size:=by simpa using hb
     exact l.fpOk (Nat.le_refl _) (l.hok.fresh (Nat.le_refl _))
end
theorem Jsh{lo c:Int}{n:Nat}{g:TG}{h:TS}{D:Ends}{σ:St}{H:Hp}(b:Nat->St->Hp->Prop)(q:b 0 σ H)(o:∀ (i:Nat) σ H,i < n->b i σ H->g (.int (lo + (i:Nat) * c)) σ H fun σ2 f=>h { D with nx:=b (i + 1),ct:=b (i + 1),bk:=D.nx } σ2 f)(hd:∀ σ H,b n σ H->D.nx σ H):
  ∃ W:Nat->Nat->St->Hp->Prop,(∃ m,W 0 m σ H)/\∀ i m σ H,W i m σ H->
   ((Its lo c n).stop i H/\D.nx σ H)\/((Its lo c n).go i H/\∃ N:St->Hp->Prop,(∀ σ' d,N σ' d->∃ j,j < m/\W (i + 1) j σ' d)/\∀ x d,(Its lo c n).yld i H x d->g x σ d fun σ2 f=>h { D with nx:=N,ct:=N,bk:=D.nx } σ2 f):=by
 refine ⟨fun i m σ H=>m=n - i/\i<=n/\b i σ H,⟨_,rfl,Nat.zero_le _,q⟩,?_⟩;rintro i m σ H ⟨rfl,hi,p⟩;by_cases a:i < n
 ·refine .inr ⟨a,b (i + 1),fun σ' d l=>⟨_,by lia,rfl,a,l⟩,fun x d y=>?_⟩;obtain ⟨e,y⟩:=y;subst e y;exact o i σ _ a p
 ·obtain rfl:i=n:=by lia
  exact .inl ⟨Nat.le_refl _,hd σ H p⟩
theorem Js4{K:Frag}(xs:List V)(F:Nat->V)(j:SqT K H1 a xs)(A:xs.length<=sizeLine)(hd:H1 d=none)(w:∀ (i:Nat) (H:Hp) (q:VK) (v:V),xs[i]?=some v->Same H1 H->(∀ f,Same H f->q (F i) f)->te (some v :: capv σ js) H q)(s:∀ f,Same H1 f->f d=some (.lst ((List.range xs.length).map F))->Q (.ref d) f):LCW (Itt K a) tYes te σ js Q H1 d:=by
 have s0:∀ o,Same H1 (upd H1 d o):=fun o b u e=>by rw [Jm (Jd e hd)];exact e
 refine ⟨fun i m h H=>m=xs.length - i/\i<=xs.length/\h=(List.range i).map F/\Same H1 H/\H d=some (.lst h),⟨xs.length,rfl,Nat.zero_le _,rfl,s0 _,J6⟩,?_⟩;rintro i m h z ⟨rfl,hi,rfl,c,n⟩;refine ⟨n,?_⟩;by_cases g:i < xs.length
 ·refine .inr ⟨⟨_,_,c.tup j,List.getElem?_eq_getElem g⟩,?_,fun v y r=>?_⟩
  ·rw [length_map,length_range];lia
  ·obtain ⟨rfl,l⟩:=r;have l:=l _ (c.tup j);refine w i y _ v l c fun B p=>⟨p _ _ n,xs.length - (i + 1),by lia,rfl,g,?_,?_,J6⟩
   ·rw [range_succ,map_append];rfl
   ·intro b u e;rw [Jm (Jd e hd)];exact p _ _ (c _ _ e)
 ·have e:i=xs.length:=by lia
  subst e;exact .inl ⟨⟨_,c.tup j,Nat.le_refl _⟩,s z c n⟩
end L2
namespace L2
open PySem PySem.Spec PyProof.Rows
noncomputable def LCW2(K:Frag)(J:It)(n:TT)(l:TE)(σ:St)(js:List Nat)(Q:VK)(q:Hp)(d:Addr):Prop:=∃ W:Nat->Nat->List V->Hp->Prop,(∃ m,W 0 m [] (upd q d (.lst [])))/\
 ∀ i m c e,W i m c e->e d=some (.lst c)/\((J.stop i e/\Q (.ref d) e)\/(J.go i e/\c.length < sizeLine/\∀ v g,J.yld i e v g->
  ∃ p a b,v=.ref p/\SqT K g p [a,b]/\n (some a :: some b :: capv σ js) g fun o j=>if o=true then l (some a :: some b :: capv σ js) j fun y h=>h d=some (.lst c)/\∃ f,f < m/\W (i + 1) f (c ++ [y]) (upd h d (.lst (c ++ [y])))
   else ∃ f,f < m/\W (i + 1) f c j))
noncomputable def tLC2(K:Frag)(b:TI)(e:TT)(c:TE)(js:List Nat):TE:=fun σ H Q=>b σ H fun J a=>∀ d,a d=none->LCW2 K J e c σ js Q a d
section
variable{X:Cx}{elt iter:Expr}{ifs:List Expr}{x y z:Str}{px py pz tp:Pos}{kk:Nat}{scope:Scope}{cl:List (Str × Addr)}{pos spos:Pos}{wi:TI}{tc:TT}{te:TE}{caps:List Str}{js:List Nat}{i:Nat}
theorem Jhj(T:X.calm=true)(hp:PI X (.Tuple [.Name x px,.Name z pz] kk tp) iter wi)(he:∀ (C:Addr) (u:List Addr) (s:Shared) (H:Hp),PE (X.block (x :: z :: caps) scope cl C u s H) elt te)(ht:∀ (C:Addr) (u:List Addr) (s:Shared) (H:Hp),PTs (X.block (x :: z :: caps) scope cl C u s H) ifs tc)(q:∀ p∈scope.names,p.2≠.cell)(e:∀ p∈scope.names,p.2=.local->scope.names.lookup p.1=some .local)(F:(x :: z :: caps).Nodup)(E:∀ p∈cl,X.env.cells.lookup p.1=some p.2)(L:∀ p∈scope.names,p.2=.free->∃ c,cl.lookup p.1=some c)(G:caps.length=js.length)(r:∀ (k:Nat) (c:Str),caps[k]?=some c->∃ (j:Nat) (a:Addr),js[k]?=some j/\X.N[j]?=some c/\X.env.scope.names.lookup c=some .cell/\cl.lookup c=some a/\(relabel scope X.env).names.lookup c=some .cell)(l:closureFor scope X.env=pure cl)(f:scope.kind=.function)(hx:scope.names.lookup x=some .local)(O:scope.names.lookup z=some .local)(hs:∀ v,foldedSetIterable iter X.env v=pure v)(I:Inv X pins σ H s)(h:tLC2 X.K wi tc te js σ H Q)(fin:∀ (d:Addr) (R:Hp) (M:Shared) (C:Addr),Inv X pins σ R M->Q (.ref d) R->(∃ m,M.heap.Ns C m)->FpOk X pins R C->compPost (model X.prog X.w) X.A X.xe use QV (.ref d) C (.ok .next) M):
  wpAny (model X.prog X.w) X.A (comprehension (.ListComp elt [⟨.Tuple [.Name x px,.Name z pz] kk tp,iter,ifs,0⟩] scope pos) scope X.env p0 (newList []) false (eval iter X.env) use) QV X.xe s:=by
 have D:(relabel scope X.env).names.lookup x=some .local:=lookup_relabel_local hx;have B:(relabel scope X.env).names.lookup z=some .local:=lookup_relabel_local O;refine Jam (g:=gTup X.K 2 (Jsg (Jhc 0) (Jsg (Jhc 1) gNil))) (xr:=[z]) T hp (fun C u s H=>Jfj (X:=X.block (x :: z :: caps) scope cl C u s H) (pos:=tp) (k:=kk) (n:=2) T
  (J3g (J1y (X:=X.block (x :: z :: caps) scope cl C u s H) (i:=0) (pos:=px) F rfl (.inl D) (.inr D))
   (J3g (J1y (X:=X.block (x :: z :: caps) scope cl C u s H) (i:=1) (pos:=pz) F rfl (.inl B) (.inr B)) Jb6)) rfl rfl) he ht q e E L G r l f hs I h (fun J H1 hL d hd=>?_) fin
 obtain ⟨W,Z,U⟩:=hL d hd;refine ⟨W,Z,fun i m S Y w=>⟨(U i m S Y w).1,(U i m S Y w).2.imp id fun ⟨go,hz,st⟩=>⟨go,hz,fun v H3 y ou P=>?_⟩⟩⟩;obtain ⟨p,a,b,rfl,sq,st⟩:=st v H3 y
 match ou,P with
 | [o,o2],_=>exact ⟨p,[a,b],rfl,sq,rfl,a,[b],rfl,b,[],rfl,rfl,[some a,some b],rfl,rfl,st⟩
theorem Jpr(L:X.calm=true)(G:PI X (.Tuple [.Name x px,.Name z pz] kk tp) iter wi)(i:closureFor scope X.env=pure cl)(E:∀ (C:Addr) (c:List Addr) (s:Shared) (H:Hp),PTs (X.block (x :: z :: caps) scope cl C c s H) ifs tc)(J:∀ (C:Addr) (c:List Addr) (s:Shared) (H:Hp),PE (X.block (x :: z :: caps) scope cl C c s H) elt te)(j:∀ p∈scope.names,p.2≠.cell:=by decide +kernel)(a:∀ p∈scope.names,p.2=.local->scope.names.lookup p.1=some .local:=by decide +kernel)(A:(x :: z :: caps).Nodup:=by decide +kernel)(n:∀ p∈cl,X.env.cells.lookup p.1=some p.2:=by repeat (first | exact List.forall_mem_nil _ | refine List.forall_mem_cons.mpr ⟨rfl,?_⟩))(r:J50 scope cl=true:=by rfl)(f:caps.length=js.length:=by rfl)(l:J7k X scope cl caps js=true:=by rfl)(g:scope.kind=.function:=by rfl)(D:scope.names.lookup x=some .local:=by rfl)(w:scope.names.lookup z=some .local:=by rfl)(F:∀ v,foldedSetIterable iter X.env v=pure v:=by intro _;rfl):
  PE X (.ListComp elt [⟨.Tuple [.Name x px,.Name z pz] kk tp,iter,ifs,0⟩] scope pos) (tLC2 X.K wi tc te js):=by
 intro pins s σ H Q I h;rw [eval_ListComp];refine Jhj (use:=none) L G J E j a A n (J50.get r) f (J7k.get f l) i g D w F I h fun d O B C N q M c=>?_;obtain ⟨m,u⟩:=M;exact ⟨m,u,fun h' y=>⟨.ref d,O,N.turned (h':=h') (t':=B.toks) (it:=C) (fun b o hb e=>(y.2 b hb).trans e) c.1 c.2.1 c.2.2.2.1 c.2.2.2.2.1 c.2.2.2.2.2,rfl,q⟩⟩
end
section
variable{K:Frag}{a:Addr}{H1:Hp}{tc:TT}{te:TE}{σ:St}{js:List Nat}{Q:VK}{d:Addr}
theorem Js5(xs:List V)(g:Nat->Bool)(f:Nat->V)(w:SqT K H1 a xs)(J:xs.length<=sizeLine)(hd:H1 d=none)(D:∀ (i:Nat) (v:V),xs[i]?=some v->∀ H A,Same H1 H->(∀ c,Same H c->A (g i) c)->tc (some (.int (i:Nat)) :: some v :: capv σ js) H A)(G:∀ (i:Nat) (v:V),xs[i]?=some v->g i=true->∀ H B,Same H1 H->(∀ c,Same H c->B (f i) c)->te (some (.int (i:Nat)) :: some v :: capv σ js) H B)(E:∀ c,Same H1 c->c d=some (.lst (((List.range xs.length).filter g).map f))->Q (.ref d) c):LCW2 K (Ite K a) tc te σ js Q H1 d:=by
 have s0:∀ o,Same H1 (upd H1 d o):=fun o b u e=>by rw [Jm (Jd e hd)];exact e
 refine ⟨fun i m s H=>m=xs.length - i/\i<=xs.length/\s=((List.range i).filter g).map f/\Same H1 H/\H d=some (.lst s),⟨xs.length,rfl,Nat.zero_le _,rfl,s0 _,J6⟩,?_⟩;rintro i m s y ⟨rfl,hi,rfl,h,r⟩;refine ⟨r,?_⟩;by_cases j:i < xs.length
 ·refine .inr ⟨⟨_,_,h.tup w,List.getElem?_eq_getElem j⟩,?_,fun v N C=>?_⟩
  ·have L:(((List.range i).filter g).map f).length<=i:=by
    rw [length_map];exact Nat.le_trans (length_filter_le _ _) (by rw [length_range];exact Nat.le_refl _)
   lia
  ·obtain ⟨p,x,rfl,F,rfl,q⟩:=C;have q:=q _ (h.tup w);have l:Same y (upd y p (.tup [.int (i:Int),x])):=fun b u e=>by rw [Jm (Jd e F)];exact e
   refine ⟨p,_,_,rfl,SqT.of J6,D i x q _ _ (h.trans l) fun I n=>?_⟩
   cases hg:g i with
   | false =>
    rw [if_neg (by decide)];refine ⟨xs.length - (i + 1),by lia,rfl,j,?_,h.trans (l.trans n),n _ _ (l _ _ r)⟩;rw [range_succ,filter_append,map_append];simp [hg]
   | true =>
    rw [if_pos rfl];refine G i x q hg I _ (h.trans (l.trans n)) fun M z=>⟨z _ _ (n _ _ (l _ _ r)),xs.length - (i + 1),by lia,rfl,j,?_,?_,J6⟩
    ·rw [range_succ,filter_append,map_append];simp [hg]
    ·intro b u e;rw [Jm (Jd e hd)];exact z _ _ (n _ _ (l _ _ (h _ _ e)))
 ·have e:i=xs.length:=by lia
  subst e;exact .inl ⟨⟨_,h.tup w,Nat.le_refl _⟩,E y h r⟩
theorem Joo(xs:List V)(s:Hp->Addr->Nat->Prop)(A:SqT K H1 a xs)(L:xs.length<=sizeLine)(hd:H1 d=none)(mono:∀ H c q i,Jp6 d H c->q≠d->s H q i->s c q i)(J:∀ (i:Nat) (v:V),xs[i]?=some v->∀ H E,Same H1 H->(∃ f,H d=some (.lst f))->(∀ q c,Same H c->q≠d->s c q i->E (.ref q) c)->te (some (.int (i:Nat)) :: some v :: capv σ js) H E)(G:∀ f c,Same H1 c->c d=some (.lst f)->Refs (fun q i=>s c q i) f xs.length->Q (.ref d) c):LCW2 K (Ite K a) tYes te σ js Q H1 d:=by
 have s0:∀ o,Same H1 (upd H1 d o):=fun o b u e=>by rw [Jm (Jd e hd)];exact e
 refine ⟨fun i m f H=>m=xs.length - i/\i<=xs.length/\Same H1 H/\H d=some (.lst f)/\Refs (fun q i=>q≠d/\s H q i) f i,⟨_,rfl,Nat.zero_le _,s0 _,J6,Refs.nil⟩,?_⟩;rintro i m f D ⟨rfl,hi,g,w,z⟩;refine ⟨w,?_⟩;by_cases r:i < xs.length
 ·refine .inr ⟨⟨_,_,g.tup A,List.getElem?_eq_getElem r⟩,by rw [z.len];lia,fun v N F=>?_⟩;obtain ⟨p,x,rfl,I,rfl,B⟩:=F;have B:=B _ (g.tup A);have h:Same D (upd D p (.tup [.int (i:Int),x])):=fun b u e=>by rw [Jm (Jd e I)];exact e
  refine ⟨p,_,_,rfl,SqT.of J6,?_⟩;unfold tYes;dsimp only;rw [if_pos rfl];refine J i x B _ _ (g.trans h) ⟨_,h _ _ w⟩ fun q M y l C=>⟨y _ _ (h _ _ w),xs.length - (i + 1),by lia,rfl,r,?_,J6,?_⟩
  ·intro b u e;rw [Jm (Jd e hd)];exact y _ _ (h _ _ (g _ _ e))
  ·have kd:∀ H,Jp6 d H (upd H d (.lst (f ++ [.ref q]))):=fun H b o e n=>by rw [Jm n];exact e
   refine (z.mono fun a j _ x=>⟨x.1,?_⟩).snoc ⟨l,mono _ _ _ _ (kd _) l C⟩;exact mono _ _ _ _ (fun b o e n=>kd _ _ _ (y _ _ (h _ _ e)) n) x.1 x.2
 ·have e:i=xs.length:=by lia
  subst e;exact .inl ⟨⟨_,g.tup A,Nat.le_refl _⟩,G f D g w (z.mono fun _ _ _ x=>x.2)⟩
end
end L2
namespace Rl
noncomputable def posR(ls:List Int)(row:List Nat)(j:Nat):Int:=J2 ls (row.take (row.idxOf j))
theorem J2p(ls:List Int)(j:Nat)(a:List Nat):posR ls (j :: a) j=0:=by
 unfold posR;rw [List.idxOf_cons_self];rfl
theorem Js(ls:List Int)(h:i≠j)(a:List Nat):posR ls (i :: a) j=ls.getD i 0 + posR ls a j:=by
 unfold posR;have b:(i == j)=false:=by simpa using h
 rw [List.idxOf_cons,b];show J2 ls ((i :: a).take (a.idxOf j + 1))=_;rw [List.take_succ_cons,Jn]
theorem Jz(ls:List Int)(b:List Nat)(h:j ∉ xs):posR ls (xs ++ b) j=J2 ls xs + posR ls b j:=by
 induction xs with
 | nil=>rw [nil_append,J21,Int.zero_add]
 | cons a r ih =>
  rw [cons_append,Js _ (fun e=>h (by rw [e];exact mem_cons_self)),ih fun q=>h (mem_cons_of_mem _ q),Jn];lia
theorem Jy(ls:List Int)(b:List Nat)(h:j∈xs):posR ls (xs ++ b) j=posR ls xs j:=by
 induction xs with
 | nil=>cases h
 | cons a r ih =>
  by_cases e:a=j
  ·subst e;rw [cons_append,J2p,J2p]
  ·rw [cons_append,Js _ e,Js _ e,ih ((mem_cons.mp h).resolve_left fun q=>e q.symm)]
theorem Ju(ls:List Int)(a:List Nat)(h:j ∉ xs):posR ls (xs ++ j :: a) j=J2 ls xs:=by
 rw [Jz _ _ h,J2p,Int.add_zero]
theorem J8j(h:∀ j∈row,0<=ls.getD j 0)(j:Nat):0<=posR ls row j:=J18 fun i hi=>h i (mem_of_mem_take hi)
theorem J5u(h:∀ j∈row,0<=ls.getD j 0)(b:j∈row):posR ls row j + ls.getD j 0<=J2 ls row:=by
 obtain ⟨s,t,rfl,c⟩:∃ s t,row=s ++ j :: t/\j ∉ s:=by
  induction row with
  | nil=>cases b
  | cons a r ih =>
   by_cases e:a=j
   ·exact ⟨[],r,by rw [e];rfl,by simp⟩
   ·obtain ⟨s,t,f,d⟩:=ih (fun j b=>h j (mem_cons_of_mem _ b)) ((mem_cons.mp b).resolve_left fun q=>e q.symm);exact ⟨a :: s,t,by rw [f];rfl,fun q=>(mem_cons.mp q).elim (fun q=>e q.symm) d⟩
 rw [Ju _ _ c,Ji,Jn];have:=J18 (ls:=ls) (os:=t) fun i hi=>h i (mem_append_right _ (mem_cons_of_mem _ hi));lia
theorem J65{row:List Nat}(b:j∈row):∃ s t,row=s ++ j :: t/\j ∉ s:=by
 induction row with
 | nil=>cases b
 | cons a r ih =>
  by_cases e:a=j
  ·exact ⟨[],r,by rw [e];rfl,by simp⟩
  ·obtain ⟨s,t,d,c⟩:=ih ((mem_cons.mp b).resolve_left fun q=>e q.symm);exact ⟨a :: s,t,by rw [d];rfl,fun q=>(mem_cons.mp q).elim (fun q=>e q.symm) c⟩
theorem J4s(ls:List Int)(nd:row.Nodup)(hi:i < row.length):posR ls row (row.getD i 0)=Jt ls row i:=by
 have e:row.idxOf (row.getD i 0)=i:=by
  simp_all
 unfold posR;rw [e,J4g ls row i (by lia)];rfl
noncomputable def Jo(r:Rst)(y:Int)(j:Nat)(o:Int):Prop:=j∈r.top/\0<=o/\o < r.ls.getD j 0/\y=posR r.ls r.top j + o
noncomputable def offT(r:Rst)(j:Nat)(o:Int):Int:=if r.ts.getD j false=true then r.ls.getD j 0 - 1 - o else o
theorem Jo.off(h:Jo r y j o):0<=offT r j o/\offT r j o < r.ls.getD j 0:=by
 obtain ⟨_,b,a,_⟩:=h;unfold offT;grind
theorem Jo.of_at(h:r.Ok)(a:AtR r.ls r.top y i):Jo r y (r.top.getD i 0) (y - Jt r.ls r.top i):=by
 obtain ⟨b,d,c⟩:=a;rw [J1d] at c;exact ⟨J27 b,by lia,by lia,by rw [J4s _ h.row.nd b];lia⟩
theorem Jo.at_(h:r.Ok)(a:Jo r y j o):∃ i,AtR r.ls r.top y i/\r.top.getD i 0=j/\y - Jt r.ls r.top i=o:=by
 obtain ⟨b,d,c,rfl⟩:=a;obtain ⟨i,hi,rfl⟩:=Jfu b;rw [J4s _ h.row.nd hi];refine ⟨i,⟨hi,by lia,by rw [J1d];lia⟩,rfl,by lia⟩
theorem Jo.same(h:r.Ok)(a:Jo r y j o)(b:Jo r y j' o'):j=j'/\o=o':=by
 obtain ⟨i,d,rfl,rfl⟩:=a.at_ h;obtain ⟨e,c,rfl,rfl⟩:=b.at_ h;obtain rfl:=h.row.unique d c;exact ⟨rfl,rfl⟩
theorem Rst.Ok.letAt(h:r.Ok)(b:0<=y)(a:y < r.size):∃ j o,Jo r y j o:=by
 obtain ⟨i,hi⟩:=h.row.exists b a;exact ⟨_,_,Jo.of_at h hi⟩
theorem Jo.inside(h:r.Ok)(a:Jo r y j o):0<=y/\y < r.size:=by
 obtain ⟨i,b,_⟩:=a.at_ h;exact h.row.inside b
theorem J85(h:r.Ok):J2v r y z↔∃ j o,Jo r y j o/\z=posR r.ls r.bot j + offT r j o:=by
 have b:∀ j,j∈r.top->(firsts r.ls r.bot).getD j 0=posR r.ls r.bot j:=fun j e=>by
  obtain ⟨k,c,rfl⟩:=Jfu (h.perm.mem_iff.mpr e);rw [h.rowB.first c,J4s _ h.rowB.nd c]
 constructor
 ·rintro ⟨i,hi,rfl⟩;refine ⟨_,_,Jo.of_at h hi,?_⟩;unfold J45 offT;rw [b _ (J27 hi.1)];split <;> lia
 ·rintro ⟨j,o,a,rfl⟩;obtain ⟨i,d,rfl,rfl⟩:=a.at_ h;refine ⟨i,d,?_⟩;unfold J45 offT;rw [b _ (J27 d.1)];split <;> lia
open Classical in
noncomputable def go(r:Rst)(y:Int):Int:=if h:∃ z,J2v r y z then Classical.choose h else y
theorem go_of(h:r.Ok)(g:J2v r y z):go r y=z:=by
 unfold go;rw [dif_pos ⟨z,g⟩];exact h.fun_ (Classical.choose_spec ⟨z,g⟩) g
theorem Jse(h:r.Ok)(b:0<=y)(a:y < r.size):J2v r y (go r y):=by
 obtain ⟨z,g⟩:=h.there b a;rw [go_of h g];exact g
theorem J2g(h:r.Ok)(a:Jo r y j o):go r y=posR r.ls r.bot j + offT r j o:=go_of h ((J85 h).mpr ⟨j,o,a,rfl⟩)
theorem go_in(h:r.Ok)(b:0<=y)(a:y < r.size):0<=go r y/\go r y < r.size:=h.stays (Jse h b a)
theorem go_inj(h:r.Ok)(g:0<=y)(f:y < r.size)(d:0<=z)(c:z < r.size)(e:go r y=go r z):y=z:=by
 have a:=Jse h g f;have b:=Jse h d c;rw [e] at a;exact h.inj a b
theorem J7x(e:row=X ++ w :: (Y ++ [l]))(nd:row.Nodup)(a:Bool):putR row w l a=X ++ (if a=true then l :: w :: Y else w :: l :: Y):=by
 subst e;have j:X ++ w :: (Y ++ [l])=(X ++ w :: Y) ++ [l]:=by simp
 rw [j] at nd ⊢;have b:=nodup_append.mp nd;have h:=nodup_append.mp b.1;have c:=fun q=>h.2.2 w q w mem_cons_self rfl;have i:=fun q=>b.2.2 l q l (by simp) rfl;have d:withoutR (X ++ w :: Y ++ [l]) l=X ++ w :: Y:=by
  rw [J1p,J1x,append_nil];exact J1o i
 unfold putR;rw [d,J94 Y c];have g:(X ++ w :: Y).take (X.length + 1)=X ++ [w]:=by
  rw [show X ++ w :: Y=(X ++ [w]) ++ Y by simp,show X.length + 1=(X ++ [w]).length by simp,List.take_left]
 have f:(X ++ w :: Y).drop (X.length + 1)=Y:=by
  simp
 cases a with
 | true=>simp
 | false=>rw [ if_neg (by decide),g,f];simp
theorem J4f(h:w ∉ X):J4 (X ++ w :: Y) w=Y:=by
 unfold J4;rw [J94 Y h,show X ++ w :: Y=(X ++ [w]) ++ Y by simp,show X.length + 1=(X ++ [w]).length by simp,drop_left]
theorem J1e(ne:row≠[]):∃ D,row=D ++ [row.getD (row.length - 1) 0]:=⟨_,Ja1 ne⟩
theorem J80(ne:row≠[])(f:a∈row)(d:row.getD (row.length - 1) 0≠a):∃ X Y,row=X ++ a :: (Y ++ [row.getD (row.length - 1) 0])/\a ∉ X:=by
 obtain ⟨D,e⟩:=J1e ne;generalize row.getD (row.length - 1) 0=b at *;subst e;have c:=(mem_append.mp f).resolve_right fun q=>d (mem_singleton.mp q).symm;obtain ⟨X,Y,rfl,g⟩:=J65 c;exact ⟨X,Y,by simp,g⟩
theorem J10(ls:List Int)(v:Int)(h:a ∉ row)(j:Nat):posR (ls.set a v) row j=posR ls row j:=Jk _ _ fun q=>h (mem_of_mem_take q)
theorem J2a(ls:List Int)(v:Int)(h:a ∉ T)(b:j∈T ++ [a]):posR (ls.set a v) (T ++ [a]) j=posR ls (T ++ [a]) j:=by
 by_cases c:j∈T
 ·rw [Jy _ _ c,Jy _ _ c,J10 _ _ h]
 ·obtain rfl:j=a:=by simpa [c] using b
  rw [Ju _ _ c,Ju _ _ c,Jk _ _ c]
noncomputable def LoseP(r l:Rst)(y:Int)(j:Nat):Stp->Prop
 | .home _=>False
 | .even w _=>(∃ o',Jo r y j o')/\l.size<=go r y/\(∃ o',Jo r (go r y) w o')/\go r (go r y)=go l y
 | .over w _=>(∃ o',Jo r y j o')/\l.size<=go r y/\(∃ o',Jo r (go r y) w o')/\go r (go r y)=go l y
 | .under w _=>(∃ o',Jo r y w o')/\l.size<=go r y/\(∃ o',Jo r (go r y) j o')/\go r (go r y)=go l y
 | .overs w t=>(∃ o',Jo r y j o')/\(∀ k:Int,0<=k->k < t->l.size<=go r y - k * J2 r.ls (J4 r.bot w)/\(∃ o',Jo r (go r y - k * J2 r.ls (J4 r.bot w)) w o')/\
   go r (go r y - k * J2 r.ls (J4 r.bot w))=go r y - k * J2 r.ls (J4 r.bot w) - J2 r.ls (J4 r.bot w))/\go r y - t * J2 r.ls (J4 r.bot w)=go l y
 | .unders w t=>(∀ k:Int,0<=k->k < t->(∃ o',Jo r (y + k * J2 r.ls (J4 r.top w)) w o')/\go r (y + k * J2 r.ls (J4 r.top w))=y + k * J2 r.ls (J4 r.top w) + J2 r.ls (J4 r.top w)/\
   l.size<=y + k * J2 r.ls (J4 r.top w) + J2 r.ls (J4 r.top w))/\(∃ o',Jo r (y + t * J2 r.ls (J4 r.top w)) j o')/\go r (y + t * J2 r.ls (J4 r.top w))=go l y
structure J56(r:Rst)(s:Stp):Prop where
 plain:∀ y j o,Jo (s.behind r) y j o->j ∉ s.losers r->(∃ o',Jo r y j o')/\go r y=go (s.behind r) y
 lose:∀ y j o,Jo (s.behind r) y j o->j∈s.losers r->LoseP r (s.behind r) y j s
theorem J1v{T:List Nat}(h:(T ++ [a]).Nodup):a ∉ T:=fun q=>(nodup_append.mp h).2.2 a q a (by simp) rfl
theorem J7e{X:List Nat}(h:(X ++ a :: Y).Nodup):a ∉ X/\a ∉ Y/\∀ j∈X,j ∉ Y:=by
 have n:=nodup_append.mp h;have b:=nodup_cons.mp n.2.1;exact ⟨fun q=>n.2.2 a q a mem_cons_self rfl,b.1,fun j c q=>n.2.2 j c j (mem_cons_of_mem _ q) rfl⟩
theorem J11(ls:List Int)(a:Nat):J2 ls [a]=ls.getD a 0:=by rw [Jn,J21,Int.add_zero]
theorem Jn3{r:Rst}(h:r.Ok)(ne:r.top≠[]){a:Nat}(n:J2b r (.home a))(okl:((Stp.home a).behind r).Ok):J56 r (.home a):=by
 obtain ⟨z,w⟩:=n;have f:r.bot≠[]:=fun e=>ne (by have:=h.perm;rw [e] at this;exact this.symm.eq_nil);obtain ⟨T,b⟩:=J1e ne;obtain ⟨B,c⟩:=J1e f;have b:r.top=T ++ [a]:=by rw [z];exact b
 have c:r.bot=B ++ [a]:=by rw [w];exact c
 have l:=J1v (b ▸ h.row.nd);have s:=J1v (c ▸ h.rowB.nd);have la:=h.row.lt a (by rw [b];simp);refine ⟨fun y j o A m=>?_,fun y j o A m=>nomatch m⟩;have lt:((Stp.home a).behind r).top=T:=by show withoutR r.top a=T;rw [b,J1p,J1x,append_nil,J1o l]
 have C:((Stp.home a).behind r).bot=B:=by show withoutR r.bot a=B;rw [c,J1p,J1x,append_nil,J1o s]
 have g:=J2g okl A;obtain ⟨d,G,F,u⟩:=A;rw [lt] at d u;have i:j≠a:=fun e=>l (e ▸ d);have p:((Stp.home a).behind r).ls.getD j 0=r.ls.getD j 0:=by show (r.ls.set a 0).getD j 0=_;rw [Jx _ _ _ _ la,if_neg i]
 have E:((Stp.home a).behind r).ts.getD j false=r.ts.getD j false:=by show (r.ts.set a false).getD j false=_;rw [J2h _ _ _ _ (by rw [h.len];exact la),if_neg i]
 have D:j∈B:=by
  have:j∈r.bot:=h.perm.mem_iff.mpr (by rw [b];exact mem_append_left _ d);rw [c] at this;exact (mem_append.mp this).resolve_right fun q=>i (mem_singleton.mp q)
 have v:Jo r y j o:=by
  refine ⟨by rw [b];exact mem_append_left _ d,G,by rw [<- p];exact F,?_⟩;rw [u,b,Jy _ _ d];show posR (r.ls.set a 0) T j + o=_;rw [J10 _ _ l]
 refine ⟨⟨o,v⟩,?_⟩;rw [J2g h v,g,C,c,Jy _ _ D];show _=posR (r.ls.set a 0) B j + _;rw [J10 _ _ s];unfold offT;rw [p,E]
theorem Jn4(h:r.Ok)(ne:r.top≠[])(n:J2b r (.even a b))(okl:((Stp.even a b).behind r).Ok):J56 r (.even a b):=by
 obtain ⟨U,K,B,S⟩:=n;have G:r.bot≠[]:=fun e=>ne (by have:=h.perm;rw [e] at this;exact this.symm.eq_nil);obtain ⟨T,i⟩:=J1e ne;have i:r.top=T ++ [a]:=by rw [U];exact i
 have l:a∈r.top:=by rw [i];simp
 obtain ⟨X,Y,f,D⟩:=J80 G (h.perm.mem_iff.mpr l) (fun e=>B (by rw [K];exact e.symm));have f:r.bot=X ++ a :: (Y ++ [b]):=by rw [K];exact f
 have v:b∈r.top:=h.perm.mem_iff.mp (by rw [f];simp);have w:=J1v (i ▸ h.row.nd);have u:=f ▸ h.rowB.nd;obtain ⟨_,J,XY⟩:=J7e u;have P:=fun q=>J (mem_append_left _ q);have O:=fun q=>XY b q (by simp);have bY:=J1v (nodup_cons.mp (nodup_append.mp u).2.1).2;have la:=h.row.lt a l;have H:=h.row.lt b v;have pb:=h.row.pos b v;have lt:((Stp.even a b).behind r).top=T:=by show withoutR r.top a=T;rw [i,J1p,J1x,append_nil,J1o w]
 have L:((Stp.even a b).behind r).bot=X ++ b :: Y:=by
  show withoutR (putR r.bot a b false) a=_;rw [J7x f h.rowB.nd,if_neg (by decide),show X ++ a :: b :: Y=X ++ ([a] ++ ([b] ++ Y)) by simp,J1p,J1p,J1p,J1x,J1o D,J1o P,J1o (xs:=[b]) (by simpa using B)];simp
 have C:∀ j,j≠a->((Stp.even a b).behind r).ls.getD j 0=r.ls.getD j 0:=fun j d=>by show (r.ls.set a 0).getD j 0=_;rw [Jx _ _ _ _ la,if_neg d]
 have N:∀ j,j≠a->((Stp.even a b).behind r).ts.getD j false=if j=b then (r.ts.getD a false != r.ts.getD b false) else r.ts.getD j false:=fun j d=>by
  show ((J2d r a b).set a false).getD j false=_;rw [J2h _ _ _ _ (by rw [J2w,h.len];exact la),if_neg d];unfold J2d;rw [J2h _ _ _ _ (by rw [h.len];exact H)]
 have sz:r.size=J2 r.ls T + r.ls.getD a 0:=by show J2 r.ls r.top=_;rw [i,Ji,J11]
 have E:((Stp.even a b).behind r).size=J2 r.ls T:=by show J2 (r.ls.set a 0) ((Stp.even a b).behind r).top=_;rw [lt,Jk _ _ w]
 have R:r.size=J2 r.ls X + r.ls.getD a 0 + J2 r.ls Y + r.ls.getD b 0:=by rw [<- h.sizeB,f,Ji,Jn,Ji,J11];lia
 have s:posR r.ls r.bot b=J2 r.ls X + r.ls.getD a 0 + J2 r.ls Y:=by
  rw [f,Jz _ _ O,Js _ B,Ju _ _ bY];lia
 have F:posR r.ls r.bot a=J2 r.ls X:=by rw [f,Ju _ _ D]
 have up:∀ {y o:Int} {j:Nat},Jo ((Stp.even a b).behind r) y j o->j≠a/\j∈T/\Jo r y j o:=fun {y o j} A=>by
  obtain ⟨z,A2,A3,Q⟩:=A;rw [lt] at z Q;have d:j≠a:=fun e=>w (e ▸ z);refine ⟨d,z,by rw [i];exact mem_append_left _ z,A2,by rw [<- C j d];exact A3,?_⟩;rw [Q,i,Jy _ _ z];show posR (r.ls.set a 0) T j + o=_;rw [J10 _ _ w]
 have M:J2 ((Stp.even a b).behind r).ls X=J2 r.ls X:=Jk _ _ D;refine ⟨fun y j o A I=>?_,fun y j o A I=>?_⟩
 ·have jb:j≠b:=fun e=>I (mem_singleton.mpr e);have g:=J2g okl A;obtain ⟨d,Z,p⟩:=up A;refine ⟨⟨o,p⟩,?_⟩;have eo:offT ((Stp.even a b).behind r) j o=offT r j o:=by unfold offT;rw [C j d,N j d,if_neg jb]
  rw [J2g h p,g,L,f,eo];have jB:j∈X ++ a :: (Y ++ [b]):=by rw [<- f];exact h.perm.mem_iff.mpr p.1
  congr 1
  by_cases c:j∈X
  ·rw [Jy _ _ c,Jy _ _ c];show _=posR (r.ls.set a 0) X j;rw [J10 _ _ D]
  ·have W:j∈Y:=by simpa [c,d,jb] using jB
   rw [Jz _ _ c,Jz _ _ c,Js _ (Ne.symm d),Js _ (Ne.symm jb),Jy _ _ W,M,C b (Ne.symm B)];show _=_ + (_ + posR (r.ls.set a 0) Y j);rw [J10 _ _ P];lia
 ·cases mem_singleton.mp I;have g:=J2g okl A;obtain ⟨d,Z,p⟩:=up A;have g':=J2g h p;have of:=p.off;have m:Jo r (go r y) a (offT r b o):=⟨l,of.1,by lia,by rw [g',s,i,Ju _ _ w];lia⟩;have g2:=J2g h m;refine ⟨⟨o,p⟩,by rw [E,g',s];lia,⟨_,m⟩,?_⟩;rw [g2,g,L,F,Ju _ _ O,M]
  congr 1
  unfold offT;rw [C b d,N b d,if_pos rfl,S];cases r.ts.getD a false <;> cases r.ts.getD b false <;> simp <;> lia
theorem Jn2(h:r.Ok)(ne:r.top≠[])(n:J2b r (.over a b))(okl:((Stp.over a b).behind r).Ok):J56 r (.over a b):=by
 obtain ⟨W,P,l,n4⟩:=n;have H:r.bot≠[]:=fun e=>ne (by have:=h.perm;rw [e] at this;exact this.symm.eq_nil);obtain ⟨T,p⟩:=J1e ne;have p:r.top=T ++ [a]:=by rw [W];exact p
 have u:a∈r.top:=by rw [p];simp
 obtain ⟨X,Y,i,F⟩:=J80 H (h.perm.mem_iff.mpr u) (fun e=>l (by rw [P];exact e.symm));have i:r.bot=X ++ a :: (Y ++ [b]):=by rw [P];exact i
 have E:b∈r.top:=h.perm.mem_iff.mp (by rw [i];simp);have M:=J1v (p ▸ h.row.nd);have C:=i ▸ h.rowB.nd;obtain ⟨_,L,XY⟩:=J7e C;have aY:=fun q=>L (mem_append_left _ q);have D:=fun q=>XY b q (by simp);have bY:=J1v (nodup_cons.mp (nodup_append.mp C).2.1).2;have la:=h.row.lt a u;have I:=h.row.lt b E;have pb:=h.row.pos b E;have lt:((Stp.over a b).behind r).top=T ++ [a]:=p;have Q:((Stp.over a b).behind r).bot=X ++ (if r.ts.getD a false=true then b :: a :: Y else a :: b :: Y):=J7x i h.rowB.nd _;have w:∀ j,j≠a->((Stp.over a b).behind r).ls.getD j 0=r.ls.getD j 0:=fun j f=>by show (r.ls.set a _).getD j 0=_;rw [Jx _ _ _ _ la,if_neg f]
 have d:((Stp.over a b).behind r).ls.getD a 0=r.ls.getD a 0 - r.ls.getD b 0:=by show (r.ls.set a _).getD a 0=_;rw [Jx _ _ _ _ la,if_pos rfl]
 have K:∀ j,((Stp.over a b).behind r).ts.getD j false=if j=b then (r.ts.getD a false != r.ts.getD b false) else r.ts.getD j false:=fun j=>by
  show (J2d r a b).getD j false=_;unfold J2d;rw [J2h _ _ _ _ (by rw [h.len];exact I)]
 have sz:r.size=J2 r.ls T + r.ls.getD a 0:=by show J2 r.ls r.top=_;rw [p,Ji,J11]
 have G:((Stp.over a b).behind r).size=J2 r.ls T + r.ls.getD a 0 - r.ls.getD b 0:=by
  show J2 ((Stp.over a b).behind r).ls ((Stp.over a b).behind r).top=_;rw [lt,Ji,J11,d,show J2 ((Stp.over a b).behind r).ls T=J2 r.ls T from Jk _ _ M];lia
 have U:r.size=J2 r.ls X + r.ls.getD a 0 + J2 r.ls Y + r.ls.getD b 0:=by rw [<- h.sizeB,i,Ji,Jn,Ji,J11];lia
 have z:posR r.ls r.bot b=J2 r.ls X + r.ls.getD a 0 + J2 r.ls Y:=by
  rw [i,Jz _ _ D,Js _ l,Ju _ _ bY];lia
 have B:posR r.ls r.bot a=J2 r.ls X:=by rw [i,Ju _ _ F]
 have up:∀ {y o:Int} {j:Nat},Jo ((Stp.over a b).behind r) y j o->Jo r y j o:=fun {y o j} A=>by
  obtain ⟨N,A2,S,R⟩:=A;rw [lt] at N R;refine ⟨by rw [p];exact N,A2,?_,?_⟩
  ·by_cases f:j=a
   ·subst f;rw [d] at S;lia
   ·rw [<- w j f];exact S
  ·rw [R,p]
   congr 1
   exact J2a _ _ M N
 have s:J2 ((Stp.over a b).behind r).ls X=J2 r.ls X:=Jk _ _ F;refine ⟨fun y j o A J=>?_,fun y j o A J=>?_⟩
 ·have jb:j≠b:=fun e=>J (mem_singleton.mpr e);have g:=J2g okl A;have v:=up A;refine ⟨⟨o,v⟩,?_⟩;rw [J2g h v,g,Q];by_cases f:j=a
  ·subst f;rw [B];unfold offT;rw [d,K,if_neg jb];by_cases ct:r.ts.getD j false=true
   ·rw [if_pos ct,if_pos ct,if_pos ct,Jz _ _ F,Js _ (Ne.symm l),J2p,s,w b (Ne.symm l)];lia
   ·rw [if_neg ct,if_neg ct,if_neg ct,Ju _ _ F,s]
  ·have eo:offT ((Stp.over a b).behind r) j o=offT r j o:=by unfold offT;rw [w j f,K j,if_neg jb]
   have jB:j∈X ++ a :: (Y ++ [b]):=by rw [<- i];exact h.perm.mem_iff.mpr v.1
   rw [i,eo]
   congr 1
   by_cases c:j∈X
   ·rw [Jy _ _ c,Jy _ _ c];show _=posR (r.ls.set a _) X j;rw [J10 _ _ F]
   ·have Z:j∈Y:=by simpa [c,f,jb] using jB
    have O:posR ((Stp.over a b).behind r).ls Y j=posR r.ls Y j:=J10 _ _ aY _;rw [Jz _ _ c,Jz _ _ c,Js _ (Ne.symm f),Jy _ _ Z,s];split
    ·rw [Js _ (Ne.symm jb),Js _ (Ne.symm f),O,w b (Ne.symm l),d];lia
    ·rw [Js _ (Ne.symm f),Js _ (Ne.symm jb),O,w b (Ne.symm l),d];lia
 ·cases mem_singleton.mp J;have g:=J2g okl A;have v:=up A;have g':=J2g h v;have of:=v.off;have m:Jo r (go r y) a (r.ls.getD a 0 - r.ls.getD b 0 + offT r b o):=⟨u,by lia,by lia,by rw [g',z,p,Ju _ _ M];lia⟩;have g2:=J2g h m;refine ⟨⟨o,v⟩,by rw [G,g',z];lia,⟨_,m⟩,?_⟩;have ba:=Ne.symm l;rw [g2,g,Q,B];unfold offT;rw [w b ba,K b,if_pos rfl];cases ca:r.ts.getD a false <;> cases cb:r.ts.getD b false <;> simp only [Bool.false_eq_true,if_false,if_true,bne_self_eq_false,show (true != false)=true from rfl,show (false != true)=true from rfl]
  ·rw [Jz _ _ D,Js _ l,J2p,s,d];lia
  ·rw [Jz _ _ D,Js _ l,J2p,s,d];lia
  ·rw [Ju _ _ D,s];lia
  ·rw [Ju _ _ D,s];lia
theorem Jix(h:r.Ok)(ne:r.top≠[])(n:J2b r (.under a b))(okl:((Stp.under a b).behind r).Ok):J56 r (.under a b):=by
 obtain ⟨n1,n2,z,n4⟩:=n;have Q:r.bot≠[]:=fun e=>ne (by have:=h.perm;rw [e] at this;exact this.symm.eq_nil);obtain ⟨B,D⟩:=J1e Q;have D:r.bot=B ++ [a]:=by rw [n1];exact D
 have M:a∈r.bot:=by rw [D];simp
 have v:=h.perm.mem_iff.mp M;obtain ⟨X,Y,l,L⟩:=J80 ne v (fun e=>z (by rw [n2];exact e.symm));have l:r.top=X ++ a :: (Y ++ [b]):=by rw [n2];exact l
 have i:b∈r.top:=by rw [l];simp
 have W:=J1v (D ▸ h.rowB.nd);have J:(X ++ a :: (Y ++ [b])).Nodup:=l ▸ h.row.nd;obtain ⟨_,U,XY⟩:=J7e J;have aY:a ∉ Y:=fun q=>U (mem_append_left _ q);have T:b ∉ X:=fun q=>XY b q (by simp);have bY:b ∉ Y:=J1v (nodup_cons.mp (nodup_append.mp J).2.1).2;have la:=h.row.lt a v;have R:=h.row.lt b i;have pb:=h.row.pos b i;have lt:((Stp.under a b).behind r).top=X ++ (if r.ts.getD a false=true then b :: a :: Y else a :: b :: Y):=J7x l h.row.nd _;have lb:((Stp.under a b).behind r).bot=B ++ [a]:=D;have E:∀ j,j≠a->((Stp.under a b).behind r).ls.getD j 0=r.ls.getD j 0:=fun j s=>by show (r.ls.set a _).getD j 0=_;rw [Jx _ _ _ _ la,if_neg s]
 have f:((Stp.under a b).behind r).ls.getD a 0=r.ls.getD a 0 - r.ls.getD b 0:=by show (r.ls.set a _).getD a 0=_;rw [Jx _ _ _ _ la,if_pos rfl]
 have S:∀ j,((Stp.under a b).behind r).ts.getD j false=if j=b then (r.ts.getD a false != r.ts.getD b false) else r.ts.getD j false:=fun j=>by
  show (J2d r a b).getD j false=_;unfold J2d;rw [J2h _ _ _ _ (by rw [h.len];exact R)]
 have sz:r.size=J2 r.ls B + r.ls.getD a 0:=by rw [<- h.sizeB,D,Ji,J11]
 have G:((Stp.under a b).behind r).size=J2 r.ls B + r.ls.getD a 0 - r.ls.getD b 0:=by
  rw [<- okl.sizeB,lb,Ji,J11,f,show J2 ((Stp.under a b).behind r).ls B=J2 r.ls B from Jk _ _ W];lia
 have aa:r.size=J2 r.ls X + r.ls.getD a 0 + J2 r.ls Y + r.ls.getD b 0:=by show J2 r.ls r.top=_;rw [l,Ji,Jn,Ji,J11];lia
 have H:posR r.ls r.top b=J2 r.ls X + r.ls.getD a 0 + J2 r.ls Y:=by
  rw [l,Jz _ _ T,Js _ z,Ju _ _ bY];lia
 have p:posR r.ls r.top a=J2 r.ls X:=by rw [l,Ju _ _ L]
 have I:posR r.ls r.bot a=J2 r.ls B:=by rw [D,Ju _ _ W]
 have K:J2 ((Stp.under a b).behind r).ls X=J2 r.ls X:=Jk _ _ L;have pB:∀ {j},j∈r.top->posR ((Stp.under a b).behind r).ls ((Stp.under a b).behind r).bot j=posR r.ls r.bot j:=fun {j} C=>by
  have C:=h.perm.mem_iff.mpr C;rw [lb];rw [D] at C ⊢;exact J2a _ _ W C
 have tp:((Stp.under a b).behind r).top.Perm r.top:=J37 h.row.nd i _;refine ⟨fun y j o A C=>?_,fun y j o A C=>?_⟩
 ·have jb:j≠b:=fun e=>C (mem_singleton.mpr e);have g:=J2g okl A;obtain ⟨O,P,F,w⟩:=A;have N:=tp.mem_iff.mp O;rw [pB N] at g;rw [lt] at w;by_cases s:j=a
  ·subst s;rw [f] at F;unfold offT at g;rw [f,S,if_neg jb] at g;by_cases ct:r.ts.getD j false=true
   ·rw [if_pos ct,Jz _ _ L,Js _ (Ne.symm z),J2p,K,E b (Ne.symm z)] at w;have d:Jo r y j (r.ls.getD b 0 + o):=⟨N,by lia,by lia,by rw [p];lia⟩;refine ⟨⟨_,d⟩,?_⟩;rw [J2g h d,g];unfold offT;rw [if_pos ct,if_pos ct];lia
   ·rw [if_neg ct,Ju _ _ L,K] at w;have d:Jo r y j o:=⟨N,by lia,by lia,by rw [p];lia⟩;refine ⟨⟨_,d⟩,?_⟩;rw [J2g h d,g];unfold offT;rw [if_neg ct,if_neg ct]
  ·have eo:offT ((Stp.under a b).behind r) j o=offT r j o:=by unfold offT;rw [E j s,S j,if_neg jb]
   rw [E j s] at F;have d:Jo r y j o:=by
    refine ⟨N,P,F,?_⟩;rw [w]
    congr 1
    have jT:j∈X ++ a :: (Y ++ [b]):=by rw [<- l];exact N
    rw [l];by_cases c:j∈X
    ·rw [Jy _ _ c,Jy _ _ c];show posR (r.ls.set a _) X j=_;rw [J10 _ _ L]
    ·have jY:j∈Y:=by simpa [c,s,jb] using jT
     have Z:posR ((Stp.under a b).behind r).ls Y j=posR r.ls Y j:=J10 _ _ aY _;rw [Jz _ _ c,Jz _ _ c,Js _ (Ne.symm s),Jy _ _ jY,K];split
     ·rw [Js _ (Ne.symm jb),Js _ (Ne.symm s),Z,E b (Ne.symm z),f];lia
     ·rw [Js _ (Ne.symm s),Js _ (Ne.symm jb),Z,E b (Ne.symm z),f];lia
   refine ⟨⟨_,d⟩,?_⟩;rw [J2g h d,g,eo]
 ·cases mem_singleton.mp C;have ba:=Ne.symm z;have g:=J2g okl A;obtain ⟨O,P,F,w⟩:=A;have O:=tp.mem_iff.mp O;rw [pB O] at g;rw [lt] at w;rw [E b ba] at F;unfold offT at g;rw [E b ba,S b,if_pos rfl] at g;by_cases ct:r.ts.getD a false=true
  ·rw [if_pos ct,Ju _ _ T,K] at w;have d:Jo r y a o:=⟨v,P,by lia,by rw [p];exact w⟩;have u:=J2g h d;unfold offT at u;rw [if_pos ct,I] at u;have m:Jo r (go r y) b (r.ls.getD b 0 - 1 - o):=⟨i,by lia,by lia,by rw [u,H];lia⟩;refine ⟨⟨_,d⟩,by rw [G,u];lia,⟨_,m⟩,?_⟩;rw [J2g h m,g,ct];unfold offT;cases r.ts.getD b false <;> simp <;> lia
  ·rw [if_neg ct,Jz _ _ T,Js _ z,J2p,K,f] at w;have d:Jo r y a (r.ls.getD a 0 - r.ls.getD b 0 + o):=⟨v,by lia,by lia,by rw [p];lia⟩;have u:=J2g h d;unfold offT at u;rw [if_neg ct,I] at u;have m:Jo r (go r y) b o:=⟨i,P,F,by rw [u,H];lia⟩;refine ⟨⟨_,d⟩,by rw [G,u];lia,⟨_,m⟩,?_⟩;have cf:r.ts.getD a false=false:=by simpa using ct
   rw [J2g h m,g,cf];unfold offT;cases r.ts.getD b false <;> simp
theorem Jiy(h:r.Ok)(ne:r.top≠[])(n:J2b r (.overs a t))(okl:((Stp.overs a t).behind r).Ok):J56 r (.overs a t):=by
 obtain ⟨Z,n2,K,W,J,U⟩:=n;obtain ⟨T,f⟩:=J1e ne;have f:r.top=T ++ [a]:=by rw [Z];exact f
 have p:a∈r.top:=by rw [f];simp
 obtain ⟨X,Y,d,z⟩:=J65 (h.perm.mem_iff.mpr p);have H:=J1v (f ▸ h.row.nd);have D:(X ++ a :: Y).Nodup:=d ▸ h.rowB.nd;obtain ⟨_,O,XY⟩:=J7e D;have w:J4 r.bot a=Y:=by rw [d];exact J4f z
 rw [w] at J U;have la:=h.row.lt a p;have lt:((Stp.overs a t).behind r).top=T ++ [a]:=f;have L:((Stp.overs a t).behind r).bot=X ++ a :: Y:=d;have G:∀ j,j≠a->((Stp.overs a t).behind r).ls.getD j 0=r.ls.getD j 0:=fun j b=>by show (r.ls.set a _).getD j 0=_;rw [Jx _ _ _ _ la,if_neg b]
 have l:((Stp.overs a t).behind r).ls.getD a 0=r.ls.getD a 0 - t * J2 r.ls Y:=by show (r.ls.set a (_ - t * J2 r.ls (J4 r.bot a))).getD a 0=_;rw [Jx _ _ _ _ la,if_pos rfl,w]
 have tS:1<=t * J2 r.ls Y:=by
  have:=Int.mul_le_mul W J (by decide) (by lia);lia
 have sz:r.size=J2 r.ls T + r.ls.getD a 0:=by show J2 r.ls r.top=_;rw [f,Ji,J11]
 have B:((Stp.overs a t).behind r).size=J2 r.ls T + r.ls.getD a 0 - t * J2 r.ls Y:=by
  show J2 ((Stp.overs a t).behind r).ls ((Stp.overs a t).behind r).top=_;rw [lt,Ji,J11,l,show J2 ((Stp.overs a t).behind r).ls T=J2 r.ls T from Jk _ _ H];lia
 have R:r.size=J2 r.ls X + r.ls.getD a 0 + J2 r.ls Y:=by rw [<- h.sizeB,d,Ji,Jn];lia
 have u:posR r.ls r.bot a=J2 r.ls X:=by rw [d,Ju _ _ z]
 have C:posR r.ls r.top a=J2 r.ls T:=by rw [f,Ju _ _ H]
 have M:J2 ((Stp.overs a t).behind r).ls X=J2 r.ls X:=Jk _ _ z;have up:∀ {y o:Int} {j:Nat},Jo ((Stp.overs a t).behind r) y j o->Jo r y j o:=fun {y o j} A=>by
  obtain ⟨I,A2,Q,P⟩:=A;rw [lt] at I P;refine ⟨by rw [f];exact I,A2,?_,?_⟩
  ·by_cases b:j=a
   ·subst b;rw [l] at Q;lia
   ·rw [<- G j b];exact Q
  ·rw [P,f]
   congr 1
   exact J2a _ _ H I
 refine ⟨fun y j o A E=>?_,fun y j o A E=>?_⟩
 ·have v:j ∉ Y:=fun q=>E (by show j∈J4 r.bot a;rw [w];exact q);have g:=J2g okl A;have s:=up A;refine ⟨⟨o,s⟩,?_⟩;rw [J2g h s,g,L];by_cases b:j=a
  ·subst b;rw [u,Ju _ _ z,M];unfold offT;rw [show ((Stp.overs j t).behind r).ts=r.ts from rfl,K,if_neg (by decide),if_neg (by decide)]
  ·have F:offT ((Stp.overs a t).behind r) j o=offT r j o:=by unfold offT;rw [G j b];rfl
   have jB:j∈X ++ a :: Y:=by rw [<- d];exact h.perm.mem_iff.mpr s.1
   have c:j∈X:=by simpa [v,b] using jB
   rw [d,F,Jy _ _ c,Jy _ _ c]
   congr 1
   exact (J10 _ _ z _).symm
 ·have v:j∈Y:=by
   have:j∈J4 r.bot a:=E;rw [w] at this;exact this
  have b:j≠a:=fun e=>O (e ▸ v);have N:j ∉ X:=fun q=>XY j q v;have g:=J2g okl A;have s:=up A;have g':=J2g h s;have of:=s.off;have p0:=J8j (ls:=r.ls) (row:=Y) (fun i hi=>by have:=h.rowB.pos i (by rw [d];simp [hi]);lia) j;have p1:=J5u (ls:=r.ls) (row:=Y) (fun i hi=>by have:=h.rowB.pos i (by rw [d];simp [hi]);lia) v;have eg:go r y=J2 r.ls X + r.ls.getD a 0 + posR r.ls Y j + offT r j o:=by rw [g',d,Jz _ _ N,Js _ (Ne.symm b)];lia
  show (∃ S,Jo r y j S)/\(∀ k:Int,0<=k->k < t->_)/\_;rw [w];refine ⟨⟨o,s⟩,fun k k0 k1=>?_,?_⟩
  ·have m1:k * J2 r.ls Y + J2 r.ls Y<=t * J2 r.ls Y:=by
    have:=Int.mul_le_mul_of_nonneg_right (show k + 1<=t by lia) (show 0<=J2 r.ls Y by lia);rw [Int.add_mul,Int.one_mul] at this;exact this
   have m0:0<=k * J2 r.ls Y:=Int.mul_nonneg k0 (by lia);have m:Jo r (go r y - k * J2 r.ls Y) a (go r y - k * J2 r.ls Y - J2 r.ls T):=⟨p,by lia,by lia,by rw [C];lia⟩;refine ⟨by rw [B];lia,⟨_,m⟩,?_⟩;rw [J2g h m,u];unfold offT;rw [K,if_neg (by decide)];lia
  ·rw [g,L,Jz _ _ N,Js _ (Ne.symm b),M,l];have F:offT ((Stp.overs a t).behind r) j o=offT r j o:=by unfold offT;rw [G j b];rfl
   rw [F,show posR ((Stp.overs a t).behind r).ls Y j=posR r.ls Y j from J10 _ _ O _,eg];lia
theorem Jgs(h:r.Ok)(ne:r.top≠[])(n:J2b r (.unders a t))(okl:((Stp.unders a t).behind r).Ok):J56 r (.unders a t):=by
 obtain ⟨n1,n2,Q,n4,P,Z⟩:=n;have L:r.bot≠[]:=fun e=>ne (by have:=h.perm;rw [e] at this;exact this.symm.eq_nil);obtain ⟨B,p⟩:=J1e L;have p:r.bot=B ++ [a]:=by rw [n1];exact p
 have F:a∈r.bot:=by rw [p];simp
 have u:=h.perm.mem_iff.mp F;obtain ⟨X,Y,f,E⟩:=J65 u;have N:=J1v (p ▸ h.rowB.nd);have M:(X ++ a :: Y).Nodup:=f ▸ h.row.nd;obtain ⟨_,U,XY⟩:=J7e M;have D:J4 r.top a=Y:=by rw [f];exact J4f E
 rw [D] at P Z;have la:=h.row.lt a u;have lt:((Stp.unders a t).behind r).top=X ++ a :: Y:=f;have R:((Stp.unders a t).behind r).bot=B ++ [a]:=p;have H:∀ j,j≠a->((Stp.unders a t).behind r).ls.getD j 0=r.ls.getD j 0:=fun j b=>by show (r.ls.set a _).getD j 0=_;rw [Jx _ _ _ _ la,if_neg b]
 have s:((Stp.unders a t).behind r).ls.getD a 0=r.ls.getD a 0 - t * J2 r.ls Y:=by show (r.ls.set a (_ - t * J2 r.ls (J4 r.top a))).getD a 0=_;rw [Jx _ _ _ _ la,if_pos rfl,D]
 have tS:1<=t * J2 r.ls Y:=by
  have:=Int.mul_le_mul n4 P (by decide) (by lia);lia
 have sz:r.size=J2 r.ls B + r.ls.getD a 0:=by rw [<- h.sizeB,p,Ji,J11]
 have J:((Stp.unders a t).behind r).size=J2 r.ls B + r.ls.getD a 0 - t * J2 r.ls Y:=by
  rw [<- okl.sizeB,R,Ji,J11,s,show J2 ((Stp.unders a t).behind r).ls B=J2 r.ls B from Jk _ _ N];lia
 have W:r.size=J2 r.ls X + r.ls.getD a 0 + J2 r.ls Y:=by show J2 r.ls r.top=_;rw [f,Ji,Jn];lia
 have z:posR r.ls r.top a=J2 r.ls X:=by rw [f,Ju _ _ E]
 have K:posR r.ls r.bot a=J2 r.ls B:=by rw [p,Ju _ _ N]
 have S:J2 ((Stp.unders a t).behind r).ls X=J2 r.ls X:=Jk _ _ E;have O:∀ {j},j∈r.top->posR ((Stp.unders a t).behind r).ls ((Stp.unders a t).behind r).bot j=posR r.ls r.bot j:=fun {j} l=>by
  have l:=h.perm.mem_iff.mpr l;rw [R];rw [p] at l ⊢;exact J2a _ _ N l
 refine ⟨fun y j o A l=>?_,fun y j o A l=>?_⟩
 ·have C:j ∉ Y:=fun q=>l (by show j∈J4 r.top a;rw [D];exact q);have g:=J2g okl A;obtain ⟨d,I,w,v⟩:=A;have d:j∈r.top:=d;rw [O d] at g;rw [lt] at v;have jT:j∈X ++ a :: Y:=by rw [<- f];exact d
  by_cases b:j=a
  ·subst b;rw [s] at w;rw [Ju _ _ E,S] at v;have G:Jo r y j o:=⟨d,I,by lia,by rw [z];exact v⟩;refine ⟨⟨o,G⟩,?_⟩;rw [J2g h G,g];unfold offT;rw [show ((Stp.unders j t).behind r).ts=r.ts from rfl,Q,if_neg (by decide),if_neg (by decide)]
  ·have eo:offT ((Stp.unders a t).behind r) j o=offT r j o:=by unfold offT;rw [H j b];rfl
   have c:j∈X:=by simpa [C,b] using jT
   rw [H j b] at w;rw [Jy _ _ c,show posR ((Stp.unders a t).behind r).ls X j=posR r.ls X j from J10 _ _ E _] at v;have G:Jo r y j o:=⟨d,I,w,by rw [f,Jy _ _ c];exact v⟩;refine ⟨⟨o,G⟩,?_⟩;rw [J2g h G,g,eo]
 ·have C:j∈Y:=by
   have:j∈J4 r.top a:=l;rw [D] at this;exact this
  have b:j≠a:=fun e=>U (e ▸ C);have T:j ∉ X:=fun q=>XY j q C;have g:=J2g okl A;obtain ⟨d,I,w,v⟩:=A;have d:j∈r.top:=d;rw [O d] at g;rw [lt,Jz _ _ T,Js _ (Ne.symm b),S,s,show posR ((Stp.unders a t).behind r).ls Y j=posR r.ls Y j from J10 _ _ U _] at v;rw [H j b] at w;have p0:=J8j (ls:=r.ls) (row:=Y) (fun i hi=>by have:=h.row.pos i (by rw [f];simp [hi]);lia) j;have p1:=J5u (ls:=r.ls) (row:=Y) (fun i hi=>by have:=h.row.pos i (by rw [f];simp [hi]);lia) C;show (∀ k:Int,0<=k->k < t->_)/\_;rw [D];have fin:Jo r (y + t * J2 r.ls Y) j o:=⟨d,I,w,by rw [f,Jz _ _ T,Js _ (Ne.symm b)];lia⟩;refine ⟨fun k k0 k1=>?_,⟨_,fin⟩,?_⟩
  ·have m1:k * J2 r.ls Y + J2 r.ls Y<=t * J2 r.ls Y:=by
    have:=Int.mul_le_mul_of_nonneg_right (show k + 1<=t by lia) (show 0<=J2 r.ls Y by lia);rw [Int.add_mul,Int.one_mul] at this;exact this
   have m0:0<=k * J2 r.ls Y:=Int.mul_nonneg k0 (by lia);have m:Jo r (y + k * J2 r.ls Y) a (y + k * J2 r.ls Y - J2 r.ls X):=⟨u,by lia,by lia,by rw [z];lia⟩;refine ⟨⟨_,m⟩,?_,by rw [J];lia⟩;rw [J2g h m,K];unfold offT;rw [Q,if_neg (by decide)];lia
  ·rw [J2g h fin,g];unfold offT;rw [H j b];rfl
theorem Jpp(h:r.Ok)(ne:r.top≠[])(n:J2b r s)(okl:(s.behind r).Ok):J56 r s:=by
 cases s with
 | home a=>exact Jn3 h ne n okl
 | even a b=>exact Jn4 h ne n okl
 | over a b=>exact Jn2 h ne n okl
 | under a b=>exact Jix h ne n okl
 | overs a t=>exact Jiy h ne n okl
 | unders a t=>exact Jgs h ne n okl
noncomputable def itN(f:Int->Int):Nat->Int->Int
 | 0,y=>y
 | n + 1,y=>f (itN f n y)
theorem J83(f:Int->Int)(n:Nat)(y:Int):itN f (n + 1) y=f (itN f n y):=rfl
theorem J1a(f:Int->Int)(n:Nat):∀ (m:Nat) (y:Int),itN f (n + m) y=itN f m (itN f n y)
 | 0,_=>rfl
 | m + 1,y=>by show f (itN f (n + m) y)=f (itN f m (itN f n y));rw [J1a f n m y]
theorem Jkr(f:Int->Int)(n:Nat)(y:Int):itN f (n + 1) y=itN f n (f y):=by rw [Nat.add_comm,J1a];rfl
structure J1k(f:Int->Int)(lo:Int)(n:Nat)(y z:Int):Prop where
 pos:0 < n
 last:itN f n y=z
 mid:∀ i,0 < i->i < n->lo<=itN f i y
theorem J1k.one(e:f y=z):J1k f lo 1 y z:=⟨by decide,e,fun i b a=>by lia⟩
theorem J1k.trans(a:J1k f lo n y z)(c:lo<=z)(b:J1k f lo m z z'):J1k f lo (n + m) y z':=by
 refine ⟨by have:=a.pos;lia,?_,fun i d e=>?_⟩
 ·rw [J1a,a.last,b.last]
 ·rcases Nat.lt_trichotomy i n with q | q | q
  ·exact a.mid i d q
  ·rw [q,a.last];exact c
  ·obtain ⟨k,rfl⟩:∃ k,i=n + k:=⟨i - n,by lia⟩;rw [J1a,a.last];exact b.mid k (by lia) (by lia)
theorem J1k.low(a:J1k f lo n y z)(h:lo'<=lo):J1k f lo' n y z:=⟨a.pos,a.last,fun i c b=>by have:=a.mid i c b;lia⟩
noncomputable def retN(r:Rst)(s:Stp)(j:Nat):Nat:=if j∈s.losers r then 1 + s.times.toNat else 1
theorem J2z(n:J2b r s):1<=s.times:=by
 cases s with
 | overs a t=>exact n.2.2.2.1
 | unders a t=>exact n.2.2.2.1
 | home a=>exact Int.le_refl _
 | even a b=>exact Int.le_refl _
 | over a b=>exact Int.le_refl _
 | under a b=>exact Int.le_refl _
theorem Jal{f:Int->Int}{lo m S t:Int}(h:∀ k:Int,0<=k->k < t->lo<=m - k * S/\f (m - k * S)=m - k * S - S):∀ n:Nat,(n:Int) < t->J1k f lo (n + 1) m (m - ((n:Int) + 1) * S)
 | 0,h0=>by
  have:=(h 0 (by lia) (by lia)).2;refine J1k.one ?_;rw [Int.zero_mul,Int.sub_zero] at this;rw [this];show m - S=m - (0 + 1) * S;rw [Int.zero_add,Int.one_mul]
 | n + 1,h0=>by
  have a:=Jal h n (by lia);have q:=h ((n:Int) + 1) (by lia) (by lia);refine a.trans q.1 (J1k.one ?_);rw [q.2];rw [show (((n + 1:Nat):Int) + 1)=((n:Int) + 1) + 1 by lia,Int.add_mul ((n:Int) + 1) 1 S,Int.one_mul];lia
theorem Jes{f:Int->Int}{lo y S t:Int}(h:∀ k:Int,0<=k->k < t->f (y + k * S)=y + k * S + S/\lo<=y + k * S + S):∀ n:Nat,(n:Int) < t->J1k f lo (n + 1) y (y + ((n:Int) + 1) * S)
 | 0,h0=>by
  have:=(h 0 (by lia) (by lia)).1;refine J1k.one ?_;rw [Int.zero_mul,Int.add_zero] at this;rw [this];show y + S=y + (0 + 1) * S;rw [Int.zero_add,Int.one_mul]
 | n + 1,h0=>by
  have a:=Jes h n (by lia);have p:=h (n:Int) (by lia) (by lia);have q:=h ((n:Int) + 1) (by lia) (by lia);have e:y + ((n:Int) + 1) * S=y + (n:Int) * S + S:=by rw [Int.add_mul,Int.one_mul];lia
  refine a.trans (by rw [e];exact p.2) (J1k.one ?_);rw [q.1];rw [show (((n + 1:Nat):Int) + 1)=((n:Int) + 1) + 1 by lia,Int.add_mul ((n:Int) + 1) 1 S,Int.one_mul];lia
theorem J56.first{r:Rst}{s:Stp}(n:J2b r s)(R:J56 r s){y o:Int}{j:Nat}(A:Jo (s.behind r) y j o):J1k (go r) (s.behind r).size (retN r s j) y (go (s.behind r) y):=by
 unfold retN;have g:=J2z n;by_cases c:j∈s.losers r
 ·rw [if_pos c];have L:=R.lose y j o A c
  cases s with
  | home a=>exact L.elim
  | even a b=>exact (J1k.one rfl).trans L.2.1 (J1k.one L.2.2.2)
  | over a b=>exact (J1k.one rfl).trans L.2.1 (J1k.one L.2.2.2)
  | under a b=>exact (J1k.one rfl).trans L.2.1 (J1k.one L.2.2.2)
  | overs a t =>
   obtain ⟨_,v,u⟩:=L;have g:1<=t:=g;have q:=v 0 (by lia) (by lia);rw [Int.zero_mul,Int.sub_zero] at q;obtain ⟨m,l⟩:∃ m:Nat,t=(m:Int) + 1:=⟨(t - 1).toNat,by lia⟩;have d:=Jal (f:=go r) (lo:=((Stp.overs a t).behind r).size) (m:=go r y) (S:=J2 r.ls (J4 r.bot a)) (t:=t) (fun k i h=>⟨(v k i h).1,(v k i h).2.2⟩) m (by lia);rw [<- l,u] at d;have e:1 + (Stp.overs a t).times.toNat=1 + (m + 1):=by show 1 + t.toNat=_;lia
   rw [e];exact (J1k.one rfl).trans q.1 d
  | unders a t =>
   obtain ⟨w,_,u⟩:=L;have g:1<=t:=g;obtain ⟨m,l⟩:∃ m:Nat,t=(m:Int) + 1:=⟨(t - 1).toNat,by lia⟩;have d:=Jes (f:=go r) (lo:=((Stp.unders a t).behind r).size) (y:=y) (S:=J2 r.ls (J4 r.top a)) (t:=t) (fun k i h=>(w k i h).2) m (by lia);have p:=(w (m:Int) (by lia) (by lia)).2.2;have e:1 + (Stp.unders a t).times.toNat=(m + 1) + 1:=by show 1 + t.toNat=_;lia
   rw [e];rw [<- l] at d;refine d.trans ?_ (J1k.one u);have z:t * J2 r.ls (J4 r.top a)=(m:Int) * J2 r.ls (J4 r.top a) + J2 r.ls (J4 r.top a):=by rw [l,Int.add_mul,Int.one_mul]
   rw [z];lia
 ·rw [if_neg c];exact J1k.one (R.plain y j o A c).2
theorem J5k{N:Nat->Nat}(d:lo<=r.size)(F:∀ y j o,Jo r y j o->J1k f r.size (N j) y (go r y))(h:∀ k ,0<=k->k < t->lo<=m - k * S/\(∃ i,Jo r (m - k * S) w i)/\go r (m - k * S)=m - k * S - S):∀ n:Nat,(n:Int) < t->J1k f lo ((n + 1) * N w) m (m - ((n:Int) + 1) * S)
 | 0,h0=>by
  obtain ⟨l,⟨i,g⟩,e⟩:=h 0 (by lia) (by lia);have a:=(F _ _ _ g).low d;rw [e] at a;rw [Int.zero_mul,Int.sub_zero] at a;rw [ Nat.one_mul];show J1k f lo (N w) m (m - (0 + 1) * S);rw [Int.zero_add,Int.one_mul];exact a
 | n + 1,h0=>by
  have a:=J5k d F h n (by lia);obtain ⟨l,⟨i,g⟩,e⟩:=h ((n:Int) + 1) (by lia) (by lia);have b:=(F _ _ _ g).low d;rw [e] at b;have c:=a.trans l b;have q:(n + 1) * N w + N w=(n + 1 + 1) * N w:=by rw [Nat.add_mul (n + 1) 1,Nat.one_mul]
  rw [q] at c;have p:m - ((n:Int) + 1) * S - S=m - (((n + 1:Nat):Int) + 1) * S:=by
   grind
  rw [p] at c;exact c
theorem J88{lo t:Int}{N:Nat->Nat}(d:lo<=r.size)(F:∀ y j o,Jo r y j o->J1k f r.size (N j) y (go r y))(h:∀ k ,0<=k->k < t->(∃ l,Jo r (y + k * S) w l)/\go r (y + k * S)=y + k * S + S/\lo<=y + k * S + S):∀ n:Nat,(n:Int) < t->J1k f lo ((n + 1) * N w) y (y + ((n:Int) + 1) * S)
 | 0,h0=>by
  obtain ⟨⟨l,i⟩,g,m⟩:=h 0 (by lia) (by lia);have a:=(F _ _ _ i).low d;rw [g] at a;rw [Int.zero_mul,Int.add_zero] at a;rw [ Nat.one_mul];show J1k f lo (N w) y (y + (0 + 1) * S);rw [Int.zero_add,Int.one_mul];exact a
 | n + 1,h0=>by
  have a:=J88 d F h n (by lia);obtain ⟨_,u,p⟩:=h (n:Int) (by lia) (by lia);obtain ⟨⟨l,i⟩,g,m⟩:=h ((n:Int) + 1) (by lia) (by lia);have b:=(F _ _ _ i).low d;rw [g] at b;have e:y + ((n:Int) + 1) * S=y + (n:Int) * S + S:=by rw [Int.add_mul,Int.one_mul];lia
  have c:=a.trans (by rw [e];exact p) b;have s:(n + 1) * N w + N w=(n + 1 + 1) * N w:=by rw [Nat.add_mul (n + 1) 1,Nat.one_mul]
  rw [s] at c;have q:y + ((n:Int) + 1) * S + S=y + (((n + 1:Nat):Int) + 1) * S:=by
   grind
  rw [q] at c;exact c
noncomputable def sumT(r:Rst)(s:Stp)(N:Nat->Nat)(j:Nat):Nat:=if j∈s.losers r then N j + s.times.toNat * N s.winner else N j
theorem J56.tower(n:J2b r s)(R:J56 r s)(h:(s.behind r).size<=r.size)(F:∀ y j o,Jo r y j o->J1k f r.size (N j) y (go r y))(A:Jo (s.behind r) y j o):
  J1k f (s.behind r).size (sumT r s N j) y (go (s.behind r) y):=by
 unfold sumT;have u:=J2z n;by_cases c:j∈s.losers r
 ·rw [if_pos c];have L:=R.lose y j o A c;have two:∀ {a b:Nat} {o1 C:Int},Jo r y a o1->Jo r (go r y) b C->(s.behind r).size<=go r y->go r (go r y)=go (s.behind r) y->J1k f (s.behind r).size (N a + N b) y (go (s.behind r) y):=fun {a b o1 C} J I H G=>by
   have x:=(F _ _ _ J).low h;have z:=(F _ _ _ I).low h;rw [G] at z;exact x.trans H z
  cases s with
  | home a=>exact L.elim
  | even a b =>
   obtain ⟨⟨_,l1⟩,g,⟨_,l⟩,i⟩:=L;have:=two l1 l g i;show J1k f _ (N j + 1 * N a) _ _;rw [Nat.one_mul];exact this
  | over a b =>
   obtain ⟨⟨_,l1⟩,g,⟨_,l⟩,i⟩:=L;have:=two l1 l g i;show J1k f _ (N j + 1 * N a) _ _;rw [Nat.one_mul];exact this
  | under a b =>
   obtain ⟨⟨_,l1⟩,g,⟨_,l⟩,i⟩:=L;have:=two l1 l g i;show J1k f _ (N j + 1 * N a) _ _;rw [Nat.one_mul,Nat.add_comm];exact this
  | overs a t =>
   obtain ⟨⟨_,l1⟩,D,B⟩:=L;have u:1<=t:=u;obtain ⟨m,v⟩:∃ m:Nat,t=(m:Int) + 1:=⟨(t - 1).toNat,by lia⟩;have d:=J5k (S:=J2 r.ls (J4 r.bot a)) (w:=a) h F D m (by lia);rw [<- v,B] at d;have q:=D 0 (by lia) (by lia);rw [Int.zero_mul,Int.sub_zero] at q;have e:(Stp.overs a t).times.toNat=m + 1:=by show t.toNat=_;lia
   rw [e];exact ((F _ _ _ l1).low h).trans q.1 d
  | unders a t =>
   obtain ⟨E,⟨_,g⟩,B⟩:=L;have u:1<=t:=u;obtain ⟨m,v⟩:∃ m:Nat,t=(m:Int) + 1:=⟨(t - 1).toNat,by lia⟩;have d:=J88 (S:=J2 r.ls (J4 r.top a)) (w:=a) h F E m (by lia);rw [<- v] at d;have p:=(E (m:Int) (by lia) (by lia)).2.2;have z:=(F _ _ _ g).low h;rw [B] at z;have e:N j + (Stp.unders a t).times.toNat * N (Stp.unders a t).winner=(m + 1) * N a + N j:=by
    show N j + t.toNat * N a=_;rw [show t.toNat=m + 1 by lia];lia
   rw [e];refine d.trans ?_ z;have O:t * J2 r.ls (J4 r.top a)=(m:Int) * J2 r.ls (J4 r.top a) + J2 r.ls (J4 r.top a):=by rw [v,Int.add_mul,Int.one_mul]
   lia
 ·rw [if_neg c];obtain ⟨⟨_,M⟩,K⟩:=R.plain y j o A c;rw [<- K];exact (F _ _ _ M).low h
theorem Cok.tower(h:Cok p)(one:∀ j∈p.1.top,p.2.getD j 0=1):∀ {k:Nat},Long p k->∀ y j o,Jo (chN p k).1 y j o->J1k (go p.1) (chN p k).1.size ((chN p k).2.getD j 0).toNat y (go (chN p k).1 y)
 | 0,_,y,j,o,A=>by
  show J1k (go p.1) p.1.size (p.2.getD j 0).toNat y (go p.1 y);rw [one j A.1];exact J1k.one rfl
 | k + 1,l,y,j,o,A=>by
  have f:Long p k:=fun i hi=>l i (by lia);have ne:=l k (by lia);have c:=h.at_ f;have np:=J5m c.ok ne;have okl:=c.ok.next ne;have R:=Jpp c.ok ne np okl;have F:=Cok.tower h one f;have b:=A;have d:=c.ok.down ne;have t:=R.tower (N:=fun j=>((chN p k).2.getD j 0).toNat) np (Int.le_of_lt d.less) F b;have e:sumT (chN p k).1 (nextN (chN p k).1) (fun j=>((chN p k).2.getD j 0).toNat) j=((chN p (k + 1)).2.getD j 0).toNat:=by
   have g:=J7c c.ok ne c.tow.len b.1;have a:(chN p (k + 1)).2.getD j 0=(chN p k).2.getD j 0 + (if j∈(nextN (chN p k).1).losers (chN p k).1 then (chN p k).2.getD (nextN (chN p k).1).winner 0 * (nextN (chN p k).1).times else 0):=g;have w:=np.win c.ok ne;have n:=c.tow.pos _ w;have q:=c.tow.pos j (d.sub j b.1);have m:=J2z np;rw [a];unfold sumT;dsimp only;split
   ·grind
   ·lia
  rw [e] at t;exact t
theorem Jkv(h:r.Ok)(ne:r.top≠[])(n:J2b r (.home a)):((Stp.home a).behind r).size + r.ls.getD a 0=r.size/\∀ y,((Stp.home a).behind r).size<=y->y < r.size->
  Jo r y a (y - ((Stp.home a).behind r).size)/\go r y=if r.ts.getD a false=true then ((Stp.home a).behind r).size + r.size - 1 - y else y:=by
 obtain ⟨m,l⟩:=n;have d:r.bot≠[]:=fun e=>ne (by have:=h.perm;rw [e] at this;exact this.symm.eq_nil);obtain ⟨T,b⟩:=J1e ne;obtain ⟨B,c⟩:=J1e d;have b:r.top=T ++ [a]:=by rw [m];exact b
 have c:r.bot=B ++ [a]:=by rw [l];exact c
 have f:=J1v (b ▸ h.row.nd);have o:=J1v (c ▸ h.rowB.nd);have g:a∈r.top:=by rw [b];simp
 have lt:((Stp.home a).behind r).top=T:=by show withoutR r.top a=T;rw [b,J1p,J1x,append_nil,J1o f]
 have sz:r.size=J2 r.ls T + r.ls.getD a 0:=by show J2 r.ls r.top=_;rw [b,Ji,J11]
 have j:r.size=J2 r.ls B + r.ls.getD a 0:=by rw [<- h.sizeB,c,Ji,J11]
 have i:((Stp.home a).behind r).size=J2 r.ls T:=by show J2 (r.ls.set a 0) ((Stp.home a).behind r).top=_;rw [lt,Jk _ _ f]
 refine ⟨by lia,fun y q p=>?_⟩;have A:Jo r y a (y - ((Stp.home a).behind r).size):=⟨g,by lia,by lia,by rw [b,Ju _ _ f];lia⟩;refine ⟨A,?_⟩;rw [J2g h A,c,Ju _ _ o];unfold offT;split <;> lia
noncomputable abbrev bz0:Band:=(0,0,0,false)
noncomputable def J5n(b:Band)(o:Int):Int:=if b.2.2.2=true then b.2.1 - 1 - o else o
noncomputable def Bnd(f:Int->Int)(b:Band):Prop:=1<=b.2.1/\1<=b.2.2.1/\∀ o,0<=o->o < b.2.1->J1k f (b.1 + b.2.1) b.2.2.1.toNat (b.1 + o) (b.1 + J5n b o)
theorem J6p(c:0<=o)(a:o < b.2.1):0<=J5n b o/\J5n b o < b.2.1:=by unfold J5n;split <;> lia
theorem J97(b:Band)(o:Int):J5n b (J5n b o)=o:=by unfold J5n;grind
structure Sys(f:Int->Int)(N:Int)(bs:List Band):Prop where
 inn:∀ y,0<=y->y < N->0<=f y/\f y < N
 inj:∀ y z,0<=y->y < N->0<=z->z < N->f y=f z->y=z
 bnd:∀ b∈bs,Bnd f b
 lo:∀ b∈bs,0<=b.1/\b.1 + b.2.1<=N
 ord:bs.Pairwise fun b c=>c.1 + c.2.1<=b.1
 sum:(bs.map fun b=>b.2.1 * b.2.2.1).sum=N
theorem Sys.itin(S:Sys f N bs)(b:0<=y)(a:y < N):∀ n,0<=itN f n y/\itN f n y < N
 | 0=>⟨b,a⟩
 | n + 1=>by have:=S.itin b a n;exact S.inn _ this.1 this.2
theorem Sys.itinj(S:Sys f N bs)(h:0<=y)(g:y < N)(d:0<=z)(c:z < N):∀ n,itN f n y=itN f n z->y=z
 | 0,e=>e
 | n + 1,e=>by
  have a:=S.itin h g n;have b:=S.itin d c n;exact S.itinj h g d c n (S.inj _ _ a.1 a.2 b.1 b.2 e)
theorem Bnd.stays(B:Bnd f b):∀ (n:Nat) (o:Int),0<=o->o < b.2.1->b.1<=itN f n (b.1 + o):=by
 obtain ⟨e,g,F⟩:=B;intro n
 induction n using Nat.strongRecOn with
 | _ n ih =>
  intro o o0 o1;have a:=F o o0 o1;by_cases d:n=0
  ·subst d;show b.1<=b.1 + o;lia
  by_cases c:n < b.2.2.1.toNat
  ·have:=a.mid n (by lia) c;lia
  ·obtain ⟨k,rfl⟩:∃ k,n=b.2.2.1.toNat + k:=⟨n - b.2.2.1.toNat,by lia⟩;rw [J1a,a.last];have fi:=J6p o0 o1;exact ih k (by lia) _ fi.1 fi.2
theorem Bnd.back(B:Bnd f b)(c:0<=o)(a:o < b.2.1):itN f b.2.2.1.toNat (b.1 + o)=b.1 + J5n b o:=(B.2.2 o c a).last
theorem Bnd.high(B:Bnd f b)(c:0<=o)(a:o < b.2.1){l:Nat}(l0:0 < l)(l1:(l:Int) < b.2.2.1):b.1 + b.2.1<=itN f l (b.1 + o):=(B.2.2 o c a).mid l l0 (by lia)
theorem Sys.meet(S:Sys f N bs)(hb:b∈bs)(n:c∈bs)(p:b=c\/c.1 + c.2.1<=b.1\/b.1 + b.2.1<=c.1)(o0:0<=o)(o1:o < b.2.1)(i:0<=o')(h:o' < c.2.1){l a:Nat}(B:(l:Int) < b.2.2.1)(s:(a:Int) < c.2.2.1)(le:l<=a)(e:itN f l (b.1 + o)=itN f a (c.1 + o')):b=c/\o=o'/\l=a:=by
 have w:=S.bnd b hb;have r:=S.bnd c n;have A:=S.lo b hb;have z:=S.lo c n;obtain ⟨d,rfl⟩:∃ d,a=d + l:=⟨a - l,by lia⟩;rw [J1a] at e;have g:=S.itin (y:=c.1 + o') (by lia) (by lia) d;have m:=S.itinj (by lia) (by lia) g.1 g.2 l e;by_cases v:d=0
 ·subst v;have m:b.1 + o=c.1 + o':=m;rcases p with rfl | q | q
  ·exact ⟨rfl,by lia,by lia⟩
  ·lia
  ·lia
 ·have hi:=r.high i h (l:=d) (by lia) (by lia);rcases p with rfl | q | q
  ·lia
  ·have j:=r.back i h;have fi:=J6p i h;obtain ⟨k,u⟩:∃ k,c.2.2.1.toNat=d + k:=⟨c.2.2.1.toNat - d,by lia⟩;rw [u,J1a,<- m] at j;have:=w.stays k o o0 o1;lia
  ·lia
theorem J5q{bs:List Band}(h:b < bs.length):bs.getD b bz0∈bs:=by
 simp_all
structure Adr(bs:List Band)(b:Nat)(o lv:Int):Prop where
 hb:b < bs.length
 o0:0<=o
 o1:o < (bs.getD b bz0).2.1
 l0:0<=lv
 l1:lv < (bs.getD b bz0).2.2.1
noncomputable def plOf(f:Int->Int)(bs:List Band)(b:Nat)(o a:Int):Int:=itN f a.toNat ((bs.getD b bz0).1 + o)
theorem Sys.apart(S:Sys f N bs)(hb:b < bs.length)(a:c < bs.length)(h:b < c):(bs.getD c bz0).1 + (bs.getD c bz0).2.1<=(bs.getD b bz0).1:=by
 have:=(List.pairwise_iff_getElem.mp S.ord) b c hb a h;have e:bs.getD b bz0=bs[b]:=by simp_all
 have d:bs.getD c bz0=bs[c]:=by simp_all
 rw [e,d];exact this
theorem Sys.pl_in(S:Sys f N bs)(A:Adr bs b o lv):0<=plOf f bs b o lv/\plOf f bs b o lv < N:=by
 have l:=S.lo _ (J5q A.hb);have:=A.o0;have:=A.o1;exact S.itin (by lia) (by lia) _
noncomputable def J6c(f:Int->Int)(b:Band)(o:Nat):List Int:=(List.range b.2.2.1.toNat).map fun l=>itN f l (b.1 + (o:Int))
noncomputable def J54(f:Int->Int)(b:Band):List Int:=(List.range b.2.1.toNat).flatMap (J6c f b)
noncomputable def J62(f:Int->Int)(bs:List Band):List Int:=bs.flatMap (J54 f)
theorem J4w :x∈J6c f b o↔∃ l:Nat,(l:Int) < b.2.2.1/\x=itN f l (b.1 + (o:Int)):=by
 unfold J6c
 grind
theorem J5f :x∈J54 f b↔∃ o l:Nat,(o:Int) < b.2.1/\(l:Int) < b.2.2.1/\x=itN f l (b.1 + (o:Int)):=by
 unfold J54;rw [mem_flatMap];constructor
 ·rintro ⟨o,c,d⟩;obtain ⟨l,a,rfl⟩:=J4w.mp d;exact ⟨o,l,by have:=mem_range.mp c;lia,a,rfl⟩
 ·rintro ⟨o,l,c,a,rfl⟩;exact ⟨o,mem_range.mpr (by lia),J4w.mpr ⟨l,a,rfl⟩⟩
theorem Sys.eq_of(S:Sys f N bs)(hb:b∈bs)(j:c∈bs)(m:b=c\/c.1 + c.2.1<=b.1\/b.1 + b.2.1<=c.1){o g l d:Nat}(o1:(o:Int) < b.2.1)(h:(g:Int) < c.2.1)(i:(l:Int) < b.2.2.1)(a:(d:Int) < c.2.2.1)(e:itN f l (b.1 + (o:Int))=itN f d (c.1 + (g:Int))):b=c/\o=g/\l=d:=by
 by_cases le:l<=d
 ·obtain ⟨r,p,n⟩:=S.meet hb j m (by lia) o1 (by lia) h i a le e
  grind
 ·obtain ⟨r,p,n⟩:=S.meet j hb (m.elim (fun q=>.inl q.symm) fun q=>.inr q.symm) (by lia) h (by lia) o1 a i (by lia) e.symm
  grind
theorem Sys.nodup(S:Sys f N bs):(J62 f bs).Nodup:=by
 unfold J62;refine List.pairwise_flatMap.mpr ⟨fun b hb=>?_,S.ord.imp_of_mem fun {b c} hb n q x j y i e=>?_⟩
 ·unfold J54;refine List.pairwise_flatMap.mpr ⟨fun o g=>?_,pairwise_lt_range.imp_of_mem fun {o p} g d q x j y i e=>?_⟩
  ·unfold J6c;rw [pairwise_map];have o1:=mem_range.mp g;refine pairwise_lt_range.imp_of_mem fun {l m} h a q e=>?_;have:=(S.eq_of hb hb (.inl rfl) (by lia) (by lia) (by have:=mem_range.mp h;lia) (by have:=mem_range.mp a;lia) e).2.2;lia
  ·obtain ⟨l,h,rfl⟩:=J4w.mp j;obtain ⟨m,a,rfl⟩:=J4w.mp i;have:=(S.eq_of hb hb (.inl rfl) (by have:=mem_range.mp g;lia) (by have:=mem_range.mp d;lia) h a e).2.1;lia
 ·obtain ⟨o,l,g,h,rfl⟩:=J5f.mp j;obtain ⟨p,m,d,a,rfl⟩:=J5f.mp i;have w:=(S.bnd c n).1;obtain ⟨rfl,_,_⟩:=S.eq_of hb n (.inr (.inl q)) g d h a e;lia
theorem Jh7(c:0<=b.2.1)(a:0<=b.2.2.1):((J54 f b).length:Int)=b.2.1 * b.2.2.1:=by
 have:∀ n ,((List.range n).flatMap (J6c f b)).length=n * b.2.2.1.toNat:=fun n=>by
  induction n with
  | zero=>simp
  | succ n ih =>
   rw [range_succ,flatMap_append,length_append,ih];have:([n].flatMap (J6c f b)).length=b.2.2.1.toNat:=by
    rw [List.flatMap_singleton];unfold J6c;rw [length_map,length_range]
   rw [this,Nat.succ_mul]
 unfold J54
 grind
theorem Jce :∀ {bs:List Band},(∀ b∈bs,Bnd f b)->((J62 f bs).length:Int)=(bs.map fun b=>b.2.1 * b.2.2.1).sum
 | [],_=>rfl
 | b :: bs,h=>by
  have a:=Jce (bs:=bs) fun c d=>h c (mem_cons_of_mem _ d);have B:=h b mem_cons_self;have w:=B.1;have e:=B.2.1;rw [map_cons,sum_cons,<- a,<- Jh7 (f:=f) (b:=b) (by lia) (by lia)];unfold J62
  grind
theorem Sys.len(S:Sys f N bs):((J62 f bs).length:Int)=N:=by rw [Jce S.bnd,S.sum]
theorem J8t :x∈J62 f bs↔∃ b o a,Adr bs b o a/\plOf f bs b o a=x:=by
 unfold J62;rw [mem_flatMap];constructor
 ·rintro ⟨c,i,d⟩;obtain ⟨o,l,g,h,rfl⟩:=J5f.mp d;obtain ⟨b,hb,rfl⟩:=getElem_of_mem i;have e:bs.getD b bz0=bs[b]:=by rw [getD_eq_getElem?_getD,List.getElem?_eq_getElem hb];rfl
  refine ⟨b,o,l,⟨hb,by lia,by rw [e];exact g,by lia,by rw [e];exact h⟩,?_⟩;unfold plOf;rw [e];rfl
 ·rintro ⟨b,o,a,A,rfl⟩;refine ⟨_,J5q A.hb,J5f.mpr ⟨o.toNat,a.toNat,?_,?_,?_⟩⟩
  ·have:=A.o0;have:=A.o1;lia
  ·have:=A.l0;have:=A.l1;lia
  ·have:=A.o0;unfold plOf;rw [show ((o.toNat:Nat):Int)=o by lia]
theorem Sys.all_in(S:Sys f N bs)(h:x∈J62 f bs):0<=x/\x < N:=by
 obtain ⟨b,o,a,A,rfl⟩:=J8t.mp h;exact S.pl_in A
theorem Sys.exists(S:Sys f N bs)(n:0<=x)(m:x < N):∃ b o h,Adr bs b o h/\plOf f bs b o h=x:=by
 refine J8t.mp ?_;apply Classical.byContradiction;intro c;have nd:((x :: J62 f bs).map Int.toNat).Nodup:=by
  refine pairwise_map.mpr ((nodup_cons.mpr ⟨c,S.nodup⟩).imp_of_mem fun {a b} l hb ne e=>?_);have g:∀ {z},z∈x :: J62 f bs->0<=z/\z < N:=fun {z} d=>by
   rcases mem_cons.mp d with rfl | d
   ·exact ⟨n,m⟩
   ·exact S.all_in d
  have:=g l;have:=g hb;exact ne (by lia)
 have lt:∀ j∈(x :: J62 f bs).map Int.toNat,j < N.toNat:=fun j i=>by
  obtain ⟨z,d,rfl⟩:=mem_map.mp i;rcases mem_cons.mp d with rfl | d
  ·lia
  ·have:=S.all_in d;lia
 have le:=J7z N.toNat _ nd lt;have p:=S.len;rw [length_map,length_cons] at le;lia
noncomputable def J2s(p:Cst):Band:=((chS p).1.size,p.1.ls.getD (nextN p.1).winner 0,p.2.getD (nextN p.1).winner 0,p.1.ts.getD (nextN p.1).winner false)
theorem Cok.band(h:Cok p)(one:∀ j∈p.1.top,p.2.getD j 0=1)(l:Long p (k + 1))(r:(nextN (chN p k).1).isHome=true):
  Bnd (go p.1) (J2s (chN p k))/\(J2s (chN p k)).1=(chN p (k + 1)).1.size/\(J2s (chN p k)).1 + (J2s (chN p k)).2.1=(chN p k).1.size:=by
 have n:Long p k:=fun i hi=>l i (by lia);have ne:=l k (by lia);have c:=h.at_ n;have np:=J5m c.ok ne;have tow:=Cok.tower h one n;have w:=np.win c.ok ne;have m:=c.ok.row.pos _ w;have pt:=c.tow.pos _ w;obtain ⟨a,b⟩:∃ a,nextN (chN p k).1=.home a:=by
  generalize nextN (chN p k).1=s at *;cases s <;> first | exact ⟨_,rfl⟩ | cases r
 rw [b] at np;obtain ⟨y,v⟩:=Jkv c.ok ne np;have g:(J2s (chN p k)).1=(chN p (k + 1)).1.size:=rfl;have d:(chN p (k + 1)).1.size=((Stp.home a).behind (chN p k).1).size:=by
  show ((nextN (chN p k).1).behind (chN p k).1).size=_;rw [b]
 have e:(J2s (chN p k)).2.1=(chN p k).1.ls.getD a 0:=by show (chN p k).1.ls.getD (nextN (chN p k).1).winner 0=_;rw [b];rfl
 have q:(J2s (chN p k)).2.2.1=(chN p k).2.getD a 0:=by show (chN p k).2.getD (nextN (chN p k).1).winner 0=_;rw [b];rfl
 have z:(J2s (chN p k)).2.2.2=(chN p k).1.ts.getD a false:=by show (chN p k).1.ts.getD (nextN (chN p k).1).winner false=_;rw [b];rfl
 have f:(nextN (chN p k).1).winner=a:=by rw [b];rfl
 rw [f] at m pt;have sz:(J2s (chN p k)).1 + (J2s (chN p k)).2.1=(chN p k).1.size:=by rw [g,d,e];exact y
 refine ⟨⟨by rw [e];exact m,by rw [q];exact pt,fun o o0 o1=>?_⟩,g,sz⟩;rw [sz];rw [g,d] at *;rw [e] at o1 sz;obtain ⟨A,u⟩:=v (((Stp.home a).behind (chN p k).1).size + o) (by lia) (by lia);have F:=tow _ _ _ A;rw [u] at F;rw [q];have B:(if (chN p k).1.ts.getD a false=true then ((Stp.home a).behind (chN p k).1).size + (chN p k).1.size - 1 - (((Stp.home a).behind (chN p k).1).size + o) else ((Stp.home a).behind (chN p k).1).size + o)=((Stp.home a).behind (chN p k).1).size + J5n (J2s (chN p k)) o:=by
  unfold J5n;rw [z,e];split <;> lia
 rw [B] at F;exact F
theorem J8a :∀ {m:Nat},b∈bndN p m->∃ k,k < m/\(nextN (chN p k).1).isHome=true/\b=J2s (chN p k)
 | 0,h=>by cases h
 | m + 1,h=>by
  rcases mem_append.mp h with h | h
  ·obtain ⟨k,a,q⟩:=J8a h;exact ⟨k,by lia,q⟩
  ·unfold bndB at h;split at h
   ·rename_i hh;exact ⟨m,by lia,hh,mem_singleton.mp h⟩
   ·cases h
theorem Cok.sizes(h:Cok p)(l:Long p m):∀ {i k:Nat},i<=k->k<=m->(chN p k).1.size<=(chN p i).1.size:=fun {i k} a b=>by
 induction k with
 | zero=>rw [Nat.le_zero.mp a];exact Int.le_refl _
 | succ k ih =>
  by_cases e:i=k + 1
  ·rw [e];exact Int.le_refl _
  ·have c:=h.at_ (k:=k) (fun i hi=>l i (by lia));have d:=(c.ok.down (l k (by lia))).less;have d':(chN p (k + 1)).1.size < (chN p k).1.size:=d;lia
theorem Cok.ordB(h:Cok p)(one:∀ j∈p.1.top,p.2.getD j 0=1):∀ {m:Nat},Long p m->(bndN p m).Pairwise fun b c=>c.1 + c.2.1<=b.1
 | 0,_=>List.Pairwise.nil
 | m + 1,l=>by
  have d:Long p m:=fun i hi=>l i (by lia);show (bndN p m ++ bndB (chN p m)).Pairwise _;refine List.pairwise_append.mpr ⟨Cok.ordB h one d,?_,fun b hb c a=>?_⟩
  ·unfold bndB;split
   ·exact List.pairwise_singleton _ _
   ·exact List.Pairwise.nil
  ·obtain ⟨k,f,e,rfl⟩:=J8a hb;unfold bndB at a;split at a
   ·rename_i hm;obtain rfl:=mem_singleton.mp a;obtain ⟨_,n,_⟩:=h.band one (k:=k) (fun i hi=>l i (by lia)) e;obtain ⟨_,_,g⟩:=h.band one (k:=m) l hm;have s:=h.sizes l (i:=k + 1) (k:=m) (by lia) (by lia);show (J2s (chN p m)).1 + (J2s (chN p m)).2.1<=_;lia
   ·cases a
noncomputable def J61(bs:List Band):Int:=(bs.map fun b=>b.2.1 * b.2.2.1).sum
theorem Jeo(xs a:List Band):J61 (xs ++ a)=J61 xs + J61 a:=by unfold J61;rw [map_append,sum_append]
theorem Cok.sumB(h:Cok p):∀ {k:Nat},Long p k->wS (chN p k).1.ls (chN p k).2 (chN p k).1.top + J61 (bndN p k)=wS p.1.ls p.2 p.1.top
 | 0,_=>by show wS p.1.ls p.2 p.1.top + 0=_;lia
 | k + 1,l=>by
  have b:Long p k:=fun i hi=>l i (by lia);have d:=Cok.sumB h b;have c:=h.at_ b;have st:=c.ok.stay (l k (by lia)) c.tow.len;show wS (chS (chN p k)).1.ls (chS (chN p k)).2 (chS (chN p k)).1.top + J61 (bndN p k ++ bndB (chN p k))=_;have a:wS (chS (chN p k)).1.ls (chS (chN p k)).2 (chS (chN p k)).1.top + (if (nextN (chN p k).1).isHome=true then (chN p k).1.ls.getD (nextN (chN p k).1).winner 0 * (chN p k).2.getD (nextN (chN p k).1).winner 0 else 0)=wS (chN p k).1.ls (chN p k).2 (chN p k).1.top:=st;rw [Jeo,<- d,<- a];unfold bndB;by_cases c:(nextN (chN p k).1).isHome=true
  ·rw [if_pos c,if_pos c];show _ + (_ + (((chN p k).1.ls.getD (nextN (chN p k).1).winner 0 * (chN p k).2.getD (nextN (chN p k).1).winner 0) + 0))=_;lia
  ·rw [if_neg c,if_neg c];show _ + (_ + 0)=_;lia
theorem Cok.sys(h:Cok p)(one:∀ j∈p.1.top,p.2.getD j 0=1)(a:wS p.1.ls p.2 p.1.top=p.1.size)(l:Long p m)(e:(chN p m).1.top=[]):Sys (go p.1) p.1.size (bndN p m) where
 inn:=fun y g f=>go_in h.ok g f
 inj:=fun y z g f r o q=>go_inj h.ok g f r o q
 bnd:=fun b hb=>by
  obtain ⟨k,u,d,rfl⟩:=J8a hb;exact (h.band one (fun i hi=>l i (by lia)) d).1
 lo:=fun b hb=>by
  obtain ⟨k,u,d,rfl⟩:=J8a hb;obtain ⟨_,B,A⟩:=h.band one (k:=k) (fun i hi=>l i (by lia)) d;have s:=h.sizes l (i:=0) (k:=k) (by lia) (by lia);have s':(chN p k).1.size<=p.1.size:=s;have c:=h.at_ (k:=k + 1) (fun i hi=>l i (by lia));have w:0<=(chN p (k + 1)).1.size:=J18 fun j v=>by have:=c.ok.row.pos j v;lia
  lia
 ord:=h.ordB one l
 sum:=by
  have:=h.sumB l;rw [e] at this;have n:wS (chN p m).1.ls (chN p m).2 []=0:=rfl;rw [n,a] at this;have t:J61 (bndN p m)=p.1.size:=by lia
  exact t
structure J3x(f:Int->Int)(lo:Int)(n:Nat)(y z:Int):Prop where
 last:itN f n y=z
 mid:∀ i,0 < i->i<=n->lo<=itN f i y
theorem J3x.zero :J3x f lo 0 y y:=⟨rfl,fun i b a=>by lia⟩
theorem J1k.reach(F:J1k f lo n y z)(h:lo<=z):J3x f lo n y z:=⟨F.last,fun i a b=>by
 by_cases c:i < n
 ·exact F.mid i a c
 ·rw [show i=n by lia,F.last];exact h⟩
theorem J3x.trans(a:J3x f lo n y z)(b:J3x f lo m z w):J3x f lo (n + m) y w:=by
 refine ⟨by rw [J1a,a.last,b.last],fun i d e=>?_⟩;by_cases c:i<=n
 ·exact a.mid i d c
 ·obtain ⟨k,rfl⟩:∃ k,i=n + k:=⟨i - n,by lia⟩;rw [J1a,a.last];exact b.mid k (by lia) (by lia)
theorem J3x.low(a:J3x f lo n y z)(h:lo'<=lo):J3x f lo' n y z:=⟨a.last,fun i c b=>by have:=a.mid i c b;lia⟩
theorem J3x.lt(a:J3x f lo n y z)(F:J1k f lo m y w)(hw:w < lo):n < m:=by
 apply Classical.byContradiction;intro c;have:=a.mid m F.pos (by lia);rw [F.last] at this;lia
theorem Jhf(h:Row ls row)(b:j∈row):(firsts ls row).getD j 0=posR ls row j:=by
 obtain ⟨k,a,rfl⟩:=Jfu b;rw [h.first a,J4s _ h.nd a]
theorem Joz(h:r.Ok)(a:AtR r.ls r.bot y i):J2v r (J45 r.ls r.ts (r.bot.getD i 0) (y - Jt r.ls r.bot i) (firsts r.ls r.top)) y:=by
 obtain ⟨c,g,f⟩:=a;rw [J1d] at f;have d:=J27 c;have b:=h.perm.mem_iff.mp d;have e:=J4s r.ls h.rowB.nd c;refine (J85 h).mpr ⟨r.bot.getD i 0,if r.ts.getD (r.bot.getD i 0) false=true then r.ls.getD (r.bot.getD i 0) 0 - 1 - (y - Jt r.ls r.bot i) else y - Jt r.ls r.bot i,⟨b,?_,?_,?_⟩,?_⟩
 ·split <;> lia
 ·split <;> lia
 ·unfold J45;rw [Jhf h.row b];split <;> lia
 ·unfold offT;rw [e];split <;> lia
theorem share_of(d:Down r s)(np:J2b r s)(b:s.isHome=false):(r.size - (s.behind r).size) / s.times=J2 r.ls (s.losers r)/\r.size - (s.behind r).size=s.times * J2 r.ls (s.losers r):=by
 have e:=d.size;rw [b] at e;have c:=J2z np;have a:r.size - (s.behind r).size=s.times * J2 r.ls (s.losers r):=by
  grind
 exact ⟨by rw [a,Int.mul_ediv_cancel_left _ (by lia)],a⟩
theorem J75(h:r.Ok)(ne:r.top≠[])(np:J2b r s)(f:s.isHome=false):1<=J2 r.ls (s.losers r):=by
 refine J6n (fun j d=>h.row.pos j ((np.losers_lt h ne).1 j d)) (fun e=>?_)
 cases s with
 | home a=>cases f
 | even a b=>cases e
 | over a b=>cases e
 | under a b=>cases e
 | overs a t =>
  have c:=np.2.2.2.2.1;have e:J4 r.bot a=[]:=e;rw [e,J21] at c;lia
 | unders a t =>
  have c:=np.2.2.2.2.1;have e:J4 r.top a=[]:=e;rw [e,J21] at c;lia
theorem Jhk{r:Rst}(h:r.Ok)(ne:r.top≠[]){s:Stp}(np:J2b r s)(okl:(s.behind r).Ok)(own:s.own=true){z m:Int}(g:J2v r z m)(p:r.size - J2 r.ls (s.losers r)<=m):
  ∃ j o,Jo (s.behind r) z j o/\Jo r z j o/\j∈s.losers r:=by
 obtain ⟨j,o,A,J⟩:=(J85 h).mp g;have of:=A.off;have y:r.bot≠[]:=fun e=>ne (by have:=h.perm;rw [e] at this;exact this.symm.eq_nil);have l:∀ i∈r.bot,0<=r.ls.getD i 0:=fun i hi=>by have:=h.rowB.pos i hi;lia
 cases s with
 | home a=>cases own
 | under a b=>cases own
 | unders a t=>cases own
 | even a b =>
  obtain ⟨D,H,C,K⟩:=np;obtain ⟨T,f⟩:=J1e ne;obtain ⟨B,d⟩:=J1e y;have f:r.top=T ++ [a]:=by rw [D];exact f
  have d:r.bot=B ++ [b]:=by rw [H];exact d
  have Q:=J1v (d ▸ h.rowB.nd);have w:=J1v (f ▸ h.row.nd);have sz:r.size=J2 r.ls B + r.ls.getD b 0:=by rw [<- h.sizeB,d,Ji,J11]
  have p:r.size - J2 r.ls [b]<=m:=p;rw [J11] at p;have jb:j=b:=by
   apply Classical.byContradiction;intro c;have u:j∈B:=by
    have:=h.perm.mem_iff.mpr A.1;rw [d] at this;exact (mem_append.mp this).resolve_right fun q=>c (mem_singleton.mp q)
   have:=J5u (ls:=r.ls) (row:=B) (fun i hi=>l i (by rw [d];exact mem_append_left _ hi)) u;rw [d,Jy _ _ u] at J;lia
  subst jb;refine ⟨j,o,?_,A,mem_singleton.mpr rfl⟩;obtain ⟨n,G,F,E⟩:=A;have N:j∈T:=by
   rw [f] at n;exact (mem_append.mp n).resolve_right fun q=>C (mem_singleton.mp q).symm
  have lt:((Stp.even a j).behind r).top=T:=by show withoutR r.top a=T;rw [f,J1p,J1x,append_nil,J1o w]
  have la:=h.row.lt a (by rw [f];simp);refine ⟨by rw [lt];exact N,G,?_,?_⟩
  ·show o < (r.ls.set a 0).getD j 0;rw [Jx _ _ _ _ la,if_neg (Ne.symm C)];exact F
  ·rw [lt,E,f,Jy _ _ N];show _=posR (r.ls.set a 0) T j + o;rw [J10 _ _ w]
 | over a b =>
  obtain ⟨D,H,C,K⟩:=np;obtain ⟨T,f⟩:=J1e ne;obtain ⟨B,d⟩:=J1e y;have f:r.top=T ++ [a]:=by rw [D];exact f
  have d:r.bot=B ++ [b]:=by rw [H];exact d
  have Q:=J1v (d ▸ h.rowB.nd);have w:=J1v (f ▸ h.row.nd);have sz:r.size=J2 r.ls B + r.ls.getD b 0:=by rw [<- h.sizeB,d,Ji,J11]
  have p:r.size - J2 r.ls [b]<=m:=p;rw [J11] at p;have jb:j=b:=by
   apply Classical.byContradiction;intro c;have u:j∈B:=by
    have:=h.perm.mem_iff.mpr A.1;rw [d] at this;exact (mem_append.mp this).resolve_right fun q=>c (mem_singleton.mp q)
   have:=J5u (ls:=r.ls) (row:=B) (fun i hi=>l i (by rw [d];exact mem_append_left _ hi)) u;rw [d,Jy _ _ u] at J;lia
  subst jb;refine ⟨j,o,?_,A,mem_singleton.mpr rfl⟩;obtain ⟨n,G,F,E⟩:=A;have la:=h.row.lt a (by rw [f];simp);refine ⟨n,G,?_,?_⟩
  ·show o < (r.ls.set a _).getD j 0;rw [Jx _ _ _ _ la,if_neg (Ne.symm C)];exact F
  ·rw [E];show _=posR (r.ls.set a _) r.top j + o;rw [f] at n ⊢;rw [J2a _ _ w n]
 | overs a t =>
  obtain ⟨D,H,C,K,W,U⟩:=np;obtain ⟨T,f⟩:=J1e ne;have f:r.top=T ++ [a]:=by rw [D];exact f
  have w:=J1v (f ▸ h.row.nd);have v:a∈r.top:=by rw [f];simp
  obtain ⟨X,Y,d,P⟩:=J65 (h.perm.mem_iff.mpr v);obtain ⟨_,R,Z⟩:=J7e (d ▸ h.rowB.nd);have O:J4 r.bot a=Y:=by rw [d];exact J4f P
  have p:r.size - J2 r.ls (J4 r.bot a)<=m:=p;rw [O] at p;have sz:r.size=J2 r.ls X + r.ls.getD a 0 + J2 r.ls Y:=by rw [<- h.sizeB,d,Ji,Jn];lia
  have L:j∈Y:=by
   apply Classical.byContradiction;intro c;have u:j∈X ++ a :: Y:=by rw [<- d];exact h.perm.mem_iff.mpr A.1
   by_cases I:j=a
   ·subst I;rw [d,Ju _ _ P] at J;lia
   ·have M:j∈X:=by simpa [c,I] using u
    have:=J5u (ls:=r.ls) (row:=X) (fun i hi=>l i (by rw [d];exact mem_append_left _ hi)) M;have S:=h.row.pos a v;rw [d,Jy _ _ M] at J;lia
  have I:j≠a:=fun e=>R (e ▸ L);refine ⟨j,o,?_,A,by show j∈J4 r.bot a;rw [O];exact L⟩;obtain ⟨n,G,F,E⟩:=A;have la:=h.row.lt a v;refine ⟨n,G,?_,?_⟩
  ·show o < (r.ls.set a _).getD j 0;rw [Jx _ _ _ _ la,if_neg I];exact F
  ·rw [E];show _=posR (r.ls.set a _) r.top j + o;rw [f] at n ⊢;rw [J2a _ _ w n]
theorem Jem{r:Rst}(h:r.Ok)(ne:r.top≠[]){s:Stp}(np:J2b r s)(okl:(s.behind r).Ok)(hh:s.isHome=false)(own:s.own=false){z y:Int}(g:J2v r z y)(h0:(s.behind r).size<=y)(h1:y < r.size){t':Int}(H:t'=(y - (s.behind r).size) / J2 r.ls (s.losers r)):
  ∃ j o,Jo (s.behind r) (z - t' * J2 r.ls (s.losers r)) j o/\j∈s.losers r:=by
 obtain ⟨f,o0,w,W⟩:=(J85 h).mp g;have D:r.bot≠[]:=fun e=>ne (by have:=h.perm;rw [e] at this;exact this.symm.eq_nil);have C:∀ i∈r.bot,0<=r.ls.getD i 0:=fun i hi=>by have:=h.rowB.pos i hi;lia
 have G:∀ {a:Nat} {B:List Nat},r.bot=B ++ [a]->a∈r.top->J2 r.ls B<=y->f=a/\y=J2 r.ls B + offT r a o0:=fun {a B} d l hy=>by
  have I:=J1v (d ▸ h.rowB.nd);have e:f=a:=by
   apply Classical.byContradiction;intro c;have T:f∈B:=by
    have:=h.perm.mem_iff.mpr w.1;rw [d] at this;exact (mem_append.mp this).resolve_right fun q=>c (mem_singleton.mp q)
   have:=J5u (ls:=r.ls) (row:=B) (fun i hi=>C i (by rw [d];exact mem_append_left _ hi)) T;have of:=w.off;rw [d,Jy _ _ T] at W;lia
  subst e;refine ⟨rfl,?_⟩;rw [W,d,Ju _ _ I]
 cases s with
 | home a=>cases hh
 | even a b=>cases own
 | over a b=>cases own
 | overs a t=>cases own
 | under a b =>
  obtain ⟨L,K,E,Q⟩:=np;obtain ⟨B,d⟩:=J1e D;have d:r.bot=B ++ [a]:=by rw [L];exact d
  have l:=h.perm.mem_iff.mp (show a∈r.bot by rw [d];simp);obtain ⟨X,Y,m,u⟩:=J80 ne l (fun e=>E (by rw [K];exact e.symm));have m:r.top=X ++ a :: (Y ++ [b]):=by rw [K];exact m
  have p:b∈r.top:=by rw [m];simp
  obtain ⟨_,ad,XY⟩:=J7e (m ▸ h.row.nd);have bX:b ∉ X:=fun q=>XY b q (by simp);have I:=J1v (d ▸ h.rowB.nd);have la:=h.row.lt a l;have pb:=h.row.pos b p;have n:((Stp.under a b).behind r).ls.getD a 0=r.ls.getD a 0 - r.ls.getD b 0:=by show (r.ls.set a _).getD a 0=_;rw [Jx _ _ _ _ la,if_pos rfl]
  have N:((Stp.under a b).behind r).ls.getD b 0=r.ls.getD b 0:=by show (r.ls.set a _).getD b 0=_;rw [Jx _ _ _ _ la,if_neg (Ne.symm E)]
  have J:((Stp.under a b).behind r).size=J2 r.ls B + r.ls.getD a 0 - r.ls.getD b 0:=by
   rw [<- okl.sizeB,show ((Stp.under a b).behind r).bot=B ++ [a] from d,Ji,J11,n,show J2 ((Stp.under a b).behind r).ls B=J2 r.ls B from Jk _ _ I];lia
  have sz:r.size=J2 r.ls B + r.ls.getD a 0:=by rw [<- h.sizeB,d,Ji,J11]
  have lt:((Stp.under a b).behind r).top=X ++ (if r.ts.getD a false=true then b :: a :: Y else a :: b :: Y):=J7x m h.row.nd _;have F:J2 ((Stp.under a b).behind r).ls X=J2 r.ls X:=Jk _ _ u;have tp:((Stp.under a b).behind r).top.Perm r.top:=J37 h.row.nd p _;have t0:t'=0:=by
   rw [H];show (y - ((Stp.under a b).behind r).size) / J2 r.ls [b]=0;rw [J11];exact Int.ediv_eq_zero_of_lt (by lia) (by lia)
  obtain ⟨rfl,v⟩:=G d l (by lia);have U:z=J2 r.ls X + o0:=by rw [w.2.2.2,m,Ju _ _ u]
  have ac:=w.2.1;have ab:=w.2.2.1;subst t0;rw [Int.zero_mul,Int.sub_zero];refine ⟨b,if r.ts.getD f false=true then o0 else o0 - (r.ls.getD f 0 - r.ls.getD b 0),⟨tp.mem_iff.mpr p,?_,?_,?_⟩,mem_singleton.mpr rfl⟩
  ·unfold offT at v;split at v <;> rename_i ct
   ·rw [if_pos ct];lia
   ·rw [if_neg ct];lia
  ·rw [N];unfold offT at v;split at v <;> rename_i ct
   ·rw [if_pos ct];lia
   ·rw [if_neg ct];lia
  ·rw [lt];by_cases ct:r.ts.getD f false=true
   ·rw [if_pos ct,if_pos ct,Ju _ _ bX,F];exact U
   ·rw [if_neg ct,if_neg ct,Jz _ _ bX,Js _ E,J2p,F,n];lia
 | unders a t =>
  obtain ⟨L,K,E,Q,P,n6⟩:=np;obtain ⟨B,d⟩:=J1e D;have d:r.bot=B ++ [a]:=by rw [L];exact d
  have l:=h.perm.mem_iff.mp (show a∈r.bot by rw [d];simp);obtain ⟨X,Y,m,u⟩:=J65 l;obtain ⟨_,aY,XY⟩:=J7e (m ▸ h.row.nd);have Z:J4 r.top a=Y:=by rw [m];exact J4f u
  have I:=J1v (d ▸ h.rowB.nd);have la:=h.row.lt a l;have H:t'=(y - ((Stp.unders a t).behind r).size) / J2 r.ls (J4 r.top a):=H;show ∃ j o,Jo ((Stp.unders a t).behind r) (z - t' * J2 r.ls (J4 r.top a)) j o/\j∈J4 r.top a;rw [Z] at H P n6 ⊢;have n:((Stp.unders a t).behind r).ls.getD a 0=r.ls.getD a 0 - t * J2 r.ls Y:=by show (r.ls.set a (_ - t * J2 r.ls (J4 r.top a))).getD a 0=_;rw [Jx _ _ _ _ la,if_pos rfl,Z]
  have tS:1<=t * J2 r.ls Y:=by
   have:=Int.mul_le_mul Q P (by decide) (by lia);lia
  have J:((Stp.unders a t).behind r).size=J2 r.ls B + r.ls.getD a 0 - t * J2 r.ls Y:=by
   rw [<- okl.sizeB,show ((Stp.unders a t).behind r).bot=B ++ [a] from d,Ji,J11,n,show J2 ((Stp.unders a t).behind r).ls B=J2 r.ls B from Jk _ _ I];lia
  have sz:r.size=J2 r.ls B + r.ls.getD a 0:=by rw [<- h.sizeB,d,Ji,J11]
  have aa:r.size=J2 r.ls X + r.ls.getD a 0 + J2 r.ls Y:=by show J2 r.ls r.top=_;rw [m,Ji,Jn];lia
  have F:J2 ((Stp.unders a t).behind r).ls X=J2 r.ls X:=Jk _ _ u;obtain ⟨rfl,v⟩:=G d l (by lia);have U:z=J2 r.ls X + o0:=by rw [w.2.2.2,m,Ju _ _ u]
  have eo:offT r f o0=o0:=by unfold offT;rw [E,if_neg (by decide)]
  rw [eo] at v;have d1:=Int.ediv_mul_le (y - ((Stp.unders f t).behind r).size) (show J2 r.ls Y≠0 by lia);have d2:=Int.lt_ediv_add_one_mul_self (y - ((Stp.unders f t).behind r).size) (show 0 < J2 r.ls Y by lia);rw [<- H] at d1 d2;rw [Int.add_mul,Int.one_mul] at d2;have lY:J2 r.ls X + r.ls.getD f 0 - t * J2 r.ls Y<=z - t' * J2 r.ls Y:=by lia
  have M:0<=z - t' * J2 r.ls Y:=by
   have:0<=J2 r.ls X:=J18 fun i hi=>by have:=h.row.pos i (by rw [m];exact mem_append_left _ hi);lia
   lia
  obtain ⟨j,o,A⟩:=okl.letAt M (by lia);refine ⟨j,o,A,?_⟩;have jT:j∈X ++ f :: Y:=by
   have:=A.1;rw [show ((Stp.unders f t).behind r).top=X ++ f :: Y from m] at this;exact this
  apply Classical.byContradiction;intro c;obtain ⟨_,A2,A3,O⟩:=A;rw [show ((Stp.unders f t).behind r).top=X ++ f :: Y from m] at O;by_cases R:j=f
  ·subst R;rw [Ju _ _ u,F] at O;rw [n] at A3;lia
  ·have S:j∈X:=by simpa [c,R] using jT
   have:=J5u (ls:=((Stp.unders f t).behind r).ls) (row:=X) (fun i hi=>by have:=okl.row.pos i (by rw [show ((Stp.unders f t).behind r).top=X ++ f :: Y from m];exact mem_append_left _ hi);lia) S;rw [Jy _ _ S] at O;rw [F] at this;lia
structure Twr(f:Int->Int)(r:Rst)(T:List Int):Prop where
 pos:∀ j∈r.top,1<=T.getD j 0
 fst:∀ y j o,Jo r y j o->J1k f r.size (T.getD j 0).toNat y (go r y)
theorem Cok.twr(h:Cok p)(one:∀ j∈p.1.top,p.2.getD j 0=1)(l:Long p k):Twr (go p.1) (chN p k).1 (chN p k).2:=⟨(h.at_ l).tow.pos,fun y j o A=>h.tower one l y j o A⟩
theorem J73{a:Int}(c:0<=a)(hb:0<=b):(a * b).toNat=a.toNat * b.toNat:=by
 grind
theorem Jm1{a:Int}(c:0<=a)(hb:0<=b):(a + b).toNat=a.toNat + b.toNat:=by lia
section
variable{f:Int->Int}{r:Rst}{T:List Int}{s:Stp}
theorem Jp0(h:r.Ok)(ne:r.top≠[])(np:J2b r s)(okl:(s.behind r).Ok)(d:Down r s)(R:J56 r s)(W:Twr f r T)(v:s.isHome=false)(own:s.own=true)(I:(s.behind r).size<=y)(h1:y < r.size)(G:t'=(r.size - 1 - y) / J2 r.ls (s.losers r)):
  0<=t'/\t' < s.times/\(0<=y + t' * J2 r.ls (s.losers r)/\y + t' * J2 r.ls (s.losers r) < r.size)/\∀ z,J2v r z (y + t' * J2 r.ls (s.losers r))->∃ j o,Jo r z j o/\(0<=z/\z < (s.behind r).size)/\J3x f (s.behind r).size (T.getD j 0 + t' * T.getD s.winner 0).toNat z y:=by
 have hs:=J75 h ne np v;obtain ⟨_,Z⟩:=share_of d np v;have Y:=J2z np;have w:=np.win h ne;have pw:=W.pos _ w;have less:=Int.le_of_lt d.less;have K:=Int.ediv_mul_le (r.size - 1 - y) (show J2 r.ls (s.losers r)≠0 by lia);have B:=Int.lt_ediv_add_one_mul_self (r.size - 1 - y) (show 0 < J2 r.ls (s.losers r) by lia);have m:0<=t':=by rw [G];exact Int.ediv_nonneg (by lia) (by lia)
 rw [<- G] at K B;rw [Int.add_mul,Int.one_mul] at B;have X:0<=(s.behind r).size:=J18 fun j u=>by have:=okl.row.pos j u;lia
 have P:0<=t' * J2 r.ls (s.losers r):=Int.mul_nonneg m (by lia);have E:t' < s.times:=by
  apply Classical.byContradiction;intro c;have:s.times * J2 r.ls (s.losers r)<=t' * J2 r.ls (s.losers r):=Int.mul_le_mul_of_nonneg_right (by lia) (by lia);lia
 refine ⟨m,E,⟨by lia,by lia⟩,fun z g=>?_⟩;obtain ⟨j,o,M,A,u⟩:=Jhk h ne np okl own g (by lia);have p:=go_of h g;have pj:=W.pos j A.1;have L:=R.lose z j o M u;have l:=(W.fst _ _ _ A).low less;rw [p] at l;refine ⟨j,o,A,M.inside okl,?_⟩;have i:∀ {t S:Int},J2 r.ls (s.losers r)=S->t' < t->(∀ k ,0<=k->k < t->(s.behind r).size<=go r z - k * S/\(∃ q,Jo r (go r z - k * S) s.winner q)/\go r (go r z - k * S)=go r z - k * S - S)->
   J3x f (s.behind r).size (T.getD j 0 + t' * T.getD s.winner 0).toNat z y:=fun {t S} J Q H=>by
  rw [p,J] at H;rw [J] at l p K B P;have F:=(H 0 (by lia) (by lia)).1;rw [Int.zero_mul,Int.sub_zero] at F;have D:=l.reach F;by_cases c:t'=0
  ·subst c;rw [Int.zero_mul,Int.add_zero] at D;rw [Int.zero_mul,Int.add_zero];exact D
  ·obtain ⟨n,U⟩:∃ n:Nat,t'=(n:Int) + 1:=⟨(t' - 1).toNat,by lia⟩;have C:=J5k (f:=f) (r:=r) (N:=fun j=>(T.getD j 0).toNat) (lo:=(s.behind r).size) less W.fst H n (by lia);rw [<- U,show y + t' * S - t' * S=y by lia] at C;have R2:=D.trans (C.reach I);have e:(T.getD j 0).toNat + (n + 1) * (T.getD s.winner 0).toNat=(T.getD j 0 + t' * T.getD s.winner 0).toNat:=by
    rw [Jm1 (by lia) (Int.mul_nonneg m (by lia)),J73 m (by lia),show t'.toNat=n + 1 by lia]
   rw [<- e];exact R2
 have one:s.times=1->(s.behind r).size<=go r z->(∃ q,Jo r (go r z) s.winner q)->J3x f (s.behind r).size (T.getD j 0 + t' * T.getD s.winner 0).toNat z y:=fun e1 l2 l3=>by
  have O:t'=0:=by lia
  subst O;rw [Int.zero_mul,Int.add_zero] at l p;rw [Int.zero_mul,Int.add_zero];exact l.reach I
 cases s with
 | home a=>cases v
 | under a b=>cases own
 | unders a t=>cases own
 | even a b=>exact one rfl L.2.1 L.2.2.1
 | over a b=>exact one rfl L.2.1 L.2.2.1
 | overs a t=>exact i rfl E L.2.1
theorem Jlq(h:r.Ok)(ne:r.top≠[])(np:J2b r s)(okl:(s.behind r).Ok)(d:Down r s)(R:J56 r s)(W:Twr f r T)(l:s.isHome=false)(own:s.own=false)(p:(s.behind r).size<=y)(J:y < r.size)(m:t'=(y - (s.behind r).size) / J2 r.ls (s.losers r)):
  0<=t'/\t' < s.times/\∀ z,J2v r z y->(0<=z - t' * J2 r.ls (s.losers r)/\z - t' * J2 r.ls (s.losers r) < (s.behind r).size)/\J3x f (s.behind r).size ((t' + 1) * T.getD s.winner 0).toNat (z - t' * J2 r.ls (s.losers r)) y:=by
 have X:=J75 h ne np l;obtain ⟨_,Q⟩:=share_of d np l;have P:=J2z np;have w:=np.win h ne;have A:=W.pos _ w;have less:=Int.le_of_lt d.less;have D:=Int.ediv_mul_le (y - (s.behind r).size) (show J2 r.ls (s.losers r)≠0 by lia);have u:=Int.lt_ediv_add_one_mul_self (y - (s.behind r).size) (show 0 < J2 r.ls (s.losers r) by lia);have v:0<=t':=by rw [m];exact Int.ediv_nonneg (by lia) (by lia)
 rw [<- m] at D u;rw [Int.add_mul,Int.one_mul] at u;have i:t' < s.times:=by
  apply Classical.byContradiction;intro c;have:s.times * J2 r.ls (s.losers r)<=t' * J2 r.ls (s.losers r):=Int.mul_le_mul_of_nonneg_right (by lia) (by lia);lia
 refine ⟨v,i,fun z g=>?_⟩;obtain ⟨j,o,G,I⟩:=Jem h ne np okl l own g p J m;have B:=go_of h g;have L:=R.lose _ j o G I;refine ⟨G.inside okl,?_⟩
 cases s with
 | home a=>cases l
 | even a b=>cases own
 | over a b=>cases own
 | overs a t=>cases own
 | under a b =>
  have i:t' < 1:=i;obtain rfl:t'=0:=by lia
  rw [Int.zero_mul,Int.sub_zero] at L ⊢;obtain ⟨⟨S,l1⟩,U,_⟩:=L;have F:=(W.fst _ _ _ l1).low less;rw [B] at F;rw [Int.zero_add,Int.one_mul];exact F.reach p
 | unders a t =>
  have O:J2 r.ls ((Stp.unders a t).losers r)=J2 r.ls (J4 r.top a):=rfl;rw [O] at D u;show J3x f ((Stp.unders a t).behind r).size _ (z - t' * J2 r.ls (J4 r.top a)) y;obtain ⟨E,_⟩:=L;obtain ⟨n,H⟩:∃ n:Nat,t'=n:=⟨t'.toNat,by lia⟩;have i:t' < t:=i;have C:J1k f ((Stp.unders a t).behind r).size ((n + 1) * (T.getD a 0).toNat) (z - t' * J2 r.ls (J4 r.top a)) (z - t' * J2 r.ls (J4 r.top a) + ((n:Int) + 1) * J2 r.ls (J4 r.top a)):=J88 (f:=f) (r:=r) (w:=a) (N:=fun j=>(T.getD j 0).toNat) (lo:=((Stp.unders a t).behind r).size) less W.fst E n (by lia);have K:z - t' * J2 r.ls (J4 r.top a) + t' * J2 r.ls (J4 r.top a)=z:=by lia
  have q:go r (z - t' * J2 r.ls (J4 r.top a) + t' * J2 r.ls (J4 r.top a))=z - t' * J2 r.ls (J4 r.top a) + t' * J2 r.ls (J4 r.top a) + J2 r.ls (J4 r.top a):=(E t' v i).2.1;rw [K,B] at q;have M:z - t' * J2 r.ls (J4 r.top a) + ((n:Int) + 1) * J2 r.ls (J4 r.top a)=y:=by
   rw [<- H,Int.add_mul,Int.one_mul];lia
  rw [M] at C;have e:(n + 1) * (T.getD a 0).toNat=((t' + 1) * T.getD (Stp.unders a t).winner 0).toNat:=by
   show _=((t' + 1) * T.getD a 0).toNat;have A:1<=T.getD a 0:=A;rw [J73 (by lia) (by lia),show (t' + 1).toNat=n + 1 by lia]
  rw [<- e];exact C.reach p
theorem J76(np:J2b r s)(R:J56 r s){y o:Int}{j:Nat}(A:Jo (s.behind r) y j o)(c:j ∉ s.losers r):∃ a,Jo r y j a:=(R.plain y j o A c).1
theorem J77{y o due:Int}{j:Nat}(h:r.Ok)(ne:r.top≠[])(np:J2b r s)(okl:(s.behind r).Ok)(R:J56 r s)(W:Twr f r T)(own:s.own=true)(A:Jo (s.behind r) y j o)(c:j∈s.losers r)(J:0<=due)(G:due < T.getD j 0 + T.getD s.winner 0 * s.times):
  (∃ i,Jo r y j i)/\(T.getD j 0<=due->∀ t':Int,t'=(due - T.getD j 0) / T.getD s.winner 0->0<=t'/\t' < s.times/\(∃ i,Jo r (go r y - t' * J2 r.ls (s.losers r)) s.winner i)/\
   (0<=due - T.getD j 0 - t' * T.getD s.winner 0/\due - T.getD j 0 - t' * T.getD s.winner 0 < T.getD s.winner 0)/\itN f (due - T.getD j 0 - t' * T.getD s.winner 0).toNat (go r y - t' * J2 r.ls (s.losers r))=itN f due.toNat y):=by
 have w:=np.win h ne;have p:=W.pos _ w;have L:=R.lose y j o A c;have g:∃ i,Jo r y j i:=by
  cases s with
  | home a=>cases own
  | under a b=>cases own
  | unders a t=>cases own
  | even a b=>exact L.1
  | over a b=>exact L.1
  | overs a t=>exact L.1
 refine ⟨g,fun hd t' v=>?_⟩;obtain ⟨i,B⟩:=g;have I:=W.pos j B.1;have F:=Int.ediv_mul_le (due - T.getD j 0) (show T.getD s.winner 0≠0 by lia);have z:=Int.lt_ediv_add_one_mul_self (due - T.getD j 0) (show 0 < T.getD s.winner 0 by lia);have l:0<=t':=by rw [v];exact Int.ediv_nonneg (by lia) (by lia)
 rw [<- v] at F z;rw [Int.add_mul,Int.one_mul] at z;have d:t' < s.times:=by
  apply Classical.byContradiction;intro c;have:s.times * T.getD s.winner 0<=t' * T.getD s.winner 0:=Int.mul_le_mul_of_nonneg_right (by lia) (by lia);rw [Int.mul_comm (T.getD s.winner 0) s.times] at G;lia
 have base:itN f (T.getD j 0).toNat y=go r y:=(W.fst _ _ _ B).last;have fin:∀ {m:Int},itN f (t' * T.getD s.winner 0).toNat (go r y)=m->itN f (due - T.getD j 0 - t' * T.getD s.winner 0).toNat m=itN f due.toNat y:=fun {m} E=>by
  rw [<- E,<- base,<- J1a,<- J1a]
  congr 1
  have:0<=t' * T.getD s.winner 0:=Int.mul_nonneg l (by lia);lia
 refine ⟨l,d,?_,⟨by lia,by lia⟩,?_⟩
 ·cases s with
  | home a=>cases own
  | under a b=>cases own
  | unders a t=>cases own
  | even a b =>
   have d:t' < 1:=d;obtain rfl:t'=0:=by lia
   rw [Int.zero_mul,Int.sub_zero];exact L.2.2.1
  | over a b =>
   have d:t' < 1:=d;obtain rfl:t'=0:=by lia
   rw [Int.zero_mul,Int.sub_zero];exact L.2.2.1
  | overs a t=>exact (L.2.1 t' l d).2.1
 ·refine fin ?_;by_cases H:t'=0
  ·subst H;rw [Int.zero_mul,Int.zero_mul,Int.sub_zero];rfl
  ·cases s with
   | home a=>cases own
   | under a b=>cases own
   | unders a t=>cases own
   | even a b =>
    have d:t' < 1:=d;lia
   | over a b =>
    have d:t' < 1:=d;lia
   | overs a t =>
    obtain ⟨n,D⟩:∃ n:Nat,t'=(n:Int) + 1:=⟨(t' - 1).toNat,by lia⟩;have d:t' < t:=d;have C:=J5k (f:=f) (r:=r) (N:=fun j=>(T.getD j 0).toNat) (lo:=min r.size ((Stp.overs a t).behind r).size) (Int.min_le_left _ _) W.fst (fun k u q=>⟨Int.le_trans (Int.min_le_right _ _) (L.2.1 k u q).1,(L.2.1 k u q).2⟩) n (by lia);rw [<- D] at C;have e:(n + 1) * (T.getD a 0).toNat=(t' * T.getD (Stp.overs a t).winner 0).toNat:=by
     show _=(t' * T.getD a 0).toNat;have p:1<=T.getD a 0:=p;rw [J73 (by lia) (by lia),show t'.toNat=n + 1 by lia]
    rw [<- e];exact C.last
theorem J8v{y o due:Int}{j:Nat}(h:r.Ok)(ne:r.top≠[])(np:J2b r s)(okl:(s.behind r).Ok)(R:J56 r s)(W:Twr f r T)(M:s.isHome=false)(own:s.own=false)(A:Jo (s.behind r) y j o)(c:j∈s.losers r)(Y:0<=due)(S:due < T.getD j 0 + T.getD s.winner 0 * s.times):
  (∃ g,Jo r y s.winner g)/\∀ t':Int,1<=t'->t'<=s.times->t' * T.getD s.winner 0<=due->(t' < s.times->due < (t' + 1) * T.getD s.winner 0)->
   (∃ g,Jo r (go r y + (t' - 1) * J2 r.ls (s.losers r)) (if t'=s.times then j else s.winner) g)/\(0<=due - t' * T.getD s.winner 0/\due - t' * T.getD s.winner 0 < T.getD (if t'=s.times then j else s.winner) 0)/\
   itN f (due - t' * T.getD s.winner 0).toNat (go r y + (t' - 1) * J2 r.ls (s.losers r))=itN f due.toNat y:=by
 have w:=np.win h ne;have E:=W.pos _ w;have L:=R.lose y j o A c;have D:=J2z np;have fin:∀ {t' m:Int},0<=t'->t' * T.getD s.winner 0<=due->itN f (t' * T.getD s.winner 0).toNat y=m->itN f (due - t' * T.getD s.winner 0).toNat m=itN f due.toNat y:=fun {t' m} H U J=>by
  rw [<- J,<- J1a]
  congr 1
  have:0<=t' * T.getD s.winner 0:=Int.mul_nonneg H (by lia);lia
 have d:∀ {t':Int},(t' < s.times->due < (t' + 1) * T.getD s.winner 0)->t'<=s.times->due - t' * T.getD s.winner 0 < T.getD (if t'=s.times then j else s.winner) 0:=fun {t'} u K=>by
  by_cases e:t'=s.times
  ·rw [if_pos e,e];rw [Int.mul_comm (T.getD s.winner 0) s.times] at S;lia
  ·rw [if_neg e];have:=u (by lia);rw [Int.add_mul,Int.one_mul] at this;lia
 cases s with
 | home a=>cases M
 | even a b=>cases own
 | over a b=>cases own
 | overs a t=>cases own
 | under a b =>
  obtain ⟨⟨o1,l1⟩,G,F,X⟩:=L;refine ⟨⟨o1,l1⟩,fun t' O i z v=>?_⟩;have B:t'<=1:=i;obtain rfl:t'=1:=by lia
  have Q:(1:Int)=(Stp.under a b).times:=rfl;refine ⟨?_,⟨by lia,d v i⟩,?_⟩
  ·rw [if_pos Q,Int.sub_self,Int.zero_mul,Int.add_zero];exact F
  ·refine fin (by lia) z ?_;rw [Int.sub_self,Int.zero_mul,Int.add_zero,Int.one_mul];exact (W.fst _ _ _ l1).last
 | unders a t =>
  obtain ⟨l,G,F⟩:=L;have D:1<=t:=D;have z0:=l 0 (by lia) (by lia);rw [Int.zero_mul,Int.add_zero] at z0;refine ⟨z0.1,fun t' O i z v=>?_⟩;have B:t'<=t:=i;show (∃ g,Jo r (go r y + (t' - 1) * J2 r.ls (J4 r.top a)) _ g)/\_/\itN f _ (go r y + (t' - 1) * J2 r.ls (J4 r.top a))=_;have P:go r y + (t' - 1) * J2 r.ls (J4 r.top a)=y + t' * J2 r.ls (J4 r.top a):=by
   rw [z0.2.1,Int.sub_mul,Int.one_mul];lia
  rw [P];refine ⟨?_,⟨by lia,d v i⟩,?_⟩
  ·by_cases e:t'=t
   ·rw [if_pos (show t'=(Stp.unders a t).times from e),e];exact G
   ·rw [if_neg (show ¬ t'=(Stp.unders a t).times from e)];exact (l t' (by lia) (by lia)).1
  ·refine fin (by lia) z ?_;obtain ⟨n,I⟩:∃ n:Nat,t'=(n:Int) + 1:=⟨(t' - 1).toNat,by lia⟩;have C:=J88 (f:=f) (r:=r) (w:=a) (N:=fun j=>(T.getD j 0).toNat) (lo:=min r.size ((Stp.unders a t).behind r).size) (Int.min_le_left _ _) W.fst (fun k q p=>⟨(l k q p).1,(l k q p).2.1,Int.le_trans (Int.min_le_right _ _) (l k q p).2.2⟩) n (by lia);rw [<- I] at C;have e:(n + 1) * (T.getD a 0).toNat=(t' * T.getD (Stp.unders a t).winner 0).toNat:=by
    show _=(t' * T.getD a 0).toNat;have E:1<=T.getD a 0:=E;rw [J73 (by lia) (by lia),show t'.toNat=n + 1 by lia]
   rw [<- e];exact C.last
end
theorem idx_of{ns:List Int}(nd:ns.Nodup)(hb:b < ns.length)(e:ns[b]=v):ns.idxOf v=b:=by
 grind
noncomputable abbrev J5r(bs:List Band):List Int:=(List.range bs.length).map fun i=>(bs.getD i bz0).1
theorem Sys.starts(S:Sys f N bs)(hb:b < bs.length):(bs.getD b bz0).1∈J5r bs/\(J5r bs).idxOf (bs.getD b bz0).1=b:=by
 have nd:(J5r bs).Nodup:=by
  refine pairwise_map.mpr (pairwise_lt_range.imp_of_mem fun {i j} hi a h e=>?_);have hi:=mem_range.mp hi;have a:=mem_range.mp a;have d:=S.apart hi a h;have w:=(S.bnd _ (J5q a)).1;lia
 have c:b < (J5r bs).length:=by simp_all
 have e:(J5r bs)[b]=(bs.getD b bz0).1:=by rw [List.getElem_map,List.getElem_range]
 exact ⟨e ▸ List.getElem_mem c,idx_of nd c e⟩
theorem Jkw(g:k < m)(d:(nextN (chN p k).1).isHome=true):∃ b,b < (bndN p m).length/\(bndN p m).getD b bz0=J2s (chN p k):=by
 induction m with
 | zero=>lia
 | succ m ih =>
  have e:bndN p (m + 1)=bndN p m ++ bndB (chN p m):=rfl;by_cases c:k=m
  ·subst c;have a:bndB (chN p k)=[J2s (chN p k)]:=by unfold bndB;rw [if_pos d];rfl
   refine ⟨(bndN p k).length,by rw [e,a,length_append];show _ < _ + 1;lia,?_⟩;rw [e,a,getD_eq_getElem?_getD,getElem?_append_right (Nat.le_refl _),Nat.sub_self];rfl
  ·obtain ⟨b,hb,f⟩:=ih (by lia);refine ⟨b,by rw [e,length_append];lia,?_⟩;rw [e,getD_eq_getElem?_getD,getElem?_append_left hb,<- f,getD_eq_getElem?_getD]
structure J55(f:Int->Int)(r:Rst)(T:List Int)(s:Stp):Prop where
 ok:r.Ok
 ne:r.top≠[]
 np:J2b r s
 okl:(s.behind r).Ok
 down:Down r s
 ret:J56 r s
 twr:Twr f r T
 len:T.length=r.ls.length
 sz:r.size<=10 ^ 30
 big:∀ j∈r.top,T.getD j 0<=10 ^ 30
theorem Cok.stepF(h:Cok p)(one:∀ j∈p.1.top,p.2.getD j 0=1)(l:Long p m)(b:k < m):J55 (go p.1) (chN p k).1 (chN p k).2 (nextN (chN p k).1):=by
 have a:Long p k:=fun i hi=>l i (by lia);have c:=h.at_ a;have ne:=l k b;have np:=J5m c.ok ne;exact ⟨c.ok,ne,np,c.ok.next ne,c.ok.down ne,Jpp c.ok ne np (c.ok.next ne),h.twr one a,c.tow.len,c.size30,fun j d=>c.tow.le c.ok d⟩
theorem J55.tms(F:J55 f r T s):1<=s.times/\s.times<=10 ^ 30:=by
 have b:=J2z F.np;have a:=F.np.times F.ok F.ne F.sz;lia
theorem J55.spn(F:J55 f r T s)(a:s.isHome=false):1<=J2 r.ls (s.losers r)/\J2 r.ls (s.losers r)<=10 ^ 30/\(r.size - (s.behind r).size) / s.times=J2 r.ls (s.losers r):=by
 have b:=J75 F.ok F.ne F.np a;have c:=Jc9 F.ok (J2b.losers_nd F.ok (s:=s)) (F.np.losers_lt F.ok F.ne).1;have:=F.sz;exact ⟨b,by lia,(share_of F.down F.np a).1⟩
theorem J55.win(F:J55 f r T s):s.winner∈r.top/\1<=T.getD s.winner 0/\T.getD s.winner 0<=10 ^ 30:=by
 have w:=F.np.win F.ok F.ne;exact ⟨w,F.twr.pos _ w,F.big _ w⟩
noncomputable def vis(f:Int->Int)(pc:Int->Nat)(p:Nat):Nat->Int->Int
 | 0,_=>0
 | n + 1,y=>vis f pc p n y + (if pc (itN f n y)=p then 1 else 0)
section
variable{f:Int->Int}{pc:Int->Nat}{p:Nat}
theorem Jao(n:Nat)(y:Int):∀ m,vis f pc p (n + m) y=vis f pc p n y + vis f pc p m (itN f n y)
 | 0=>by show vis f pc p n y=_;unfold vis;lia
 | m + 1=>by
  show vis f pc p (n + m) y + (if pc (itN f (n + m) y)=p then 1 else 0)=vis f pc p n y + (vis f pc p m (itN f n y) + (if pc (itN f m (itN f n y))=p then 1 else 0));rw [Jao n y m,J1a];lia
theorem Jhs(y:Int):vis f pc p 1 y=if pc y=p then 1 else 0:=by
 show vis f pc p 0 y + (if pc y=p then 1 else 0)=_;show (0:Int) + _=_;lia
end
noncomputable def Uni(f:Int->Int)(b:Int->Nat)(r:Rst)(T:List Int):Prop:=∀ (p j:Nat) (y o a c:Int) (n:Nat),Jo r y j o->Jo r a j c->(n:Int)<=T.getD j 0->vis f b p n y=vis f b p n a
noncomputable def Vv(f:Int->Int)(a:Int->Nat)(r:Rst)(T:List Int)(p j:Nat):Int:=vis f a p (T.getD j 0).toNat (posR r.ls r.top j)
theorem Jke{r:Rst}(h:r.Ok){j:Nat}(a:j∈r.top):Jo r (posR r.ls r.top j) j 0:=⟨a,by lia,by have:=h.row.pos j a;lia,by lia⟩
section
variable{f:Int->Int}{pc:Int->Nat}{r:Rst}{s:Stp}{T:List Int}
theorem Uni.all(U:Uni f pc r T)(h:r.Ok){j:Nat}{y o:Int}(A:Jo r y j o)(a:0<=T.getD j 0)(p:Nat):vis f pc p (T.getD j 0).toNat y=Vv f pc r T p j:=
 U p j y o _ 0 _ A (Jke h A.1) (by lia)
theorem Uni.chain(U:Uni f pc r T)(h:r.Ok){w:Nat}(b:0<=T.getD w 0){y:Int}{a:Nat}(p:Nat):∀ t:Nat,(∀ i:Nat,i < t->∃ o,Jo r (itN f (a + i * (T.getD w 0).toNat) y) w o)->
  vis f pc p (a + t * (T.getD w 0).toNat) y=vis f pc p a y + (t:Int) * Vv f pc r T p w
 | 0,_=>by rw [Nat.zero_mul,Nat.add_zero];simp
 | t + 1,c=>by
  obtain ⟨o,A⟩:=c t (by lia);have e:a + (t + 1) * (T.getD w 0).toNat=(a + t * (T.getD w 0).toNat) + (T.getD w 0).toNat:=by rw [Nat.add_mul,Nat.one_mul];lia
  rw [e,Jao,Uni.chain U h b p t (fun i hi=>c i (by lia)),U.all h A b,show ((t + 1:Nat):Int) * Vv f pc r T p w=(t:Int) * Vv f pc r T p w + Vv f pc r T p w by rw [show ((t + 1:Nat):Int)=(t:Int) + 1 by lia,Int.add_mul,Int.one_mul]];lia
variable{y o:Int}{j:Nat}
theorem J4k(F:J55 f r T s)(own:s.own=true)(A:Jo (s.behind r) y j o)(c:j∈s.losers r):
  (∃ a,Jo r y j a)/\∀ t:Nat,(t:Int) < s.times->∃ a,Jo r (itN f ((T.getD j 0).toNat + t * (T.getD s.winner 0).toNat) y) s.winner a:=by
 have l:=F.win.2.1;have m:=F.tms.1;have b:(∃ a,Jo r y j a):=(J77 F.ok F.ne F.np F.okl F.ret F.twr own A c (due:=0) (by lia) (by
  have g:=(F.twr.pos j (F.down.sub j A.1));have:=Int.mul_nonneg (show 0<=T.getD s.winner 0 by lia) (show 0<=s.times by lia);lia)).1
 refine ⟨b,fun t h=>?_⟩;obtain ⟨o0,i⟩:=b;have g:=F.twr.pos j i.1;have n:(t:Int) * T.getD s.winner 0 < T.getD s.winner 0 * s.times:=by
  rw [Int.mul_comm];exact Int.mul_lt_mul_of_pos_left h (by lia)
 have d:0<=(t:Int) * T.getD s.winner 0:=Int.mul_nonneg (by lia) (by lia);obtain ⟨_,up⟩:=J77 F.ok F.ne F.np F.okl F.ret F.twr own A c (due:=T.getD j 0 + (t:Int) * T.getD s.winner 0) (by lia) (by lia);obtain ⟨_,_,⟨a,B⟩,_,e⟩:=up (by lia) (t:Int) (by rw [show T.getD j 0 + (t:Int) * T.getD s.winner 0 - T.getD j 0=(t:Int) * T.getD s.winner 0 by lia,Int.mul_ediv_cancel _ (by lia)]);rw [show T.getD j 0 + (t:Int) * T.getD s.winner 0 - T.getD j 0 - (t:Int) * T.getD s.winner 0=0 by lia] at e;have e:go r y - (t:Int) * J2 r.ls (s.losers r)=itN f (T.getD j 0 + (t:Int) * T.getD s.winner 0).toNat y:=e;rw [e,Jm1 (by lia) d,J73 (by lia) (by lia),Int.toNat_natCast] at B;exact ⟨a,B⟩
theorem J7r(F:J55 f r T s)(d:s.isHome=false)(own:s.own=false)(A:Jo (s.behind r) y j o)(c:j∈s.losers r):
  (∀ t:Nat,(t:Int) < s.times->∃ a,Jo r (itN f (t * (T.getD s.winner 0).toNat) y) s.winner a)/\∃ a,Jo r (itN f (s.times.toNat * (T.getD s.winner 0).toNat) y) j a:=by
 have l:=F.win.2.1;have m:=F.tms.1;have q:=F.twr.pos j (F.down.sub j A.1);have b:∀ t:Nat,1<=t->(t:Int)<=s.times->∃ a,Jo r (itN f (t * (T.getD s.winner 0).toNat) y) (if (t:Int)=s.times then j else s.winner) a:=fun t v g=>by
  have h:0<=(t:Int) * T.getD s.winner 0:=Int.mul_nonneg (by lia) (by lia);have p:(t:Int) * T.getD s.winner 0<=T.getD s.winner 0 * s.times:=by
   rw [Int.mul_comm];exact Int.mul_le_mul_of_nonneg_left g (by lia)
  obtain ⟨_,up⟩:=J8v F.ok F.ne F.np F.okl F.ret F.twr d own A c (due:=(t:Int) * T.getD s.winner 0) h (by lia);obtain ⟨⟨a,B⟩,_,e⟩:=up (t:Int) (by lia) g (Int.le_refl _) (fun _=>by rw [Int.add_mul,Int.one_mul];lia);rw [show (t:Int) * T.getD s.winner 0 - (t:Int) * T.getD s.winner 0=0 by lia] at e;have e:go r y + ((t:Int) - 1) * J2 r.ls (s.losers r)=itN f ((t:Int) * T.getD s.winner 0).toNat y:=e;rw [e,J73 (by lia) (by lia),Int.toNat_natCast] at B;exact ⟨a,B⟩
 have n:=Int.mul_nonneg (show 0<=T.getD s.winner 0 by lia) (show 0<=s.times by lia);refine ⟨fun t u=>?_,?_⟩
 ·by_cases i:t=0
  ·subst i;rw [Nat.zero_mul];exact (J8v F.ok F.ne F.np F.okl F.ret F.twr d own A c (due:=0) (by lia) (by lia)).1
  ·obtain ⟨a,B⟩:=b t (by lia) (by lia);rw [if_neg (by lia)] at B;exact ⟨a,B⟩
 ·obtain ⟨a,B⟩:=b s.times.toNat (by lia) (by lia);rw [if_pos (by lia)] at B;exact ⟨a,B⟩
theorem Jhw(F:J55 f r T s):(s.times.toNat:Int)=s.times:=by have:=F.tms.1;lia
theorem J71(F:J55 f r T s)(U:Uni f pc r T)(own:s.own=true)(A:Jo (s.behind r) y j o)(c:j∈s.losers r){n:Nat}(H:T.getD j 0<=n)(G:(n:Int)<=T.getD j 0 + T.getD s.winner 0 * s.times):
  ∃ t d:Nat,(n:Int)=T.getD j 0 + (t:Int) * T.getD s.winner 0 + d/\(d:Int) < T.getD s.winner 0/\(t:Int)<=s.times/\((t:Int)=s.times->d=0)/\∀ p,vis f pc p n y=Vv f pc r T p j + (t:Int) * Vv f pc r T p s.winner + vis f pc p d (itN f ((T.getD j 0).toNat + t * (T.getD s.winner 0).toNat) y):=by
 obtain ⟨⟨o0,l⟩,m⟩:=J4k F own A c;have B:=F.win.2.1;have C:=F.tms.1;have D:=F.twr.pos j l.1;generalize hW:T.getD s.winner 0=W at *;generalize hJ:T.getD j 0=J at *;obtain ⟨q,v⟩:∃ q:Nat,(q:Int)=((n:Int) - J) / W:=⟨(((n:Int) - J) / W).toNat,by have:=Int.ediv_nonneg (show 0<=(n:Int) - J by lia) (show 0<=W by lia);lia⟩;obtain ⟨d,hd⟩:∃ d:Nat,(d:Int)=((n:Int) - J) % W:=⟨(((n:Int) - J) % W).toNat,by have:=Int.emod_nonneg ((n:Int) - J) (show W≠0 by lia);lia⟩;have e:=Int.mul_ediv_add_emod ((n:Int) - J) W;have g:=Int.emod_lt_of_pos ((n:Int) - J) (show 0 < W by lia);rw [<- v,<- hd,Int.mul_comm] at e;rw [<- hd] at g;have u:(q:Int)<=s.times:=by
  apply Classical.byContradiction;intro E;have:=Int.mul_le_mul_of_nonneg_right (show s.times + 1<=(q:Int) by lia) (show 0<=W by lia);rw [Int.add_mul,Int.one_mul,Int.mul_comm s.times] at this;lia
 refine ⟨q,d,by lia,g,u,fun h=>?_,fun p=>?_⟩
 ·rw [h,Int.mul_comm] at e;lia
 ·have z:n=(J.toNat + q * W.toNat) + d:=by
   have I:((q * W.toNat:Nat):Int)=(q:Int) * W:=by rw [Int.natCast_mul,Int.toNat_of_nonneg (show 0<=W by lia)]
   lia
  have ch:=U.chain F.ok (w:=s.winner) (y:=y) (a:=J.toNat) (by lia) p q (fun i hi=>by rw [hW];exact m i (by lia));rw [hW] at ch;rw [z,Jao,ch];have b:=U.all F.ok l (by lia) p;rw [hJ] at b;rw [b]
theorem J4v(F:J55 f r T s)(U:Uni f pc r T)(e:s.isHome=false)(own:s.own=false)(A:Jo (s.behind r) y j o)(c:j∈s.losers r){n t:Nat}(l:(t:Int)<=s.times)(m:(t:Int) * T.getD s.winner 0<=n){d:Nat}(hd:(n:Int)=(t:Int) * T.getD s.winner 0 + d)(p:Nat):
  vis f pc p n y=(t:Int) * Vv f pc r T p s.winner + vis f pc p d (itN f (t * (T.getD s.winner 0).toNat) y):=by
 obtain ⟨b,_⟩:=J7r F e own A c;have h:=F.win.2.1;have g:n=t * (T.getD s.winner 0).toNat + d:=by
  have q:((t * (T.getD s.winner 0).toNat:Nat):Int)=(t:Int) * T.getD s.winner 0:=by rw [Int.natCast_mul,Int.toNat_of_nonneg (show 0<=T.getD s.winner 0 by lia)]
  lia
 have ch:=U.chain F.ok (w:=s.winner) (y:=y) (a:=0) (by lia) p t (fun i hi=>by rw [Nat.zero_add];exact b i (by lia));rw [Nat.zero_add] at ch;rw [g,Jao,ch];show (0:Int) + _ + _=_;lia
end
section
variable{f:Int->Int}{pc:Int->Nat}{r:Rst}{T:List Int}
theorem J95{s:Stp}{r:Rst}{j:Nat}(h:j∈s.losers r):s.isHome=false:=by
 cases s with
 | home a=>cases h
 | even a b=>rfl
 | over a b=>rfl
 | under a b=>rfl
 | overs a t=>rfl
 | unders a t=>rfl
theorem Uni.next(F:J55 f r T (nextN r))(U:Uni f pc r T):Uni f pc ((nextN r).behind r) (towB (nextN r) r T):=by
 intro p j y o D o' n A l b;rw [J7c F.ok F.ne F.len A.1] at b;by_cases c:j∈(nextN r).losers r
 ·rw [if_pos c] at b;have g:=J95 c;have S:=F.win.2.1;have X:=F.tms.1
  cases own:(nextN r).own with
  | true =>
   obtain ⟨⟨o0,R⟩,v⟩:=J4k F own A c;obtain ⟨⟨H,C⟩,a⟩:=J4k F own l c;by_cases J:(n:Int)<=T.getD j 0
   ·exact U p j y _ D _ n R C J
   ·obtain ⟨t,d,e1,O,e3,M,K⟩:=J71 F U own A c (n:=n) (by lia) b;obtain ⟨t',d',P,z,N,L,w⟩:=J71 F U own l c (n:=n) (by lia) b;have i:((n:Int) - T.getD j 0) / T.getD (nextN r).winner 0=t:=by
     rw [show (n:Int) - T.getD j 0=(d:Int) + T.getD (nextN r).winner 0 * t by rw [Int.mul_comm];lia,Int.add_mul_ediv_left _ _ (by lia),Int.ediv_eq_zero_of_lt (by lia) O];lia
    have h:((n:Int) - T.getD j 0) / T.getD (nextN r).winner 0=t':=by
     rw [show (n:Int) - T.getD j 0=(d':Int) + T.getD (nextN r).winner 0 * t' by rw [Int.mul_comm];lia,Int.add_mul_ediv_left _ _ (by lia),Int.ediv_eq_zero_of_lt (by lia) z];lia
    obtain rfl:t=t':=by lia
    obtain rfl:d=d':=by lia
    rw [K,w];by_cases ct:(t:Int)=(nextN r).times
    ·rw [M ct];rfl
    ·obtain ⟨o1,B⟩:=v t (by lia);obtain ⟨m,s⟩:=a t (by lia);rw [U p _ _ _ _ _ d B s (by lia)]
  | false =>
   obtain ⟨v,⟨Z,E⟩⟩:=J7r F g own A c;obtain ⟨a,⟨G,Q⟩⟩:=J7r F g own l c;generalize hW:T.getD (nextN r).winner 0=W at *;by_cases ct:(nextN r).times * W<=n
   ·obtain ⟨d,hd⟩:∃ d:Nat,(n:Int)=(nextN r).times * W + d:=⟨((n:Int) - (nextN r).times * W).toNat,by lia⟩;have u:=Jhw F;have i:=J4v F U g own A c (n:=n) (t:=(nextN r).times.toNat) (d:=d) (by lia) (by rw [u,hW];exact ct) (by rw [u,hW];exact hd) p;have h:=J4v F U g own l c (n:=n) (t:=(nextN r).times.toNat) (d:=d) (by lia) (by rw [u,hW];exact ct) (by rw [u,hW];exact hd) p;rw [hW] at i h;rw [Int.mul_comm] at hd;rw [i,h,U p _ _ _ _ _ d E Q (by lia)]
   ·obtain ⟨q,I⟩:∃ q:Nat,(q:Int)=(n:Int) / W:=⟨((n:Int) / W).toNat,by have:=Int.ediv_nonneg (show 0<=(n:Int) by lia) (show 0<=W by lia);lia⟩;obtain ⟨d,hd⟩:∃ d:Nat,(d:Int)=(n:Int) % W:=⟨((n:Int) % W).toNat,by have:=Int.emod_nonneg (n:Int) (show W≠0 by lia);lia⟩;have e:=Int.mul_ediv_add_emod (n:Int) W;have dl:=Int.emod_lt_of_pos (n:Int) (show 0 < W by lia);rw [<- I,<- hd,Int.mul_comm] at e;have Y:(q:Int) < (nextN r).times:=by
     apply Classical.byContradiction;intro hc;have:=Int.mul_le_mul_of_nonneg_right (show (nextN r).times<=(q:Int) by lia) (show 0<=W by lia);lia
    have i:=J4v F U g own A c (n:=n) (t:=q) (d:=d) (by lia) (by rw [hW];lia) (by rw [hW];lia) p;have h:=J4v F U g own l c (n:=n) (t:=q) (d:=d) (by lia) (by rw [hW];lia) (by rw [hW];lia) p;obtain ⟨o1,B⟩:=v q (by lia);obtain ⟨m,s⟩:=a q (by lia);rw [hW] at i h;rw [i,h,U p _ _ _ _ _ d B s (by lia)]
 ·rw [if_neg c,Int.add_zero] at b;obtain ⟨o1,B⟩:=J76 F.np F.ret A c;obtain ⟨m,s⟩:=J76 F.np F.ret l c;exact U p j y _ D _ n B s b
end
structure Jep(f:Int->Int)(pc:Int->Nat)(r:Rst)(T:List Int)(s:Stp)(y:Int)(j:Nat)(due own tms:Int)(j':Nat)(due' y':Int):Prop where
 at_:∃ o,Jo r y' j' o
 d:0<=due'/\due' < T.getD j' 0
 it:itN f due'.toNat y'=itN f due.toNat y
 vs:∀ p,vis f pc p due.toNat y=own * Vv f pc r T p j + tms * Vv f pc r T p s.winner + vis f pc p due'.toNat y'
 sum:due=own * T.getD j 0 + tms * T.getD s.winner 0 + due'
 o:own=0\/own=1
 t:0<=tms/\tms<=s.times
 nh:(own=0/\tms=0)\/s.isHome=false
 own1:own=1->s.own=true
 go_:y'=if own=0/\tms=0 then y else if s.own=true then go r y - tms * J2 r.ls (s.losers r) else go r y + (tms - 1) * J2 r.ls (s.losers r)
section
variable{f:Int->Int}{pc:Int->Nat}{r:Rst}{T:List Int}{s:Stp}{y o due:Int}{j:Nat}
theorem Jc7(F:J55 f r T s)(A:∃ o,Jo r y j o)(hd:0<=due/\due < T.getD j 0):Jep f pc r T s y j due 0 0 j due y where
 at_:=A
 d:=hd
 it:=rfl
 vs:=fun p=>by lia
 sum:=by lia
 o:=.inl rfl
 t:=⟨by lia,by have:=F.tms.1;lia⟩
 nh:=.inl ⟨rfl,rfl⟩
 own1:=fun h=>by lia
 go_:=by rw [if_pos ⟨rfl,rfl⟩]
theorem Jnk(F:J55 f r T s)(U:Uni f pc r T)(own:s.own=true)(A:Jo (s.behind r) y j o)(c:j∈s.losers r)(hd:T.getD j 0<=due/\due < T.getD j 0 + T.getD s.winner 0 * s.times):
  Jep f pc r T s y j due 1 ((due - T.getD j 0) / T.getD s.winner 0) s.winner ((due - T.getD j 0) % T.getD s.winner 0) (go r y - (due - T.getD j 0) / T.getD s.winner 0 * J2 r.ls (s.losers r)):=by
 have D:=F.win.2.1;have G:=F.twr.pos j (F.down.sub j A.1);obtain ⟨_,up⟩:=J77 F.ok F.ne F.np F.okl F.ret F.twr own A c (due:=due) (by lia) hd.2;obtain ⟨u,q,i,g,e⟩:=up hd.1 _ rfl;have b:due - T.getD j 0 - (due - T.getD j 0) / T.getD s.winner 0 * T.getD s.winner 0=(due - T.getD j 0) % T.getD s.winner 0:=by
  have:=Int.mul_ediv_add_emod (due - T.getD j 0) (T.getD s.winner 0);rw [Int.mul_comm] at this;lia
 rw [b] at g e;refine ⟨i,g,e,fun p=>?_,by rw [Int.one_mul,<- b];generalize (due - T.getD j 0) / T.getD s.winner 0 * T.getD s.winner 0=z;lia,.inr rfl,⟨u,Int.le_of_lt q⟩,.inr (J95 c),(fun _=>own),by rw [if_neg (fun h=>by have:=h.1;lia),if_pos own]⟩;obtain ⟨n,l⟩:∃ n:Nat,(n:Int)=due:=⟨due.toNat,by lia⟩;obtain ⟨t,d,J,C,I,H,w⟩:=J71 F U own A c (n:=n) (by lia) (by lia);have a:(due - T.getD j 0) / T.getD s.winner 0=t:=by
  rw [show due - T.getD j 0=(d:Int) + T.getD s.winner 0 * t by rw [Int.mul_comm];lia,Int.add_mul_ediv_left _ _ (by lia),Int.ediv_eq_zero_of_lt (by lia) C];lia
 have v:(due - T.getD j 0) % T.getD s.winner 0=d:=by rw [<- b,a];lia
 rw [<- l,Int.toNat_natCast,w p,l,a,v,Int.toNat_natCast,Int.one_mul];obtain ⟨o1,B⟩:=(J4k F own A c).2 t (by lia);obtain ⟨E,m⟩:=i;rw [a] at m;rw [U p _ _ _ _ _ d B m (by lia)]
theorem Jnj(F:J55 f r T s)(U:Uni f pc r T)(own:s.own=false)(A:Jo (s.behind r) y j o)(c:j∈s.losers r)(hd:0<=due/\due < T.getD j 0 + T.getD s.winner 0 * s.times){t:Int}(H:0<=t)(m:t<=s.times)(G:t * T.getD s.winner 0<=due)(i:t < s.times->due < (t + 1) * T.getD s.winner 0):
  Jep f pc r T s y j due 0 t (if t=s.times then j else s.winner) (due - t * T.getD s.winner 0) (if t=0 then y else go r y + (t - 1) * J2 r.ls (s.losers r)):=by
 have e:=J95 c;have K:=F.win.2.1;have L:=F.tms.1;obtain ⟨u,up⟩:=J8v F.ok F.ne F.np F.okl F.ret F.twr e own A c (due:=due) hd.1 hd.2;obtain ⟨n,D⟩:∃ n:Nat,(n:Int)=due:=⟨due.toNat,by lia⟩;obtain ⟨b,a⟩:∃ b:Nat,(b:Int)=t:=⟨t.toNat,by lia⟩;obtain ⟨d,g⟩:∃ d:Nat,(d:Int)=due - t * T.getD s.winner 0:=⟨(due - t * T.getD s.winner 0).toNat,by lia⟩;have I:=fun p=>J4v F U e own A c (n:=n) (t:=b) (d:=d) (by lia) (by rw [a];lia) (by rw [a];lia) p;by_cases ct:t=0
 ·subst ct;have i:=i (by lia);rw [if_neg (show ¬ (0:Int)=s.times by lia),if_pos rfl];exact ⟨u,⟨by lia,by lia⟩,by rw [show due - 0 * T.getD s.winner 0=due by lia],fun p=>by rw [show due - 0 * T.getD s.winner 0=due by lia];lia,by lia,.inl rfl,⟨by lia,by lia⟩,.inr e,(fun h=>by lia),by rw [if_pos ⟨rfl,rfl⟩]⟩
 ·obtain ⟨l,w,v⟩:=up t (by lia) m G i;rw [if_neg ct];refine ⟨l,w,v,fun p=>?_,by lia,.inl rfl,⟨H,m⟩,.inr e,(fun h=>by lia),by rw [if_neg (fun h=>ct h.2),if_neg (by rw [own];decide)]⟩;rw [<- g,Int.toNat_natCast,<- D,Int.toNat_natCast,I p,a];obtain ⟨q,z,E⟩:=J7r F e own A c;have C:∃ o,Jo r (itN f (b * (T.getD s.winner 0).toNat) y) (if t=s.times then j else s.winner) o:=by
   by_cases cs:t=s.times
   ·rw [if_pos cs,show b=s.times.toNat by lia];exact ⟨z,E⟩
   ·rw [if_neg cs];exact q b (by lia)
  obtain ⟨o1,B⟩:=C;obtain ⟨M,J⟩:=l;rw [U p _ _ _ _ _ d B J (by lia)];lia
end
theorem Cok.uni{p:Cst}(h:Cok p)(one:∀ j∈p.1.top,p.2.getD j 0=1){e:Int->Nat}(a:∀ y j o,Jo p.1 y j o->e y=j){m:Nat}(l:Long p m):∀ {k:Nat},k<=m->Uni (go p.1) e (chN p k).1 (chN p k).2
 | 0,_=>fun q j y o d f n A c b=>by
  have A:Jo p.1 y j o:=A;have c:Jo p.1 d j f:=c;have b:(n:Int)<=p.2.getD j 0:=b;rw [one j A.1] at b;have:n=0\/n=1:=by lia
  rcases this with rfl | rfl
  ·rfl
  ·rw [Jhs,Jhs,a y j o A,a d j f c]
 | k + 1,hk=>Uni.next (h.stepF one l (show k < m by lia)) (Cok.uni h one a l (by lia))
noncomputable abbrev J7h(p:Cst)(m:Nat):List Nat:=(List.range m).filter fun k=>(nextN (chN p k).1).isHome
theorem J78(p:Cst):∀ m,bndN p m=(J7h p m).map fun k=>J2s (chN p k)
 | 0=>rfl
 | m + 1=>by
  show bndN p m ++ bndB (chN p m)=((List.range (m + 1)).filter _).map _;rw [J78 p m,range_succ,filter_append,map_append]
  congr 1
  unfold bndB
  cases e:(nextN (chN p m).1).isHome with
  | true=>rw [if_pos rfl,List.filter_cons_of_pos (by simpa using e)];rfl
  | false=>rw [if_neg (by decide),List.filter_cons_of_neg (by simp [e])];rfl
theorem Jot{p:Cst}{m b:Nat}(hb:b < (bndN p m).length):∃ k,(J7h p m)[b]?=some k/\k < m/\(nextN (chN p k).1).isHome=true/\(bndN p m).getD b bz0=J2s (chN p k):=by
 have a:b < (J7h p m).length:=by rw [J78,length_map] at hb;exact hb
 have d:(J7h p m)[b]∈J7h p m:=List.getElem_mem a;have c:=mem_filter.mp d;refine ⟨(J7h p m)[b],List.getElem?_eq_getElem a,mem_range.mp c.1,by simpa using c.2,?_⟩;rw [J78,getD_eq_getElem?_getD,getElem?_map,List.getElem?_eq_getElem a];rfl
noncomputable def offA(b:Band)(q o:Int):Int:=if q % 2=1 then J5n b o else o
theorem Je4{b:Band}{q o:Int}(c:0<=o)(a:o < b.2.1):0<=offA b q o/\offA b q o < b.2.1:=by
 unfold offA;split
 ·exact J6p c a
 ·exact ⟨c,a⟩
theorem Bnd.round{f:Int->Int}{b:Band}(B:Bnd f b){o:Int}(d:0<=o)(a:o < b.2.1):∀ n:Nat,itN f (n * b.2.2.1.toNat) (b.1 + o)=b.1 + offA b (n:Int) o
 | 0=>by rw [Nat.zero_mul];rfl
 | n + 1=>by
  rw [Nat.succ_mul,J1a,B.round d a n];have i:=Je4 (b:=b) (q:=(n:Int)) d a;rw [B.back i.1 i.2]
  congr 1
  unfold offA;have e:(((n + 1:Nat):Int)) % 2=1↔¬ (n:Int) % 2=1:=by lia
  by_cases c:(n:Int) % 2=1
  ·rw [if_pos c,if_neg (fun h=>e.mp h c),J97]
  ·rw [if_neg c,if_pos (e.mpr c)]
section
variable{f:Int->Int}{N:Int}{bs:List Band}
theorem Sys.go_on(S:Sys f N bs){b:Nat}{o a:Int}(A:Adr bs b o a){g:Int}(r:0<=g):
  Adr bs b (offA (bs.getD b bz0) ((a + g) / (bs.getD b bz0).2.2.1) o) ((a + g) % (bs.getD b bz0).2.2.1)/\itN f g.toNat (plOf f bs b o a)=plOf f bs b (offA (bs.getD b bz0) ((a + g) / (bs.getD b bz0).2.2.1) o) ((a + g) % (bs.getD b bz0).2.2.1):=by
 have B:=S.bnd _ (J5q A.hb);have s:=B.2.1;have h:=A.o0;have d:=A.o1;have w:=A.l0;have v:=A.l1;have i:=Je4 (b:=bs.getD b bz0) (q:=(a + g) / (bs.getD b bz0).2.2.1) h d;have l:=Int.emod_nonneg (a + g) (show (bs.getD b bz0).2.2.1≠0 by lia);have j:=Int.emod_lt_of_pos (a + g) (show 0 < (bs.getD b bz0).2.2.1 by lia);refine ⟨⟨A.hb,i.1,i.2,l,j⟩,?_⟩;unfold plOf;generalize bs.getD b bz0=c at *;have p:0<=(a + g) / c.2.2.1:=Int.ediv_nonneg (by lia) (by lia);have n:=Int.mul_ediv_add_emod (a + g) c.2.2.1;obtain ⟨q,m⟩:∃ q:Nat,(a + g) / c.2.2.1=q:=⟨((a + g) / c.2.2.1).toNat,by lia⟩;rw [m] at n ⊢;rw [<- J1a];have e:a.toNat + g.toNat=q * c.2.2.1.toNat + ((a + g) % c.2.2.1).toNat:=by
  have u:((q * c.2.2.1.toNat:Nat):Int)=c.2.2.1 * (q:Int):=by
   rw [Int.natCast_mul,show ((c.2.2.1.toNat:Nat):Int)=c.2.2.1 by lia,Int.mul_comm]
  lia
 rw [e,J1a,B.round h d q]
theorem Sys.go_back(S:Sys f N bs){b:Nat}{o a:Int}(A:Adr bs b o a){g:Int}(r:g<=0):
  Adr bs b (offA (bs.getD b bz0) ((a + g) / (bs.getD b bz0).2.2.1) o) ((a + g) % (bs.getD b bz0).2.2.1)/\itN f (-g).toNat (plOf f bs b (offA (bs.getD b bz0) ((a + g) / (bs.getD b bz0).2.2.1) o) ((a + g) % (bs.getD b bz0).2.2.1))=plOf f bs b o a:=by
 have B:=S.bnd _ (J5q A.hb);have s:=B.2.1;have n:=A.o0;have m:=A.o1;have w:=A.l0;have v:=A.l1;have i:=Je4 (b:=bs.getD b bz0) (q:=(a + g) / (bs.getD b bz0).2.2.1) n m;have j:=Int.emod_nonneg (a + g) (show (bs.getD b bz0).2.2.1≠0 by lia);have h:=Int.emod_lt_of_pos (a + g) (show 0 < (bs.getD b bz0).2.2.1 by lia);refine ⟨⟨A.hb,i.1,i.2,j,h⟩,?_⟩;unfold plOf;generalize bs.getD b bz0=c at *;have d:=Int.mul_ediv_add_emod (a + g) c.2.2.1;have p:(a + g) / c.2.2.1<=0:=by
  apply Classical.byContradiction;intro k;have:c.2.2.1 * 1<=c.2.2.1 * ((a + g) / c.2.2.1):=Int.mul_le_mul_of_nonneg_left (by lia) (by lia);lia
 obtain ⟨q,l⟩:∃ q:Nat,(a + g) / c.2.2.1=-(q:Int):=⟨(-((a + g) / c.2.2.1)).toNat,by lia⟩;rw [l] at d i ⊢;rw [<- J1a];have e:((a + g) % c.2.2.1).toNat + (-g).toNat=q * c.2.2.1.toNat + a.toNat:=by
  have u:((q * c.2.2.1.toNat:Nat):Int)=c.2.2.1 * (q:Int):=by
   rw [Int.natCast_mul,show ((c.2.2.1.toNat:Nat):Int)=c.2.2.1 by lia,Int.mul_comm]
  rw [Int.mul_neg] at d;lia
 rw [e,J1a,B.round i.1 i.2 q]
 congr 2
 unfold offA;by_cases k:(q:Int) % 2=1
 ·rw [if_pos k,if_pos (show (-(q:Int)) % 2=1 by lia),J97]
 ·rw [if_neg k,if_neg (show ¬ (-(q:Int)) % 2=1 by lia)]
structure J4j(f:Int->Int)(x:Int)(n:Nat):Prop where
 pos:0 < n
 back:itN f n x=x
 least:∀ i,0 < i->i < n->itN f i x≠x
noncomputable def lenR(b:Band)(o:Int):Int:=if b.2.2.2=true/\o≠b.2.1 - 1 - o then 2 * b.2.2.1 else b.2.2.1
theorem Sys.rnd(S:Sys f N bs)(A:Adr bs b o lv):J4j f (plOf f bs b o lv) (lenR (bs.getD b bz0) o).toNat/\1<=lenR (bs.getD b bz0) o:=by
 have B:=S.bnd _ (J5q A.hb);have u:=B.2.1;have m:=A.o0;have h:=A.o1;have w:=A.l0;have v:=A.l1;have lo:=S.lo _ (J5q A.hb);have inn:=S.itin (y:=(bs.getD b bz0).1 + o) (by lia) (by lia);unfold plOf;generalize bs.getD b bz0=c at *;have q:1<=lenR c o:=by unfold lenR;split <;> lia
 have g:=B.back m h;have fi:=J6p m h;have a:=B.back fi.1 fi.2;rw [J97] at a;refine ⟨⟨by lia,?_,fun i s p e=>?_⟩,q⟩
 ·rw [<- J1a,Nat.add_comm,J1a]
  congr 1
  unfold lenR;split
  ·rw [show (2 * c.2.2.1).toNat=c.2.2.1.toNat + c.2.2.1.toNat by lia,J1a,g,a]
  ·rename_i k;rw [g]
   congr 1
   unfold J5n;split
   ·rename_i t;by_cases e:o=c.2.1 - 1 - o
    ·lia
    ·exact absurd ⟨t,e⟩ k
   ·rfl
 ·rw [<- J1a,Nat.add_comm,J1a] at e;have n:=inn i;have d:=S.itinj n.1 n.2 (by lia) (by lia) lv.toNat e;by_cases k:(i:Int) < c.2.2.1
  ·have:=B.high m h s k;lia
  ·unfold lenR at p;split at p
   ·rename_i t;obtain ⟨j,rfl⟩:∃ j,i=c.2.2.1.toNat + j:=⟨i - c.2.2.1.toNat,by lia⟩;rw [J1a,g] at d;by_cases r:j=0
    ·subst r;have d:c.1 + J5n c o=c.1 + o:=d;unfold J5n at d;rw [if_pos t.1] at d;exact t.2 (by lia)
    ·have:=B.high fi.1 fi.2 (l:=j) (by lia) (by lia);lia
   ·lia
theorem J4j.mul(R:J4j f x n):∀ k,itN f (k * n) x=x
 | 0=>by rw [Nat.zero_mul];rfl
 | k + 1=>by rw [Nat.succ_mul,J1a,R.mul k,R.back]
theorem J4j.mod(R:J4j f x n)(m:Nat):itN f m x=itN f (m % n) x:=by
 have e:m=(m / n) * n + m % n:=by rw [Nat.mul_comm];exact (Nat.div_add_mod m n).symm
 conv=>lhs;rw [e]
 rw [J1a,R.mul]
theorem J4j.uniq(R:J4j f x n)(a:J4j f x m):n=m:=by
 rcases Nat.lt_trichotomy n m with h | h | h
 ·exact absurd R.back (a.least n R.pos h)
 ·exact h
 ·exact absurd a.back (R.least m a.pos h)
theorem Sys.rnd_inj(S:Sys f N bs)(l:0<=x)(g:x < N)(R:J4j f x n)(hi:i < n)(c:j < n)(e:itN f i x=itN f j x):i=j:=by
 have a:∀ {i j:Nat},i<=j->j < n->itN f i x=itN f j x->i=j:=fun {i j} le c e=>by
  obtain ⟨d,rfl⟩:∃ d,j=d + i:=⟨j - i,by lia⟩;rw [J1a] at e;have b:=S.itin l g d;have m:=S.itinj l g b.1 b.2 i e;by_cases o:d=0
  ·lia
  ·exact absurd m.symm (R.least d (by lia) (by lia))
 rcases Nat.le_total i j with h | h
 ·exact a h c e
 ·exact (a h hi e.symm).symm
theorem Sys.rnd_iff(S:Sys f N bs)(b:0<=x)(a:x < N)(R:J4j f x n)(hd:d < n)(m:Nat):itN f m x=itN f d x↔m % n=d:=by
 rw [R.mod m];constructor
 ·exact fun e=>S.rnd_inj b a R (Nat.mod_lt _ R.pos) hd e
 ·exact fun e=>by rw [e]
end
theorem Jg2{f:Int->Int}:∀ {bs:List Band},(∀ b∈bs,Bnd f b)->∀ b∈bs,b.2.1 * b.2.2.1<=(bs.map fun b=>b.2.1 * b.2.2.1).sum
 | c :: bs,h,b,hb=>by
  have a:∀ d∈c :: bs,0<=d.2.1 * d.2.2.1:=fun d hd=>Int.mul_nonneg (by have:=(h d hd).1;lia) (by have:=(h d hd).2.1;lia);have ns:0<=(bs.map fun b=>b.2.1 * b.2.2.1).sum:=by
   clear hb;have g:∀ d∈bs,0<=d.2.1 * d.2.2.1:=fun d hd=>a d (mem_cons_of_mem _ hd);clear a h
   induction bs with
   | nil=>exact Int.le_refl _
   | cons d bs ih =>
    rw [map_cons,sum_cons];have:=g d mem_cons_self;have:=ih fun e i=>g e (mem_cons_of_mem _ i);lia
  rw [map_cons,sum_cons];rcases mem_cons.mp hb with rfl | hb
  ·lia
  ·have:=Jg2 (bs:=bs) (fun d hd=>h d (mem_cons_of_mem _ hd)) b hb;have:=a c mem_cons_self;lia
theorem Sys.high{f:Int->Int}{N:Int}{bs:List Band}(S:Sys f N bs){b:Nat}(hb:b < bs.length):1<=(bs.getD b bz0).2.2.1/\(bs.getD b bz0).2.2.1<=N:=by
 have B:=S.bnd _ (J5q hb);have h:=Jg2 S.bnd _ (J5q hb);rw [S.sum] at h;have w:=B.1;have a:=B.2.1;have:1 * (bs.getD b bz0).2.2.1<=(bs.getD b bz0).2.1 * (bs.getD b bz0).2.2.1:=Int.mul_le_mul_of_nonneg_right w (by lia);exact ⟨a,by lia⟩
theorem Sys.hasRnd(S:Sys f N bs)(c:0<=x)(a:x < N):∃ n,J4j f x n:=by
 obtain ⟨b,o,d,A,e⟩:=S.exists c a;have:=(S.rnd A).1;rw [e] at this;exact ⟨_,this⟩
end Rl
namespace PySem
namespace F
end F
end PySem
namespace L2
open PySem PyProof.Rows
end L2
namespace L2
open PySem PySem.Spec PyProof.Rows
end L2
namespace Rl
noncomputable def bndS(S:List Sr):List Int:=(S.drop 1).map Sr.fi
end Rl
namespace L2
open PySem PySem.Spec PyProof.Rows
section
variable{κ:Type}[DecidableEq κ]
noncomputable def valV(kvs:List (κ × V))(k:κ):Option V:=(kvs.find? fun a=>decide (a.1=k)).map (·.2)
noncomputable def putK(kvs:List (κ × V))(k:κ)(v:V):List (κ × V):=
 if (kvs.any fun a=>decide (a.1=k))=true then kvs.map (fun a=>if a.1=k then (a.1,v) else a) else kvs ++ [(k,v)]
theorem J2m{p:κ × V}(e:p.1=k):valV (p :: r) k=some p.2:=by simp [valV,e]
theorem J2n{p:κ × V}(e:¬ p.1=k):valV (p :: r) k=valV r k:=by simp [valV,e]
theorem J5a(k:κ):∀ kvs ,(kvs.any fun a=>decide (a.1=k))=(valV kvs k).isSome
 | []=>rfl
 | p :: r=>by
  rw [List.any_cons];by_cases e:p.1=k
  ·simp only [J2m e,decide_eq_true e,Bool.true_or,Option.isSome_some]
  ·rw [J2n e,decide_eq_false e,Bool.false_or];exact J5a k r
theorem Jer(k j:κ)(y:V):∀ kvs ,valV (kvs.map fun a=>if a.1=k then (a.1,y) else a) j=(valV kvs j).map fun x=>if j=k then y else x
 | []=>rfl
 | p :: r=>by
  have b:=Jer k j y r;rw [map_cons];by_cases h:p.1=k
  ·rw [if_pos h];by_cases e:p.1=j
   ·rw [J2m (p:=(p.1,y)) e,J2m e,map_some,if_pos (e.symm.trans h)]
   ·rw [J2n (p:=(p.1,y)) e,J2n e,b]
  ·rw [if_neg h];by_cases e:p.1=j
   ·rw [J2m (p:=p) e,J2m e,map_some,if_neg (fun z=>h (e.trans z))]
   ·rw [J2n (p:=p) e,J2n e,b]
theorem Jbs(k j:κ)(y:V):∀ kvs ,valV kvs k=none->valV (kvs ++ [(k,y)]) j=if j=k then some y else valV kvs j
 | [],_=>by
  by_cases e:k=j
  ·rw [if_pos e.symm];exact J2m (p:=(k,y)) e
  ·rw [if_neg (fun z=>e z.symm)];exact J2n (p:=(k,y)) e
 | p :: r,hn=>by
  rw [cons_append];have a:¬ p.1=k:=fun z=>by rw [J2m z] at hn;cases hn
  rw [J2n a] at hn;have b:=Jbs k j y r hn;by_cases e:p.1=j
  ·rw [J2m e,J2m e,if_neg (fun z=>a (e.trans z))]
  ·rw [J2n e,J2n e,b]
theorem Jm3(kvs:List (κ × V))(k j:κ)(y:V):valV (putK kvs k y) j=if j=k then some y else valV kvs j:=by
 unfold putK;by_cases a:(kvs.any fun b=>decide (b.1=k))=true
 ·rw [if_pos a,Jer];rw [J5a] at a;by_cases e:j=k
  ·obtain ⟨x,c⟩:=isSome_iff_exists.mp a;rw [if_pos e,e,c,map_some,if_pos rfl]
  ·rw [if_neg e]
   cases valV kvs j with
   | none=>rfl
   | some x=>rw [map_some,if_neg e]
 ·rw [if_neg a];refine Jbs k j y kvs ?_;rw [J5a] at a
  cases q:valV kvs k with
  | none=>rfl
  | some x=>rw [q] at a;exact (a rfl).elim
theorem J8x(kvs:List (κ × V))(k:κ)(v:V):(putK kvs k v).length<=kvs.length + 1:=by
 unfold putK;split
 ·grind
 ·simp_all
theorem Jnd{kvs:List (κ × V)}(v:V)(h:valV kvs k=none):putK kvs k v=kvs ++ [(k,v)]:=by
 unfold putK;rw [J5a,h];exact if_neg (by decide)
theorem RelO.isSome_eq(r:RelO o u):o.isSome=u.isSome:=by
 cases o with
 | none=>cases u with
  | none=>rfl
  | some _=>exact (show False from r).elim
 | some _=>cases u with
  | none=>exact (show False from r).elim
  | some _=>rfl
theorem RelO.getD(r:RelO o u)(rd:RelV d d'):RelV (o.getD d) (u.getD d'):=by
 cases o with
 | none=>cases u with
  | none=>exact rd
  | some _=>exact (show False from r).elim
 | some _=>cases u with
  | none=>exact (show False from r).elim
  | some _=>exact r
theorem KV.val(r:KV kvs vs)(k:κ):RelO (valV kvs k) (valueAt vs k):=by
 induction r with
 | nil=>exact True.intro
 | @cons p q ps qs h t ih =>
  obtain ⟨c,d⟩:=h;by_cases e:p.1=k
  ·have a:=c.symm.trans e;have b:valueAt (q :: qs) k=some q.2:=by simp [valueAt,a]
   rw [J2m e,b];exact d
  ·have a:¬ q.1=k:=fun z=>e (c.trans z);have b:valueAt (q :: qs) k=valueAt qs k:=by simp [valueAt,a]
   rw [J2n e,b];exact ih
theorem KV.any(r:KV kvs vs)(k:κ):(kvs.any fun a=>decide (a.1=k))=vs.any fun a=>decide (a.1=k):=by
 induction r with
 | nil=>rfl
 | cons h t ih=>simp_all
theorem KV.repl(r:KV kvs vs)(k:κ)(c:RelV y u):
  KV (kvs.map fun a=>if a.1=k then (a.1,y) else a) (vs.map fun a=>if a.1=k then (a.1,u) else a):=by
 induction r with
 | nil=>exact .nil
 | @cons p q ps qs h t ih =>
  rw [map_cons,map_cons];refine .cons ?_ ih;obtain ⟨b,d⟩:=h;by_cases e:p.1=k
  ·rw [if_pos e,if_pos (b.symm.trans e)];exact ⟨b,c⟩
  ·simp_all
theorem KV.put(r:KV kvs vs)(k:κ)(a:RelV y u):KV (putK kvs k y) (stored vs k u):=by
 unfold putK stored;rw [r.any k];by_cases e:(vs.any fun b=>decide (b.1=k))=true
 ·rw [if_pos e,if_pos e];exact r.repl k a
 ·rw [if_neg e,if_neg e];exact Paired.snoc r ⟨rfl,a⟩
theorem KV.keys{kvs:List (κ × V)}(r:KV kvs vs):kvs.map (·.1)=vs.map (·.1):=by
 induction r with
 | nil=>rfl
 | cons h t ih=>simp_all
theorem KV.length{kvs:List (κ × V)}(r:KV kvs vs):kvs.length=vs.length:=Paired.length r
end
theorem Jor(r:RelV (kV k) u):(J1z P w).is k u=true:=by
 cases k with
 | inl i=>obtain ⟨t,e⟩:=(show ∃ t,u=Value.int i t from r);subst e;exact Je6 P w i t
 | inr x=>obtain ⟨t,e⟩:=(show ∃ t,u=Value.str x t from r);subst e;exact Je5 P w x t
theorem Jcf :∀ {ks:List Key} {us:List Value},Vals (ks.map kV) us->ItemsAre (J1z P w) ks us
 | [],_,r=>by cases r;exact .nil
 | k :: ks,_,r=>by
  cases r with
  | cons h t=>exact .cons (Jor h) (Jcf t)
noncomputable abbrev KT(H:Hp):List (List Key × V)->List (List Key × Addr × Value)->Prop:=Paired fun p q=>p.1=q.1/\H q.2.1=some (.tup (p.1.map kV))/\RelV p.2 q.2.2
theorem KT.val(r:KT H kvs xs)(k:List Key):RelO (valV kvs k) ((atKey xs k).map (·.2)):=by
 induction r with
 | nil=>exact True.intro
 | @cons p q ps qs h t ih =>
  obtain ⟨c,_,d⟩:=h;by_cases e:p.1=k
  ·have a:=c.symm.trans e;have b:atKey (q :: qs) k=some q.2:=by simp [atKey,a]
   rw [J2m e,b];exact d
  ·have a:¬ q.1=k:=fun z=>e (c.trans z);have b:atKey (q :: qs) k=atKey qs k:=by simp [atKey,a]
   rw [J2n e,b];exact ih
theorem KT.repl(r:KT H kvs xs)(k:List Key)(d:RelV y u):
  KT H (kvs.map fun b=>if b.1=k then (b.1,y) else b) (xs.map (putAt k u)):=by
 induction r with
 | nil=>exact .nil
 | @cons p q ps qs h t ih =>
  rw [ map_cons];refine .cons ?_ ih;obtain ⟨a,c,f⟩:=h;unfold putAt;by_cases e:p.1=k
  ·rw [if_pos e,if_pos (a.symm.trans e)];exact ⟨a,c,d⟩
  ·rw [if_neg e,if_neg (fun z=>e (a.trans z))];exact ⟨a,c,f⟩
theorem KT.put(r:KT H kvs xs)(k:List Key)(hb:H b=some (.tup (k.map kV)))(a:RelV y u):
  KT H (putK kvs k y) (storedH xs k b u):=by
 have e:(kvs.any fun c=>decide (c.1=k))=(atKey xs k).isSome:=by
  rw [J5a,(r.val k).isSome_eq,Option.isSome_map]
 unfold putK storedH;rw [e];by_cases q:(atKey xs k).isSome=true
 ·rw [if_pos q,if_pos q];exact r.repl k a
 ·rw [if_neg q,if_neg q];exact Paired.snoc r ⟨rfl,hb,a⟩
theorem KT.keeps(r:KT H kvs xs)(c:∀ b a,H b=some (.tup a)->H' b=some (.tup a)):KT H' kvs xs:=
 Paired.mapP r fun _ _ z=>⟨z.1,c _ _ z.2.1,z.2.2⟩
section
variable{P:Program}{w:World}{H:Hp}{h:Heap}{a:Addr}
theorem rd_of(ok:HOk P w H h)(e:Rd H a u):J34 P w H h a u:=e.ok ok
theorem Jli(ok:HOk P w H h)(e:Rd H a (.dK kvs)):kvs.length<=sizeLine/\(a == sysModules)=false/\∃ vs,KV kvs vs/\h.DictOf (J1z P w) a vs:=
 show J34 P w H h a (.dK kvs) from rd_of ok e
theorem Jsj(ok:HOk P w H h)(e:H a=some (.dK kvs)):kvs.length<=sizeLine/\(a == sysModules)=false/\∃ vs,KV kvs vs/\h.DictOf (J1z P w) a vs:=Jli ok (.inl e)
theorem Jfx(ok:HOk P w H h)(e:H a=some (.tup (ks.map kV))):(tupleKind (J1z P w)).is h ks a:=by
 obtain ⟨_,b,r,o,f,d,n,c⟩:=(show J34 P w H h a (.tup (ks.map kV)) from ok a _ e);exact ⟨o,b.toArray,n,f,d.1,c,by simpa using Jcf r⟩
theorem Jlh(ok:HOk P w H h)(e:Rd H a (.dT kvs)):kvs.length<=sizeLine/\(a == sysModules)=false/\
  ∃ xs,KT H kvs xs/\h.DictOfH (tupleKind (J1z P w)) a xs:=by
 obtain ⟨z,y,xs,r,o,j,ep,i,g,f,d,c⟩:=(show J34 P w H h a (.dT kvs) from rd_of ok e);refine ⟨z,y,xs,r,o,j,ep,i,g,f,d,fun x b=>?_,c⟩;have all:∀ {l:List (List Key × V)} {m:List (List Key × Addr × Value)},KT H l m->∀ x∈m,(tupleKind (J1z P w)).is h x.1 x.2.1:=by
  intro l m q
  induction q with
  | nil=>intro x b;exact nomatch b
  | @cons p q ps qs hq t ih =>
   intro x b;rcases mem_cons.mp b with e | b
   ·subst e;exact Jfx ok (by rw [<- hq.1];exact hq.2.1)
   ·exact ih x b
 exact all r x b
theorem dt_of(ok:HOk P w H h)(e:H a=some (.dT kvs)):kvs.length<=sizeLine/\(a == sysModules)=false/\
  ∃ xs,KT H kvs xs/\h.DictOfH (tupleKind (J1z P w)) a xs:=Jlh ok (.inl e)
end
noncomputable def DGet(H:Hp)(a:Addr)(y:V)(r:Option V):Prop:=
 (∃ kvs k,Rd H a (.dK kvs)/\y=kV k/\r=valV kvs k)\/∃ kvs k b,Rd H a (.dT kvs)/\y=.ref b/\H b=some (.tup (k.map kV))/\r=valV kvs k
noncomputable def DPut(H:Hp)(a:Addr)(y v:V)(c:Hp):Prop:=
 (∃ kvs k,H a=some (.dK kvs)/\y=kV k/\kvs.length < sizeLine/\c=upd H a (.dK (putK kvs k v)))\/
 ∃ kvs k b,H a=some (.dT kvs)/\y=.ref b/\H b=some (.tup (k.map kV))/\kvs.length < sizeLine/\c=upd H a (.dT (putK kvs k v))
theorem DGet.k{k:Key}(e:H a=some (.dK kvs)):DGet H a (kV k) (valV kvs k):=.inl ⟨kvs,k,.inl e,rfl,rfl⟩
theorem DPut.k{k:Key}(e:H a=some (.dK kvs))(b:kvs.length < sizeLine):DPut H a (kV k) v (upd H a (.dK (putK kvs k v))):=.inl ⟨kvs,k,e,rfl,b,rfl⟩
section
variable{X:Cx}{pins:List (Addr × Obj)}{σ:St}{H:Hp}{s:Shared}{a:Addr}{y v:V}{u r:Value}{o:Option V}{A:Around}{E:Value->Shared->Prop}
theorem Inv.big(I:Inv X pins σ H s):sysModules < s.heap.objs.size:=by
 have h:=(I.mod.glob.keeps I.bk).lt;exact Nat.lt_trans (by decide) h
theorem Jlo(n:A.units + 1 < cLine)(I:Inv X pins σ H s)(g:DGet H a y (some v))(m:RelV y u)(h:∀ f s',Inv X pins σ H s'->RelV v f->Q f s'):
  wpAny (model X.prog X.w) A (getItem (.ref a) u) Q E s:=by
 rcases g with ⟨kvs,k,e,ey,l⟩ | ⟨kvs,k,b,e,ey,eb,l⟩
 ·subst ey;obtain ⟨z,hd,vs,d,j⟩:=Jli I.hok e;obtain ⟨f,hw,c⟩:=RelO.some_of (v:=v) (o:=valueAt vs k) (by rw [l];exact d.val k);exact wpAny_getItem_of (Jor m) j.mapOf hw (h f _ (I.tok _) c)
 ·subst ey;cases (show u=Value.ref b from m);obtain ⟨z,hd,xs,d,j⟩:=Jlh I.hok e;obtain ⟨f,hw,c⟩:=RelO.some_of (v:=v) (o:=(atKey xs k).map (·.2)) (by rw [l];exact d.val k);obtain ⟨p,q,i⟩:=Option.map_eq_some_iff.mp hw;refine wpAny_getItem_heap (tupleKind_room_in1 n) (Jfx I.hok eb) j q ?_;rw [i];exact h f _ (I.tok _) c
theorem Jlm(I:Inv X pins σ H s)(mu:Mut (H a))(c:Heap.SameBut a s.heap h')(d:∃ q,h'.get? a=some q)(new:J34 X.prog X.w (upd H a ob) h' a ob):
  Inv X pins σ (upd H a ob) { s with heap:=h',toks:=t' }:=
 I.write (x:=a) (e:=a) mu (.inl rfl) (fun b q hb z=>(c.2 b hb).trans z) d new
theorem dk_new(z:kvs.length<=sizeLine)(hd:(a == sysModules)=false)(b:KV kvs vs)(c:h'.DictOf (J1z P w) a vs):
  J34 P w H' h' a (.dK kvs):=⟨z,hd,vs,b,c⟩
theorem Jln(D:A.units + 1 < cLine)(I:Inv X pins σ H s)(g:DPut H a y v H')(p:RelV y u)(B:RelV v r)(h:∀ s',Inv X pins σ H' s'->Q () s'):
  wpAny (model X.prog X.w) A (setItem (.ref a) u r) Q E s:=by
 rcases g with ⟨kvs,k,e,ey,l,eH⟩ | ⟨kvs,k,b,e,ey,eb,l,eH⟩
 ·subst ey eH;obtain ⟨z,hd,vs,d,o⟩:=Jsj I.hok e;have j:vs.length<=sizeLine:=by rw [<- d.length];exact z
  have n:(putK kvs k v).length<=sizeLine:=by have:=J8x kvs k v;omega
  refine wpAny_setItem_pairs (hsz:=j) (Jor p) o fun h' f m=>h _ ?_;have F:∃ q,h'.get? a=some q:=by obtain ⟨q,_,_,i,_⟩:=f;exact ⟨q,i⟩
  exact Jlm I (by rw [e];exact True.intro) m F (dk_new n hd (d.put k B) f)
 ·subst ey eH;cases (show u=Value.ref b from p);obtain ⟨z,hd,xs,d,o⟩:=dt_of I.hok e;have j:xs.length<=sizeLine:=by rw [<- Paired.length d];exact z
  have n:(putK kvs k v).length<=sizeLine:=by have:=J8x kvs k v;omega
  refine wpAny_setItem_heap (hsz:=j) (tupleKind_room_in1 D) (Jfx I.hok eb) o fun h' f m=>h _ ?_;obtain ⟨q,M,ep,i,L,K,J,_,G⟩:=f;refine Jlm I (by rw [e];exact True.intro) m ⟨q,i⟩ ⟨n,hd,_,(d.put k eb B).keeps fun c N C=>?_,q,M,ep,i,L,K,J,G⟩;rw [Jm (Joj C e (fun z=>nomatch z))];exact C
end
noncomputable def NoSl(i:Expr):Prop:=∀ a b,subscripted i false a b=operate [a,b] (getItem a b)
theorem Jqn{id:String}(j:typeLookup (.type T) "__getitem__"=pure (some (.builtin id)))(g:NoSl slice)(h:wpAny (model prog w) A (eval value env) (fun o d=>wpAny (model prog w) A (eval slice env) (fun i a=>a.TypeIs o T/\wpAny (model prog w) A (getItem o i) Q E a) E d) E s):
  wpAny (model prog w) A (eval (.Subscript value slice pos) env) Q E s:=by
 refine Subscript_ (wpAny_mono h (fun o d f=>wpAny_mono f (fun i a b=>?_) fun _ _ x=>x) fun _ _ x=>x);obtain ⟨l,b⟩:=b;refine wpAny_bind ?_;refine wpAny_bind (wpAny_specialOf l j ?_);have fin:wpAny (model prog w) A (subscripted slice false o i) (fun r c=>wpAny (model prog w) A (letTemporaryGo value o r >>= fun _=>pure r) Q E c) E a:=by
  rw [g o i];exact wpAny_operating (wpAny_mono b (fun r c e=>wpAny_bind (wpAny_letTemporaryGo (wpAny_pure e))) fun _ _ x=>x)
 first
  | exact wpAny_pure (wpAny_bind fin)
  | grind
  | exact wpAny_bind fin
theorem Jeh(I:Inv X pins σ H s)(g:DGet H a y o):s.TypeIs (.ref a) "dict":=by
 rcases g with ⟨kvs,k,e,_,_⟩ | ⟨kvs,k,b,e,_,_,_⟩
 ·obtain ⟨_,_,vs,_,c⟩:=Jli I.hok e;exact c.typeIs
 ·obtain ⟨_,_,xs,_,c⟩:=Jlh I.hok e;exact c.typeIs
inductive tDGetR(Q:VK)(x y:V)(b:Hp):Prop
 | mk(a v:_)(_:x=.ref a)(_:DGet b a y (some v))(_:Q v b)
noncomputable def tDGet(b a:TE):TE:=fun σ H Q=>b σ H fun x d=>a σ d fun y c=>tDGetR Q x y c
inductive sDPutR(D:Ends)(σ:St)(v x y:V)(c:Hp):Prop
 | mk(a b:_)(_:x=.ref a)(_:DPut c a y v b)(_:D.nx σ b)
noncomputable def sDPut(c a b:TE):TS:=fun D σ H=>b σ H fun v f=>c σ f fun x e=>a σ e fun y d=>sDPutR D σ v x y d
section
variable{X:Cx}{o i e value:Expr}{pos pos' tpos:Pos}{td ty tv:TE}
theorem Jdt(m:X.A.units + 1 < cLine)(p:PE X o td)(hi:PE X i ty)(n:NoSl i):PE X (.Subscript o i pos) (tDGet td ty):=by
 intro pins s σ H Q I h;refine Jqn PySem.F.slot_dict_getitem.lookup n (thn (p pins s σ H _ I h) fun u d ⟨x,B,w,f,l⟩=>thn (hi pins d σ B _ w l) fun G E q=>?_);obtain ⟨y,z,c,e,a,v,ex,g,j⟩:=q;subst ex;obtain rfl:u=Value.ref a:=f;exact ⟨Jeh c g,Jlo m c g e fun C D r b=>⟨v,z,r,b,j⟩⟩
theorem Jj1(p:X.A.units + 1 < cLine)(w:PE X o td)(hi:PE X i ty)(n:PE X value tv)(q:swapsWith value (some (.Subscript o i pos')) pos.line X.env=pure false):
  PS X (.Assign [.Subscript o i pos'] value pos) (sDPut td ty tv):=by
 intro pins s σ H D I h;refine wpAny_Assign_Subscript (thn (n pins s σ H _ I h) fun r c ⟨v,K,F,f,m⟩=>thn (w pins c σ K _ F m) fun u b ⟨x,J,E,e,l⟩=>thn (hi pins b σ J _ E l) fun N M z=>?_) q;obtain ⟨y,O,C,d,a,G,ex,g,j⟩:=z;subst ex;obtain rfl:u=Value.ref a:=e;exact Jln p C g d f fun L B=>⟨σ,G,B,j⟩
end
theorem Jox(h:Heap)(hb:sysModules < h.objs.size):J34 P w H (h.push { cls:=.type "dict",data:=.dict #[] }) h.objs.size (.dK []) :=
 ⟨Nat.zero_le _,beq_eq_false_iff_ne.mpr (Ne.symm (Nat.ne_of_lt hb)),[],.nil,Heap.DictOf.new h⟩
noncomputable def tDNewK:TE:=fun _ H Q=>∀ p,H p=none->Q (.ref p) (upd H p (.dK []))
section
variable{X:Cx}{pos:Pos}
theorem Jfl:PE X (.Dict [] [] pos) tDNewK:=fun pins s σ H Q I h =>
 wpAny_Dict_empty ⟨.ref s.heap.objs.size,_,I.laid (a:=s.heap.objs.size) (o:=.dK []) (t':=s.toks) (fun _ _ q=>get?_push_of_some _ q) (Nat.le_refl _) (Jox s.heap I.big),rfl,h _ (I.hok.fresh (Nat.le_refl _))⟩
end
structure M2(X:Cx)(o:Expr)(m:Str)(apos:Pos)(e f:Expr)(cpos:Pos):Prop where
 base:attributeBase o m X.env (eval o X.env)=eval o X.env
 few:((backTo cpos (starEach [e,f] X.env)).all (fun x=>!x.1) && (backToKw cpos (keywordEach [] X.env)).all (fun x=>x.1.isSome)
  && decide (([e,f]:List Expr).length + ([]:List Keyword).length + (if ([]:List Keyword).isEmpty then 0 else 1) < 30))=true
 line:(apos.endLine == cpos.line)=true
 trees:backTo cpos (starEach [e,f] X.env)=[(false,eval e X.env),(false,eval f X.env)]
noncomputable def IsD(H:Hp)(a:Addr):Prop:=(∃ kvs,Rd H a (.dK kvs))\/∃ kvs,Rd H a (.dT kvs)
theorem isD_at(I:Inv X pins σ H s)(d:IsD H a):
  s.TypeIs (.ref a) "dict"/\(∀ b,Value.ref a=.ref b->∃ c,s.heap.get? b=some c/\c.dict=none)/\(a == sysModules)=false:=by
 rcases d with ⟨kvs,e⟩ | ⟨kvs,e⟩
 ·obtain ⟨_,hd,vs,_,f⟩:=Jli I.hok e;refine ⟨f.typeIs,fun b q=>?_,hd⟩;cases q;obtain ⟨c,_,_,h,g,_⟩:=f;exact ⟨c,h,g.2.1⟩
 ·obtain ⟨_,hd,xs,_,f⟩:=Jlh I.hok e;refine ⟨f.typeIs,fun b q=>?_,hd⟩;cases q;obtain ⟨c,_,_,h,g,_⟩:=f;exact ⟨c,h,g.2.1⟩
section
variable{X:Cx}{pins:List (Addr × Obj)}{σ:St}{H:Hp}{s:Shared}{a:Addr}{y d:V}{u r:Value}{o:Option V}{A:Around}{E:Value->Shared->Prop}
theorem d_get2(m:A.units + 1 < cLine)(I:Inv X pins σ H s)(g:DGet H a y o)(j:RelV y u)(rd:RelV d r)(h:∀ i s',Inv X pins σ H s'->RelV (o.getD d) i->Q i s'):
  wpAny (model X.prog X.w) A (call (.builtin "dict.get") [.ref a,u,r]) Q E s:=by
 rcases g with ⟨kvs,k,e,ey,l⟩ | ⟨kvs,k,b,e,ey,eb,l⟩
 ·subst ey;obtain ⟨z,hd,vs,c,f⟩:=Jli I.hok e;refine call_meetsIn PySem.F.slot_dict_get f.typeIs PySem.F.entry_dict_get (PySem.F.args_dict_get_3 _ _ _) (meets_dict_get_default (J1z X.prog X.w) a (Jor j) hd r) ⟨_,f.mapOf,h _ _ (I.tok _) ?_⟩;rw [l];exact (c.val k).getD rd
 ·subst ey;cases (show u=Value.ref b from j);obtain ⟨z,hd,xs,c,f⟩:=Jlh I.hok e;refine call_meetsIn PySem.F.slot_dict_get f.typeIs PySem.F.entry_dict_get (PySem.F.args_dict_get_3 _ _ _) (meetsH_dict_get_default (tupleKind (J1z X.prog X.w)) a b hd r) ⟨tupleKind_room_in1 m,k,xs,Jfx I.hok eb,f,h _ _ (I.tok _) ?_⟩;rw [l];exact (c.val k).getD rd
end
inductive Jql(d e:TE)(σ:St)(Q:VK)(x:V)(c:Hp):Prop
 | mk(a:_)(_:x=.ref a)(_:IsD c a)(_:d σ c fun y f=>e σ f fun z b=>∃ o,DGet b a y o/\Q (o.getD z) b)
noncomputable def tDGet2(c a b:TE):TE:=fun σ H Q=>c σ H fun x d=>Jql a b σ Q x d
section
variable{X:Cx}{o e f:Expr}{apos cpos:Pos}{td ty tx:TE}
theorem Jfm(C:X.A.units + 1 < cLine)(D:PE X o td)(G:PE X e ty)(E:PE X f tx)(m:M2 X o "get" apos e f cpos):PE X (.Call (.Attribute o "get" apos) [e,f] [] cpos) (tDGet2 td ty tx):=by
 intro pins s σ H Q I h;refine wpAny_Call_method m.base m.few m.line PySem.F.plainAttrs_dict PySem.F.slot_dict_get PySem.F.type_dict_get (thn (D pins s σ H _ I h) fun u n J=>?_);obtain ⟨x,P,c,r,a,ex,d,B⟩:=J;subst ex;obtain rfl:u=Value.ref a:=r;obtain ⟨j,i,_⟩:=isD_at c d;refine ⟨j,i,?_⟩;rw [m.trees];refine Calls.callWith_builtin rfl (Calls.evalArgs_plain (Calls.spliced_cons (thn (G pins n σ P _ c B) fun W l ⟨y,O,M,q,w⟩ =>
  Calls.spliced_cons (thn (E pins l σ O _ M w) fun Y T ⟨z,N,L,p,U,g,v⟩=>Calls.spliced_nil ?_))))
 exact d_get2 C L g q p fun R S K b=>⟨_,N,K,b,v⟩
end
section
variable{κ:Type}[DecidableEq κ]
theorem Jk4:∀ {l:List κ} {k:κ},l.Nodup->¬ k∈l->(l ++ [k]).Nodup
 | [],k,_,_=>by simp
 | a :: r,k,h,hk=>by
  obtain ⟨c,b⟩:=nodup_cons.mp h;refine nodup_cons.mpr ⟨fun m=>?_,Jk4 b fun m=>hk (mem_cons.mpr (Or.inr m))⟩;rcases mem_append.mp m with q | q
  ·exact c q
  ·exact hk (mem_cons.mpr (Or.inl (mem_singleton.mp q).symm))
end
end L2
namespace Rl
noncomputable def contrib(b:Band):List (Int × Int):=if b.2.2.2=true then [(b.2.2.1,b.2.1 % 2),(2 * b.2.2.1,b.2.1 / 2)] else [(b.2.2.1,b.2.1)]
noncomputable def cntL(ps:List (Int × Int))(L:Int):Int:=(ps.map fun p=>if p.1=L then p.2 else 0).sum
theorem Jp1(ps:List (Int × Int))(p:Int × Int)(L:Int):cntL (ps ++ [p]) L=cntL ps L + if p.1=L then p.2 else 0:=by
 unfold cntL;rw [map_append,sum_append];show _ + ((if p.1=L then p.2 else 0) + 0)=_;lia
theorem J3j(ps:List (Int × Int))(p:Int × Int)(L:Int):cntL (p :: ps) L=(if p.1=L then p.2 else 0) + cntL ps L:=by
 rfl
theorem Jqa(h:∀ p∈ps,0<=p.2)(L:Int):0<=cntL ps L:=by
 induction ps with
 | nil=>exact Int.le_refl _
 | cons p ps ih =>
  rw [J3j]
  grind
theorem Jqb(h:∀ p∈ps,0<=p.2)(b:p∈ps):p.2<=cntL ps p.1:=by
 induction ps with
 | nil=>cases b
 | cons q ps ih =>
  rw [J3j];have c:=Jqa (fun r a=>h r (mem_cons_of_mem _ a)) (ps:=ps) p.1
  grind
theorem Jls(h:∀ p∈ps,p.1≠L):cntL ps L=0:=by
 induction ps with
 | nil=>rfl
 | cons p ps ih=>rw [J3j,if_neg (h p mem_cons_self),ih fun q a=>h q (mem_cons_of_mem _ a)];rfl
theorem Jm5{ns:List Int}(h:k ∉ ns):(ns.map fun L=>L * (if k=L then v else 0)).sum=0:=by
 induction ns with
 | nil=>rfl
 | cons n ns ih =>
  simp_all
theorem Jqm{ns:List Int}(a:ns.Nodup)(h:k∈ns):(ns.map fun L=>L * (if k=L then v else 0)).sum=k * v:=by
 induction ns with
 | nil=>cases h
 | cons n ns ih =>
  rw [map_cons,sum_cons];rw [nodup_cons] at a;rcases mem_cons.mp h with rfl | h
  ·rw [if_pos rfl,Jm5 a.1];lia
  ·rw [ih a.2 h,if_neg (show ¬ k=n from fun e=>a.1 (by rw [<- e];exact h))];rw [Int.mul_zero,Int.zero_add]
theorem Jlr{ns:List Int}(a:ns.Nodup):∀ ps ,(∀ p∈ps,p.1∈ns)->(ns.map fun L=>L * cntL ps L).sum=(ps.map fun p=>p.1 * p.2).sum
 | [],_=>by
  have e:(ns.map fun L=>L * cntL [] L)=ns.map fun _=>(0:Int):=map_congr_left fun L _=>Int.mul_zero L;rw [e];clear e a
  induction ns with
  | nil=>rfl
  | cons n ns ih=>rw [map_cons,sum_cons,ih (fun p c=>nomatch c)];rfl
 | p :: ps,h=>by
  rw [map_cons,sum_cons,<- Jlr a ps fun q b=>h q (mem_cons_of_mem _ b),<- Jqm a (v:=p.2) (h p mem_cons_self)];clear a h
  induction ns with
  | nil=>rfl
  | cons n ns ih =>
   rw [map_cons,sum_cons,map_cons,sum_cons,map_cons,sum_cons,ih,J3j,Int.mul_add];lia
theorem Jg6(c:Int->Int):∀ {ns:List Int},(∀ L∈ns,0<=c L)->((ns.filter fun L=>decide (0 < c L)).map fun L=>L * c L).sum=(ns.map fun L=>L * c L).sum
 | [],_=>rfl
 | n :: ns,h=>by
  have a:=Jg6 c fun L b=>h L (mem_cons_of_mem n b);have d:=h n mem_cons_self;rw [map_cons,sum_cons,filter_cons];by_cases q:0 < c n
  ·simp_all
  ·rw [if_neg (by rw [decide_eq_true_eq];exact q),a,show c n=0 by lia,Int.mul_zero,Int.zero_add]
theorem Jj5{α:Type}(f:α->Int){xs a:List α}(h:xs.Perm a):(xs.map f).sum=(a.map f).sum:=by
 induction h with
 | nil=>rfl
 | cons x _ ih=>simp_all
 | swap x y l=>rw [map_cons,sum_cons,map_cons,sum_cons,map_cons,sum_cons,map_cons,sum_cons];lia
 | trans _ _ i1 i2=>exact i1.trans i2
theorem Jej(b:Band):((contrib b).map fun p=>p.1 * p.2).sum=b.2.1 * b.2.2.1:=by
 unfold contrib;split
 ·show b.2.2.1 * (b.2.1 % 2) + (2 * b.2.2.1 * (b.2.1 / 2) + 0)=b.2.1 * b.2.2.1;have e:=Int.emod_add_mul_ediv b.2.1 2;have a:2 * b.2.2.1 * (b.2.1 / 2)=b.2.2.1 * (2 * (b.2.1 / 2)):=by rw [Int.mul_comm 2 b.2.2.1,Int.mul_assoc]
  rw [Int.add_zero,a,<- Int.mul_add,e,Int.mul_comm]
 ·show b.2.2.1 * b.2.1 + 0=_;rw [Int.add_zero,Int.mul_comm]
noncomputable def conB(bs:List Band):List (Int × Int):=bs.flatMap contrib
theorem Jg9:∀ bs ,((conB bs).map fun p=>p.1 * p.2).sum=(bs.map fun b=>b.2.1 * b.2.2.1).sum
 | []=>rfl
 | b :: bs=>by
  unfold conB;rw [flatMap_cons,map_append,sum_append,Jej,map_cons,sum_cons];exact congrArg _ (Jg9 bs)
theorem Jek(hw:1<=b.2.1)(c:1<=b.2.2.1):∀ p∈contrib b,1<=p.1/\0<=p.2:=by
 intro p a;unfold contrib at a;split at a
 ·rcases mem_cons.mp a with rfl | a
  ·exact ⟨c,Int.emod_nonneg _ (by decide)⟩
  ·rcases mem_cons.mp a with rfl | a
   ·exact ⟨show 1<=2 * b.2.2.1 by lia,Int.ediv_nonneg (by lia) (by decide)⟩
   ·cases a
 ·rcases mem_cons.mp a with rfl | a
  ·exact ⟨c,show 0<=b.2.1 by lia⟩
  ·cases a
theorem Jel(c:0<=o)(a:o < b.2.1):∃ n,1<=n/\(lenR b o,n)∈contrib b:=by
 unfold lenR contrib
 grind
theorem J9o(b:Band):(contrib b).length<=2:=by unfold contrib;split <;> simp
theorem J87:∀ bs ,(conB bs).length<=2 * bs.length
 | []=>Nat.le_refl _
 | b :: bs=>by
  have c:=J9o b;have a:=J87 bs;show (contrib b ++ conB bs).length<=2 * (bs.length + 1)
  grind
structure RdsOf(N:Int)(bs:List Band)(ks:List Int):Prop where
 inc:ks.Pairwise (· < ·)
 pos:∀ L∈ks,1<=L/\1<=cntL (conB bs) L
 sum:(ks.map fun L=>L * cntL (conB bs) L).sum=N
 all:∀ b < bs.length,∀ o,0<=o->o < (bs.getD b bz0).2.1->lenR (bs.getD b bz0) o∈ks
 few:ks.length<=2 * bs.length
theorem Sys.rds(S:Sys f N bs){a:List Int}(q:ns.Nodup)(c:∀ p∈conB bs,p.1∈ns)(m:∀ L∈ns,∃ p∈conB bs,p.1=L)(r:ns.length<=(conB bs).length)(d:a.Perm ns)(v:a.Pairwise (·<=·)):
  RdsOf N bs (a.filter fun L=>decide (0 < cntL (conB bs) L)):=by
 have j:∀ p∈conB bs,1<=p.1/\0<=p.2:=fun p h=>by
  obtain ⟨b,hb,h⟩:=mem_flatMap.mp h;have B:=S.bnd _ hb;exact Jek B.1 B.2.1 p h
 have u:=Jqa (fun p h=>(j p h).2) (ps:=conB bs);refine ⟨?_,fun L w=>?_,?_,fun b hb o y i=>?_,?_⟩
 ·refine List.Pairwise.filter _ ?_;have nd:=d.nodup_iff.mpr q;rw [List.nodup_iff_pairwise_ne] at nd;exact (v.and nd).imp fun h=>by have:=h.1;have:=h.2;lia
 ·obtain ⟨i,s⟩:=mem_filter.mp w;obtain ⟨p,l,rfl⟩:=m L (d.mem_iff.mp i);have:=of_decide_eq_true s;exact ⟨(j p l).1,by lia⟩
 ·rw [Jg6 _ fun L _=>u L,Jj5 _ d,Jlr q _ c,Jg9];exact S.sum
 ·obtain ⟨n,z,e⟩:=Jel y i;have e:=mem_flatMap.mpr ⟨_,J5q hb,e⟩;have g:=Jqb (fun p h=>(j p h).2) e;have g:n<=cntL (conB bs) (lenR (bs.getD b bz0) o):=g;exact mem_filter.mpr ⟨d.mem_iff.mpr (c _ e),decide_eq_true (by lia)⟩
 ·have i:=length_filter_le (fun L=>decide (0 < cntL (conB bs) L)) a;have s:=d.length_eq;have A:=J87 bs;lia
theorem Cok.bands(h:Cok p):∀ {k:Nat},Long p k->(bndN p k).length + (chN p k).1.top.length<=p.1.top.length
 | 0,_=>by show 0 + p.1.top.length<=_;lia
 | k + 1,l=>by
  have d:=h.bands (k:=k) fun i hi=>l i (by lia);have c:=h.at_ (k:=k) fun i hi=>l i (by lia);have ne:=l k (by lia);show (bndN p k ++ bndB (chN p k)).length + ((nextN (chN p k).1).behind (chN p k).1).top.length<=_;rw [length_append];have tp:=J6h c.ok ne;have f:=Jgd (chN p k);by_cases a:(nextN (chN p k).1).drops=true
  ·rw [if_pos a] at tp;have w:=(J5m c.ok ne).win c.ok ne;have:=J3y c.ok.row.nd w;rw [tp];lia
  ·rw [if_neg a] at tp;have b:¬ (nextN (chN p k).1).isHome=true:=fun e=>by
    apply a;cases q:nextN (chN p k).1 <;> rw [q] at e <;> first | rfl | cases e
   have:(bndB (chN p k)).length=0:=by unfold bndB;rw [if_neg b];rfl
   rw [tp.length_eq];lia
end Rl
namespace L2
open PySem PySem.Spec PyProof.Rows
section
variable{X:Cx}
theorem Jbr{ns:List Int}(a:us.length=ns.length)(h:∀ (i:Nat) (v:Value),us[i]?=some v->∃ t,v=Value.int (ns.getD i 0) t):Vals (ns.map V.int) us:=by
 have:=J3z (f:=fun i=>ns.getD i 0) a h;have e:((List.range ns.length).map fun i=>V.int (ns.getD i 0))=ns.map V.int:=by
  apply ext_getElem?;intro i;by_cases c:i < ns.length
  ·simp_all
  ·rw [getElem?_eq_none (by rw [length_map,length_range];lia),getElem?_eq_none (by rw [length_map];lia)]
 rwa [e] at this
theorem Jd5(S:X.calm=true):J59 X (.builtin "sorted") (fun xs H Q=>∃ (p:Addr) (kvs:List (Key × V)) (ns:List Int),xs=[.ref p]/\H p=some (.dK kvs)/\kvs.map (·.1)=ns.map Sum.inl/\ns.length < 64/\
  ∀ l (c:List Int),H l=none->c.Perm ns->c.Pairwise (·<=·)->Q (.ref l) (upd H l (.lst (c.map V.int)))):=by
 intro pins s σ H xs us Q I r h;obtain ⟨p,kvs,ns,rfl,P,F,B,q⟩:=h;obtain ⟨u,rfl,N⟩:=J6s r;cases N;obtain ⟨O,hd,vs,D,Z⟩:=Jsj I.hok P;obtain ⟨ep,A⟩:=Z.dictAt;have E:vs.length=kvs.length:=D.length.symm;have j:kvs.length=ns.length:=by have:=congrArg List.length F;rwa [length_map,length_map] at this
 have y:vs.map (·.1)=ns.map Sum.inl:=D.keys.symm.trans F;refine Calls.call_function_entry kind_sorted plain_sorted entry_sorted (args_sorted1 _) ?_;unfold Builtin.«sorted»;refine wpAny_bind (m:=checkCount "sorted" 1 1 _) (wpAny_pure ?_);refine wpAny_bind (PySem.W.kdu_collect (PySem.W.kdl_dict (knd:=J1z X.prog X.w) (kvs:=vs) (ep:=ep) hd) (I.ok.hd S) A (by rw [E];exact O) fun h' C acc z d=>?_);have G:IntsAre acc.toList ns:=by
  refine J23 (Jbr (by rw [length_toList];exact d.1.trans (by rw [E,j])) fun i v e=>?_);obtain ⟨k,x,Y,U⟩:=d.2 i v (by rw [<- Array.getElem?_toList];exact e);have K:(vs.map (·.1))[i]?=some k:=by rw [getElem?_map,Y];rfl
  rw [y,getElem?_map] at K;obtain ⟨n,T,rfl⟩:=Option.map_eq_some_iff.mp K;rw [getD_eq_getElem?_getD,T];exact PyProof.V.Flat.int_inv (PySem.W.kdl_flat_int (prog:=X.prog) (w:=X.w) U)
 have g:acc.toList.length < 64:=by rw [G.length];exact B
 refine wpAny_bind (wpAny_newList ?_);have f:(h'.push (seqObj "list" acc.toList.toArray 0)).get? h'.objs.size=some (seqObj "list" acc.toList.toArray 0):=get?_push_size _ rfl;have M:Inv X pins σ H { s with heap:=h',toks:=C }:=I.kept z;refine wpAny_bind (wpAny_holding (wpAny_call_entry slot_list_sort ⟨_,f,rfl⟩ entry_list_sort (list_sort_tree f G g fun out c a1 L a3=>⟨_,rfl,?_⟩) (args_list_sort _)));refine wpAny_pure ⟨_,rfl,?_⟩;obtain ⟨e,R⟩:=sortedHeap_at (out:=out) f;refine ⟨.ref h'.objs.size,_,M.laid (t':=C) (a:=h'.objs.size) (o:=.lst (c.map V.int)) (fun b o J=>?_) (Nat.le_refl _) ⟨?_,out.toList,e,J4l a1,R⟩,rfl,q _ c (M.hok.fresh (Nat.le_refl _)) L a3⟩
 ·have hb:=lt_size J;rw [sortedHeap_old (Nat.ne_of_lt hb) (by rw [size_push'];exact Nat.lt_succ_of_lt hb)];exact get?_push_of_some _ J
 ·rw [length_map,L.length_eq];exact Nat.le_of_lt (J14 (by lia))
end
structure RefL(Pr:Addr->Int->Prop)(ys:List V)(xs:List Int):Prop where
 len:ys.length=xs.length
 at_:∀ (i:Nat) (x:Int),xs[i]?=some x->∃ q,ys[i]?=some (.ref q)/\Pr q x
theorem RefL.nil :RefL Pr [] []:=⟨rfl,fun i x h=>by simp_all⟩
theorem RefL.snoc(h:RefL Pr ys xs)(b:Pr q x):RefL Pr (ys ++ [.ref q]) (xs ++ [x]):=by
 refine ⟨by rw [length_append,length_append,h.len];rfl,fun i y a=>?_⟩;by_cases c:i < xs.length
 ·rw [getElem?_append_left c] at a;obtain ⟨p,e,d⟩:=h.at_ i y a;exact ⟨p,by rw [getElem?_append_left (by rw [h.len];exact c)];exact e,d⟩
 ·rw [getElem?_append_right (by lia)] at a;have e:i=xs.length:=by
   apply Classical.byContradiction;intro k;rw [getElem?_eq_none (by show 1<=_;lia)] at a;cases a
  subst e;rw [Nat.sub_self] at a;obtain rfl:x=y:=Option.some.inj a;refine ⟨q,?_,b⟩;rw [getElem?_append_right (by rw [h.len];exact Nat.le_refl _),h.len,Nat.sub_self];rfl
theorem RefL.mono(h:RefL Pr ys xs)(m:∀ q x,Pr q x->Pr' q x):RefL Pr' ys xs:=
 ⟨h.len,fun i x a=>by obtain ⟨q,e,p⟩:=h.at_ i x a;exact ⟨q,e,m q x p⟩⟩
theorem Jfw{K:Frag}(xs:List Int)(G:Int->Bool)(w:Hp->Addr->Int->Prop)(A:SqL K H1 a (xs.map V.int))(T:xs.length<=sizeLine)(hd:H1 d=none)(mono:∀ H c q x,Jp6 d H c->q≠d->w H q x->w c q x)(J:∀ x∈xs,∀ H D,Same H1 H->(∀ c,Same H c->D (G x) c)->tc (some (.int x) :: capv σ js) H D)(N:∀ x∈xs,∀ H E,G x=true->Same H1 H->(∃ f,H d=some (.lst f))->(∀ q c,Same H c->q≠d->w c q x->E (.ref q) c)->te (some (.int x) :: capv σ js) H E)(L:∀ f c,Same H1 c->c d=some (.lst f)->RefL (fun q x=>w c q x) f (xs.filter G)->Q (.ref d) c):LCW (Itl K a) tc te σ js Q H1 d:=by
 have s0:∀ o,Same H1 (upd H1 d o):=fun o b u e=>by rw [Jm (Jd e hd)];exact e
 refine ⟨fun i m f H=>m=xs.length - i/\i<=xs.length/\Same H1 H/\H d=some (.lst f)/\RefL (fun q x=>q≠d/\w H q x) f ((xs.take i).filter G),⟨_,rfl,Nat.zero_le _,s0 _,J6,RefL.nil⟩,?_⟩;rintro i m f S ⟨rfl,hi,j,p,r⟩;refine ⟨p,?_⟩;by_cases g:i < xs.length
 ·have C:(xs.map V.int)[i]?=some (.int xs[i]):=by rw [getElem?_map,List.getElem?_eq_getElem g];rfl
  have B:=(List.take_append_getElem g).symm;have mem:=List.getElem_mem g;have I:f.length < sizeLine:=by
   rw [r.len];have U:=length_filter_le G (xs.take i);have p:=List.length_take_le i xs;lia
  refine .inr ⟨⟨_,_,j.seq A,C⟩,I,fun v R F=>?_⟩;obtain ⟨rfl,y⟩:=F;have y:=y _ (j.seq A);obtain rfl:V.int xs[i]=v:=Option.some.inj (C.symm.trans y);refine J _ mem R _ j fun P l=>?_
  cases hg:G xs[i] with
  | false =>
   rw [if_neg (by decide)];refine ⟨xs.length - (i + 1),by lia,rfl,g,j.trans l,l _ _ p,?_⟩;rw [B,filter_append,filter_cons,hg];have e:(if false=true then xs[i] :: List.filter G [] else List.filter G [])=[]:=rfl;rw [e,append_nil];exact r.mono fun q x h=>⟨h.1,mono _ _ _ _ (fun b o O _=>l _ _ O) h.1 h.2⟩
  | true =>
   rw [if_pos rfl];refine N _ mem P _ hg (j.trans l) ⟨_,l _ _ p⟩ fun q W z s M=>⟨z _ _ (l _ _ p),xs.length - (i + 1),by lia,rfl,g,?_,J6,?_⟩
   ·intro b u e;rw [Jm (Jd e hd)];exact z _ _ (l _ _ (j _ _ e))
   ·have kd:∀ H,Jp6 d H (upd H d (.lst (f ++ [.ref q]))):=fun H b o e n=>by rw [Jm n];exact e
    rw [B,filter_append,filter_cons,hg];refine (r.mono fun a x h=>⟨h.1,?_⟩).snoc ⟨s,mono _ _ _ _ (kd _) s M⟩;exact mono _ _ _ _ (fun b o e n=>kd _ _ _ (z _ _ (l _ _ e)) n) h.1 h.2
 ·have e:i=xs.length:=by lia
  subst e;refine .inl ⟨⟨_,j.seq A,by rw [length_map];exact Nat.le_refl _⟩,L f S j p ?_⟩;rw [take_length] at r;exact r.mono fun _ _ h=>h.2
end L2
namespace L2
open PySem PySem.Spec PyProof.Rows Rl
theorem Jnc{kvs:List (Key × V)}(v:V)(h:valV kvs k≠none):(putK kvs k v).map (·.1)=kvs.map (·.1):=by
 unfold putK;have e:(kvs.any fun a=>decide (a.1=k))=true:=by
  rw [J5a]
  cases q:valV kvs k with
  | none=>exact absurd q h
  | some x=>rfl
 rw [e,if_pos rfl,map_map];refine map_congr_left fun a _=>?_;show (if a.1=k then (a.1,v) else a).1=a.1;split <;> rfl
structure CntD(ps:List (Int × Int))(kvs:List (Key × V))(ns:List Int):Prop where
 keys:kvs.map (·.1)=ns.map Sum.inl
 nd:ns.Nodup
 all:∀ p∈ps,p.1∈ns
 has:∀ L∈ns,∃ p∈ps,p.1=L
 len:ns.length<=ps.length
 val:∀ L∈ns,valV kvs (Sum.inl L)=some (.int (cntL ps L))
 no:∀ L,L ∉ ns->valV kvs (Sum.inl L)=none
theorem CntD.nil:CntD [] [] [] where
 keys:=rfl
 nd:=nodup_nil
 all:=fun p h=>absurd h not_mem_nil
 has:=fun L h=>absurd h not_mem_nil
 len:=Nat.le_refl _
 val:=fun L h=>absurd h not_mem_nil
 no:=fun L _=>rfl
theorem CntD.get(h:CntD ps kvs ns)(L:Int):(valV kvs (Sum.inl L)).getD (.int 0)=.int (cntL ps L):=by
 by_cases c:L∈ns
 ·rw [h.val L c];rfl
 ·rw [h.no L c,Jls fun p a e=>c (by rw [<- e];exact h.all p a)];rfl
theorem CntD.put(h:CntD ps kvs ns)(L n:Int):∃ f,CntD (ps ++ [(L,n)]) (putK kvs (Sum.inl L) (.int (cntL ps L + n))) f:=by
 have d:∀ j ,valV (putK kvs (Sum.inl L) (.int (cntL ps L + n))) (Sum.inl j)=if j=L then some (.int (cntL ps L + n)) else valV kvs (Sum.inl j):=fun j=>by
  rw [Jm3];by_cases e:j=L
  ·rw [if_pos e,if_pos (congrArg _ e)]
  ·rw [if_neg e,if_neg (fun q=>e (Sum.inl.inj q))]
 have g:∀ j ,cntL (ps ++ [(L,n)]) j=if j=L then cntL ps L + n else cntL ps j:=fun j=>by
  rw [Jp1];by_cases e:j=L
  ·rw [if_pos e,e,if_pos rfl]
  ·rw [if_neg e,if_neg (fun q =>e q.symm)];lia
 by_cases c:L∈ns
 ·refine ⟨ns,(Jnc _ (by rw [h.val L c];exact fun e=>nomatch e)).trans h.keys,h.nd,fun p b=>?_,fun j a=>?_,?_,fun j a=>?_,fun j a=>?_⟩
  ·rcases mem_append.mp b with b | b
   ·exact h.all p b
   ·rw [mem_singleton.mp b];exact c
  ·obtain ⟨p,b,e⟩:=h.has j a;exact ⟨p,mem_append_left _ b,e⟩
  ·rw [length_append];have:=h.len;lia
  ·rw [d,g];split
   ·rfl
   ·exact h.val j a
  ·rw [d,if_neg (show ¬ j=L from fun e=>a (by rw [e];exact c))];exact h.no j a
 ·refine ⟨ns ++ [L],?_,Jk4 h.nd c,fun p b=>?_,fun j a=>?_,?_,fun j a=>?_,fun j a=>?_⟩
  ·rw [Jnd _ (h.no L c),map_append,map_append,h.keys];rfl
  ·rcases mem_append.mp b with b | b
   ·exact mem_append_left _ (h.all p b)
   ·rw [mem_singleton.mp b];exact mem_append_right _ (mem_singleton.mpr rfl)
  ·rcases mem_append.mp a with a | a
   ·obtain ⟨p,b,e⟩:=h.has j a;exact ⟨p,mem_append_left _ b,e⟩
   ·exact ⟨(L,n),mem_append_right _ (mem_singleton.mpr rfl),(mem_singleton.mp a).symm⟩
  ·rw [length_append,length_append];have:=h.len;show ns.length + 1<=ps.length + 1;lia
  ·rw [d,g];split
   ·rfl
   ·rename_i e;rcases mem_append.mp a with a | a
    ·exact h.val j a
    ·exact absurd (mem_singleton.mp a) e
  ·have l:=fun e=>a (mem_append_left _ e);have i:j≠L:=fun e=>a (by rw [e];exact mem_append_right _ (mem_singleton.mpr rfl));rw [d,if_neg i];exact h.no j l
theorem CntD.klen(h:CntD ps kvs ns):kvs.length=ns.length:=by
 have:=congrArg List.length h.keys;rwa [length_map,length_map] at this
end L2
namespace Rl
open Classical in
noncomputable def rOf(f:Int->Int)(x:Int):Nat:=if h:∃ n,J4j f x n then h.choose else 0
theorem Jfg(R:J4j f x n):rOf f x=n:=by
 unfold rOf;rw [dif_pos ⟨n,R⟩];exact (Exists.choose_spec (⟨n,R⟩:∃ n,J4j f x n)).uniq R
noncomputable def numP(p:Nat->Bool):Nat->Nat
 | 0=>0
 | n + 1=>numP p n + if p n=true then 1 else 0
theorem J3b :∀ {n:Nat},(∀ y < n,p y=q y)->numP p n=numP q n
 | 0,_=>rfl
 | n + 1,h=>by
  show numP p n + _=numP q n + _;rw [J3b fun y a=>h y (by lia),h n (by lia)]
theorem J8p :∀ {n:Nat},(∀ y < n,p y=false)->numP p n=0
 | 0,_=>rfl
 | n + 1,h=>by
  show numP p n + _=0;rw [J8p fun y a=>h y (by lia),h n (by lia)];rfl
theorem Ja9(p c:Nat->Bool):∀ n ,numP p n=numP (fun y=>p y && c y) n + numP (fun y=>p y && !c y) n
 | 0=>rfl
 | n + 1=>by
  show numP p n + (if p n=true then 1 else 0)=(numP (fun y=>p y && c y) n + (if (p n && c n)=true then 1 else 0)) + (numP (fun y=>p y && !c y) n + (if (p n && !c n)=true then 1 else 0));rw [Ja9 p c n]
  grind
theorem Jfp(n:Nat):numP (fun _=>true) n=n:=by
 induction n with
 | zero=>rfl
 | succ n ih=>show numP _ n + 1=_;rw [ih]
theorem Jfo(w:Int):∀ n ,numP (fun o=>decide ((o:Int)=w - 1 - o)) n=if w % 2=1/\w < 2 * (n:Int) then (if 0 < w then 1 else 0) else 0
 | 0=>by
  show 0=_
  grind
 | n + 1=>by
  show numP _ n + (if decide ((n:Int)=w - 1 - n)=true then 1 else 0)=_;rw [Jfo w n]
  grind
noncomputable def colN(b:Band)(L:Int):Nat:=numP (fun o=>decide (lenR b (o:Int)=L)) b.2.1.toNat
theorem Jsk(hw:1<=b.2.1)(l:1<=b.2.2.1)(L:Int):b.2.2.1 * (colN b L:Int)=L * cntL (contrib b) L:=by
 unfold colN contrib lenR;by_cases t:b.2.2.2=true
 ·rw [if_pos t,J3j,J3j];have f:cntL [] L=0:=rfl;rw [f,Int.add_zero];have mid:=Jfo b.2.1 b.2.1.toNat;have i:numP (fun o=>decide ((o:Int)=b.2.1 - 1 - o)) b.2.1.toNat=(b.2.1 % 2).toNat:=by
   rw [mid];split
   ·rw [if_pos (by lia)];lia
   ·lia
  have ne:numP (fun o=>!decide ((o:Int)=b.2.1 - 1 - o)) b.2.1.toNat=b.2.1.toNat - (b.2.1 % 2).toNat:=by
   have s:=Ja9 (fun _=>true) (fun o=>decide ((o:Int)=b.2.1 - 1 - o)) b.2.1.toNat;rw [Jfp] at s;have j:numP (fun y=>true && decide ((y:Int)=b.2.1 - 1 - y)) b.2.1.toNat=numP (fun o=>decide ((o:Int)=b.2.1 - 1 - o)) b.2.1.toNat:=J3b fun y _=>Bool.true_and _;have m:numP (fun y=>true && !decide ((y:Int)=b.2.1 - 1 - y)) b.2.1.toNat=numP (fun o=>!decide ((o:Int)=b.2.1 - 1 - o)) b.2.1.toNat:=J3b fun y _=>Bool.true_and _;rw [j,i] at s;lia
  by_cases d:2 * b.2.2.1=L
  ·have nh:¬ b.2.2.1=L:=by lia
   have e:numP (fun o=>decide ((if b.2.2.2=true/\(o:Int)≠b.2.1 - 1 - o then 2 * b.2.2.1 else b.2.2.1)=L)) b.2.1.toNat=numP (fun o=>!decide ((o:Int)=b.2.1 - 1 - o)) b.2.1.toNat:=J3b fun y _=>by
    by_cases c:(y:Int)=b.2.1 - 1 - y
    ·rw [if_neg (fun h=>h.2 c),decide_eq_true c,decide_eq_false nh];rfl
    ·rw [if_pos ⟨t,c⟩,decide_eq_false c,decide_eq_true d];rfl
   rw [e,ne,if_neg nh,if_pos d,Int.zero_add,<- d];have:((b.2.1.toNat - (b.2.1 % 2).toNat:Nat):Int)=2 * (b.2.1 / 2):=by lia
   rw [this,<- Int.mul_assoc,Int.mul_comm b.2.2.1 2]
  ·by_cases a:b.2.2.1=L
   ·have e:numP (fun o=>decide ((if b.2.2.2=true/\(o:Int)≠b.2.1 - 1 - o then 2 * b.2.2.1 else b.2.2.1)=L)) b.2.1.toNat=numP (fun o=>decide ((o:Int)=b.2.1 - 1 - o)) b.2.1.toNat:=J3b fun y _=>by
     by_cases c:(y:Int)=b.2.1 - 1 - y
     ·rw [if_neg (fun h=>h.2 c),decide_eq_true c,decide_eq_true a]
     ·rw [if_pos ⟨t,c⟩,decide_eq_false c,decide_eq_false d]
    rw [e,i,if_pos a,if_neg d,Int.add_zero,<- a];rw [show (((b.2.1 % 2).toNat:Nat):Int)=b.2.1 % 2 by lia]
   ·have e:numP (fun o=>decide ((if b.2.2.2=true/\(o:Int)≠b.2.1 - 1 - o then 2 * b.2.2.1 else b.2.2.1)=L)) b.2.1.toNat=0:=J8p fun y _=>by
     by_cases c:(y:Int)=b.2.1 - 1 - y
     ·rw [if_neg (fun h=>h.2 c),decide_eq_false a]
     ·rw [if_pos ⟨t,c⟩,decide_eq_false d]
    rw [e,if_neg a,if_neg d];show b.2.2.1 * 0=L * (0 + 0);rw [Int.mul_zero,Int.add_zero,Int.mul_zero]
 ·rw [if_neg t,J3j];have f:cntL [] L=0:=rfl;rw [f,Int.add_zero];have g:∀ y:Nat,(if b.2.2.2=true/\(y:Int)≠b.2.1 - 1 - y then 2 * b.2.2.1 else b.2.2.1)=b.2.2.1:=fun y=>if_neg fun h=>t h.1;by_cases a:b.2.2.1=L
  ·have e:numP (fun o=>decide ((if b.2.2.2=true/\(o:Int)≠b.2.1 - 1 - o then 2 * b.2.2.1 else b.2.2.1)=L)) b.2.1.toNat=b.2.1.toNat:=by
    rw [J3b (q:=fun _=>true) fun y _=>by rw [g,decide_eq_true a],Jfp]
   rw [e,if_pos a,<- a,show ((b.2.1.toNat:Nat):Int)=b.2.1 by lia]
  ·have e:numP (fun o=>decide ((if b.2.2.2=true/\(o:Int)≠b.2.1 - 1 - o then 2 * b.2.2.1 else b.2.2.1)=L)) b.2.1.toNat=0:=J8p fun y _=>by rw [g,decide_eq_false a]
   rw [e,if_neg a];show b.2.2.1 * 0=L * 0;rw [Int.mul_zero,Int.mul_zero]
theorem Jhl(ps a:List (Int × Int))(L:Int):cntL (ps ++ a) L=cntL ps L + cntL a L:=by
 unfold cntL;rw [map_append,sum_append]
noncomputable def numL(f:Int->Int)(L:Nat)(xs:List Int):Nat:=xs.countP fun x=>decide (rOf f x=L)
theorem Js0(S:Sys f N bs)(hb:b∈bs){o:Nat}(g:(o:Int) < b.2.1)(L:Nat):numL f L (J6c f b o)=if lenR b (o:Int)=L then b.2.2.1.toNat else 0:=by
 obtain ⟨i,hi,rfl⟩:=getElem_of_mem hb;have e:bs.getD i bz0=bs[i]:=by rw [getD_eq_getElem?_getD,List.getElem?_eq_getElem hi];rfl
 have d:∀ x∈J6c f bs[i] o,(rOf f x:Int)=lenR bs[i] (o:Int):=fun x a=>by
  obtain ⟨l,h,rfl⟩:=J4w.mp a;have A:Adr bs i (o:Int) (l:Int):=⟨hi,by lia,by rw [e];exact g,by lia,by rw [e];exact h⟩;obtain ⟨R,j⟩:=S.rnd A;have ep:plOf f bs i (o:Int) (l:Int)=itN f l (bs[i].1 + (o:Int)):=by unfold plOf;rw [e];rfl
  rw [ep] at R;rw [Jfg R];rw [e] at j ⊢;lia
 unfold numL;by_cases c:lenR bs[i] (o:Int)=L
 ·rw [if_pos c,List.countP_eq_length.mpr fun x a=>decide_eq_true (by have:=d x a;lia)];unfold J6c;rw [length_map,length_range]
 grind
theorem Jof(S:Sys f N bs)(hb:b∈bs)(L:Nat):(numL f L (J54 f b):Int)=L * cntL (contrib b) L:=by
 have B:=S.bnd _ hb;rw [<- Jsk B.1 B.2.1];have h:∀ n:Nat,(n:Int)<=b.2.1->(numL f L ((List.range n).flatMap (J6c f b)):Int)=b.2.2.1 * (numP (fun o=>decide (lenR b (o:Int)=L)) n:Int):=fun n=>by
  induction n with
  | zero=>intro _;show (0:Int)=b.2.2.1 * 0;rw [Int.mul_zero]
  | succ n ih =>
   intro d;have a:=ih (by lia);have e:numL f L ((List.range (n + 1)).flatMap (J6c f b))=numL f L ((List.range n).flatMap (J6c f b)) + numL f L (J6c f b n):=by
    rw [range_succ,flatMap_append,List.flatMap_singleton];unfold numL;rw [List.countP_append]
   rw [e,Js0 S hb (by lia),Int.natCast_add,a];show _=b.2.2.1 * ((numP (fun o=>decide (lenR b (o:Int)=L)) n + (if decide (lenR b (n:Int)=L)=true then 1 else 0):Nat):Int);have g:=B.2.1;by_cases c:lenR b (n:Int)=L
   ·rw [if_pos c,decide_eq_true c,Int.natCast_add,Int.mul_add];show _ + ((b.2.2.1.toNat:Nat):Int)=_ + b.2.2.1 * 1;rw [Int.mul_one];lia
   ·rw [if_neg c,decide_eq_false c];show _ + (0:Int)=b.2.2.1 * ((numP (fun o=>decide (lenR b (o:Int)=L)) n:Nat):Int);rw [Int.add_zero]
 have w:=B.1;exact h b.2.1.toNat (by lia)
theorem Js1(S:Sys f N bs)(L:Nat):(numL f L (J62 f bs):Int)=L * cntL (conB bs) L:=by
 have h:∀ cs:List Band,(∀ b∈cs,b∈bs)->(numL f L (cs.flatMap (J54 f)):Int)=L * cntL (cs.flatMap contrib) L:=fun cs=>by
  induction cs with
  | nil=>intro _;show (0:Int)=L * 0;rw [Int.mul_zero]
  | cons b cs ih =>
   intro a;have d:=ih fun c g=>a c (mem_cons_of_mem _ g);have e:numL f L ((b :: cs).flatMap (J54 f))=numL f L (J54 f b) + numL f L (cs.flatMap (J54 f)):=by
    rw [flatMap_cons];unfold numL;rw [List.countP_append]
   rw [e,flatMap_cons,Jhl,Int.mul_add,<- Jof S (a b mem_cons_self),<- d,Int.natCast_add]
 exact h bs fun b hb=>hb
theorem J53 :∀ n ,((List.range n).map fun (y:Nat)=>(y:Int)).countP p=numP (fun y=>p (y:Int)) n
 | 0=>rfl
 | n + 1=>by
  rw [range_succ,map_append,List.countP_append,J53 n];show _ + List.countP p [(n:Int)]=numP _ n + _;rw [List.countP_singleton]
theorem Sys.places(S:Sys f N bs):(J62 f bs).Perm ((List.range N.toNat).map fun (y:Nat)=>(y:Int)):=by
 have d:((List.range N.toNat).map fun (y:Nat)=>(y:Int)).Nodup:=pairwise_map.mpr (pairwise_lt_range.imp fun {a b} h e=>by lia);rw [List.perm_iff_count];intro x;have m:x∈J62 f bs↔x∈((List.range N.toNat).map fun (y:Nat)=>(y:Int)):=by
  constructor
  ·intro h;have:=S.all_in h;exact mem_map.mpr ⟨x.toNat,mem_range.mpr (by lia),by lia⟩
  ·intro h;obtain ⟨y,g,rfl⟩:=mem_map.mp h;have:=mem_range.mp g;exact J8t.mpr (S.exists (by lia) (by lia))
 by_cases c:x∈J62 f bs
 ·rw [S.nodup.count,d.count,if_pos c,if_pos (m.mp c)]
 ·rw [List.count_eq_zero.mpr c,List.count_eq_zero.mpr fun h=>c (m.mpr h)]
theorem Sys.num(S:Sys f N bs)(L:Nat):(numP (fun y=>decide (rOf f (y:Int)=L)) N.toNat:Int)=L * cntL (conB bs) L:=by
 rw [<- Js1 S];unfold numL;rw [S.places.countP_eq,J53]
theorem Jku:∀ {xs a:List Int},xs.Pairwise (· < ·)->a.Pairwise (· < ·)->(∀ z,z∈xs↔z∈a)->xs=a
 | [],[],_,_,_=>rfl
 | [],y :: a,_,_,h=>absurd ((h y).mpr mem_cons_self) not_mem_nil
 | x :: xs,[],_,_,h=>absurd ((h x).mp mem_cons_self) not_mem_nil
 | x :: xs,y :: a,h1,h2,h=>by
  rw [pairwise_cons] at h1 h2;have e:x=y:=by
   rcases mem_cons.mp ((h x).mp mem_cons_self) with e | m1
   ·exact e
   ·rcases mem_cons.mp ((h y).mpr mem_cons_self) with e | m2
    ·exact e.symm
    ·have:=h1.1 y m2;have:=h2.1 x m1;lia
  subst e;refine congrArg _ (Jku h1.2 h2.2 fun z=>⟨fun b=>?_,fun b=>?_⟩)
  ·rcases mem_cons.mp ((h z).mp (mem_cons_of_mem _ b)) with e | m
   ·have:=h1.1 z b;lia
   ·exact m
  ·rcases mem_cons.mp ((h z).mpr (mem_cons_of_mem _ b)) with e | m
   ·have:=h2.1 z b;lia
   ·exact m
end Rl
namespace Rl
structure Jdd(N:Int)(bs:List Band)(ks:List Int):Prop where
 base:RdsOf N bs ks
 only:∀ L,1<=cntL (conB bs) L->L∈ks
theorem Sys.rds2(S:Sys f N bs){b:List Int}(n:ns.Nodup)(a:∀ p∈conB bs,p.1∈ns)(i:∀ L∈ns,∃ p∈conB bs,p.1=L)(d:ns.length<=(conB bs).length)(l:b.Perm ns)(j:b.Pairwise (·<=·)):
  Jdd N bs (b.filter fun L=>decide (0 < cntL (conB bs) L)):=by
 refine ⟨S.rds n a i d l j,fun L h=>?_⟩;have m:L∈ns:=by
  apply Classical.byContradiction;intro c;rw [Jls fun p g e=>c (by rw [<- e];exact a p g)] at h;lia
 grind
end Rl
namespace L2
open PySem PySem.Spec PyProof.Rows
class En where
 P:Program
 w:World
 K:Frag
 mg:Str->Option Value
 base:Heap
variable [n:En]{CX:CXT}{j k:Nat}{x:Str}{st:Stmt}{ps N:List Str}{ds:List Value}{dvs:List V}{sp:Sp}{C:Addr}{X:Cx}{E:XK}{p pos:Pos}{e:Expr}{es:List Expr}{t:TA}
noncomputable def Fn0(x:Str)(st:Stmt)(ps:List Str):Prop:=∃ f fd,Fun n.K x x st f fd/\J2t n.K fd ps []/\n.mg x=some (.ref f)
noncomputable def Cal(CX:CXT)(k:Nat)(x:Str)(ps:List Str)(sp:Sp):Prop:=∃ f fd,FnOk n.P n.w n.K n.mg n.base CX k f fd ps sp/\J2t n.K fd ps []/\n.mg x=some (.ref f)/\keepIn n.K (.ref f)=true
noncomputable def Mak(CX:CXT)(k:Nat)(x:Str)(C:Addr)(ps:List Str)(a:List Value)(sp:Sp):Prop:=∃ f fd,Mk n.K C f/\FnOk n.P n.w n.K n.mg n.base CX k f fd ps sp/\J2t n.K fd ps a/\n.mg x=some (.ref C)
theorem Fn0.cal(F:Fn0 x st ps)(h:∀ f fd,Fun n.K x x st f fd->FnOk n.P n.w n.K n.mg n.base CX k f fd ps sp):Cal CX k x ps sp:=by obtain ⟨f,fd,F,b,m⟩:=F;exact ⟨f,fd,h f fd F,b,m,F.kp⟩
theorem Fn0.ok(F:Fn0 x st ps)(S:Jr N ps (Je st))(a:∀ (f:Addr) (b:Value) (A:Around) (outer:List Env) (s:Shared) (H:Hp) (vs:List V) (Q:VK) (E:XK),Room k (A.deeper (envOfC x (Je st) s.heap.objs.size f b))->sp vs H Q E->
   ∃ t,PSs (cxOf CX0 n.P n.w n.K n.mg n.base N x (Je st) f b A outer s H E).nox (J1j st) t/\t { nx:=fun _ c=>Q .non c,rt:=Q } (start N vs) H)(len:∀ vs H Q E,sp vs H Q E->vs.length=ps.length:=by rintro _ _ _ _ ⟨⟩;subst_vars;rfl):Cal CX0 (k + 1) x ps sp:=F.cal fun f _ F=>F.ok S len (a f)
theorem Fun.ok1(F:Fun n.K x q st f fd)(S:Jr N ps (Je st))(a:∀ (b:Value) (A:Around) (outer:List Env) (s:Shared) (H:Hp) (vs:List V) (Q:VK) (E:XK),Room k (A.deeper (envOfC q (Je st) s.heap.objs.size f b))->sp vs H Q E->
   ∃ t,PSs (cxOf CX0 n.P n.w n.K n.mg n.base N q (Je st) f b A outer s H E).nox (J1j st) t/\t { nx:=fun _ c=>Q .non c,rt:=Q } (start N vs) H)(len:∀ vs H Q E,sp vs H Q E->vs.length=ps.length:=by rintro _ _ _ _ ⟨⟩;subst_vars;rfl):FnOk n.P n.w n.K n.mg n.base CX0 (k + 1) f fd ps sp:=F.ok S len a
theorem pcl(c:@Cal ⟨X.prog,X.w,X.K,X.mg,X.base⟩ CX j x ps sp)(h:Room k X.A)(g:J57 CX X E)(o:PA X (e :: es) t)(l:Gl X x:=by rfl)(i:j<=k:=by decide)(d:(x == ("__debug__":Str))=false:=by decide)(n:starEach (e :: es) X.env=(false,eval e X.env) :: starEach es X.env:=by rfl)(a:(backTo pos (starEach es X.env)).any (·.1)=false:=by rfl):PE X (.Call (.Name x p) (e :: es) [] pos) (Jm4 sp [] E t):=by
 obtain ⟨f,fd,F,b,m,kp⟩:=c;exact Jrh F (h.mono i) l m kp b .nil g o d n a
theorem pmk(c:@Mak ⟨X.prog,X.w,X.K,X.mg,X.base⟩ CX j x C ps ds sp)(i:Room k X.A)(g:J57 CX X E)(q:PA X (e :: es) t)(h:Vals dvs ds:=by exact .nil)(n:Gl X x:=by rfl)(l:j + 1<=k:=by decide)(d:(x == ("__debug__":Str))=false:=by decide)(o:starEach (e :: es) X.env=(false,eval e X.env) :: starEach es X.env:=by rfl)(a:(backTo pos (starEach es X.env)).any (·.1)=false:=by rfl):PE X (.Call (.Name x p) (e :: es) [] pos) (tMake C sp dvs E t):=by
 obtain ⟨f,fd,M,F,b,m⟩:=c;exact J5v M F (i.mono l) n m b h g q d o a
noncomputable def Bas(CX:CXT)(k:Nat)(x m:Str)(ps:List Str)(sp:Sp):Prop:=∃ B f fd,Jsr n.K B m f/\n.mg x=some (.ref B)/\FnOk n.P n.w n.K n.mg n.base CX k f fd ps sp/\J2t n.K fd ps []
theorem pbs(c:@Bas ⟨X.prog,X.w,X.K,X.mg,X.base⟩ CX j x m ps sp)(l:Room k X.A)(h:J57 CX X E)(r:PA X (e :: es) t)(q:Gl X x:=by rfl)(o:j<=k:=by decide)(g:(x == ("__debug__":Str))=false:=by decide)(a:starEach (e :: es) X.env=(false,eval e X.env) :: starEach es X.env:=by rfl)(d:(backTo pos (starEach es X.env)).any (·.1)=false:=by rfl)(i:eval (.Call (.Attribute (.Name x p) m apos) (e :: es) [] pos) X.env=(do
   let ov <- eval (.Name x p) X.env
   standAt apos.atName
   let (f,first) <- holding [ov] (getMethod ov m pl)
   callWith pos f first (backTo pos (starEach (e :: es) X.env)) (backToKw pos (keywordEach [] X.env))):=by rfl):PE X (.Call (.Attribute (.Name x p) m apos) (e :: es) [] pos) (Jm4 sp [] E t):=by
 obtain ⟨B,f,fd,M,n,F,b⟩:=c;exact Jri M q n F (l.mono o) b .nil h r g a d i
noncomputable def scOk(N P:List Str)(a:Scope):Bool:=decide (a.kind=.function) && !a.isCoroutine && !a.isGenerator && decide N.Nodup && decide (N.take P.length=P) && P.all (fun x=>decide (a.names.lookup x=some .local) || decide (a.names.lookup x=some .cell)) && a.names.all fun y=>decide (y.2≠.free)
omit n in
theorem fsc{P:List Str}{i:Scope}(h:scOk N P i=true:=by decide +kernel):Jr N P i:=by
 simp only [scOk,Bool.and_eq_true,decide_eq_true_eq,Bool.not_eq_true',all_eq_true,Bool.or_eq_true] at h;obtain ⟨⟨⟨⟨⟨⟨a,b⟩,c⟩,d⟩,e⟩,f⟩,g⟩:=h;exact ⟨a,b,c,d,e,f,g⟩
end L2
namespace L2
open PySem PySem.Spec PyProof.Rows
theorem usOf0{P:List Value->Prop}(h:P []):∀ us ,us.length=0->P us:=fun us e=>by
 grind
theorem usS{P:List Value->Prop}(h:∀ a us,us.length=n->P (a :: us)):∀ us ,us.length=n + 1->P us:=fun us e=>by
 cases us with
 | nil=>cases e
 | cons a l=>exact h a l (Nat.succ.inj e)
theorem usOf1{P:List Value->Prop}(h:∀ a,P [a]):∀ us ,us.length=1->P us:=usS fun a=>usOf0 (P:=fun us=>P (a :: us)) (h a)
theorem usOf2{P:List Value->Prop}(h:∀ a b,P [a,b]):∀ us ,us.length=2->P us:=usS fun a=>usOf1 (P:=fun us=>P (a :: us)) (h a)
theorem usOf3{P:List Value->Prop}(h:∀ a b c,P [a,b,c]):∀ us ,us.length=3->P us:=usS fun a=>usOf2 (P:=fun us=>P (a :: us)) (h a)
theorem usOf4{P:List Value->Prop}(h:∀ a b c d,P [a,b,c,d]):∀ us ,us.length=4->P us:=usS fun a=>usOf3 (P:=fun us=>P (a :: us)) (h a)
theorem usOf5{P:List Value->Prop}(h:∀ a b c d e,P [a,b,c,d,e]):∀ us ,us.length=5->P us:=usS fun a=>usOf4 (P:=fun us=>P (a :: us)) (h a)
section
variable{K:Frag}{h:Heap}{mg:Str->Option Value}{x q m:Str}{st:Stmt}{ps:List Str}{f C:Addr}{oc:Value}{od an:Option Addr}{osl:Array (Option Value)}{kV doc pm cdv ct:Value}
theorem fnk(X:K.In h)(G:h.Ns mainGlobals mg)(a:nsIn K mainGlobals x=some (some (.ref f)))(l:K.lookup f=some ⟨oc,od,.func (fnOf x x (J2i st) (J1j st) (Je st) .none kV doc pm an cdv ct),osl⟩)(c:codeIn K cdv x=true)(k:keepIn K (.ref f)=true)(b:∀ us ,us.length=ps.length->bindArgs (fnOf x x (J2i st) (J1j st) (Je st) .none kV doc pm an cdv ct) ⟨us,[]⟩=pure (ps.zip us)):
  ∃ f fd,Fun K x x st f fd/\J2t K fd ps []/\mg x=some (.ref f):=⟨f,_,Jcj l c k,.all b,mg_of X G a⟩
theorem mek(a:findIn K (.ref C) m=some (some (.ref f)))(i:isFn K (.ref f)=true)(l:K.lookup f=some ⟨oc,od,.func (fnOf x q (J2i st) (J1j st) (Je st) .none kV doc pm an cdv ct),osl⟩)(c:codeIn K cdv q=true)(k:keepIn K (.ref f)=true)(b:∀ us ,us.length=ps.length->bindArgs (fnOf x q (J2i st) (J1j st) (Je st) .none kV doc pm an cdv ct) ⟨us,[]⟩=pure (ps.zip us)):
  ∃ f fd,Fun K x q st f fd/\J2t K fd ps []/\Meth K C m f:=⟨f,_,Jcj l c k,.all b,a,i,k⟩
theorem clk(a:plainGet K C Str.empty=true)(b:hasDictIn K C=true)(c:plainOver K C=true)(d:findIn K (.ref C) "__setattr__"=some (some (.builtin "object.__setattr__"))):Cls K C:=⟨a,b,c,d⟩
theorem hasm [n:En](c:Cls n.K C)(e:∃ f fd,Fun n.K x q st f fd/\J2t n.K fd ps []/\Meth n.K C m f)(h:∀ f fd,Fun n.K x q st f fd->FnOk n.P n.w n.K n.mg n.base CX k f fd ps sp):
  HasM n.P n.w n.K n.mg n.base CX k m ps sp C:=by obtain ⟨f,fd,F,b,M⟩:=e;exact ⟨f,fd,c,M,h f fd F,b⟩
theorem makm [n:En](a:n.mg y=some (.ref C))(mk:makesIn n.K C=true)(kp:keepIn n.K (.ref C)=true)(e:∃ f fd,Fun n.K x q st f fd/\J2t n.K fd ps []/\Meth n.K C "__init__" f)(h:∀ f fd,Fun n.K x q st f fd->FnOk n.P n.w n.K n.mg n.base CX k f fd ps sp):Mak CX k y C ps [] sp:=by obtain ⟨f,fd,F,b,M⟩:=e;exact ⟨f,fd,⟨mk,M.at_,M.fn,kp⟩,h f fd F,b,a⟩
end
end L2
namespace R74
open PySem L2 Rl En
structure Fd where
 n:Str
 s:Stmt
 p:List Str
noncomputable abbrev Fn1 [En](d:Fd):Prop:=Fn0 d.n d.s d.p
noncomputable abbrev Ca1 [En](k:Nat)(d:Fd)(sp:Sp):Prop:=Cal CX0 k d.n d.p sp
noncomputable abbrev FX1(K:Frag)(mg:Str->Option Value)(d:Fd):Prop:=∃ f fd,Fun K d.n d.n d.s f fd/\J2t K fd d.p []/\mg d.n=some (.ref f)
noncomputable abbrev FS1(N:List Str)(d:Fd):Prop:=Jr N d.p (Je d.s)
noncomputable def top(i:Nat):Stmt:=PySem.Challenge.pw_relaid_k74_whole_back_and_forth.main.body.getD i (.Pass ⟨0,0,0,0⟩)
noncomputable abbrev Jct:Fd:=⟨"moved",top 35,["line","piece","offset","firsts"]⟩
noncomputable abbrev Jl7:Fd:=⟨"refuse_lengths",top 11,["lengths"]⟩
noncomputable abbrev Jl6:Fd:=⟨"refuse_order",top 12,["order","pieces"]⟩
noncomputable abbrev Jl5:Fd:=⟨"refuse_turned",top 13,["turned","pieces"]⟩
noncomputable abbrev Jl2:Fd:=⟨"turns_told",top 14,["turned","pieces"]⟩
noncomputable abbrev Jak:Fd:=⟨"first_places",top 15,["lengths","order"]⟩
noncomputable abbrev J7j:Fd:=⟨"length_of",top 38,["rest","letters"]⟩
noncomputable abbrev J9d:Fd:=⟨"rest_of",top 39,["line"]⟩
noncomputable abbrev Jaj:Fd:=⟨"letter_in",top 40,["rest","row","y"]⟩
noncomputable abbrev Jhg:Fd:=⟨"gone_between",top 41,["rest","y","from_row","to_row"]⟩
noncomputable abbrev J9h:Fd:=⟨"letter_at",top 42,["rest","y"]⟩
noncomputable abbrev J9f:Fd:=⟨"rest_comes",top 44,["rest","y"]⟩
noncomputable abbrev J4a:Fd:=⟨"without",top 46,["row","letter"]⟩
noncomputable abbrev J4c:Fd:=⟨"letters_behind",top 47,["row","letter"]⟩
noncomputable abbrev fPut:Fd:=⟨"put_beside",top 48,["row","winner","loser","ahead"]⟩
noncomputable abbrev J3i:Fd:=⟨"changed",top 49,["row","letter","entry"]⟩
noncomputable abbrev J7i:Fd:=⟨"shortened",top 50,["rest","winner","less"]⟩
noncomputable abbrev J60:Fd:=⟨"turns_behind",top 51,["rest","winner","loser"]⟩
noncomputable abbrev Jaf:Fd:=⟨"whole_times",top 59,["rest","winner","row"]⟩
noncomputable abbrev Jcr:Fd:=⟨"over_step",top 60,["rest","winner","loser"]⟩
noncomputable abbrev J99:Fd:=⟨"under_step",top 61,["rest","winner","loser"]⟩
noncomputable abbrev Jl9:Fd:=⟨"next_step",top 62,["rest"]⟩
noncomputable abbrev J9j:Fd:=⟨"first_towers",top 64,["line"]⟩
noncomputable abbrev Jl1:Fd:=⟨"towers_behind",top 65,["towers","step","rest","behind"]⟩
noncomputable abbrev J9l:Fd:=⟨"bands_left",top 66,["step","rest","behind","towers"]⟩
noncomputable abbrev J9a:Fd:=⟨"stretches_of",top 19,["line"]⟩
noncomputable abbrev J9k:Fd:=⟨"first_goes",top 20,["stretch"]⟩
noncomputable abbrev Jcv:Fd:=⟨"last_goes",top 21,["stretch"]⟩
noncomputable abbrev Jcy:Fd:=⟨"go_together",top 22,["one","two"]⟩
noncomputable abbrev Jcu:Fd:=⟨"made_one",top 23,["one","two"]⟩
noncomputable abbrev J4b:Fd:=⟨"longest",top 24,["stretches"]⟩
noncomputable abbrev J9g:Fd:=⟨"parts_between",top 27,["one","two"]⟩
noncomputable abbrev Jai:Fd:=⟨"line_within",top 30,["stretches"]⟩
noncomputable abbrev J9i:Fd:=⟨"joined",top 31,["one","two"]⟩
noncomputable abbrev Jag:Fd:=⟨"share_of",top 69,["chart","at"]⟩
noncomputable abbrev Jd0:Fd:=⟨"come_from",top 70,["chart","at","y"]⟩
noncomputable abbrev Jlb:Fd:=⟨"address",top 71,["chart","x"]⟩
noncomputable abbrev Jcs:Fd:=⟨"other_offset",top 81,["band","offset"]⟩
noncomputable abbrev J9e:Fd:=⟨"rounds_of_band",top 84,["band"]⟩
noncomputable abbrev J9c:Fd:=⟨"rounds",top 85,["chart"]⟩
noncomputable abbrev Jla:Fd:=⟨"_law_cell",top 87,["script","k"]⟩
noncomputable abbrev J9b:Fd:=⟨"_law_shared",top 91,["one","two"]⟩
noncomputable abbrev Jcm:Fd:=⟨"rest_goes",top 43,["rest","y"]⟩
noncomputable abbrev Jl8:Fd:=⟨"refuse_address",top 72,["chart","told"]⟩
noncomputable abbrev Jcq:Fd:=⟨"part_own_first",top 74,["step","towers","letter","due"]⟩
noncomputable abbrev Jcp:Fd:=⟨"part_own_last",top 75,["step","towers","letter","due"]⟩
noncomputable abbrev Jco:Fd:=⟨"part_done",top 76,["chart","at","letter","due"]⟩
noncomputable abbrev Jcx:Fd:=⟨"gone_by_part",top 77,["chart","at","y","part"]⟩
noncomputable abbrev Jcw:Fd:=⟨"homes_of",top 78,["chart"]⟩
noncomputable abbrev Jcn:Fd:=⟨"place",top 79,["chart","told"]⟩
noncomputable abbrev Jlc:Fd:=⟨"address_after",top 82,["chart","told","goings"]⟩
noncomputable abbrev Jd2:Fd:=⟨"after",top 83,["chart","x","goings"]⟩
noncomputable abbrev Jd1:Fd:=⟨"back_line",top 32,["line"]⟩
noncomputable abbrev J52:Fd:=⟨"repeated",top 33,["line","times"]⟩
noncomputable abbrev Jl3:Fd:=⟨"_law_shuffled",top 88,["cell","many"]⟩
noncomputable abbrev Jcz:Fd:=⟨"_law_drawn",top 89,["cells","marks","many","span"]⟩
noncomputable abbrev J6q:Fd:=⟨"_law_divided",top 92,["found","times"]⟩
noncomputable abbrev iV(ns:List Int):List V:=ns.map V.int
noncomputable abbrev nV(os:List Nat):List V:=(natI os).map V.int
noncomputable abbrev bV(bs:List Bool):List V:=bs.map V.bl
noncomputable def SqH(H:Hp)(p:Addr)(xs:List V):Prop:=H p=some (.lst xs)\/H p=some (.tup xs)
theorem SqH.sq{K:Frag}(h:SqH H p xs):SqL K H p xs\/SqT K H p xs:=h.elim (fun h=>.inl (SqL.of h)) fun h=>.inr (SqT.of h)
theorem SqH.same(h:SqH H p xs)(s:Same H H'):SqH H' p xs:=h.elim (fun h=>.inl (s _ _ h)) fun h=>.inr (s _ _ h)
theorem J9(h:H l=none):Same H (upd H l o):=fun b u e=>by rw [Jm (Jd e h)];exact e
theorem iteD{A:Prop}[Decidable c](a:¬ c)(h:B):if decide c=true then A else B:=by
 simp_all
theorem J48{A:Prop}[Decidable c](a:c)(h:A):if decide c=true then A else B:=by
 simp_all
theorem J90{A:Prop}(h:c=true)(q:A):if c=true then A else B:=by simp_all
theorem J91{A:Prop}(h:¬ c=true)(q:B):if c=true then A else B:=by rw [if_neg h];exact q
theorem J29{K:Frag}(h:SqH H p xs)(k:∀ l a,Same H a->a l=some (.tup xs)->Q (.ref l) a):rTup K [V.ref p] H Q:=by
 unfold rTup;rcases h with h | h
 ·exact ⟨p,xs,rfl,.inl ⟨SqL.of h,fun l b=>k l _ (J9 b) J6⟩⟩
 ·exact ⟨p,xs,rfl,.inr ⟨SqT.of h,k p H (Same.refl _) h⟩⟩
theorem Jht(h:i≠j):¬ V.int i=V.int j:=fun e=>h (V.int.inj e)
theorem Jkp(h:o < n):ixN n (o:Int)=some o:=by
 unfold ixN;rw [if_pos (by lia),if_pos (by lia)];simp
theorem J1g(h:j < ns.length):(iV ns)[j]?=some (V.int (ns.getD j 0)):=by
 simp_all
theorem Jg1(ns:List Int)(j:Nat)(z:Int):(iV ns).set j (V.int z)=iV (ns.set j z):=by
 simp_all
theorem Jpw{os:List Nat}{j:Nat}{y:V}(h:(nV os)[j]?=some y):j < os.length/\y=V.int (os.getD j 0:Nat)/\os.getD j 0∈os:=by
 have a:j < os.length:=by
  have:=(List.getElem?_eq_some_iff.mp h).1;simpa [natI] using this
 refine ⟨a,?_,?_⟩
 ·rw [getElem?_map] at h;unfold natI at h;rw [getElem?_map,List.getElem?_eq_getElem a] at h;rw [getD_eq_getElem?_getD,List.getElem?_eq_getElem a];exact (Option.some.inj h).symm
 ·rw [getD_eq_getElem?_getD,List.getElem?_eq_getElem a];exact List.getElem_mem a
theorem Jl0(n:Nat):(List.replicate n [V.int 0]).flatten=iV (List.replicate n 0):=by
 simp_all
theorem Jhe(n:Nat):(List.replicate n [V.bl false]).flatten=bV (List.replicate n false):=by
 simp_all
theorem J4x :(putF f v fs).lookup f=some v:=by rw [J46,if_pos rfl]
theorem J5x(h:¬ g=f):(putF f v fs).lookup g=fs.lookup g:=by rw [J46,if_neg h]
theorem J2r(ls:List Int):(iV ls).length=ls.length:=length_map ..
noncomputable def J1n(x:Addr)(H a:Hp):Prop:=∀ b o,H b=some o->b≠x->a b=some o
theorem J1n.of(s:Same H H'):J1n x H H':=fun b o e _=>s b o e
theorem J1n.trans(a:J1n x H H1)(b:J1n x H1 H2):J1n x H H2:=fun c o e n=>b c o (a c o e n) n
theorem J1n.upd :J1n x H (upd H x o):=fun b u e n=>by rw [Jm n];exact e
structure Sx(x C dx:Addr)(Hw:Hp)(fs:List (Str × V))(n:Nat)(H:Hp):Prop where
 at_:H x=some (.ins C dx fs)
 kp:J1n x Hw H
 len:fs.length<=n
 lt:n < 1000
structure Tp(x p:Addr)(xs:List V)(H:Hp):Prop where
 ne:p≠x
 at_:H p=some (.tup xs)
theorem Tp.kp(t:Tp x p xs H)(k:J1n x H H'):Tp x p xs H':=⟨t.ne,k _ _ t.at_ t.ne⟩
theorem Sx.nil(h:H x=some (.ins C dx [])):Sx x C dx H [] 0 H:=⟨h,fun _ _ e _=>e,Nat.le_refl _,by decide⟩
theorem Sx.few(S:Sx x C dx Hw fs n H):fs.length < 1000:=Nat.lt_of_le_of_lt S.len S.lt
theorem Sx.set(S:Sx x C dx Hw fs n H)(s:Same H H3)(f:Str)(v:V)(h:n + 1 < 1000:=by decide):∃ a,upd H3 x (.ins C dx (putF f v fs))=a/\Sx x C dx Hw (putF f v fs) (n + 1) a/\J1n x H a:=
 ⟨_,rfl,⟨J6,(S.kp.trans (J1n.of s)).trans J1n.upd,Nat.le_trans (J1i ..) (Nat.succ_le_succ S.len),h⟩,(J1n.of s).trans J1n.upd⟩
theorem Sx.put(S:Sx x C dx Hw fs n H)(s:Same H H3)(b:H3 p=some (.tup xs))(f:Str)(h:n + 1 < 1000:=by decide):∃ a,upd H3 x (.ins C dx (putF f (.ref p) fs))=a/\Sx x C dx Hw (putF f (.ref p) fs) (n + 1) a/\J1n x H a/\Tp x p xs a:=
 let ⟨a,e,S4,k⟩:=S.set s f (.ref p) h;have n:=fun z=>by rw [z,s _ _ S.at_] at b;cases b
 ⟨a,e,S4,k,n,by rw [<- e,Jm n];exact b⟩
noncomputable def okO:HO->Bool
 | .tup _=>true
 | .ins _ _ fs=>(fs.lookup ("lengths":Str)).isSome || (fs.lookup ("rests":Str)).isSome || (fs.lookup ("winner":Str)).isSome
 | _=>false
noncomputable def Kp(H a:Hp):Prop:=∀ b u,H b=some u->okO u=true->a b=some u
theorem Kp.of(s:Same H H'):Kp H H':=fun b u e _=>s b u e
theorem Kp.trans(a:Kp H H1)(b:Kp H1 H2):Kp H H2:=fun c u e t=>b c u (a c u e t) t
theorem Kp.x{x:Addr}(k:J1n x H H')(h:H x=some o)(n:okO o=false):Kp H H':=fun b u e t=>k b u e fun z=>by grind
theorem J1n.sqH(k:J1n x H H')(h:SqH H p xs)(n:p≠x):SqH H' p xs:=h.elim (fun h=>.inl (k _ _ h n)) fun h=>.inr (k _ _ h n)
theorem SqH.ne(h:SqH H p xs)(a:H x=some (.ins C dx fs)):p≠x:=h.elim (fun h=>Joj h a (by simp_all)) fun h=>Joj h a (by simp_all)
theorem J7l(h:j < ts.length):(bV ts)[j]?=some (V.bl (ts.getD j false)):=by
 simp_all
structure TxtR(mg:Str->Option Value):Prop where
 len:mg "len"=none
 sum:mg "sum"=none
 tuple:mg "tuple"=none
 list:mg "list"=none
 range:mg "range"=none
theorem J4i(row:List Nat):nV row=row.map fun (j:Nat)=>V.int (j:Int):=by
 show (row.map fun (n:Nat)=>(n:Int)).map V.int=_;rw [map_map];rfl
theorem J6l(row:List Nat):(nV row).length=row.length:=by rw [J4i,length_map]
theorem nV_at(h:i < row.length):(nV row)[i]?=some (V.int (row.getD i 0:Nat)):=by
 rw [J4i,getElem?_map,getD_eq_getElem?_getD,List.getElem?_eq_getElem h];rfl
section
variable [En]
inductive Jdn(vs:List V)(H:Hp)(Q:VK)(E:XK):Prop
 | mk(p q:Addr)(ls:List Int)(os:List Nat)(_:vs=[.ref p,.ref q])(_:H p=some (.tup (iV ls)))(_:SqH H q (nV os))(_:(∀ o∈os,o < ls.length))(_:ls.length<=24)(_:∀ l a,Same H a->a l=some (.tup (iV (firsts ls os)))->Q (.ref l) a)
theorem J42:FS1 ["lengths","order","firsts","place","piece"] Jak:=fsc
noncomputable def PvF(p q a:Addr)(ls:List Int)(os:List Nat)(H:Hp)(i:Nat)(σ:St)(b:Hp):Prop:=
 ∃ v,σ=[some (.ref p),some (.ref q),some (.ref a),some (.int (J5l ls os i).2),v]/\b a=some (.lst (iV (J5l ls os i).1))/\H a=none/\Same H b
theorem Jo9(F:Fn1 Jak)(T:TxtR mg):
  Ca1 1 Jak Jdn:=by
 refine F.ok J42 (fun f d A o s H vs Q E X h=>?_);obtain ⟨p,q,ls,os,rfl,I,B,M,Y,k⟩:=h;have N:(iV ls).length=ls.length:=length_map ..;have turn:∀ (c:Addr) (i:Nat) (y:V) (σ:St) (g:Hp) (D:Ends),(nV os)[i]?=some y->PvF p q c ls os H i σ g->D.nx=PvF p q c ls os H (i + 1)->
   Jhc 4 y σ g fun σ2 g=>tSeq (tAsg (tVar 3) (gSub (tVar 2) (tVar 4) rSetL)) (tAsg (tOp (rI0 fun i j=>.int (i + j)) (tVar 3) (tOp (rIxT K) (tVar 0) (tVar 4))) (Jhc 3)) D σ2 g:=by
  rintro c i y σ g D S ⟨v,rfl,G,r,C⟩ W;obtain ⟨hi,rfl,U⟩:=Jpw S;have P:=M _ U;refine ⟨_,rfl,_,rfl,_,rfl,c,_,_,os.getD i 0,rfl,rfl,G,Jkp (by rw [length_map,J4m];exact P),?_⟩;refine ⟨_,rfl,_,rfl,_,rfl,p,_,_,_,rfl,rfl,SqT.of (xs:=iV ls) ?_,Jc (J1g P),_,_,rfl,rfl,?_⟩
  ·rw [Jm (Joj (C _ _ I) G (by intro z;cases z))];exact C _ _ I
  ·show D.nx _ _;rw [W];refine ⟨_,rfl,?_,r,fun b o e=>?_⟩
   ·rw [J6,Jg1];rfl
   ·rw [Jm (Jd e r)];exact C _ _ e
 have w:∀ c,H c=none->∀ J,Same H J->J c=some (.lst (iV (List.replicate ls.length 0)))->PvF p q c ls os H 0 [some (.ref p),some (.ref q),some (.ref c),some (.int 0),none] J:=fun c G J r C=>⟨none,rfl,C,G,r⟩;have done:∀ c (σ:St) (g:Hp),PvF p q c ls os H (nV os).length σ g->tRet (tCB (rTup K) (tCons (tVar 2) tNil)) { nx:=fun _ R=>Q .non R,rt:=Q } σ g:=by
  rintro c σ g ⟨v,rfl,G,r,C⟩;have e:(nV os).length=os.length:=by simp [natI]
  rw [e] at G;exact ⟨_,rfl,J29 (.inl G) fun l R s N=>k l _ (C.trans s) N⟩
 have rep:∀ c,H c=none->∀ m,(upd H c (.lst [V.int 0])) m=none->PvF p q m ls os H 0 [some (.ref p),some (.ref q),some (.ref m),some (.int 0),none] (upd (upd H c (.lst [V.int 0])) m (.lst (List.replicate ((iV ls).length:Int).toNat [V.int 0]).flatten)):=fun c u m r =>
  w m ((J9 u).free r) _ ((J9 u).trans (J9 r)) (by rw [J6,Jl0,N];rfl)
 rcases B with B | B
 ·refine ⟨_,J1 (Jf (i:=2) J42.nd rfl (Or.inl rfl) (Jl Jpt (J2q (J0 Ja J3)) (Jw J12 (by rfl) T.len boot_len (J0 (pv 0) J3))))
   (J1 (Jf (i:=3) J42.nd rfl (Or.inl rfl) Ja)
   (J1 (J3s PassesOwn.never rfl (J33 (pv 1)) (J1y (i:=4) J42.nd rfl (Or.inl rfl)) (J1 (Jfh (pv 3) (Jfk (pv 2) (pv 4) J7u)) (J7 (Jf (i:=3) J42.nd rfl (Or.inl rfl) (Jl J1b (pv 3) (Jp Jj (pv 0) (pv 4)))))))
   (J7 (Jh (J15 J26 (by rfl) T.tuple boot_tuple (J0 (pv 2) J3)))))),?_⟩
  refine ⟨by show 1<=sizeLine;decide,fun c u=>⟨_,rfl,p,_,rfl,.inr (SqT.of (J9 u _ _ I)),c,_,[V.int 0],rfl,rfl,J6,by lia,by lia,?_,fun m r=>?_⟩⟩
  ·show 1 * ((iV ls).length:Int).toNat<=sizeLine;have:=J14 (n:=ls.length) (by lia);lia
  ·have L:=rep c u m r;exact ⟨_,rfl,q,rfl,⟨_,SqL.of (((J9 u).trans (J9 r)) _ _ B)⟩,J5i (K:=K) (a:=q) (xs:=nV os) (PvF p q m ls os H) L (fun i σ g _ O=>by obtain ⟨_,_,_,_,s⟩:=O;exact SqL.of (s _ _ B)) (fun i y σ g hi pv=>turn m i y σ g _ hi pv rfl) (fun σ g pv=>done m σ g pv)⟩
 ·refine ⟨_,J1 (Jf (i:=2) J42.nd rfl (Or.inl rfl) (Jl Jpt (J2q (J0 Ja J3)) (Jw J12 (by rfl) T.len boot_len (J0 (pv 0) J3))))
   (J1 (Jf (i:=3) J42.nd rfl (Or.inl rfl) Ja)
   (J1 (J3s PassesOwn.never rfl (Ja8 (pv 1)) (J1y (i:=4) J42.nd rfl (Or.inl rfl)) (J1 (Jfh (pv 3) (Jfk (pv 2) (pv 4) J7u)) (J7 (Jf (i:=3) J42.nd rfl (Or.inl rfl) (Jl J1b (pv 3) (Jp Jj (pv 0) (pv 4)))))))
   (J7 (Jh (J15 J26 (by rfl) T.tuple boot_tuple (J0 (pv 2) J3)))))),?_⟩
  refine ⟨by show 1<=sizeLine;decide,fun c u=>⟨_,rfl,p,_,rfl,.inr (SqT.of (J9 u _ _ I)),c,_,[V.int 0],rfl,rfl,J6,by lia,by lia,?_,fun m r=>?_⟩⟩
  ·show 1 * ((iV ls).length:Int).toNat<=sizeLine;have:=J14 (n:=ls.length) (by lia);lia
  ·have L:=rep c u m r;exact ⟨_,rfl,q,rfl,⟨_,SqT.of (((J9 u).trans (J9 r)) _ _ B)⟩,Jee (K:=K) (a:=q) (xs:=nV os) (PvF p q m ls os H) L (fun i σ g _ O=>by obtain ⟨_,_,_,_,s⟩:=O;exact SqT.of (s _ _ B)) (fun i y σ g hi pv=>turn m i y σ g _ hi pv rfl) (fun σ g pv=>done m σ g pv)⟩
structure Jgh(K:Frag)(H:Hp)(x:Addr)(ls:List Int)(ts:List Bool):Prop where
 ex:∃ (C dx:Addr) (fs:List (Str × V)) (pl pt:Addr),H x=some (.ins C dx fs)/\Cls K C/\J19 K C "lengths"/\J19 K C "turned"/\fs.lookup ("lengths":Str)=some (.ref pl)/\fs.lookup ("turned":Str)=some (.ref pt)/\H pl=some (.tup (iV ls))/\H pt=some (.tup (bV ts))
inductive Jf5(K:Frag)(vs:List V)(H:Hp)(Q:VK)(E:XK):Prop
 | mk(x p:Addr)(ls:List Int)(ts:List Bool)(fs:List Int)(j:Nat)(off:Int)(_:vs=[.ref x,.int j,.int off,.ref p])(_:Jgh K H x ls ts)(_:H p=some (.tup (iV fs)))(_:fs.length=ls.length)(_:ts.length=ls.length)(_:j < ls.length)(_:Q (.int (J45 ls ts j off fs)) H)
theorem Jr1:FS1 ["line","piece","offset","firsts"] Jct:=fsc
theorem Jjr(F:Fn1 Jct):
  Ca1 1 Jct (Jf5 K):=by
 refine F.ok Jr1 (fun f d A o s H vs Q E v h=>?_);obtain ⟨x,p,ls,ts,fs,j,off,rfl,L,b,e,q,a,k⟩:=h;obtain ⟨C,l,i,pl,pt,g,cl,nL,nT,n,m,u,r⟩:=L.ex;refine ⟨_,J1 (J24 (J3r (Jp Jj (J8 (pv 0)) (pv 1))) (J7 (Jh (Jl J1u (Jl J1u (Jl J1b (Jp Jj (pv 3) (pv 1)) (Jp Jj (J8 (pv 0)) (pv 1))) Ja) (pv 2)))) J13)
  (J7 (Jh (Jl J1b (Jp Jj (pv 3) (pv 1)) (pv 2)))),?_⟩
 refine ⟨_,rfl,x,C,l,i,_,rfl,g,cl,nT,m,_,rfl,pt,_,_,_,rfl,rfl,SqT.of r,Jc (J7l (by rw [q];exact a)),_,rfl,?_⟩;unfold J45 at k;by_cases c:ts.getD j false=true
 ·rw [if_pos c] at k;rw [if_pos c];exact ⟨_,rfl,_,rfl,p,_,_,_,rfl,rfl,SqT.of b,Jc (J1g (by rw [e];exact a)),_,rfl,x,C,l,i,_,rfl,g,cl,nL,n,_,rfl,pl,_,_,_,rfl,rfl,SqT.of u,Jc (J1g a),_,_,rfl,rfl,_,_,rfl,rfl,_,rfl,_,_,rfl,rfl,k⟩
 ·rw [if_neg c] at k;rw [if_neg c];exact ⟨_,rfl,_,rfl,p,_,_,_,rfl,rfl,SqT.of b,Jc (J1g (by rw [e];exact a)),_,rfl,_,_,rfl,rfl,k⟩
end
structure Good(ls:List Int)(os:List Nat):Prop where
 lo:1<=ls.length
 hi:ls.length<=24
 pos:∀ a∈ls,1<=a
 sum:ls.sum<=10 ^ 30
 perm:os.Perm (List.range ls.length)
theorem Good.olt{os:List Nat}(g:Good ls os):∀ o∈os,o < ls.length:=fun o h=>mem_range.mp (g.perm.mem_iff.mp h)
structure Txt(K:Frag)(mg:Str->Option Value):Prop where
 len:mg "len"=none
 min:mg "min"=none
 sum:mg "sum"=none
 sorted:mg "sorted"=none
 list:mg "list"=none
 range:mg "range"=none
 tuple:mg "tuple"=none
 most:∃ t,mg "MOST_PIECES"=some (.int 24 t)
section
variable [En]
inductive Jpf(vs:List V)(H:Hp)(Q:VK)(E:XK):Prop
 | mk(p:Addr)(ls:List Int)(os:List Nat)(_:vs=[.ref p])(_:SqH H p (iV ls))(_:Good ls os)(_:Q .non H)
theorem scRefL:FS1 ["lengths"] Jl7:=fsc
theorem Jrp(F:Fn1 Jl7)(T:Txt K mg):
  Ca1 1 Jl7 Jpf:=by
 refine F.ok scRefL (fun f d A o s H vs Q E l h=>?_);obtain ⟨p,ls,os,rfl,a,g,k⟩:=h;obtain ⟨i,b⟩:=T.most;have n:=g.lo;have m:=g.hi;refine ⟨_,J1 (J24 (Jq J9u (Jw J12 (by rfl) T.len boot_len (J0 (pv 0) J3)) Ja (Jv _)) (J7 J25) J13)
  (J1 (J24 (Jq J8n (Jw J12 (by rfl) T.len boot_len (J0 (pv 0) J3)) (Jj7 (v:=.int 24) rfl b ⟨_,rfl⟩) (Jv _)) (J7 J25) J13)
  (J1 (J24 (Jq J8m (Jw (Jp4 rfl) (by rfl) T.min boot_min (J0 (pv 0) J3)) Ja (Jv _)) (J7 J25) J13)
  (J7 (J24 (Jq J8n (Jw (J4d rfl) (by rfl) T.sum boot_sum (J0 (pv 0) J3)) (Jl Jc8 Ja Ja) (Jv _)) (J7 J25) J13)))),?_⟩
 have c:(iV ls).length=ls.length:=length_map ..;refine ⟨_,rfl,p,_,rfl,a.sq,rfl,_,rfl,iteD (Jht (by rw [c];lia)) ?_⟩;refine ⟨_,rfl,p,_,rfl,a.sq,_,_,rfl,rfl,_,rfl,iteD (by rw [c];lia) ?_⟩;refine ⟨_,rfl,p,ls,rfl,a.sq,by lia,fun M j e=>⟨_,_,rfl,rfl,_,rfl,iteD (by have:=g.pos M j;lia) ?_⟩⟩;refine ⟨_,rfl,p,ls,rfl,a.sq,_,_,rfl,rfl,⟨by decide,by decide,by decide⟩,_,_,rfl,rfl,_,rfl,iteD ?_ ?_⟩
 ·have:=g.sum;show ¬ (10:Int) ^ 30 < ls.sum;lia
 ·exact k
inductive Jpe(vs:List V)(H:Hp)(Q:VK)(E:XK):Prop
 | mk(q:Addr)(os:List Nat)(n:Nat)(_:vs=[.ref q,.int n])(_:SqH H q (nV os))(_:os.Perm (List.range n))(_:n<=24)(_:∀ a,Same H a->Q .non a)
theorem scRefO:FS1 ["order","pieces"] Jl6:=fsc
theorem Jro(F:Fn1 Jl6)(T:Txt K mg):
  Ca1 1 Jl6 Jpe:=by
 refine F.ok scRefO (fun f d A o s H vs Q E u h=>?_);obtain ⟨q,os,n,rfl,v,m,D,k⟩:=h;have p:=u.units0;refine ⟨_,J7 (J24 (Jq (op_neL p) (Jw Jen (by rfl) T.sorted boot_sorted (J0 (pv 0) J3))
  (J15 (J4e rfl) (by rfl) T.list boot_list (J0 (J15 J89 (by rfl) T.range PyProof.Rows.boot_range (J0 (pv 1) J3)) J3)) (Jv _)) (J7 J25) J13),?_⟩
 have w:(natI os).length < 64:=by
  unfold natI;rw [length_map,m.length_eq,length_range];lia
 refine ⟨_,rfl,q,natI os,rfl,v.sq,w,fun l a y B z=>?_⟩;refine ⟨_,rfl,(n:Int),rfl,fun r b=>⟨r,n,rfl,J6,by lia,fun j c=>?_⟩⟩;have e:=Jbw m B z;have C:=Jd (H:=upd H l (.lst (a.map V.int))) J6 b;have g:Same (upd H l (.lst (a.map V.int))) (upd (upd (upd H l (.lst (a.map V.int))) r (.rng 0 n)) j (.lst (((List.range n).map fun (i:Nat)=>(i:Int)).map V.int))):=(J9 b).trans (J9 c);refine ⟨l,j,_,_,rfl,rfl,SqL.of (g _ _ J6),SqL.of J6,Kin.ints _ _,_,rfl,Jkq (by rw [e];rfl) ?_⟩;exact k _ ((J9 y).trans g)
inductive Jpd(vs:List V)(H:Hp)(Q:VK)(E:XK):Prop
 | mk(q:Addr)(xs:List V)(n:Nat)(_:vs=[.ref q,.int n])(_:SqH H q xs)(_:xs.length=n)(_:Q .non H)
theorem scRefT:FS1 ["turned","pieces"] Jl5:=fsc
theorem Jrn(F:Fn1 Jl5)(T:Txt K mg):
  Ca1 1 Jl5 Jpd:=by
 refine F.ok scRefT (fun f d A o s H vs Q E c h=>?_);obtain ⟨q,xs,n,rfl,a,b,k⟩:=h;refine ⟨_,J7 (J24 (Jq J9t (Jw J12 (by rfl) T.len boot_len (J0 (pv 0) J3)) (pv 1) (Jv _)) (J7 J25) J13),?_⟩;refine ⟨_,rfl,q,_,rfl,a.sq,_,rfl,rfl,_,rfl,Jkq (by rw [b]) ?_⟩;exact k
noncomputable def J9r(H:Hp)(a:V)(n:Nat)(ts:List Bool):Prop:=ts.length=n/\((a=.non/\ts=List.replicate n false)\/∃ t,a=.ref t/\SqH H t (bV ts))
theorem J9r.same(h:J9r H tv n ts)(s:Same H H'):J9r H' tv n ts:=⟨h.1,h.2.elim .inl fun a=>by obtain ⟨t,e,q⟩:=a;exact .inr ⟨t,e,q.same s⟩⟩
inductive Jpb(vs:List V)(H:Hp)(Q:VK)(E:XK):Prop
 | mk(b:V)(n:Nat)(ts:List Bool)(_:vs=[b,.int n])(_:1<=n)(_:n<=24)(_:J9r H b n ts)(_:∀ p a,Same H a->a p=some (.tup (bV ts))->Q (.ref p) a)
theorem scTold:FS1 ["turned","pieces"] Jl2:=fsc
theorem Jrl(F:Fn1 Jl2)(T:Txt K mg)(m:Ca1 1 Jl5 Jpd):
  Ca1 2 Jl2 Jpb:=by
 refine F.ok scTold (fun f d A o s H vs Q E i h=>?_);obtain ⟨q,n,ts,rfl,v,u,⟨g,j⟩,k⟩:=h;refine ⟨_,J1 (J24 (pt_cmp (pc_isN (pv 0))) (J7 (Jh (Jl Jj8 (J30 (J0 J70 J3)) (pv 1)))) J13)
  (J1 (J1t (pcl m i Jg (J0 (pv 0) (J0 (pv 1) J3))))
  (J7 (Jh (J15 J26 (by rfl) T.tuple boot_tuple (J0 (pv 0) J3))))),?_⟩
 rcases j with ⟨rfl,rfl⟩ | ⟨t,rfl,hq⟩
 ·refine ⟨_,rfl,_,rfl,J48 rfl ?_⟩;refine ⟨by show 1<=sizeLine;decide,fun p b=>⟨_,rfl,p,(n:Int),[V.bl false],rfl,rfl,J6,by simp,by lia,by lia,?_,fun e=>?_,fun r c a=>?_⟩⟩
  ·show 1 * (n:Int).toNat<=sizeLine;have:=J14 (n:=n) (by lia);lia
  ·have l:n=1:=by lia
   subst l;exact k p _ (J9 b) J6
  ·refine k c _ ((J9 b).trans (J9 a)) ?_;rw [J6,<- Jhe];rfl
 ·refine ⟨_,rfl,_,rfl,iteD (by intro e;cases e) ?_⟩;refine ⟨_,rfl,_,rfl,t,bV ts,n,rfl,hq,by rw [length_map];exact g,?_⟩;exact ⟨_,rfl,J29 hq k⟩
end
section
variable [En]
inductive tCutR(t:TS)(D:Ends)(σ:St)(H:Hp):Prop
 | mk(a:St->Hp->Prop)(_:t { D with nx:=a } σ H)(_:∀ σ' b,a σ' b->D.nx σ' b)
noncomputable def tCut(t:TS):TS:=fun D σ H=>tCutR t D σ H
theorem J4r(h:PS X st t):PS X st (tCut t):=by
 intro pins s σ H D I ⟨post,q,m⟩;refine thn (h pins s σ H _ I q) fun f s' z=>?_
 cases f with
 | next=>obtain ⟨σ',a,b,z⟩:=z;exact ⟨σ',a,b,m σ' a z⟩
 | brk=>exact z
 | cont=>exact z
 | ret u=>exact z
structure J2e(C:Addr)(H:Hp)(x:Addr)(ls:List Int)(os:List Nat)(ts:List Bool):Prop where
 ex:∃ (dx:Addr) (fs:List (Str × V)) (pl po pt ps pd:Addr),H x=some (.ins C dx fs)/\(fs.lookup ("lengths":Str)=some (.ref pl)/\fs.lookup ("order":Str)=some (.ref po)/\fs.lookup ("turned":Str)=some (.ref pt)/\
  fs.lookup ("starts":Str)=some (.ref ps)/\fs.lookup ("laid":Str)=some (.ref pd)/\fs.lookup ("size":Str)=some (.int ls.sum))/\
  H pl=some (.tup (iV ls))/\H po=some (.tup (nV os))/\H pt=some (.tup (bV ts))/\H ps=some (.tup (iV (firsts ls (List.range ls.length))))/\H pd=some (.tup (iV (firsts ls os)))
theorem J2e.kp{os:List Nat}(h:J2e C H x ls os ts)(s:Kp H H'):J2e C H' x ls os ts:=by
 obtain ⟨j,fs,pl,po,pt,ps,b,i,a,g,f,e,d,c⟩:=h.ex;exact ⟨j,fs,pl,po,pt,ps,b,s _ _ i (by simp [okO,a.1]),a,s _ _ g rfl,s _ _ f rfl,s _ _ e rfl,s _ _ d rfl,s _ _ c rfl⟩
theorem J2e.same{os:List Nat}(h:J2e C H x ls os ts)(s:Same H H'):J2e C H' x ls os ts:=h.kp (Kp.of s)
structure TxtC(K:Frag)(mg:Str->Option Value)(C:Addr):Prop where
 cl:Cls K C
 nL:J19 K C "lengths"
 nO:J19 K C "order"
 nT:J19 K C "turned"
 nS:J19 K C "starts"
 nD:J19 K C "laid"
 nZ:J19 K C "size"
structure FunD(K:Frag)(x qual:Str)(st:Stmt)(f:Addr)(fd:FuncData)(TD:Addr):Prop where
 ex:∃ (oc:Value) (od:Option Addr) (kV doc pm:Value) (an:Option Addr) (cdv ct:Value) (osl:Array (Option Value)),
  fd=fnOf x qual (J2i st) (J1j st) (Je st) (.ref TD) kV doc pm an cdv ct/\K.lookup f=some ⟨oc,od,.func fd,osl⟩/\codeIn K cdv qual=true
 kp:keepIn K (.ref f)=true
theorem FunD.ok(F:FunD K x qual st f fd TD)(S:Jr N ps (Je st))(len:∀ vs H Q E,sp vs H Q E->vs.length=ps.length)(b:∀ (a:Value) (A:Around) (outer:List Env) (s:Shared) (H:Hp) (vs:List V) (Q:VK) (E:XK),Room k (A.deeper (PyProof.Rows.envOfC qual (Je st) s.heap.objs.size f a))->sp vs H Q E->
   ∃ t,PSs (cxOf CX0 P w K mg base N qual (Je st) f a A outer s H E).nox (J1j st) t/\t { nx:=fun _ l=>Q .non l,rt:=Q } (start N vs) H):FnOk P w K mg base CX0 (k + 1) f fd ps sp:=by
 obtain ⟨o,n,kV,j,m,p,a,ct,e,rfl,g,d⟩:=F.ex;refine Jsi g d S len fun A outer s H vs Q E i c=>?_;obtain ⟨t,h,q⟩:=b a A outer s H vs Q E i c;exact ⟨t,h.nox,q⟩
inductive Jf8(C:Addr)(vs:List V)(H:Hp)(Q:VK)(E:XK):Prop
 | mk(x d p q:Addr)(c:V)(ls:List Int)(os:List Nat)(ts:List Bool)(_:vs=[.ref x,.ref p,.ref q,c])(_:H x=some (.ins C d []))(_:SqH H p (iV ls))(_:SqH H q (nV os))(_:Good ls os)(_:J9r H c ls.length ts)(_:∀ a,J2e C a x ls os ts->(∀ b o,H b=some o->b≠x->a b=some o)->Q .non a)
theorem scInit:Jr ["self","lengths","order","turned"] ["self","lengths","order","turned"] (Je (Jb (top 16) 0)):=fsc
theorem Jrt(F:FunD K "__init__" "Line.__init__" (Jb (top 16) 0) f fd TD)(T:Txt K mg)(a:TxtC K mg C)(cL:Ca1 1 Jl7 Jpf)(cO:Ca1 1 Jl6 Jpe)(cT:Ca1 2 Jl2 Jpb)(cF:Ca1 1 Jak Jdn):
  FnOk P w K mg base CX0 3 f fd ["self","lengths","order","turned"] (Jf8 C):=by
 refine F.ok scInit (fun vs H Q E h=>?_) (fun d A o s H vs Q E n h=>?_)
 ·obtain ⟨x,b,p,q,tv,ls,os,ts,rfl,_⟩:=h;rfl
 ·obtain ⟨x,b,p,q,tv,ls,os,ts,rfl,z,e,U,g,ht,k⟩:=h;have g1:=g.lo;have B:=g.hi;have m:=e.ne z;have M:=U.ne z;refine ⟨_,J1 (J1t (pcl cL n Jg (J0 (pv 1) J3)))
   (J1 (J1t (pcl cO n Jg (J0 (pv 2) (J0 (Jw J12 (by rfl) T.len boot_len (J0 (pv 1) J3)) J3))))
   (J1 (J1s (pv 0) (pcl cT n Jg (J0 (pv 3) (J0 (Jw J12 (by rfl) T.len boot_len (J0 (pv 1) J3)) J3))) rfl)
   (J1 (J1s (pv 0) (J15 J26 (by rfl) T.tuple boot_tuple (J0 (pv 1) J3)) rfl)
   (J1 (J1s (pv 0) (J15 J26 (by rfl) T.tuple boot_tuple (J0 (pv 2) J3)) rfl)
   (J1 (J1s (pv 0) (pcl cF n Jg (J0 (J8 (pv 0)) (J0 (J15 (J4e rfl) (by rfl) T.list boot_list (J0 (J15 J89 (by rfl) T.range PyProof.Rows.boot_range (J0 (Jw J12 (by rfl) T.len boot_len (J0 (pv 1) J3)) J3)) J3)) J3))) rfl)
   (J1 (J1s (pv 0) (pcl cF n Jg (J0 (J8 (pv 0)) (J0 (J8 (pv 0)) J3))) rfl)
   (J7 (J1s (pv 0) (Jw (J4d rfl) (by rfl) T.sum boot_sum (J0 (J8 (pv 0)) J3)) rfl)))))))),?_⟩
  refine ⟨_,rfl,p,ls,os,rfl,e,g,?_⟩;refine ⟨_,rfl,_,rfl,p,_,rfl,e.sq,q,os,ls.length,(by rw [J2r];rfl),U,g.perm,B,fun H1 L=>?_⟩;refine ⟨_,rfl,_,rfl,p,_,rfl,(e.same L).sq,tv,ls.length,ts,(by rw [J2r];rfl),g1,B,ht.same L,fun pt H2 s2 W=>?_⟩;have j:=L.trans s2;refine ⟨_,rfl,x,C,b,[],rfl,j _ _ z,a.cl,a.nT,by decide,?_⟩;obtain ⟨H3,e3,I,_,t1⟩:=(Sx.nil z).put j W "turned";rw [e3];refine ⟨_,rfl,J29 (I.kp.sqH e m) fun pl H4 s4 Z=>⟨_,rfl,x,C,b,_,rfl,s4 _ _ I.at_,a.cl,a.nL,I.few,?_⟩⟩;obtain ⟨H5,e5,G,k5,c⟩:=I.put s4 Z "lengths";rw [e5];refine ⟨_,rfl,J29 (G.kp.sqH U M) fun po H6 s6 Y=>⟨_,rfl,x,C,b,_,rfl,s6 _ _ G.at_,a.cl,a.nO,G.few,?_⟩⟩;obtain ⟨H7,e7,v,k7,t3⟩:=G.put s6 Y "order";rw [e7];refine ⟨_,rfl,x,C,b,_,_,rfl,v.at_,a.cl,a.nL,show _=some (V.ref pl) by kernel_rfl,_,rfl,p,_,rfl,(v.kp.sqH e m).sq,_,rfl,fun r S=>⟨r,_,rfl,J6,(by rw [J2r];lia),fun l hl=>?_⟩⟩;have c:=c.kp k7;have J:=(J9 (o:=.rng 0 ((iV ls).length:Nat)) S).trans (J9 (o:=.lst (((List.range (iV ls).length).map fun (i:Nat)=>(i:Int)).map V.int)) hl);refine ⟨pl,l,ls,List.range ls.length,rfl,J _ _ c.at_,.inl (by rw [J6,J2r];rfl),fun o ho=>mem_range.mp ho,B,fun ps H9 s9 X=>?_⟩;refine ⟨_,rfl,x,C,b,_,rfl,(J.trans s9) _ _ v.at_,a.cl,a.nS,v.few,?_⟩;obtain ⟨Ha,ea,u,y,t4⟩:=v.put (J.trans s9) X "starts";rw [ea];refine ⟨_,rfl,x,C,b,_,_,rfl,u.at_,a.cl,a.nL,show _=some (V.ref pl) by kernel_rfl,_,rfl,x,C,b,_,_,rfl,u.at_,a.cl,a.nO,show _=some (V.ref po) by kernel_rfl,pl,po,ls,os,rfl,(c.kp y).at_,.inr (t3.kp y).at_,g.olt,B,fun pd Hb sb aa=>?_⟩;refine ⟨_,rfl,x,C,b,_,rfl,sb _ _ u.at_,a.cl,a.nD,u.few,?_⟩;obtain ⟨Hc,ec,D,R,t5⟩:=u.put sb aa "laid";rw [ec];refine ⟨_,rfl,x,C,b,_,_,rfl,D.at_,a.cl,a.nL,show _=some (V.ref pl) by kernel_rfl,pl,ls,rfl,.inr (SqT.of ((c.kp y).kp R).at_),_,rfl,x,C,b,_,rfl,D.at_,a.cl,a.nZ,D.few,?_⟩;obtain ⟨Hz,ez,Sz,N⟩:=D.set (Same.refl _) "size" (.int ls.sum);rw [ez];have O:=(y.trans R).trans N;exact k _ ⟨b,_,pl,po,pt,ps,pd,Sz.at_,⟨by kernel_rfl,by kernel_rfl,by kernel_rfl,by kernel_rfl,by kernel_rfl,by kernel_rfl⟩,(c.kp O).at_,(t3.kp O).at_,(((t1.kp k5).kp k7).kp O).at_,(t4.kp (R.trans N)).at_,(t5.kp N).at_⟩ Sz.kp
end
theorem Good.ord{os:List Nat}(g:Good ls os):Ord ls os:=⟨g.pos,g.perm⟩
theorem Good.pos_sum{os:List Nat}(g:Good ls os):0 < ls.sum:=by
 have b:Jt ls (List.range ls.length) 0 < Jt ls (List.range ls.length) 1:=g.ord.range.step (i:=0) g.lo;have a:=g.ord.range.mono (i:=1) (k:=ls.length) g.lo (Nat.le_refl _);rw [g.ord.range.whole] at a;rw [J3e] at b;lia
section
variable [En]
inductive J8g(K:Frag)(vs:List V)(H:Hp)(Q:VK)(E:XK):Prop
 | mk(C x q b pl:Addr)(fs:List (Str × V))(ls:List Int)(row:List Nat)(_:vs=[.ref x,.ref q])(_:H x=some (.ins C b fs))(_:Cls K C)(_:J19 K C "lengths")(_:fs.lookup ("lengths":Str)=some (.ref pl))(_:H pl=some (.tup (iV ls)))(_:H q=some (.tup (nV row)))(_:(∀ j∈row,j < ls.length))(_:row.length<=24)(_:∀ a,Same H a->Q (.int (J2 ls row)) a)
theorem Jr4:FS1 ["rest","letters"] J7j:=fsc
theorem Jo3(F : Fn1 J7j)(T : TxtR mg):
    Ca1 1 J7j (J8g K):= by
  refine F.ok Jr4 (fun f d A o s H vs Q E v h => ?_);obtain ⟨C, x, q, r, pl, fs, ls, row, rfl, l, p, n, i, b, g, c, w, k⟩ := h;refine ⟨_, J7 (Jh (Jw (J4d rfl) (by rfl) T.sum boot_sum (J0 (Jc6 (caps := ["rest"]) (js := [0]) rfl (Ja8 (pv 1)) rfl (fun _ _ _ _ => J3l)
    (fun C y s H => J8k (J8z K) (J3u K (pv 1)) (pv 0))
   ) J3))), ?_⟩
  refine ⟨_, rfl, q, rfl, ⟨_, SqT.of g⟩, fun d hd => Jq0 (fun (j : Nat) => V.int (j : Int)) row (fun _ => true) (fun j => V.int (ls.getD j 0)) (by rw [<- J4i]; exact SqT.of g) (by lia) hd
    (fun _ _ H _ _ k => k H (Same.refl _)) (fun j m B z _ e k => ?_) (fun u s' a => ?_)⟩
  · exact ⟨_, rfl, x, C, r, fs, _, rfl, e _ _ l, p, n, i, _, rfl, pl, _, _, _, rfl, rfl, SqT.of (e _ _ b), Jc (J1g (c j m)), k _ (Same.refl _)⟩
  · rw [J3v] at a
    refine ⟨d, row.map fun j => ls.getD j 0, rfl, .inl (SqL.of ?_), k u s'⟩;rw [a, map_map]; rfl
structure J1h(CR:Addr)(H:Hp)(x:Addr)(r:Rst):Prop where
 ex:∃ (dx:Addr) (fs:List (Str × V)) (pt pb pl pu:Addr),H x=some (.ins CR dx fs)/\(fs.lookup ("top":Str)=some (.ref pt)/\fs.lookup ("bottom":Str)=some (.ref pb)/\fs.lookup ("lengths":Str)=some (.ref pl)/\
  fs.lookup ("turned":Str)=some (.ref pu)/\fs.lookup ("size":Str)=some (.int r.size))/\H pt=some (.tup (nV r.top))/\H pb=some (.tup (nV r.bot))/\H pl=some (.tup (iV r.ls))/\H pu=some (.tup (bV r.ts))
theorem J1h.kp{CR:Addr}(h:J1h CR H x r)(s:Kp H H'):J1h CR H' x r:=by
 obtain ⟨j,fs,pt,c,pl,b,i,a,g,f,e,d⟩:=h.ex;exact ⟨j,fs,pt,c,pl,b,s _ _ i (by simp [okO,a.2.2.1]),a,s _ _ g rfl,s _ _ f rfl,s _ _ e rfl,s _ _ d rfl⟩
theorem J1h.same{CR:Addr}(h:J1h CR H x r)(s:Same H H'):J1h CR H' x r:=h.kp (Kp.of s)
structure J17(K:Frag)(CR:Addr):Prop where
 cl:Cls K CR
 nT:J19 K CR "top"
 nB:J19 K CR "bottom"
 nL:J19 K CR "lengths"
 nU:J19 K CR "turned"
 nZ:J19 K CR "size"
theorem J1h.fields{K:Frag}{CR:Addr}(a:J17 K CR)(h:J1h CR H x r):Jgh K H x r.ls r.ts:=by
 obtain ⟨i,fs,pt,j,pl,b,g,⟨n,m,d,c,l⟩,p,o,f,e⟩:=h.ex;exact ⟨CR,i,fs,pl,b,g,a.cl,a.nL,a.nU,d,c,f,e⟩
inductive J40(CR:Addr)(vs:List V)(H:Hp)(Q:VK)(E:XK):Prop
 | mk(x f e d c b:Addr)(r:Rst)(_:vs=[.ref x,.ref e,.ref d,.ref c,.ref b])(_:H x=some (.ins CR f []))(_:SqH H e (nV r.top))(_:SqH H d (nV r.bot))(_:SqH H c (iV r.ls))(_:SqH H b (bV r.ts))(_:(∀ j∈r.top,j < r.ls.length))(_:r.top.length<=24)(_:∀ a,J1h CR a x r->J1n x H a->Q .non a)
theorem Jqv:Jr ["self","top","bottom","lengths","turned"] ["self","top","bottom","lengths","turned"] (Je (Jb (top 37) 0)):=fsc
theorem Jnq{CR:Addr}(F:Fun K "__init__" "Rest.__init__" (Jb (top 37) 0) f fd)(T:TxtR mg)(a:J17 K CR)(cL:Ca1 1 J7j (J8g K)):
  FnOk P w K mg base CX0 2 f fd ["self","top","bottom","lengths","turned"] (J40 CR):=by
 refine F.ok1 Jqv (fun d A o s H vs Q E hr h=>?_);obtain ⟨x,b,p1,p2,p3,p4,r,rfl,c,N,M,L,J,z,hn,k⟩:=h;have n1:=N.ne c;have n2:=M.ne c;have Z:=L.ne c;have Y:=J.ne c;refine ⟨_,J1 (J1s (pv 0) (J15 J26 (by rfl) T.tuple boot_tuple (J0 (pv 1) J3)) rfl)
  (J1 (J1s (pv 0) (J15 J26 (by rfl) T.tuple boot_tuple (J0 (pv 2) J3)) rfl)
  (J1 (J1s (pv 0) (J15 J26 (by rfl) T.tuple boot_tuple (J0 (pv 3) J3)) rfl)
  (J1 (J1s (pv 0) (J15 J26 (by rfl) T.tuple boot_tuple (J0 (pv 4) J3)) rfl)
  (J7 (J1s (pv 0) (pcl cL hr Jg (J0 (pv 0) (J0 (J8 (pv 0)) J3))) rfl))))),?_⟩
 refine ⟨_,rfl,J29 N fun pt H1 I u=>⟨_,rfl,x,CR,b,[],rfl,I _ _ c,a.cl,a.nT,by decide,?_⟩⟩;obtain ⟨H2,e2,n,_,i⟩:=(Sx.nil c).put I u "top";rw [e2];refine ⟨_,rfl,J29 (n.kp.sqH M n2) fun X H3 G y=>⟨_,rfl,x,CR,b,_,rfl,G _ _ n.at_,a.cl,a.nB,n.few,?_⟩⟩;obtain ⟨H4,e4,m,k4,U⟩:=n.put G y "bottom";rw [e4];refine ⟨_,rfl,J29 (m.kp.sqH L Z) fun pl H5 D v=>⟨_,rfl,x,CR,b,_,rfl,D _ _ m.at_,a.cl,a.nL,m.few,?_⟩⟩;obtain ⟨H6,e6,l,O,g⟩:=m.put D v "lengths";rw [e6];refine ⟨_,rfl,J29 (l.kp.sqH J Y) fun W H7 C q=>⟨_,rfl,x,CR,b,_,rfl,C _ _ l.at_,a.cl,a.nU,l.few,?_⟩⟩;obtain ⟨H8,e8,e,p,S⟩:=l.put C q "turned";rw [e8];have g:=g.kp p;have i:=((i.kp k4).kp O).kp p;refine ⟨_,rfl,_,rfl,x,CR,b,_,_,rfl,e.at_,a.cl,a.nT,show _=some (V.ref pt) by kernel_rfl,CR,x,pt,b,pl,_,r.ls,r.top,rfl,e.at_,a.cl,a.nL,show _=some (V.ref pl) by kernel_rfl,g.at_,i.at_,z,hn,fun H9 B=>?_⟩;refine ⟨_,rfl,x,CR,b,_,rfl,B _ _ e.at_,a.cl,a.nZ,e.few,?_⟩;obtain ⟨Hz,ez,R,j⟩:=e.set B "size" (.int (J2 r.ls r.top));rw [ez];exact k _ ⟨b,_,pt,X,pl,W,R.at_,⟨by kernel_rfl,by kernel_rfl,by kernel_rfl,by kernel_rfl,by kernel_rfl⟩,(i.kp j).at_,(((U.kp O).kp p).kp j).at_,(g.kp j).at_,(S.kp j).at_⟩ R.kp
end
section
variable [En]
noncomputable abbrev J2c(ls:List Int)(os:List Nat)(ts:List Bool):Rst:=⟨List.range ls.length,os,ls,ts⟩
inductive Jf2(C CR:Addr)(vs:List V)(H:Hp)(Q:VK)(E:XK):Prop
 | mk(x:Addr)(ls:List Int)(os:List Nat)(ts:List Bool)(_:vs=[.ref x])(_:J2e C H x ls os ts)(_:ls.length<=24)(_:∀ p a,Same H a->J1h CR a p (J2c ls os ts)->Q (.ref p) a)
theorem Jmk:FS1 ["line"] J9d:=fsc
theorem Jjk{CR:Addr}(F:Fn1 J9d)(T:TxtR mg)(c:TxtC K mg C)(X:Mak CX0 2 "Rest" CR ["self","top","bottom","lengths","turned"] [] (J40 CR)):
  Ca1 4 J9d (Jf2 C CR):=by
 refine F.ok Jmk (fun f d A o s H vs Q E N h=>?_);obtain ⟨x,ls,os,ts,rfl,L,O,k⟩:=h;obtain ⟨p,n,pl,po,pt,ps,Z,m,⟨D,M,J,k4,k5,k6⟩,I,W,U,e4,e5⟩:=L.ex;refine ⟨_,J7 (Jh (pmk X N Jg (J0 (J15 (J4e rfl) (by rfl) T.list boot_list (J0 (J15 J89 (by rfl) T.range PyProof.Rows.boot_range (J0 (Jw J12 (by rfl) T.len boot_len (J0 (J8 (pv 0)) J3)) J3)) J3))
  (J0 (J8 (pv 0)) (J0 (J8 (pv 0)) (J0 (J8 (pv 0)) J3)))))),?_⟩
 refine ⟨_,rfl,x,C,p,n,_,rfl,m,c.cl,c.nL,D,pl,_,rfl,.inr (SqT.of I),_,rfl,fun r q=>⟨r,_,rfl,J6,(by rw [J2r];lia),fun l P=>?_⟩⟩;have a:Same H (upd (upd H r (.rng 0 ((iV ls).length:Nat))) l (.lst (((List.range (iV ls).length).map fun (i:Nat)=>(i:Int)).map V.int))):=(J9 q).trans (J9 P);have w:(upd (upd H r (.rng 0 ((iV ls).length:Nat))) l (.lst (((List.range (iV ls).length).map fun (i:Nat)=>(i:Int)).map V.int))) l=some (.lst (nV (List.range ls.length))):=by rw [J6,J2r];rfl
 generalize (upd (upd H r (.rng 0 ((iV ls).length:Nat))) l (.lst (((List.range (iV ls).length).map fun (i:Nat)=>(i:Int)).map V.int)))=H8 at *;refine ⟨_,rfl,x,C,p,n,_,rfl,a _ _ m,c.cl,c.nO,M,_,rfl,x,C,p,n,_,rfl,a _ _ m,c.cl,c.nL,D,_,rfl,x,C,p,n,_,rfl,a _ _ m,c.cl,c.nT,J,fun y B G z v=>?_⟩;have g:Same H8 (upd (upd H8 B (.own y)) y (.ins CR B [])):=(J9 z).trans (J9 (by rw [Jm (Ne.symm v)];exact G));refine ⟨y,B,l,po,pl,pt,J2c ls os ts,rfl,J6,.inl (g _ _ w),.inr (g _ _ (a _ _ W)),.inr (g _ _ (a _ _ I)),.inr (g _ _ (a _ _ U)),fun j S=>mem_range.mp S,by rw [length_range];exact O,fun Y R kp=>⟨rfl,k y Y (fun b u e=>?_) R⟩⟩;exact kp b u (g _ _ (a _ _ e)) (Jd (a _ _ e) G)
end
section
variable [En]
inductive Jdm(CR:Addr)(vs:List V)(H:Hp)(Q:VK)(E:XK):Prop
 | mk(x q:Addr)(r:Rst)(row:List Nat)(y:Int)(_:vs=[.ref x,.ref q,.int y])(_:J1h CR H x r)(_:H q=some (.tup (nV row)))(_:Row r.ls row)(_:(∀ i,AtR r.ls row y i->Q (.int (row.getD i 0:Nat)) H))(_:0<=y/\y < J2 r.ls row)
theorem Jb0:FS1 ["rest","row","y","end","letter"] Jaj:=fsc
theorem Jo2{CR:Addr}(F:Fn1 Jaj)(n:J17 K CR):
  Ca1 1 Jaj (Jdm CR):=by
 refine F.ok Jb0 (fun f d A o s H vs Q E S h=>?_);obtain ⟨x,q,r,row,y,rfl,R,m,b,k,p⟩:=h;obtain ⟨I,fs,pt,L,pl,J,D,⟨P,O,u,N,M⟩,W,U,G,T⟩:=R.ex;refine ⟨_,J1 (J24 (Jq J8m (pv 2) Ja (Jv _)) (J7 J25) J13)
  (J1 (Jf (i:=3) Jb0.nd rfl (Or.inl rfl) Ja)
  (J1 (J3s PassesOwn.never rfl (Ja8 (pv 1)) (J1y (i:=4) Jb0.nd rfl (Or.inl rfl))
   (J1 (Jf (i:=3) Jb0.nd rfl (Or.inl rfl) (Jl J1b (pv 3) (Jp Jj (J8 (pv 0)) (pv 4))))
   (J7 (J24 (Jq J8m (pv 2) (pv 3) (Jv _)) (J7 (Jh (pv 4))) J13))))
  (J7 J25))),?_⟩
 refine ⟨_,rfl,_,_,rfl,rfl,_,rfl,iteD (by lia) ?_⟩;refine ⟨_,rfl,q,rfl,⟨_,SqT.of m⟩,Jee (K:=K) (a:=q) (xs:=nV row)
  (fun i σ g=>∃ v,σ=[some (.ref x),some (.ref q),some (.int y),some (.int (Jt r.ls row i)),v]/\g=H/\Jt r.ls row i<=y) ⟨none,rfl,rfl,by rw [J3e];lia⟩ (fun i σ g _ C=>by obtain ⟨_,_,e,_⟩:=C;exact e ▸ SqT.of m) ?_ ?_⟩
 ·rintro i z σ g w ⟨v,rfl,rfl,hi⟩;obtain ⟨j,rfl,B⟩:=Jpw w;refine ⟨_,rfl,_,rfl,x,CR,I,fs,_,rfl,D,n.cl,n.nL,u,_,rfl,pl,_,_,_,rfl,rfl,SqT.of G,Jc (J1g (b.lt _ B)),_,_,rfl,rfl,?_⟩;refine ⟨_,rfl,_,rfl,_,_,rfl,rfl,_,rfl,?_⟩;have l:=J1d r.ls row i;by_cases c:y < Jt r.ls row i + r.ls.getD (row.getD i 0) 0
  ·exact J48 c ⟨_,rfl,k i ⟨j,hi,by rw [l];exact c⟩⟩
  ·exact iteD c ⟨_,by rw [l];rfl,rfl,by rw [l];lia⟩
 ·rintro σ g ⟨v,rfl,rfl,hi⟩;rw [J6l,J5y] at hi;exact absurd p.2 (by lia)
inductive Jf6(CR:Addr)(vs:List V)(H:Hp)(Q:VK)(E:XK):Prop
 | mk(x:Addr)(r:Rst)(y:Int)(_:vs=[.ref x,.int y])(_:J1h CR H x r)(_:Row r.ls r.top)(_:(∀ i,AtR r.ls r.top y i->Q (.int (r.top.getD i 0:Nat)) H))(_:0<=y/\y < r.size)
theorem Jmr:FS1 ["rest","y"] J9h:=fsc
theorem Jjt{CR:Addr}(F:Fn1 J9h)(b:J17 K CR)(m:Ca1 1 Jaj (Jdm CR)):
  Ca1 2 J9h (Jf6 CR):=by
 refine F.ok Jmr (fun f d A o s H vs Q E g h=>?_);obtain ⟨x,r,y,rfl,R,a,k,c⟩:=h;obtain ⟨l,fs,pt,p,pl,n,i,⟨e,w,v,u,q⟩,j,C,B,z⟩:=R.ex;refine ⟨_,J7 (Jh (pcl m g Jg (J0 (pv 0) (J0 (J8 (pv 0)) (J0 (pv 1) J3))))),?_⟩;exact ⟨_,rfl,_,rfl,x,CR,l,fs,_,rfl,i,b.cl,b.nT,e,_,rfl,x,pt,r,r.top,y,rfl,R,j,a,k,c⟩
inductive Jid(CR:Addr)(vs:List V)(H:Hp)(Q:VK)(E:XK):Prop
 | mk(x d c:Addr)(r:Rst)(a b:List Nat)(y:Int)(_:vs=[.ref x,.int y,.ref d,.ref c])(_:J1h CR H x r)(_:H d=some (.tup (nV a)))(_:H c=some (.tup (nV b)))(_:Row r.ls a)(_:Row r.ls b)(_:r.ts.length=r.ls.length)(_:r.ls.length<=24)(_:(∀ i e,Same H e->AtR r.ls a y i->Q (.int (J45 r.ls r.ts (a.getD i 0) (y - Jt r.ls a i) (firsts r.ls b))) e))(_:0<=y/\y < J2 r.ls a)
theorem Jiu:FS1 ["rest","y","from_row","to_row","letter","offset"] Jhg:=fsc
theorem Jru{CR:Addr}(F:Fn1 Jhg)(c:J17 K CR)(O:Ca1 1 Jaj (Jdm CR))(D:Ca1 1 Jak Jdn)(N:Ca1 1 Jct (Jf5 K)):
  Ca1 2 Jhg (Jid CR):=by
 refine F.ok Jiu (fun f d A o s H vs Q E j h=>?_);obtain ⟨x,u,I,r,g,q,y,rfl,R,b,m,e,G,hts,few,k,L⟩:=h;obtain ⟨C,fs,pt,T,pl,S,z,⟨Y,X,v,W,U⟩,e1,e2,B,Z⟩:=R.ex;refine ⟨_,J1 (Jf (i:=4) Jiu.nd rfl (Or.inl rfl) (pcl O j Jg (J0 (pv 0) (J0 (pv 2) (J0 (pv 1) J3)))))
  (J1 (Jf (i:=5) Jiu.nd rfl (Or.inl rfl) (Jl J1u (pv 1) (Jp Jj (pcl D j Jg (J0 (J8 (pv 0)) (J0 (pv 2) J3))) (pv 4))))
  (J7 (Jh (pcl N j Jg (J0 (pv 0) (J0 (pv 4) (J0 (pv 5) (J0 (pcl D j Jg (J0 (J8 (pv 0)) (J0 (pv 3) J3))) J3)))))))),?_⟩
 refine ⟨_,rfl,_,rfl,_,rfl,x,u,r,g,y,rfl,R,b,e,fun i hi=>?_,L⟩;have w:g.getD i 0 < r.ls.length:=e.lt _ (J27 hi.1);refine ⟨_,rfl,_,rfl,x,CR,C,fs,_,rfl,z,c.cl,c.nL,v,_,rfl,pl,u,r.ls,g,rfl,B,.inr b,e.lt,few,fun l H1 a M=>?_⟩;refine ⟨_,rfl,l,_,_,_,rfl,rfl,SqT.of M,Jc (J1g (by rw [J5j];exact w)),_,_,rfl,rfl,?_⟩;refine ⟨_,rfl,_,rfl,_,rfl,_,rfl,x,CR,C,fs,_,rfl,a _ _ z,c.cl,c.nL,v,_,rfl,pl,I,r.ls,q,rfl,a _ _ B,.inr (a _ _ m),G.lt,few,fun J P p n=>?_⟩;refine ⟨x,J,r.ls,r.ts,firsts r.ls q,g.getD i 0,_,rfl,((R.same a).same p).fields c,n,J5j _ _,hts,w,?_⟩;rw [e.first hi.1];exact k i P (a.trans p) hi
end
section
variable [En]
inductive Jf3(CR:Addr)(vs:List V)(H:Hp)(Q:VK)(E:XK):Prop
 | mk(x:Addr)(r:Rst)(y:Int)(_:vs=[.ref x,.int y])(_:J1h CR H x r)(_:r.Ok)(_:(∀ z a,Same H a->J2v r z y->Q (.int z) a))(_:0<=y/\y < r.size)
theorem Jml:FS1 ["rest","y"] J9f:=fsc
theorem Jjl{CR:Addr}(F:Fn1 J9f)(a:J17 K CR)(q:Ca1 2 Jhg (Jid CR)):
  Ca1 3 J9f (Jf3 CR):=by
 refine F.ok Jml (fun f d A o s H vs Q E m h=>?_);obtain ⟨x,r,y,rfl,R,ok,k,g⟩:=h;obtain ⟨c,fs,pt,e,pl,v,b,⟨l,j,B,z,w⟩,p,n,D,C⟩:=R.ex;refine ⟨_,J7 (Jh (pcl q m Jg (J0 (pv 0) (J0 (pv 1) (J0 (J8 (pv 0)) (J0 (J8 (pv 0)) J3)))))),?_⟩;refine ⟨_,rfl,_,rfl,_,rfl,x,CR,c,fs,_,rfl,b,a.cl,a.nB,j,_,rfl,x,CR,c,fs,_,rfl,b,a.cl,a.nT,l,x,e,pt,r,r.bot,r.top,y,rfl,R,n,p,ok.rowB,ok.row,ok.len,ok.few,fun i u s' hi=>k _ u s' (Joz ok hi),by rw [ok.sizeB];exact g⟩
inductive Ji2(CR:Addr)(vs:List V)(H:Hp)(Q:VK)(E:XK):Prop
 | mk(x:Addr)(r:Rst)(y:Int)(_:vs=[.ref x,.int y])(_:J1h CR H x r)(_:r.Ok)(_:∀ z a,Same H a->J2v r y z->Q (.int z) a)(_:0<=y/\y < r.size)
theorem Jqw:FS1 ["rest","y"] Jcm:=fsc
theorem Jnr{CR:Addr}(F:Fn1 Jcm)(a:J17 K CR)(q:Ca1 2 Jhg (Jid CR)):
  Ca1 3 Jcm (Ji2 CR):=by
 refine F.ok Jqw (fun f d A o s H vs Q E m h=>?_);obtain ⟨x,r,y,rfl,R,ok,k,g⟩:=h;obtain ⟨c,fs,pt,e,pl,v,b,⟨l,j,B,z,w⟩,p,n,D,C⟩:=R.ex;refine ⟨_,J7 (Jh (pcl q m Jg (J0 (pv 0) (J0 (pv 1) (J0 (J8 (pv 0)) (J0 (J8 (pv 0)) J3)))))),?_⟩;exact ⟨_,rfl,_,rfl,_,rfl,x,CR,c,fs,_,rfl,b,a.cl,a.nT,l,_,rfl,x,CR,c,fs,_,rfl,b,a.cl,a.nB,j,x,pt,e,r,r.top,r.bot,y,rfl,R,p,n,ok.row,ok.rowB,ok.len,ok.few,fun i u s' hi=>k _ u s' ⟨i,hi,rfl⟩,g⟩
end
section
variable [En]
inductive Kd where
 | ho | ev | ov | un | os | us
 deriving DecidableEq
noncomputable def kd:Stp->Kd
 | .home _=>.ho | .even _ _=>.ev | .over _ _=>.ov | .under _ _=>.un | .overs _ _=>.os | .unders _ _=>.us
noncomputable def Jom:Stp->V
 | .even _ b=>.int (b:Nat) | .over _ b=>.int (b:Nat) | .under _ b=>.int (b:Nat) | _=>.non
noncomputable def stF(s:Stp):List (Str × V):=putF ("times":Str) (.int s.times) (putF ("loser":Str) (Jom s) (putF ("winner":Str) (.int (s.winner:Nat)) []))
theorem J2f(s:Stp):(stF s).lookup ("winner":Str)=some (.int (s.winner:Nat)):=by rfl
theorem Jas(s:Stp):(stF s).lookup ("loser":Str)=some (Jom s):=by rfl
theorem Jgm(s:Stp):(stF s).lookup ("times":Str)=some (.int s.times):=by rfl
theorem J4h(s:Stp)(c:¬ m=("times":Str))(b:¬ m=("loser":Str))(a:¬ m=("winner":Str)):(stF s).lookup m=none:=by
 unfold stF;rw [J5x c,J5x b,J5x a];rfl
noncomputable def J32(cs:Kd->Addr)(H:Hp)(p:Addr)(s:Stp):Prop:=∃ a,H p=some (.ins (cs (kd s)) a (stF s))
theorem J32.kp(h:J32 cs H p s)(e:Kp H H'):J32 cs H' p s:=by obtain ⟨a,q⟩:=h;exact ⟨a,e _ _ q (by rfl)⟩
theorem J32.same(h:J32 cs H p s)(e:Same H H'):J32 cs H' p s:=h.kp (Kp.of e)
structure TxtS(K:Frag)(cs:Kd->Addr):Prop where
 cl:∀ k,Cls K (cs k)
 nW:∀ k,J19 K (cs k) "winner"
 nL:∀ k,J19 K (cs k) "loser"
 nT:∀ k,J19 K (cs k) "times"
inductive J4n(cs:Kd->Addr)(vs:List V)(H:Hp)(Q:VK)(E:XK):Prop
 | mk(x d:Addr)(k:Kd)(a b c:V)(_:vs=[.ref x,a,b,c])(_:H x=some (.ins (cs k) d []))(_:Q .non (upd H x (.ins (cs k) d (putF ("times":Str) c (putF ("loser":Str) b (putF ("winner":Str) a []))))))
theorem Jqu:Jr ["self","winner","loser","times"] ["self","winner","loser","times"] (Je (Jb (top 52) 0)):=fsc
theorem Jnn{f:Addr}{fd:FuncData}{cs:Kd->Addr}(F:Fun K "__init__" "Step.__init__" (Jb (top 52) 0) f fd)(TS:TxtS K cs):
  FnOk P w K mg base CX0 1 f fd ["self","winner","loser","times"] (J4n cs):=by
 refine F.ok1 Jqu (fun d A o s H vs Q E j h=>?_);obtain ⟨x,e,k,a,b,c,rfl,g,q⟩:=h;refine ⟨_,J1 (J1s (pv 0) (pv 1) rfl) (J1 (J1s (pv 0) (pv 2) rfl) (J7 (J1s (pv 0) (pv 3) rfl))),?_⟩;have l1:(putF ("winner":Str) a []).length<=1:=J1i ..;have i:(putF ("loser":Str) b (putF ("winner":Str) a [])).length<=2:=by have:=J1i ("loser":Str) b (putF ("winner":Str) a []);lia
 refine ⟨_,rfl,_,rfl,x,cs k,e,[],rfl,g,TS.cl k,TS.nW k,(by show 0 < 1000;decide),?_⟩;refine ⟨_,rfl,_,rfl,x,cs k,e,_,rfl,J6,TS.cl k,TS.nL k,(by lia),?_⟩;rw [Jde];refine ⟨_,rfl,_,rfl,x,cs k,e,_,rfl,J6,TS.cl k,TS.nT k,(by lia),?_⟩;rw [Jde];exact q
inductive spMk(cs:Kd->Addr)(args:List V->Stp->Prop)(vs:List V)(H:Hp)(Q:VK)(E:XK):Prop
 | mk(x a:Addr)(us:List V)(s:Stp)(_:vs=.ref x :: us)(_:args us s)(_:H x=some (.ins (cs (kd s)) a []))(_:Q .non (upd H x (.ins (cs (kd s)) a (stF s))))
noncomputable def aHo(us:List V)(s:Stp):Prop:=∃ a:Nat,us=[.int (a:Nat)]/\s=.home a
noncomputable def aEv(us:List V)(s:Stp):Prop:=∃ a b:Nat,us=[.int (a:Nat),.int (b:Nat)]/\s=.even a b
noncomputable def aOv(us:List V)(s:Stp):Prop:=∃ a b:Nat,us=[.int (a:Nat),.int (b:Nat)]/\s=.over a b
noncomputable def aUn(us:List V)(s:Stp):Prop:=∃ a b:Nat,us=[.int (a:Nat),.int (b:Nat)]/\s=.under a b
noncomputable def aOs(us:List V)(s:Stp):Prop:=∃ (a:Nat) (t:Int),us=[.int (a:Nat),.int t]/\s=.overs a t
noncomputable def aUs(us:List V)(s:Stp):Prop:=∃ (a:Nat) (t:Int),us=[.int (a:Nat),.int t]/\s=.unders a t
theorem Jmu:Jr ["self","winner"] ["self","winner"] (Je (Jb (top 53) 0)):=fsc
theorem Jjw(F:Fun K "__init__" "Home.__init__" (Jb (top 53) 0) f fd)(g:Bas CX0 1 "Step" "__init__" ["self","winner","loser","times"] (J4n cs)):
  FnOk P w K mg base CX0 2 f fd ["self","winner"] (spMk cs aHo):=by
 refine F.ok1 Jmu (fun d A o s H vs Q E e h=>?_) (len:=by rintro _ _ _ _ ⟨x,b,us,s,rfl,⟨a,rfl,rfl⟩,_⟩;rfl);obtain ⟨x,b,us,s,rfl,⟨a,rfl,rfl⟩,c,q⟩:=h;refine ⟨_,J7 (J1t (pbs g e Jg (J0 (pv 0) (J0 (pv 1) (J0 Jj6 (J0 Ja J3)))))),?_⟩;exact ⟨_,rfl,_,rfl,x,b,.ho,_,_,_,rfl,c,q⟩
theorem Jmy:Jr ["self","winner","loser"] ["self","winner","loser"] (Je (Jb (top 54) 0)):=fsc
theorem Jk0(F:Fun K "__init__" "Even.__init__" (Jb (top 54) 0) f fd)(i:Bas CX0 1 "Step" "__init__" ["self","winner","loser","times"] (J4n cs)):
  FnOk P w K mg base CX0 2 f fd ["self","winner","loser"] (spMk cs aEv):=by
 refine F.ok1 Jmy (fun d A o s H vs Q E g h=>?_) (len:=by rintro _ _ _ _ ⟨x,c,us,s,rfl,⟨a,b,rfl,rfl⟩,_⟩;rfl);obtain ⟨x,c,us,s,rfl,⟨a,b,rfl,rfl⟩,e,q⟩:=h;refine ⟨_,J7 (J1t (pbs i g Jg (J0 (pv 0) (J0 (pv 1) (J0 (pv 2) (J0 Ja J3)))))),?_⟩;exact ⟨_,rfl,_,rfl,_,rfl,x,c,.ev,_,_,_,rfl,e,q⟩
theorem Jmo:Jr ["self","winner","loser"] ["self","winner","loser"] (Je (Jb (top 55) 0)):=fsc
theorem Jjo(F:Fun K "__init__" "Over.__init__" (Jb (top 55) 0) f fd)(i:Bas CX0 1 "Step" "__init__" ["self","winner","loser","times"] (J4n cs)):
  FnOk P w K mg base CX0 2 f fd ["self","winner","loser"] (spMk cs aOv):=by
 refine F.ok1 Jmo (fun d A o s H vs Q E g h=>?_) (len:=by rintro _ _ _ _ ⟨x,c,us,s,rfl,⟨a,b,rfl,rfl⟩,_⟩;rfl);obtain ⟨x,c,us,s,rfl,⟨a,b,rfl,rfl⟩,e,q⟩:=h;refine ⟨_,J7 (J1t (pbs i g Jg (J0 (pv 0) (J0 (pv 1) (J0 (pv 2) (J0 Ja J3)))))),?_⟩;exact ⟨_,rfl,_,rfl,_,rfl,x,c,.ov,_,_,_,rfl,e,q⟩
theorem Jmh:Jr ["self","winner","loser"] ["self","winner","loser"] (Je (Jb (top 56) 0)):=fsc
theorem Jjf(F:Fun K "__init__" "Under.__init__" (Jb (top 56) 0) f fd)(i:Bas CX0 1 "Step" "__init__" ["self","winner","loser","times"] (J4n cs)):
  FnOk P w K mg base CX0 2 f fd ["self","winner","loser"] (spMk cs aUn):=by
 refine F.ok1 Jmh (fun d A o s H vs Q E g h=>?_) (len:=by rintro _ _ _ _ ⟨x,c,us,s,rfl,⟨a,b,rfl,rfl⟩,_⟩;rfl);obtain ⟨x,c,us,s,rfl,⟨a,b,rfl,rfl⟩,e,q⟩:=h;refine ⟨_,J7 (J1t (pbs i g Jg (J0 (pv 0) (J0 (pv 1) (J0 (pv 2) (J0 Ja J3)))))),?_⟩;exact ⟨_,rfl,_,rfl,_,rfl,x,c,.un,_,_,_,rfl,e,q⟩
theorem Jmq:Jr ["self","winner","times"] ["self","winner","times"] (Je (Jb (top 57) 0)):=fsc
theorem Jjq(F:Fun K "__init__" "Overs.__init__" (Jb (top 57) 0) f fd)(i:Bas CX0 1 "Step" "__init__" ["self","winner","loser","times"] (J4n cs)):
  FnOk P w K mg base CX0 2 f fd ["self","winner","times"] (spMk cs aOs):=by
 refine F.ok1 Jmq (fun d A o s H vs Q E g h=>?_) (len:=by rintro _ _ _ _ ⟨x,c,us,s,rfl,⟨a,b,rfl,rfl⟩,_⟩;rfl);obtain ⟨x,c,us,s,rfl,⟨a,b,rfl,rfl⟩,e,q⟩:=h;refine ⟨_,J7 (J1t (pbs i g Jg (J0 (pv 0) (J0 (pv 1) (J0 Jj6 (J0 (pv 2) J3)))))),?_⟩;exact ⟨_,rfl,_,rfl,_,rfl,x,c,.os,_,_,_,rfl,e,q⟩
theorem Jmf:Jr ["self","winner","times"] ["self","winner","times"] (Je (Jb (top 58) 0)):=fsc
theorem Jjd(F:Fun K "__init__" "Unders.__init__" (Jb (top 58) 0) f fd)(i:Bas CX0 1 "Step" "__init__" ["self","winner","loser","times"] (J4n cs)):
  FnOk P w K mg base CX0 2 f fd ["self","winner","times"] (spMk cs aUs):=by
 refine F.ok1 Jmf (fun d A o s H vs Q E g h=>?_) (len:=by rintro _ _ _ _ ⟨x,c,us,s,rfl,⟨a,b,rfl,rfl⟩,_⟩;rfl);obtain ⟨x,c,us,s,rfl,⟨a,b,rfl,rfl⟩,e,q⟩:=h;refine ⟨_,J7 (J1t (pbs i g Jg (J0 (pv 0) (J0 (pv 1) (J0 Jj6 (J0 (pv 2) J3)))))),?_⟩;exact ⟨_,rfl,_,rfl,_,rfl,x,c,.us,_,_,_,rfl,e,q⟩
noncomputable def Jan:Kd->Str
 | .ho=>"home" | .ev=>"even" | .ov=>"over" | .un=>"under" | .os=>"overs" | .us=>"unders"
noncomputable def ownB:Kd->Bool
 | .ev=>true | .ov=>true | .os=>true | _=>false
inductive J3n(k:Kd)(vs:List V)(H:Hp)(Q:VK)(E:XK):Prop
 | mk(x:Addr)(_:vs=[.ref x])(_:Q (.str (Jan k)) H)
inductive J8f(k:Kd)(vs:List V)(H:Hp)(Q:VK)(E:XK):Prop
 | mk(x:Addr)(_:vs=[.ref x])(_:Q (.bl (ownB k)) H)
theorem Jmt:Jr ["self"] ["self"] (Je (Jb (top 53) 1)):=fsc
theorem Jjv(F:Fun K "word" "Home.word" (Jb (top 53) 1) f fd):
  FnOk P w K mg base CX0 1 f fd ["self"] (J3n .ho):=by
 refine F.ok1 Jmt (fun d A o s H vs Q E a h=>?_);obtain ⟨x,rfl,q⟩:=h;exact ⟨_,J7 (Jh J6e),q⟩
theorem Jmx:Jr ["self"] ["self"] (Je (Jb (top 54) 1)):=fsc
theorem Jjz(F:Fun K "word" "Even.word" (Jb (top 54) 1) f fd):
  FnOk P w K mg base CX0 1 f fd ["self"] (J3n .ev):=by
 refine F.ok1 Jmx (fun d A o s H vs Q E a h=>?_);obtain ⟨x,rfl,q⟩:=h;exact ⟨_,J7 (Jh J6e),q⟩
theorem Jmn:Jr ["self"] ["self"] (Je (Jb (top 55) 1)):=fsc
theorem Jjn(F:Fun K "word" "Over.word" (Jb (top 55) 1) f fd):
  FnOk P w K mg base CX0 1 f fd ["self"] (J3n .ov):=by
 refine F.ok1 Jmn (fun d A o s H vs Q E a h=>?_);obtain ⟨x,rfl,q⟩:=h;exact ⟨_,J7 (Jh J6e),q⟩
theorem Jmg:Jr ["self"] ["self"] (Je (Jb (top 56) 1)):=fsc
theorem Jje(F:Fun K "word" "Under.word" (Jb (top 56) 1) f fd):
  FnOk P w K mg base CX0 1 f fd ["self"] (J3n .un):=by
 refine F.ok1 Jmg (fun d A o s H vs Q E a h=>?_);obtain ⟨x,rfl,q⟩:=h;exact ⟨_,J7 (Jh J6e),q⟩
theorem Jmp:Jr ["self"] ["self"] (Je (Jb (top 57) 1)):=fsc
theorem Jjp(F:Fun K "word" "Overs.word" (Jb (top 57) 1) f fd):
  FnOk P w K mg base CX0 1 f fd ["self"] (J3n .os):=by
 refine F.ok1 Jmp (fun d A o s H vs Q E a h=>?_);obtain ⟨x,rfl,q⟩:=h;exact ⟨_,J7 (Jh J6e),q⟩
theorem Jme:Jr ["self"] ["self"] (Je (Jb (top 58) 1)):=fsc
theorem Jjc(F:Fun K "word" "Unders.word" (Jb (top 58) 1) f fd):
  FnOk P w K mg base CX0 1 f fd ["self"] (J3n .us):=by
 refine F.ok1 Jme (fun d A o s H vs Q E a h=>?_);obtain ⟨x,rfl,q⟩:=h;exact ⟨_,J7 (Jh J6e),q⟩
theorem Jec(row:List Nat)(a:Nat):(natI row).idxOf (a:Int)=row.idxOf a:=by
 unfold natI
 induction row with
 | nil=>rfl
 | cons x r ih =>
  rw [map_cons,List.idxOf_cons,List.idxOf_cons,ih];have e:((x:Int) == (a:Int))=(x == a):=by
   rw [Bool.eq_iff_iff,beq_iff_eq,beq_iff_eq];exact Int.ofNat_inj
  rw [e]
theorem Je7{row:List Nat}(h:a∈row):(a:Int)∈natI row:=mem_map.mpr ⟨a,h,rfl⟩
theorem Jei(row:List Nat)(n:Nat)(h:n<=row.length):cutV (nV row) (some (n:Int)) none=nV (row.drop n):=by
 unfold cutV;rw [J6l,HT.sIx_nat,HT.sIx_none,Nat.min_eq_left h,J4i,J4i,List.map_drop,take_of_length_le (by simp)]
inductive J68(vs:List V)(H:Hp)(Q:VK)(E:XK):Prop
 | mk(q:Addr)(row:List Nat)(a:Nat)(_:vs=[.ref q,.int (a:Nat)])(_:H q=some (.tup (nV row)))(_:a∈row)(_:∀ p b,Same H b->b p=some (.tup (nV (J4 row a)))->Q (.ref p) b)
theorem Jiv:FS1 ["row","letter"] J4c:=fsc
theorem Jh0(F:Fn1 J4c):
  Ca1 1 J4c J68:=by
 refine F.ok Jiv (fun f d A o s H vs Q E j h=>?_);obtain ⟨q,row,a,rfl,b,c,k⟩:=h;refine ⟨_,J7 (Jh (J7y sl_tup (pv 0) (Jb4 (Jl J1b (pe_bmT PySem.F.slot_tuple_index PySem.F.type_tuple_index Jk8 (pv 0) (J0 (pv 1) J3)) Ja)) Jb5)),?_⟩;have i:=idxOf_lt_length_iff.mpr c;have e:(((natI row).idxOf (a:Int):Nat):Int) + 1=((row.idxOf a + 1:Nat):Int):=by rw [Jec];lia
 refine ⟨_,rfl,_,rfl,⟨q,_,rfl,b⟩,_,rfl,q,natI row,(a:Int),rfl,rfl,b,Je7 c,_,_,rfl,rfl,_,rfl,q,nV row,rfl,SqT.of b,?_,fun p g=>k p _ (J9 g) ?_⟩
 ·rintro ⟨z,_⟩;have z:=z;rw [e,HT.sIx_nat,J6l] at z;lia
 ·rw [J6];show some (HO.tup (cutV (nV row) (some ((((natI row).idxOf (a:Int):Nat):Int) + 1)) none))=_;rw [e,Jei row _ i];rfl
inductive J28(cs:Kd->Addr)(CR:Addr)(k:Kd)(vs:List V)(H:Hp)(Q:VK)(E:XK):Prop
 | mk(x y:Addr)(s:Stp)(r:Rst)(_:vs=[.ref x,.ref y])(_:kd s=k)(_:J32 cs H x s)(_:J1h CR H y r)(_:s.winner∈r.top)(_:s.winner∈r.bot)(_:∀ p a,Same H a->a p=some (.tup (nV (s.losers r)))->Q (.ref p) a)
theorem Jgp:Jr ["self","rest"] ["self","rest"] (Je (Jb (top 52) 2)):=fsc
theorem J5w{CR:Addr}(F:Fun K "losers" "Step.losers" (Jb (top 52) 2) f fd)(TS:TxtS K cs)(e:k=.ev\/k=.ov\/k=.un):
  FnOk P w K mg base CX0 2 f fd ["self","rest"] (J28 cs CR k):=by
 refine F.ok1 Jgp (fun d A o s H vs Q E m h=>?_);obtain ⟨x,y,s,r,rfl,c,⟨l,g⟩,R,_,_,q⟩:=h;obtain ⟨b,hb,j⟩:∃ b:Nat,Jom s=.int (b:Nat)/\s.losers r=[b]:=by
  cases s with
  | even a b=>exact ⟨b,rfl,rfl⟩
  | over a b=>exact ⟨b,rfl,rfl⟩
  | under a b=>exact ⟨b,rfl,rfl⟩
  | home a=>subst c;rcases e with q | q | q <;> cases q
  | overs a t=>subst c;rcases e with q | q | q <;> cases q
  | unders a t=>subst c;rcases e with q | q | q <;> cases q
 refine ⟨_,J7 (Jh (J30 (J0 (J8 (pv 0)) J3))),?_⟩;refine ⟨_,rfl,x,cs (kd s),l,stF s,_,rfl,g,TS.cl _,TS.nL _,Jas s,(by show 1<=sizeLine;decide),fun p i=>q p _ (J9 i) ?_⟩;rw [J6,hb,j];rfl
theorem Jgr:Jr ["self","rest"] ["self","rest"] (Je (Jb (top 53) 2)):=fsc
theorem Je1{CR:Addr}(F:Fun K "losers" "Home.losers" (Jb (top 53) 2) f fd):
  FnOk P w K mg base CX0 2 f fd ["self","rest"] (J28 cs CR .ho):=by
 refine F.ok1 Jgr (fun d A o s H vs Q E g h=>?_);obtain ⟨x,y,s,r,rfl,c,_,R,_,_,q⟩:=h
 cases s with
 | home a=>exact ⟨_,J7 (Jh (J30 J3)),Nat.zero_le _,fun p e=>q p _ (J9 e) J6⟩
 | even a b=>cases c
 | over a b=>cases c
 | under a b=>cases c
 | overs a t=>cases c
 | unders a t=>cases c
theorem Jgq:Jr ["self","rest"] ["self","rest"] (Je (Jb (top 57) 2)):=fsc
theorem Jdz{CR:Addr}(F:Fun K "losers" "Overs.losers" (Jb (top 57) 2) f fd)(TS:TxtS K cs)(b:J17 K CR)(C:Ca1 1 J4c J68):
  FnOk P w K mg base CX0 2 f fd ["self","rest"] (J28 cs CR .os):=by
 refine F.ok1 Jgq (fun d A o s H vs Q E j h=>?_);obtain ⟨x,y,s,r,rfl,i,⟨z,g⟩,R,N,n,q⟩:=h;obtain ⟨B,fr,pt,c,pl,G,u,⟨M,e,L,J,I⟩,T,v,S,O⟩:=R.ex;have m:s.losers r=J4 r.bot s.winner:=by
  cases s with
  | overs a t=>rfl
  | _=>cases i
 refine ⟨_,J7 (Jh (pcl C j Jg (J0 (J8 (pv 1)) (J0 (J8 (pv 0)) J3)))),?_⟩;refine ⟨_,rfl,y,CR,B,fr,_,rfl,u,b.cl,b.nB,e,_,rfl,x,cs (kd s),z,stF s,_,rfl,g,TS.cl _,TS.nW _,J2f s,c,r.bot,s.winner,rfl,v,n,fun p D s' l=>q p D s' ?_⟩;rw [m];exact l
theorem Jgo:Jr ["self","rest"] ["self","rest"] (Je (Jb (top 58) 2)):=fsc
theorem Jdu{CR:Addr}(F:Fun K "losers" "Unders.losers" (Jb (top 58) 2) f fd)(TS:TxtS K cs)(b:J17 K CR)(B:Ca1 1 J4c J68):
  FnOk P w K mg base CX0 2 f fd ["self","rest"] (J28 cs CR .us):=by
 refine F.ok1 Jgo (fun d A o s H vs Q E i h=>?_);obtain ⟨x,y,s,r,rfl,g,⟨v,e⟩,R,m,N,q⟩:=h;obtain ⟨z,fr,pt,G,pl,D,n,⟨c,M,L,J,I⟩,u,T,S,O⟩:=R.ex;have l:s.losers r=J4 r.top s.winner:=by
  cases s with
  | unders a t=>rfl
  | _=>cases g
 refine ⟨_,J7 (Jh (pcl B i Jg (J0 (J8 (pv 1)) (J0 (J8 (pv 0)) J3)))),?_⟩;refine ⟨_,rfl,y,CR,z,fr,_,rfl,n,b.cl,b.nT,c,_,rfl,x,cs (kd s),v,stF s,_,rfl,e,TS.cl _,TS.nW _,J2f s,pt,r.top,s.winner,rfl,u,m,fun p C s' j=>q p C s' ?_⟩;rw [l];exact j
end
section
variable [En]
theorem Jqr:Jr ["self"] ["self"] (Je (Jb (top 52) 3)):=fsc
theorem Jba(F:Fun K "own_first" "Step.own_first" (Jb (top 52) 3) f fd)(a:ownB k=false):
  FnOk P w K mg base CX0 1 f fd ["self"] (J8f k):=by
 refine F.ok1 Jqr (fun d A o s H vs Q E b h=>?_);obtain ⟨x,rfl,q⟩:=h;rw [a] at q;exact ⟨_,J7 (Jh J70),q⟩
theorem Jr8:Jr ["self"] ["self"] (Je (Jb (top 54) 2)):=fsc
theorem Joa(F:Fun K "own_first" "Even.own_first" (Jb (top 54) 2) f fd):
  FnOk P w K mg base CX0 1 f fd ["self"] (J8f .ev):=by
 refine F.ok1 Jr8 (fun d A o s H vs Q E a h=>?_);obtain ⟨x,rfl,q⟩:=h;exact ⟨_,J7 (Jh J70),q⟩
theorem Jqy:Jr ["self"] ["self"] (Je (Jb (top 55) 2)):=fsc
theorem Jnw(F:Fun K "own_first" "Over.own_first" (Jb (top 55) 2) f fd):
  FnOk P w K mg base CX0 1 f fd ["self"] (J8f .ov):=by
 refine F.ok1 Jqy (fun d A o s H vs Q E a h=>?_);obtain ⟨x,rfl,q⟩:=h;exact ⟨_,J7 (Jh J70),q⟩
theorem Jr0:Jr ["self"] ["self"] (Je (Jb (top 57) 3)):=fsc
theorem Jnz(F:Fun K "own_first" "Overs.own_first" (Jb (top 57) 3) f fd):
  FnOk P w K mg base CX0 1 f fd ["self"] (J8f .os):=by
 refine F.ok1 Jr0 (fun d A o s H vs Q E a h=>?_);obtain ⟨x,rfl,q⟩:=h;exact ⟨_,J7 (Jh J70),q⟩
end
section
variable [En]
theorem J5g(c:H1 x=none)(a:H1 dx=none):J32 cs (upd (upd (upd H1 dx (.own x)) x (.ins (cs (kd s)) dx [])) x (.ins (cs (kd s)) dx (stF s))) x s/\
  Same H1 (upd (upd (upd H1 dx (.own x)) x (.ins (cs (kd s)) dx [])) x (.ins (cs (kd s)) dx (stF s))):=by
 refine ⟨⟨dx,J6⟩,fun b u e=>?_⟩;rw [Jm (Jd e c),Jm (Jd e c),Jm (Jd e a)];exact e
theorem Jpn(h:Row ls row)(a:ls.length<=24):row.length<=24:=Nat.le_trans h.len_le a
inductive Jdj(CR:Addr)(vs:List V)(H:Hp)(Q:VK)(E:XK):Prop
 | mk(y q:Addr)(r:Rst)(a:Nat)(row:List Nat)(_:vs=[.ref y,.int (a:Nat),.ref q])(_:J1h CR H y r)(_:r.Ok)(_:H q=some (.tup (nV row)))(_:a∈row)(_:a < r.ls.length)(_:(∀ j∈row,j < r.ls.length))(_:row.length<=24)(_:1<=J2 r.ls (J4 row a))(_:J2 r.ls (J4 row a)<=10 ^ 30)(_:∀ b,Same H b->Q (.int (J1q r a row)) b)
theorem Jqp:FS1 ["rest","winner","row"] Jaf:=fsc
theorem Jii(b:1<=s)(a:s<=10 ^ 30):Jsq 0 s:=by
 refine ⟨by lia,?_⟩
 grind
theorem Jnl{CR:Addr}(F:Fn1 Jaf)(b:J17 K CR)(N:Ca1 1 J7j (J8g K))(O:Ca1 1 J4c J68):
  Ca1 2 Jaf (Jdj CR):=by
 refine F.ok Jqp (fun f d A o s H vs Q E u h=>?_);obtain ⟨y,q,r,a,row,rfl,R,ok,C,I,e,i,X,L,J,k⟩:=h;obtain ⟨m,fr,pt,S,pl,z,l,⟨W,U,n,B,T⟩,Z,Y,v,M⟩:=R.ex;refine ⟨_,J1 (J24 (J3r (Jp Jj (J8 (pv 0)) (pv 1))) (J7 (Jh Ja)) J13)
  (J7 (Jh (Jl J39 (Jl J1u (Jp Jj (J8 (pv 0)) (pv 1)) Ja) (pcl N u Jg (J0 (pv 0) (J0 (pcl O u Jg (J0 (pv 2) (J0 (pv 1) J3))) J3)))))),?_⟩
 refine ⟨_,rfl,y,CR,m,fr,_,rfl,l,b.cl,b.nU,B,_,rfl,z,_,_,_,rfl,rfl,SqT.of M,Jc (J7l (by rw [ok.len];exact e)),_,rfl,?_⟩;unfold J1q at k;by_cases c:r.ts.getD a false=true
 ·refine J90 c ?_;have:=k H (Same.refl _);rw [if_pos c] at this;exact this
 ·refine J91 c ?_;refine ⟨_,rfl,y,CR,m,fr,_,rfl,l,b.cl,b.nL,n,_,rfl,pl,_,_,_,rfl,rfl,SqT.of v,Jc (J1g e),_,_,rfl,rfl,_,rfl,_,rfl,_,rfl,q,row,a,rfl,C,I,fun p H1 g D=>?_⟩;refine ⟨CR,y,p,m,pl,fr,r.ls,J4 row a,rfl,g _ _ l,b.cl,b.nL,n,g _ _ v,D,fun j G=>i j (J1c G),?_,fun P w=>⟨_,_,rfl,rfl,Jii L J,?_⟩⟩
  ·unfold J4;rw [length_drop];lia
  ·have:=k P (g.trans w);rw [if_neg c] at this;exact this
inductive Ji7(cs:Kd->Addr)(CR:Addr)(vs:List V)(H:Hp)(Q:VK)(E:XK):Prop
 | mk(y:Addr)(r:Rst)(a b:Nat)(_:vs=[.ref y,.int (a:Nat),.int (b:Nat)])(_:J1h CR H y r)(_:r.Ok)(_:a∈r.bot)(_:1<=J2 r.ls (J4 r.bot a))(_:J2 r.ls (J4 r.bot a)<=10 ^ 30)(_:∀ p c,Same H c->J32 cs c p (if 0 < J1q r a r.bot then .overs a (J1q r a r.bot) else .over a b)->Q (.ref p) c)
theorem Jir:FS1 ["rest","winner","loser","times"] Jcr:=fsc
theorem Jnx{CR:Addr}(F:Fn1 Jcr)(v:J17 K CR)(N:Ca1 2 Jaf (Jdj CR))(U:Mk K (cs .os) fM)(X:FnOk P w K mg base CX0 2 fM fdM ["self","winner","times"] (spMk cs aOs))(S:J2t K fdM ["self","winner","times"] [])(C:mg "Overs"=some (.ref (cs .os)))(T:Mk K (cs .ov) fO)(W:FnOk P w K mg base CX0 2 fO fdO ["self","winner","loser"] (spMk cs aOv))(O:J2t K fdO ["self","winner","loser"] [])(B:mg "Over"=some (.ref (cs .ov))):
  Ca1 4 Jcr (Ji7 cs CR):=by
 refine F.ok Jir (fun f d A o s H vs Q E m h=>?_);obtain ⟨y,r,a,b,rfl,R,ok,u,I,G,k⟩:=h;obtain ⟨M,fr,pt,z,pl,Y,J,⟨k1,D,k3,k4,Z⟩,e1,L,e3,e4⟩:=R.ex;have e:Row r.ls r.bot:=ok.rowB;have few:r.bot.length<=24:=Jpn e ok.few;refine ⟨_,J1 (Jf (i:=3) Jir.nd rfl (Or.inl rfl) (pcl N m Jg (J0 (pv 0) (J0 (pv 1) (J0 (J8 (pv 0)) J3)))))
  (J7 (Jh (J2y (Jq J8n (pv 3) Ja (Jv _)) (J5v U X m rfl C S .nil Jg (J0 (pv 1) (J0 (pv 3) J3))) (J5v T W m rfl B O .nil Jg (J0 (pv 1) (J0 (pv 2) J3)))))),?_⟩
 refine ⟨_,rfl,_,rfl,_,rfl,y,CR,M,fr,_,rfl,J,v.cl,v.nB,D,y,z,r,a,r.bot,rfl,R,ok,L,u,e.lt a u,e.lt,few,I,G,fun H1 q=>?_⟩;refine ⟨_,rfl,_,_,rfl,rfl,_,rfl,?_⟩;by_cases c:0 < J1q r a r.bot
 ·refine J48 c ⟨_,rfl,_,rfl,fun x p l g n=>?_⟩;obtain ⟨st,j⟩:=J5g (cs:=cs) (s:=.overs a (J1q r a r.bot)) l g;refine ⟨x,p,_,.overs a (J1q r a r.bot),rfl,⟨a,_,rfl,rfl⟩,J6,rfl,k x _ (q.trans j) ?_⟩;rw [if_pos c];exact st
 ·refine iteD c ⟨_,rfl,_,rfl,fun x p l g n=>?_⟩;obtain ⟨st,j⟩:=J5g (cs:=cs) (s:=.over a b) l g;refine ⟨x,p,_,.over a b,rfl,⟨a,b,rfl,rfl⟩,J6,rfl,k x _ (q.trans j) ?_⟩;rw [if_neg c];exact st
inductive Jez(cs:Kd->Addr)(CR:Addr)(vs:List V)(H:Hp)(Q:VK)(E:XK):Prop
 | mk(y:Addr)(r:Rst)(a b:Nat)(_:vs=[.ref y,.int (a:Nat),.int (b:Nat)])(_:J1h CR H y r)(_:r.Ok)(_:a∈r.top)(_:1<=J2 r.ls (J4 r.top a))(_:J2 r.ls (J4 r.top a)<=10 ^ 30)(_:∀ p c,Same H c->J32 cs c p (if 0 < J1q r a r.top then .unders a (J1q r a r.top) else .under a b)->Q (.ref p) c)
theorem Jfd:FS1 ["rest","winner","loser","times"] J99:=fsc
theorem Jjg{CR:Addr}(F:Fn1 J99)(v:J17 K CR)(M:Ca1 2 Jaf (Jdj CR))(T:Mk K (cs .us) fM)(W:FnOk P w K mg base CX0 2 fM fdM ["self","winner","times"] (spMk cs aUs))(O:J2t K fdM ["self","winner","times"] [])(B:mg "Unders"=some (.ref (cs .us)))(S:Mk K (cs .un) fO)(U:FnOk P w K mg base CX0 2 fO fdO ["self","winner","loser"] (spMk cs aUn))(N:J2t K fdO ["self","winner","loser"] [])(z:mg "Under"=some (.ref (cs .un))):
  Ca1 4 J99 (Jez cs CR):=by
 refine F.ok Jfd (fun f d A o s H vs Q E m h=>?_);obtain ⟨y,r,a,b,rfl,R,ok,u,G,D,k⟩:=h;obtain ⟨L,fr,pt,Y,pl,X,I,⟨C,k2,k3,k4,Z⟩,J,e2,e3,e4⟩:=R.ex;have e:Row r.ls r.top:=ok.row;have few:r.top.length<=24:=Jpn e ok.few;refine ⟨_,J1 (Jf (i:=3) Jfd.nd rfl (Or.inl rfl) (pcl M m Jg (J0 (pv 0) (J0 (pv 1) (J0 (J8 (pv 0)) J3)))))
  (J7 (Jh (J2y (Jq J8n (pv 3) Ja (Jv _)) (J5v T W m rfl B O .nil Jg (J0 (pv 1) (J0 (pv 3) J3))) (J5v S U m rfl z N .nil Jg (J0 (pv 1) (J0 (pv 2) J3)))))),?_⟩
 refine ⟨_,rfl,_,rfl,_,rfl,y,CR,L,fr,_,rfl,I,v.cl,v.nT,C,y,pt,r,a,r.top,rfl,R,ok,J,u,e.lt a u,e.lt,few,G,D,fun H1 q=>?_⟩;refine ⟨_,rfl,_,_,rfl,rfl,_,rfl,?_⟩;by_cases c:0 < J1q r a r.top
 ·refine J48 c ⟨_,rfl,_,rfl,fun x p l g n=>?_⟩;obtain ⟨st,j⟩:=J5g (cs:=cs) (s:=.unders a (J1q r a r.top)) l g;refine ⟨x,p,_,.unders a (J1q r a r.top),rfl,⟨a,_,rfl,rfl⟩,J6,rfl,k x _ (q.trans j) ?_⟩;rw [if_pos c];exact st
 ·refine iteD c ⟨_,rfl,_,rfl,fun x p l g n=>?_⟩;obtain ⟨st,j⟩:=J5g (cs:=cs) (s:=.under a b) l g;refine ⟨x,p,_,.under a b,rfl,⟨a,b,rfl,rfl⟩,J6,rfl,k x _ (q.trans j) ?_⟩;rw [if_neg c];exact st
theorem Jdc(h:row≠[]):atI (nV row) (-1)=some (V.int (row.getD (row.length - 1) 0:Nat)):=by
 have a:=List.length_pos_iff.mpr h;unfold atI;have e:ixN (nV row).length (-1)=some (row.length - 1):=by
  unfold ixN;rw [J6l,if_neg (by lia),if_pos (by lia)]
  congr 1
  lia
 rw [e];show (nV row)[row.length - 1]?=_;rw [nV_at (by lia)]
inductive Jph(cs:Kd->Addr)(CR:Addr)(vs:List V)(H:Hp)(Q:VK)(E:XK):Prop
 | mk(y:Addr)(r:Rst)(_:vs=[.ref y])(_:J1h CR H y r)(_:r.Ok)(_:r.top≠[])(_:r.size<=10 ^ 30)(_:∀ p a,Same H a->J32 cs a p (nextN r)->Q (.ref p) a)
theorem Jis:FS1 ["rest","last_top","last_bottom"] Jl9:=fsc
theorem Jrs{fE CR:Addr}(F:Fn1 Jl9)(b:J17 K CR)(MH:Mk K (cs .ho) fH)(GH:FnOk P w K mg base CX0 2 fH fdH ["self","winner"] (spMk cs aHo))(bH:J2t K fdH ["self","winner"] [])(Z:mg "Home"=some (.ref (cs .ho)))(ME:Mk K (cs .ev) fE)(GE:FnOk P w K mg base CX0 2 fE fdE ["self","winner","loser"] (spMk cs aEv))(bE:J2t K fdE ["self","winner","loser"] [])(mE:mg "Even"=some (.ref (cs .ev)))(cO:Ca1 4 Jcr (Ji7 cs CR))(cU:Ca1 4 J99 (Jez cs CR)):
  Ca1 5 Jl9 (Jph cs CR):=by
 refine F.ok Jis (fun f d A o s H vs Q E O h=>?_);obtain ⟨y,r,rfl,R,ok,ne,hz,k⟩:=h;have v:Room 3 _:=O.mono (by decide);obtain ⟨p,fr,pt,Y,pl,pu,m,⟨k1,k2,B,k4,k5⟩,e1,e2,C,e4⟩:=R.ex;have mT:=ok.mT ne;have mB:=ok.mB ne;have M:r.bot≠[]:=fun e=>by
  have:=ok.lens;rw [e] at this;exact ne (List.length_eq_zero_iff.mp this.symm)
 have U:=ok.row.lt _ mT;have W:=ok.row.lt _ mB;refine ⟨_,J1 (Jf (i:=1) Jis.nd rfl (Or.inl rfl) (Jp Jj (J8 (pv 0)) (J9s J5p Ja)))
  (J1 (Jf (i:=2) Jis.nd rfl (Or.inl rfl) (Jp Jj (J8 (pv 0)) (J9s J5p Ja)))
  (J1 (J24 (Jq J9u (pv 1) (pv 2) (Jv _)) (J7 (Jh (J5v MH GH v rfl Z bH .nil Jg (J0 (pv 1) J3)))) J13)
  (J1 (J24 (Jq J9u (Jp Jj (J8 (pv 0)) (pv 1)) (Jp Jj (J8 (pv 0)) (pv 2)) (Jv _)) (J7 (Jh (J5v ME GE v rfl mE bE .nil Jg (J0 (pv 1) (J0 (pv 2) J3))))) J13)
  (J1 (J24 (Jq J8n (Jp Jj (J8 (pv 0)) (pv 1)) (Jp Jj (J8 (pv 0)) (pv 2)) (Jv _)) (J7 (Jh (pcl cO O Jg (J0 (pv 0) (J0 (pv 1) (J0 (pv 2) J3)))))) J13)
  (J7 (Jh (pcl cU O Jg (J0 (pv 0) (J0 (pv 2) (J0 (pv 1) J3)))))))))),?_⟩
 refine ⟨_,rfl,y,CR,p,fr,_,rfl,m,b.cl,b.nT,k1,_,rfl,pt,_,_,_,rfl,rfl,SqT.of e1,Jdc ne,?_⟩;refine ⟨_,rfl,y,CR,p,fr,_,rfl,m,b.cl,b.nB,k2,_,rfl,Y,_,_,_,rfl,rfl,SqT.of e2,Jdc M,?_⟩;refine ⟨_,rfl,_,rfl,rfl,_,rfl,?_⟩;unfold nextN at k;have inj:∀ {i j:Nat},V.int (i:Nat)=V.int (j:Nat)->i=j:=fun q=>by have:=V.int.inj q;lia
 by_cases u:lastT r=lastB r
 ·refine J48 (congrArg (fun n:Nat=>V.int (n:Int)) u) ⟨_,rfl,fun x T N l S=>?_⟩;obtain ⟨st,I⟩:=J5g (cs:=cs) (s:=.home (lastT r)) N l;refine ⟨x,T,_,.home (lastT r),rfl,⟨_,rfl,rfl⟩,J6,rfl,k x _ I ?_⟩;rw [if_pos u];exact st
 refine iteD (fun q=>u (inj q)) ?_;rw [if_neg u] at k;refine ⟨_,rfl,y,CR,p,fr,_,rfl,m,b.cl,b.nL,B,_,rfl,pl,_,_,_,rfl,rfl,SqT.of C,Jc (J1g U),_,rfl,y,CR,p,fr,_,rfl,m,b.cl,b.nL,B,_,rfl,pl,_,_,_,rfl,rfl,SqT.of C,Jc (J1g W),rfl,_,rfl,?_⟩;by_cases G:r.ls.getD (lastT r) 0=r.ls.getD (lastB r) 0
 ·refine J48 (congrArg V.int G) ⟨_,rfl,_,rfl,fun x T N l S=>?_⟩;obtain ⟨st,I⟩:=J5g (cs:=cs) (s:=.even (lastT r) (lastB r)) N l;refine ⟨x,T,_,.even (lastT r) (lastB r),rfl,⟨_,_,rfl,rfl⟩,J6,rfl,k x _ I ?_⟩;rw [if_pos G];exact st
 refine iteD (Jht G) ?_;rw [if_neg G] at k;refine ⟨_,rfl,y,CR,p,fr,_,rfl,m,b.cl,b.nL,B,_,rfl,pl,_,_,_,rfl,rfl,SqT.of C,Jc (J1g U),_,rfl,y,CR,p,fr,_,rfl,m,b.cl,b.nL,B,_,rfl,pl,_,_,_,rfl,rfl,SqT.of C,Jc (J1g W),_,_,rfl,rfl,_,rfl,?_⟩;have c:∀ (row:List Nat) (a:Nat),a∈row->row.Perm r.top->row.getD (row.length - 1) 0≠a->1<=J2 r.ls (J4 row a)/\J2 r.ls (J4 row a)<=10 ^ 30:=fun row a ha X hl=>by
  have g:∀ j∈row,1<=r.ls.getD j 0:=fun j z=>ok.row.pos j (X.mem_iff.mp z);refine ⟨J6n (fun j z=>g j (J1c z)) (Jdb ha hl),?_⟩;have h1:J2 r.ls row=r.size:=J2l X;have h2:J2 r.ls row=J2 r.ls (row.take (row.idxOf a + 1)) + J2 r.ls (J4 row a):=by
   rw [<- Ji];show _=J2 r.ls (row.take (row.idxOf a + 1) ++ row.drop (row.idxOf a + 1));rw [take_append_drop]
  have h3:=J18 (ls:=r.ls) (os:=row.take (row.idxOf a + 1)) fun j z=>by have:=g j (mem_of_mem_take z);lia
  lia
 by_cases D:r.ls.getD (lastB r) 0 < r.ls.getD (lastT r) 0
 ·rw [if_pos D] at k;obtain ⟨L,J⟩:=c r.bot (lastT r) (ok.perm.mem_iff.mpr mT) ok.perm (fun e=>u e.symm);exact J48 D ⟨_,rfl,_,rfl,_,rfl,y,r,lastT r,lastB r,rfl,R,ok,ok.perm.mem_iff.mpr mT,L,J,k⟩
 ·rw [if_neg D] at k;obtain ⟨L,J⟩:=c r.top (lastB r) mB (List.Perm.refl _) u;exact iteD D ⟨_,rfl,_,rfl,_,rfl,y,r,lastB r,lastT r,rfl,R,ok,mB,L,J,k⟩
end
section
variable [En]
inductive J66(vs:List V)(H:Hp)(Q:VK)(E:XK):Prop
 | mk(q:Addr)(row:List Nat)(x:Nat)(_:vs=[.ref q,.int (x:Nat)])(_:SqH H q (nV row))(_:row.length<=24)(_:∀ p a,Same H a->a p=some (.lst (nV (withoutR row x)))->Q (.ref p) a)
theorem Jio:FS1 ["row","letter"] J4a:=fsc
theorem notv{j x:Nat}:(!decide (V.int (j:Int)=V.int (x:Int)))=decide (j≠x):=by
 grind
theorem Jgw(F : Fn1 J4a):
    Ca1 1 J4a J66:= by
  refine F.ok Jio (fun f d A o s H vs Q E p h => ?_);obtain ⟨q, row, x, rfl, a, r, k⟩:= h;rcases a with a | a
  · refine ⟨_, J7 (Jh (Jc6 (caps := ["letter"]) (js := [1]) rfl (J33 (pv 0)) rfl (fun C e s H => Jb2 (Jq J9t (pv 0) (pv 1) (Jv _))) (fun C e s H => pv 0)
     )), ?_⟩
    refine ⟨_, rfl, q, rfl, ⟨_, SqL.of a⟩, fun d hd => lc_lst (fun (j : Nat) => V.int (j : Int)) row (fun j => decide (j ≠ x)) (fun (j : Nat) => V.int (j : Int)) (by rw [<- J4i]; exact SqL.of a) (by lia) hd
      (fun j _ c m _ k => ⟨_, rfl, _, rfl, rfl, _, rfl, by rw [notv]; exact k c (Same.refl _)⟩) (fun j l c n _ i k => ⟨_, rfl, k _ (Same.refl _)⟩) (fun g s' b => k d g s' (by rw [b, J4i]; rfl))⟩
  · refine ⟨_, J7 (Jh (Jc6 (caps := ["letter"]) (js := [1]) rfl (Ja8 (pv 0)) rfl (fun C e s H => Jb2 (Jq J9t (pv 0) (pv 1) (Jv _))) (fun C e s H => pv 0)
     )), ?_⟩
    refine ⟨_, rfl, q, rfl, ⟨_, SqT.of a⟩, fun d hd => Jq0 (fun (j : Nat) => V.int (j : Int)) row (fun j => decide (j ≠ x)) (fun (j : Nat) => V.int (j : Int)) (by rw [<- J4i]; exact SqT.of a) (by lia) hd
      (fun j _ c m _ k => ⟨_, rfl, _, rfl, rfl, _, rfl, by rw [notv]; exact k c (Same.refl _)⟩) (fun j l c n _ i k => ⟨_, rfl, k _ (Same.refl _)⟩) (fun g s' b => k d g s' (by rw [b, J4i]; rfl))⟩
theorem Jbi(row:List Nat)(n:Nat)(h:n<=row.length):cutV (nV row) none (some (n:Int))=nV (row.take n):=by
 unfold cutV;rw [J6l,HT.sIx_nat,HT.sIx_none,Nat.min_eq_left h,J4i,J4i,List.map_take,List.drop_zero,Nat.sub_zero]
inductive Jm9(vs:List V)(H:Hp)(Q:VK)(E:XK):Prop
 | mk(q:Addr)(row:List Nat)(w l:Nat)(b:Bool)(_:vs=[.ref q,.int (w:Nat),.int (l:Nat),.bl b])(_:SqH H q (nV row))(_:row.length<=24)(_:w∈row)(_:w≠l)(_:∀ p a,Same H a->a p=some (.lst (nV (putR row w l b)))->Q (.ref p) a)
theorem Jqx:FS1 ["row","winner","loser","ahead","others","at"] fPut:=fsc
theorem Jpx(xs a:List Nat):nV (xs ++ a)=nV xs ++ nV a:=by rw [J4i,J4i,J4i,map_append]
theorem ok_put(F:Fn1 fPut)(N:Ca1 1 J4a J66):
  Ca1 2 fPut Jm9:=by
 refine F.ok Jqx (fun f d A o s H vs Q E G h=>?_);obtain ⟨q,row,g,lo,r,rfl,I,C,hw,w,k⟩:=h;refine ⟨_,J1 (Jf (i:=4) Jqx.nd rfl (Or.inl rfl) (pcl N G Jg (J0 (pv 0) (J0 (pv 2) J3))))
  (J1 (J4r (Jf (i:=5) Jqx.nd rfl (Or.inl rfl) (J2y (J3r (pv 3)) (J6z PySem.F.plainAttrs_list PySem.F.slot_list_index PySem.F.type_list_index J8s (pv 4) (J0 (pv 1) J3)) (Jl J1b (J6z PySem.F.plainAttrs_list PySem.F.slot_list_index PySem.F.type_list_index J8s (pv 4) (J0 (pv 1) J3)) Ja))))
  (J7 (Jh (Jl Jpv (Jl Jpv (J7y Jdo (pv 4) Jb5 (Jb4 (pv 5))) (J2q (J0 (pv 2) J3))) (J7y Jdo (pv 4) (Jb4 (pv 5)) Jb5))))),?_⟩
 refine ⟨_,rfl,_,rfl,q,row,lo,rfl,I,C,fun o O D m=>?_⟩;have y:g∈withoutR row lo:=J16.mpr ⟨hw,w⟩;have J:(withoutR row lo).length<=24:=Nat.le_trans (length_filter_le _ _) C;have k':∀ p u,Same H u->u p=some (.lst (nV ((withoutR row lo).take (if r=true then (withoutR row lo).idxOf g else (withoutR row lo).idxOf g + 1) ++ [lo] ++ (withoutR row lo).drop (if r=true then (withoutR row lo).idxOf g else (withoutR row lo).idxOf g + 1))))->Q (.ref p) u:=k;generalize withoutR row lo=os at *;have hi:os.idxOf g < os.length:=idxOf_lt_length_iff.mpr y;have hb:∃ n:Nat,n<=os.length/\n=(if r=true then os.idxOf g else os.idxOf g + 1):=by
  refine ⟨_,?_,rfl⟩;split <;> lia
 obtain ⟨n,l,j⟩:=hb;rw [<- j] at k';refine ⟨fun σ' u=>σ'=[some (.ref q),some (.int (g:Nat)),some (.int (lo:Nat)),some (.bl r),some (.ref o),some (.int (n:Nat))]/\O=u,⟨_,rfl,_,rfl,?_⟩,?_⟩
 ·by_cases c:r=true
  ·rw [if_pos c] at j;refine J90 c ⟨_,rfl,.inl ⟨rfl,_,SqL.of m⟩,_,rfl,o,natI os,(g:Int),rfl,rfl,SqL.of m,Je7 y,?_,rfl⟩;rw [j,<- Jec];rfl
  ·rw [if_neg c] at j;refine J91 c ⟨_,rfl,.inl ⟨rfl,_,SqL.of m⟩,_,rfl,o,natI os,(g:Int),rfl,rfl,SqL.of m,Je7 y,_,_,rfl,rfl,?_,rfl⟩;rw [j,<- Jec,Int.natCast_add];rfl
 rintro σ _ ⟨rfl,rfl⟩;refine ⟨_,rfl,_,rfl,_,rfl,o,_,rfl,SqL.of m,fun a M=>?_⟩;refine ⟨_,rfl,(by show 1<=sizeLine;decide),fun b hb=>?_⟩;have sa:=J9 (o:=.lst (cutV (nV os) none (some (n:Int)))) M;have v:=J9 (o:=.lst [V.int (lo:Nat)]) hb;refine ⟨a,b,_,_,rfl,rfl,v _ _ J6,J6,?_,fun c L=>?_⟩
 ·rw [Jbi _ _ l,J6l,length_take];have:=J14 (n:=min n os.length + 1) (by lia);show min n os.length + 1<=sizeLine;lia
 have B:=J9 (o:=.lst (cutV (nV os) none (some (n:Int)) ++ [V.int (lo:Nat)])) L;refine ⟨_,rfl,_,rfl,_,rfl,o,_,rfl,SqL.of (B _ _ (v _ _ (sa _ _ m))),fun d hd=>?_⟩;have z:=J9 (o:=.lst (cutV (nV os) (some (n:Int)) none)) hd;refine ⟨c,d,_,_,rfl,rfl,z _ _ J6,J6,?_,fun e K=>k' e _ (D.trans (sa.trans (v.trans (B.trans (z.trans (J9 K)))))) ?_⟩
 ·rw [Jbi _ _ l,Jei _ _ l,length_append,J6l,J6l,length_take,length_drop];have:=J14 (n:=min n os.length + 1 + (os.length - n)) (by lia);show min n os.length + 1 + (os.length - n)<=sizeLine;lia
 ·rw [J6,Jbi _ _ l,Jei _ _ l,Jpx,Jpx];rfl
inductive J4o(vs:List V)(H:Hp)(Q:VK)(E:XK):Prop
 | mk(q:Addr)(xs:List V)(j:Nat)(v:V)(_:vs=[.ref q,.int (j:Nat),v])(_:SqH H q xs)(_:j < xs.length)(_:∀ p a,Same H a->a p=some (.lst (xs.set j v))->Q (.ref p) a)
theorem Jc1:FS1 ["row","letter","entry","copied"] J3i:=fsc
theorem Jgz(F:Fn1 J3i)(T:TxtR mg):
  Ca1 1 J3i J4o:=by
 refine F.ok Jc1 (fun f d A o s H vs Q E g h=>?_);obtain ⟨q,xs,j,v,rfl,a,b,k⟩:=h;refine ⟨_,J1 (Jf (i:=3) Jc1.nd rfl (Or.inl rfl) (J15 Jd6 (by rfl) T.list boot_list (J0 (pv 0) J3)))
  (J1 (Jfh (pv 2) (Jfk (pv 3) (pv 1) J7u)) (J7 (Jh (pv 3)))),?_⟩
 refine ⟨_,rfl,q,xs,rfl,a.sq,fun c e=>?_⟩;refine ⟨_,rfl,_,rfl,_,rfl,c,xs,_,j,rfl,rfl,J6,Jkp b,?_⟩;rw [Jde];exact ⟨_,rfl,k c _ (J9 e) J6⟩
theorem Jlw(ts:List Bool)(j:Nat)(b:Bool):(bV ts).set j (V.bl b)=bV (ts.set j b):=by
 simp_all
inductive J8e(CR:Addr)(vs:List V)(H:Hp)(Q:VK)(E:XK):Prop
 | mk(y:Addr)(r:Rst)(a:Nat)(less:Int)(_:vs=[.ref y,.int (a:Nat),.int less])(_:J1h CR H y r)(_:a < r.ls.length)(_:∀ p b,Same H b->b p=some (.lst (iV (r.ls.set a (r.ls.getD a 0 - less))))->Q (.ref p) b)
theorem Jqs:FS1 ["rest","winner","less"] J7i:=fsc
theorem Jno{CR:Addr}(F:Fn1 J7i)(b:J17 K CR)(n:Ca1 1 J3i J4o):
  Ca1 2 J7i (J8e CR):=by
 refine F.ok Jqs (fun f d A o s H vs Q E j h=>?_);obtain ⟨y,r,a,less,rfl,R,m,k⟩:=h;obtain ⟨i,fr,pt,v,pl,u,e,⟨C,B,c,z,w⟩,I,G,g,D⟩:=R.ex;refine ⟨_,J7 (Jh (pcl n j Jg (J0 (J8 (pv 0)) (J0 (pv 1) (J0 (Jl J1u (Jp Jj (J8 (pv 0)) (pv 1)) (pv 2)) J3))))),?_⟩;refine ⟨_,rfl,y,CR,i,fr,_,rfl,e,b.cl,b.nL,c,_,rfl,_,rfl,y,CR,i,fr,_,rfl,e,b.cl,b.nL,c,_,rfl,pl,_,_,_,rfl,rfl,SqT.of g,Jc (J1g m),_,rfl,_,_,rfl,rfl,pl,iV r.ls,a,_,rfl,.inr g,by simp_all,fun p q s' l=>k p q s' ?_⟩;rw [l,Jg1]
inductive J7s(CR:Addr)(vs:List V)(H:Hp)(Q:VK)(E:XK):Prop
 | mk(y:Addr)(r:Rst)(a b:Nat)(_:vs=[.ref y,.int (a:Nat),.int (b:Nat)])(_:J1h CR H y r)(_:a < r.ts.length)(_:b < r.ts.length)(_:∀ p c,Same H c->c p=some (.lst (bV (J2d r a b)))->Q (.ref p) c)
theorem Jmi:FS1 ["rest","winner","loser"] J60:=fsc
theorem Jjh{CR:Addr}(F:Fn1 J60)(c:J17 K CR)(v:Ca1 1 J3i J4o):
  Ca1 2 J60 (J7s CR):=by
 refine F.ok Jmi (fun f d A o s H vs Q E n h=>?_);obtain ⟨y,r,a,b,rfl,R,u,hb,k⟩:=h;obtain ⟨m,fr,pt,z,pl,g,j,⟨G,D,C,i,B⟩,L,J,I,l⟩:=R.ex;refine ⟨_,J7 (Jh (pcl v n Jg (J0 (J8 (pv 0)) (J0 (pv 2) (J0 (J4u J9t (Jp Jj (J8 (pv 0)) (pv 1)) (Jp Jj (J8 (pv 0)) (pv 2)) (Jv _)) J3))))),?_⟩;refine ⟨_,rfl,y,CR,m,fr,_,rfl,j,c.cl,c.nU,i,_,rfl,_,rfl,y,CR,m,fr,_,rfl,j,c.cl,c.nU,i,_,rfl,g,_,_,_,rfl,rfl,SqT.of l,Jc (J7l u),_,rfl,y,CR,m,fr,_,rfl,j,c.cl,c.nU,i,_,rfl,g,_,_,_,rfl,rfl,SqT.of l,Jc (J7l hb),rfl,g,bV r.ts,b,_,rfl,.inr l,by rw [length_map];exact hb,fun p w s' q=>k p w s' ?_⟩;rw [q];unfold J2d;rw [<- Jlw];have e:(!decide (V.bl (r.ts.getD a false)=V.bl (r.ts.getD b false)))=(r.ts.getD a false != r.ts.getD b false):=by
  cases r.ts.getD a false <;> cases r.ts.getD b false <;> rfl
 rw [e]
structure Fit(s:Stp)(r:Rst):Prop where
 ok:r.Ok
 left:(s.behind r).Ok
 win:s.winner∈r.top
 lose:∀ b:Nat,Jom s=.int (b:Nat)->b∈r.top/\s.winner≠b
 few:s.times.natAbs < 2 ^ 4000
 small:r.size<=10 ^ 30
inductive J36(cs:Kd->Addr)(CR:Addr)(k:Kd)(vs:List V)(H:Hp)(Q:VK)(E:XK):Prop
 | mk(x y:Addr)(s:Stp)(r:Rst)(_:vs=[.ref x,.ref y])(_:kd s=k)(_:J32 cs H x s)(_:J1h CR H y r)(_:Fit s r)(_:∀ p a,Same H a->J1h CR a p (s.behind r)->Q (.ref p) a)
theorem J3p{CR:Addr}{Q:VK}(ok:r.Ok)(l:SqH H p1 (nV r.top))(j:SqH H p2 (nV r.bot))(i:SqH H p3 (iV r.ls))(h:SqH H p4 (bV r.ts))(k:∀ p c,Same H c->J1h CR c p r->Q (.ref p) c):
  ∀ x a,H x=none->H a=none->a≠x->J40 CR (.ref x :: ([.ref p1,.ref p2,.ref p3,.ref p4] ++ [])) (upd (upd H a (.own x)) x (.ins CR a [])) (fun v m=>v=.non/\Q (.ref x) m) E0:=fun x a g f d=>by
 have s0:Same H (upd (upd H a (.own x)) x (.ins CR a [])):=(J9 f).trans (J9 (by rw [Jm (Ne.symm d)];exact g));refine ⟨x,a,p1,p2,p3,p4,r,rfl,J6,l.same s0,j.same s0,i.same s0,h.same s0,ok.row.lt,Nat.le_trans ok.row.len_le ok.few,fun c R kp=>⟨rfl,k x c (fun b u e=>?_) R⟩⟩;exact kp b u (s0 _ _ e) (Jd e g)
theorem J6y:Jr ["self","rest","top","bottom"] ["self","rest"] (Je (Jb (top 53) 3)):=fsc
theorem Je2{CR:Addr}(F:Fun K "behind" "Home.behind" (Jb (top 53) 3) f fd)(TS:TxtS K cs)(e:J17 K CR)(S:Ca1 1 J4a J66)(T:Ca1 1 J3i J4o)(cI:Mak CX0 2 "Rest" CR ["self","top","bottom","lengths","turned"] [] (J40 CR)):
  FnOk P w K mg base CX0 4 f fd ["self","rest"] (J36 cs CR .ho):=by
 refine F.ok1 J6y (fun d A o s H vs Q E n h=>?_);obtain ⟨x,y,s,r,rfl,m,⟨D,B⟩,R,j,k⟩:=h;have ok:=j.ok;have left:=j.left;have win:=j.win;have N:=ok.perm.mem_iff.mpr win;have few:=Nat.le_trans ok.row.len_le ok.few;have q:=Nat.le_trans ok.rowB.len_le ok.few;have O:=ok.row.lt _ win;obtain ⟨G,fr,pt,W,pl,U,C,⟨k1,Z,Y,X,k5⟩,e1,e2,e3,e4⟩:=R.ex
 cases s with
 | home a =>
  have lt:a < r.ts.length:=by rw [ok.len];exact O
  refine ⟨_,J1 (Jf (i:=2) J6y.nd rfl (Or.inl rfl) (pcl S n Jg (J0 (J8 (pv 1)) (J0 (J8 (pv 0)) J3))))
   (J1 (Jf (i:=3) J6y.nd rfl (Or.inl rfl) (pcl S n Jg (J0 (J8 (pv 1)) (J0 (J8 (pv 0)) J3))))
   (J7 (Jh (pmk cI n Jg (J0 (pv 2) (J0 (pv 3) (J0 (pcl T n Jg (J0 (J8 (pv 1)) (J0 (J8 (pv 0)) (J0 Ja J3)))) (J0 (pcl T n Jg (J0 (J8 (pv 1)) (J0 (J8 (pv 0)) (J0 J70 J3)))) J3)))))))),?_⟩
  refine ⟨_,rfl,y,CR,G,fr,_,rfl,C,e.cl,e.nT,k1,_,rfl,x,cs _,D,stF _,_,rfl,B,TS.cl _,TS.nW _,J2f _,pt,r.top,a,rfl,.inr e1,few,fun t1 H1 z J=>?_⟩;refine ⟨_,rfl,y,CR,G,fr,_,rfl,z _ _ C,e.cl,e.nB,Z,_,rfl,x,cs _,D,stF _,_,rfl,z _ _ B,TS.cl _,TS.nW _,J2f _,W,r.bot,a,rfl,.inr (z _ _ e2),q,fun b1 H2 l M=>?_⟩;have v:=z.trans l;refine ⟨_,rfl,_,rfl,_,rfl,y,CR,G,fr,_,rfl,v _ _ C,e.cl,e.nL,Y,_,rfl,x,cs _,D,stF _,_,rfl,v _ _ B,TS.cl _,TS.nW _,J2f _,pl,iV r.ls,a,.int 0,rfl,.inr (v _ _ e3),by rw [J2r];exact O,fun l1 H3 g L=>?_⟩;have u:=v.trans g;refine ⟨_,rfl,y,CR,G,fr,_,rfl,u _ _ C,e.cl,e.nU,X,_,rfl,x,cs _,D,stF _,_,rfl,u _ _ B,TS.cl _,TS.nW _,J2f _,U,bV r.ts,a,.bl false,rfl,.inr (u _ _ e4),by rw [length_map];exact lt,fun u1 H4 c I=>?_⟩;exact J3p left (.inl (c _ _ (g _ _ (l _ _ J)))) (.inl (c _ _ (g _ _ M))) (.inl (by rw [c _ _ L,Jg1];rfl)) (.inl (by rw [I,Jlw];rfl)) fun p H' s' R'=>k p H' (u.trans (c.trans s')) R'
 | even a b=>cases m
 | over a b=>cases m
 | under a b=>cases m
 | overs a t=>cases m
 | unders a t=>cases m
theorem J5d:Jr ["self","rest","top","bottom","turned"] ["self","rest"] (Je (Jb (top 54) 3)):=fsc
theorem Je3{CR:Addr}(F:Fun K "behind" "Even.behind" (Jb (top 54) 3) f fd)(TS:TxtS K cs)(u:J17 K CR)(cW:Ca1 1 J4a J66)(cP:Ca1 2 fPut Jm9)(cC:Ca1 1 J3i J4o)(cT:Ca1 2 J60 (J7s CR))(cI:Mak CX0 2 "Rest" CR ["self","top","bottom","lengths","turned"] [] (J40 CR)):
  FnOk P w K mg base CX0 4 f fd ["self","rest"] (J36 cs CR .ev):=by
 refine F.ok1 J5d (fun d A o s H vs Q E q h=>?_);obtain ⟨x,y,s,r,rfl,D,⟨l,g⟩,R,e,k⟩:=h;have ok:=e.ok;have left:=e.left;have win:=e.win;have v:=ok.perm.mem_iff.mpr win;have few:=Nat.le_trans ok.row.len_le ok.few;have j:=Nat.le_trans ok.rowB.len_le ok.few;have Z:=ok.row.lt _ win;obtain ⟨W,fr,pt,pb,pl,pu,U,⟨k1,k2,k3,k4,k5⟩,e1,e2,e3,e4⟩:=R.ex
 cases s with
 | even a b =>
  obtain ⟨lose,wl⟩:=e.lose b rfl;have lt:a < r.ts.length:=by rw [ok.len];exact Z
  have lb:b < r.ts.length:=by rw [ok.len];exact ok.row.lt _ lose
  refine ⟨_,J1 (Jf (i:=2) J5d.nd rfl (Or.inl rfl) (pcl cW q Jg (J0 (J8 (pv 1)) (J0 (J8 (pv 0)) J3))))
   (J1 (Jf (i:=3) J5d.nd rfl (Or.inl rfl) (pcl cW q Jg (J0 (pcl cP q Jg (J0 (J8 (pv 1)) (J0 (J8 (pv 0)) (J0 (J8 (pv 0)) (J0 J70 J3))))) (J0 (J8 (pv 0)) J3))))
   (J1 (Jf (i:=4) J5d.nd rfl (Or.inl rfl) (pcl cC q Jg (J0 (pcl cT q Jg (J0 (pv 1) (J0 (J8 (pv 0)) (J0 (J8 (pv 0)) J3)))) (J0 (J8 (pv 0)) (J0 J70 J3)))))
   (J7 (Jh (pmk cI q Jg (J0 (pv 2) (J0 (pv 3) (J0 (pcl cC q Jg (J0 (J8 (pv 1)) (J0 (J8 (pv 0)) (J0 Ja J3)))) (J0 (pv 4) J3))))))))),?_⟩
  refine ⟨_,rfl,y,CR,W,fr,_,rfl,U,u.cl,u.nT,k1,_,rfl,x,cs _,l,stF _,_,rfl,g,TS.cl _,TS.nW _,J2f _,pt,r.top,a,rfl,.inr e1,few,fun t1 H1 C N=>?_⟩;refine ⟨_,rfl,y,CR,W,fr,_,rfl,C _ _ U,u.cl,u.nB,k2,_,rfl,x,cs _,l,stF _,_,rfl,C _ _ g,TS.cl _,TS.nW _,J2f _,_,rfl,x,cs _,l,stF _,_,rfl,C _ _ g,TS.cl _,TS.nL _,Jas _,pb,r.bot,a,b,false,rfl,.inr (C _ _ e2),j,v,wl,fun b0 H2 B T=>?_⟩;have Y:=C.trans B;have G:(putR r.bot a b false).length<=24:=by rw [(J37 ok.rowB.nd (ok.perm.mem_iff.mpr lose) false).length_eq];exact j
  refine ⟨_,rfl,x,cs _,l,stF _,_,rfl,Y _ _ g,TS.cl _,TS.nW _,J2f _,b0,_,a,rfl,.inl T,G,fun b1 H3 z S=>?_⟩;have J:=Y.trans z;refine ⟨_,rfl,_,rfl,x,cs _,l,stF _,_,rfl,J _ _ g,TS.cl _,TS.nW _,J2f _,_,rfl,x,cs _,l,stF _,_,rfl,J _ _ g,TS.cl _,TS.nL _,Jas _,y,r,a,b,rfl,R.same J,lt,lb,fun u0 H4 n M=>?_⟩;have X:=J.trans n;refine ⟨_,rfl,x,cs _,l,stF _,_,rfl,X _ _ g,TS.cl _,TS.nW _,J2f _,u0,bV (J2d r a b),a,.bl false,rfl,.inl M,by rw [length_map,J2w];exact lt,fun u1 H5 m L=>?_⟩;have I:=X.trans m;refine ⟨_,rfl,_,rfl,_,rfl,y,CR,W,fr,_,rfl,I _ _ U,u.cl,u.nL,k3,_,rfl,x,cs _,l,stF _,_,rfl,I _ _ g,TS.cl _,TS.nW _,J2f _,pl,iV r.ls,a,.int 0,rfl,.inr (I _ _ e3),by rw [J2r];exact Z,fun l1 H6 c O=>⟨_,rfl,?_⟩⟩;exact J3p left (.inl (c _ _ (m _ _ (n _ _ (z _ _ (B _ _ N)))))) (.inl (c _ _ (m _ _ (n _ _ S)))) (.inl (by rw [O,Jg1];rfl)) (.inl (by rw [c _ _ L,Jlw];rfl)) fun p H' s' R'=>k p H' (I.trans (c.trans s')) R'
 | home a=>cases D
 | over a b=>cases D
 | under a b=>cases D
 | overs a t=>cases D
 | unders a t=>cases D
theorem J6x:Jr ["self","rest","bottom","lengths"] ["self","rest"] (Je (Jb (top 55) 3)):=fsc
theorem Jdy{CR:Addr}(F:Fun K "behind" "Over.behind" (Jb (top 55) 3) f fd)(TS:TxtS K cs)(g:J17 K CR)(cP:Ca1 2 fPut Jm9)(cS:Ca1 2 J7i (J8e CR))(cT:Ca1 2 J60 (J7s CR))(cI:Mak CX0 2 "Rest" CR ["self","top","bottom","lengths","turned"] [] (J40 CR)):
  FnOk P w K mg base CX0 4 f fd ["self","rest"] (J36 cs CR .ov):=by
 refine F.ok1 J6x (fun d A o s H vs Q E C h=>?_);obtain ⟨x,y,s,r,rfl,z,⟨l,j⟩,R,e,k⟩:=h;have ok:=e.ok;have left:=e.left;have win:=e.win;have q:=ok.perm.mem_iff.mpr win;have few:=Nat.le_trans ok.row.len_le ok.few;have B:=Nat.le_trans ok.rowB.len_le ok.few;have M:=ok.row.lt _ win;obtain ⟨G,fr,pt,S,pl,O,D,⟨Y,X,W,U,k5⟩,e1,e2,e3,Z⟩:=R.ex
 cases s with
 | over a b =>
  obtain ⟨lose,N⟩:=e.lose b rfl;have lt:a < r.ts.length:=by rw [ok.len];exact M
  have v:=ok.row.lt _ lose;have T:b < r.ts.length:=by rw [ok.len];exact v
  refine ⟨_,J1 (Jf (i:=2) J6x.nd rfl (Or.inl rfl) (pcl cP C Jg (J0 (J8 (pv 1)) (J0 (J8 (pv 0)) (J0 (J8 (pv 0)) (J0 (Jp Jj (J8 (pv 1)) (J8 (pv 0))) J3))))))
   (J1 (Jf (i:=3) J6x.nd rfl (Or.inl rfl) (pcl cS C Jg (J0 (pv 1) (J0 (J8 (pv 0)) (J0 (Jp Jj (J8 (pv 1)) (J8 (pv 0))) J3)))))
   (J7 (Jh (pmk cI C Jg (J0 (J8 (pv 1)) (J0 (pv 2) (J0 (pv 3) (J0 (pcl cT C Jg (J0 (pv 1) (J0 (J8 (pv 0)) (J0 (J8 (pv 0)) J3)))) J3)))))))),?_⟩
  refine ⟨_,rfl,y,CR,G,fr,_,rfl,D,g.cl,g.nB,X,_,rfl,x,cs _,l,stF _,_,rfl,j,TS.cl _,TS.nW _,J2f _,_,rfl,x,cs _,l,stF _,_,rfl,j,TS.cl _,TS.nL _,Jas _,_,rfl,y,CR,G,fr,_,rfl,D,g.cl,g.nU,U,_,rfl,x,cs _,l,stF _,_,rfl,j,TS.cl _,TS.nW _,J2f _,O,_,_,_,rfl,rfl,SqT.of Z,Jc (J7l lt),S,r.bot,a,b,_,rfl,.inr e2,B,q,N,fun q1 H1 n J=>?_⟩;refine ⟨_,rfl,_,rfl,x,cs _,l,stF _,_,rfl,n _ _ j,TS.cl _,TS.nW _,J2f _,_,rfl,y,CR,G,fr,_,rfl,n _ _ D,g.cl,g.nL,W,_,rfl,x,cs _,l,stF _,_,rfl,n _ _ j,TS.cl _,TS.nL _,Jas _,pl,_,_,_,rfl,rfl,SqT.of (n _ _ e3),Jc (J1g v),y,r,a,_,rfl,R.same n,M,fun l1 H2 u L=>?_⟩;have m:=n.trans u;refine ⟨_,rfl,y,CR,G,fr,_,rfl,m _ _ D,g.cl,g.nT,Y,_,rfl,_,rfl,_,rfl,_,rfl,x,cs _,l,stF _,_,rfl,m _ _ j,TS.cl _,TS.nW _,J2f _,_,rfl,x,cs _,l,stF _,_,rfl,m _ _ j,TS.cl _,TS.nL _,Jas _,y,r,a,b,rfl,R.same m,lt,T,fun u1 H3 c I=>?_⟩;exact J3p left (.inr (c _ _ (m _ _ e1))) (.inl (c _ _ (u _ _ J))) (.inl (c _ _ L)) (.inl I) fun p H' s' R'=>k p H' (m.trans (c.trans s')) R'
 | home a=>cases z
 | even a b=>cases z
 | under a b=>cases z
 | overs a t=>cases z
 | unders a t=>cases z
theorem J6w:Jr ["self","rest","top","lengths"] ["self","rest"] (Je (Jb (top 56) 2)):=fsc
theorem Jdw{CR:Addr}(F:Fun K "behind" "Under.behind" (Jb (top 56) 2) f fd)(TS:TxtS K cs)(g:J17 K CR)(cP:Ca1 2 fPut Jm9)(cS:Ca1 2 J7i (J8e CR))(cT:Ca1 2 J60 (J7s CR))(cI:Mak CX0 2 "Rest" CR ["self","top","bottom","lengths","turned"] [] (J40 CR)):
  FnOk P w K mg base CX0 4 f fd ["self","rest"] (J36 cs CR .un):=by
 refine F.ok1 J6w (fun d A o s H vs Q E z h=>?_);obtain ⟨x,y,s,r,rfl,v,⟨l,j⟩,R,e,k⟩:=h;have ok:=e.ok;have left:=e.left;have win:=e.win;have J:=ok.perm.mem_iff.mpr win;have few:=Nat.le_trans ok.row.len_le ok.few;have M:=Nat.le_trans ok.rowB.len_le ok.few;have L:=ok.row.lt _ win;obtain ⟨C,fr,pt,pb,pl,O,B,⟨X,W,U,T,k5⟩,e1,e2,Z,Y⟩:=R.ex
 cases s with
 | under a b =>
  obtain ⟨lose,N⟩:=e.lose b rfl;have lt:a < r.ts.length:=by rw [ok.len];exact L
  have u:=ok.row.lt _ lose;have S:b < r.ts.length:=by rw [ok.len];exact u
  refine ⟨_,J1 (Jf (i:=2) J6w.nd rfl (Or.inl rfl) (pcl cP z Jg (J0 (J8 (pv 1)) (J0 (J8 (pv 0)) (J0 (J8 (pv 0)) (J0 (Jp Jj (J8 (pv 1)) (J8 (pv 0))) J3))))))
   (J1 (Jf (i:=3) J6w.nd rfl (Or.inl rfl) (pcl cS z Jg (J0 (pv 1) (J0 (J8 (pv 0)) (J0 (Jp Jj (J8 (pv 1)) (J8 (pv 0))) J3)))))
   (J7 (Jh (pmk cI z Jg (J0 (pv 2) (J0 (J8 (pv 1)) (J0 (pv 3) (J0 (pcl cT z Jg (J0 (pv 1) (J0 (J8 (pv 0)) (J0 (J8 (pv 0)) J3)))) J3)))))))),?_⟩
  refine ⟨_,rfl,y,CR,C,fr,_,rfl,B,g.cl,g.nT,X,_,rfl,x,cs _,l,stF _,_,rfl,j,TS.cl _,TS.nW _,J2f _,_,rfl,x,cs _,l,stF _,_,rfl,j,TS.cl _,TS.nL _,Jas _,_,rfl,y,CR,C,fr,_,rfl,B,g.cl,g.nU,T,_,rfl,x,cs _,l,stF _,_,rfl,j,TS.cl _,TS.nW _,J2f _,O,_,_,_,rfl,rfl,SqT.of Y,Jc (J7l lt),pt,r.top,a,b,_,rfl,.inr e1,few,win,N,fun q1 H1 n G=>?_⟩;refine ⟨_,rfl,_,rfl,x,cs _,l,stF _,_,rfl,n _ _ j,TS.cl _,TS.nW _,J2f _,_,rfl,y,CR,C,fr,_,rfl,n _ _ B,g.cl,g.nL,U,_,rfl,x,cs _,l,stF _,_,rfl,n _ _ j,TS.cl _,TS.nL _,Jas _,pl,_,_,_,rfl,rfl,SqT.of (n _ _ Z),Jc (J1g u),y,r,a,_,rfl,R.same n,L,fun l1 H2 q I=>?_⟩;have m:=n.trans q;refine ⟨_,rfl,_,rfl,y,CR,C,fr,_,rfl,m _ _ B,g.cl,g.nB,W,_,rfl,_,rfl,_,rfl,x,cs _,l,stF _,_,rfl,m _ _ j,TS.cl _,TS.nW _,J2f _,_,rfl,x,cs _,l,stF _,_,rfl,m _ _ j,TS.cl _,TS.nL _,Jas _,y,r,a,b,rfl,R.same m,lt,S,fun u1 H3 c D=>?_⟩;exact J3p left (.inl (c _ _ (q _ _ G))) (.inr (c _ _ (m _ _ e2))) (.inl (c _ _ I)) (.inl D) fun p H' s' R'=>k p H' (m.trans (c.trans s')) R'
 | home a=>cases v
 | even a b=>cases v
 | over a b=>cases v
 | overs a t=>cases v
 | unders a t=>cases v
theorem Ja6:Jr ["self","rest","lengths"] ["self","rest"] (Je (Jb (top 57) 4)):=fsc
theorem Je0{CR:Addr}(F:Fun K "behind" "Overs.behind" (Jb (top 57) 4) f fd)(TS:TxtS K cs)(e:J17 K CR)(cL:Ca1 1 J7j (J8g K))(cS:Ca1 2 J7i (J8e CR))(cI:Mak CX0 2 "Rest" CR ["self","top","bottom","lengths","turned"] [] (J40 CR))(HL:∀ k,HasM P w K mg base CX0 2 "losers" ["self","rest"] (J28 cs CR k) (cs k)):
  FnOk P w K mg base CX0 4 f fd ["self","rest"] (J36 cs CR .os):=by
 refine F.ok1 Ja6 (fun d A o s H vs Q E u h=>?_);obtain ⟨x,y,s,r,rfl,n,⟨z,q⟩,R,c,k⟩:=h;have I:Room 2 _:=u.mono (by decide);have ok:=c.ok;have left:=c.left;have win:=c.win;have m:=ok.perm.mem_iff.mpr win;have few:=Nat.le_trans ok.row.len_le ok.few;have T:=Nat.le_trans ok.rowB.len_le ok.few;have U:=ok.row.lt _ win;obtain ⟨B,fr,pt,pb,pl,pu,v,⟨k1,Z,Y,X,k5⟩,e1,e2,e3,e4⟩:=R.ex
 cases s with
 | overs a t =>
  have J:∀ j∈J4 r.bot a,j < r.ls.length:=fun j l=>ok.rowB.lt j (J1c l);have M:(J4 r.bot a).length<=24:=by unfold J4;rw [length_drop];lia
  have hsz:(J2 r.ls (J4 r.bot a)).natAbs < 2 ^ 4000:=by
   have S:∀ j∈r.bot,1<=r.ls.getD j 0:=fun j l=>ok.rowB.pos j l;have h1:J2 r.ls r.bot=r.size:=ok.sizeB;have h2:J2 r.ls r.bot=J2 r.ls (r.bot.take (r.bot.idxOf a + 1)) + J2 r.ls (J4 r.bot a):=by
    rw [<- Ji];show _=J2 r.ls (r.bot.take (r.bot.idxOf a + 1) ++ r.bot.drop (r.bot.idxOf a + 1));rw [take_append_drop]
   have h3:=J18 (ls:=r.ls) (os:=r.bot.take (r.bot.idxOf a + 1)) fun j l=>by have:=S j (mem_of_mem_take l);lia
   have h4:=J18 (ls:=r.ls) (os:=J4 r.bot a) fun j l=>by have:=S j (J1c l);lia
   have h5:=c.small;have h6:(J2 r.ls (J4 r.bot a)).natAbs<=10 ^ 30:=by lia
   exact Nat.lt_of_le_of_lt h6 (by decide)
  refine ⟨_,J1 (Jf (i:=2) Ja6.nd rfl (Or.inl rfl) (pcl cS u Jg (J0 (pv 1) (J0 (J8 (pv 0)) (J0 (Jl J3c (J8 (pv 0)) (pcl cL u Jg (J0 (pv 1) (J0 (J6f (sp:=J28 cs CR) (cls:=cs) (pv 0) HL I Jg (J0 (pv 1) J3)) J3)))) J3)))))
   (J7 (Jh (pmk cI u Jg (J0 (J8 (pv 1)) (J0 (J8 (pv 1)) (J0 (pv 2) (J0 (J8 (pv 1)) J3))))))),?_⟩
  refine ⟨_,rfl,_,rfl,x,cs _,z,stF _,_,rfl,q,TS.cl _,TS.nW _,J2f _,_,rfl,x,cs _,z,stF _,_,rfl,q,TS.cl _,TS.nT _,Jgm _,_,rfl,_,rfl,x,.os,z,stF _,rfl,q,J4h _ (by decide +kernel) (by decide +kernel) (by decide +kernel),_,rfl,x,y,.overs a t,r,rfl,rfl,⟨z,q⟩,R,win,m,fun W H1 G L=>?_⟩;refine ⟨CR,y,W,B,pl,fr,r.ls,J4 r.bot a,rfl,G _ _ v,e.cl,e.nL,Y,G _ _ e3,L,J,M,fun H2 D=>?_⟩;have O:=G.trans D;refine ⟨_,_,rfl,rfl,⟨c.few,hsz⟩,y,r,a,_,rfl,R.same O,U,fun l1 H3 C N=>?_⟩;have g:=O.trans C;refine ⟨_,rfl,y,CR,B,fr,_,rfl,g _ _ v,e.cl,e.nT,k1,_,rfl,y,CR,B,fr,_,rfl,g _ _ v,e.cl,e.nB,Z,_,rfl,_,rfl,y,CR,B,fr,_,rfl,g _ _ v,e.cl,e.nU,X,?_⟩;exact J3p left (.inr (g _ _ e1)) (.inr (g _ _ e2)) (.inl N) (.inr (g _ _ e4)) fun p H' s' R'=>k p H' (g.trans s') R'
 | home a=>cases n
 | even a b=>cases n
 | over a b=>cases n
 | under a b=>cases n
 | unders a t=>cases n
theorem Ja4:Jr ["self","rest","lengths"] ["self","rest"] (Je (Jb (top 58) 3)):=fsc
theorem Jdv{CR:Addr}(F:Fun K "behind" "Unders.behind" (Jb (top 58) 3) f fd)(TS:TxtS K cs)(e:J17 K CR)(cL:Ca1 1 J7j (J8g K))(cS:Ca1 2 J7i (J8e CR))(cI:Mak CX0 2 "Rest" CR ["self","top","bottom","lengths","turned"] [] (J40 CR))(HL:∀ k,HasM P w K mg base CX0 2 "losers" ["self","rest"] (J28 cs CR k) (cs k)):
  FnOk P w K mg base CX0 4 f fd ["self","rest"] (J36 cs CR .us):=by
 refine F.ok1 Ja4 (fun d A o s H vs Q E u h=>?_);obtain ⟨x,y,s,r,rfl,n,⟨z,q⟩,R,c,k⟩:=h;have I:Room 2 _:=u.mono (by decide);have ok:=c.ok;have left:=c.left;have win:=c.win;have m:=ok.perm.mem_iff.mpr win;have few:=Nat.le_trans ok.row.len_le ok.few;have T:=Nat.le_trans ok.rowB.len_le ok.few;have U:=ok.row.lt _ win;obtain ⟨B,fr,pt,pb,pl,pu,v,⟨k1,Z,Y,X,k5⟩,e1,e2,e3,e4⟩:=R.ex
 cases s with
 | unders a t =>
  have J:∀ j∈J4 r.top a,j < r.ls.length:=fun j l=>ok.row.lt j (J1c l);have M:(J4 r.top a).length<=24:=by unfold J4;rw [length_drop];lia
  have hsz:(J2 r.ls (J4 r.top a)).natAbs < 2 ^ 4000:=by
   have S:∀ j∈r.top,1<=r.ls.getD j 0:=fun j l=>ok.row.pos j l;have h1:J2 r.ls r.top=r.size:=rfl;have h2:J2 r.ls r.top=J2 r.ls (r.top.take (r.top.idxOf a + 1)) + J2 r.ls (J4 r.top a):=by
    rw [<- Ji];show _=J2 r.ls (r.top.take (r.top.idxOf a + 1) ++ r.top.drop (r.top.idxOf a + 1));rw [take_append_drop]
   have h3:=J18 (ls:=r.ls) (os:=r.top.take (r.top.idxOf a + 1)) fun j l=>by have:=S j (mem_of_mem_take l);lia
   have h4:=J18 (ls:=r.ls) (os:=J4 r.top a) fun j l=>by have:=S j (J1c l);lia
   have h5:=c.small;have h6:(J2 r.ls (J4 r.top a)).natAbs<=10 ^ 30:=by lia
   exact Nat.lt_of_le_of_lt h6 (by decide)
  refine ⟨_,J1 (Jf (i:=2) Ja4.nd rfl (Or.inl rfl) (pcl cS u Jg (J0 (pv 1) (J0 (J8 (pv 0)) (J0 (Jl J3c (J8 (pv 0)) (pcl cL u Jg (J0 (pv 1) (J0 (J6f (sp:=J28 cs CR) (cls:=cs) (pv 0) HL I Jg (J0 (pv 1) J3)) J3)))) J3)))))
   (J7 (Jh (pmk cI u Jg (J0 (J8 (pv 1)) (J0 (J8 (pv 1)) (J0 (pv 2) (J0 (J8 (pv 1)) J3))))))),?_⟩
  refine ⟨_,rfl,_,rfl,x,cs _,z,stF _,_,rfl,q,TS.cl _,TS.nW _,J2f _,_,rfl,x,cs _,z,stF _,_,rfl,q,TS.cl _,TS.nT _,Jgm _,_,rfl,_,rfl,x,.us,z,stF _,rfl,q,J4h _ (by decide +kernel) (by decide +kernel) (by decide +kernel),_,rfl,x,y,.unders a t,r,rfl,rfl,⟨z,q⟩,R,win,m,fun W H1 G L=>?_⟩;refine ⟨CR,y,W,B,pl,fr,r.ls,J4 r.top a,rfl,G _ _ v,e.cl,e.nL,Y,G _ _ e3,L,J,M,fun H2 D=>?_⟩;have O:=G.trans D;refine ⟨_,_,rfl,rfl,⟨c.few,hsz⟩,y,r,a,_,rfl,R.same O,U,fun l1 H3 C N=>?_⟩;have g:=O.trans C;refine ⟨_,rfl,y,CR,B,fr,_,rfl,g _ _ v,e.cl,e.nT,k1,_,rfl,y,CR,B,fr,_,rfl,g _ _ v,e.cl,e.nB,Z,_,rfl,_,rfl,y,CR,B,fr,_,rfl,g _ _ v,e.cl,e.nU,X,?_⟩;exact J3p left (.inr (g _ _ e1)) (.inr (g _ _ e2)) (.inl N) (.inr (g _ _ e4)) fun p H' s' R'=>k p H' (g.trans s') R'
 | home a=>cases n
 | even a b=>cases n
 | over a b=>cases n
 | under a b=>cases n
 | overs a t=>cases n
end
section
variable [En]
theorem atI_last{xs:List V}{n:Nat}{v:V}(h:xs.length=n + 1)(e:xs[n]?=some v):atI xs (-1)=some v:=by
 unfold atI ixN;rw [if_neg (by decide),if_pos (by rw [h];lia)];show xs[((-1:Int) + (xs.length:Int)).toNat]?=some v;rw [h,show ((-1:Int) + ((n + 1:Nat):Int)).toNat=n by lia];exact e
theorem Jad(j:Nat)(row:List Nat):inV (V.int (j:Nat)) (nV row)=decide (j∈row):=by
 rw [J4i];unfold inV;rw [Bool.eq_iff_iff,List.any_eq_true,decide_eq_true_iff];constructor
 ·rintro ⟨y,a,e⟩;obtain ⟨i,hi,rfl⟩:=mem_map.mp a;have b:((i:Int) == (j:Int))=true:=e;have:i=j:=by have:=eq_of_beq b;lia
  exact this ▸ hi
 ·intro h;exact ⟨V.int (j:Nat),mem_map.mpr ⟨j,h,rfl⟩,(beq_self_eq_true _:((j:Int) == (j:Int))=true)⟩
theorem Jef(row:List Nat):(nV row).all J5z=true:=by
 rw [J4i,all_eq_true];intro y a;obtain ⟨i,_,rfl⟩:=mem_map.mp a;rfl
theorem Jsb(k:Kd):decide (V.str (Jan k)=V.str (Str.ofString "home"))=(match k with | .ho=>true | _=>false):=by cases k <;> decide +kernel
theorem Jch(s:Stp):decide (V.str (Jan (kd s))=V.str (Str.ofString "home"))=s.isHome:=by
 rw [Jsb];cases s <;> rfl
theorem flat_one(n:Nat):(List.replicate n [V.int 1]).flatten=iV (List.replicate n 1):=by
 induction n with
 | zero=>rfl
 | succ n ih=>rw [List.replicate_succ,List.flatten_cons,ih,List.replicate_succ];rfl
inductive Jf9(C:Addr)(vs:List V)(H:Hp)(Q:VK)(E:XK):Prop
 | mk(x:Addr)(ls:List Int)(os:List Nat)(ts:List Bool)(_:vs=[.ref x])(_:J2e C H x ls os ts)(_:1<=ls.length)(_:ls.length<=24)(_:∀ p a,Same H a->a p=some (.tup (iV (List.replicate ls.length 1)))->Q (.ref p) a)
theorem Jmv:FS1 ["line"] J9j:=fsc
theorem Jjx{C:Addr}(F:Fn1 J9j)(T:TxtR mg)(c:TxtC K mg C):
  Ca1 1 J9j (Jf9 C):=by
 refine F.ok Jmv (fun f d A o s H vs Q E D h=>?_);obtain ⟨x,ls,os,ts,rfl,L,J,I,k⟩:=h;obtain ⟨r,l,pl,po,pt,ps,u,j,⟨i,B,z,y,w,v⟩,q,P,O,N,M⟩:=L.ex;refine ⟨_,J7 (Jh (Jl Jj8 (J30 (J0 Ja J3)) (Jw J12 (by rfl) T.len boot_len (J0 (J8 (pv 0)) J3)))),?_⟩;refine ⟨by show 1<=sizeLine;decide,fun p a=>⟨_,rfl,x,C,r,l,_,rfl,J9 a _ _ j,c.cl,c.nL,i,pl,_,rfl,.inr (SqT.of (J9 a _ _ q)),p,((iV ls).length:Int),[V.int 1],rfl,rfl,J6,by simp,?_,?_,?_,fun e=>?_,fun G g b=>?_⟩⟩
 ·rw [J2r];lia
 ·rw [J2r];lia
 ·show 1 * ((iV ls).length:Int).toNat<=sizeLine;rw [J2r];have:=J14 (n:=ls.length) (by lia);lia
 ·rw [J2r] at e;have m:ls.length=1:=by lia
  refine k p _ (J9 a) ?_;rw [J6,m];rfl
 ·refine k g _ ((J9 a).trans (J9 b)) ?_;rw [J6,J2r,show ((ls.length:Nat):Int).toNat=ls.length by lia,flat_one]
inductive Jpa(cs:Kd->Addr)(CR:Addr)(vs:List V)(H:Hp)(Q:VK)(E:XK):Prop
 | mk(tp x y z:Addr)(s:Stp)(r:Rst)(T:List Int)(_:vs=[.ref tp,.ref x,.ref y,.ref z])(_:H tp=some (.tup (iV T)))(_:J32 cs H x s)(_:J1h CR H y r)(_:J1h CR H z (s.behind r))(_:s.winner∈r.top)(_:s.winner∈r.bot)(_:s.winner < T.length)(_:T.length<=24)(_:CBig (T.getD s.winner 0) s.times)(_:∀ p a,Same H a->a p=some (.tup (iV (towB s r T)))->Q (.ref p) a)
theorem Ja5:FS1 ["towers","step","rest","behind","losers","grown","told","letter","tower"] Jl1:=fsc
theorem Js8(T:List Int){i:Nat}(h:i < T.length):iV (T.take i) ++ [V.int (T.getD i 0)]=iV (T.take (i + 1)):=by
 show (T.take i).map V.int ++ _=(T.take (i + 1)).map V.int;rw [take_add_one,map_append,getD_eq_getElem?_getD,List.getElem?_eq_getElem h];rfl
theorem Jrk{CR:Addr}{cs:Kd->Addr}(F:Fn1 Jl1)(T:TxtR mg)(ac:mg "enumerate"=none)(TR:J17 K CR)(TS:TxtS K cs)(HL:∀ k,HasM P w K mg base CX0 2 "losers" ["self","rest"] (J28 cs CR k) (cs k)):
  Ca1 3 Jl1 (Jpa cs CR):=by
 refine F.ok Ja5 (fun f d A o s H vs Q E hr h=>?_);obtain ⟨tp,x,y,z,st,r,g,rfl,M,⟨W,S⟩,R,Z,wT,wB,wl,hn,big,k⟩:=h;have aa:Room 2 _:=hr.mono (by decide);refine ⟨_,J1 (Jf (i:=4) Ja5.nd rfl (Or.inl rfl) (J6f (sp:=J28 cs CR) (cls:=cs) (pv 1) HL aa Jg (J0 (pv 2) J3)))
  (J1 (Jf (i:=5) Ja5.nd rfl (Or.inl rfl) (Jl J3c (Jp Jj (pv 0) (J8 (pv 1))) (J8 (pv 1))))
  (J1 (Jf (i:=6) Ja5.nd rfl (Or.inl rfl) (J2q J3))
  (J1 (J3s PassesOwn.never rfl (Jds rfl ac (J0 (pv 0) J3)) (Jfj rfl (J3g (J1y (i:=7) Ja5.nd rfl (Or.inl rfl)) (J3g (J1y (i:=8) Ja5.nd rfl (Or.inl rfl)) Jb6)))
   (J7 (J24 (Jq J7d (pv 7) (J8 (pv 3)) rfl)
    (J7 (J1t (J6z PySem.F.plainAttrs_list PySem.F.slot_list_append PySem.F.type_list_append J31 (pv 6) (J0 Ja J3))))
    (J7 (J24 (Jq Jja (pv 7) (pv 4) rfl)
     (J7 (J1t (J6z PySem.F.plainAttrs_list PySem.F.slot_list_append PySem.F.type_list_append J31 (pv 6) (J0 (Jl J1b (pv 8) (pv 5)) J3))))
     (J7 (J1t (J6z PySem.F.plainAttrs_list PySem.F.slot_list_append PySem.F.type_list_append J31 (pv 6) (J0 (pv 8) J3)))))))))
  (J7 (Jh (J15 J26 (by rfl) T.tuple boot_tuple (J0 (pv 6) J3))))))),?_⟩
 refine ⟨_,rfl,x,kd st,W,stF st,rfl,S,J4h _ (by decide +kernel) (by decide +kernel) (by decide +kernel),_,rfl,x,y,st,r,rfl,rfl,⟨W,S⟩,R,wT,wB,fun O Ha sa ab=>?_⟩;refine ⟨_,rfl,_,rfl,x,cs (kd st),W,stF st,_,rfl,sa _ _ S,TS.cl _,TS.nW _,J2f _,tp,_,_,_,rfl,rfl,SqT.of (sa _ _ M),Jc (J1g wl),_,rfl,x,cs (kd st),W,stF st,_,rfl,sa _ _ S,TS.cl _,TS.nT _,Jgm _,_,_,rfl,rfl,big,?_⟩;refine ⟨Nat.zero_le _,fun tl B=>?_⟩;have m:=Jet st r g;have q:=sa _ _ M;refine ⟨_,rfl,tp,rfl,⟨_,SqT.of (J9 B _ _ q)⟩,Jow (K:=K) (a:=tp) (xs:=iV g)
  (fun i σ G=>∃ v I,σ=[some (.ref tp),some (.ref x),some (.ref y),some (.ref z),some (.ref O),some (.int (g.getD st.winner 0 * st.times)),some (.ref tl),v,I]/\G tl=some (.lst (iV ((towB st r g).take i)))/\Same Ha G)
  ⟨none,none,rfl,J6,J9 B⟩ (fun i σ G _ h9=>by obtain ⟨_,_,_,_,L⟩:=h9;exact SqT.of (L _ _ q)) ?_ ?_⟩
 ·rintro i y' σ G t hy ⟨v,I,rfl,U,L⟩ ht;have C:i < g.length:=by
   have:=(List.getElem?_eq_some_iff.mp hy).1;rw [length_map] at this;exact this
  rw [J1g C] at hy;cases hy;have J:=J9 (o:=.tup [.int (i:Int),.int (g.getD i 0)]) ht;have s3:=L.trans J;have j:=J _ _ U;obtain ⟨dz,fz,zt,zb,zl,zu,w0,⟨w1,w2,w3,w4,w5⟩,v1,v2,v3,v4⟩:=((Z.same sa).same s3).ex;have N:=s3 _ _ ab;have D:=Jeu st r g C;have sn:=Js8 (towB st r g) (i:=i) (by rw [m];exact C);have l:(iV ((towB st r g).take i)).length < sizeLine:=by
   rw [J2r,length_take];have:=J14 (n:=24) (by lia);lia
  have fin:∀ u,u=(towB st r g).getD i 0->∀ Y,Y=upd G t (.tup [.int (i:Int),.int (g.getD i 0)])->(∃ v I,[some (V.ref tp),some (.ref x),some (.ref y),some (.ref z),some (.ref O),some (.int (g.getD st.winner 0 * st.times)),some (.ref tl),some (.int (i:Int)),some (.int (g.getD i 0))]=[some (.ref tp),some (.ref x),some (.ref y),some (.ref z),some (.ref O),some (.int (g.getD st.winner 0 * st.times)),some (.ref tl),v,I]/\
    (upd Y tl (.lst (iV ((towB st r g).take i) ++ [.int u]))) tl=some (.lst (iV ((towB st r g).take (i + 1))))/\Same Ha (upd Y tl (.lst (iV ((towB st r g).take i) ++ [.int u])))):=by
   rintro u rfl Y rfl;refine ⟨_,_,rfl,by rw [J6,sn],fun b o e=>?_⟩;rw [Jm (Jd e B)];exact s3 _ _ e
  refine ⟨t,_,rfl,SqT.of J6,rfl,_,_,rfl,_,_,rfl,rfl,?_⟩;refine ⟨_,rfl,_,rfl,z,CR,dz,fz,_,rfl,w0,TR.cl,TR.nT,w1,zt,_,rfl,.inr (SqT.of v1),rfl,Jef _,_,rfl,?_⟩;by_cases c:i∈(st.behind r).top
  ·refine J91 (show ¬ (!inV (V.int (i:Nat)) (nV (st.behind r).top))=true by rw [Jad];simpa using c) ?_;rw [if_pos c] at D;refine ⟨_,rfl,_,rfl,O,_,rfl,.inr (SqT.of N),rfl,Jef _,_,rfl,?_⟩;by_cases X:i∈st.losers r
   ·refine J90 (show inV (V.int (i:Nat)) (nV (st.losers r))=true by rw [Jad];exact decide_eq_true X) ?_;rw [if_pos X] at D;exact ⟨_,rfl,.inl ⟨rfl,_,SqL.of j⟩,_,rfl,_,rfl,_,_,rfl,rfl,tl,_,_,rfl,rfl,j,l,fin _ D.symm _ rfl⟩
   ·refine J91 (show ¬ inV (V.int (i:Nat)) (nV (st.losers r))=true by rw [Jad];simpa using X) ?_;rw [if_neg X] at D;exact ⟨_,rfl,.inl ⟨rfl,_,SqL.of j⟩,_,rfl,tl,_,_,rfl,rfl,j,l,fin _ D.symm _ rfl⟩
  ·refine J90 (show (!inV (V.int (i:Nat)) (nV (st.behind r).top))=true by rw [Jad];simpa using c) ?_;rw [if_neg c] at D;exact ⟨_,rfl,.inl ⟨rfl,_,SqL.of j⟩,tl,_,_,rfl,rfl,j,l,fin _ D.symm _ rfl⟩
 ·rintro σ G ⟨v,I,rfl,U,L⟩;rw [J2r,<- m,take_length] at U;exact ⟨_,rfl,J29 (.inl U) fun p H' s' hp=>k p H' ((sa.trans L).trans s') hp⟩
noncomputable def J7q(b:Band):List V:=[.int b.1,.int b.2.1,.int b.2.2.1,.bl b.2.2.2]
noncomputable abbrev bz:Band:=(0,0,0,false)
noncomputable def bndS(s:Stp)(r:Rst)(T:List Int):List Band:=if s.isHome=true then [((s.behind r).size,r.ls.getD s.winner 0,T.getD s.winner 0,r.ts.getD s.winner false)] else []
inductive Jfc(cs:Kd->Addr)(CR:Addr)(vs:List V)(H:Hp)(Q:VK)(E:XK):Prop
 | mk(tp x y z:Addr)(s:Stp)(r:Rst)(T:List Int)(_:vs=[.ref x,.ref y,.ref z,.ref tp])(_:H tp=some (.tup (iV T)))(_:J32 cs H x s)(_:J1h CR H y r)(_:J1h CR H z (s.behind r))(_:s.winner < r.ls.length)(_:s.winner < r.ts.length)(_:s.winner < T.length)(_:∀ p b a,Same H a->a p=some (.lst b)->Refs (fun q j=>a q=some (.tup (J7q ((bndS s r T).getD j bz)))) b (bndS s r T).length->Q (.ref p) a)
theorem Jfe:FS1 ["step","rest","behind","towers","winner"] J9l:=fsc
theorem Jk2{CR:Addr}{cs:Kd->Addr}(F:Fn1 J9l)(a:J17 K CR)(TS:TxtS K cs)(X:∀ k,HasM P w K mg base CX0 1 "word" ["self"] (J3n k) (cs k)):
  Ca1 2 J9l (Jfc cs CR):=by
 refine F.ok Jfe (fun f d A o s H vs Q E S h=>?_);obtain ⟨tp,x,y,z,st,r,Tl,rfl,e,⟨u,l⟩,R,Z,D,C,G,k⟩:=h;have g:Room 1 _:=S.mono (by decide);obtain ⟨n,m,yt,yb,B,v,j,⟨q1,q2,M,L,q5⟩,p1,p2,O,N⟩:=R.ex;obtain ⟨W,U,zt,zb,zl,Y,J,⟨w1,w2,w3,w4,I⟩,v1,v2,v3,v4⟩:=Z.ex;refine ⟨_,J1 (J24 (Jq J9t (J3t (sp:=J3n) (cls:=cs) (pv 0) X g Jg) J6e (Jv _)) (J7 (Jh (J2q J3))) J13)
  (J1 (Jf (i:=4) Jfe.nd rfl (Or.inl rfl) (J8 (pv 0)))
  (J7 (Jh (J2q (J0 (J30 (J0 (J8 (pv 2)) (J0 (Jp Jj (J8 (pv 1)) (pv 4)) (J0 (Jp Jj (pv 3) (pv 4)) (J0 (Jp Jj (J8 (pv 1)) (pv 4)) J3))))) J3))))),?_⟩
 refine ⟨_,rfl,x,kd st,u,stF st,rfl,l,J4h _ (by decide +kernel) (by decide +kernel) (by decide +kernel),x,rfl,rfl,_,rfl,?_⟩;have hw:=Jch st;by_cases c:st.isHome=true
 ·refine J91 (show ¬ (!decide (V.str (Jan (kd st))=V.str (Str.ofString "home")))=true by rw [hw,c];decide) ?_;refine ⟨_,rfl,x,cs (kd st),u,stF st,_,rfl,l,TS.cl _,TS.nW _,J2f _,?_⟩;refine ⟨_,rfl,z,CR,W,U,_,rfl,J,a.cl,a.nZ,I,_,rfl,y,CR,n,m,_,rfl,j,a.cl,a.nL,M,_,rfl,B,_,_,_,rfl,rfl,SqT.of O,Jc (J1g D),_,rfl,_,rfl,tp,_,_,_,rfl,rfl,SqT.of e,Jc (J1g G),
   _,rfl,y,CR,n,m,_,rfl,j,a.cl,a.nU,L,_,rfl,v,_,_,_,rfl,rfl,SqT.of N,Jc (J7l C),(by show 4<=sizeLine;decide),fun q T=>⟨(by show 1<=sizeLine;decide),fun p b=>?_⟩⟩
  exact k p _ _ ((J9 T).trans (J9 b)) J6 (by unfold bndS;rw [if_pos c];exact Refs.nil.snoc (J9 b _ _ J6))
 ·refine J90 (show (!decide (V.str (Jan (kd st))=V.str (Str.ofString "home")))=true by rw [hw];simpa using c) ?_;exact ⟨Nat.zero_le _,fun p b=>k p _ _ (J9 b) J6 (by unfold bndS;rw [if_neg c];exact Refs.nil)⟩
end
section
theorem Joh{r:Rst}(ok:r.Ok)(ne:r.top≠[])(e:r.size<=10 ^ 30):Fit (nextN r) r:=by
 have np:=J5m ok ne;refine ⟨ok,ok.next ne,np.win ok ne,fun b hb=>?_,Nat.lt_of_le_of_lt (np.times ok ne e) (by decide),e⟩;have mT:=ok.mT ne;have mB:=ok.mB ne;generalize nextN r=st at *;have inj:∀ {i j:Nat},V.int (i:Nat)=V.int (j:Nat)->i=j:=fun q=>by have:=V.int.inj q;lia
 cases st with
 | even a b'=>obtain rfl:=inj hb;obtain ⟨_,d,c,_⟩:=np;exact ⟨by rw [d];exact mB,c⟩
 | over a b'=>obtain rfl:=inj hb;obtain ⟨_,d,c,_⟩:=np;exact ⟨by rw [d];exact mB,c⟩
 | under a b'=>obtain rfl:=inj hb;obtain ⟨_,d,c,_⟩:=np;exact ⟨by rw [d];exact mT,c⟩
 | home a=>cases hb
 | overs a t=>cases hb
 | unders a t=>cases hb
end
section
variable [En]
structure J7a(K:Frag)(CH:Addr):Prop where
 cl:Cls K CH
 nL:J19 K CH "line"
 nR:J19 K CH "rests"
 nS:J19 K CH "steps"
 nT:J19 K CH "towers"
 nB:J19 K CH "bands"
structure J58(CH CR:Addr)(cs:Kd->Addr)(H:Hp)(x xl:Addr)(p0:Cst)(m:Nat):Prop where
 ex:∃ (dx:Addr) (fs:List (Str × V)) (pr ps pt pb:Addr) (xr xs xt xb:List V),H x=some (.ins CH dx fs)/\(fs.lookup ("line":Str)=some (.ref xl)/\fs.lookup ("rests":Str)=some (.ref pr)/\fs.lookup ("steps":Str)=some (.ref ps)/\fs.lookup ("towers":Str)=some (.ref pt)/\fs.lookup ("bands":Str)=some (.ref pb))/\
  (H pr=some (.tup xr)/\H ps=some (.tup xs)/\H pt=some (.tup xt)/\H pb=some (.tup xb))/\Refs (fun q i=>J1h CR H q (chN p0 i).1) xr (m + 1)/\Refs (fun q i=>J32 cs H q (nextN (chN p0 i).1)) xs m/\Refs (fun q i=>H q=some (.tup (iV (chN p0 i).2))) xt (m + 1)/\
  Refs (fun q i=>H q=some (.tup (J7q ((bndN p0 m).getD i bz)))) xb (bndN p0 m).length
theorem J58.kp{f CR:Addr}{cs:Kd->Addr}{H e:Hp}{x b:Addr}{c:Cst}{m:Nat}(h:J58 f CR cs H x b c m)(s:Kp H e):J58 f CR cs e x b c m:=by
 obtain ⟨B,fs,r,ps,pt,u,xr,xs,g,j,A,d,⟨z,y,w,v⟩,p,o,n,l⟩:=h.ex;exact ⟨B,fs,r,ps,pt,u,xr,xs,g,j,s _ _ A (by simp [okO,d.2.1]),d,⟨s _ _ z rfl,s _ _ y rfl,s _ _ w rfl,s _ _ v rfl⟩,p.mono fun q i _ a=>a.kp s,o.mono fun q i _ a=>a.kp s,n.mono fun q i _ a=>s _ _ a rfl,l.mono fun q i _ a=>s _ _ a rfl⟩
theorem J58.same{d CR:Addr}{cs:Kd->Addr}{H c:Hp}{x a:Addr}{b:Cst}{m:Nat}(h:J58 d CR cs H x a b m)(s:Same H c):J58 d CR cs c x a b m:=h.kp (Kp.of s)
noncomputable abbrev J1f(ls:List Int)(os:List Nat)(ts:List Bool):Cst:=(J2c ls os ts,List.replicate ls.length 1)
inductive Jif(C CR c:Addr)(cs:Kd->Addr)(vs:List V)(H:Hp)(Q:VK)(E:XK):Prop
 | mk(x d a:Addr)(ls:List Int)(os:List Nat)(ts:List Bool)(_:vs=[.ref x,.ref a])(_:H x=some (.ins c d []))(_:J2e C H a ls os ts)(_:(J2c ls os ts).Ok)(_:(J2c ls os ts).size<=10 ^ 30)(_:1<=ls.length)(_:∀ m b,Long (J1f ls os ts) m->(chN (J1f ls os ts) m).1.top=[]->J58 c CR cs b x a (J1f ls os ts) m->J1n x H b->Q .non b)
theorem J43:Jr ["self","line","rest","rests","steps","towers","bands","step","behind"] ["self","line"] (Je (Jb (top 67) 0)):=fsc
theorem Jkb:(6367451:Nat) + 5<=sizeLine:=by rw [sizeLine_eq];decide
theorem Jsl{p:Cst}(h:Cok p)(ne:p.1.top≠[]):CBig (p.2.getD (nextN p.1).winner 0) (nextN p.1).times:=by
 have w:=(J5m h.ok ne).win h.ok ne;have c:=h.tow.le h.ok w;have b:=h.tow.pos _ w;have a:=(J5m h.ok ne).times h.ok ne h.size30;have e:(10:Nat) ^ 30 < 2 ^ 4000:=by decide
 exact ⟨Nat.lt_of_le_of_lt (show (p.2.getD (nextN p.1).winner 0).natAbs<=10 ^ 30 by lia) e,Nat.lt_of_le_of_lt a e⟩
theorem Jn5{H:Hp}{xs f:List V}{d bs:List Band}(a:Refs (fun q j=>H q=some (.tup (J7q (d.getD j bz)))) xs d.length)(b:Refs (fun q j=>H q=some (.tup (J7q (bs.getD j bz)))) f bs.length):Refs (fun q j=>H q=some (.tup (J7q ((d ++ bs).getD j bz)))) (xs ++ f) (d ++ bs).length:=by
 have la:=a.len;refine ⟨by rw [length_append,length_append,la,b.len],fun i hi=>?_⟩;rw [getD_eq_getElem?_getD];by_cases c:i < d.length
 ·obtain ⟨q,e,h⟩:=a.at_ i c;rw [getD_eq_getElem?_getD] at h;exact ⟨q,by rw [getElem?_append_left (by lia)];exact e,by rw [getElem?_append_left c];exact h⟩
 ·rw [length_append] at hi;obtain ⟨q,e,h⟩:=b.at_ (i - d.length) (by lia);rw [getD_eq_getElem?_getD] at h;exact ⟨q,by rw [getElem?_append_right (by lia),la];exact e,by rw [getElem?_append_right (by lia)];exact h⟩
structure Wr(l:Addr)(xs:List V)(H H':Hp):Prop where
 own:H' l=some (.lst xs)
 oth:∀ b u,H b=some u->b≠l->H' b=some u
theorem Wr.of{H:Hp}{l:Addr}{xs:List V}:Wr l xs H (upd H l (.lst xs)):=⟨J6,fun b u e n=>by rw [Jm n];exact e⟩
theorem Wr.kp{H a:Hp}{l:Addr}{xs b:List V}(w:Wr l xs H a)(h:H l=some (.lst b)):Kp H a:=Kp.x w.oth h rfl
inductive CIn(CR:Addr)(cs:Kd->Addr)(b:Cst)(x h e f lt g:Addr)(o:Hp)(m:Nat)(σ:St)(a:Hp):Prop
 | mk(i:Nat)(y:Addr)(xr xs c d:List V)(n l:Option V)(_:σ=[some (.ref x),some (.ref h),some (.ref y),some (.ref e),some (.ref f),some (.ref lt),some (.ref g),n,l])(_:Long b i)(_:J1h CR a y (chN b i).1)(_:Same o a)(_:a e=some (.lst xr))(_:a f=some (.lst xs))(_:a lt=some (.lst c))(_:a g=some (.lst d))(_:Refs (fun q i=>J1h CR a q (chN b i).1) xr (i + 1))(_:Refs (fun q i=>J32 cs a q (nextN (chN b i).1)) xs i)(_:Refs (fun q i=>a q=some (.tup (iV (chN b i).2))) c (i + 1))(_:Refs (fun q j=>a q=some (.tup (J7q ((bndN b i).getD j bz)))) d (bndN b i).length)(_:m=(chN b i).1.size.toNat)
theorem Job{f C CR U:Addr}{fd:FuncData}{cs:Kd->Addr}(F:Fun K "__init__" "Chart.__init__" (Jb (top 67) 0) f fd)(T:TxtR mg)(TR:J17 K CR)(TS:TxtS K cs)(M:J7a K U)(a6:Ca1 4 J9d (Jf2 C CR))(a7:Ca1 1 J9j (Jf9 C))(cN:Ca1 5 Jl9 (Jph cs CR))(HB:∀ k,HasM P w K mg base CX0 4 "behind" ["self","rest"] (J36 cs CR k) (cs k))(a8:Ca1 2 J9l (Jfc cs CR))(a5:Ca1 3 Jl1 (Jpa cs CR)):
  FnOk P w K mg base CX0 6 f fd ["self","line"] (Jif C CR U cs):=by
 refine F.ok1 J43 (fun d A o s H vs Q E hr h=>?_);obtain ⟨x,dx,xl,ls,os,ts,rfl,hx,L,ok0,au,h1,k⟩:=h;have av:Room 4 _:=hr.mono (by decide);refine ⟨_,J1 (Jf (i:=2) J43.nd rfl (Or.inl rfl) (pcl a6 hr Jg (J0 (pv 1) J3)))
  (J1 (Jf (i:=3) J43.nd rfl (Or.inl rfl) (J2q (J0 (pv 2) J3)))
  (J1 (Jf (i:=4) J43.nd rfl (Or.inl rfl) (J2q J3))
  (J1 (Jf (i:=5) J43.nd rfl (Or.inl rfl) (J2q (J0 (pcl a7 hr Jg (J0 (pv 1) J3)) J3)))
  (J1 (Jf (i:=6) J43.nd rfl (Or.inl rfl) (J2q J3))
  (J1 (Jb3 PassesOwn.never (Jq J8n (J8 (pv 2)) Ja (Jv _))
   (J1 (Jf (i:=7) J43.nd rfl (Or.inl rfl) (pcl cN hr Jg (J0 (pv 2) J3)))
   (J1 (Jf (i:=8) J43.nd rfl (Or.inl rfl) (J6f (sp:=J36 cs CR) (cls:=cs) (pv 7) HB av Jg (J0 (pv 2) J3)))
   (J1 (J1t (J6z PySem.F.plainAttrs_list PySem.F.slot_list_extend PySem.F.type_list_extend Jca (pv 6) (J0 (pcl a8 hr Jg (J0 (pv 7) (J0 (pv 2) (J0 (pv 8) (J0 (Jp J4z (pv 5) (J9s J5p Ja)) J3))))) J3)))
   (J1 (J1t (J6z PySem.F.plainAttrs_list PySem.F.slot_list_append PySem.F.type_list_append J31 (pv 5) (J0 (pcl a5 hr Jg (J0 (Jp J4z (pv 5) (J9s J5p Ja)) (J0 (pv 7) (J0 (pv 2) (J0 (pv 8) J3))))) J3)))
   (J1 (J1t (J6z PySem.F.plainAttrs_list PySem.F.slot_list_append PySem.F.type_list_append J31 (pv 4) (J0 (pv 7) J3)))
   (J1 (J1t (J6z PySem.F.plainAttrs_list PySem.F.slot_list_append PySem.F.type_list_append J31 (pv 3) (J0 (pv 8) J3)))
   (J7 (Jf (i:=2) J43.nd rfl (Or.inl rfl) (pv 8))))))))))
  (J1 (J1s (pv 0) (pv 1) rfl)
  (J1 (J1s (pv 0) (J15 J26 (by rfl) T.tuple boot_tuple (J0 (pv 3) J3)) rfl)
  (J1 (J1s (pv 0) (J15 J26 (by rfl) T.tuple boot_tuple (J0 (pv 4) J3)) rfl)
  (J1 (J1s (pv 0) (J15 J26 (by rfl) T.tuple boot_tuple (J0 (pv 5) J3)) rfl)
  (J7 (J1s (pv 0) (J15 J26 (by rfl) T.tuple boot_tuple (J0 (pv 6) J3)) rfl))))))))))),?_⟩
 have few:=ok0.few;have J:Cok (J1f ls os ts):=Jbp ok0 au;refine ⟨_,rfl,xl,ls,os,ts,rfl,L,few,fun y0 Hr sr R0=>?_⟩;refine ⟨_,rfl,(by show 1<=sizeLine;decide),fun lr ao=>⟨Nat.zero_le _,fun lq af=>?_⟩⟩;have sa:=J9 (o:=.lst [V.ref y0]) ao;have sq:=J9 (o:=.lst []) af;have sb:=sa.trans sq;refine ⟨_,rfl,xl,ls,os,ts,rfl,(L.same sr).same sb,h1,few,fun t0 Ht st an=>⟨(by show 1<=sizeLine;decide),fun lt S=>⟨Nat.zero_le _,fun lb I=>?_⟩⟩⟩;have sc:=sb.trans st;have sd:=J9 (o:=.lst [V.ref t0]) S;have se:=J9 (o:=.lst []) I;have sf:=(sc.trans sd).trans se;have aq:Hr lq=none:=sa.free af;have ap:Hr lt=none:=sc.free S;have ar:Hr lb=none:=(sc.trans sd).free I;have Y:lr≠lq:=Jd J6 af;have r:=st _ _ (sq _ _ (J6 (H:=Hr) (a:=lr) (o:=.lst [V.ref y0])));have v:=st _ _ (J6 (a:=lq) (o:=.lst []));have X:=Jd r S;have ab:=Jd v S;have aa:=Jd (sd _ _ r) I;have ac:=Jd (sd _ _ v) I;have W:lt≠lb:=Jd J6 I;generalize hp0:J1f ls os ts=p0 at *;refine ⟨CIn CR cs p0 x xl lr lq lt lb Hr,⟨_,0,y0,_,_,_,_,none,none,rfl,fun i hi=>absurd hi (Nat.not_lt_zero _),hp0 ▸ R0.same sf,sf,se _ _ (sd _ _ r),se _ _ (sd _ _ v),se _ _ J6,J6,Refs.nil.snoc (hp0 ▸ R0.same sf),Refs.nil,Refs.nil.snoc (hp0 ▸ se _ _ (sd _ _ an)),Refs.nil,rfl⟩,?_⟩;clear R0 r v an;rintro m σ Hw ⟨i,y,xr,xs,xt,xb,v7,v8,rfl,lg,R,sw,ad,ae,O,B,rr,rs,rt,rb,rfl⟩;obtain ⟨dy,fy,yt,yb,yl,yu,q0,⟨q1,q2,q3,q4,q5⟩,p1,p2,p3,p4⟩:=R.ex;have cok:=J.at_ lg;have a3:=J.few lg;refine ⟨_,rfl,y,CR,dy,fy,_,rfl,q0,TR.cl,TR.nZ,q5,_,_,rfl,rfl,_,rfl,?_⟩;by_cases c:(chN p0 i).1.top=[]
 ·have sz:(chN p0 i).1.size=0:=by unfold Rst.size;rw [c];rfl
  refine iteD (by rw [sz];decide) ?_;have N:Hw x=some (.ins U dx []):=sw _ _ (sr _ _ hx);have nx:∀ {b:Addr} {u:HO},Hw b=some u->u≠.ins U dx []->b≠x:=fun e n z=>n (by rw [z,N] at e;exact (Option.some.inj e).symm);have nr:=nx ad nofun;have nq:=nx ae nofun;have nt:=nx O nofun;have nb:=nx B nofun;refine ⟨_,rfl,_,rfl,x,U,dx,[],rfl,N,M.cl,M.nL,by decide,?_⟩;obtain ⟨H1,e1,S1,_⟩:=(Sx.nil N).set (Same.refl _) "line" (.ref xl);rw [e1];refine ⟨_,rfl,J29 (.inl (S1.kp _ _ ad nr)) fun pr H3 s3 ay=>⟨_,rfl,x,U,dx,_,rfl,s3 _ _ S1.at_,M.cl,M.nR,S1.few,?_⟩⟩;obtain ⟨H2,e2,S2,_,t1⟩:=S1.put s3 ay "rests";rw [e2];refine ⟨_,rfl,J29 (.inl (S2.kp _ _ ae nq)) fun ps H3 s3 ax=>⟨_,rfl,x,U,dx,_,rfl,s3 _ _ S2.at_,M.cl,M.nS,S2.few,?_⟩⟩;obtain ⟨H3,e3,S3,k3,t2⟩:=S2.put s3 ax "steps";rw [e3];refine ⟨_,rfl,J29 (.inl (S3.kp _ _ O nt)) fun pt H4 s4 aw=>⟨_,rfl,x,U,dx,_,rfl,s4 _ _ S3.at_,M.cl,M.nT,S3.few,?_⟩⟩;obtain ⟨H4,e4,S4,k4,t3⟩:=S3.put s4 aw "towers";rw [e4];refine ⟨_,rfl,J29 (.inl (S4.kp _ _ B nb)) fun pb H5 s5 az=>⟨_,rfl,x,U,dx,_,rfl,s5 _ _ S4.at_,M.cl,M.nB,S4.few,?_⟩⟩;obtain ⟨Hz,e5,S5,k5,t4⟩:=S4.put s5 az "bands";rw [e5];have kz:Kp Hw Hz:=Kp.x S5.kp N rfl;refine k i Hz lg c ⟨dx,_,pr,ps,pt,pb,xr,xs,xt,xb,S5.at_,⟨by kernel_rfl,by kernel_rfl,by kernel_rfl,by kernel_rfl,by kernel_rfl⟩,⟨(((t1.kp k3).kp k4).kp k5).at_,((t2.kp k4).kp k5).at_,(t3.kp k5).at_,t4.at_⟩,rr.mono fun q j _ a=>a.kp kz,rs.mono fun q j _ a=>a.kp kz,rt.mono fun q j _ a=>kz _ _ a rfl,rb.mono fun q j _ a=>kz _ _ a rfl⟩ ((J1n.of (sr.trans sw)).trans S5.kp)
 ·have as:0 < (chN p0 i).1.size:=by
   have:=J6n cok.ok.row.pos c;show 0 < J2 _ _;lia
  refine J48 as ?_;have down:=cok.ok.down c;have win:=(J5m cok.ok c).win cok.ok c;have hz:=cok.size30;have a2:=Joh cok.ok c hz;have D:=cok.tow.len;have wl:=cok.ok.row.lt _ win;have big:=Jsl cok c;have ak:Long p0 (i + 1):=fun j hj=>by
   by_cases e:j=i
   ·subst e;exact c
   ·exact lg j (by lia)
  have a9:=J.few ak;obtain ⟨tq,a4,am⟩:=rt.at_ i (by lia);have last:=atI_last rt.len a4;have aB:=Jkb;have bl:=J8b p0 i;have aC:=J8b p0 (i + 1);refine ⟨_,fun σ' H' h=>h,?_⟩;refine ⟨_,rfl,y,(chN p0 i).1,rfl,R,cok.ok,c,hz,fun xp Hn sn G=>?_⟩;obtain ⟨ag,G⟩:=G;refine ⟨_,rfl,xp,kd (nextN (chN p0 i).1),ag,stF (nextN (chN p0 i).1),rfl,G,J4h _ (by decide +kernel) (by decide +kernel) (by decide +kernel),_,rfl,xp,y,nextN (chN p0 i).1,(chN p0 i).1,rfl,rfl,⟨ag,G⟩,R.same sn,a2,fun z Hb aj Z=>?_⟩;have Z:J1h CR Hb z (chN p0 (i + 1)).1:=Z;have g:=sn.trans aj;have X1:J32 cs Hb xp (nextN (chN p0 i).1):=⟨ag,aj _ _ G⟩;have a1:=g _ _ B;refine ⟨_,rfl,.inl ⟨rfl,_,SqL.of a1⟩,_,rfl,_,rfl,_,rfl,_,rfl,_,rfl,lt,_,_,_,rfl,rfl,SqL.of (g _ _ O),last,tq,xp,y,z,nextN (chN p0 i).1,(chN p0 i).1,(chN p0 i).2,rfl,g _ _ am,X1,R.same g,Z,wl,(by rw [cok.ok.len];exact wl),(by rw [D];exact wl),fun bp ys Hc ai a0 ry=>?_⟩;have s1:=g.trans ai;have ly:=rb.len;have aA:(bndN p0 (i + 1)).length=(bndN p0 i).length + ys.length:=by rw [ry.len];exact length_append
  refine ⟨lb,bp,xb,ys,rfl,rfl,s1 _ _ B,a0,by lia,?_⟩;have w1:=Wr.of (H:=Hc) (l:=lb) (xs:=xb ++ ys);generalize upd Hc lb (.lst (xb ++ ys))=Hd at *;have f1:Kp Hb Hd:=(Kp.of ai).trans (w1.kp (s1 _ _ B));have g1:=(Kp.of g).trans f1;have dt:=w1.oth _ _ (s1 _ _ O) W;refine ⟨_,rfl,.inl ⟨rfl,_,SqL.of dt⟩,_,rfl,_,rfl,lt,_,_,_,rfl,rfl,SqL.of dt,last,_,rfl,_,rfl,_,rfl,tq,xp,y,z,nextN (chN p0 i).1,(chN p0 i).1,(chN p0 i).2,rfl,g1 _ _ am rfl,X1.kp f1,R.kp g1,Z.kp f1,win,cok.ok.perm.mem_iff.mpr win,(by rw [D];exact wl),(by rw [D];exact cok.ok.few),big,fun ah He p al=>?_⟩;have et:=p _ _ dt;refine ⟨lt,_,_,rfl,rfl,et,(by rw [rt.len];lia),?_⟩;have w2:=Wr.of (H:=He) (l:=lt) (xs:=xt ++ [.ref ah]);generalize upd He lt (.lst (xt ++ [.ref ah]))=Hf at *;have eq:=w2.oth _ _ (p _ _ (w1.oth _ _ (s1 _ _ ae) ac)) ab;refine ⟨_,rfl,.inl ⟨rfl,_,SqL.of eq⟩,_,rfl,lq,xs,_,rfl,rfl,eq,(by rw [rs.len];lia),?_⟩;have w3:=Wr.of (H:=Hf) (l:=lq) (xs:=xs ++ [.ref xp]);generalize upd Hf lq (.lst (xs ++ [.ref xp]))=Hg at *;have er:=w3.oth _ _ (w2.oth _ _ (p _ _ (w1.oth _ _ (s1 _ _ ad) aa)) X) Y;refine ⟨_,rfl,.inl ⟨rfl,_,SqL.of er⟩,_,rfl,lr,xr,_,rfl,rfl,er,(by rw [rr.len];lia),?_⟩;have w4:=Wr.of (H:=Hg) (l:=lr) (xs:=xr ++ [.ref z]);generalize upd Hg lr (.lst (xr ++ [.ref z]))=Hh at *;have f4:Kp He Hh:=((w2.kp et).trans (w3.kp eq)).trans (w4.kp er);have fb:=(f1.trans (Kp.of p)).trans f4;have fw:=(Kp.of g).trans fb;have Ze:=Z.kp fb;refine ⟨_,rfl,(chN p0 (i + 1)).1.size.toNat,?_,i + 1,z,_,_,_,_,_,_,rfl,ak,Ze,fun b o e=>w4.oth _ _ (w3.oth _ _ (w2.oth _ _ (p _ _ (w1.oth _ _ (s1 _ _ (sw _ _ e)) (Jd e ar))) (Jd e ap)) (Jd e aq)) (Jd e ao),w4.own,w4.oth _ _ w3.own (Ne.symm Y),w4.oth _ _ (w3.oth _ _ w2.own (Ne.symm ab)) (Ne.symm X),w4.oth _ _ (w3.oth _ _ (w2.oth _ _ (p _ _ w1.own) (Ne.symm W)) (Ne.symm ac)) (Ne.symm aa),(rr.mono fun q j _ a=>a.kp fw).snoc Ze,(rs.mono fun q j _ a=>a.kp fw).snoc (X1.kp fb),(rt.mono fun q j _ a=>fw _ _ a rfl).snoc (f4 _ _ al rfl),Jn5 (rb.mono fun q j _ a=>fw _ _ a rfl) (ry.mono fun q j _ a=>((w1.kp (s1 _ _ B)).trans ((Kp.of p).trans f4)) _ _ a rfl),rfl⟩;have:=down.less;have e:(chN p0 (i + 1)).1.size=((nextN (chN p0 i).1).behind (chN p0 i).1).size:=rfl;rw [e];lia
end
section
variable [En]
structure ChP(ls:List Int)(os:List Nat)(ts:List Bool)(m:Nat):Prop where
 good:Good ls os
 hts:ts.length=ls.length
 lg:Long (J1f ls os ts) m
 tp:(chN (J1f ls os ts) m).1.top=[]
noncomputable abbrev bsC(ls:List Int)(os:List Nat)(ts:List Bool)(m:Nat):List Band:=bndN (J1f ls os ts) m
noncomputable abbrev gC(ls:List Int)(os:List Nat)(ts:List Bool):Int->Int:=go (J2c ls os ts)
noncomputable abbrev rC(ls:List Int)(os:List Nat)(ts:List Bool)(k:Nat):Rst:=(chN (J1f ls os ts) k).1
noncomputable abbrev tC'(ls:List Int)(os:List Nat)(ts:List Bool)(k:Nat):List Int:=(chN (J1f ls os ts) k).2
noncomputable abbrev sC(ls:List Int)(os:List Nat)(ts:List Bool)(k:Nat):Stp:=nextN (chN (J1f ls os ts) k).1
section
variable{ls:List Int}{os:List Nat}{ts:List Bool}{m:Nat}
theorem ChP.ok0(h:ChP ls os ts m):(J2c ls os ts).Ok:=J63 h.good.perm h.good.pos h.hts h.good.hi
theorem ChP.z0(h:ChP ls os ts m):(J2c ls os ts).size<=10 ^ 30:=by rw [h.ok0.size_sum];exact h.good.sum
theorem ChP.cok(h:ChP ls os ts m):Cok (J1f ls os ts):=Jbp h.ok0 h.z0
theorem ChP.one(h:ChP ls os ts m):∀ j∈(J1f ls os ts).1.top,(J1f ls os ts).2.getD j 0=1:=fun j a=>by
 simp_all
theorem ChP.sys(h:ChP ls os ts m):Sys (gC ls os ts) (J2c ls os ts).size (bsC ls os ts m):=h.cok.sys h.one (Jl4 (fun j a=>mem_range.mp a)) h.lg h.tp
theorem ChP.stp(h:ChP ls os ts m)(a:k < m):J55 (gC ls os ts) (rC ls os ts k) (tC' ls os ts k) (sC ls os ts k):=h.cok.stepF h.one h.lg a
theorem ChP.few(h:ChP ls os ts m):m<=6367451:=h.cok.few h.lg
theorem ChP.lt(h:ChP ls os ts m)(a:k<=m)(d:0<=y)(b:y < (rC ls os ts k).size):k < m:=by
 apply Classical.byContradiction;intro c;obtain rfl:k=m:=by lia
 have e:(rC ls os ts k).size=0:=by
  show J2 _ (chN (J1f ls os ts) k).1.top=0;rw [h.tp];rfl
 lia
theorem ChP.sizes(h:ChP ls os ts m)(a:i<=k)(b:k<=m):(rC ls os ts k).size<=(rC ls os ts i).size:=h.cok.sizes h.lg a b
end
noncomputable def ChF(C c CR:Addr)(cs:Kd->Addr)(H:Hp)(b:Addr)(ls:List Int)(os:List Nat)(ts:List Bool)(m:Nat):Prop:=∃ a,J58 c CR cs H b a (J1f ls os ts) m/\J2e C H a ls os ts
theorem ChF.same{CR:Addr}{os:List Nat}(h:ChF C CH CR cs H xc ls os ts m)(s:Same H H'):ChF C CH CR cs H' xc ls os ts m:=
 by obtain ⟨b,a,l⟩:=h;exact ⟨b,a.same s,l.same s⟩
theorem J9x(f:0<=a)(d:a<=10 ^ 30)(hb:0<=b)(c:b<=10 ^ 30):CBig a b:=by
 have e:(10:Nat) ^ 30 < 2 ^ 4000:=by decide
 exact ⟨Nat.lt_of_le_of_lt (show a.natAbs<=10 ^ 30 by lia) e,Nat.lt_of_le_of_lt (show b.natAbs<=10 ^ 30 by lia) e⟩
theorem Jeg(hb:0 < b)(a:b<=10 ^ 30):Jsq i b:=by
 have e:(10:Nat) ^ 30 < 2 ^ 4000:=by decide
 exact ⟨hb,Nat.lt_of_le_of_lt (show b.natAbs<=10 ^ 30 by lia) e⟩
theorem at1{xs:List V}{k:Nat}(h:xs[k + 1]?=some v):atI xs ((k:Int) + 1)=some v:=by
 exact Jc h
inductive Jdk(C b CR:Addr)(cs:Kd->Addr)(vs:List V)(H:Hp)(Q:VK)(E:XK):Prop
 | mk(a:Addr)(ls:List Int)(os:List Nat)(ts:List Bool)(m k:Nat)(_:vs=[.ref a,.int (k:Nat)])(_:ChF C b CR cs H a ls os ts m)(_:ChP ls os ts m)(_:k < m)(_:Q (.int (((rC ls os ts k).size - (rC ls os ts (k + 1)).size) / (sC ls os ts k).times)) H)
theorem Jqt:FS1 ["chart","at"] Jag:=fsc
theorem Jnp{CR:Addr}(F:Fn1 Jag)(b:J17 K CR)(TS:TxtS K cs)(a:J7a K CH):
  Ca1 1 Jag (Jdk C CH CR cs):=by
 refine F.ok Jqt (fun f d A o s H vs Q E hr h=>?_);obtain ⟨c,ls,os,ts,m,k,rfl,Z,W,w,q⟩:=h;refine ⟨_,(J7 (Jh (Jl J39 (Jl J1u (J8 (Jp Jj (J8 (pv 0)) (pv 1))) (J8 (Jp Jj (J8 (pv 0)) (Jl J1b (pv 1) Ja)))) (J8 (Jp Jj (J8 (pv 0)) (pv 1)))))),?_⟩;obtain ⟨xl,A0,L0⟩:=Z;obtain ⟨p,fs,u,ps,pt,pb,xr,xs,xt,xb,g,⟨lL,v,I,lT,lB⟩,⟨y,P,h3,h4⟩,r,G,D,r4⟩:=A0.ex;obtain ⟨B,j,Y⟩:=r.at_ k (by lia);obtain ⟨z,i,X⟩:=r.at_ (k + 1) (by lia);obtain ⟨sp,l,⟨n,e⟩⟩:=G.at_ k w;obtain ⟨tk,S,O⟩:=D.at_ k (by lia);obtain ⟨U,fi,it,ib,il,iu,N,⟨i1,i2,i3,i4,M⟩,o1,o2,o3,o4⟩:=Y.ex;obtain ⟨T,R,_,_,_,_,L,⟨_,_,_,_,J⟩,_⟩:=X.ex;have tm:=(W.stp w).tms;exact ⟨_,rfl,c,CH,p,fs,_,rfl,g,a.cl,a.nR,v,_,rfl,u,_,_,_,rfl,rfl,SqT.of (y),Jc j,B,CR,U,fi,_,rfl,N,b.cl,b.nZ,M,_,rfl,c,CH,p,fs,_,rfl,g,a.cl,a.nR,v,_,rfl,_,_,rfl,rfl,u,_,_,_,rfl,rfl,SqT.of (y),at1 i,z,CR,T,R,_,rfl,L,b.cl,b.nZ,J,_,_,rfl,rfl,_,rfl,c,CH,p,fs,_,rfl,g,a.cl,a.nS,I,_,rfl,ps,_,_,_,rfl,rfl,SqT.of (P),Jc l,sp,cs (kd (sC ls os ts k)),n,stF (sC ls os ts k),_,rfl,e,TS.cl _,TS.nT _,Jgm _,_,_,rfl,rfl,Jeg (by lia) (by lia),q⟩
inductive Jpi(C e CR:Addr)(cs:Kd->Addr)(vs:List V)(H:Hp)(Q:VK)(E:XK):Prop
 | mk(c:Addr)(ls:List Int)(os:List Nat)(ts:List Bool)(m k:Nat)(y:Int)(_:vs=[.ref c,.int (k:Nat),.int y])(_:ChF C e CR cs H c ls os ts m)(_:ChP ls os ts m)(_:k < m)(_:(sC ls os ts k).isHome=false)(_:((rC ls os ts (k + 1)).size<=y/\y < (rC ls os ts k).size))(_:∀ p a d b,Same H b->b p=some (.tup [.int a,.int d])->(0<=a/\a < (rC ls os ts (k + 1)).size)->0<=d->J3x (gC ls os ts) (rC ls os ts (k + 1)).size d.toNat a y->Q (.ref p) b)
theorem Jfn(s:Stp):ownB (kd s)=s.own:=by cases s <;> rfl
theorem J4q:FS1 ["chart","at","y","rest","step","towers","share","times","come"] Jd0:=fsc
theorem Jrv{C B CR:Addr}{cs:Kd->Addr}(F:Fn1 Jd0)(S:J17 K CR)(TS:TxtS K cs)(b:J7a K B)(ae:Ca1 1 Jag (Jdk C B CR cs))(HO:∀ k,HasM P w K mg base CX0 1 "own_first" ["self"] (J8f k) (cs k))(L:Ca1 3 J9f (Jf3 CR))(af:Ca1 2 J9h (Jf6 CR)):
  Ca1 4 Jd0 (Jpi C B CR cs):=by
 refine F.ok J4q (fun f d A o s H vs Q E J h=>?_);obtain ⟨G,ls,os,ts,m,k,y,rfl,F0,cp,Z,hh,D,q⟩:=h;have X:Room 1 _:=J.mono (by decide);refine ⟨_,(J1 (Jf (i:=3) J4q.nd rfl (Or.inl rfl) (Jp Jj (J8 (pv 0)) (pv 1)))
  (J1 (Jf (i:=4) J4q.nd rfl (Or.inl rfl) (Jp Jj (J8 (pv 0)) (pv 1)))
  (J1 (Jf (i:=5) J4q.nd rfl (Or.inl rfl) (Jp Jj (J8 (pv 0)) (pv 1)))
  (J1 (Jf (i:=6) J4q.nd rfl (Or.inl rfl) (pcl ae J Jg (J0 (pv 0) (J0 (pv 1) J3))))
  (J1 (J24 (J3r (J3t (sp:=J8f) (cls:=cs) (pv 4) HO X Jg)) (J1 (Jf (i:=7) J4q.nd rfl (Or.inl rfl) (Jl J39 (Jl J1u (Jl J1u (J8 (pv 3)) Ja) (pv 2)) (pv 6)))
   (J1 (Jf (i:=8) J4q.nd rfl (Or.inl rfl) (pcl L J Jg (J0 (pv 3) (J0 (Jl J1b (pv 2) (Jl J3c (pv 7) (pv 6))) J3))))
   (J7 (Jh (J30 (J0 (pv 8) (J0 (Jl J1b (Jp Jj (pv 5) (pcl af J Jg (J0 (pv 3) (J0 (pv 8) J3)))) (Jl J3c (pv 7) (Jp Jj (pv 5) (J8 (pv 4))))) J3))))))) J13)
  (J1 (Jf (i:=7) J4q.nd rfl (Or.inl rfl) (Jl J39 (Jl J1u (pv 2) (J8 (Jp Jj (J8 (pv 0)) (Jl J1b (pv 1) Ja)))) (pv 6)))
  (J7 (Jh (J30 (J0 (Jl J1u (pcl L J Jg (J0 (pv 3) (J0 (pv 2) J3))) (Jl J3c (pv 7) (pv 6))) (J0 (Jl J3c (Jl J1b (pv 7) Ja) (Jp Jj (pv 5) (J8 (pv 4)))) J3))))))))))),?_⟩
 have ag:=F0;obtain ⟨xl,A0,L0⟩:=F0;obtain ⟨R,fs,pr,ps,pt,pb,xr,xs,xt,xb,O,⟨lL,lR,lS,lT,lB⟩,⟨h1,h2,h3,h4⟩,r1,r2,r3,r4⟩:=A0.ex;obtain ⟨M,ab,T⟩:=r1.at_ k (by lia);obtain ⟨yj,aa,Rj⟩:=r1.at_ (k + 1) (by lia);obtain ⟨sp,ad,⟨r,n⟩⟩:=r2.at_ k Z;obtain ⟨U,ac,l⟩:=r3.at_ k (by lia);obtain ⟨di,fi,it,ib,il,iu,i0,⟨i1,i2,i3,i4,i5⟩,o1,o2,o3,o4⟩:=T.ex;obtain ⟨dj,fj,_,_,_,_,j0,⟨_,_,_,_,j5⟩,_⟩:=Rj.ex;have F:=cp.stp Z;obtain ⟨w1,w2,w3⟩:=F.win;obtain ⟨t1,t2⟩:=F.tms;obtain ⟨s1,N,s3⟩:=F.spn hh;have wl:=F.ok.row.lt _ w1;have tl:=F.len;have zz:=F.sz;have e1:(rC ls os ts (k + 1)).size=((sC ls os ts k).behind (rC ls os ts k)).size:=rfl;refine ⟨_,rfl,G,B,R,fs,_,rfl,O,b.cl,b.nR,lR,_,rfl,pr,_,_,_,rfl,rfl,SqT.of (h1),Jc ab,?_⟩;refine ⟨_,rfl,G,B,R,fs,_,rfl,O,b.cl,b.nS,lS,_,rfl,ps,_,_,_,rfl,rfl,SqT.of (h2),Jc ad,?_⟩;refine ⟨_,rfl,G,B,R,fs,_,rfl,O,b.cl,b.nT,lT,_,rfl,pt,_,_,_,rfl,rfl,SqT.of (h3),Jc ac,?_⟩;refine ⟨_,rfl,_,rfl,G,ls,os,ts,m,k,rfl,ag,cp,Z,?_⟩;rw [e1,s3];refine ⟨_,rfl,sp,kd (sC ls os ts k),r,stF (sC ls os ts k),rfl,n,J4h _ (by decide +kernel) (by decide +kernel) (by decide +kernel),sp,rfl,_,rfl,?_⟩;rw [Jfn]
 cases hown:(sC ls os ts k).own with
 | true =>
  refine iteT ?_;obtain ⟨I,q1,q2,W⟩:=Jp0 F.ok F.ne F.np F.okl F.down F.ret F.twr hh hown D.1 D.2 (t':=((rC ls os ts k).size - 1 - y) / J2 (rC ls os ts k).ls ((sC ls os ts k).losers (rC ls os ts k))) rfl;have v:CBig (((rC ls os ts k).size - 1 - y) / J2 (rC ls os ts k).ls ((sC ls os ts k).losers (rC ls os ts k))) (J2 (rC ls os ts k).ls ((sC ls os ts k).losers (rC ls os ts k))):=J9x I (by lia) (by lia) N;have u:CBig (((rC ls os ts k).size - 1 - y) / J2 (rC ls os ts k).ls ((sC ls os ts k).losers (rC ls os ts k))) ((tC' ls os ts k).getD (sC ls os ts k).winner 0):=J9x I (by lia) (by lia) w3;refine ⟨_,rfl,M,CR,di,fi,_,rfl,i0,S.cl,S.nZ,i5,_,_,rfl,rfl,_,rfl,_,_,rfl,rfl,_,rfl,_,_,rfl,rfl,Jeg (by lia) N,?_⟩;refine ⟨_,rfl,_,rfl,_,rfl,_,rfl,_,_,rfl,rfl,v,_,_,rfl,rfl,M,rC ls os ts k,_,rfl,T,F.ok,fun z H1 a g=>?_,q2⟩;obtain ⟨j,o,A,c,e⟩:=W z g;have zr:=A.inside F.ok;have lj:=F.ok.row.lt _ A.1;refine ⟨_,rfl,_,rfl,_,rfl,_,rfl,M,rC ls os ts k,z,rfl,T.same a,F.ok.row,fun i hi=>?_,zr⟩;obtain ⟨ej,_⟩:=A.same F.ok (Jo.of_at F.ok hi);rw [<- ej];refine ⟨U,_,_,_,rfl,rfl,SqT.of (a _ _ l),Jc (J1g (by rw [tl];exact lj)),_,rfl,_,rfl,_,rfl,sp,cs (kd (sC ls os ts k)),r,stF (sC ls os ts k),_,rfl,a _ _ n,TS.cl _,TS.nW _,J2f _,U,_,_,_,rfl,rfl,SqT.of (a _ _ l),Jc (J1g (by rw [tl];exact wl)),_,_,rfl,rfl,u,_,_,rfl,rfl,(by show 2<=sizeLine;decide),fun p Y=>?_⟩;have pj:=F.twr.pos j A.1;have m0:0<=((rC ls os ts k).size - 1 - y) / J2 (rC ls os ts k).ls ((sC ls os ts k).losers (rC ls os ts k)) * (tC' ls os ts k).getD (sC ls os ts k).winner 0:=Int.mul_nonneg I (by lia);exact q p _ _ _ (a.trans (J9 Y)) J6 c (Int.add_nonneg (show 0<=(tC' ls os ts k).getD j 0 by lia) m0) e
 | false =>
  refine iteF ?_;obtain ⟨I,q1,W⟩:=Jlq F.ok F.ne F.np F.okl F.down F.ret F.twr hh hown D.1 D.2 (t':=(y - ((sC ls os ts k).behind (rC ls os ts k)).size) / J2 (rC ls os ts k).ls ((sC ls os ts k).losers (rC ls os ts k))) rfl;have v:CBig ((y - ((sC ls os ts k).behind (rC ls os ts k)).size) / J2 (rC ls os ts k).ls ((sC ls os ts k).losers (rC ls os ts k))) (J2 (rC ls os ts k).ls ((sC ls os ts k).losers (rC ls os ts k))):=J9x I (by lia) (by lia) N;have u:CBig ((y - ((sC ls os ts k).behind (rC ls os ts k)).size) / J2 (rC ls os ts k).ls ((sC ls os ts k).losers (rC ls os ts k)) + 1) ((tC' ls os ts k).getD (sC ls os ts k).winner 0):=J9x (by lia) (by lia) (by lia) w3;refine ⟨_,rfl,_,rfl,G,B,R,fs,_,rfl,O,b.cl,b.nR,lR,_,rfl,_,_,rfl,rfl,pr,_,_,_,rfl,rfl,SqT.of (h1),at1 aa,yj,CR,dj,fj,_,rfl,j0,S.cl,S.nZ,j5,_,_,rfl,rfl,_,rfl,_,_,rfl,rfl,Jeg (by lia) N,?_⟩;have yr:0<=y/\y < (rC ls os ts k).size:=by
   have zn:0<=((sC ls os ts k).behind (rC ls os ts k)).size:=J18 fun j hj=>by have:=F.okl.row.pos j hj;lia
   rw [e1] at D;exact ⟨by lia,D.2⟩
  refine ⟨_,rfl,_,rfl,M,rC ls os ts k,y,rfl,T,F.ok,fun z H1 a g=>?_,yr⟩;obtain ⟨c,e⟩:=W z g;refine ⟨_,rfl,_,rfl,_,_,rfl,rfl,v,_,_,rfl,rfl,_,rfl,_,_,rfl,rfl,_,rfl,_,rfl,sp,cs (kd (sC ls os ts k)),r,stF (sC ls os ts k),_,rfl,a _ _ n,TS.cl _,TS.nW _,J2f _,U,_,_,_,rfl,rfl,SqT.of (a _ _ l),Jc (J1g (by rw [tl];exact wl)),_,_,rfl,rfl,u,(by show 2<=sizeLine;decide),fun p Y=>?_⟩;exact q p _ _ _ (a.trans (J9 Y)) J6 c (Int.mul_nonneg (show 0<=(y - ((sC ls os ts k).behind (rC ls os ts k)).size) / J2 (rC ls os ts k).ls ((sC ls os ts k).losers (rC ls os ts k)) + 1 by lia) (show 0<=(tC' ls os ts k).getD (sC ls os ts k).winner 0 by lia)) e
end
section
variable [En]
inductive Jpk(C c CR:Addr)(cs:Kd->Addr)(vs:List V)(H:Hp)(Q:VK)(E:XK):Prop
 | mk(a:Addr)(ls:List Int)(os:List Nat)(ts:List Bool)(m:Nat)(x:Int)(_:vs=[.ref a,.int x])(_:ChF C c CR cs H a ls os ts m)(_:ChP ls os ts m)(_:(∀ p (b:Nat) o lv H',Same H H'->H' p=some (.tup [.int (b:Nat),.int o,.int lv])->Adr (bsC ls os ts m) b o lv->plOf (gC ls os ts) (bsC ls os ts m) b o lv=x->Q (.ref p) H'))(_:0<=x/\x < (J2c ls os ts).size)
theorem J6b:FS1 ["chart","x","at","y","level","come","start"] Jlb:=fsc
theorem Jrx{C n CR:Addr}{cs:Kd->Addr}(F:Fn1 Jlb)(TC:TxtC K mg C)(J:J17 K CR)(TS:TxtS K cs)(c:J7a K n)(ag:Ca1 4 Jd0 (Jpi C n CR cs))(HW:∀ k,HasM P w K mg base CX0 1 "word" ["self"] (J3n k) (cs k)):
  Ca1 5 Jlb (Jpk C n CR cs):=by
 refine F.ok J6b (fun f d A o s H vs Q E hr h=>?_);obtain ⟨r,ls,os,ts,m,x,rfl,F0,l,q,kx⟩:=h;have ab:Room 1 _:=hr.mono (by decide);refine ⟨_,(J1 (J24 (PW.pt (Jgt (Jq J8m (pv 1) Ja (Jv _)) (Ja7 (Jq Jgv (pv 1) (J8 (J8 (pv 0))) (Jv _))))) (J7 J25) J13)
  (J1 (Jf (i:=2) J6b.nd rfl (Or.inl rfl) Ja)
  (J1 (Jf (i:=3) J6b.nd rfl (Or.inl rfl) (pv 1))
  (J1 (Jf (i:=4) J6b.nd rfl (Or.inl rfl) Ja)
  (J1 (Jb3 PassesOwn.never (PW.pt (Jgt (Jq J8m (pv 3) (J8 (Jp Jj (J8 (pv 0)) (Jl J1b (pv 2) Ja))) (Jv _)) (Ja7 (Jq J9t (J3t (sp:=J3n) (cls:=cs) (Jp Jj (J8 (pv 0)) (pv 2)) HW ab Jg) J6e (Jv _)))))
   (J1 (J24 (Jq Jgv (pv 3) (J8 (Jp Jj (J8 (pv 0)) (Jl J1b (pv 2) Ja))) (Jv _)) (J1 (Jf (i:=5) J6b.nd rfl (Or.inl rfl) (pcl ag hr Jg (J0 (pv 0) (J0 (pv 2) (J0 (pv 3) J3)))))
    (J1 (Jf (i:=3) J6b.nd rfl (Or.inl rfl) (Jp Jj (pv 5) Ja))
    (J7 (Jf (i:=4) J6b.nd rfl (Or.inl rfl) (Jl J1b (pv 4) (Jp Jj (pv 5) Ja)))))) J13)
   (J7 (Jf (i:=2) J6b.nd rfl (Or.inl rfl) (Jl J1b (pv 2) Ja)))))
  (J1 (Jf (i:=6) J6b.nd rfl (Or.inl rfl) (J8 (Jp Jj (J8 (pv 0)) (Jl J1b (pv 2) Ja))))
  (J7 (Jh (J30 (J0 (J6z PySem.F.plainAttrs_list PySem.F.slot_list_index PySem.F.type_list_index J8s (Jc6 (caps:=[]) (js:=[]) rfl (Ja8 (J8 (pv 0))) rfl (fun _ _ _ _=>J3l) (fun C fp s H=>J8k (J8z K) (pv 0) Ja)) (J0 (pv 6) J3)) (J0 (Jl J1u (pv 3) (pv 6)) (J0 (pv 4) J3)))))))))))),?_⟩
 have ah:=F0;obtain ⟨xl,A0,L0⟩:=F0;obtain ⟨R,fs,pr,ps,pt,pb,xr,xs,xt,xb,N,⟨lL,lR,lS,lT,lB⟩,⟨h1,h2,h3,h4⟩,r1,r2,r3,r4⟩:=A0.ex;obtain ⟨dl,fl,pl,po,pu,aj,ak,l0,⟨_,_,_,_,_,l6⟩,_⟩:=L0.ex;have ai:(J2c ls os ts).size=ls.sum:=Jgi ls os ts;have S:=l.sys;have fw:=l.few;refine ⟨_,rfl,_,_,rfl,rfl,_,rfl,iteD (show ¬ x < 0 by lia) ?_⟩;refine ⟨_,rfl,_,rfl,r,n,R,fs,_,rfl,N,c.cl,c.nL,lL,xl,C,dl,fl,_,rfl,l0,TC.cl,TC.nZ,l6,_,_,rfl,rfl,_,rfl,iteD (show ¬ x>=ls.sum by lia) ⟨_,rfl,?_⟩⟩;have m0:0 < m:=l.lt (k:=0) (Nat.zero_le _) (y:=x) (by lia) (by show x < (J2c ls os ts).size;lia);refine ⟨fun mu σ Hw=>∃ (k:Nat) (y z:Int) (v5:Option V),k < m/\(0<=y/\y < (rC ls os ts k).size)/\0<=z/\J3x (gC ls os ts) (rC ls os ts k).size z.toNat y x/\mu=m - k/\σ=[some (.ref r),some (.int x),some (.int (k:Nat)),some (.int y),some (.int z),v5,none]/\Same H Hw,
  ⟨_,0,x,0,none,m0,⟨by lia,by show x < (J2c ls os ts).size;lia⟩,Int.le_refl _,J3x.zero,rfl,rfl,Same.refl _⟩,?_⟩
 rintro mu σ Hw ⟨k,y,z,v5,hk,hy,X,u,rfl,rfl,a⟩;obtain ⟨yi,ao,Ri⟩:=r1.at_ k (by lia);obtain ⟨yj,D,Rj⟩:=r1.at_ (k + 1) (by lia);obtain ⟨sp,ad,⟨af,aa⟩⟩:=r2.at_ k hk;obtain ⟨tk,ap,an⟩:=r3.at_ k (by lia);obtain ⟨di,fi,it,ib,il,iu,i0,⟨i1,i2,i3,i4,i5⟩,o1,o2,o3,o4⟩:=Ri.ex;obtain ⟨dj,fj,_,_,_,_,j0,⟨_,_,_,_,j5⟩,_⟩:=Rj.ex;have U:=l.sizes (i:=k) (k:=k + 1) (by lia) (by lia);refine ⟨_,rfl,_,rfl,r,n,R,fs,_,rfl,a _ _ N,c.cl,c.nR,lR,_,rfl,_,_,rfl,rfl,pr,_,_,_,rfl,rfl,SqT.of (a _ _ h1),at1 D,yj,CR,dj,fj,_,rfl,a _ _ j0,J.cl,J.nZ,j5,_,_,rfl,rfl,_,rfl,?_⟩;by_cases I:y < (rC ls os ts (k + 1)).size
 ·refine J48 I ?_;refine ⟨_,fun σ' H' h=>h,?_⟩;refine ⟨_,rfl,_,rfl,r,n,R,fs,_,rfl,a _ _ N,c.cl,c.nR,lR,_,rfl,_,_,rfl,rfl,pr,_,_,_,rfl,rfl,SqT.of (a _ _ h1),at1 D,yj,CR,dj,fj,_,rfl,a _ _ j0,J.cl,J.nZ,j5,_,_,rfl,rfl,_,rfl,iteD (Int.not_le.mpr I) ?_⟩;have L:=l.lt (k:=k + 1) (by lia) hy.1 I;refine ⟨_,rfl,_,_,rfl,rfl,m - (k + 1),by lia,k + 1,y,z,v5,L,⟨hy.1,I⟩,X,u.low U,rfl,?_,a⟩;rw [show (((k + 1:Nat):Int))=(k:Int) + 1 by lia];rfl
 refine iteD I ?_;refine ⟨_,rfl,r,n,R,fs,_,rfl,a _ _ N,c.cl,c.nS,lS,_,rfl,ps,_,_,_,rfl,rfl,SqT.of (a _ _ h2),Jc ad,sp,kd (sC ls os ts k),af,stF (sC ls os ts k),rfl,a _ _ aa,J4h _ (by decide +kernel) (by decide +kernel) (by decide +kernel),sp,rfl,rfl,_,rfl,?_⟩;have hw:=Jch (sC ls os ts k);by_cases M:(sC ls os ts k).isHome=true
 ·refine J91 (by rw [hw,M];decide) ?_;obtain ⟨b,hb,eb⟩:=Jkw (p:=J1f ls os ts) hk M;obtain ⟨Bn,T,b2⟩:=l.cok.band l.one (k:=k) (fun i hi=>l.lg i (by lia)) M;have B:(bsC ls os ts m).getD b bz0=J2s (chN (J1f ls os ts) k):=eb;obtain ⟨im,ix⟩:=S.starts hb;rw [B,T] at im ix;have lb:=J8b (J1f ls os ts) m;have Z:=Int.not_lt.mp I;obtain ⟨e,O⟩:∃ e,e=(rC ls os ts (k + 1)).size:=⟨_,rfl⟩;have T:(J2s (chN (J1f ls os ts) k)).1=e:=T.trans O.symm;have b2:(J2s (chN (J1f ls os ts) k)).1 + (J2s (chN (J1f ls os ts) k)).2.1=(rC ls os ts k).size:=b2;have Z:e<=y:=by rw [O];exact Z
  have am:=hy.2;rw [T] at b2;have Fb:=Bn.2.2 (y - e) (by lia) (by lia);have fl:=J6p (b:=J2s (chN (J1f ls os ts) k)) (o:=y - e) (by lia) (by lia);rw [T,show e + (y - e)=y by lia,b2] at Fb;have lt:=u.lt Fb (by lia);refine ⟨_,rfl,r,n,R,fs,_,rfl,a _ _ N,c.cl,c.nR,lR,_,rfl,_,_,rfl,rfl,pr,_,_,_,rfl,rfl,SqT.of (a _ _ h1),at1 D,yj,CR,dj,fj,_,rfl,a _ _ j0,J.cl,J.nZ,j5,?_⟩;have W:xb.length=(bsC ls os ts m).length:=r4.len;refine ⟨_,rfl,r,n,R,fs,_,rfl,a _ _ N,c.cl,c.nB,lB,pb,rfl,⟨_,SqT.of (a _ _ h4)⟩,fun d hd=>Js4 xb (fun i=>V.int ((bsC ls os ts m).getD i bz0).1) (SqT.of (a _ _ h4)) (by have:=Jkb;have al:(bsC ls os ts m).length<=m:=lb;lia) hd (fun i Hc Qe v hv sc k'=>?_) (fun H5 s5 Y=>?_)⟩
  ·have hi:i < (bsC ls os ts m).length:=by rw [<- W];exact (List.getElem?_eq_some_iff.mp hv).1
   obtain ⟨bp,ae,ac⟩:=r4.at_ i hi;obtain rfl:v=.ref bp:=Option.some.inj (hv.symm.trans ae);exact ⟨_,rfl,bp,_,_,_,rfl,rfl,SqT.of (sc _ _ (a _ _ ac)),Jc (j:=0) rfl,k' _ (Same.refl _)⟩
  rw [W] at Y;have G:H5 d=some (.lst (iV (J5r (bsC ls os ts m)))):=by
   rw [Y];show _=some (HO.lst (List.map V.int (List.map _ _)));rw [map_map];rfl
  refine ⟨.inl ⟨rfl,_,SqL.of G⟩,_,rfl,d,J5r (bsC ls os ts m),(rC ls os ts (k + 1)).size,rfl,rfl,SqL.of G,im,?_⟩;rw [ix];refine ⟨_,rfl,_,rfl,_,_,rfl,rfl,_,rfl,(by show 3<=sizeLine;decide),fun p hp=>?_⟩;refine q p b (y - e) z _ (a.trans (s5.trans (J9 hp))) (by rw [J6,O]) ⟨hb,by lia,by rw [B];lia,X,by rw [B];lia⟩ ?_;unfold plOf;rw [B,T,show e + (y - e)=y by lia];exact u.last
 ·refine J90 (by rw [hw];simpa using M) ?_;have M:(sC ls os ts k).isHome=false:=by simpa using M
  refine ⟨_,fun σ' H' h=>h,?_⟩;refine ⟨_,rfl,_,rfl,r,n,R,fs,_,rfl,a _ _ N,c.cl,c.nR,lR,_,rfl,_,_,rfl,rfl,pr,_,_,_,rfl,rfl,SqT.of (a _ _ h1),at1 D,yj,CR,dj,fj,_,rfl,a _ _ j0,J.cl,J.nZ,j5,_,_,rfl,rfl,_,rfl,J48 (Int.not_lt.mp I) ?_⟩;refine ⟨_,rfl,_,rfl,_,rfl,r,ls,os,ts,m,k,y,rfl,ah.same a,l,hk,M,⟨Int.not_lt.mp I,hy.2⟩,fun p y0 d H5 s5 hp g d0 rc=>?_⟩;refine ⟨_,rfl,p,_,_,_,rfl,rfl,SqT.of hp,Jc (j:=0) rfl,?_⟩;refine ⟨_,rfl,_,rfl,p,_,_,_,rfl,rfl,SqT.of hp,Jc (j:=1) rfl,_,_,rfl,rfl,?_⟩;have L:=l.lt (k:=k + 1) (by lia) g.1 g.2;refine ⟨_,rfl,_,_,rfl,rfl,m - (k + 1),by lia,k + 1,y0,z + d,some (.ref p),L,g,by lia,?_,rfl,?_,a.trans s5⟩
  ·have:=rc.trans (u.low U);rw [show d.toNat + z.toNat=(z + d).toNat by lia] at this;exact this
  ·rw [show (((k + 1:Nat):Int))=(k:Int) + 1 by lia];rfl
end
section
variable [En]
structure Jbo(K:Frag)(CW:Addr):Prop where
 cl:Cls K CW
 nF:J19 K CW "first"
 nL:J19 K CW "length"
 nA:J19 K CW "laid"
 nT:J19 K CW "turned"
structure SrAt(CW:Addr)(H:Hp)(x:Addr)(s:Sr):Prop where
 ex:∃ (dx:Addr) (fs:List (Str × V)),H x=some (.ins CW dx fs)/\fs.lookup ("first":Str)=some (.int s.fi)/\fs.lookup ("length":Str)=some (.int s.le)/\fs.lookup ("laid":Str)=some (.int s.la)/\fs.lookup ("turned":Str)=some (.bl s.tu)
theorem SrAt.same{CW:Addr}{H a:Hp}{x:Addr}{s:Sr}(h:SrAt CW H x s)(k:Same H a):SrAt CW a x s:=
 by obtain ⟨c,fs,b,r⟩:=h.ex;exact ⟨c,fs,k _ _ b,r⟩
theorem SrAt.keep{CW d:Addr}{H a:Hp}{x:Addr}{s:Sr}(h:SrAt CW H x s)(hd:x≠d)(k:∀ b u,H b=some u->b≠d->a b=some u):SrAt CW a x s:=
 by obtain ⟨e,fs,c,r⟩:=h.ex;exact ⟨e,fs,k _ _ c hd,r⟩
inductive spSr(CW:Addr)(vs:List V)(H:Hp)(Q:VK)(E:XK):Prop
 | mk(x c:Addr)(f l a:Int)(t:Bool)(_:vs=[.ref x,.int f,.int l,.int a,.bl t])(_:H x=some (.ins CW c []))(_:∀ b,SrAt CW b x ⟨f,l,a,t && decide (1 < l)⟩->J1n x H b->Q .non b)
theorem Jmj:Jr ["self","first","length","laid","turned"] ["self","first","length","laid","turned"] (Je (Jb (top 18) 0)):=fsc
theorem ok_sr{f CW:Addr}{fd:FuncData}(F:Fun K "__init__" "Stretch.__init__" (Jb (top 18) 0) f fd)(e:Jbo K CW):
  FnOk P w K mg base CX0 1 f fd ["self","first","length","laid","turned"] (spSr CW):=by
 refine F.ok1 Jmj (fun d A o s H vs Q E z h=>?_);obtain ⟨x,c,f,l,a,t,rfl,q,k⟩:=h;refine ⟨_,(J1 (J1s (pv 0) (pv 1) rfl)
  (J1 (J1s (pv 0) (pv 2) rfl)
  (J1 (J1s (pv 0) (pv 3) rfl)
  (J7 (J1s (pv 0) (Jps (pv 4) (Jpq (J4u J8n (pv 2) Ja (Jv _)))) rfl))))),?_⟩
 refine ⟨_,rfl,_,rfl,x,CW,c,[],rfl,q,e.cl,e.nF,(by show 0 < 1000;decide),?_⟩;generalize hfs1:putF ("first":Str) (.int f) []=fs1;generalize hH1:upd H x (.ins CW c fs1)=H1;have l1:fs1.length<=1:=by rw [<- hfs1];exact J1i ..
 have p:J1n x H H1:=by rw [<- hH1];exact J1n.upd
 have j:H1 x=some (.ins CW c fs1):=by rw [<- hH1];exact J6
 refine ⟨_,rfl,_,rfl,x,CW,c,fs1,rfl,j,e.cl,e.nL,(by lia),?_⟩;generalize hfs2:putF ("length":Str) (.int l) fs1=fs2;generalize hH2:upd H1 x (.ins CW c fs2)=H2;have y:fs2.length<=2:=by rw [<- hfs2];have:=J1i ("length":Str) (.int l) fs1;lia
 have n:J1n x H1 H2:=by rw [<- hH2];exact J1n.upd
 have i:H2 x=some (.ins CW c fs2):=by rw [<- hH2];exact J6
 refine ⟨_,rfl,_,rfl,x,CW,c,fs2,rfl,i,e.cl,e.nA,(by lia),?_⟩;generalize hfs3:putF ("laid":Str) (.int a) fs2=fs3;generalize hH3:upd H2 x (.ins CW c fs3)=H3;have v:fs3.length<=3:=by rw [<- hfs3];have:=J1i ("laid":Str) (.int a) fs2;lia
 have m:J1n x H2 H3:=by rw [<- hH3];exact J1n.upd
 have g:H3 x=some (.ins CW c fs3):=by rw [<- hH3];exact J6
 have fin:∀ b:Bool,b=(t && decide (1 < l))->sFld K (tVar 0) (tC (.bl b)) "turned" { nx:=fun _ u=>Q .non u,rt:=Q } (start ["self","first","length","laid","turned"] [.ref x,.int f,.int l,.int a,.bl t]) H3:=fun b r=>by
  refine ⟨_,rfl,x,CW,c,fs3,rfl,g,e.cl,e.nT,(by lia),?_⟩;refine k _ ⟨c,_,J6,?_,?_,?_,by rw [J4x,r]⟩ (p.trans (n.trans (m.trans J1n.upd)))
  ·rw [J5x (by decide +kernel),<- hfs3,J5x (by decide +kernel),<- hfs2,J5x (by decide +kernel),<- hfs1,J4x]
  ·rw [J5x (by decide +kernel),<- hfs3,J5x (by decide +kernel),<- hfs2,J4x]
  ·rw [J5x (by decide +kernel),<- hfs3,J4x]
 refine ⟨_,rfl,t,rfl,?_⟩
 cases t with
 | true =>
  rw [if_pos rfl];exact ⟨_,rfl,_,_,rfl,rfl,fin _ (by simp)⟩
 | false =>
  rw [if_neg (by decide)];exact fin false rfl
theorem J8d{CW:Addr}{H:Hp}{f l a:Int}{t:Bool}{Q:VK}(k:∀ p d,Same H d->SrAt CW d p ⟨f,l,a,t && decide (1 < l)⟩->(∀ b u,H b=some u->p≠b)->Q (.ref p) d):
  ∀ x c,H x=none->H c=none->c≠x->spSr CW (.ref x :: ([.int f,.int l,.int a,.bl t] ++ [])) (upd (upd H c (.own x)) x (.ins CW c [])) (fun v m=>v=.non/\Q (.ref x) m) E0:=fun x c g i h=>by
 have j:=(J9 (o:=.own x) i).trans (J9 (l:=x) (o:=.ins CW c []) (by rw [Jm (Ne.symm h)];exact g));exact ⟨x,c,f,l,a,t,rfl,J6,fun d S kp=>⟨rfl,k x d (fun b u e=>kp _ _ (j _ _ e) (Jd e g)) S fun b u e z=>Jd e g z.symm⟩⟩
inductive Jfa(CW:Addr)(vs:List V)(H:Hp)(Q:VK)(E:XK):Prop
 | mk(q:Addr)(s:Sr)(_:vs=[.ref q])(_:SrAt CW H q s)(_:Q (.int (fgo s)) H)
inductive Jia(CW:Addr)(vs:List V)(H:Hp)(Q:VK)(E:XK):Prop
 | mk(q:Addr)(s:Sr)(_:vs=[.ref q])(_:SrAt CW H q s)(_:Q (.int (lgo s)) H)
inductive Jie(CW:Addr)(vs:List V)(H:Hp)(Q:VK)(E:XK):Prop
 | mk(p q:Addr)(a b:Sr)(_:vs=[.ref p,.ref q])(_:SrAt CW H p a)(_:SrAt CW H q b)(_:Q (.bl (gtog a b)) H)
inductive Ji9(CW:Addr)(vs:List V)(H:Hp)(Q:VK)(E:XK):Prop
 | mk(p q:Addr)(a b:Sr)(_:vs=[.ref p,.ref q])(_:SrAt CW H p a)(_:SrAt CW H q b)(_:∀ r c,Same H c->SrAt CW c r (mk1 a b)->(∀ b u,H b=some u->r≠b)->Q (.ref r) c)
theorem Jmw:FS1 ["stretch"] J9k:=fsc
theorem Jjy{CW:Addr}(F:Fn1 J9k)(a:Jbo K CW):
  Ca1 1 J9k (Jfa CW):=by
 refine F.ok Jmw (fun f d A o s H vs Q E n h=>?_);obtain ⟨q,s0,rfl,m,k⟩:=h;refine ⟨_,(J7 (Jh (J2y (J3r (J8 (pv 0))) (Jl J1u (Jl J1b (J8 (pv 0)) (J8 (pv 0))) Ja) (J8 (pv 0))))),?_⟩;obtain ⟨c,b,g,p,l,i,j⟩:=m.ex;refine ⟨_,rfl,q,CW,c,b,_,rfl,g,a.cl,a.nT,j,s0.tu,rfl,?_⟩;unfold fgo at k;by_cases e:s0.tu=true
 ·rw [if_pos e] at k ⊢;exact ⟨_,rfl,q,CW,c,b,_,rfl,g,a.cl,a.nA,i,_,rfl,q,CW,c,b,_,rfl,g,a.cl,a.nL,l,_,_,rfl,rfl,_,_,rfl,rfl,k⟩
 ·rw [if_neg e] at k ⊢;exact ⟨_,rfl,q,CW,c,b,_,rfl,g,a.cl,a.nA,i,k⟩
theorem Jr5:FS1 ["stretch"] Jcv:=fsc
theorem Jo4{CW:Addr}(F:Fn1 Jcv)(a:Jbo K CW):
  Ca1 1 Jcv (Jia CW):=by
 refine F.ok Jr5 (fun f d A o s H vs Q E n h=>?_);obtain ⟨q,s0,rfl,m,k⟩:=h;refine ⟨_,(J7 (Jh (J2y (J3r (J8 (pv 0))) (J8 (pv 0)) (Jl J1u (Jl J1b (J8 (pv 0)) (J8 (pv 0))) Ja)))),?_⟩;obtain ⟨c,b,g,p,l,i,j⟩:=m.ex;refine ⟨_,rfl,q,CW,c,b,_,rfl,g,a.cl,a.nT,j,s0.tu,rfl,?_⟩;unfold lgo at k;by_cases e:s0.tu=true
 ·rw [if_pos e] at k ⊢;exact ⟨_,rfl,q,CW,c,b,_,rfl,g,a.cl,a.nA,i,k⟩
 ·rw [if_neg e] at k ⊢;exact ⟨_,rfl,q,CW,c,b,_,rfl,g,a.cl,a.nA,i,_,rfl,q,CW,c,b,_,rfl,g,a.cl,a.nL,l,_,_,rfl,rfl,_,_,rfl,rfl,k⟩
theorem Jr7:FS1 ["one","two"] Jcy:=fsc
theorem Jo8{CW:Addr}(F:Fn1 Jcy)(c:mg "abs"=none)(i:Ca1 1 J9k (Jfa CW))(g:Ca1 1 Jcv (Jia CW)):
  Ca1 2 Jcy (Jie CW):=by
 refine F.ok Jr7 (fun f d A o s H vs Q E j h=>?_);obtain ⟨p,q,a,b,rfl,m,l,k⟩:=h;refine ⟨_,(J7 (Jh (J4u J9u (Jw Jgc (by rfl) c boot_abs (J0 (Jl J1u (pcl i j Jg (J0 (pv 1) J3)) (pcl g j Jg (J0 (pv 0) J3))) J3)) Ja (Jv _)))),?_⟩;refine ⟨_,rfl,q,b,rfl,l,_,rfl,p,a,rfl,m,_,_,rfl,rfl,_,rfl,?_⟩;have e:decide (V.int (if fgo b - lgo a < 0 then -(fgo b - lgo a) else fgo b - lgo a)=V.int 1)=gtog a b:=by unfold gtog;simp only [V.int.injEq]
 exact ⟨rfl,by rw [e];exact k⟩
theorem Jr2:FS1 ["one","two"] Jcu:=fsc
theorem Jo0{CW:Addr}(F:Fn1 Jcu)(c:Jbo K CW)(e:mg "min"=none)(n:Mak CX0 1 "Stretch" CW ["self","first","length","laid","turned"] [] (spSr CW)):
  Ca1 3 Jcu (Ji9 CW):=by
 refine F.ok Jr2 (fun f d A o s H vs Q E y h=>?_);obtain ⟨p,q,a,b,rfl,I,G,k⟩:=h;refine ⟨_,(J7 (Jh (pmk n y Jg (J0 (J8 (pv 0)) (J0 (Jl J1b (J8 (pv 0)) (J8 (pv 1))) (J0 (Jw (J9p rfl) (by rfl) e boot_min (J0 (J8 (pv 0)) (J0 (J8 (pv 1)) J3))) (J0 (J4u J8m (J8 (pv 1)) (J8 (pv 0)) (Jv _)) J3))))))),?_⟩;obtain ⟨i,g,j,C,B,w,M⟩:=I.ex;obtain ⟨m,l,u,L,z,v,J⟩:=G.ex;exact ⟨_,rfl,p,CW,i,g,_,rfl,j,c.cl,c.nF,C,_,rfl,p,CW,i,g,_,rfl,j,c.cl,c.nL,B,_,rfl,q,CW,m,l,_,rfl,u,c.cl,c.nL,z,_,_,rfl,rfl,_,rfl,p,CW,i,g,_,rfl,j,c.cl,c.nA,w,_,rfl,q,CW,m,l,_,rfl,u,c.cl,c.nA,v,_,_,rfl,_,rfl,q,CW,m,l,_,rfl,u,c.cl,c.nA,v,_,rfl,p,CW,i,g,_,rfl,j,c.cl,c.nA,w,_,_,rfl,rfl,J8d fun r D s' R fr=>k r D s' R fr⟩
inductive Jat(C CW:Addr)(vs:List V)(H:Hp)(Q:VK)(E:XK):Prop
 | mk(x:Addr)(ls:List Int)(os:List Nat)(ts:List Bool)(_:vs=[.ref x])(_:J2e C H x ls os ts)(_:ls.length<=24)(_:ts.length=ls.length)(_:∀ d b a,Same H a->a d=some (.lst b)->Refs (fun q i=>SrAt CW a q (srO ls os ts i)) b ls.length->Q (.ref d) a)
theorem Jqq:FS1 ["line"] J9a:=fsc
theorem Jnm{C CW:Addr}(F:Fn1 J9a)(a:TxtC K mg C)(b:mg "enumerate"=none)(u:Mak CX0 1 "Stretch" CW ["self","first","length","laid","turned"] [] (spSr CW)):
  Ca1 3 J9a (Jat C CW):=by
 refine F.ok Jqq (fun f d A o s H vs Q E O h=>?_);obtain ⟨x,ls,os,ts,rfl,W,hn,N,k⟩:=h;refine ⟨_,(J7 (Jh (Jpr (caps:=["line"]) (js:=[0]) rfl (Jds rfl b (J0 (J8 (pv 0)) J3)) rfl (fun _ _ _ _=>J3l) (fun C fp s H=>(pmk u O Jg (J0 (J8k (J8z K) (J3u K (pv 2)) (pv 0)) (J0 (pv 1) (J0 (J8k (J8z K) (J3u K (pv 2)) (pv 0)) (J0 (J8k (J8z K) (J3u K (pv 2)) (pv 0)) J3))))))))),?_⟩;obtain ⟨j,g,pl,po,pt,ps,D,e,⟨M,Z,L,J,I,Y⟩,z,e2,U,T,S⟩:=W.ex;refine ⟨_,rfl,x,C,j,g,_,rfl,e,a.cl,a.nL,M,pl,rfl,⟨_,SqT.of z⟩,fun d hd=>Joo (iV ls) (fun H q i=>SrAt CW H q (srO ls os ts i)) (SqT.of z) (by rw [J2r];exact Nat.le_of_lt (J14 (by lia))) hd (fun H l q i kd P A=>A.keep P kd) (fun i v y H1 Qe c n G=>?_) (fun B l s' p w=>k d B l s' p (by rw [J2r] at w;exact w))⟩;have hi:i < ls.length:=by have:=(List.getElem?_eq_some_iff.mp y).1;rwa [J2r] at this
 obtain rfl:V.int (ls.getD i 0)=v:=Option.some.inj ((J1g hi).symm.trans y);obtain ⟨X,m⟩:=n;exact ⟨_,rfl,x,C,j,g,_,rfl,c _ _ e,a.cl,a.nS,J,_,rfl,ps,_,_,_,rfl,rfl,SqT.of (c _ _ T),Jc (J1g (by rw [J5j];exact hi)),_,rfl,_,rfl,x,C,j,g,_,rfl,c _ _ e,a.cl,a.nD,I,_,rfl,D,_,_,_,rfl,rfl,SqT.of (c _ _ S),Jc (J1g (by rw [J5j];exact hi)),_,rfl,x,C,j,g,_,rfl,c _ _ e,a.cl,a.nT,L,_,rfl,pt,_,_,_,rfl,rfl,SqT.of (c _ _ U),Jc (J7l (by rw [N];exact hi)),J8d fun r l s' R fr=>G r l s' (fr _ _ m) R⟩
end
section
variable [En]
structure J1r(CW:Addr)(H:Hp)(ys:List V)(ss:List Sr):Prop where
 len:ys.length=ss.length
 at_:∀ (i:Nat) (s:Sr),ss[i]?=some s->∃ q,ys[i]?=some (.ref q)/\SrAt CW H q s
theorem J1r.same{CW:Addr}{H c:Hp}{a:List V}{b:List Sr}(h:J1r CW H a b)(k:Same H c):J1r CW c a b:=⟨h.len,fun i s e=>by obtain ⟨q,f,d⟩:=h.at_ i s e;exact ⟨q,f,d.same k⟩⟩
theorem J1r.keepD{CW d:Addr}{H g:Hp}{a xs:List V}{c:List Sr}(h:J1r CW H a c)(j:H d=some (.lst xs))(k:∀ b u,H b=some u->b≠d->g b=some u):J1r CW g a c:=
 ⟨h.len,fun i s e=>let ⟨q,e1,e2⟩:=h.at_ i s e;⟨q,e1,e2.keep (by
  intro z;obtain ⟨_,_,f,_⟩:=e2.ex;rw [z,j] at f;cases f) k⟩⟩
theorem J1r.snoc{CW:Addr}{H:Hp}{b:List V}{a:List Sr}{q:Addr}{s:Sr}(h:J1r CW H b a)(A:SrAt CW H q s):J1r CW H (b ++ [.ref q]) (a ++ [s]):=by
 have c:=h.len;refine ⟨by simp [c],fun i t e=>?_⟩;rcases Nat.lt_or_ge i a.length with hi | hi
 ·rw [getElem?_append_left hi] at e;obtain ⟨p,j,g⟩:=h.at_ i t e;exact ⟨p,by rw [getElem?_append_left (by lia)];exact j,g⟩
 ·rw [getElem?_append_right hi] at e;obtain ⟨f,l⟩:=List.getElem?_eq_some_iff.mp e;have d:i - a.length=0:=by simpa using f
  rw [d] at e;cases e;exact ⟨q,by rw [getElem?_append_right (by lia),c,d];rfl,A⟩
theorem J1r.init{CW:Addr}{H:Hp}{b:List V}{a:List Sr}(h:J1r CW H b a):J1r CW H b.dropLast a.dropLast:=by
 have c:=h.len;refine ⟨by simp [c],fun i t e=>?_⟩;rw [List.getElem?_dropLast] at e;by_cases hi:i < a.length - 1
 ·rw [if_pos hi] at e;obtain ⟨p,f,d⟩:=h.at_ i t e;exact ⟨p,by rw [List.getElem?_dropLast,if_pos (by lia)];exact f,d⟩
 ·rw [if_neg hi] at e;cases e
theorem Jmd{α:Type}{a:List α}{x:α}(h:a≠[]):a.set (a.length - 1) x=a.dropLast ++ [x]:=by
 rcases List.eq_nil_or_concat a with rfl | ⟨l,b,rfl⟩
 ·exact absurd rfl h
 ·rw [List.concat_eq_append,List.dropLast_concat,length_append,List.set_append_right _ _ (by simp)];simp
theorem Jfz{n:Nat}(h:1<=n):ixN n (-1)=some (n - 1):=by
 unfold ixN;rw [if_neg (by decide),if_pos (by lia)]
 congr 1
 lia
theorem J5b{α:Type}{xs:List α}{j:Nat}{x:α}(h:xs[j]?=some x):xs.take (j + 1)=xs.take j ++ [x]:=by
 obtain ⟨a,e⟩:=List.getElem?_eq_some_iff.mp h;rw [<- e];exact (List.take_append_getElem a).symm
theorem Jkc{a:List Sr}{i:Nat}{s:Sr}(h:a[i]?=some s):lgst (a.take (i + 1))=lstp (lgst (a.take i)) s:=by
 unfold lgst;rw [J5b h,List.foldl_append];rfl
theorem Jol(acc:List Sr)(s:Sr):(lstp acc s).length<=acc.length + 1:=by
 unfold lstp
 cases e:acc.getLast? with
 | none=>simp
 | some a=>dsimp only;split <;> simp
theorem Jg5:∀ (a acc:List Sr),(a.foldl lstp acc).length<=acc.length + a.length
 | [],acc=>Nat.le_refl _
 | s :: r,acc=>by
  have c:=Jg5 r (lstp acc s);have b:=Jol acc s;rw [List.foldl_cons,length_cons];lia
theorem J5h(a:List Sr):(lgst a).length<=a.length:=by
 have:=Jg5 a [];rw [List.length_nil,Nat.zero_add] at this;exact this
noncomputable def PvL(CW l d:Addr)(c:List Sr)(H:Hp)(i:Nat)(σ:St)(a:Hp):Prop:=∃ v b,σ=[some (.ref l),some (.ref d),v]/\a d=some (.lst b)/\J1r CW a b (lgst (c.take i))/\Same H a
inductive J67(CW:Addr)(vs:List V)(H:Hp)(Q:VK)(E:XK):Prop
 | mk(l:Addr)(e:List V)(b:List Sr)(_:vs=[.ref l])(_:H l=some (.lst e))(_:J1r CW H e b)(_:b.length<=1000)(_:∀ d c a,Same H a->a d=some (.lst c)->J1r CW a c (lgst b)->Q (.ref d) a)
theorem J8h:FS1 ["stretches","told","stretch"] J4b:=fsc
theorem Jgx{CW:Addr}(F:Fn1 J4b)(N:Ca1 2 Jcy (Jie CW))(M:Ca1 3 Jcu (Ji9 CW)):
  Ca1 4 J4b (J67 CW):=by
 refine F.ok J8h (fun f d A o s H vs Q E S h=>?_);obtain ⟨l,ys,p,rfl,T,B,hn,k⟩:=h;refine ⟨_,(J1 (Jf (i:=1) J8h.nd rfl (Or.inl rfl) (J2q J3))
  (J1 (J3s PassesOwn.never rfl (J33 (pv 0)) (J1y (i:=2) J8h.nd rfl (Or.inl rfl))
   (J7 (J24 (PW.pt (Jj0 (Jne (pv 1) (fun _=>rfl)) (Jdr (J3r (pcl N S Jg (J0 (Jp J4z (pv 1) (J9s J5p Ja)) (J0 (pv 2) J3))))))) (J7 (Jfh (pcl M S Jg (J0 (Jp J4z (pv 1) (J9s J5p Ja)) (J0 (pv 2) J3))) (Jfk (pv 1) (J9s J5p Ja) J7u))) (J7 (J1t (J6z PySem.F.plainAttrs_list PySem.F.slot_list_append PySem.F.type_list_append J31 (pv 1) (J0 (pv 2) J3)))))))
  (J7 (Jh (pv 1))))),?_⟩
 refine ⟨by show 0<=sizeLine;exact Nat.zero_le _,fun d hd=>?_⟩;have s0:=J9 (o:=.lst []) hd;refine ⟨_,rfl,l,rfl,⟨_,SqL.of (s0 _ _ T)⟩,J5i (K:=K) (a:=l) (xs:=ys) (PvL CW l d p H) ⟨none,[],rfl,J6,⟨rfl,fun i s e=>by simp [lgst] at e⟩,s0⟩ (fun i σ C _ h9=>by obtain ⟨_,_,_,_,_,s⟩:=h9;exact SqL.of (s _ _ T)) (fun i y σ C P pv=>?_) (fun σ C ⟨v,c,e,h,w,s⟩=>?_)⟩
 ·obtain ⟨v,c,rfl,j,w,I⟩:=pv;have hi:i < p.length:=by rw [<- B.len];exact (List.getElem?_eq_some_iff.mp P).1
  have X:p[i]?=some p[i]:=List.getElem?_eq_getElem hi;obtain ⟨q,eq,As⟩:=B.at_ i _ X;obtain rfl:V.ref q=y:=Option.some.inj (eq.symm.trans P);generalize p[i]=t0 at *;have m:=As.same I;have nx:=Jkc X;have zl:(lgst (p.take i)).length<=1000:=Nat.le_trans (J5h _) (by rw [length_take];lia);generalize lgst (p.take i)=acc at *;have Z:=w.len;have nd:∀ b u,H b=some u->b≠d:=fun b u e=>Jd e hd;have app:lstp acc t0=acc ++ [t0]->PvL CW l d p H (i + 1) [some (.ref l),some (.ref d),some (.ref q)] (upd C d (.lst (c ++ [.ref q]))):=fun e=>by
   refine ⟨_,_,rfl,J6,?_,fun b u x=>by rw [Jm (nd b u x)];exact I _ _ x⟩;rw [nx,e];have kp:∀ b u,C b=some u->b≠d->upd C d (.lst (c ++ [.ref q])) b=some u:=fun b u x n=>by rw [Jm n];exact x
   exact (w.keepD j kp).snoc (m.keep (by
    intro z;obtain ⟨_,_,U,_⟩:=m.ex;rw [z,j] at U;cases U) kp)
  by_cases D:c=[]
  ·have ae:acc=[]:=List.eq_nil_of_length_eq_zero (by rw [<- Z,D];rfl);refine ⟨_,rfl,false,.inl ⟨c,SqL.of j,by rw [D];rfl⟩,iteF (iteF ⟨_,rfl,.inl ⟨rfl,_,SqL.of j⟩,_,rfl,d,c,_,rfl,rfl,j,Nat.lt_of_le_of_lt (by lia) (J14 (Nat.le_refl _)),app (by rw [ae];rfl)⟩)⟩
  ·have O:1<=c.length:=by cases c with | nil=>exact absurd rfl D | cons a r=>simp
   have Y:acc[acc.length - 1]?=some (acc[acc.length - 1]'(by lia)):=List.getElem?_eq_getElem _;obtain ⟨J,L,Aa⟩:=w.at_ _ _ Y;have W:acc.getLast?=some (acc[acc.length - 1]'(by lia)):=by rw [List.getLast?_eq_getElem?];exact Y
   generalize acc[acc.length - 1]'(by lia)=a0 at *;have lst:atI c (-1)=some (.ref J):=by
    unfold atI;rw [Jfz O,Z];exact L
   refine ⟨_,rfl,true,.inl ⟨c,SqL.of j,by cases c with | nil=>exact absurd rfl D | cons a r=>rfl⟩,iteT ⟨_,rfl,1,rfl,d,c,_,_,rfl,rfl,SqL.of j,lst,_,rfl,J,q,a0,t0,rfl,Aa,m,gtog a0 t0,rfl,?_⟩⟩;by_cases g:gtog a0 t0=true
   ·show if gtog a0 t0=true then _ else _
    rw [if_pos g];refine ⟨_,rfl,1,rfl,d,c,_,_,rfl,rfl,SqL.of j,lst,_,rfl,J,q,a0,t0,rfl,Aa,m,fun r H3 G R fr=>⟨_,rfl,1,rfl,d,c,_,c.length - 1,rfl,rfl,G _ _ j,Jfz O,?_⟩⟩;refine ⟨_,_,rfl,J6,?_,fun b u x=>by rw [Jm (nd b u x)];exact G _ _ (I _ _ x)⟩;have el:lstp acc t0=acc.dropLast ++ [mk1 a0 t0]:=by unfold lstp;rw [W];exact if_pos g
    have kp:∀ b u,H3 b=some u->b≠d->upd H3 d (.lst (c.set (c.length - 1) (.ref r))) b=some u:=fun b u x n=>by rw [Jm n];exact x
    have R':=R.keep (fr _ _ j) kp;have A3:=((w.same G).keepD (G _ _ j) kp).init.snoc R';rw [nx,el];rw [<- Jmd D] at A3;exact A3
   ·show if gtog a0 t0=true then _ else _
    rw [if_neg g];exact ⟨_,rfl,.inl ⟨rfl,_,SqL.of j⟩,_,rfl,d,c,_,rfl,rfl,j,Nat.lt_of_le_of_lt (by lia) (J14 (Nat.le_refl _)),app (by unfold lstp;rw [W];exact if_neg g)⟩
 ·subst e;rw [B.len,take_length] at w;exact ⟨_,rfl,k d c C s h w⟩
end
section
variable [En]
noncomputable def lamP:Stmt->Pos
 | .Assign _ (.Call _ _ [⟨_,.Lambda _ _ _ p,_⟩] _) _=>p
 | _=>⟨0,0,0,0⟩
noncomputable abbrev lpLO:Pos:=lamP ((J1j (top 25)).getD 0 (.Pass ⟨0,0,0,0⟩))
theorem J1r.sameT{CW:Addr}{H c:Hp}{a:List V}{b:List Sr}(h:J1r CW H a b)(k:J22 H c):J1r CW c a b:=⟨h.len,fun i s e=>by obtain ⟨q,g,f⟩:=h.at_ i s e;exact ⟨q,g,by obtain ⟨j,fs,d,r⟩:=f.ex;exact ⟨j,fs,k _ _ d rfl,r⟩⟩⟩
theorem Same.t{H a:Hp}(s:Same H a):J22 H a:=fun b u e _=>s b u e
theorem J22.trans{H f d:Hp}(a:J22 H f)(b:J22 f d):J22 H d:=fun c u e z=>b c u (a c u e z) z
theorem J2o{H a:Hp}{P:Addr}{pos:Pos}{q:Str}(h:J2j H P pos q)(s:Same H a):J2j a P pos q:=
 by obtain ⟨ps,l,j,i⟩:=h.ex;exact ⟨ps,s _ _ l,j,fun m e=>by obtain ⟨c,g,vs,t,f,d,b⟩:=i m e;exact ⟨c,g,vs,t,f,s _ _ d,b⟩⟩
theorem lc_idx{K:Frag}{a d:Addr}{g:Hp}{j:TE}{σ:St}{js:List Nat}{Q:VK}(c:List V)(f:Nat->V)(l:SqL K g a c)(n:c.length<=1000)(hd:g d=none)(o:∀ (i:Nat) (v:V),c[i]?=some v->∀ H e,Same g H->(∀ b,Same H b->e (f i) b)->j (some v :: capv σ js) H e)(m:∀ b,Same g b->b d=some (.lst ((List.range c.length).map f))->Q (.ref d) b):LCW (Itl K a) tYes j σ js Q g d:=
 Jbd c.length (fun _=>true) f hd n (fun i H hi s=>⟨_,_,s.seq l,List.getElem?_eq_getElem hi⟩) (fun H s=>⟨_,s.seq l,Nat.le_refl _⟩) (fun i=>(c[i]?).getD .non)
  (fun i H v b hi s y=>⟨y.1,by rw [y.2 _ (s.seq l)];rfl⟩) (fun i H p hi s k=>k H (Same.refl _))
  (fun i H e hi _ s k=>by
   show j (some ((c[i]?).getD .non) :: capv σ js) H e;rw [List.getElem?_eq_getElem hi];exact o i _ (List.getElem?_eq_getElem hi) H e s k) (fun b s h=>m b s (by rw [J3v] at h;exact h))
theorem Jiz{α β:Type}(xs:List α)(g:α->β)(f:Nat->β)(h:∀ i x,xs[i]?=some x->f i=g x):(List.range xs.length).map f=xs.map g:=by
 apply ext_getElem?;intro i;rw [getElem?_map,getElem?_map];by_cases hi:i < xs.length
 ·rw [getElem?_range hi,List.getElem?_eq_getElem hi];exact congrArg some (h i _ (List.getElem?_eq_getElem hi))
 ·rw [getElem?_eq_none (by simpa using hi),getElem?_eq_none (by simpa using hi)];rfl
theorem Jhr(ks:List Int):ks.zip ((List.range ks.length).map fun (i:Nat)=>V.int (i:Int))=(List.range ks.length).map fun (i:Nat)=>(ks.getD i 0,V.int (i:Int)):=by
 apply ext_getElem?;intro i;by_cases hi:i < ks.length
 ·have b:ks[i]?=some (ks.getD i 0):=by rw [getD_eq_getElem?_getD,List.getElem?_eq_getElem hi];rfl
  have a:((List.range ks.length).map fun (i:Nat)=>V.int (i:Int))[i]?=some (V.int (i:Int)):=by rw [getElem?_map,getElem?_range hi];rfl
  rw [getElem?_map,getElem?_range hi];have:=(List.getElem?_zip_eq_some (l₁:=ks) (l₂:=(List.range ks.length).map fun (i:Nat)=>V.int (i:Int)) (i:=i) (z:=(ks.getD i 0,V.int (i:Int)))).mpr ⟨b,a⟩;exact this
 ·rw [getElem?_eq_none (by simp;lia),getElem?_eq_none (by simpa using hi)]
noncomputable def J3a(P:Addr)(H a:Hp):Prop:=∀ (Q:Addr) (pos:Pos) (q:Str),Q≠P->J2j H Q pos q->J2j a Q pos q
theorem J3a.same{P:Addr}{H a:Hp}(s:Same H a):J3a P H a:=fun _ _ _ _ t=>J2o t s
theorem J3a.trans{P:Addr}{H d c:Hp}(a:J3a P H d)(b:J3a P d c):J3a P H c:=fun Q p q n t=>b Q p q n (a Q p q n t)
inductive J7t(C CW c:Addr)(e:Str)(vs:List V)(H:Hp)(Q:VK)(E:XK):Prop
 | mk(l:Addr)(d:List V)(a:List Sr)(_:vs=[.ref l])(_:H l=some (.lst d))(_:J1r CW H d a)(_:J2j H c lpLO e)(_:a.length < 64)(_:(∀ os:List Nat,os.Perm (List.range a.length)->os.Pairwise (fun i j=>(a.map Sr.la).getD i 0<=(a.map Sr.la).getD j 0)->Good (a.map Sr.le) os/\∀ x b,J22 H b->J2j b c lpLO e->J3a c H b->J2e C b x (a.map Sr.le) os (a.map Sr.tu)->Q (.ref x) b))
theorem Jaz:Jr ["stretches","order","lengths"] ["stretches"] (Je (top 25)):=fsc
theorem Jjs{f C CW TB cc:Addr}{fd:FuncData}(F:Fun K "line_of" "line_of" (top 25) f fd)(T:TxtR mg)(j:mg "sorted"=none)(Y:Jbo K CW)(M:fd.code=.ref cc)(CD:PySem.W.codeHdIn K cc TB=true)(BL:J9y base mg TB)(cI:Mak CX0 3 "Line" C ["self","lengths","order","turned"] [] (Jf8 C)):
  FnOk P w K mg base CX0 5 f fd ["stretches"] (J7t C CW TB "line_of.<locals>.<lambda>"):=by
 refine F.okK M Jaz (fun vs H Q E h=>?_) (fun A outer s H vs Q E hr h=>?_)
 ·obtain ⟨l,m,a,rfl,_⟩:=h;rfl
 ·obtain ⟨l,m,a,rfl,hl,B,TT,hn,k⟩:=h;refine ⟨_,(J1 (Jf (i:=1) Jaz.nd rfl (Or.inl rfl) (Jb9 (x:="piece") (caps:=["stretches"]) (js:=[0]) rfl (hr.mono (by decide)) (by rfl) j rfl rfl rfl CD BL ⟨rfl,rfl,rfl,by decide +kernel,rfl,(by intro p hp;simp only [mem_cons,not_mem_nil,or_false] at hp;rcases hp with rfl;rfl),J50.get rfl,rfl,fun k c e=>match k,e with | 0,e=>by cases e;exact ⟨0,_,rfl,rfl,rfl,rfl,rfl⟩ | k + 1,e=>by simp at e⟩ (fun _ _ _ _=>rfl) (fun A f c s H=>(J3u K (J8k (Jfy K) (pv 1) (pv 0)))) (J15 J89 (by rfl) T.range PyProof.Rows.boot_range (J0 (Jw J12 (by rfl) T.len boot_len (J0 (pv 0) J3)) J3))))
   (J1 (Jnf (i:=2) (caps:=[]) (js:=[]) Jaz.nd rfl (Or.inl rfl) rfl (J33 (pv 0)) rfl (fun _ _ _ _=>J3l) (fun C fp s H=>(J3u K (pv 0))))
   (J7 (Jh (pmk cI hr Jg (J0 (pv 2) (J0 (pv 1) (J0 (Jc6 (caps:=[]) (js:=[]) rfl (J33 (pv 0)) rfl (fun _ _ _ _=>J3l) (fun C fp s H=>(J3u K (pv 0)))) J3)))))))),?_⟩
  have bl:=B.len;refine ⟨_,rfl,l,m,rfl,.inl (SqL.of hl),_,rfl,fun r ab=>?_⟩;have J:=J9 (o:=.rng 0 (m.length:Int)) ab;refine ⟨r,(List.range a.length).map fun (i:Nat)=>V.int (i:Int),a.map Sr.la,rfl,.inr ⟨m.length,J6,by rw [bl]⟩,(by rw [length_map,length_range];exact hn),(by simp),J2o TT J,fun U N i y z ey ek=>?_,fun U lo zs N T2 TQ ad pm pw=>?_⟩
  ·have hi:i < a.length:=by have:=(List.getElem?_eq_some_iff.mp ey).1;simpa using this
   rw [getElem?_map,getElem?_range hi] at ey;cases ey;obtain ⟨q,eq,Aq⟩:=B.at_ i _ (List.getElem?_eq_getElem hi);rw [getElem?_map,List.getElem?_eq_getElem hi] at ek;cases ek;obtain ⟨S,fs,h0,lF,lL,lA,lT⟩:=Aq.ex;exact ⟨_,rfl,_,rfl,l,m,_,_,rfl,rfl,SqL.of (N _ _ (J _ _ hl) rfl),Jc eq,q,CW,S,fs,_,rfl,N _ _ (J _ _ h0) rfl,Y.cl,Y.nA,lA,rfl,rfl⟩
  have zr:(a.map Sr.la).zip ((List.range a.length).map fun (i:Nat)=>V.int (i:Int))=(List.range a.length).map fun (i:Nat)=>((a.map Sr.la).getD i 0,V.int (i:Int)):=by
   have:=Jhr (a.map Sr.la);rwa [length_map] at this
  rw [zr] at pm;obtain ⟨os,po,rfl⟩:=Jb8 pm rfl;rw [pairwise_map] at pw;obtain ⟨gd,k⟩:=k os po pw;have en:(os.map fun (i:Nat)=>((a.map Sr.la).getD i 0,V.int (i:Int))).map Prod.snd=nV os:=by rw [map_map,J4i];rfl
  rw [en];have X:=J9 (o:=.lst (nV os)) ad;have D:=X _ _ (N _ _ (J _ _ hl) rfl);have B3:J1r CW (upd U lo (.lst (nV os))) m a:=((B.same J).sameT N).same X;have T3:=J2o T2 X;have aj:J3a TB H (upd U lo (.lst (nV os))):=(J3a.same J).trans (J3a.trans (fun Q p q n t=>TQ Q p q n t) (J3a.same X));have ho:upd U lo (.lst (nV os)) lo=some (.lst (nV os)):=J6;have aa:J22 H (upd U lo (.lst (nV os))):=J22.trans (J22.trans (Same.t J) N) (Same.t X);generalize upd U lo (.lst (nV os))=H3 at *;have lc:∀ (G:Hp) (σ:St) (d:Addr) (g:Sr->V) (nm:Str) (QQ:VK),J1r CW G m a->G l=some (.lst m)->G d=none->J19 K CW nm->(∀ (fs:List (Str × V)) (s:Sr),fs.lookup ("first":Str)=some (.int s.fi)/\fs.lookup ("length":Str)=some (.int s.le)/\fs.lookup ("laid":Str)=some (.int s.la)/\fs.lookup ("turned":Str)=some (.bl s.tu)->fs.lookup nm=some (g s))->
    (∀ I,Same G I->I d=some (.lst (a.map g))->QQ (.ref d) I)->LCW (Itl K l) tYes (tFld K (tVar 0) nm) σ [] QQ G d:=fun G σ d g nm QQ B4 h4 hd na lk q=>by
   refine lc_idx m (fun i=>((a[i]?).map g).getD .non) (SqL.of h4) (by lia) hd (fun i v hv H5 Qe O ke=>?_) (fun I s' h'=>q I s' ?_)
   ·have hi:i < a.length:=by have:=(List.getElem?_eq_some_iff.mp hv).1;lia
    obtain ⟨q',eq,Aq⟩:=B4.at_ i _ (List.getElem?_eq_getElem hi);obtain rfl:V.ref q'=v:=Option.some.inj (eq.symm.trans hv);obtain ⟨S,fs,h0,lF,lL,lA,lT⟩:=Aq.ex;refine ⟨_,rfl,q',CW,S,fs,_,rfl,O _ _ h0,Y.cl,na,lk fs _ ⟨lF,lL,lA,lT⟩,?_⟩;have:=ke H5 (Same.refl _);rw [List.getElem?_eq_getElem hi] at this;exact this
   ·rw [h',bl];exact congrArg (fun x=>some (HO.lst x)) (Jiz a g _ fun i x e=>by show ((a[i]?).map g).getD .non=g x;rw [e];rfl)
  refine ⟨_,rfl,l,rfl,⟨_,SqL.of D⟩,fun d1 ag=>lc H3 _ d1 (fun s=>.int s.le) "length" _ B3 D ag Y.nL (fun fs s h=>h.2.1) (fun G R e4=>?_)⟩;refine ⟨_,rfl,_,rfl,_,rfl,l,rfl,⟨_,SqL.of (R _ _ D)⟩,fun d2 af=>lc G _ d2 (fun s=>.bl s.tu) "turned" _ (B3.same R) (R _ _ D) af Y.nT (fun fs s h=>h.2.2.2) (fun H5 O e5=>?_)⟩;have ai:G d1=some (.lst (iV (a.map Sr.le))):=by rw [e4];exact congrArg (fun x=>some (HO.lst x)) (by show _=List.map V.int (a.map Sr.le);rw [map_map];rfl)
  have ah:H5 d2=some (.lst (bV (a.map Sr.tu))):=by rw [e5];exact congrArg (fun x=>some (HO.lst x)) (by show _=List.map V.bl (a.map Sr.tu);rw [map_map];rfl)
  intro x S hx ae ac;have Z:=(J9 (o:=.own x) ae).trans (J9 (l:=x) (o:=.ins C S []) (by rw [Jm (Ne.symm ac)];exact hx));refine ⟨x,S,d1,lo,.ref d2,a.map Sr.le,os,a.map Sr.tu,rfl,J6,.inl (Z _ _ (O _ _ ai)),.inl (Z _ _ (O _ _ (R _ _ ho))),gd,⟨by simp,.inr ⟨d2,rfl,.inl (Z _ _ ah)⟩⟩,fun I L kp=>⟨rfl,?_⟩⟩;have s7:Same H3 I:=fun b u e=>kp _ _ (Z _ _ (O _ _ (R _ _ e))) (Jd (O _ _ (R _ _ e)) hx);exact k x I (J22.trans aa (Same.t s7)) (J2o T3 s7) (aj.trans (J3a.same s7)) L
end
section
variable [En]
theorem Refs.srs{CW:Addr}{H:Hp}{a:List V}{ls:List Int}{os:List Nat}{ts:List Bool}(h:Refs (fun q i=>SrAt CW H q (srO ls os ts i)) a ls.length):J1r CW H a (srsL ls os ts):=by
 refine ⟨by unfold srsL;rw [h.len];simp,fun i s e=>?_⟩;have hi:i < ls.length:=by have:=(List.getElem?_eq_some_iff.mp e).1;simpa [srsL] using this
 unfold srsL at e;rw [getElem?_map,getElem?_range hi] at e;cases e;exact h.at_ i hi
theorem J35(ls:List Int)(os:List Nat)(ts:List Bool):(srsL ls os ts).length=ls.length:=by unfold srsL;simp
end
section
variable [En]
inductive Jf4(CW:Addr)(vs:List V)(H:Hp)(Q:VK)(E:XK):Prop
 | mk(p q:Addr)(o t:Sr)(_:vs=[.ref p,.ref q])(_:SrAt CW H p o)(_:SrAt CW H q t)(_:∀ d b a,H d=none->Same H a->a d=some (.lst b)->J1r CW a b (J38 o t)->Q (.ref d) a)
theorem J41:FS1 ["one","two","begin","one_end","two_end","end","first","laid"] J9g:=fsc
theorem Jjm{CW:Addr}(F:Fn1 J9g)(b:Jbo K CW)(D:mg "max"=none)(C:mg "min"=none)(L:Mak CX0 1 "Stretch" CW ["self","first","length","laid","turned"] [] (spSr CW)):
  Ca1 3 J9g (Jf4 CW):=by
 refine F.ok J41 (fun f d A o s H vs Q E U h=>?_);obtain ⟨p,q,o,t,rfl,A0,B0,k⟩:=h;refine ⟨_,(J1 (J4r (Jf (i:=2) J41.nd rfl (Or.inl rfl) (Jw (Jlv rfl) (by rfl) D PyProof.Rows.boot_max (J0 (J8 (pv 0)) (J0 (J8 (pv 1)) J3)))))
  (J1 (J4r (Jf (i:=3) J41.nd rfl (Or.inl rfl) (Jl J1b (J8 (pv 0)) (J8 (pv 0)))))
  (J1 (J4r (Jf (i:=4) J41.nd rfl (Or.inl rfl) (Jl J1b (J8 (pv 1)) (J8 (pv 1)))))
  (J1 (J4r (Jf (i:=5) J41.nd rfl (Or.inl rfl) (Jw (J9p rfl) (by rfl) C boot_min (J0 (pv 3) (J0 (pv 4) J3)))))
  (J1 (J24 (Jq Jgv (pv 2) (pv 5) (Jv _)) (J7 (Jh (J2q J3))) J13)
  (J1 (J4r (Jf (i:=6) J41.nd rfl (Or.inl rfl) (Jl J1b (J8 (pv 0)) (J2y (J3r (J8 (pv 0))) (Jl J1u (pv 3) (pv 5)) (Jl J1u (pv 2) (J8 (pv 0)))))))
  (J1 (J4r (Jf (i:=7) J41.nd rfl (Or.inl rfl) (Jl J1b (J8 (pv 1)) (J2y (J3r (J8 (pv 1))) (Jl J1u (pv 4) (pv 5)) (Jl J1u (pv 2) (J8 (pv 1)))))))
  (J7 (Jh (J2q (J0 (pmk L U Jg (J0 (pv 6) (J0 (Jl J1u (pv 5) (pv 2)) (J0 (pv 7) (J0 (J4u J9t (J8 (pv 0)) (J8 (pv 1)) (Jv _)) J3))))) J3))))))))))),?_⟩
 obtain ⟨w,m,B,aF,aL,N,S⟩:=A0.ex;obtain ⟨u,j,y,M,Y,Z,P⟩:=B0.ex;refine ⟨fun σ' g=>σ'=[some (.ref p),some (.ref q),some (.int (jb o t)),none,none,none,none,none]/\H=g,?_,?_⟩
 ·exact ⟨_,rfl,p,CW,w,m,_,rfl,B,b.cl,b.nA,N,_,rfl,q,CW,u,j,_,rfl,y,b.cl,b.nF,M,_,_,rfl,rfl,rfl⟩
 rintro σ _ ⟨rfl,rfl⟩;refine ⟨fun σ' g=>σ'=[some (.ref p),some (.ref q),some (.int (jb o t)),some (.int (o.la + o.le)),none,none,none,none]/\H=g,?_,?_⟩
 ·exact ⟨_,rfl,p,CW,w,m,_,rfl,B,b.cl,b.nA,N,_,rfl,p,CW,w,m,_,rfl,B,b.cl,b.nL,aL,_,_,rfl,rfl,rfl,rfl⟩
 rintro σ _ ⟨rfl,rfl⟩;refine ⟨fun σ' g=>σ'=[some (.ref p),some (.ref q),some (.int (jb o t)),some (.int (o.la + o.le)),some (.int (t.fi + t.le)),none,none,none]/\H=g,?_,?_⟩
 ·exact ⟨_,rfl,q,CW,u,j,_,rfl,y,b.cl,b.nF,M,_,rfl,q,CW,u,j,_,rfl,y,b.cl,b.nL,Y,_,_,rfl,rfl,rfl,rfl⟩
 rintro σ _ ⟨rfl,rfl⟩;refine ⟨fun σ' g=>σ'=[some (.ref p),some (.ref q),some (.int (jb o t)),some (.int (o.la + o.le)),some (.int (t.fi + t.le)),some (.int (je o t)),none,none]/\H=g,?_,?_⟩
 ·exact ⟨_,rfl,_,rfl,_,_,rfl,rfl,rfl⟩
 rintro σ _ ⟨rfl,rfl⟩;refine ⟨_,rfl,_,rfl,_,_,rfl,rfl,_,rfl,?_⟩;by_cases c:je o t<=jb o t
 ·refine J48 c ⟨by show 0<=sizeLine;exact Nat.zero_le _,fun d hd=>k d [] _ hd (J9 hd) J6 ?_⟩;have e:J38 o t=[]:=by unfold J38;exact if_pos c
  rw [e];exact ⟨rfl,fun i s z=>by simp at z⟩
 refine iteD c ?_;have ep:J38 o t=[J1m o t]:=by unfold J38;exact if_neg c
 refine ⟨fun σ' g=>σ'=[some (.ref p),some (.ref q),some (.int (jb o t)),some (.int (o.la + o.le)),some (.int (t.fi + t.le)),some (.int (je o t)),some (.int (J1m o t).fi),none]/\H=g,?_,?_⟩
 ·refine ⟨_,rfl,p,CW,w,m,_,rfl,B,b.cl,b.nF,aF,_,rfl,p,CW,w,m,_,rfl,B,b.cl,b.nT,S,o.tu,rfl,?_⟩;by_cases e:o.tu=true
  ·refine J90 e ⟨_,rfl,_,rfl,_,_,rfl,rfl,_,_,rfl,rfl,?_,rfl⟩;rw [show (J1m o t).fi=o.fi + (o.la + o.le - je o t) by unfold J1m;rw [if_pos e]];rfl
  ·refine J91 e ⟨_,rfl,_,rfl,p,CW,w,m,_,rfl,B,b.cl,b.nA,N,_,_,rfl,rfl,_,_,rfl,rfl,?_,rfl⟩;rw [show (J1m o t).fi=o.fi + (jb o t - o.la) by unfold J1m;rw [if_neg e]];rfl
 rintro σ _ ⟨rfl,rfl⟩;refine ⟨fun σ' g=>σ'=[some (.ref p),some (.ref q),some (.int (jb o t)),some (.int (o.la + o.le)),some (.int (t.fi + t.le)),some (.int (je o t)),some (.int (J1m o t).fi),some (.int (J1m o t).la)]/\H=g,?_,?_⟩
 ·refine ⟨_,rfl,q,CW,u,j,_,rfl,y,b.cl,b.nA,Z,_,rfl,q,CW,u,j,_,rfl,y,b.cl,b.nT,P,t.tu,rfl,?_⟩;by_cases e:t.tu=true
  ·refine J90 e ⟨_,rfl,_,rfl,_,_,rfl,rfl,_,_,rfl,rfl,?_,rfl⟩;rw [show (J1m o t).la=t.la + (t.fi + t.le - je o t) by unfold J1m;dsimp only;rw [if_pos e]];rfl
  ·refine J91 e ⟨_,rfl,_,rfl,q,CW,u,j,_,rfl,y,b.cl,b.nF,M,_,_,rfl,rfl,_,_,rfl,rfl,?_,rfl⟩;rw [show (J1m o t).la=t.la + (jb o t - t.fi) by unfold J1m;dsimp only;rw [if_neg e]];rfl
 rintro σ _ ⟨rfl,rfl⟩;refine ⟨_,rfl,_,rfl,_,rfl,_,_,rfl,rfl,_,rfl,_,rfl,p,CW,w,m,_,rfl,B,b.cl,b.nT,S,_,rfl,q,CW,u,j,_,rfl,y,b.cl,b.nT,P,rfl,fun x X T J I=>J8d (CW:=CW) (H:=H) (f:=(J1m o t).fi) (l:=je o t - jb o t) (a:=(J1m o t).la) (t:=!decide (V.bl o.tu=V.bl t.tu)) (Q:=fun v G=>1<=sizeLine/\∀ p,G p=none->Q (V.ref p) (upd G p (.lst [v]))) (fun r G O R fr=>⟨by show 1<=sizeLine;decide,fun d hd=>k d [.ref r] _ (O.free hd) (O.trans (J9 hd)) J6 ?_⟩) x X T J I⟩;have W:(!decide (V.bl o.tu=V.bl t.tu))=(o.tu != t.tu):=by cases o.tu <;> cases t.tu <;> rfl
 rw [W] at R;have R':SrAt CW G r (J1m o t):=R;rw [ep];refine ⟨rfl,fun i s z=>?_⟩
 match i,z with
 | 0,z=>cases Option.some.inj z;exact ⟨r,rfl,R'.same (J9 hd)⟩
 | n + 1,z=>simp at z
end
section
variable [En]
noncomputable def lamPR:Stmt->Pos
 | .Return (some (.Call _ [.Call _ _ [⟨_,.Lambda _ _ _ p,_⟩] _] _ _)) _=>p
 | .Return (some (.Call _ _ [⟨_,.Lambda _ _ _ p,_⟩] _)) _=>p
 | _=>⟨0,0,0,0⟩
noncomputable abbrev lpJS:Pos:=lamPR ((J1j (top 28)).getD 2 (.Pass ⟨0,0,0,0⟩))
theorem J1r.app{CW:Addr}{H:Hp}{h g:List V}{c j:List Sr}(a:J1r CW H h c)(b:J1r CW H g j):J1r CW H (h ++ g) (c ++ j):=by
 have l:=a.len;refine ⟨by rw [length_append,length_append,a.len,b.len],fun i s e=>?_⟩;rcases Nat.lt_or_ge i c.length with hi | hi
 ·rw [getElem?_append_left hi] at e;obtain ⟨q,f,d⟩:=a.at_ i s e;exact ⟨q,by rw [getElem?_append_left (by lia)];exact f,d⟩
 ·rw [getElem?_append_right hi] at e;obtain ⟨q,f,d⟩:=b.at_ _ s e;exact ⟨q,by rw [getElem?_append_right (by lia),l];exact f,d⟩
theorem Jqf{J:List Sr}{xs:List V}(h:xs.length=J.length):(J.map Sr.fi).zip xs=(List.range J.length).map fun i=>((J.getD i s0).fi,xs.getD i .non):=by
 apply ext_getElem?;intro i;by_cases hi:i < J.length
 ·rw [getElem?_map,getElem?_range hi];refine (List.getElem?_zip_eq_some (z:=((J.getD i s0).fi,xs.getD i .non))).mpr ⟨?_,?_⟩
  ·rw [getElem?_map,List.getElem?_eq_getElem hi,getD_eq_getElem?_getD,List.getElem?_eq_getElem hi];rfl
  ·show xs[i]?=some (xs.getD i .non);rw [getD_eq_getElem?_getD,List.getElem?_eq_getElem (by lia:i < xs.length)];rfl
 ·rw [getElem?_eq_none (by simp;lia),getElem?_eq_none (by simpa using hi)]
theorem Je8(J:List Sr):(List.range J.length).map (fun i=>J.getD i s0)=J:=by
 refine List.ext_getElem (by simp) fun i b a=>?_;rw [List.getElem_map,List.getElem_range,getD_eq_getElem?_getD,List.getElem?_eq_getElem a];rfl
theorem Ji1{CW:Addr}{H:Hp}{xs:List V}{J:List Sr}(B:J1r CW H xs J){c:List (Int × V)}(f:c.Perm ((J.map Sr.fi).zip xs))(d:c.Pairwise (fun a b=>a.1<=b.1)):
  ∃ L,L.Perm J/\L.Pairwise (fun s t=>s.fi<=t.fi)/\J1r CW H (c.map Prod.snd) L:=by
 rw [Jqf B.len] at f;obtain ⟨g,po,rfl⟩:=Jb8 f rfl;rw [pairwise_map] at d;refine ⟨g.map fun i=>J.getD i s0,?_,?_,?_⟩
 ·have:=po.map fun i=>J.getD i s0;rwa [Je8] at this
 ·rw [pairwise_map];exact d
 ·refine ⟨by simp,fun i s e=>?_⟩;rw [getElem?_map] at e
  cases q:g[i]? with
  | none=>rw [q] at e;cases e
  | some j =>
   rw [q] at e;cases e;have h:j < J.length:=mem_range.mp (po.mem_iff.mp (List.mem_of_getElem? q));obtain ⟨a,m,l⟩:=B.at_ j (J.getD j s0) (getL h);refine ⟨a,?_,l⟩;rw [getElem?_map,getElem?_map,q];show some (xs.getD j .non)=_;rw [getD_eq_getElem?_getD,m];rfl
inductive Jau(CW e:Addr)(vs:List V)(H:Hp)(Q:VK)(E:XK):Prop
 | mk(a b:Addr)(xs g:List V)(os ts:List Sr)(_:vs=[.ref a,.ref b])(_:H a=some (.lst xs))(_:H b=some (.lst g))(_:J1r CW H xs os)(_:J1r CW H g ts)(_:(jn os ts).length < 64)(_:os.length<=1000)(_:ts.length<=1000)(_:J2j H e lpJS "joined_stretches.<locals>.<lambda>")(_:∀ L d f c,L.Perm (jn os ts)->L.Pairwise (fun s t=>s.fi<=t.fi)->J22 H c->J2j c e lpJS "joined_stretches.<locals>.<lambda>"->J3a e H c->c d=some (.lst f)->J1r CW c f (lgst L)->Q (.ref d) c)
theorem Js6{os ts:List Sr}{i:Nat}{o:Sr}(h:os[i]?=some o):jn (os.take (i + 1)) ts=jn (os.take i) ts ++ ts.flatMap (J38 o):=by
 unfold jn;rw [J5b h,flatMap_append,flatMap_cons,List.flatMap_nil,append_nil]
theorem Jkz{ts:List Sr}{o:Sr}{j:Nat}{t:Sr}(h:ts[j]?=some t):(ts.take (j + 1)).flatMap (J38 o)=(ts.take j).flatMap (J38 o) ++ J38 o t:=by
 rw [J5b h,flatMap_append,flatMap_cons,List.flatMap_nil,append_nil]
theorem fm_le{ts:List Sr}{o:Sr}(j:Nat):((ts.take j).flatMap (J38 o)).length<=(ts.flatMap (J38 o)).length:=by
 have:ts.flatMap (J38 o)=(ts.take j).flatMap (J38 o) ++ (ts.drop j).flatMap (J38 o):=by rw [<- flatMap_append,take_append_drop]
 rw [this,length_append];lia
theorem jn_le{os ts:List Sr}(i:Nat):(jn (os.take i) ts).length<=(jn os ts).length:=by
 have:jn os ts=jn (os.take i) ts ++ jn (os.drop i) ts:=by unfold jn;rw [<- flatMap_append,take_append_drop]
 rw [this,length_append];lia
theorem Jb1:Jr ["ones","twos","parts","one","two"] ["ones","twos"] (Je (top 28)):=fsc
theorem Jo5{f CW TJ cc:Addr}{fd:FuncData}(F:Fun K "joined_stretches" "joined_stretches" (top 28) f fd)(T:TxtR mg)(r:mg "sorted"=none)(TW:Jbo K CW)(D:fd.code=.ref cc)(CD:PySem.W.codeHdIn K cc TJ=true)(BL:J9y base mg TJ)(ad:Ca1 3 J9g (Jf4 CW))(ae:Ca1 4 J4b (J67 CW)):
  FnOk P w K mg base CX0 5 f fd ["ones","twos"] (Jau CW TJ):=by
 refine F.okK D Jb1 (fun vs H Q E h=>?_) (fun A outer s H vs Q E hr h=>?_)
 ·obtain ⟨a,b,xs,ys,os,ts,rfl,_⟩:=h;rfl
 ·obtain ⟨a,b,xs,ys,os,ts,rfl,ha,hb,A,B,ac,n1,n2,TT,k⟩:=h;refine ⟨_,(J1 (Jf (i:=2) Jb1.nd rfl (Or.inl rfl) (J2q J3))
   (J1 (J3s PassesOwn.never rfl (J33 (pv 0)) (J1y (i:=3) Jb1.nd rfl (Or.inl rfl))
    (J7 (J3s PassesOwn.never rfl (J33 (pv 1)) (J1y (i:=4) Jb1.nd rfl (Or.inl rfl))
     (J7 (J1t (J6z PySem.F.plainAttrs_list PySem.F.slot_list_extend PySem.F.type_list_extend Jca (pv 2) (J0 (pcl ad hr Jg (J0 (pv 3) (J0 (pv 4) J3))) J3)))))))
   (J7 (Jh (pcl ae hr Jg (J0 (Jb9 (x:="part") (caps:=[]) (js:=[]) rfl (hr.mono (by decide)) (by rfl) r rfl rfl rfl CD BL ⟨rfl,rfl,rfl,by decide +kernel,rfl,(by intro p hp;cases hp),J50.get rfl,rfl,fun k c e=>by simp at e⟩ (fun _ _ _ _=>rfl) (fun A f c s H=>(J3u K (pv 0))) (pv 2)) J3)))))),?_⟩
  refine ⟨by show 0<=sizeLine;exact Nat.zero_le _,fun d hd=>?_⟩;have M:=J9 (o:=.lst []) hd;have nd:∀ {b':Addr} {u:HO},H b'=some u->b'≠d:=fun {b' u} e=>Jd e hd;have sm:=J14 (n:=100) (by decide);refine ⟨_,rfl,a,rfl,⟨_,SqL.of (M _ _ ha)⟩,J5i (K:=K) (a:=a) (xs:=xs) (fun i σ I=>∃ v3 v m,σ=[some (.ref a),some (.ref b),some (.ref d),v3,v]/\I d=some (.lst m)/\J1r CW I m (jn (os.take i) ts)/\Same H I)
   ⟨none,none,[],rfl,J6,⟨rfl,fun i s e=>by simp [jn] at e⟩,M⟩ (fun i σ I _ ⟨_,_,_,_,_,_,s⟩=>SqL.of (s _ _ ha)) (fun i y σ I N pv=>?_) (fun σ I ⟨v3,v,m,e,C,Z,s⟩=>?_)⟩
  ·obtain ⟨v3,v,m,rfl,C,Z,sw⟩:=pv;have hi:i < os.length:=by rw [<- A.len];exact (List.getElem?_eq_some_iff.mp N).1
   have eo:os[i]?=some os[i]:=List.getElem?_eq_getElem hi;obtain ⟨p,ep,Ap⟩:=A.at_ i _ eo;obtain rfl:V.ref p=y:=Option.some.inj (ep.symm.trans N);generalize os[i]=o at eo Ap;have sj:=Js6 (ts:=ts) eo;have aa:=jn_le (ts:=ts) (os:=os) (i + 1);rw [sj,length_append] at aa;refine ⟨_,rfl,b,rfl,⟨_,SqL.of (sw _ _ hb)⟩,J5i (K:=K) (a:=b) (xs:=ys) (fun j σ G=>∃ v m,σ=[some (.ref a),some (.ref b),some (.ref d),some (.ref p),v]/\G d=some (.lst m)/\J1r CW G m (jn (os.take i) ts ++ (ts.take j).flatMap (J38 o))/\Same H G)
    ⟨v,m,rfl,C,by rw [show (ts.take 0).flatMap (J38 o)=[] from rfl,append_nil];exact Z,sw⟩ (fun j σ G _ ⟨_,_,_,_,_,s⟩=>SqL.of (s _ _ hb)) (fun j y σ G N pv=>?_) (fun σ G ⟨v,m,e,g,Z,s⟩=>?_)⟩
   ·obtain ⟨v,m,rfl,g,Z,sx⟩:=pv;have hj:j < ts.length:=by rw [<- B.len];exact (List.getElem?_eq_some_iff.mp N).1
    have X:ts[j]?=some ts[j]:=List.getElem?_eq_getElem hj;obtain ⟨q,eq,Bq⟩:=B.at_ j _ X;obtain rfl:V.ref q=y:=Option.some.inj (eq.symm.trans N);generalize ts[j]=t at X Bq;have zl:=Z.len;rw [length_append] at zl;have f1:=fm_le (ts:=ts) (o:=o) (j + 1);rw [Jkz X,length_append] at f1;refine ⟨_,rfl,.inl ⟨rfl,_,SqL.of g⟩,_,rfl,_,rfl,p,q,o,t,rfl,Ap.same sx,Bq.same sx,fun e O Hy he J ab W=>⟨d,e,m,O,rfl,rfl,J _ _ g,ab,(by rw [W.len];lia),?_⟩⟩;have af:e≠d:=fun z=>by rw [z,g] at he;cases he
    have kp:∀ b' u,Hy b'=some u->b'≠d->upd Hy d (.lst (m ++ O)) b'=some u:=fun b' u Y n=>by rw [Jm n];exact Y
    refine ⟨_,_,rfl,J6,?_,fun b' u Y=>kp _ _ (J _ _ (sx _ _ Y)) (nd Y)⟩;rw [Jkz X,<- List.append_assoc];exact ((Z.same J).keepD (J _ _ g) kp).app (W.keepD (J _ _ g) kp)
   ·subst e;rw [B.len,take_length,<- sj] at Z;exact ⟨_,_,_,rfl,g,Z,s⟩
  subst e;rw [A.len,take_length] at Z;have zl:=Z.len;refine ⟨_,rfl,d,m,(jn os ts).map Sr.fi,rfl,.inl C,(by rw [zl];exact ac),(by rw [length_map,zl]),J2o TT s,fun H2 R i y z ey ek=>?_,fun H2 l us R T2 TQ hl pm pw=>?_⟩
  ·have hi:i < (jn os ts).length:=by rw [<- zl];exact (List.getElem?_eq_some_iff.mp ey).1
   obtain ⟨q,eq,Aq⟩:=Z.at_ i _ (List.getElem?_eq_getElem hi);obtain rfl:V.ref q=y:=Option.some.inj (eq.symm.trans ey);rw [getElem?_map,List.getElem?_eq_getElem hi] at ek;cases ek;obtain ⟨dx,fs,h0,lF,lL,lA,lT⟩:=Aq.ex;exact ⟨_,rfl,q,CW,dx,fs,_,rfl,R _ _ h0 rfl,TW.cl,TW.nF,lF,rfl,rfl⟩
  obtain ⟨L,p1,p2,S⟩:=Ji1 (Z.sameT R) pm pw;have U:=J9 (o:=.lst (us.map Prod.snd)) hl;have ll:=p1.length_eq;refine ⟨l,_,L,rfl,J6,S.same U,(by lia),fun d2 O H3 s3 e3 W=>?_⟩;exact k L d2 O H3 p1 p2 (J22.trans (Same.t s) (J22.trans R (Same.t (U.trans s3)))) (J2o T2 (U.trans s3)) ((J3a.same s).trans (J3a.trans (fun Q p q n t=>TQ Q p q n t) (J3a.same (U.trans s3)))) e3 W
end
section
variable [En]
noncomputable abbrev lpBS:Pos:=lamPR ((J1j (top 29)).getD 1 (.Pass ⟨0,0,0,0⟩))
structure Tb3(H:Hp)(TB TJ TK:Addr):Prop where
 b:J2j H TB lpLO "line_of.<locals>.<lambda>"
 j:J2j H TJ lpJS "joined_stretches.<locals>.<lambda>"
 k:J2j H TK lpBS "back_stretches.<locals>.<lambda>"
theorem Tb3.same{H e:Hp}{d c a:Addr}(t:Tb3 H d c a)(s:Same H e):Tb3 e d c a:=⟨J2o t.b s,J2o t.j s,J2o t.k s⟩
structure TNe(TB TJ TK:Addr):Prop where
 bj:TB≠TJ
 bk:TB≠TK
 jk:TJ≠TK
theorem Tb3.b'{H d:Hp}{a c b:Addr}(t:Tb3 H a c b)(n:TNe a c b)(h:J2j d a lpLO "line_of.<locals>.<lambda>")(k:J3a a H d):Tb3 d a c b:=⟨h,k _ _ _ (Ne.symm n.bj) t.j,k _ _ _ (Ne.symm n.bk) t.k⟩
theorem Tb3.j'{H e:Hp}{d a c:Addr}(t:Tb3 H d a c)(n:TNe d a c)(h:J2j e a lpJS "joined_stretches.<locals>.<lambda>")(k:J3a a H e):Tb3 e d a c:=⟨k _ _ _ n.bj t.b,h,k _ _ _ (Ne.symm n.jk) t.k⟩
theorem Tb3.k'{H e:Hp}{d c a:Addr}(t:Tb3 H d c a)(n:TNe d c a)(h:J2j e a lpBS "back_stretches.<locals>.<lambda>")(k:J3a a H e):Tb3 e d c a:=⟨k _ _ _ n.bk t.b,k _ _ _ n.jk t.j,h⟩
theorem J3q{g:Int->Int}{N:Int}{L:List Sr}{os:List Nat}(R:RepS g 0 L N)(d:1<=N)(c:N<=10 ^ 30)(b:L.length<=24)(p:os.Perm (List.range L.length)):Good (L.map Sr.le) os:=by
 have O:=R.ord p;have t:=R.tot;refine ⟨?_,by rw [length_map];exact b,O.pos,by lia,O.perm⟩;rw [length_map]
 cases L with
 | nil=>have:(0:Int)=N:=R;lia
 | cons a r=>simp
inductive Jav(C CW b:Addr)(vs:List V)(H:Hp)(Q:VK)(E:XK):Prop
 | mk(x:Addr)(ls:List Int)(os:List Nat)(ts:List Bool)(_:vs=[.ref x])(_:J2e C H x ls os ts)(_:ls.length<=24)(_:ts.length=ls.length)(_:J2j H b lpBS "back_stretches.<locals>.<lambda>")(_:∀ L d c a,L.Perm ((srsL ls os ts).map bk1)->L.Pairwise (fun s t=>s.fi<=t.fi)->J22 H a->J2j a b lpBS "back_stretches.<locals>.<lambda>"->J3a b H a->a d=some (.lst c)->J1r CW a c L->Q (.ref d) a)
theorem Jiw:Jr ["line","back"] ["line"] (Je (top 29)):=fsc
theorem Joc{f C CW TK cc:Addr}{fd:FuncData}(F:Fun K "back_stretches" "back_stretches" (top 29) f fd)(T:TxtR mg)(g:mg "sorted"=none)(j:Jbo K CW)(D:fd.code=.ref cc)(CD:PySem.W.codeHdIn K cc TK=true)(BL:J9y base mg TK)(af:Ca1 3 J9a (Jat C CW))(ae:Mak CX0 1 "Stretch" CW ["self","first","length","laid","turned"] [] (spSr CW)):
  FnOk P w K mg base CX0 4 f fd ["line"] (Jav C CW TK):=by
 refine F.okK D Jiw (fun vs H Q E h=>?_) (fun A outer s H vs Q E hr h=>?_)
 ·obtain ⟨x,ls,os,ts,rfl,_⟩:=h;rfl
 ·obtain ⟨x,ls,os,ts,rfl,L0,hn,ht,TT,k⟩:=h;refine ⟨_,(J1 (Jnf (i:=1) (caps:=[]) (js:=[]) Jiw.nd rfl (Or.inl rfl) rfl (J33 (pcl af hr Jg (J0 (pv 0) J3))) rfl (fun _ _ _ _=>J3l) (fun C fp s H=>(pmk ae hr Jg (J0 (J3u K (pv 0)) (J0 (J3u K (pv 0)) (J0 (J3u K (pv 0)) (J0 (J3u K (pv 0)) J3)))))))
   (J7 (Jh (Jb9 (x:="stretch") (caps:=[]) (js:=[]) rfl (hr.mono (by decide)) (by rfl) g rfl rfl rfl CD BL ⟨rfl,rfl,rfl,by decide +kernel,rfl,(by intro p hp;cases hp),J50.get rfl,rfl,fun k c e=>by simp at e⟩ (fun _ _ _ _=>rfl) (fun A f c s H=>(J3u K (pv 0))) (pv 1))))),?_⟩
  refine ⟨_,rfl,x,ls,os,ts,rfl,L0,hn,ht,fun d ys H1 s1 e1 rf=>?_⟩;have B:=Refs.srs rf;have bl:=B.len;have sl:(srsL ls os ts).length=ls.length:=J35 ..;refine ⟨d,rfl,⟨_,SqL.of e1⟩,fun bd J=>lc_inv ys (fun i I M=>J1r CW M I (((srsL ls os ts).take i).map bk1)/\Same H1 M) ⟨⟨rfl,fun i s e=>by simp at e⟩,J9 J⟩ (fun i I M _ ⟨_,s⟩=>SqL.of (s _ _ e1)) (by lia) (fun i v I M Qe ev ⟨Z,sx⟩ G aa ke=>?_) (fun I H2 ⟨Z,s2⟩ ad aa=>?_)⟩
  ·have hi:i < (srsL ls os ts).length:=by rw [<- bl];exact (List.getElem?_eq_some_iff.mp ev).1
   have es:(srsL ls os ts)[i]?=some (srsL ls os ts)[i]:=List.getElem?_eq_getElem hi;obtain ⟨q,eq,A0⟩:=B.at_ i _ es;obtain rfl:V.ref q=v:=Option.some.inj (eq.symm.trans ev);generalize (srsL ls os ts)[i]=s0' at es A0;have A0:=A0.same sx;obtain ⟨da,Y,a0,aF,aL,aA,aT⟩:=A0.ex;refine ⟨_,rfl,q,CW,da,Y,_,rfl,a0,j.cl,j.nA,aA,_,rfl,q,CW,da,Y,_,rfl,a0,j.cl,j.nL,aL,_,rfl,q,CW,da,Y,_,rfl,a0,j.cl,j.nF,aF,_,rfl,q,CW,da,Y,_,rfl,a0,j.cl,j.nT,aT,fun x dx hx ac ab=>J8d (CW:=CW) (H:=M) (f:=s0'.la) (l:=s0'.le) (a:=s0'.fi) (t:=s0'.tu) (Q:=Qe) (fun r N X R fr=>ke (.ref r) N (X _ _ G) ?_) x dx hx ac ab⟩;have kp:∀ b u,N b=some u->b≠bd->upd N bd (.lst (I ++ [.ref r])) b=some u:=fun b u e n=>by rw [Jm n];exact e
   refine ⟨?_,fun b u e=>kp _ _ (X _ _ (sx _ _ e)) (Jd e J)⟩;rw [J5b es,map_append];exact ((Z.same X).keepD (X _ _ G) kp).snoc (R.keep (fr _ _ G) kp)
  rw [bl,take_length] at Z;have zl:=Z.len;rw [length_map] at zl;have m:=s1.trans s2;refine ⟨_,rfl,bd,I,((srsL ls os ts).map bk1).map Sr.fi,rfl,.inl ad,(by lia),(by rw [length_map,length_map,zl]),J2o TT m,fun N O i y z ey ek=>?_,fun N l us O T2 TQ hl pm pw=>?_⟩
  ·have hi:i < ((srsL ls os ts).map bk1).length:=by rw [length_map,<- zl];exact (List.getElem?_eq_some_iff.mp ey).1
   obtain ⟨q,eq,Aq⟩:=Z.at_ i _ (List.getElem?_eq_getElem hi);obtain rfl:V.ref q=y:=Option.some.inj (eq.symm.trans ey);rw [getElem?_map,List.getElem?_eq_getElem hi] at ek;cases ek;obtain ⟨dx,fs,h0,lF,lL,lA,lT⟩:=Aq.ex;exact ⟨_,rfl,q,CW,dx,fs,_,rfl,O _ _ h0 rfl,j.cl,j.nF,lF,rfl,rfl⟩
  obtain ⟨L,p1,p2,S⟩:=Ji1 (Z.sameT O) pm pw;have U:=J9 (o:=.lst (us.map Prod.snd)) hl;exact k L l _ _ p1 p2 (J22.trans (Same.t m) (J22.trans O (Same.t U))) (J2o T2 U) ((J3a.same m).trans (J3a.trans (fun Q p q n t=>TQ Q p q n t) (J3a.same U))) J6 (S.same U)
inductive Jdl(C CW c:Addr)(vs:List V)(H:Hp)(Q:VK)(E:XK):Prop
 | mk(l:Addr)(d:List V)(a:List Sr)(_:vs=[.ref l])(_:H l=some (.lst d))(_:J1r CW H d a)(_:J2j H c lpLO "line_of.<locals>.<lambda>")(_:a.length<=24)(_:(∀ os:List Nat,os.Perm (List.range a.length)->os.Pairwise (fun i j=>(a.map Sr.la).getD i 0<=(a.map Sr.la).getD j 0)->Good (a.map Sr.le) os/\∀ x b,J22 H b->J2j b c lpLO "line_of.<locals>.<lambda>"->J3a c H b->J2e C b x (a.map Sr.le) os (a.map Sr.tu)->Q (.ref x) b))
theorem Jr3:FS1 ["stretches"] Jai:=fsc
theorem Jo1{C CW i:Addr}{a:Tok}(F:Fn1 Jai)(T:TxtR mg)(b:mg "MOST_PIECES"=some (.int 24 a))(c:Cal CX0 5 "line_of" ["stretches"] (J7t C CW i "line_of.<locals>.<lambda>")):
  Ca1 6 Jai (Jdl C CW i):=by
 refine F.ok Jr3 (fun f d A o s H vs Q E m h=>?_);obtain ⟨l,e,j,rfl,g,B,TT,n,k⟩:=h;refine ⟨_,(J1 (J24 (Jq J8n (Jw J12 (by rfl) T.len boot_len (J0 (pv 0) J3)) (Jj7 (v:=.int 24) rfl b ⟨_,rfl⟩) (Jv _)) (J7 J25) J13)
  (J7 (Jh (pcl c m Jg (J0 (pv 0) J3))))),?_⟩
 have p:=B.len;refine ⟨_,rfl,l,e,rfl,.inl (SqL.of g),_,_,rfl,rfl,_,rfl,iteD (by lia) ?_⟩;exact ⟨_,rfl,l,e,j,rfl,g,B,TT,by lia,k⟩
inductive Jf7(C CW f e d:Addr)(vs:List V)(H:Hp)(Q:VK)(E:XK):Prop
 | mk(x y:Addr)(ls a:List Int)(os b:List Nat)(ts ts':List Bool)(_:vs=[.ref x,.ref y])(_:J2e C H x ls os ts)(_:J2e C H y a b ts')(_:Good ls os)(_:Good a b)(_:ts.length=ls.length)(_:ts'.length=a.length)(_:a.sum=ls.sum)(_:ls.length + a.length<=24)(_:Tb3 H f e d)(_:∀ z l o t c,J22 H c->Tb3 c f e d->PlG (fun x=>gL a b ts' (gL ls os ts x)) ls.sum l o t->l.length<=ls.length + a.length->Good l o->J2e C c z l o t->Q (.ref z) c)
theorem Jms:FS1 ["one","two"] J9i:=fsc
theorem Jju{C CW T P TK:Addr}(F:Fn1 J9i)(p:TxtC K mg C)(TN:TNe T P TK)(J:Ca1 6 Jai (Jdl C CW T))(M:Cal CX0 5 "joined_stretches" ["ones","twos"] (Jau CW P))(i:Ca1 3 J9a (Jat C CW)):
  Ca1 7 J9i (Jf7 C CW T P TK):=by
 refine F.ok Jms (fun f d A o s H vs Q E n h=>?_);obtain ⟨x,y,ls,g,os,c,ts,ts',rfl,L1,L2,l,G2,t1,t2,I,aa,T3,k⟩:=h;refine ⟨_,(J1 (J24 (Jq J9t (J8 (pv 0)) (J8 (pv 1)) (Jv _)) (J7 J25) J13)
  (J7 (Jh (pcl J n Jg (J0 (pcl M n Jg (J0 (pcl i n Jg (J0 (pv 0) J3)) (J0 (pcl i n Jg (J0 (pv 1) J3)) J3))) J3))))),?_⟩
 obtain ⟨dx,fl,pl,po,pt,ps,pd,h0,⟨k1,k2,k3,k4,k5,k6⟩,e1,e2,e3,e4,e5⟩:=L1.ex;obtain ⟨dy,fy,ql,qo,qt,qs,qd,g0,⟨j1,j2,j3,j4,j5,j6⟩,f1,f2,f3,f4,f5⟩:=L2.ex;have O1:=l.ord;have O2:=G2.ord;have Z:=J3h (ts:=ts) O1;have Y:=J3h (ts:=ts') O2;rw [I] at Y;have U:=J6u (ts:=ts) O1;have D:=J6u (ts:=ts') O2;rw [I] at D;have jl:=Jq3 U D Z.inj;rw [J35,J35] at jl;have X:=l.pos_sum;refine ⟨_,rfl,x,C,dx,fl,_,rfl,h0,p.cl,p.nZ,k6,_,rfl,y,C,dy,fy,_,rfl,g0,p.cl,p.nZ,j6,rfl,_,rfl,Jkq (by rw [I]) ?_⟩;refine ⟨_,rfl,x,ls,os,ts,rfl,L1,l.hi,t1,fun d1 r H1 v q1 B=>⟨_,rfl,y,g,c,ts',rfl,L2.same v,G2.hi,t2,fun d2 q H2 m q2 w=>?_⟩⟩;have T2:=T3.same (v.trans m);refine ⟨d1,d2,r,q,srsL ls os ts,srsL g c ts',rfl,m _ _ q1,q2,(Refs.srs B).same m,Refs.srs w,(by lia),(by rw [J35];lia),(by rw [J35];lia),T2.j,fun L d zs H3 W pw sT T4 O e S=>?_⟩;have R:=Jkm Z Y U D (by lia) W pw;have ll:=J5h L;have lp:=W.length_eq;have T5:=T2.j' TN T4 O;refine ⟨d,zs,lgst L,rfl,e,S,T5.b,(by lia),fun o a G=>⟨J3q R X l.sum (by lia) a,fun z H4 u T6 N LZ=>?_⟩⟩;exact k z _ o _ H4 (J22.trans (Same.t (v.trans m)) (J22.trans sT u)) (T5.b' TN T6 N) ⟨lgst L,R,rfl,rfl,⟨a,G⟩⟩ (by rw [length_map];lia) (J3q R X l.sum (by lia) a) LZ
inductive Jig(C CW d c b:Addr)(vs:List V)(H:Hp)(Q:VK)(E:XK):Prop
 | mk(x:Addr)(ls:List Int)(os:List Nat)(ts:List Bool)(_:vs=[.ref x])(_:J2e C H x ls os ts)(_:Good ls os)(_:ts.length=ls.length)(_:Tb3 H d c b)(_:∀ z l o t a,J22 H a->Tb3 a d c b->PlG (kL ls os ts) ls.sum l o t->l.length<=ls.length->Good l o->J2e C a z l o t->Q (.ref z) a)
theorem Jr9:FS1 ["line"] Jd1:=fsc
theorem Jod{C CW r D q:Addr}(F:Fn1 Jd1)(B:TNe r D q)(j:Cal CX0 5 "line_of" ["stretches"] (J7t C CW r "line_of.<locals>.<lambda>"))(l:Ca1 4 J4b (J67 CW))(m:Cal CX0 4 "back_stretches" ["line"] (Jav C CW q)):
  Ca1 6 Jd1 (Jig C CW r D q):=by
 refine F.ok Jr9 (fun f d A o s H vs Q E i h=>?_);obtain ⟨x,ls,os,ts,rfl,L1,a,N,I,k⟩:=h;refine ⟨_,(J7 (Jh (pcl j i Jg (J0 (pcl l i Jg (J0 (pcl m i Jg (J0 (pv 0) J3)) J3)) J3)))),?_⟩;have J:=a.ord;have y:=J3h (ts:=ts) J;have P:=J6u (ts:=ts) J;have w:=a.pos_sum;have hi:=a.hi;refine ⟨_,rfl,x,ls,os,ts,rfl,L1,a.hi,N,I.k,fun L d K H1 v T O T4 p e S=>?_⟩;have R:=J81 y.symm.inj (Jqd y P (by lia) v T);have ll:=J5h L;have U:=v.length_eq;rw [length_map,J35] at U;have Z:=I.k' B T4 p;refine ⟨d,K,L,rfl,e,S,(by lia),fun X M H2 u W S2=>?_⟩;have G:=Z.same u;refine ⟨X,M,lgst L,rfl,W,S2,G.b,(by lia),fun o po g=>⟨J3q R w a.sum (by lia) po,fun z H3 c Y n LZ=>?_⟩⟩;exact k z _ o _ H3 (J22.trans O (J22.trans (Same.t u) c)) (G.b' B Y n) ⟨lgst L,R,rfl,rfl,⟨po,g⟩⟩ (by rw [length_map];lia) (J3q R w a.sum (by lia) po) LZ
end
section
variable [En]
noncomputable def rpF(ls:List Int)(os:List Nat)(ts:List Bool)(m:Int):Int->Int:=if 0 < m then gL ls os ts else kL ls os ts
inductive Ja2(C CW d c b:Addr)(vs:List V)(H:Hp)(Q:VK)(E:XK):Prop
 | mk(x:Addr)(ls:List Int)(os:List Nat)(ts:List Bool)(m:Int)(_:vs=[.ref x,.int m])(_:J2e C H x ls os ts)(_:Good ls os)(_:ts.length=ls.length)(_:1 + m.natAbs * ls.length<=24)(_:Tb3 H d c b)(_:∀ z l o t a,J22 H a->Tb3 a d c b->PlG (itF (rpF ls os ts m) m.natAbs) ls.sum l o t->Good l o->J2e C a z l o t->Q (.ref z) a)
theorem rp_bij{ls:List Int}{os:List Nat}{ts:List Bool}(O:Ord ls os)(m:Int):∃ k,Bij ls.sum (rpF ls os ts m) k:=by
 unfold rpF;split
 ·exact ⟨_,J3h O⟩
 ·exact ⟨_,(J3h O).symm⟩
theorem J3o:FS1 ["line","times","once","told","turn"] J52:=fsc
theorem Jdx{C CW TB TJ TK:Addr}(F:Fn1 J52)(TC:TxtC K mg C)(TN:TNe TB TJ TK)(T:TxtR mg)(ab:mg "abs"=none)(al:Ca1 6 Jai (Jdl C CW TB))(an:Cal CX0 5 "joined_stretches" ["ones","twos"] (Jau CW TJ))(am:Ca1 4 J4b (J67 CW))(ak:Ca1 3 J9a (Jat C CW))(ao:Cal CX0 4 "back_stretches" ["line"] (Jav C CW TK))(aj:Mak CX0 1 "Stretch" CW ["self","first","length","laid","turned"] [] (spSr CW)):
  Ca1 7 J52 (Ja2 C CW TB TJ TK):=by
 refine F.ok J3o (fun f d A o s H vs Q E U h=>?_);obtain ⟨x,ls,os,ts,m,rfl,L1,J,t1,as,T3,k⟩:=h;refine ⟨_,(J1 (J4r (Jf (i:=2) J3o.nd rfl (Or.inl rfl) (pcl am U Jg (J0 (J2y (Jq J8n (pv 1) Ja (Jv _)) (pcl ak U Jg (J0 (pv 0) J3)) (pcl ao U Jg (J0 (pv 0) J3))) J3))))
  (J1 (J4r (Jf (i:=3) J3o.nd rfl (Or.inl rfl) (J2q (J0 (pmk aj U Jg (J0 Ja (J0 (J8 (pv 0)) (J0 Ja (J0 J70 J3))))) J3))))
  (J1 (J3s PassesOwn.never rfl (J6d rfl T.range (J0 (Jw Jgc (by rfl) ab boot_abs (J0 (pv 1) J3)) J3)) (J1y (i:=4) J3o.nd rfl (Or.inl rfl))
   (J7 (Jf (i:=3) J3o.nd rfl (Or.inl rfl) (pcl an U Jg (J0 (pv 3) (J0 (pv 2) J3))))))
  (J7 (Jh (pcl al U Jg (J0 (pv 3) J3))))))),?_⟩
 obtain ⟨dx,fl,pl,po,pt,ps,pd,h0,⟨k1,k2,k3,k4,k5,k6⟩,e1,e2,e3,e4,e5⟩:=L1.ex;have O1:=J.ord;have b1:=J3h (ts:=ts) O1;have r1:=J6u (ts:=ts) O1;have p1:=J.pos_sum;have hi:=J.hi;obtain ⟨f,ef⟩:∃ f,f=rpF ls os ts m:=⟨_,rfl⟩;obtain ⟨fk,bf⟩:∃ fk,Bij ls.sum f fk:=by rw [ef];exact rp_bij O1 m
 refine ⟨fun σ' q=>∃ e G P,σ'=[some (.ref x),some (.int m),some (.ref e),none,none]/\q e=some (.lst G)/\J1r CW q G P/\RepS f 0 P ls.sum/\P.length<=ls.length/\J22 H q/\Tb3 q TB TJ TK,?_,?_⟩
 ·refine ⟨_,rfl,_,_,rfl,rfl,_,rfl,?_⟩;by_cases c:0 < m
  ·refine J48 c ⟨_,rfl,x,ls,os,ts,rfl,L1,J.hi,t1,fun d ys H1 X q1 ae=>?_⟩;refine ⟨d,ys,srsL ls os ts,rfl,q1,Refs.srs ae,(by rw [J35];lia),fun d2 g D u q2 S2=>?_⟩;refine ⟨d2,g,_,rfl,q2,S2,?_,?_,Same.t (X.trans u),T3.same (X.trans u)⟩
   ·rw [ef];unfold rpF;rw [if_pos c];exact Jkd O1
   ·have:=J5h (srsL ls os ts);rw [J35] at this;exact this
  ·refine iteD c ⟨_,rfl,x,ls,os,ts,rfl,L1,J.hi,t1,T3.k,fun L d g H1 Z pw W T4 N e S=>?_⟩;have R:=J81 b1.symm.inj (Jqd b1 r1 (by lia) Z pw);have ll:=J5h L;have lp:=Z.length_eq;rw [length_map,J35] at lp;refine ⟨d,g,L,rfl,e,S,(by lia),fun d2 G D u q2 S2=>?_⟩;refine ⟨d2,G,_,rfl,q2,S2,?_,by lia,J22.trans W (Same.t u),(T3.k' TN T4 N).same u⟩;rw [ef];unfold rpF;rw [if_neg c];exact R
 rintro σ H1 ⟨e,G,P,rfl,Y,SO,RO,ol,X,T1⟩;refine ⟨fun σ' q=>∃ d g,σ'=[some (.ref x),some (.int m),some (.ref e),some (.ref d),none]/\q d=some (.lst g)/\J1r CW q g [⟨0,ls.sum,0,false⟩]/\Same H1 q,?_,?_⟩
 ·refine ⟨_,rfl,x,C,dx,fl,_,rfl,X _ _ h0 rfl,TC.cl,TC.nZ,k6,fun y dy hy ai ah=>J8d (CW:=CW) (H:=H1) (f:=0) (l:=ls.sum) (a:=0) (t:=false) (Q:=fun v D=>1<=sizeLine/\∀ p,D p=none->∃ d g,([some (V.ref x),some (V.int m),some (V.ref e),some (V.ref p),none]:List (Option V))=[some (V.ref x),some (V.int m),some (V.ref e),some (V.ref d),none]/\(upd D p (.lst [v])) d=some (.lst g)/\J1r CW (upd D p (.lst [v])) g [⟨0,ls.sum,0,false⟩]/\Same H1 (upd D p (.lst [v]))) (fun r D u R fr=>⟨by decide,fun p hp=>⟨p,_,rfl,J6,?_,u.trans (J9 hp)⟩⟩) y dy hy ai ah⟩;have R':SrAt CW D r ⟨0,ls.sum,0,false⟩:=R;refine ⟨rfl,fun i s z=>?_⟩
  match i,z with
  | 0,z=>cases Option.some.inj z;exact ⟨r,rfl,R'.same (J9 hp)⟩
  | n + 1,z=>simp at z
 rintro σ D ⟨d,g,rfl,w,SZ,u⟩;have af:=u _ _ Y;have aq:=SO.same u;have T2:=T1.same u;have ad:=J22.trans X (Same.t u);have na:(if m < 0 then -m else m)=((m.natAbs:Nat):Int):=by split <;> lia
 have mul:∀ i:Nat,i<=m.natAbs->1 + i * ls.length<=24:=fun i aa=>by have:=Nat.mul_le_mul_right ls.length aa;lia
 have nl:1<=ls.length:=J.lo;have ar:m.natAbs<=24:=by
  have:=Nat.le_mul_of_pos_right m.natAbs nl;lia
 refine ⟨_,rfl,_,rfl,?_⟩;rw [na];refine ⟨((m.natAbs:Nat):Int),rfl,by lia,by lia,Jck (lo:=0) (n:=m.natAbs) (fun i σ q=>∃ d g I v,σ=[some (.ref x),some (.int m),some (.ref e),some (.ref d),v]/\q d=some (.lst g)/\J1r CW q g I/\RepS (itF f i) 0 I ls.sum/\I.length<=1 + i * ls.length/\q e=some (.lst G)/\J1r CW q G P/\J22 H q/\Tb3 q TB TJ TK)
  ⟨d,g,_,none,rfl,w,SZ,Jjb p1,by simp,af,aq,ad,T2⟩ ?_ ?_⟩
 ·rintro i σ q aa ⟨d,g,I,v,rfl,w,SZ,O,sl,Y,SO,sw,B⟩;obtain ⟨ki,bi⟩:=Jea bf i;have jl:=Jq3 O.rep RO.rep bi.inj;have m1:=mul (i + 1) (by lia);rw [Nat.add_mul,Nat.one_mul] at m1;refine ⟨_,rfl,_,rfl,d,e,g,G,I,P,rfl,w,Y,SZ,SO,(by lia),(by lia),(by lia),B.j,fun L d2 us H3 Z pw W T4 N e3 S3=>?_⟩;have R:=Jkm bi bf O.rep RO.rep (by lia) Z pw;have ll:=J5h L;have lp:=Z.length_eq;exact ⟨d2,us,lgst L,_,rfl,e3,S3,R,(by rw [Nat.add_mul,Nat.one_mul];lia),W _ _ Y rfl,SO.sameT W,J22.trans sw W,B.j' TN T4 N⟩
 ·rintro σ q ⟨d,g,I,v,rfl,w,SZ,O,sl,Y,SO,sw,B⟩;have m1:=mul m.natAbs (Nat.le_refl _);refine ⟨_,rfl,d,g,I,rfl,w,SZ,B.b,(by lia),fun o M ag=>⟨J3q O p1 J.sum (by lia) M,fun z H4 ac T6 ap LZ=>?_⟩⟩;rw [ef] at O;exact k z _ o _ H4 (J22.trans sw ac) (B.b' TN T6 ap) ⟨I,O,rfl,rfl,⟨M,ag⟩⟩ (J3q O p1 J.sum (by lia) M) LZ
end
section
variable [En]
structure Jqe(H:Hp)(ys:List V)(ps:List (Int × Int)):Prop where
 len:ys.length=ps.length
 at_:∀ (i:Nat) (p:Int × Int),ps[i]?=some p->∃ q,ys[i]?=some (.ref q)/\H q=some (.tup [.int p.1,.int p.2])
inductive spRoB(vs:List V)(H:Hp)(Q:VK)(E:XK):Prop
 | mk(d:Addr)(b:Band)(_:vs=[.ref d])(_:H d=some (.tup (J7q b)))(_:∀ l c a,Same H a->a l=some (.lst c)->Jqe a c (contrib b)->Q (.ref l) a)
theorem scRoB:FS1 ["band"] J9e:=fsc
theorem ok_rob(F:Fn1 J9e):
  Ca1 1 J9e spRoB:=by
 refine F.ok scRoB (fun f d A o s H vs Q E y h=>?_);obtain ⟨e,b,rfl,a,k⟩:=h;refine ⟨_,(J1 (J24 (pt_not (J3r (Jp Jj (pv 0) Ja))) (J7 (Jh (J2q (J0 (J30 (J0 (Jp Jj (pv 0) Ja) (J0 (Jp Jj (pv 0) Ja) J3))) J3)))) J13)
  (J7 (Jh (J2q (J0 (J30 (J0 (Jp Jj (pv 0) Ja) (J0 (Jl J2u (Jp Jj (pv 0) Ja) Ja) J3))) (J0 (J30 (J0 (Jl J8l Ja (Jp Jj (pv 0) Ja)) (J0 (Jl J8o (Jp Jj (pv 0) Ja) Ja) J3))) J3)))))),?_⟩
 refine ⟨_,rfl,e,_,_,_,rfl,rfl,SqT.of a,Jc (j:=3) rfl,_,rfl,?_⟩;unfold contrib at k;by_cases ct:b.2.2.2=true
 ·refine J91 (show ¬ (!(b.2.2.2))=true by rw [ct];decide) ?_;rw [if_pos ct] at k;refine ⟨_,rfl,e,_,_,_,rfl,rfl,SqT.of a,Jc (j:=2) rfl,_,rfl,e,_,_,_,rfl,rfl,SqT.of a,Jc (j:=1) rfl,_,_,rfl,rfl,(by show (0:Int) < 2;decide),(by show 2<=sizeLine;decide),fun q r=>?_⟩;have m:=J9 (o:=.tup [.int b.2.2.1,.int (b.2.1 % 2)]) r;refine ⟨_,rfl,e,_,_,_,rfl,rfl,SqT.of (m _ _ a),Jc (j:=2) rfl,_,_,rfl,rfl,.inl ⟨by decide,by decide⟩,_,rfl,e,_,_,_,rfl,rfl,SqT.of (m _ _ a),Jc (j:=1) rfl,_,_,rfl,rfl,⟨by decide,by decide⟩,(by show 2<=sizeLine;decide),fun w n=>⟨(by show 2<=sizeLine;decide),fun l u=>?_⟩⟩;have v:=J9 (o:=.tup [.int (2 * b.2.2.1),.int (b.2.1 / 2)]) n;have g:=J9 (o:=.lst [.ref q,.ref w]) u;refine k l _ _ ((m.trans v).trans g) J6 ⟨rfl,fun i p c=>?_⟩
  match i,c with
  | 0,c=>cases c;exact ⟨q,rfl,g _ _ (v _ _ J6)⟩
  | 1,c=>cases c;exact ⟨w,rfl,g _ _ J6⟩
  | i + 2,c=>cases c
 ·refine J90 (show (!(b.2.2.2))=true by cases h:b.2.2.2 with | true=>exact absurd h ct | false=>rfl) ?_;rw [if_neg ct] at k;refine ⟨_,rfl,e,_,_,_,rfl,rfl,SqT.of a,Jc (j:=2) rfl,_,rfl,e,_,_,_,rfl,rfl,SqT.of a,Jc (j:=1) rfl,(by show 2<=sizeLine;decide),fun q r=>⟨(by show 1<=sizeLine;decide),fun l u=>?_⟩⟩;have m:=J9 (o:=.tup [.int b.2.2.1,.int b.2.1]) r;have g:=J9 (o:=.lst [.ref q]) u;refine k l _ _ (m.trans g) J6 ⟨rfl,fun i p c=>?_⟩
  match i,c with
  | 0,c=>cases c;exact ⟨q,rfl,g _ _ J6⟩
  | i + 1,c=>cases c
theorem Jlp(bs:List Band)(i:Nat)(hi:i < bs.length):conB (bs.take (i + 1))=conB (bs.take i) ++ contrib (bs.getD i bz0):=by
 unfold conB;rw [show bs.take (i + 1)=bs.take i ++ [bs[i]] from (List.take_append_getElem hi).symm,flatMap_append,getD_eq_getElem?_getD,List.getElem?_eq_getElem hi];show _ ++ (contrib bs[i] ++ [])=_;rw [append_nil];rfl
theorem take_snoc{α:Type}{xs:List α}{j:Nat}{x:α}(h:xs[j]?=some x):xs.take (j + 1)=xs.take j ++ [x]:=by
 obtain ⟨a,e⟩:=List.getElem?_eq_some_iff.mp h;rw [<- e];exact (List.take_append_getElem a).symm
inductive Jf1(C d CR:Addr)(cs:Kd->Addr)(vs:List V)(H:Hp)(Q:VK)(E:XK):Prop
 | mk(c:Addr)(ls:List Int)(os:List Nat)(ts:List Bool)(m:Nat)(_:vs=[.ref c])(_:ChF C d CR cs H c ls os ts m)(_:ChP ls os ts m)(_:∀ l b ks a,Same H a->a l=some (.lst b)->RefL (fun q L=>a q=some (.tup [.int L,.int (cntL (conB (bsC ls os ts m)) L)])) b ks->Jdd (J2c ls os ts).size (bsC ls os ts m) ks->Q (.ref l) a)
theorem J6a:FS1 ["chart","counts","band","length","number"] J9c:=fsc
theorem Jjj{C CH CR:Addr}{cs:Kd->Addr}(F:Fn1 J9c)(T:TxtR mg)(v:mg "sorted"=none)(TH:J7a K CH)(ag:Ca1 1 J9e spRoB):
  Ca1 2 J9c (Jf1 C CH CR cs):=by
 refine F.ok J6a (fun f d A o s H vs Q E hr h=>?_);obtain ⟨xc,ls,os,ts,m,rfl,F0,cp,k⟩:=h;have z:=Jsa hr;refine ⟨_,(J1 (Jf (i:=1) J6a.nd rfl (Or.inr rfl) Jfl)
  (J1 (J3s PassesOwn.never rfl (Ja8 (J8 (pv 0))) (J1y (i:=2) J6a.nd rfl (Or.inl rfl))
   (J7 (J3s PassesOwn.never rfl (J33 (pcl ag hr Jg (J0 (pv 2) J3))) (Jfj rfl (J3g (J1y (i:=3) J6a.nd rfl (Or.inl rfl)) (J3g (J1y (i:=4) J6a.nd rfl (Or.inl rfl)) Jb6)))
    (J7 (Jj1 z (pv 1) (pv 3) (Jl J1b (Jfm z (pv 1) (pv 3) Ja ⟨rfl,rfl,rfl,rfl⟩) (pv 4)) rfl)))))
  (J7 (Jh (Jc6 (caps:=["counts"]) (js:=[1]) rfl (J33 (Jw (Jd5 rfl) (by rfl) v boot_sorted (J0 (pv 1) J3))) rfl (fun _ _ _ _=>(Jb2 (Jq J8n (Jdt z (pv 1) (pv 0) (fun _ _=>rfl)) Ja (Jv _)))) (fun C fp s H=>(J30 (J0 (pv 0) (J0 (Jdt z (pv 1) (pv 0) (fun _ _=>rfl)) J3))))))))),?_⟩
 have S:=cp.sys;obtain ⟨xl,A0,L0⟩:=F0;obtain ⟨dq,fs,pr,ps,pt,pb,xr,xs,xt,xb,h0,⟨lL,lR,lS,lT,lB⟩,⟨h1,h2,h3,h4⟩,r1,r2,r3,r4⟩:=A0.ex;have nb:(bsC ls os ts m).length<=24:=by
  have h1:(bsC ls os ts m).length + _<=_:=cp.cok.bands cp.lg;have h2:(J1f ls os ts).1.top.length=ls.length:=length_range;have h3:=cp.good.hi;lia
 intro r B;have sm:∀ {w:Hp} {o:HO},Same H w->Same H (upd w r o):=fun {w o} s b u e=>by rw [Jm (Jd e B)];exact s _ _ e
 have cl:=J87 (bsC ls os ts m);refine ⟨_,rfl,xc,CH,dq,fs,_,rfl,J9 B _ _ h0,TH.cl,TH.nB,lB,pb,rfl,⟨_,SqT.of (J9 B _ _ h4)⟩,Jee (K:=K) (a:=pb) (xs:=xb)
  (fun i σ w=>∃ (kvs:List (Key × V)) (ns:List Int) (v2 G D:Option V),σ=[some (.ref xc),some (.ref r),v2,G,D]/\w r=some (.dK kvs)/\CntD (conB ((bsC ls os ts m).take i)) kvs ns/\Same H w)
  ⟨[],[],none,none,none,rfl,J6,CntD.nil,J9 B⟩ (fun i σ w _ ⟨_,_,_,_,_,_,_,_,s⟩=>SqT.of (s _ _ h4)) ?_ ?_⟩
 ·rintro i x' σ w W ⟨kvs,ns,v2,G,D,rfl,c,g,sw⟩;have hi:i < (bsC ls os ts m).length:=by rw [<- r4.len];exact (List.getElem?_eq_some_iff.mp W).1
  obtain ⟨bp,ae,O⟩:=r4.at_ i hi;obtain rfl:x'=.ref bp:=Option.some.inj (W.symm.trans ae);have O:H bp=some (.tup (J7q ((bsC ls os ts m).getD i bz0))):=O;refine ⟨_,rfl,bp,_,rfl,sw _ _ O,fun l R H1 s1 hl pa=>?_⟩;have af:=Jlp (bsC ls os ts m) i hi;have c2:=J9o ((bsC ls os ts m).getD i bz0);have c3:=J87 ((bsC ls os ts m).take i);rw [length_take] at c3;refine ⟨l,rfl,⟨_,SqL.of hl⟩,J5i (K:=K) (a:=l) (xs:=R)
   (fun j σ P=>∃ (kvs:List (Key × V)) (ns:List Int) (G D:Option V),σ=[some (.ref xc),some (.ref r),some (.ref bp),G,D]/\P r=some (.dK kvs)/\CntD (conB ((bsC ls os ts m).take i) ++ (contrib ((bsC ls os ts m).getD i bz0)).take j) kvs ns/\Same H P/\P l=some (.lst R)/\Jqe P R (contrib ((bsC ls os ts m).getD i bz0)))
   ⟨kvs,ns,G,D,rfl,s1 _ _ c,(by rw [List.take_zero,append_nil];exact g),sw.trans s1,hl,pa⟩ (fun j σ P _ ⟨_,_,_,_,_,_,_,_,e,_⟩=>SqL.of e) ?_ ?_⟩
  ·rintro j y σ P hj ⟨kvs,ns,G,D,rfl,c,g,sf,M,U⟩;have ab:j < (contrib ((bsC ls os ts m).getD i bz0)).length:=by rw [<- U.len];exact (List.getElem?_eq_some_iff.mp hj).1
   obtain ⟨q,eq,Y⟩:=U.at_ j _ (List.getElem?_eq_getElem ab);obtain rfl:y=.ref q:=Option.some.inj (hj.symm.trans eq);have tk:=take_snoc (List.getElem?_eq_getElem ab);generalize (contrib ((bsC ls os ts m).getD i bz0))[j]=pn at *;have kl:=g.klen;have kn:=g.len;rw [length_append,length_take] at kn;have Z:kvs.length < sizeLine:=J14 (by lia);refine ⟨q,_,rfl,SqT.of Y,rfl,_,_,rfl,_,_,rfl,rfl,?_⟩;refine ⟨_,rfl,r,rfl,.inl ⟨kvs,.inl c⟩,_,rfl,_,DGet.k (k:=Sum.inl pn.1) c,_,rfl,cntL (conB ((bsC ls os ts m).take i) ++ (contrib ((bsC ls os ts m).getD i bz0)).take j) pn.1,pn.2,g.get pn.1,rfl,_,rfl,_,rfl,r,_,rfl,DPut.k (k:=Sum.inl pn.1) c Z,?_⟩;obtain ⟨n,ad⟩:=g.put pn.1 pn.2;have nl:l≠r:=fun e=>by rw [e,c] at M;cases M
   refine ⟨_,n,_,_,rfl,J6,?_,sm sf,?_,U.len,fun a p hp=>?_⟩
   ·rw [tk,<- List.append_assoc];exact ad
   ·rw [Jm nl];exact M
   ·obtain ⟨q',e',k'⟩:=U.at_ a p hp;refine ⟨q',e',?_⟩;rw [Jm (fun e=>by rw [e,c] at k';cases k')];exact k'
  ·rintro σ P ⟨kvs,ns,G,D,rfl,c,g,sf,_,U⟩;rw [U.len,take_length,<- af] at g;exact ⟨kvs,ns,_,_,_,rfl,c,g,sf⟩
 ·rintro σ w ⟨kvs,ns,v2,G,D,rfl,c,g,sw⟩;have g:CntD (conB (bsC ls os ts m)) kvs ns:=by rw [r4.len,take_length] at g;exact g
  have kn:=g.len;refine ⟨_,rfl,r,kvs,ns,rfl,c,g.keys,by lia,fun l n hl J ac=>?_⟩;have sl:=J9 (o:=.lst (iV n)) hl;have aa:upd w l (.lst (iV n)) l=some (.lst (iV n)):=J6;have X:=sl _ _ c;generalize upd w l (.lst (iV n))=H1 at *;have dg:∀ {I:Hp},Same H1 I->∀ L∈n,DGet I r (.int L) (some (.int (cntL (conB (bsC ls os ts m)) L))):=fun {I} s L hL=>by
   rw [<- g.val L (J.mem_iff.mp hL)];exact DGet.k (k:=Sum.inl L) (s _ _ X)
  refine ⟨l,rfl,⟨_,SqL.of aa⟩,fun d hd=>Jfw n (fun L=>decide (0 < cntL (conB (bsC ls os ts m)) L)) (fun H q L=>H q=some (.tup [.int L,.int (cntL (conB (bsC ls os ts m)) L)])) (SqL.of aa) ?_ hd (fun H I q x kd hn h=>kd _ _ h hn) ?_ ?_ ?_⟩
  ·exact Nat.le_of_lt (J14 (by rw [J.length_eq];lia))
  ·intro L hL I Qt s' kt;exact ⟨_,rfl,_,rfl,r,_,rfl,dg s' L hL,_,_,rfl,rfl,_,rfl,kt _ (Same.refl _)⟩
  ·rintro L hL I Qe _ s' ⟨R,N⟩ ke;refine ⟨_,rfl,_,rfl,_,rfl,r,_,rfl,dg s' L hL,(by show 2<=sizeLine;decide),fun q Y=>?_⟩;exact ke q _ (J9 Y) (fun e=>by rw [e,N] at Y;cases Y) J6
  ·intro R I s' N rf;exact k d R _ I ((sw.trans sl).trans s') N rf (S.rds2 g.nd g.all g.has g.len J ac)
end
section
noncomputable def Jj4(ns:List Int)(lo st:Nat):List Int:=(List.range (Builtin.Range.rangeSize (lo:Int) (ns.length:Int) (st:Int)).toNat).map fun i=>ns.getD (lo + i * st) 0
noncomputable def lenK(ns:List Int)(lo b:Nat)(a:Int)(k:Nat):Int:=1 + (Jj4 ns (lo + k) b).sum % a
noncomputable def Je9(ns:List Int)(lo a:Nat)(b:Int):List Int:=(List.range a).map (lenK ns lo a b)
theorem J8w(ns:List Int)(lo a:Nat)(b:Int):(Je9 ns lo a b).length=a:=by simp [Je9]
theorem Jcd{ns:List Int}{lo c:Nat}{b:Int}(d:0 < b):∀ a∈Je9 ns lo c b,1<=a/\a<=b:=fun a h=>by
 obtain ⟨k,_,rfl⟩:=mem_map.mp h;unfold lenK;have f:=Int.emod_nonneg (Jj4 ns (lo + k) c).sum (show b≠0 by lia);have e:=Int.emod_lt_of_pos (Jj4 ns (lo + k) c).sum d;lia
theorem Jj3{K:Frag}{f:Hp}{σ:St}{js:List Nat}{Q:VK}{d a:Addr}{ns:List Int}{lo st:Nat}(o:SqL K f a (iV ns))(r:ns.length<=63)(m:0 < st)(hd:f d=none)(q:σ[js.getD 0 0]?=some (some (.ref a)))(p:js=[js.getD 0 0])(n:∀ c,Same f c->c d=some (.lst (iV (Jj4 ns lo st)))->Q (.ref d) c):
  LCW (Its (lo:Int) (st:Int) (Builtin.Range.rangeSize (lo:Int) (ns.length:Int) (st:Int)).toNat) tYes (tOp (rIxL K) (tVar 1) (tVar 0)) σ js Q f d:=by
 have j:(0:Int) < (st:Int):=by lia
 have few:=Jhz (a:=(lo:Int)) (b:=(ns.length:Int)) j;refine lc_stp (lo:Int) (st:Int) _ (fun i=>V.int (ns.getD (lo + i * st) 0)) (by lia) hd (fun _ _ H _ _ k=>k H (Same.refl _)) (fun i hi u s l k=>?_) (fun c s' h=>n c s' ?_)
 ·have g:=Jm6 j hi;have e:(lo:Int) + (i:Int) * (st:Int)=((lo + i * st:Nat):Int):=by rw [Int.natCast_add,Int.natCast_mul]
  rw [e] at g;refine ⟨.ref a,?_,.int ((lo + i * st:Nat):Int),by rw [<- e];rfl,a,_,_,_,rfl,rfl,l.seq o,Jc (J1g (by lia)),k _ (Same.refl _)⟩;rw [p];show (capv σ [js.getD 0 0])[0]?=_;unfold capv;rw [map_cons,List.getElem?_cons_zero,q];rfl
 ·rw [h];unfold Jj4;show _=some (HO.lst ((List.map _ _).map V.int));rw [map_map];rfl
end
section
variable [En]
inductive Jpj(K:Frag)(vs:List V)(H:Hp)(Q:VK)(E:XK):Prop
 | mk(a:Addr)(ns:List Int)(j:Nat)(_:vs=[.ref a,.int j])(_:SqL K H a (iV ns))(_:Q (.int (J7p ns j)) H)
theorem scCell:FS1 ["script","k"] Jla:=fsc
theorem Jrw(F:Fn1 Jla)(T:TxtR mg):
  Ca1 1 Jla (Jpj K):=by
 refine F.ok scCell (fun f d A o s H vs Q E i h=>?_);obtain ⟨a,ns,j,rfl,c,k⟩:=h;refine ⟨_,J1 (J24 (Jq J8m (pv 1) (Jw J12 (by rfl) T.len boot_len (J0 (pv 0) J3)) (Jv _)) (J7 (Jh (Jp J4z (pv 0) (pv 1)))) J13) (J7 (Jh Ja)),?_⟩;refine ⟨_,rfl,_,rfl,a,_,rfl,.inl c,_,_,rfl,rfl,_,rfl,?_⟩;have b:(iV ns).length=ns.length:=length_map ..;by_cases g:j < ns.length
 ·refine J48 (by rw [b];lia) ?_;exact ⟨_,rfl,_,rfl,a,_,_,_,rfl,rfl,c,Jc (J1g g),k⟩
 ·refine iteD (by rw [b];lia) ?_;have e:J7p ns j=0:=by
   unfold J7p;rw [getD_eq_getElem?_getD,getElem?_eq_none (by lia)];rfl
  rw [e] at k;exact k
end
section
structure Jsp(H:Hp)(p:Addr)(ls:List Int)(os:List Nat)(ts:List Bool):Prop where
 ex:∃ l o t:Addr,H p=some (.tup [.ref l,.ref o,.ref t])/\H l=some (.lst (iV ls))/\H o=some (.lst (nV os))/\H t=some (.lst (bV ts))
theorem insV(os:List Nat)(i y:Nat):(nV os).take i ++ V.int (y:Int) :: (nV os).drop i=nV (Jcg os i y):=by
 show ((os.map fun (n:Nat)=>(n:Int)).map V.int).take i ++ V.int (y:Int) :: ((os.map fun (n:Nat)=>(n:Int)).map V.int).drop i=((Jcg os i y).map fun (n:Nat)=>(n:Int)).map V.int;unfold Jcg;simp only [map_append,map_cons,List.map_take,List.map_drop]
end
section
variable [En]
inductive Jpc(vs:List V)(H:Hp)(Q:VK)(E:XK):Prop
 | mk(c:Int)(a:Nat)(_:vs=[.int c,.int a])(_:a<=24)(_:∀ p b,Same H b->b p=some (.lst (nV (J7n c (List.range a) a)))->Q (.ref p) b)
theorem Jc0:FS1 ["cell","many","row","mixed","k"] Jl3:=fsc
theorem Jrm(F:Fn1 Jl3)(T:TxtR mg):
  Ca1 1 Jl3 Jpc:=by
 refine F.ok Jc0 (fun f d A o s H vs Q E y h=>?_);obtain ⟨c,a,rfl,B,k⟩:=h;refine ⟨_,J1 (Jf (i:=2) Jc0.nd rfl (Or.inl rfl) (J2q J3))
  (J1 (Jf (i:=3) Jc0.nd rfl (Or.inl rfl) (Jl J1b Ja (Jl J2u (pv 0) Ja)))
  (J1 (J3s PassesOwn.never rfl (J6d rfl T.range (J0 (pv 1) J3)) (J1y (i:=4) Jc0.nd rfl (Or.inl rfl))
   (J1 (Jf (i:=3) Jc0.nd rfl (Or.inl rfl) (Jl J2u (Jl J8l (pv 3) Ja) Ja))
   (J7 (J1t (J6z PySem.F.plainAttrs_list PySem.F.slot_list_insert PySem.F.type_list_insert Jk7 (pv 2) (J0 (Jl J2u (pv 3) (Jl J1b (pv 4) Ja)) (J0 (pv 4) J3)))))))
  (J7 (Jh (pv 2))))),?_⟩
 refine ⟨Nat.zero_le _,fun l g=>?_⟩;refine ⟨_,rfl,_,_,rfl,rfl,(by show (0:Int) < 1000000006;decide),_,_,rfl,rfl,?_⟩;refine ⟨_,rfl,(a:Int),rfl,by lia,by lia,Jck (lo:=0) (n:=a) (fun i σ j=>∃ v,σ=[some (.int c),some (.int a),some (.ref l),some (.int (mixN c i)),v]/\j l=some (.lst (nV (J7n c (List.range a) i)))/\Same H j)
  ⟨none,rfl,J6,J9 g⟩ ?_ ?_⟩
 ·rintro i σ j hi ⟨v,rfl,m,p⟩;rw [Int.zero_add];obtain ⟨w,u⟩:=Jh1 c i;obtain ⟨r,q⟩:=Jm8 c i;have e:(nV (J7n c (List.range a) i)).length=i:=by
   rw [J6l,Jil _ _ _ (by rw [length_range];lia)]
  refine ⟨_,rfl,_,_,rfl,rfl,.inl ⟨by lia,by lia⟩,_,_,rfl,rfl,(by show (0:Int) < 2147483647;decide),?_⟩;refine ⟨_,rfl,.inl ⟨rfl,_,SqL.of m⟩,_,rfl,_,rfl,_,_,rfl,rfl,_,_,rfl,rfl,(by lia),_,rfl,
   l,_,spotS c i,V.int (i:Int),rfl,(by rw [q];rfl),m,(by rw [e];exact r),(by rw [e];exact J14 (by lia)),?_⟩
  refine ⟨_,rfl,?_,fun b o z=>?_⟩
  ·rw [J6,insV];show some (HO.lst (nV (Jcg (J7n c (List.range a) i) (spotS c i) i)))=some (HO.lst (nV (Jcg (J7n c (List.range a) i) (spotS c i) ((List.range a).getD i 0))));rw [J2x hi]
  ·rw [Jm (Jd z g)];exact p _ _ z
 ·rintro σ j ⟨v,rfl,m,p⟩;exact ⟨_,rfl,k l j p m⟩
end
section
theorem Jkf(ns:List Int){lo b:Nat}{d c:Int}(l:1<=b)(h:b<=24)(f:0 < d)(j:d<=10 ^ 28):Good (Je9 ns lo b d) (J7n c (List.range b) b):=by
 have g:=J8w ns lo b d;refine ⟨by lia,by lia,fun a e=>(Jcd f a e).1,?_,?_⟩
 ·have i:=Jp9 (Je9 ns lo b d) fun a e=>(Jcd f a e).2;rw [g] at i;have n:=Js3 h (Int.le_of_lt f);have m:(24:Int) * d<=10 ^ 30:=by
   have:(24:Int) * d<=24 * 10 ^ 28:=by lia
   have:(24:Int) * 10 ^ 28<=10 ^ 30:=by decide
   lia
  lia
 ·rw [g];have:=Jim c (List.range b);rwa [length_range] at this
end
section
structure DrGood(H:Hp)(p:Addr)(ls:List Int)(os:List Nat)(ts:List Bool):Prop where
 at_:Jsp H p ls os ts
 good:Good ls os
 len:ts.length=ls.length
end
section
variable [En]
inductive Jfb(K:Frag)(vs:List V)(H:Hp)(Q:VK)(E:XK):Prop
 | mk(a:Addr)(ns:List Int)(b:Int)(c:Nat)(d:Int)(_:vs=[.ref a,.int b,.int c,.int d])(_:SqL K H a (iV ns))(_:ns.length<=63)(_:1<=c)(_:c<=24)(_:0 < d)(_:d<=10 ^ 28)(_:∀ p ls os ts e,Same H e->DrGood e p ls os ts->ls.length=c->Q (.ref p) e)
theorem J7w:FS1 ["cells","marks","many","span","lengths","order","turned"] Jcz:=fsc
theorem Jk1(F:Fn1 Jcz)(T:TxtR mg)(O:Ca1 1 Jl3 Jpc):
  Ca1 2 Jcz (Jfb K):=by
 refine F.ok J7w (fun f d A o s H vs Q E hr h=>?_);obtain ⟨a,ns,b,c,e,rfl,M,l,Y,P,R,Z,k⟩:=h;refine ⟨_,(J1 (Jnf (i:=4) (caps:=["cells","many","span"]) (js:=[0,2,3]) J7w.nd rfl (Or.inl rfl) rfl (J6d rfl T.range (J0 (pv 2) J3)) rfl (fun _ _ _ _=>J3l) (fun C U s H=>(Jl J1b Ja (Jl J2u (Jw (Jlu K) (by rfl) T.sum boot_sum (J0 (Jc6 (caps:=["cells"]) (js:=[1]) rfl (Jnh rfl T.range (J0 (pv 0) (J0 (Jw (Jbn K) (by rfl) T.len boot_len (J0 (pv 1) J3)) (J0 (pv 2) J3)))) rfl (fun _ _ _ _=>J3l) (fun C U s H=>(J8k (Jfy K) (pv 1) (pv 0)))) J3)) (pv 3)))))
  (J1 (Jf (i:=5) J7w.nd rfl (Or.inl rfl) (pcl O hr Jg (J0 (Jl J1b (Jw (J4d rfl) (by rfl) T.sum boot_sum (J0 (pv 0) J3)) (pv 1)) (J0 (pv 2) J3))))
  (J1 (Jnf (i:=6) (caps:=["marks"]) (js:=[1]) J7w.nd rfl (Or.inl rfl) rfl (J6d rfl T.range (J0 (pv 2) J3)) rfl (fun _ _ _ _=>J3l) (fun C U s H=>(J4u J9u (Jl J2u (Jl op_shr (pv 1) (pv 0)) Ja) Ja (Jv _))))
  (J7 (Jh (J30 (J0 (pv 4) (J0 (pv 5) (J0 (pv 6) J3))))))))),?_⟩
 refine ⟨_,rfl,(c:Int),rfl,by lia,by lia,fun N J=>Jq2 0 c (fun _=>true) (fun k=>V.int (lenK ns 0 c e k)) (by lia) J (fun _ _ H _ _ k=>k H (Same.refl _)) (fun D aa X Qe _ g q=>?_) (fun X g u=>?_)⟩
 ·have e2:(0 + (D:Int))=((0 + D:Nat):Int):=by lia
  refine ⟨_,rfl,_,rfl,a,_,rfl,.inl (g.seq M),_,rfl,((0 + D:Nat):Int),(ns.length:Int),(c:Int),?_,⟨by lia,by lia,by lia,by lia,by lia,by lia⟩,fun d2 L=>Jj3 (g.seq M) l (by lia) L rfl rfl fun H3 B h3=>?_⟩
  ·rw [<- e2,J2r]
  ·exact ⟨d2,_,rfl,.inl (SqL.of h3),_,rfl,_,_,rfl,rfl,R,_,_,rfl,rfl,q _ B⟩
 rw [J3v] at u;have r:X N=some (.lst (iV (Je9 ns 0 c e))):=by
  rw [u];show _=some (HO.lst ((List.map _ _).map V.int));rw [map_map];rfl
 refine ⟨_,rfl,a,ns,rfl,.inl (g.seq M),_,rfl,_,_,rfl,rfl,_,rfl,_,c,rfl,P,fun S H3 B I=>?_⟩;refine ⟨_,rfl,(c:Int),rfl,by lia,by lia,fun tp G=>Jq2 0 c (fun _=>true) (fun j=>V.bl (decide (V.int (b / 2 ^ (0 + (j:Int)).toNat % 2)=V.int 1))) (by lia) G (fun _ _ H _ _ k=>k H (Same.refl _)) (fun j hj W Qe _ y q=>?_) (fun W y n=>?_)⟩
 ·exact ⟨_,rfl,_,rfl,_,_,rfl,rfl,(by show (0:Int)<=0 + (j:Int);lia),_,_,rfl,rfl,(by show (0:Int) < 2;decide),rfl,q _ (Same.refl _)⟩
 rw [J3v] at n;obtain ⟨ts,v⟩:∃ ts:List Bool,ts=(List.range c).map fun (j:Nat)=>decide (V.int (b / 2 ^ (0 + (j:Int)).toNat % 2)=V.int 1):=⟨_,rfl⟩;have m:W tp=some (.lst (bV ts)):=by
  rw [n,v];refine congrArg (fun z=>some (HO.lst z)) ?_;show _=List.map V.bl _;rw [map_map];rfl
 refine ⟨_,rfl,_,rfl,_,rfl,(by show 3<=sizeLine;rw [sizeLine_eq];decide),fun p hp=>?_⟩;have w:=J9 (o:=.tup [.ref N,.ref S,.ref tp]) hp;refine k p (Je9 ns 0 c e) (J7n (ns.sum + b) (List.range c) c) ts _ (g.trans (B.trans (y.trans w))) ⟨⟨N,S,tp,J6,w _ _ (y _ _ (B _ _ r)),w _ _ (y _ _ I),w _ _ m⟩,Jkf ns Y P R Z,?_⟩ (J8w ..);rw [v,length_map,length_range,J8w]
end
section
variable [En]
inductive Jf0(vs:List V)(H:Hp)(Q:VK)(E:XK):Prop
 | mk(a b:Int)(_:vs=[.int a,.int b])(_:0<=a)(_:0<=b)(_:Q (.int (Int.gcd a b)) H)
theorem J7v:FS1 ["one","two","rest"] J9b:=fsc
theorem Jji(F:Fn1 J9b):
  Ca1 1 J9b Jf0:=by
 refine F.ok J7v fun f d A o s H vs Q E m h=>?_;obtain ⟨a,b,rfl,j,hb,k⟩:=h;refine ⟨_,(J1 (Jb3 PassesOwn.never (Jq J8n (pv 1) Ja (Jv _))
    (J1 (Jf (i:=2) J7v.nd rfl (Or.inl rfl) (Jl J2u (pv 0) (pv 1)))
    (J1 (Jf (i:=0) J7v.nd rfl (Or.inl rfl) (pv 1))
    (J7 (Jf (i:=1) J7v.nd rfl (Or.inl rfl) (pv 2))))))
   (J7 (Jh (pv 0)))),?_⟩
 refine ⟨fun mu σ l=>∃ (c d:Int) (v:Option V),0<=c/\0<=d/\Int.gcd c d=Int.gcd a b/\mu=d.toNat/\σ=[some (.int c),some (.int d),v]/\H=l,⟨_,a,b,none,j,hb,rfl,rfl,rfl,rfl⟩,?_⟩;rintro mu σ _ ⟨c,d,v,g,hd,e,rfl,rfl,rfl⟩;refine ⟨_,rfl,_,_,rfl,rfl,_,rfl,?_⟩;by_cases z:d > 0
 ·refine J48 z ⟨_,fun σ' n h=>h,_,rfl,_,rfl,_,_,rfl,rfl,z,_,rfl,_,rfl,(c % d).toNat,?_,d,c % d,some (.int (c % d)),by lia,Int.emod_nonneg _ (by lia),?_,rfl,rfl,rfl⟩
  ·have:=Int.emod_lt_of_pos c z;have:=Int.emod_nonneg c (show d≠0 by lia);lia
  ·rw [<- e];unfold Int.gcd;rw [Int.natAbs_emod_of_nonneg g,Nat.gcd_comm c.natAbs,Nat.gcd_rec d.natAbs c.natAbs,Nat.gcd_comm]
 ·obtain rfl:d=0:=by lia
  refine iteD z ⟨_,rfl,?_⟩;rw [<- e,Int.gcd_zero_right] at k;rwa [Int.natAbs_of_nonneg g] at k
end
end R74
namespace L2
open PySem PySem.Spec PyProof.Rows
section
variable{X:Cx}{e:Expr}{te:TE}{p pos pos' apos:Pos}
inductive Jqi(Q:VK)(x:V)(a:Hp):Prop
 | mk(q:Addr)(kvs:List (Key × V))(ns:List Int)(_:x=.ref q)(_:a q=some (.dK kvs))(_:kvs.map (·.1)=ns.map Sum.inl)(_:ns.length < 64)(_:∀ l (ns':List Int),a l=none->ns'.Perm ns->ns'.Pairwise (·<=·)->Q (.ref l) (upd a l (.lst (ns'.map V.int))))
noncomputable def tSKeys(a:TE):TE:=fun σ H Q=>a σ H fun x b=>Jqi Q x b
theorem Jni(hc:X.calm=true)(hg:Gl X "sorted")(hm:X.mg "sorted"=none)(ha:PE X e te)(j:attributeBase e "keys" X.env (eval e X.env)=eval e X.env:=by rfl)(g:(apos.endLine == pos'.line)=true:=by rfl)(y:starEach [Expr.Call (.Attribute e "keys" apos) [] [] pos'] X.env=[(false,eval (Expr.Call (.Attribute e "keys" apos) [] [] pos') X.env)]:=by rfl):
  PE X (.Call (.Name "sorted" p) [.Call (.Attribute e "keys" apos) [] [] pos'] [] pos) (tSKeys te):=by
 intro pins s σ H Q I h;refine wpAny_Call_Name_kw (J7g I hg hm boot_sorted ?_ (by decide) (by decide));refine callWith_builtin1 (rest:=[]) ?_ (by rw [y];rfl) rfl;rw [y];show wpAny _ _ (spliced [(false,eval (Expr.Call (.Attribute e "keys" apos) [] [] pos') X.env)]) _ _ s;refine Calls.spliced_cons ?_;refine wpAny_Call_method0_late j g (thn (ha pins s σ H _ I h) fun v K hh=>?_);obtain ⟨x,H1,A,r1,q,kvs,ns,rfl,M,O,G,k⟩:=hh;cases r1;obtain ⟨R,h2⟩:=Jp7 (T:="dict") (x:=.ref q) A rfl (.inr (.inr (.inl ⟨rfl,.inl ⟨kvs,M⟩⟩)));obtain ⟨hz,hd,vs,L,U⟩:=Jsj A.hok M;obtain ⟨ep,E⟩:=U.dictAt;have N:vs.length=kvs.length:=L.length.symm;have B:kvs.length=ns.length:=by have:=congrArg List.length O;rwa [length_map,length_map] at this
 have C:vs.map (·.1)=ns.map Sum.inl:=L.keys.symm.trans O;refine ⟨"dict","dict.keys",PySem.F.plainAttrs_dict,PySem.F.slot_dict_keys,PySem.F.type_dict_keys,R,h2,Calls.callWith_builtin rfl (PySem.evalArgs_none ?_)⟩;refine call_meetsIn PySem.F.slot_dict_keys R PySem.F.entry_dict_keys (PySem.F.args_dict_keys_1 _) (PySem.W.kdl_meets_keys (J1z X.prog X.w) q hd) ⟨⟨_,U⟩,?_⟩;refine Calls.spliced_nil ?_;refine Calls.call_function_entry kind_sorted plain_sorted entry_sorted (args_sorted1 _) ?_;unfold Builtin.«sorted»;refine wpAny_bind (m:=checkCount "sorted" 1 1 _) (wpAny_pure ?_);refine wpAny_bind (PySem.W.kdu_collect (PySem.W.kdl_keys (knd:=J1z X.prog X.w) (d:=q) (r:=K.heap.objs.size) (kvs:=vs) (ep:=ep)) (A.ok.hd hc) ⟨⟨_,get?_push_size _ rfl,rfl,rfl⟩,?_⟩ (by rw [N];exact hz) fun h' J acc D c=>?_)
 ·obtain ⟨o,es,ho,rest⟩:=E;exact ⟨o,es,get?_push_of_some _ ho,rest⟩
 have P:IntsAre acc.toList ns:=by
  refine J23 (Jbr (by rw [length_toList];exact c.1.trans (by rw [N,B])) fun i v e=>?_);obtain ⟨k,x,e1,e2⟩:=c.2 i v (by rw [<- Array.getElem?_toList];exact e);have S:(vs.map (·.1))[i]?=some k:=by rw [getElem?_map,e1];rfl
  rw [C,getElem?_map] at S;obtain ⟨n,e4,rfl⟩:=Option.map_eq_some_iff.mp S;rw [getD_eq_getElem?_getD,e4];exact PyProof.V.Flat.int_inv (PySem.W.kdl_flat_int (prog:=X.prog) (w:=X.w) e2)
 have u:acc.toList.length < 64:=by rw [P.length];exact G
 refine wpAny_bind (wpAny_newList ?_);have f:(h'.push (seqObj "list" acc.toList.toArray 0)).get? h'.objs.size=some (seqObj "list" acc.toList.toArray 0):=get?_push_size _ rfl;have Z:Inv X pins σ H1 { K with heap:=h',toks:=J }:=A.kept fun b o z=>D b o (get?_push_of_some _ z);refine wpAny_bind (wpAny_holding (wpAny_call_entry slot_list_sort ⟨_,f,rfl⟩ entry_list_sort (list_sort_tree f P u fun out l a1 Y a3=>⟨_,rfl,?_⟩) (args_list_sort _)));refine wpAny_pure ⟨_,rfl,?_⟩;obtain ⟨e,he⟩:=sortedHeap_at (out:=out) f;refine ⟨.ref h'.objs.size,_,Z.laid (t':=J) (a:=h'.objs.size) (o:=.lst (l.map V.int)) (fun b o z=>?_) (Nat.le_refl _) ⟨?_,out.toList,e,J4l a1,he⟩,rfl,k _ l (Z.hok.fresh (Nat.le_refl _)) Y a3⟩
 ·have hb:=lt_size z;rw [sortedHeap_old (Nat.ne_of_lt hb) (by rw [size_push'];exact Nat.lt_succ_of_lt hb)];exact get?_push_of_some _ z
 ·rw [length_map,Y.length_eq];exact Nat.le_of_lt (J14 (by omega))
end
end L2
namespace Rl
noncomputable def sel(N:Int)(p:Int->Prop):List Int:=((List.range N.toNat).map fun (y:Nat)=>(y:Int)).filter fun y=>@decide (p y) (Classical.propDecidable _)
noncomputable abbrev cn(N:Int)(p:Int->Prop):Nat:=(sel N p).length
section
variable{N:Int}{p q:Int->Prop}
theorem J74 :x∈sel N p↔(0<=x/\x < N)/\p x:=by
 unfold sel;rw [mem_filter,mem_map];simp only [mem_range,decide_eq_true_iff];constructor
 ·grind
 ·rintro ⟨⟨c,b⟩,a⟩;exact ⟨⟨x.toNat,by lia,by lia⟩,a⟩
theorem J69:(sel N p).Nodup:=by
 refine List.Pairwise.filter _ (pairwise_map.mpr (nodup_range.imp fun h e=>h (by lia)))
theorem Jp3{l:List Int}(nd:l.Nodup)(h:∀ x,x∈l↔(0<=x/\x < N)/\p x):cn N p=l.length:=
 ((List.perm_ext_iff_of_nodup J69 nd).mpr fun x=>J74.trans (h x).symm).length_eq
theorem Jbl(h:∀ x,0<=x->x < N->(p x↔q x)):cn N p=cn N q:=Jp3 J69 fun x=>J74.trans ⟨fun z=>⟨z.1,(h x z.1.1 z.1.2).mpr z.2⟩,fun z=>⟨z.1,(h x z.1.1 z.1.2).mp z.2⟩⟩
theorem Jp2(c:Int->Prop):cn N p=cn N (fun x=>p x/\c x) + cn N (fun x=>p x/\¬ c x):=by
 rw [Jp3 (p:=p) (l:=sel N (fun x=>p x/\c x) ++ sel N (fun x=>p x/\¬ c x)) ?_ ?_,length_append]
 ·refine nodup_append.mpr ⟨J69,J69,fun x b y a e=>?_⟩;rw [J74] at b a;exact a.2.2 (e ▸ b.2.2)
 ·intro x;rw [mem_append,J74,J74];constructor
  ·rintro (h | h) <;> exact ⟨h.1,h.2.1⟩
  ·rintro ⟨h,d⟩;by_cases k:c x
   ·exact .inl ⟨h,d,k⟩
   ·exact .inr ⟨h,d,k⟩
theorem Jqc(h:Int->Int):∀ {ks:List Int} {p:Int->Prop},ks.Nodup->(∀ x,0<=x/\x < N->p x->h x∈ks)->cn N p=(ks.map fun L=>cn N fun x=>p x/\h x=L).sum
 | [],p,_,hk=>by
  rw [Jp3 (p:=p) (l:=[]) nodup_nil fun x=>⟨fun e=>(nomatch e),fun e=>absurd (hk x e.1 e.2) (by simp)⟩];rfl
 | k :: ks,p,nd,hk=>by
  rw [nodup_cons] at nd;rw [Jp2 (fun x=>h x=k),map_cons,Jqc h (p:=fun x=>p x/\¬ h x=k) nd.2 fun x b a=>(mem_cons.mp (hk x b a.1)).resolve_left a.2]
  congr 2
  refine map_congr_left fun L c=>Jbl fun x _ _=>⟨fun z=>⟨z.1.1,z.2⟩,fun z=>⟨⟨z.1,fun e=>nd.1 ?_⟩,z.2⟩⟩;rw [<- e,z.2];exact c
end
section
variable{f:Int->Int}{N:Int}{bs:List Band}
theorem Sys.has(S:Sys f N bs)(h:0<=x/\x < N):J4j f x (rOf f x):=by
 obtain ⟨n,R⟩:=S.hasRnd h.1 h.2;rw [Jfg R];exact R
variable{a b:Int->Int}
end
noncomputable abbrev tB(bs:List Int):Int->Int:=gL bs (List.range bs.length) (List.replicate bs.length true)
section
variable{f F:Int->Int}{N:Int}{cb:List Band}
theorem Jbe(inn:∀ y,0<=y->y < N->0<=f y/\f y < N)(e:∀ y,0<=y/\y < N->f y=F y)(h:0<=y/\y < N):∀ n,itN f n y=itN F n y/\0<=itN f n y/\itN f n y < N
 | 0=>⟨rfl,h⟩
 | n + 1=>by
  obtain ⟨a,b⟩:=Jbe inn e h n;exact ⟨by rw [J83,J83,<- a,e _ b],inn _ b.1 b.2⟩
theorem Sys.congr(S:Sys f N cb)(e:∀ y,0<=y/\y < N->f y=F y):Sys F N cb where
 inn:=fun y h g=>by rw [<- e y ⟨h,g⟩];exact S.inn y h g
 inj:=fun y z a b c d q=>S.inj y z a b c d (by simp_all)
 bnd:=fun b hb=>by
  obtain ⟨w,j,k⟩:=S.bnd b hb;refine ⟨w,j,fun o o0 o1=>?_⟩;have lo:=S.lo b hb;have it:=Jbe S.inn e (y:=b.1 + o) ⟨by lia,by lia⟩;obtain ⟨p,l,m⟩:=k o o0 o1;exact ⟨p,by rw [<- (it _).1];exact l,fun i a c=>by rw [<- (it i).1];exact m i a c⟩
 lo:=S.lo
 ord:=S.ord
 sum:=S.sum
end
theorem Jew(g:Int->Nat):∀ l:List Int,(l.map fun x=>(g x:Int)).sum=((l.map g).sum:Nat)
 | []=>rfl
 | x :: l=>by rw [map_cons,map_cons,sum_cons,sum_cons,Jew g l,Int.natCast_add]
section
variable{F F':Int->Int}{N M:Int}
theorem it_in(inn:∀ x,0<=x/\x < N->0<=F x/\F x < N)(h:0<=x/\x < N):∀ i,0<=itN F i x/\itN F i x < N
 | 0=>h
 | i + 1=>inn _ (it_in inn h i)
theorem J92(inn:∀ x,0<=x/\x < N->0<=F x/\F x < N)(hb:∀ x,0<=x/\x < N->F' (F x)=x)(h:0<=x/\x < N):∀ i,itN F' i (itN F i x)=x
 | 0=>rfl
 | i + 1=>by rw [Jkr,J83,hb _ (it_in inn h i),J92 inn hb h i]
theorem Jn1(inn:∀ x,0<=x/\x < N->0<=F x/\F x < N)(c:∀ x,0<=x/\x < N->0<=F' x/\F' x < N)(hb:∀ x,0<=x/\x < N->F' (F x)=x)(d:∀ x,0<=x/\x < N->F (F' x)=x)(h:0<=x/\x < N)(R:J4j F x n):J4j F' x n:=by
 refine ⟨R.pos,?_,fun i a b e=>R.least i a b ?_⟩
 ·have:=J92 inn hb h n;rw [R.back] at this;exact this
 ·have:=J92 c d h i;rw [e] at this;exact this
end
section
variable{f:Int->Int}{N:Int}{cb:List Band}
theorem Sys.num_n(S:Sys f N cb)(L:Nat):((cn N fun x=>rOf f x=L:Nat):Int)=L * cntL (conB cb) L:=by
 rw [<- S.num L,<- J53 (p:=fun x=>decide (rOf f x=L)),List.countP_eq_length_filter];unfold cn sel
 congr 2
 refine List.filter_congr fun x _=>?_;rw [decide_eq_decide]
theorem Sys.num_same(S:Sys f N cb)(c:Sys g M db)(d:1<=L)(e:cn N (fun x=>rOf f x=L)=cn M (fun x=>rOf g x=L)):cntL (conB cb) L=cntL (conB db) L:=by
 have a:=S.num_n L;have b:=c.num_n L;rw [e,b] at a;exact (Int.eq_of_mul_eq_mul_left (by lia) a).symm
end
section
variable{f:Int->Int}{N:Int}{cb:List Band}
theorem Jg0(t:Nat)(x:Int):∀ i,itN (itN f t) i x=itN f (t * i) x
 | 0=>rfl
 | i + 1=>by rw [J83,Jg0 t x i,Nat.mul_succ,J1a]
theorem Sys.dvd(S:Sys f N cb){x:Int}(h:0<=x/\x < N){n:Nat}(R:J4j f x n)(m:Nat):itN f m x=x↔n ∣ m:=by
 have:=S.rnd_iff h.1 h.2 R R.pos m;rw [show itN f 0 x=x from rfl] at this;rw [this,Nat.dvd_iff_mod_eq_zero]
theorem Sys.pow(S:Sys f N cb){x:Int}(h:0<=x/\x < N){t:Nat}(q:1<=t):rOf (itN f t) x=rOf f x / Nat.gcd (rOf f x) t:=by
 have R:=S.has h;have m:=S.dvd h R;generalize rOf f x=p at *;have g:0 < Nat.gcd p t:=Nat.gcd_pos_of_pos_left _ R.pos;obtain ⟨a,d⟩:=Nat.gcd_dvd_left p t;obtain ⟨b,j⟩:=Nat.gcd_dvd_right p t;have ep:p / Nat.gcd p t=a:=by
  have:p / Nat.gcd p t=Nat.gcd p t * a / Nat.gcd p t:=by rw [<- d]
  rw [this,Nat.mul_div_cancel_left _ g]
 have co:Nat.gcd a b=1:=by
  have:Nat.gcd p t * Nat.gcd a b=Nat.gcd p t * 1:=by rw [<- Nat.gcd_mul_left,<- d,<- j,Nat.mul_one]
  exact Nat.eq_of_mul_eq_mul_left g this
 have c:∀ i,itN (itN f t) i x=x↔a ∣ i:=fun i=>by
  rw [Jg0,m];have e:p ∣ t * i↔a ∣ b * i:=by
   constructor
   ·intro k;refine Nat.dvd_of_mul_dvd_mul_left g ?_;rw [<- d,<- Nat.mul_assoc,<- j];exact k
   ·intro k;have:=Nat.mul_dvd_mul_left (Nat.gcd p t) k;rw [<- d,<- Nat.mul_assoc,<- j] at this;exact this
  rw [e];exact ⟨fun k=>Nat.Coprime.dvd_of_dvd_mul_left co k,fun k=>Nat.dvd_mul_left_of_dvd k b⟩
 have n:0 < a:=Nat.pos_of_ne_zero fun z=>by rw [z,Nat.mul_zero] at d;have:=R.pos;omega
 rw [ep];exact Jfg ⟨n,(c a).mpr (Nat.dvd_refl a),fun i l o e=>by have:=Nat.le_of_dvd l ((c i).mp e);omega⟩
noncomputable def powP(t:Nat)(cs:List (Int × Int))(ks:List Int):List (Int × Int):=ks.map fun L=>(L / Int.gcd L t,cntL cs L * Int.gcd L t)
theorem Sys.pow_num{g:Int->Int}{s:List Band}(S:Sys f N cb)(F:Sys g N s){t:Nat}(u:1<=t)(v:∀ x,0<=x/\x < N->rOf g x=rOf (itN f t) x){ks:List Int}(R:Jdd N cb ks){q:Int}(G:1<=q):cntL (powP t (conB cb) ks) q=cntL (conB s) q:=by
 have j:=F.num_n q.toNat;have nd:ks.Nodup:=R.base.inc.imp fun h e=>by omega
 have E:=Jqc (N:=N) (fun x=>(rOf f x:Int)) nd (p:=fun x=>rOf g x=q.toNat) fun x m _=>by
  have p:=(S.has m).pos;refine R.only _ ?_;have d:=S.num_n (rOf f x);have C:x∈sel N (fun y=>rOf f y=rOf f x):=J74.mpr ⟨m,rfl⟩;have H:=List.length_pos_of_mem C;have B:(1:Int)<=((cn N fun y=>rOf f y=rOf f x:Nat):Int):=by show (1:Int)<=((sel N _).length:Nat);omega
  rw [d] at B;apply Classical.byContradiction;intro c;have:((rOf f x:Nat):Int) * cntL (conB cb) (rOf f x)<=(rOf f x:Nat) * 0:=Int.mul_le_mul_of_nonneg_left (by omega) (by omega);omega
 rw [E,<- Jew] at j;rw [show ((q.toNat:Nat):Int)=q by omega] at j;refine Int.eq_of_mul_eq_mul_left (a:=q) (by omega) (Eq.trans ?_ j);have:∀ l:List Int,(∀ L∈l,1<=L)->q * cntL (powP t (conB cb) l) q=(l.map fun L=>((cn N fun x=>rOf g x=q.toNat/\((rOf f x:Nat):Int)=L:Nat):Int)).sum:=fun l=>by
  induction l with
  | nil=>intro _;exact Int.mul_zero _
  | cons L l ih =>
   intro n;have J:=n L mem_cons_self;rw [map_cons,sum_cons,<- ih fun M w=>n M (mem_cons_of_mem _ w)];unfold powP;rw [map_cons,J3j,Int.mul_add]
   congr 1
   have r:∀ x,0<=x->x < N->((rOf f x:Nat):Int)=L->((rOf g x:Nat):Int)=L / Int.gcd L t:=fun x i d e=>by
    rw [v x ⟨i,d⟩,S.pow ⟨i,d⟩ u,Int.natCast_ediv,<- e];rfl
   have I:0 < Int.gcd L t:=Int.gcd_pos_of_ne_zero_left _ (by omega);obtain ⟨a,o⟩:=Int.gcd_dvd_left (a:=L) (b:=t);have D:L / Int.gcd L t=a:=by
    have:L / Int.gcd L t=Int.gcd L t * a / Int.gcd L t:=by rw [<- o]
    rw [this,Int.mul_ediv_cancel_left _ (by omega)]
   by_cases c:L / Int.gcd L t=q
   ·rw [if_pos c,Jbl (q:=fun x=>rOf f x=L.toNat) fun x i d=>⟨fun z=>by omega,fun z=>⟨by have:=r x i d (by omega);omega,by omega⟩⟩,S.num_n,show ((L.toNat:Nat):Int)=L by omega];show q * (cntL (conB cb) L * Int.gcd L t)=L * cntL (conB cb) L;rw [<- c,D,Int.mul_left_comm,Int.mul_comm a,<- o,Int.mul_comm]
   ·rw [if_neg c,Int.mul_zero,Jp3 (l:=[]) nodup_nil fun x=>⟨fun e=>(nomatch e),fun e=>absurd (r x e.1.1 e.1.2 e.2.2) fun z=>c (by have:=e.2.1;omega)⟩];rfl
 exact this ks fun L A=>(R.base.pos L A).1
end
end Rl
namespace R74
open PySem L2 Rl En
section
variable [En]
inductive Jbv(vs:List V)(H:Hp)(Q:VK)(E:XK):Prop
 | mk(f:Addr)(t:Nat)(ks:List Int)(c:Int->Int)(e:List V)(_:vs=[.ref f,.int t])(_:1<=t)(_:H f=some (.lst e))(_:RefL (fun q L=>H q=some (.tup [.int L,.int (c L)])) e ks)(_:∀ L∈ks,(1<=L/\L<=10 ^ 30)/\1<=c L/\c L<=10 ^ 30)(_:ks.length<=48)(_:t<=4)(_:∀ l d a b,Same H b->b l=some (.lst d)->RefL (fun q L=>b q=some (.tup [.int L,.int (cntL (ks.map fun L=>(L / Int.gcd L t,c L * Int.gcd L t)) L)])) d a->a.Pairwise (· < ·)->(∀ q,q∈a↔∃ L∈ks,L / Int.gcd L t=q)->Q (.ref l) b)
theorem J4p:FS1 ["found","times","told","length","many","shared"] J6q:=fsc
theorem Jgy(F:Fn1 J6q)(n:mg "sorted"=none)(ab:Ca1 1 J9b Jf0):
  Ca1 2 J6q Jbv:=by
 refine F.ok J4p (fun f d A o s H vs Q E hr h=>?_);obtain ⟨U,t,ks,c,ys,rfl,t1,M,rf,w,few,t4,k⟩:=h;have B:=Jsa hr;refine ⟨_,(J1 (Jf (i:=2) J4p.nd rfl (Or.inr rfl) Jfl)
  (J1 (J3s PassesOwn.never rfl (J33 (pv 0)) (Jfj rfl (J3g (J1y (i:=3) J4p.nd rfl (Or.inl rfl)) (J3g (J1y (i:=4) J4p.nd rfl (Or.inl rfl)) Jb6)))
   (J1 (Jf (i:=5) J4p.nd rfl (Or.inl rfl) (pcl ab hr Jg (J0 (pv 3) (J0 (pv 1) J3))))
   (J7 (Jj1 B (pv 2) (Jl J39 (pv 3) (pv 5)) (Jl J1b (Jfm B (pv 2) (Jl J39 (pv 3) (pv 5)) Ja ⟨rfl,rfl,rfl,rfl⟩) (Jl J3c (pv 4) (pv 5))) rfl))))
  (J7 (Jh (Jc6 (caps:=["told"]) (js:=[2]) rfl (J33 (Jni rfl rfl n (pv 2))) rfl (fun _ _ _ _=>J3l) (fun C fp s H=>J30 (J0 (pv 0) (J0 (Jdt B (pv 1) (pv 0) (fun _ _=>rfl)) J3)))))))),?_⟩
 intro r O;have s0:=J9 (o:=.dK []) O;have sm:∀ {v:Hp} {o:HO},Same H v->Same H (upd v r o):=fun {v o} s b u e=>by rw [Jm (Jd e O)];exact s _ _ e
 have Z:upd H r (.dK []) r=some (.dK []):=J6;generalize upd H r (.dK [])=H0 at *;have ly:=rf.len;refine ⟨_,rfl,U,rfl,⟨_,SqL.of (s0 _ _ M)⟩,J5i (K:=K) (a:=U) (xs:=ys)
  (fun i σ v=>∃ (kvs:List (Key × V)) (ns:List Int) (T S R:Option V),σ=[some (.ref U),some (.int t),some (.ref r),T,S,R]/\v r=some (.dK kvs)/\CntD ((ks.take i).map fun L=>(L / Int.gcd L t,c L * Int.gcd L t)) kvs ns/\Same H v)
  ⟨[],[],none,none,none,rfl,Z,CntD.nil,s0⟩ (fun i σ v _ ⟨_,_,_,_,_,_,_,_,s⟩=>SqL.of (s _ _ M)) ?_ ?_⟩
 ·rintro i v0 σ v hv ⟨kvs,ns,T,S,R,rfl,j,m,P⟩;have hi:i < ks.length:=by rw [<- ly];exact (List.getElem?_eq_some_iff.mp hv).1
  obtain ⟨q,eq,D⟩:=rf.at_ i ks[i] (List.getElem?_eq_getElem hi);obtain rfl:v0=.ref q:=Option.some.inj (hv.symm.trans eq);have tk:ks.take (i + 1)=ks.take i ++ [ks[i]]:=(List.take_append_getElem hi).symm;have hm:=w _ (List.getElem_mem hi);generalize ks[i]=L at *;have gp:0 < Int.gcd L t:=Int.gcd_pos_of_ne_zero_left _ (by lia);have gl:((Int.gcd L t:Nat):Int)<=4:=Int.le_trans (Int.le_of_dvd (by lia) (Int.gcd_dvd_right (a:=L) (b:=t))) (by lia);have kl:=m.klen;have W:=m.len;rw [length_map,length_take] at W;refine ⟨q,_,rfl,SqT.of (P _ _ D),rfl,_,_,rfl,_,_,rfl,rfl,?_⟩;refine ⟨_,rfl,_,rfl,L,t,rfl,by lia,by lia,?_⟩;have ac:(4:Int)<=10 ^ 30:=by decide
  have dv:=Jeg (i:=L) (b:=((Int.gcd L t:Nat):Int)) (by lia) (by lia);have bg:=J9x (a:=c L) (b:=((Int.gcd L t:Nat):Int)) (by lia) (by lia) (by lia) (by lia);refine ⟨_,rfl,r,rfl,.inl ⟨kvs,.inl j⟩,_,rfl,_,rfl,_,_,rfl,rfl,dv,_,DGet.k (k:=Sum.inl (L / Int.gcd L t)) j,_,rfl,_,rfl,_,_,rfl,rfl,bg,cntL ((ks.take i).map fun L=>(L / Int.gcd L t,c L * Int.gcd L t)) (L / Int.gcd L t),_,m.get _,rfl,_,rfl,_,rfl,_,rfl,_,_,rfl,rfl,dv,r,_,rfl,DPut.k (k:=Sum.inl (L / Int.gcd L t)) j (J14 (by lia)),?_⟩;obtain ⟨g,aa⟩:=m.put (L / Int.gcd L t) (c L * Int.gcd L t);refine ⟨_,g,_,_,_,rfl,J6,?_,sm P⟩;rw [tk,map_append];exact aa
 ·rintro σ v ⟨kvs,ns,T,S,R,rfl,j,m,P⟩;rw [ly,take_length] at m;have W:=m.len;rw [length_map] at W;refine ⟨_,rfl,r,kvs,ns,rfl,j,m.keys,by lia,fun l g Y y X=>?_⟩;have sl:=J9 (o:=.lst (iV g)) Y;have N:upd v l (.lst (iV g)) l=some (.lst (iV g)):=J6;have J:=sl _ _ j;generalize upd v l (.lst (iV g))=H5 at *;have dg:∀ {z:Hp},Same H5 z->∀ L∈g,DGet z r (.int L) (some (.int (cntL (ks.map fun L=>(L / Int.gcd L t,c L * Int.gcd L t)) L))):=fun {z} s L w=>by
   rw [<- m.val L (y.mem_iff.mp w)];exact DGet.k (k:=Sum.inl L) (s _ _ J)
  refine ⟨l,rfl,⟨_,SqL.of N⟩,fun d hd=>Jfw g (fun _=>true) (fun H q L=>H q=some (.tup [.int L,.int (cntL (ks.map fun L=>(L / Int.gcd L t,c L * Int.gcd L t)) L)])) (SqL.of N) ?_ hd (fun H z q x kd hn h=>kd _ _ h hn) ?_ ?_ ?_⟩
  ·exact Nat.le_of_lt (J14 (by rw [y.length_eq];lia))
  ·intro L w z Qt s' kt;exact kt _ (Same.refl _)
  ·rintro L w z Qe _ s' ⟨ys,G⟩ ke;refine ⟨_,rfl,_,rfl,_,rfl,r,_,rfl,dg s' L w,(by show 2<=sizeLine;decide),fun q D=>?_⟩;exact ke q _ (J9 D) (fun e=>by rw [e,G] at D;cases D) J6
  ·intro zs z s' G I;rw [show g.filter (fun _=>true)=g by simp] at I;refine k d zs g z ((P.trans sl).trans s') G I ((X.and (List.nodup_iff_pairwise_ne.mp (y.nodup_iff.mpr m.nd))).imp fun h=>by have:=h.1;have:=h.2;lia) fun q=>?_;rw [y.mem_iff];constructor
   ·intro D;obtain ⟨p,hp,rfl⟩:=m.has q D;obtain ⟨L,w,rfl⟩:=mem_map.mp hp;exact ⟨L,w,rfl⟩
   ·rintro ⟨L,w,rfl⟩;exact m.all _ (mem_map.mpr ⟨L,w,rfl⟩)
end
section
variable [En]{f g:Int->Int}{N:Int}{cb db:List Band}{ks ns:List Int}
theorem Jou{ls:List Int}{os:List Nat}{ts:List Bool}(g:Good ls os)(b:ts.length=ls.length){y:Int}(h:0<=y/\y < ls.sum):gC ls os ts y=gL ls os ts y:=by
 have O:=g.ord;obtain ⟨j,q⟩:=O.range.exists h.1 h.2;have ok:=J63 g.perm g.pos b g.hi;refine go_of ok ⟨j,?_,?_⟩
 ·have a:=q;unfold Lies at a;rw [J49 O q.1] at a;exact ⟨by show j < (List.range ls.length).length;rw [length_range];exact q.1,a.2.1,by show y < Jt ls (List.range ls.length) (j + 1);rw [J1d,J2x q.1];exact a.2.2⟩
 ·show gL ls os ts y=J45 ls ts ((List.range ls.length).getD j 0) (y - Jt ls (List.range ls.length) j) (firsts ls os);rw [Jhd O q,J2x q.1,J49 O q.1]
structure LnS(f:Int->Int)(N:Int)(ls:List Int)(os:List Nat)(ts:List Bool)(m:Nat):Prop where
 eq:∀ y,0<=y/\y < N->gC ls os ts y=f y
 size:(J2c ls os ts).size=N
 sys:Sys f N (bsC ls os ts m)
theorem Jka{ls:List Int}{os:List Nat}{ts:List Bool}{m:Nat}(b:ls.sum=N)(e:∀ x,0<=x->x < N->gL ls os ts x=f x)(a:ChP ls os ts m):LnS f N ls os ts m:=by
 have sz:(J2c ls os ts).size=N:=by rw [a.ok0.size_sum];exact b
 have e:∀ y,0<=y/\y < N->gC ls os ts y=f y:=fun y h=>by
  rw [Jou a.good a.hts (by rw [b];exact h)];exact e y h.1 h.2
 have S:=a.sys;rw [sz] at S;exact ⟨e,sz,S.congr e⟩
theorem LnS.it{ls:List Int}{os:List Nat}{ts:List Bool}{m:Nat}(S:LnS f N ls os ts m){x:Int}(h:0<=x/\x < N)(n:Nat):itN (gC ls os ts) n x=itN f n x:=by
 have inn:∀ y,0<=y->y < N->0<=gC ls os ts y/\gC ls os ts y < N:=fun y a b=>by rw [S.eq y ⟨a,b⟩];exact S.sys.inn y a b
 exact (Jbe inn S.eq h n).1
theorem rds_eq(S:Sys f N cb)(d:Sys g N db)(e:∀ x,0<=x/\x < N->rOf g x=rOf f x)(R:Jdd N cb ks)(a:Jdd N db ns):ns=ks/\∀ L∈ks,cntL (conB db) L=cntL (conB cb) L:=by
 have q:∀ L:Int,1<=L->cntL (conB db) L=cntL (conB cb) L:=fun L h=>by
  have:=d.num_same S (L:=L.toNat) (by omega) (Jbl fun x c b=>by rw [e x ⟨c,b⟩]);rw [Int.toNat_of_nonneg (by omega)] at this;exact this
 refine ⟨Jku a.base.inc R.base.inc fun z=>⟨fun m=>?_,fun m=>?_⟩,fun L m=>q L (R.base.pos L m).1⟩
 ·have p:=a.base.pos z m;exact R.only z (by rw [<- q z p.1];exact p.2)
 ·have p:=R.base.pos z m;exact a.only z (by rw [q z p.1];exact p.2)
theorem pow_eq{t:Nat}(S:Sys f N cb)(y:Sys (itN f t) N db)(r:1<=t)(R:Jdd N cb ks){j:List Int}(i:Jdd N db j)(inc:ns.Pairwise (· < ·))(g:∀ q,q∈ns↔∃ L∈ks,L / Int.gcd L t=q):j=ns/\∀ L∈ns,cntL (conB db) L=cntL (ks.map fun L=>(L / Int.gcd L t,cntL (conB cb) L * Int.gcd L t)) L:=by
 have q:∀ L:Int,1<=L->cntL (conB db) L=cntL (powP t (conB cb) ks) L:=fun L d=>(S.pow_num y r (fun _ _=>rfl) R d).symm;have n:∀ L:Int,1<=L->(0:Int) < ((Int.gcd L t:Nat):Int):=fun L d=>by
  have:0 < Int.gcd L t:=Int.gcd_pos_of_ne_zero_left _ (by omega);omega
 have dp:∀ L:Int,1<=L->1<=L / Int.gcd L t:=fun L d=>by
  have v:=n L d;have l:=Int.le_of_dvd (by omega) (Int.gcd_dvd_left (a:=L) (b:=t));exact Int.le_ediv_of_mul_le v (by omega)
 have o:∀ p∈powP t (conB cb) ks,0<=p.2:=fun p s=>by
  obtain ⟨L,d,rfl⟩:=mem_map.mp s;have h:=R.base.pos L d;exact Int.mul_nonneg (by omega) (by omega)
 have e:∀ L∈ns,1<=L:=fun z m=>by
  obtain ⟨L,d,rfl⟩:=(g z).mp m;exact dp L (R.base.pos L d).1
 refine ⟨Jku i.base.inc inc fun z=>⟨fun m=>?_,fun m=>?_⟩,fun L m=>q L (e L m)⟩
 ·have p:=i.base.pos z m;rw [q z p.1] at p;apply Classical.byContradiction;intro c;have:=Jls (ps:=powP t (conB cb) ks) (L:=z) fun a u w=>by
   obtain ⟨L,d,rfl⟩:=mem_map.mp u;exact c ((g z).mpr ⟨L,d,w⟩)
  omega
 ·refine i.only z ?_;rw [q z (e z m)];obtain ⟨L,d,rfl⟩:=(g z).mp m;have h:=R.base.pos L d;have l:=Jqb o (p:=(L / Int.gcd L t,cntL (conB cb) L * Int.gcd L t)) (mem_map.mpr ⟨L,d,rfl⟩);have A:=n L h.1;refine Int.le_trans ?_ l;show (1:Int)<=cntL (conB cb) L * Int.gcd L t;have:=Int.mul_le_mul (a:=1) (b:=1) h.2 (show (1:Int)<=((Int.gcd L t:Nat):Int) by omega) (by omega) (by omega);omega
theorem Jhp{k:Int->Int}(b:Bij N f k){x d a g:Int}(p:0<=x/\x < N)(o:0<=d/\d < N)(n:0<=a/\a < N)(l:0<=g->itN k g.toNat x=d)(m:g<=0->itN k (-g).toNat d=x)(j:0<=-g->itN f (-g).toNat x=a)(i:-g<=0->itN f (- -g).toNat a=x):d=a:=by
 rw [Int.neg_neg] at i;rcases Int.le_total 0 g with c | c
 ·have e:=i (by omega);rw [<- l c,<- e];exact J92 (F:=f) (F':=k) (fun x h=>b.inn x h.1 h.2) (fun x h=>b.kg x h.1 h.2) n _
 ·have e:=m c;rw [<- j (by omega),<- e];exact (J92 (F:=k) (F':=f) (fun x h=>b.ink x h.1 h.2) (fun x h=>b.gk x h.1 h.2) o _).symm
theorem Jm0{t:Nat}(S:Sys f N cb){x e d g:Int}(l:0<=e/\e < N)(j:0<=d/\d < N)(p:0<=g->itN (itN f t) g.toNat x=e)(r:g<=0->itN (itN f t) (-g).toNat e=x)(o:0<=t * g->itN f (t * g).toNat x=d)(q:t * g<=0->itN f (-(t * g)).toNat d=x):e=d:=by
 rcases Int.le_total 0 g with c | c
 ·rw [<- p c,<- o (Int.mul_nonneg (by omega) c),Jg0]
  congr 1
  obtain ⟨n,rfl⟩:=Int.eq_ofNat_of_zero_le c;rw [Int.toNat_natCast,<- Int.natCast_mul,Int.toNat_natCast]
 ·have h:=r c;have m:=q (by rw [<- Int.neg_neg (t * g),<- Int.mul_neg];have:=Int.mul_nonneg (a:=(t:Int)) (b:=-g) (by omega) (by omega);omega);rw [Jg0] at h;obtain ⟨n,i⟩:=Int.eq_ofNat_of_zero_le (a:=-g) (by omega);rw [<- Int.mul_neg,i,<- Int.natCast_mul,Int.toNat_natCast] at m;rw [i,Int.toNat_natCast] at h;exact S.itinj l.1 l.2 j.1 j.2 _ (h.trans m.symm)
theorem Jrj(h:1<=N):PlG (fun x=>x) N [N] [0] [false]:=⟨_,Jjb h,rfl,rfl,⟨by simp [range_succ],by simp⟩⟩
theorem still{ls g j:List Int}{os f l:List Nat}{ts d h:List Bool}(O:Ord ls os)(m:1<=ls.sum)(o:PlG (kL ls os ts) ls.sum g f d)(n:PlG (fun x=>gL g f d (gL ls os ts x)) ls.sum j l h):j=[ls.sum]/\h=[false]:=by
 have b:=J3h (ts:=ts) O;have e:∀ x,0<=x->x < ls.sum->gL g f d (gL ls os ts x)=x:=fun x c a=>by
  have i:=b.inn x c a;rw [o.goes b.symm _ i.1 i.2,b.kg x c a]
 have u:=(Jrj m).uni n (Bij.id _) fun x c a=>(e x c a).symm;exact ⟨u.1.symm,u.2.2.symm⟩
end
section
variable [En]
theorem Jsd(s:Stp):decide (V.str (Jan (kd s))=V.str (Jan .ho))=s.isHome:=by cases s <;> rfl
inductive Jib(C c CR:Addr)(cs:Kd->Addr)(vs:List V)(H:Hp)(Q:VK)(E:XK):Prop
 | mk(b:Addr)(ls:List Int)(os:List Nat)(ts:List Bool)(m:Nat)(_:vs=[.ref b])(_:ChF C c CR cs H b ls os ts m)(_:ChP ls os ts m)(_:∀ d a,Same H a->a d=some (.lst (nV (J7h (J1f ls os ts) m)))->Q (.ref d) a)
theorem Jr6:FS1 ["chart"] Jcw:=fsc
theorem Jo6{C l CR:Addr}{cs:Kd->Addr}(F:Fn1 Jcw)(TS:TxtS K cs)(q:J7a K l)(a:mg "enumerate"=none)(N:∀ k,HasM P w K mg base CX0 1 "word" ["self"] (J3n k) (cs k)):
  Ca1 2 Jcw (Jib C l CR cs):=by
 refine F.ok Jr6 (fun f d A o s H vs Q E D h=>?_);obtain ⟨r,ls,os,ts,m,rfl,R,L,k⟩:=h;have j:Room 1 _:=D.mono (by decide);refine ⟨_,(J7 (Jh (Jpr (caps:=[]) (js:=[]) rfl (Jds rfl a (J0 (J8 (pv 0)) J3)) rfl (fun _ _ _ _=>(Jb2 (Jq J9u (J3t (sp:=J3n) (cls:=cs) (pv 1) N j Jg) J6e (Jv _)))) (fun C fp s H=>(pv 0))))),?_⟩;obtain ⟨U,S,L0⟩:=R;obtain ⟨J,fs,pr,ps,pt,pb,xr,xs,T,W,G,⟨lL,lR,u,lT,lB⟩,⟨h1,p,h3,h4⟩,Z,c,Y,X⟩:=S.ex;have fw:=L.few;refine ⟨_,rfl,r,l,J,fs,_,rfl,G,q.cl,q.nS,u,ps,rfl,⟨_,SqT.of p⟩,fun d hd=>Js5 xs (fun i=>(sC ls os ts i).isHome) (fun i=>V.int (i:Nat)) (SqT.of p) (by rw [c.len];have:=Jkb;lia) hd (fun i v g e M n y=>?_) (fun i v g hg e Qe n z=>?_) (fun O s' b=>?_)⟩
 ·have hi:i < m:=by rw [<- c.len];exact (List.getElem?_eq_some_iff.mp g).1
  obtain ⟨x,ex,St⟩:=c.at_ i hi;obtain rfl:v=.ref x:=Option.some.inj (g.symm.trans ex);obtain ⟨I,B⟩:=St.same n;refine ⟨_,rfl,x,kd (sC ls os ts i),I,stF (sC ls os ts i),rfl,B,J4h _ (by decide +kernel) (by decide +kernel) (by decide +kernel),x,rfl,rfl,_,rfl,?_⟩;have:=Jsd (sC ls os ts i);show M (decide (V.str (Jan (kd (sC ls os ts i)))=V.str (Jan .ho))) e;rw [this];exact y e (Same.refl _)
 ·exact ⟨_,rfl,z e (Same.refl _)⟩
 ·rw [c.len] at b;refine k d O s' (b.trans ?_);show _=some (HO.lst (List.map V.int (natI _)));unfold natI;rw [map_map];rfl
noncomputable def pcC(ls:List Int)(os:List Nat)(ts:List Bool)(y:Int):Nat:=by
 classical exact if h:∃ j o,Jo (J2c ls os ts) y j o then h.choose else 0
theorem pcC_eq{ls:List Int}{os:List Nat}{ts:List Bool}{m:Nat}(a:ChP ls os ts m){y o:Int}{j:Nat}(A:Jo (J2c ls os ts) y j o):pcC ls os ts y=j:=by
 unfold pcC;have h:∃ j o,Jo (J2c ls os ts) y j o:=⟨j,o,A⟩;rw [dif_pos h];obtain ⟨b,B⟩:=h.choose_spec;exact (B.same a.ok0 A).1
theorem ChP.uni{ls:List Int}{os:List Nat}{ts:List Bool}{m:Nat}(a:ChP ls os ts m){k:Nat}(b:k<=m):Uni (gC ls os ts) (pcC ls os ts) (rC ls os ts k) (tC' ls os ts k):=a.cok.uni a.one (fun y j o A=>pcC_eq a A) a.lg b
structure Jp5(K:Frag)(CA:Addr):Prop where
 cl:Cls K CA
 nO:J19 K CA "own"
 nT:J19 K CA "times"
 nL:J19 K CA "letter"
 nD:J19 K CA "due"
structure J6r(CA:Addr)(H:Hp)(x:Addr)(own tms:Int)(j:Nat)(due:Int):Prop where
 ex:∃ (dx:Addr) (fs:List (Str × V)),H x=some (.ins CA dx fs)/\fs.lookup ("own":Str)=some (.int own)/\fs.lookup ("times":Str)=some (.int tms)/\fs.lookup ("letter":Str)=some (.int (j:Nat))/\fs.lookup ("due":Str)=some (.int due)
theorem J6r.same{b:Addr}{H a:Hp}{x:Addr}{own tms:Int}{j:Nat}{due:Int}(h:J6r b H x own tms j due)(s:Same H a):J6r b a x own tms j due:=
 by obtain ⟨d,fs,c,r⟩:=h.ex;exact ⟨d,fs,s _ _ c,r⟩
inductive Jbu(b:Addr)(vs:List V)(H:Hp)(Q:VK)(E:XK):Prop
 | mk(x c:Addr)(own tms:Int)(j:Nat)(due:Int)(_:vs=[.ref x,.int own,.int tms,.int (j:Nat),.int due])(_:H x=some (.ins b c []))(_:∀ a,J6r b a x own tms j due->J1n x H a->Q .non a)
theorem Jmm:Jr ["self","own","times","letter","due"] ["self","own","times","letter","due"] (Je (Jb (top 73) 0)):=fsc
theorem Jrr{f a:Addr}{fd:FuncData}(F:Fun K "__init__" "Part.__init__" (Jb (top 73) 0) f fd)(TP:Jp5 K a):
  FnOk P w K mg base CX0 1 f fd ["self","own","times","letter","due"] (Jbu a):=by
 refine F.ok1 Jmm (fun d A o s H vs Q E r h=>?_);obtain ⟨x,b,own,tms,j,due,rfl,n,k⟩:=h;refine ⟨_,(J1 (J1s (pv 0) (pv 1) rfl)
  (J1 (J1s (pv 0) (pv 2) rfl)
  (J1 (J1s (pv 0) (pv 3) rfl)
  (J7 (J1s (pv 0) (pv 4) rfl))))),?_⟩
 refine ⟨_,rfl,_,rfl,x,a,b,[],rfl,n,TP.cl,TP.nO,(by show 0 < 1000;decide),?_⟩;generalize hfs1:putF ("own":Str) (.int own) []=fs1;generalize hH1:upd H x (.ins a b fs1)=H1;have l1:fs1.length<=1:=by rw [<- hfs1];exact J1i ..
 have m:J1n x H H1:=by rw [<- hH1];exact J1n.upd
 have g:H1 x=some (.ins a b fs1):=by rw [<- hH1];exact J6
 refine ⟨_,rfl,_,rfl,x,a,b,fs1,rfl,g,TP.cl,TP.nT,(by lia),?_⟩;generalize hfs2:putF ("times":Str) (.int tms) fs1=fs2;generalize hH2:upd H1 x (.ins a b fs2)=H2;have q:fs2.length<=2:=by rw [<- hfs2];have:=J1i ("times":Str) (.int tms) fs1;lia
 have l:J1n x H1 H2:=by rw [<- hH2];exact J1n.upd
 have e:H2 x=some (.ins a b fs2):=by rw [<- hH2];exact J6
 refine ⟨_,rfl,_,rfl,x,a,b,fs2,rfl,e,TP.cl,TP.nL,(by lia),?_⟩;generalize hfs3:putF ("letter":Str) (.int (j:Nat)) fs2=fs3;generalize hH3:upd H2 x (.ins a b fs3)=H3;have p:fs3.length<=3:=by rw [<- hfs3];have:=J1i ("letter":Str) (.int (j:Nat)) fs2;lia
 have i:J1n x H2 H3:=by rw [<- hH3];exact J1n.upd
 have c:H3 x=some (.ins a b fs3):=by rw [<- hH3];exact J6
 refine ⟨_,rfl,_,rfl,x,a,b,fs3,rfl,c,TP.cl,TP.nD,(by lia),?_⟩;refine k _ ⟨b,_,J6,?_,?_,?_,J4x⟩ (m.trans (l.trans (i.trans J1n.upd)))
 ·rw [J5x (by decide +kernel),<- hfs3,J5x (by decide +kernel),<- hfs2,J5x (by decide +kernel),<- hfs1,J4x]
 ·rw [J5x (by decide +kernel),<- hfs3,J5x (by decide +kernel),<- hfs2,J4x]
 ·rw [J5x (by decide +kernel),<- hfs3,J4x]
theorem J6g{d:Addr}{H:Hp}{own tms:Int}{j:Nat}{due:Int}{Q:VK}(k:∀ p c,Same H c->J6r d c p own tms j due->Q (.ref p) c):
  ∀ x a,H x=none->H a=none->a≠x->Jbu d (.ref x :: ([.int own,.int tms,.int (j:Nat),.int due] ++ [])) (upd (upd H a (.own x)) x (.ins d a [])) (fun v m=>v=.non/\Q (.ref x) m) E0:=fun x a h g f=>by
 have i:=(J9 (o:=.own x) g).trans (J9 (l:=x) (o:=.ins d a []) (by rw [Jm (Ne.symm f)];exact h));exact ⟨x,a,own,tms,j,due,rfl,J6,fun c S kp=>⟨rfl,k x c (fun b u e=>kp _ _ (i _ _ e) (Jd e h)) S⟩⟩
theorem Jdh{ls:List Int}{os:List Nat}{ts:List Bool}{m k:Nat}(c:ChP ls os ts m)(a:k < m){j:Nat}(b:j∈(rC ls os ts (k + 1)).top):(tC' ls os ts (k + 1)).getD j 0=(tC' ls os ts k).getD j 0 + (if j∈(sC ls os ts k).losers (rC ls os ts k) then (tC' ls os ts k).getD (sC ls os ts k).winner 0 * (sC ls os ts k).times else 0):=by
 have F:=c.stp a;exact J7c F.ok F.ne F.len b
theorem Jsc{s:Stp}(h:s.isHome=true):s=.home s.winner:=by cases s <;> first | rfl | cases h
inductive Ji6(c:Addr)(cs:Kd->Addr)(vs:List V)(H:Hp)(Q:VK)(E:XK):Prop
 | mk(sp a b:Addr)(ls:List Int)(os:List Nat)(ts:List Bool)(m k j:Nat)(y o due:Int)(_:vs=[.ref sp,.ref b,.int (j:Nat),.int due])(_:H sp=some (.ins (cs (kd (sC ls os ts k))) a (stF (sC ls os ts k))))(_:H b=some (.tup (iV (tC' ls os ts k))))(_:ChP ls os ts m)(_:k < m)(_:Jo (rC ls os ts (k + 1)) y j o)(_:(0<=due/\due < (tC' ls os ts (k + 1)).getD j 0))(_:j∈(sC ls os ts k).losers (rC ls os ts k))(_:(sC ls os ts k).own=true)(_:∀ q own tms (j':Nat) due' y' H',Same H H'->J6r c H' q own tms j' due'->Jep (gC ls os ts) (pcC ls os ts) (rC ls os ts k) (tC' ls os ts k) (sC ls os ts k) y j due own tms j' due' y'->Q (.ref q) H')
inductive Ji5(c:Addr)(cs:Kd->Addr)(vs:List V)(H:Hp)(Q:VK)(E:XK):Prop
 | mk(sp a b:Addr)(ls:List Int)(os:List Nat)(ts:List Bool)(m k j:Nat)(y o due:Int)(_:vs=[.ref sp,.ref b,.int (j:Nat),.int due])(_:H sp=some (.ins (cs (kd (sC ls os ts k))) a (stF (sC ls os ts k))))(_:H b=some (.tup (iV (tC' ls os ts k))))(_:ChP ls os ts m)(_:k < m)(_:Jo (rC ls os ts (k + 1)) y j o)(_:(0<=due/\due < (tC' ls os ts (k + 1)).getD j 0))(_:j∈(sC ls os ts k).losers (rC ls os ts k))(_:(sC ls os ts k).own=false)(_:∀ q own tms (j':Nat) due' y' H',Same H H'->J6r c H' q own tms j' due'->Jep (gC ls os ts) (pcC ls os ts) (rC ls os ts k) (tC' ls os ts k) (sC ls os ts k) y j due own tms j' due' y'->Q (.ref q) H')
inductive Ji4(C b CR c:Addr)(cs:Kd->Addr)(vs:List V)(H:Hp)(Q:VK)(E:XK):Prop
 | mk(a:Addr)(ls:List Int)(os:List Nat)(ts:List Bool)(m k j:Nat)(y o due:Int)(_:vs=[.ref a,.int (k:Nat),.int (j:Nat),.int due])(_:ChF C b CR cs H a ls os ts m)(_:ChP ls os ts m)(_:k < m)(_:Jo (rC ls os ts (k + 1)) y j o)(_:(0<=due/\due < (tC' ls os ts (k + 1)).getD j 0))(_:∀ q own tms (j':Nat) due' y' H',Same H H'->J6r c H' q own tms j' due'->Jep (gC ls os ts) (pcC ls os ts) (rC ls os ts k) (tC' ls os ts k) (sC ls os ts k) y j due own tms j' due' y'->Q (.ref q) H')
theorem Jiq:FS1 ["step","towers","letter","due","left"] Jcq:=fsc
theorem Jnv{B:Addr}{cs:Kd->Addr}(F:Fn1 Jcq)(TS:TxtS K cs)(g:Mak CX0 1 "Part" B ["self","own","times","letter","due"] [] (Jbu B)):
  Ca1 3 Jcq (Ji6 B cs):=by
 refine F.ok Jiq (fun f d A o s H vs Q E I h=>?_);obtain ⟨sp,c,l,ls,os,ts,m,k,j,y,o,due,rfl,b,a,u,J,A,hd,r,own,q⟩:=h;refine ⟨_,(J1 (J24 (Jq J8m (pv 3) (Jp Jj (pv 1) (pv 2)) (Jv _)) (J7 (Jh (pmk g I Jg (J0 Ja (J0 Ja (J0 (pv 2) (J0 (pv 3) J3))))))) J13)
  (J1 (Jf (i:=4) Jiq.nd rfl (Or.inl rfl) (Jl J1u (pv 3) (Jp Jj (pv 1) (pv 2))))
  (J7 (Jh (pmk g I Jg (J0 Ja (J0 (Jl J39 (pv 4) (Jp Jj (pv 1) (J8 (pv 0)))) (J0 (J8 (pv 0)) (J0 (Jl J2u (pv 4) (Jp Jj (pv 1) (J8 (pv 0)))) J3))))))))),?_⟩
 have F:=u.stp J;have U:=u.uni (k:=k) (by lia);have e:=hd.2;rw [Jdh u J A.1,if_pos r] at e;obtain ⟨M,N,L⟩:=F.win;obtain ⟨P,O⟩:=F.tms;have C:=F.ok.row.lt _ M;have tl:=F.len;have D:=F.down.sub j A.1;have G:=F.ok.row.lt _ D;have R:=F.twr.pos j D;refine ⟨_,rfl,_,rfl,_,rfl,l,_,_,_,rfl,rfl,SqT.of a,Jc (J1g (by rw [tl];exact G)),_,_,rfl,rfl,_,rfl,?_⟩;by_cases v:due < (tC' ls os ts k).getD j 0
 ·refine J48 v ⟨_,rfl,_,rfl,J6g fun p z n w=>?_⟩;exact q p 0 0 j due y z n w (Jc7 F (J4k F own A r).1 ⟨hd.1,v⟩)
 refine iteD v ?_;refine ⟨_,rfl,_,rfl,_,rfl,l,_,_,_,rfl,rfl,SqT.of a,Jc (J1g (by rw [tl];exact G)),_,_,rfl,rfl,?_⟩;refine ⟨_,rfl,_,rfl,_,rfl,sp,cs (kd (sC ls os ts k)),c,stF (sC ls os ts k),_,rfl,b,TS.cl _,TS.nW _,J2f _,l,_,_,_,rfl,rfl,SqT.of a,Jc (J1g (by rw [tl];exact C)),_,_,rfl,rfl,Jeg (by lia) L,_,rfl,sp,cs (kd (sC ls os ts k)),c,stF (sC ls os ts k),_,rfl,b,TS.cl _,TS.nW _,J2f _,_,rfl,_,rfl,_,rfl,sp,cs (kd (sC ls os ts k)),c,stF (sC ls os ts k),_,rfl,b,TS.cl _,TS.nW _,J2f _,l,_,_,_,rfl,rfl,SqT.of a,Jc (J1g (by rw [tl];exact C)),_,_,rfl,rfl,(show 0 < (tC' ls os ts k).getD (sC ls os ts k).winner 0 by lia),J6g fun p z n w=>?_⟩;exact q p _ _ _ _ _ z n w (Jnk F U own A r ⟨by lia,e⟩)
theorem Jdq:FS1 ["step","towers","letter","due","times","coming"] Jcp:=fsc
theorem Jnu{z:Addr}{cs:Kd->Addr}(F:Fn1 Jcp)(n:mg "min"=none)(TS:TxtS K cs)(w:Mak CX0 1 "Part" z ["self","own","times","letter","due"] [] (Jbu z)):
  Ca1 3 Jcp (Ji5 z cs):=by
 refine F.ok Jdq (fun f d A o s H vs Q E O h=>?_);obtain ⟨sp,b,u,ls,os,ts,m,k,j,y,o,due,rfl,a,g,v,G,A,hd,I,own,q⟩:=h;refine ⟨_,(J1 (Jf (i:=4) Jdq.nd rfl (Or.inl rfl) (Jw (J9p rfl) (by rfl) n boot_min (J0 (Jl J39 (pv 3) (Jp Jj (pv 1) (J8 (pv 0)))) (J0 (J8 (pv 0)) J3))))
  (J1 (J4r (Jf (i:=5) Jdq.nd rfl (Or.inl rfl) (J2y (Jq J9u (pv 4) (J8 (pv 0)) (Jv _)) (pv 2) (J8 (pv 0)))))
  (J7 (Jh (pmk w O Jg (J0 Ja (J0 (pv 4) (J0 (pv 5) (J0 (Jl J1u (pv 3) (Jl J3c (pv 4) (Jp Jj (pv 1) (J8 (pv 0))))) J3))))))))),?_⟩
 have F:=v.stp G;have U:=v.uni (k:=k) (by lia);have r:=hd.2;rw [Jdh v G A.1,if_pos I] at r;obtain ⟨L,T,C⟩:=F.win;obtain ⟨Y,X⟩:=F.tms;have B:=F.ok.row.lt _ L;have tl:=F.len;have D:=F.down.sub j A.1;have jl:=F.ok.row.lt _ D;have Z:=F.twr.pos j D;refine ⟨_,rfl,_,rfl,_,rfl,sp,cs (kd (sC ls os ts k)),b,stF (sC ls os ts k),_,rfl,a,TS.cl _,TS.nW _,J2f _,u,_,_,_,rfl,rfl,SqT.of g,Jc (J1g (by rw [tl];exact B)),_,_,rfl,rfl,Jeg (by lia) C,_,rfl,sp,cs (kd (sC ls os ts k)),b,stF (sC ls os ts k),_,rfl,a,TS.cl _,TS.nT _,Jgm _,_,_,rfl,?_⟩;generalize hW:(tC' ls os ts k).getD (sC ls os ts k).winner 0=W at *;have e1:=Int.ediv_mul_le due (show W≠0 by lia);have P:=Int.lt_ediv_add_one_mul_self due (show 0 < W by lia);have e0:0<=due / W:=Int.ediv_nonneg hd.1 (by lia);obtain ⟨t',l⟩:∃ t',t'=(if (sC ls os ts k).times < due / W then (sC ls os ts k).times else due / W):=⟨_,rfl⟩;have c:t'<=(sC ls os ts k).times/\0<=t'/\t'<=due / W/\(t' < (sC ls os ts k).times->t'=due / W):=by
  rw [l];split <;> refine ⟨by lia,by lia,by lia,fun h=>by lia⟩
 have M:t' * W<=due:=by
  have:=Int.mul_le_mul_of_nonneg_right c.2.2.1 (show 0<=W by lia);lia
 refine ⟨fun σ' S=>σ'=[some (.ref sp),some (.ref u),some (.int (j:Nat)),some (.int due),some (.int t'),some (.int (if t'=(sC ls os ts k).times then j else (sC ls os ts k).winner:Nat))]/\H=S,?_,?_⟩
 ·refine ⟨_,rfl,_,rfl,sp,cs (kd (sC ls os ts k)),b,stF (sC ls os ts k),_,rfl,a,TS.cl _,TS.nT _,Jgm _,rfl,_,rfl,?_⟩;by_cases ct:t'=(sC ls os ts k).times
  ·refine J48 (congrArg V.int (l.symm.trans ct)) ⟨_,rfl,?_,rfl⟩;rw [if_pos ct,l];rfl
  ·refine iteD (fun e=>ct (by rw [l];exact V.int.inj e)) ⟨_,rfl,sp,cs (kd (sC ls os ts k)),b,stF (sC ls os ts k),_,rfl,a,TS.cl _,TS.nW _,J2f _,?_,rfl⟩;rw [if_neg ct,l];rfl
 rintro σ _ ⟨rfl,rfl⟩;refine ⟨_,rfl,_,rfl,_,rfl,_,rfl,_,rfl,_,rfl,sp,cs (kd (sC ls os ts k)),b,stF (sC ls os ts k),_,rfl,a,TS.cl _,TS.nW _,J2f _,u,_,_,_,rfl,rfl,SqT.of g,Jc (J1g (by rw [tl];exact B)),_,_,rfl,rfl,?_,_,_,rfl,rfl,J6g fun p R N J=>?_⟩
 ·rw [hW];exact J9x (by lia) (by lia) (by lia) C
 ·rw [hW] at J;have pt:=Jnj F U own A I ⟨hd.1,by rw [hW];exact r⟩ (t:=t') (by lia) c.1 (by rw [hW];exact M) (fun h=>by rw [c.2.2.2 h,hW];exact P);rw [hW] at pt;exact q p _ _ _ _ _ R N J pt
theorem Jip:FS1 ["chart","at","letter","due","step"] Jco:=fsc
theorem Jnt{C u CR M:Addr}{cs:Kd->Addr}(F:Fn1 Jco)(TR:J17 K CR)(TS:TxtS K cs)(r:J7a K u)(HL:∀ k,HasM P w K mg base CX0 2 "losers" ["self","rest"] (J28 cs CR k) (cs k))(HO:∀ k,HasM P w K mg base CX0 1 "own_first" ["self"] (J8f k) (cs k))(aa:Mak CX0 1 "Part" M ["self","own","times","letter","due"] [] (Jbu M))(ac:Ca1 3 Jcq (Ji6 M cs))(ab:Ca1 3 Jcp (Ji5 M cs)):
  Ca1 4 Jco (Ji4 C u CR M cs):=by
 refine F.ok Jip (fun f d A o s H vs Q E B h=>?_);obtain ⟨N,ls,os,ts,m,k,j,y,o,due,rfl,F0,S,D,A,hd,q⟩:=h;have W:Room 1 _:=B.mono (by decide);have U:Room 2 _:=B.mono (by decide);refine ⟨_,(J1 (Jf (i:=4) Jip.nd rfl (Or.inl rfl) (Jp Jj (J8 (pv 0)) (pv 1)))
  (J1 (J24 (Jq J7d (pv 2) (J6f (sp:=J28 cs CR) (cls:=cs) (pv 4) HL U Jg (J0 (Jp Jj (J8 (pv 0)) (pv 1)) J3)) rfl) (J7 (Jh (pmk aa B Jg (J0 Ja (J0 Ja (J0 (pv 2) (J0 (pv 3) J3))))))) J13)
  (J1 (J24 (J3r (J3t (sp:=J8f) (cls:=cs) (pv 4) HO W Jg)) (J7 (Jh (pcl ac B Jg (J0 (pv 4) (J0 (Jp Jj (J8 (pv 0)) (pv 1)) (J0 (pv 2) (J0 (pv 3) J3))))))) J13)
  (J7 (Jh (pcl ab B Jg (J0 (pv 4) (J0 (Jp Jj (J8 (pv 0)) (pv 1)) (J0 (pv 2) (J0 (pv 3) J3)))))))))),?_⟩
 have ae:=F0;obtain ⟨xl,A0,L0⟩:=F0;obtain ⟨R,fs,pr,ps,pt,pb,xr,xs,xt,xb,O,⟨lL,lR,lS,lT,lB⟩,⟨h1,h2,h3,h4⟩,r1,r2,r3,r4⟩:=A0.ex;obtain ⟨yi,Y,Ri⟩:=r1.at_ k (by lia);obtain ⟨yj,ad,Rj⟩:=r1.at_ (k + 1) (by lia);obtain ⟨sp,Z,⟨n,l⟩⟩:=r2.at_ k D;obtain ⟨tk,I,z⟩:=r3.at_ k (by lia);obtain ⟨di,fi,it,ib,il,iu,i0,⟨i1,i2,i3,i4,i5⟩,o1,o2,o3,o4⟩:=Ri.ex;obtain ⟨dj,fj,_,_,_,_,j0,⟨_,_,_,_,j5⟩,_⟩:=Rj.ex;have F:=S.stp D;have w1:=F.win.1;refine ⟨_,rfl,N,u,R,fs,_,rfl,O,r.cl,r.nS,lS,_,rfl,ps,_,_,_,rfl,rfl,SqT.of (h2),Jc Z,?_⟩;refine ⟨_,rfl,_,rfl,sp,kd (sC ls os ts k),n,stF (sC ls os ts k),rfl,l,J4h _ (by decide +kernel) (by decide +kernel) (by decide +kernel),_,rfl,N,u,R,fs,_,rfl,O,r.cl,r.nR,lR,_,rfl,pr,_,_,_,rfl,rfl,SqT.of (h1),Jc Y,sp,yi,(sC ls os ts k),rC ls os ts k,rfl,rfl,⟨n,l⟩,Ri,w1,F.ok.perm.mem_iff.mpr w1,fun lp H1 g X=>?_⟩;refine ⟨lp,_,rfl,.inr (SqT.of X),rfl,Jef _,_,rfl,?_⟩;by_cases c:j∈(sC ls os ts k).losers (rC ls os ts k)
 ·refine J91 (show ¬ (!inV (V.int (j:Nat)) (nV ((sC ls os ts k).losers (rC ls os ts k))))=true by rw [Jad,decide_eq_true c];decide) ?_;refine ⟨_,rfl,sp,kd (sC ls os ts k),n,stF (sC ls os ts k),rfl,g _ _ l,J4h _ (by decide +kernel) (by decide +kernel) (by decide +kernel),sp,rfl,_,rfl,?_⟩;rw [Jfn]
  cases own:(sC ls os ts k).own with
  | true=>exact iteT ⟨_,rfl,_,rfl,N,u,R,fs,_,rfl,g _ _ O,r.cl,r.nT,lT,_,rfl,pt,_,_,_,rfl,rfl,SqT.of (g _ _ h3),Jc I,_,rfl,_,rfl,sp,n,tk,ls,os,ts,m,k,j,y,o,due,rfl,g _ _ l,g _ _ z,S,D,A,hd,c,own,fun p a b c d e L v J T=>q p a b c d e L (g.trans v) J T⟩
  | false=>exact iteF ⟨_,rfl,_,rfl,N,u,R,fs,_,rfl,g _ _ O,r.cl,r.nT,lT,_,rfl,pt,_,_,_,rfl,rfl,SqT.of (g _ _ h3),Jc I,_,rfl,_,rfl,sp,n,tk,ls,os,ts,m,k,j,y,o,due,rfl,g _ _ l,g _ _ z,S,D,A,hd,c,own,fun p a b c d e L v J T=>q p a b c d e L (g.trans v) J T⟩
 ·refine J90 (show (!inV (V.int (j:Nat)) (nV ((sC ls os ts k).losers (rC ls os ts k))))=true by rw [Jad,decide_eq_false c];rfl) ?_;obtain ⟨o',A'⟩:=J76 F.np F.ret A c;have G:=hd.2;rw [Jdh S D A.1,if_neg c,Int.add_zero] at G;exact ⟨_,rfl,_,rfl,J6g fun p L v J=>q p 0 0 j due y L (g.trans v) J (Jc7 F ⟨o',A'⟩ ⟨hd.1,G⟩)⟩
end
section
variable [En]
inductive Jpg(C d CR:Addr)(cs:Kd->Addr)(vs:List V)(H:Hp)(Q:VK)(E:XK):Prop
 | mk(a q:Addr)(ls:List Int)(os:List Nat)(ts:List Bool)(m c:Nat)(o b:Int)(_:vs=[.ref a,.ref q])(_:ChF C d CR cs H a ls os ts m)(_:H q=some (.tup [.int (c:Nat),.int o,.int b]))(_:Adr (bsC ls os ts m) c o b)(_:Q .non H)
theorem Jpm:FS1 ["chart","told","band"] Jl8:=fsc
theorem Jrq{C g CR:Addr}{cs:Kd->Addr}(F:Fn1 Jl8)(T:TxtR mg)(e:J7a K g):
  Ca1 1 Jl8 (Jpg C g CR cs):=by
 refine F.ok Jpm (fun f d A o s H vs Q E hr h=>?_);obtain ⟨p,q,ls,os,ts,m,B,o,U,rfl,J,b,c,k⟩:=h;have I:=c.hb;have a1:=c.o0;have a2:=c.o1;have a3:=c.l0;have a4:=c.l1;refine ⟨_,(J1 (J24 (PW.pt (Jgt (Jq J8m (Jp Jj (pv 1) Ja) Ja (Jv _)) (Ja7 (Jq Jgv (Jp Jj (pv 1) Ja) (Jw J12 (by rfl) T.len boot_len (J0 (J8 (pv 0)) J3)) (Jv _))))) (J7 J25) J13)
  (J1 (Jf (i:=2) Jpm.nd rfl (Or.inl rfl) (Jp Jj (J8 (pv 0)) (Jp Jj (pv 1) Ja)))
  (J1 (J24 (PW.pt (Jgt (Jq J8m (Jp Jj (pv 1) Ja) Ja (Jv _)) (Ja7 (Jq Jgv (Jp Jj (pv 1) Ja) (Jp Jj (pv 2) Ja) (Jv _))))) (J7 J25) J13)
  (J7 (J24 (PW.pt (Jgt (Jq J8m (Jp Jj (pv 1) Ja) Ja (Jv _)) (Ja7 (Jq Jgv (Jp Jj (pv 1) Ja) (Jp Jj (pv 2) Ja) (Jv _))))) (J7 J25) J13))))),?_⟩
 obtain ⟨N,L,L0⟩:=J;obtain ⟨z,fs,S,ps,pt,u,xr,xs,M,D,y,⟨Z,Y,X,W,v⟩,⟨h1,h2,h3,w⟩,R,P,O,r⟩:=L.ex;have G:D.length=(bsC ls os ts m).length:=r.len;obtain ⟨n,l,a⟩:=r.at_ B I;have a:H n=some (.tup (J7q ((bsC ls os ts m).getD B bz0))):=a;refine ⟨_,rfl,q,_,_,_,rfl,rfl,SqT.of b,Jc (j:=0) rfl,_,_,rfl,rfl,_,rfl,iteD (by lia) ?_⟩;refine ⟨_,rfl,q,_,_,_,rfl,rfl,SqT.of b,Jc (j:=0) rfl,_,rfl,p,g,z,fs,_,rfl,y,e.cl,e.nB,v,u,_,rfl,.inr (SqT.of w),_,_,rfl,rfl,_,rfl,iteD (by lia) ?_⟩;refine ⟨_,rfl,p,g,z,fs,_,rfl,y,e.cl,e.nB,v,_,rfl,q,_,_,_,rfl,rfl,SqT.of b,Jc (j:=0) rfl,u,_,_,_,rfl,rfl,SqT.of w,Jc l,?_⟩;refine ⟨_,rfl,q,_,_,_,rfl,rfl,SqT.of b,Jc (j:=1) rfl,_,_,rfl,rfl,_,rfl,iteD (by lia) ?_⟩;refine ⟨_,rfl,q,_,_,_,rfl,rfl,SqT.of b,Jc (j:=1) rfl,_,rfl,n,_,_,_,rfl,rfl,SqT.of a,Jc (j:=1) rfl,_,_,rfl,rfl,_,rfl,iteD (by lia) ?_⟩;refine ⟨_,rfl,q,_,_,_,rfl,rfl,SqT.of b,Jc (j:=2) rfl,_,_,rfl,rfl,_,rfl,iteD (by lia) ?_⟩;exact ⟨_,rfl,q,_,_,_,rfl,rfl,SqT.of b,Jc (j:=2) rfl,_,rfl,n,_,_,_,rfl,rfl,SqT.of a,Jc (j:=2) rfl,_,_,rfl,rfl,_,rfl,iteD (by lia) k⟩
inductive Jic(C f CR g:Addr)(cs:Kd->Addr)(vs:List V)(H:Hp)(Q:VK)(E:XK):Prop
 | mk(c d:Addr)(ls:List Int)(os:List Nat)(ts:List Bool)(m k j j':Nat)(y o due own tms a b:Int)(_:vs=[.ref c,.int (k:Nat),.int y,.ref d])(_:ChF C f CR cs H c ls os ts m)(_:ChP ls os ts m)(_:k < m)(_:J6r g H d own tms j' a)(_:Jo (rC ls os ts (k + 1)) y j o)(_:Jep (gC ls os ts) (pcC ls os ts) (rC ls os ts k) (tC' ls os ts k) (sC ls os ts k) y j due own tms j' a b)(_:∀ e,Same H e->Q (.int b) e)
theorem Jit:FS1 ["chart","at","y","part","gone"] Jcx:=fsc
theorem Jo7{CO C M CR v:Addr}{cs:Kd->Addr}(F:Fn1 Jcx)(TR:J17 K CR)(TS:TxtS K cs)(J:J7a K M)(TP:Jp5 K v)(ac:Ca1 3 Jcm (Ji2 CR))(HO:∀ k,HasM P w K mg base CX0 1 "own_first" ["self"] (J8f k) (cs k))(aa:Ca1 1 Jag (Jdk C M CR cs)):
  Ca1 4 Jcx (Jic C M CR v cs):=by
 refine F.ok Jit (fun f d A o s H vs Q E hr h=>?_);obtain ⟨G,I,ls,os,ts,m,k,j,j',y,o,due,own,tms,ad,y',rfl,F0,O,N,Pa,A,p,B⟩:=h;have ab:Room 1 _:=hr.mono (by decide);refine ⟨_,(J1 (J24 (PW.pt (Jj0 (Jq J9u (J8 (pv 3)) Ja (Jv _)) (Jdr (Jq J9u (J8 (pv 3)) Ja (Jv _))))) (J7 (Jh (pv 2))) J13)
  (J1 (Jf (i:=4) Jit.nd rfl (Or.inl rfl) (pcl ac hr Jg (J0 (Jp Jj (J8 (pv 0)) (pv 1)) (J0 (pv 2) J3))))
  (J1 (J24 (J3r (J3t (sp:=J8f) (cls:=cs) (Jp Jj (J8 (pv 0)) (pv 1)) HO ab Jg)) (J7 (Jh (Jl J1u (pv 4) (Jl J3c (J8 (pv 3)) (pcl aa hr Jg (J0 (pv 0) (J0 (pv 1) J3))))))) J13)
  (J7 (Jh (Jl J1b (pv 4) (Jl J3c (Jl J1u (J8 (pv 3)) Ja) (pcl aa hr Jg (J0 (pv 0) (J0 (pv 1) J3)))))))))),?_⟩
 have D:=F0;obtain ⟨xl,A0,L0⟩:=F0;obtain ⟨dq,fs,pr,ps,pt,pb,xr,xs,xt,xb,h0,⟨lL,lR,lS,lT,lB⟩,⟨h1,h2,h3,h4⟩,r1,r2,r3,r4⟩:=A0.ex;obtain ⟨yi,X,Ri⟩:=r1.at_ k (by lia);obtain ⟨yj,ah,Rj⟩:=r1.at_ (k + 1) (by lia);obtain ⟨sp,Y,⟨Z,W⟩⟩:=r2.at_ k N;obtain ⟨tk,ai,ag⟩:=r3.at_ k (by lia);obtain ⟨di,fi,it,ib,il,iu,i0,⟨i1,i2,i3,i4,i5⟩,o1,o2,o3,o4⟩:=Ri.ex;obtain ⟨dj,fj,_,_,_,_,j0,⟨_,_,_,_,j5⟩,_⟩:=Rj.ex;obtain ⟨l,c,b,U,r,ae,af⟩:=Pa.ex;have F:=O.stp N;obtain ⟨t1,t2⟩:=F.tms;have u:=p.go_;have R:0<=y/\y < (rC ls os ts k).size:=by
  have h:0<=y/\y < (rC ls os ts (k + 1)).size:=A.inside (F.okl:(rC ls os ts (k + 1)).Ok);have:=O.sizes (i:=k) (k:=k + 1) (by lia) (by lia);lia
 have n:own=1->(sC ls os ts k).own=true:=p.own1;by_cases c1:own=0
 ·refine ⟨_,rfl,I,v,l,c,_,rfl,b,TP.cl,TP.nO,U,rfl,_,rfl,J48 (congrArg V.int c1) ?_⟩;by_cases c2:tms=0
  ·refine ⟨_,rfl,I,v,l,c,_,rfl,b,TP.cl,TP.nT,r,rfl,_,rfl,J48 (congrArg V.int c2) ⟨_,rfl,?_⟩⟩;rw [if_pos ⟨c1,c2⟩] at u;rw [<- u];exact B H (Same.refl _)
  have L:¬ (own=0/\tms=0):=fun h=>c2 h.2;have hh:=p.nh.resolve_left L;obtain ⟨s1,T,S⟩:=F.spn hh;rw [if_neg L] at u;refine ⟨_,rfl,I,v,l,c,_,rfl,b,TP.cl,TP.nT,r,rfl,_,rfl,iteD (fun e=>c2 (V.int.inj e)) ?_⟩;refine ⟨_,rfl,G,M,dq,fs,_,rfl,h0,J.cl,J.nR,lR,_,rfl,pr,_,_,_,rfl,rfl,SqT.of (h1),Jc X,_,rfl,yi,rC ls os ts k,y,rfl,Ri,F.ok,fun z H1 a g=>?_,R⟩;obtain rfl:=go_of F.ok g;refine ⟨_,rfl,G,M,dq,fs,_,rfl,a _ _ h0,J.cl,J.nS,lS,_,rfl,ps,_,_,_,rfl,rfl,SqT.of (a _ _ h2),Jc Y,sp,kd (sC ls os ts k),Z,stF (sC ls os ts k),rfl,a _ _ W,J4h _ (by decide +kernel) (by decide +kernel) (by decide +kernel),sp,rfl,_,rfl,?_⟩;rw [Jfn]
  cases hown:(sC ls os ts k).own with
  | true =>
   rw [hown,if_pos rfl] at u;refine iteT ⟨_,rfl,_,rfl,I,v,l,c,_,rfl,a _ _ b,TP.cl,TP.nT,r,_,rfl,_,rfl,G,ls,os,ts,m,k,rfl,D.same a,O,N,?_⟩;rw [show (rC ls os ts (k + 1)).size=((sC ls os ts k).behind (rC ls os ts k)).size from rfl,S];refine ⟨_,_,rfl,rfl,J9x p.t.1 (by have:=p.t.2;lia) (by lia) T,_,_,rfl,rfl,?_⟩;rw [u] at B;exact B H1 a
  | false =>
   rw [hown,if_neg (by decide)] at u;have t0:1<=tms:=by
    have q:=p.t.1;rcases p.o with e | e
    ·have:¬ tms=0:=fun e2=>L ⟨e,e2⟩;lia
    ·exact absurd (n e) (by rw [hown];decide)
   refine iteF ⟨_,rfl,_,rfl,I,v,l,c,_,rfl,a _ _ b,TP.cl,TP.nT,r,_,_,rfl,rfl,_,rfl,_,rfl,G,ls,os,ts,m,k,rfl,D.same a,O,N,?_⟩;rw [show (rC ls os ts (k + 1)).size=((sC ls os ts k).behind (rC ls os ts k)).size from rfl,S];refine ⟨_,_,rfl,rfl,J9x (by lia) (by have:=p.t.2;lia) (by lia) T,_,_,rfl,rfl,?_⟩;rw [u] at B;exact B H1 a
 have L:¬ (own=0/\tms=0):=fun h=>c1 h.1;have hh:=p.nh.resolve_left L;obtain ⟨s1,T,S⟩:=F.spn hh;rw [if_neg L] at u;refine ⟨_,rfl,I,v,l,c,_,rfl,b,TP.cl,TP.nO,U,rfl,_,rfl,iteD (fun e=>c1 (V.int.inj e)) (iteF ?_)⟩;refine ⟨_,rfl,G,M,dq,fs,_,rfl,h0,J.cl,J.nR,lR,_,rfl,pr,_,_,_,rfl,rfl,SqT.of (h1),Jc X,_,rfl,yi,rC ls os ts k,y,rfl,Ri,F.ok,fun z H1 a g=>?_,R⟩;obtain rfl:=go_of F.ok g;refine ⟨_,rfl,G,M,dq,fs,_,rfl,a _ _ h0,J.cl,J.nS,lS,_,rfl,ps,_,_,_,rfl,rfl,SqT.of (a _ _ h2),Jc Y,sp,kd (sC ls os ts k),Z,stF (sC ls os ts k),rfl,a _ _ W,J4h _ (by decide +kernel) (by decide +kernel) (by decide +kernel),sp,rfl,_,rfl,?_⟩;rw [Jfn]
 cases hown:(sC ls os ts k).own with
 | true =>
  rw [hown,if_pos rfl] at u;refine iteT ⟨_,rfl,_,rfl,I,v,l,c,_,rfl,a _ _ b,TP.cl,TP.nT,r,_,rfl,_,rfl,G,ls,os,ts,m,k,rfl,D.same a,O,N,?_⟩;rw [show (rC ls os ts (k + 1)).size=((sC ls os ts k).behind (rC ls os ts k)).size from rfl,S];refine ⟨_,_,rfl,rfl,J9x p.t.1 (by have:=p.t.2;lia) (by lia) T,_,_,rfl,rfl,?_⟩;rw [u] at B;exact B H1 a
 | false =>
  rw [hown,if_neg (by decide)] at u;have t0:1<=tms:=by
   have q:=p.t.1;rcases p.o with e | e
   ·have:¬ tms=0:=fun e2=>L ⟨e,e2⟩;lia
   ·exact absurd (n e) (by rw [hown];decide)
  refine iteF ⟨_,rfl,_,rfl,I,v,l,c,_,rfl,a _ _ b,TP.cl,TP.nT,r,_,_,rfl,rfl,_,rfl,_,rfl,G,ls,os,ts,m,k,rfl,D.same a,O,N,?_⟩;rw [show (rC ls os ts (k + 1)).size=((sC ls os ts k).behind (rC ls os ts k)).size from rfl,S];refine ⟨_,_,rfl,rfl,J9x (by lia) (by have:=p.t.2;lia) (by lia) T,_,_,rfl,rfl,?_⟩;rw [u] at B;exact B H1 a
inductive Ji3(C e CR:Addr)(cs:Kd->Addr)(vs:List V)(H:Hp)(Q:VK)(E:XK):Prop
 | mk(c q:Addr)(ls:List Int)(os:List Nat)(ts:List Bool)(m b:Nat)(o a:Int)(_:vs=[.ref c,.ref q])(_:ChF C e CR cs H c ls os ts m)(_:ChP ls os ts m)(_:H q=some (.tup [.int (b:Nat),.int o,.int a]))(_:Adr (bsC ls os ts m) b o a)(_:∀ d,Same H d->Q (.int (plOf (gC ls os ts) (bsC ls os ts m) b o a)) d)
theorem J3k:FS1 ["chart","told","home","y","letter","due","at","part"] Jcn:=fsc
theorem Jns{C r CR U:Addr}{cs:Kd->Addr}(F:Fn1 Jcn)(T:TxtR mg)(TR:J17 K CR)(TS:TxtS K cs)(Z:J7a K r)(TP:Jp5 K U)(am:Ca1 1 Jl8 (Jpg C r CR cs))(ao:Ca1 2 Jcw (Jib C r CR cs))(an:Ca1 4 Jco (Ji4 C r CR U cs))(ap:Ca1 4 Jcx (Jic C r CR U cs)):
  Ca1 6 Jcn (Ji3 C r CR cs):=by
 refine F.ok J3k (fun f d A o s H vs Q E X h=>?_);obtain ⟨v,q,ls,os,ts,m,R,o,lv,rfl,F0,e,J,z,kk⟩:=h;refine ⟨_,(J1 (J1t (pcl am X Jg (J0 (pv 0) (J0 (pv 1) J3))))
  (J1 (Jf (i:=2) J3k.nd rfl (Or.inl rfl) (Jp J4z (pcl ao X Jg (J0 (pv 0) J3)) (Jp Jj (pv 1) Ja)))
  (J1 (Jf (i:=3) J3k.nd rfl (Or.inl rfl) (Jl J1b (Jp Jj (Jp Jj (J8 (pv 0)) (Jp Jj (pv 1) Ja)) Ja) (Jp Jj (pv 1) Ja)))
  (J1 (Jf (i:=4) J3k.nd rfl (Or.inl rfl) (J8 (Jp Jj (J8 (pv 0)) (pv 2))))
  (J1 (Jf (i:=5) J3k.nd rfl (Or.inl rfl) (Jp Jj (pv 1) Ja))
  (J1 (J3s PassesOwn.never rfl (Jrg rfl T.range (J0 (Jl J1u (pv 2) Ja) (J0 (J9s J5p Ja) (J0 (J9s J5p Ja) J3)))) (J1y (i:=6) J3k.nd rfl (Or.inl rfl))
   (J1 (Jf (i:=7) J3k.nd rfl (Or.inl rfl) (pcl an X Jg (J0 (pv 0) (J0 (pv 6) (J0 (pv 4) (J0 (pv 5) J3))))))
   (J1 (Jf (i:=3) J3k.nd rfl (Or.inl rfl) (pcl ap X Jg (J0 (pv 0) (J0 (pv 6) (J0 (pv 3) (J0 (pv 7) J3))))))
   (J1 (Jf (i:=4) J3k.nd rfl (Or.inl rfl) (J8 (pv 7)))
   (J7 (Jf (i:=5) J3k.nd rfl (Or.inl rfl) (J8 (pv 7))))))))
  (J7 (Jh (pv 3))))))))),?_⟩
 have l:=F0;obtain ⟨xl,A0,L0⟩:=F0;obtain ⟨dq,fs,pr,ps,pt,pb,xr,xs,xt,xb,h0,⟨lL,lR,lS,lT,lB⟩,⟨h1,h2,h3,h4⟩,r1,r2,r3,r4⟩:=A0.ex;refine ⟨_,rfl,_,rfl,v,q,ls,os,ts,m,R,o,lv,rfl,l,J,z,?_⟩;have S:=e.sys;have fw:=e.few;obtain ⟨bp,ai,g⟩:=r4.at_ R z.hb;have g:H bp=some (.tup (J7q ((bsC ls os ts m).getD R bz0))):=g;obtain ⟨k,ag,hk,hh,w⟩:=Jot z.hb;obtain ⟨Bn,Y,b2⟩:=e.cok.band e.one (k:=k) (fun i hi=>e.lg i (by lia)) hh;have a1:=z.o0;have a2:=z.o1;have a3:=z.l0;have a4:=z.l1;have a:=kk;unfold plOf at a;have w:(bsC ls os ts m).getD R bz0=J2s (chN (J1f ls os ts) k):=w;rw [w] at g a2 a4 a;have F:=e.stp hk;obtain ⟨u,N⟩:∃ u,u=(rC ls os ts (k + 1)).size:=⟨_,rfl⟩;have Y:(J2s (chN (J1f ls os ts) k)).1=u:=Y.trans N.symm;have b2:(J2s (chN (J1f ls os ts) k)).1 + (J2s (chN (J1f ls os ts) k)).2.1=(rC ls os ts k).size:=b2;rw [Y] at b2 a;refine ⟨_,rfl,v,ls,os,ts,m,rfl,l,e,fun d H5 b hd=>?_⟩;refine ⟨_,rfl,q,_,_,_,rfl,rfl,SqT.of (b _ _ J),Jc (j:=0) rfl,d,_,_,_,rfl,rfl,SqL.of hd,Jc (show (nV (J7h (J1f ls os ts) m))[R]?=some (V.int ((k:Nat):Int)) from ?_),?_⟩
 ·rw [J4i,getElem?_map,ag];rfl
 refine ⟨_,rfl,v,r,dq,fs,_,rfl,b _ _ h0,Z.cl,Z.nB,lB,_,rfl,q,_,_,_,rfl,rfl,SqT.of (b _ _ J),Jc (j:=0) rfl,pb,_,_,_,rfl,rfl,SqT.of (b _ _ h4),Jc ai,bp,_,_,_,rfl,rfl,SqT.of (b _ _ g),Jc (j:=0) rfl,_,rfl,q,_,_,_,rfl,rfl,SqT.of (b _ _ J),Jc (j:=1) rfl,_,_,rfl,rfl,?_⟩;rw [Y];obtain ⟨sp,af,⟨al,ac⟩⟩:=r2.at_ k hk;refine ⟨_,rfl,v,r,dq,fs,_,rfl,b _ _ h0,Z.cl,Z.nS,lS,_,rfl,ps,_,_,_,rfl,rfl,SqT.of (b _ _ h2),Jc af,sp,cs (kd (sC ls os ts k)),al,stF (sC ls os ts k),_,rfl,b _ _ ac,TS.cl _,TS.nW _,J2f _,?_⟩;refine ⟨_,rfl,q,_,_,_,rfl,rfl,SqT.of (b _ _ J),Jc (j:=2) rfl,?_⟩;have hg:(sC ls os ts k)=.home (sC ls os ts k).winner:=Jsc hh;have np:J2b (rC ls os ts k) (.home (sC ls os ts k).winner):=by rw [<- hg];exact F.np
 obtain ⟨_,g2⟩:=Jkv F.ok F.ne np;have aj:((Stp.home (sC ls os ts k).winner).behind (rC ls os ts k)).size=u:=by rw [<- hg,N];rfl
 rw [aj] at g2;obtain ⟨aq,_⟩:=g2 (u + o) (by lia) (by lia);have ah:(J2s (chN (J1f ls os ts) k)).2.2.1=(tC' ls os ts k).getD (sC ls os ts k).winner 0:=rfl;rw [ah] at a4;refine ⟨_,rfl,_,_,rfl,rfl,_,rfl,_,rfl,(k:Int) - 1,?_,⟨by lia,by lia⟩,Jsh (lo:=(k:Int) - 1) (c:=-1) (n:=((k:Int) - 1 + 1).toNat)
  (fun i σ Hw=>∃ (j:Nat) (y I due:Int) (v6 v7:Option V),i<=k/\σ=[some (.ref v),some (.ref q),some (.int (k:Nat)),some (.int y),some (.int (j:Nat)),some (.int due),v6,v7]/\Jo (rC ls os ts (k - i)) y j I/\(0<=due/\due < (tC' ls os ts (k - i)).getD j 0)/\itN (gC ls os ts) due.toNat y=itN (gC ls os ts) lv.toNat (u + o)/\Same H Hw)
  ⟨_,_,_,_,none,none,Nat.zero_le _,rfl,aq,⟨a3,a4⟩,rfl,b⟩ ?_ ?_⟩
 ·rfl
 ·rintro i σ Hw hi ⟨j,y,I,due,v6,v7,_,rfl,A,hd,O,W⟩;obtain ⟨B,ad⟩:∃ B,k - i=B + 1:=⟨k - i - 1,by lia⟩;rw [ad] at A hd;have ak:(k:Int) - 1 + (i:Int) * (-1)=((B:Nat):Int):=by lia
  rw [ak];refine ⟨_,rfl,_,rfl,_,rfl,_,rfl,v,ls,os,ts,m,B,j,y,I,due,rfl,l.same W,e,by lia,A,hd,fun qa own tms j' p y' H7 s7 Pa Pt=>?_⟩;have D:=W.trans s7;refine ⟨_,rfl,_,rfl,_,rfl,_,rfl,v,qa,ls,os,ts,m,B,j,j',y,I,due,own,tms,p,y',rfl,l.same D,e,by lia,Pa,A,Pt,fun H8 s8=>?_⟩;obtain ⟨P,M,G,as,ar,aa,ab⟩:=(Pa.same s8).ex;refine ⟨_,rfl,qa,U,P,M,_,rfl,G,TP.cl,TP.nL,aa,?_⟩;refine ⟨_,rfl,qa,U,P,M,_,rfl,G,TP.cl,TP.nD,ab,?_⟩;obtain ⟨o',A'⟩:=Pt.at_;have L:=Pt.d;rw [show B=k - (i + 1) by lia] at A' L;exact ⟨j',y',o',p,_,_,by lia,rfl,A',L,Pt.it.trans O,D.trans s8⟩
 ·rintro σ Hw ⟨j,y,I,due,v6,v7,_,rfl,A,hd,O,W⟩;rw [show k - ((k:Int) - 1 + 1).toNat=0 by lia] at A hd;have one:=e.one j A.1;have ae:due < (J1f ls os ts).2.getD j 0:=hd.2;rw [one] at ae;obtain rfl:due=0:=by have:=hd.1;lia
  refine ⟨_,rfl,?_⟩;have O:y=itN (gC ls os ts) lv.toNat (u + o):=O;rw [O];exact a Hw W
end
section
variable [En]
inductive Ji8(vs:List V)(H:Hp)(Q:VK)(E:XK):Prop
 | mk(a:Addr)(b:Band)(o:Int)(_:vs=[.ref a,.int o])(_:H a=some (.tup (J7q b)))(_:Q (.int (b.2.1 - 1 - o)) H)
theorem Jqz:FS1 ["band","offset"] Jcs:=fsc
theorem Jny(F:Fn1 Jcs):
  Ca1 1 Jcs Ji8:=by
 refine F.ok Jqz (fun f d A o s H vs Q E c h=>?_);obtain ⟨a,b,o,rfl,hb,q⟩:=h;refine ⟨_,(J7 (Jh (Jl J1u (Jl J1u (Jp Jj (pv 0) Ja) Ja) (pv 1)))),?_⟩;exact ⟨_,rfl,a,_,_,_,rfl,rfl,SqT.of hb,Jc (j:=1) rfl,_,_,rfl,rfl,_,rfl,_,_,rfl,rfl,q⟩
inductive Jpl(C e CR:Addr)(cs:Kd->Addr)(vs:List V)(H:Hp)(Q:VK)(E:XK):Prop
 | mk(d q:Addr)(ls:List Int)(os:List Nat)(ts:List Bool)(m b:Nat)(o a g:Int)(_:vs=[.ref d,.ref q,.int g])(_:ChF C e CR cs H d ls os ts m)(_:ChP ls os ts m)(_:H q=some (.tup [.int (b:Nat),.int o,.int a]))(_:Adr (bsC ls os ts m) b o a)(_:∀ p c,Same H c->c p=some (.tup [.int (b:Nat),.int (offA ((bsC ls os ts m).getD b bz0) ((a + g) / ((bsC ls os ts m).getD b bz0).2.2.1) o),.int ((a + g) % ((bsC ls os ts m).getD b bz0).2.2.1)])->Q (.ref p) c)
theorem Jc2:FS1 ["chart","told","goings","band","reached","times_round","offset"] Jlc:=fsc
theorem Jry{C y CR:Addr}{cs:Kd->Addr}(F:Fn1 Jlc)(D:J7a K y)(w:Ca1 1 Jcs Ji8):
  Ca1 2 Jlc (Jpl C y CR cs):=by
 refine F.ok Jc2 (fun f d A o s H vs Q E M h=>?_);obtain ⟨z,q,ls,os,ts,m,b,o,r,g,rfl,T,B,l,G,k⟩:=h;refine ⟨_,(J1 (Jf (i:=3) Jc2.nd rfl (Or.inl rfl) (Jp Jj (J8 (pv 0)) (Jp Jj (pv 1) Ja)))
  (J1 (Jf (i:=4) Jc2.nd rfl (Or.inl rfl) (Jl J1b (Jp Jj (pv 1) Ja) (pv 2)))
  (J1 (Jf (i:=5) Jc2.nd rfl (Or.inl rfl) (Jl J39 (pv 4) (Jp Jj (pv 3) Ja)))
  (J1 (J4r (Jf (i:=6) Jc2.nd rfl (Or.inl rfl) (J2y (PW.pt (Jj0 (J3r (Jp Jj (pv 3) Ja)) (Jdr (Jq J9u (Jl J2u (pv 5) Ja) Ja (Jv _))))) (pcl w M Jg (J0 (pv 3) (J0 (Jp Jj (pv 1) Ja) J3))) (Jp Jj (pv 1) Ja))))
  (J7 (Jh (J30 (J0 (Jp Jj (pv 1) Ja) (J0 (pv 6) (J0 (Jl J2u (pv 4) (Jp Jj (pv 3) Ja)) J3)))))))))),?_⟩
 obtain ⟨X,U,L0⟩:=T;obtain ⟨R,fs,pr,ps,pt,J,xr,xs,W,Y,P,⟨lL,lR,lS,lT,L⟩,⟨h1,h2,h3,O⟩,r1,r2,Z,I⟩:=U.ex;obtain ⟨n,v,a⟩:=I.at_ b G.hb;have a:H n=some (.tup (J7q ((bsC ls os ts m).getD b bz0))):=a;have hi:=B.sys.high G.hb;have z0:=B.z0;generalize hc:(bsC ls os ts m).getD b bz0=c at *;refine ⟨_,rfl,z,y,R,fs,_,rfl,P,D.cl,D.nB,L,_,rfl,q,_,_,_,rfl,rfl,SqT.of l,Jc (j:=0) rfl,J,_,_,_,rfl,rfl,SqT.of O,Jc v,?_⟩;refine ⟨_,rfl,q,_,_,_,rfl,rfl,SqT.of l,Jc (j:=2) rfl,_,rfl,_,_,rfl,rfl,?_⟩;refine ⟨_,rfl,_,rfl,n,_,_,_,rfl,rfl,SqT.of a,Jc (j:=2) rfl,_,_,rfl,rfl,Jeg (show 0 < c.2.2.1 by lia) (show c.2.2.1<=10 ^ 30 by lia),?_⟩;refine ⟨fun σ' S=>σ'=[some (.ref z),some (.ref q),some (.int g),some (.ref n),some (.int (r + g)),some (.int ((r + g) / c.2.2.1)),some (.int (offA c ((r + g) / c.2.2.1) o))]/\H=S,?_,?_⟩
 ·refine ⟨_,rfl,n,_,_,_,rfl,rfl,SqT.of a,Jc (j:=3) rfl,_,rfl,?_⟩;by_cases ct:c.2.2.2=true
  ·refine J90 ct ?_;refine ⟨_,rfl,_,_,rfl,rfl,(by show (0:Int) < 2;decide),rfl,_,rfl,?_⟩;by_cases u:(r + g) / c.2.2.1 % 2=1
   ·refine J48 (congrArg V.int u) ?_;refine ⟨_,rfl,_,rfl,q,_,_,_,rfl,rfl,SqT.of l,Jc (j:=1) rfl,n,c,o,rfl,a,?_,rfl⟩;unfold offA J5n;rw [if_pos u,if_pos ct];rfl
   ·refine iteD (fun e=>u (V.int.inj e)) ?_;refine ⟨_,rfl,q,_,_,_,rfl,rfl,SqT.of l,Jc (j:=1) rfl,?_,rfl⟩;unfold offA;rw [if_neg u];rfl
  ·refine J91 ct (iteF ?_);refine ⟨_,rfl,q,_,_,_,rfl,rfl,SqT.of l,Jc (j:=1) rfl,?_,rfl⟩;unfold offA J5n;rw [if_neg ct,ite_self];rfl
 rintro σ _ ⟨rfl,rfl⟩;refine ⟨_,rfl,q,_,_,_,rfl,rfl,SqT.of l,Jc (j:=0) rfl,_,rfl,_,rfl,_,rfl,n,_,_,_,rfl,rfl,SqT.of a,Jc (j:=2) rfl,_,_,rfl,rfl,(show 0 < c.2.2.1 by lia),(by show 3<=sizeLine;decide),fun p N=>k p _ (J9 N) J6⟩
inductive Jih(C c CR:Addr)(cs:Kd->Addr)(vs:List V)(H:Hp)(Q:VK)(E:XK):Prop
 | mk(a:Addr)(ls:List Int)(os:List Nat)(ts:List Bool)(m:Nat)(x g:Int)(_:vs=[.ref a,.int x,.int g])(_:ChF C c CR cs H a ls os ts m)(_:ChP ls os ts m)(_:∀ z b,Same H b->(0<=z/\z < (J2c ls os ts).size)->(0<=g->itN (gC ls os ts) g.toNat x=z)->(g<=0->itN (gC ls os ts) (-g).toNat z=x)->Q (.int z) b)(_:0<=x/\x < (J2c ls os ts).size)
theorem Jra:FS1 ["chart","x","goings"] Jd2:=fsc
theorem Joe{C e CR:Addr}{cs:Kd->Addr}(F:Fn1 Jd2)(u:Ca1 5 Jlb (Jpk C e CR cs))(v:Ca1 2 Jlc (Jpl C e CR cs))(r:Ca1 6 Jcn (Ji3 C e CR cs)):
  Ca1 7 Jd2 (Jih C e CR cs):=by
 refine F.ok Jra (fun f d A o s H vs Q E n h=>?_);obtain ⟨i,ls,os,ts,m,x,g,rfl,w,c,k,G⟩:=h;refine ⟨_,(J7 (Jh (pcl r n Jg (J0 (pv 0) (J0 (pcl v n Jg (J0 (pv 0) (J0 (pcl u n Jg (J0 (pv 0) (J0 (pv 1) J3))) (J0 (pv 2) J3)))) J3))))),?_⟩;refine ⟨_,rfl,_,rfl,_,rfl,_,rfl,i,ls,os,ts,m,x,rfl,w,c,fun p b o l L j I a ep=>?_,G⟩;refine ⟨_,rfl,i,p,ls,os,ts,m,b,o,l,g,rfl,w.same j,c,I,a,fun D K y q=>?_⟩;have S:=c.sys;have z:Adr (bsC ls os ts m) b (offA ((bsC ls os ts m).getD b bz0) ((l + g) / ((bsC ls os ts m).getD b bz0).2.2.1) o) ((l + g) % ((bsC ls os ts m).getD b bz0).2.2.1):=by
  rcases Int.le_total 0 g with h | h
  ·exact (S.go_on a h).1
  ·exact (S.go_back a h).1
 refine ⟨i,D,ls,os,ts,m,b,_,_,rfl,(w.same j).same y,c,q,z,fun J B=>?_⟩;refine k _ J (j.trans (y.trans B)) (S.pl_in z) (fun h=>?_) (fun h=>?_)
 ·rw [<- ep];exact (S.go_on a h).2
 ·rw [<- ep];exact (S.go_back a h).2
end
section
variable [En]
inductive Jma(K:Frag)(d c b:Addr)(vs:List V)(H:Hp)(Q:VK)(E:XK):Prop
 | mk(a:Addr)(ns:List Int)(_:vs=[.ref a])(_:SqL K H a (iV ns))(_:ns.length<=63)(_:Tb3 H d c b)(_:∀ e,Q (.bl true) e)
theorem cut1(ns:List Int):∃ cs:List Int,cutV (iV ns) (some 1) none=iV cs/\cs.length<=ns.length:=by
 refine ⟨(ns.drop (HT.sIx (iV ns).length 0 (some 1))).take (HT.sIx (iV ns).length (iV ns).length none - HT.sIx (iV ns).length 0 (some 1)),?_,?_⟩
 ·unfold cutV;show List.take _ (List.drop _ (ns.map V.int))=(List.take _ (List.drop _ ns)).map V.int;rw [List.map_take,List.map_drop]
 ·rw [length_take,length_drop];lia
theorem Kp.t{H a:Hp}(s:J22 H a):Kp H a:=fun b u e o=>s b u e (by cases u <;> simp_all [okO,isTbl])
theorem J1n.mk{H a c:Hp}{x:Addr}(s:Same H a)(d:H x=none)(k:J1n x a c):Same H c:=fun b o e=>k b o (s b o e) (Jd e d)
theorem Jpo{K:Frag}{H:Hp}{g f:List V}{ks:List Int}{c c':Int->Int}(a:RefL (fun q L=>H q=some (.tup [.int L,.int (c L)])) g ks)(b:RefL (fun q L=>H q=some (.tup [.int L,.int (c' L)])) f ks)(e:∀ L∈ks,c L=c' L):AlkL K H g f:=by
 refine ⟨by rw [a.len,b.len],fun j u v i o=>?_⟩;have d:j < ks.length:=by rw [<- a.len];exact (List.getElem?_eq_some_iff.mp i).1
 obtain ⟨q,n,h⟩:=a.at_ j _ (List.getElem?_eq_getElem d);obtain ⟨r,m,l⟩:=b.at_ j _ (List.getElem?_eq_getElem d);rw [e _ (List.getElem_mem d)] at h;exact .inr ⟨q,r,_,Option.some.inj (i.symm.trans n),Option.some.inj (o.symm.trans m),SqT.of h,SqT.of l,rfl⟩
theorem itFN(f:Int->Int):∀ (n:Nat) (x:Int),itF f n x=itN f n x
 | 0,_=>rfl
 | n + 1,x=>congrArg f (itFN f n x)
theorem Jhy{h:Int->Int}:∀ {ks:List Int},(∀ L∈ks,0<=h L)->(0<=(ks.map h).sum/\∀ L∈ks,h L<=(ks.map h).sum)
 | [],_=>⟨Int.le_refl _,fun _ m=>by cases m⟩
 | k :: ks,hp=>by
  obtain ⟨a,b⟩:=Jhy (h:=h) (ks:=ks) fun L m=>hp L (mem_cons_of_mem _ m);have c:=hp k mem_cons_self;rw [map_cons,sum_cons];refine ⟨by lia,fun L m=>?_⟩;rcases mem_cons.mp m with rfl | m
  ·lia
  ·have:=b L m;lia
theorem rds_bd{N:Int}{bs:List Band}{ks:List Int}(R:Jdd N bs ks)(e:N<=10 ^ 30):∀ L∈ks,(1<=L/\L<=10 ^ 30)/\1<=cntL (conB bs) L/\cntL (conB bs) L<=10 ^ 30:=fun L m=>by
 have p:=R.base.pos L m;have t:=(Jhy (h:=fun L=>L * cntL (conB bs) L) (ks:=ks) fun L m=>by have:=R.base.pos L m;exact Int.mul_nonneg (by lia) (by lia)).2 L m;rw [R.base.sum] at t;have a:=Int.mul_le_mul (a:=L) (b:=1) (c:=L) (d:=cntL (conB bs) L) (Int.le_refl _) p.2 (by lia) (by lia);have b:=Int.mul_le_mul (a:=1) (b:=cntL (conB bs) L) (c:=L) (d:=cntL (conB bs) L) p.1 (Int.le_refl _) (by lia) (by lia);lia
theorem pick3{a b c m:Int}(P:Int->Prop)(g:0<=m)(f:m < 3)(e:P a)(hb:P b)(d:P c):∃ v,atI [V.int a,V.int b,V.int c] m=some (V.int v)/\P v:=by
 have h:m=0\/m=1\/m=2:=by lia
 rcases h with rfl | rfl | rfl
 ·exact ⟨a,rfl,e⟩
 ·exact ⟨b,rfl,hb⟩
 ·exact ⟨c,rfl,d⟩
theorem J5t:Jr ["script","first","many","span","bits","drawn","line","x","goings","chart","found","home","times","more","still"] ["script"] (Je (top 93)):=fsc
theorem ok_law{f C CH CR CW TB TJ TK:Addr}{fd:FuncData}{cs:Kd->Addr}(F:Fun K "law" "law" (top 93) f fd)(T:TxtR mg)(TC:TxtC K mg C)(TH:J7a K CH)(cC:Ca1 1 Jla (Jpj K))(b0:Ca1 2 Jcz (Jfb K))(ar:Ca1 2 J9c (Jf1 C CH CR cs))(ae:Ca1 7 Jd2 (Jih C CH CR cs))(b4:Ca1 6 Jd1 (Jig C CW TB TJ TK))(bu:Ca1 7 J52 (Ja2 C CW TB TJ TK))(bw:Ca1 7 J9i (Jf7 C CW TB TJ TK))(bx:Ca1 2 J6q Jbv)(bv:Mak CX0 3 "Line" C ["self","lengths","order","turned"] [] (Jf8 C))(as:Mak CX0 6 "Chart" CH ["self","line"] [] (Jif C CR CH cs)):
  FnOk P w K mg base CX0 8 f fd ["script"] (Jma K TB TJ TK):=by
 refine F.ok1 J5t (fun d A o s H vs Q E B h=>?_);obtain ⟨a,ns,rfl,hS,bC,T3,k⟩:=h;have a8:=Jsa B;refine ⟨_,(J1 (Jf (i:=1) J5t.nd rfl (Or.inl rfl) (pcl cC B Jg (J0 (pv 0) (J0 Ja J3))))
  (J1 (Jf (i:=2) J5t.nd rfl (Or.inl rfl) (Jl J1b Ja (Jl J2u (pv 1) Ja)))
  (J1 (Jf (i:=3) J5t.nd rfl (Or.inl rfl) (Jp J4z (J2q (J0 Ja (J0 (Jl Jc8 Ja Ja) (J0 (Jl Jc8 Ja Ja) J3)))) (Jl J2u (Jl J8o (pv 1) Ja) Ja)))
  (J1 (Jf (i:=4) J5t.nd rfl (Or.inl rfl) (Jl J2u (Jl J8o (Jl J2u (Jl J8l (Jl J1b Ja (Jl J2u (pv 1) Ja)) Ja) Ja) Ja) Ja))
  (J1 (Jf (i:=5) J5t.nd rfl (Or.inl rfl) (pcl b0 B Jg (J0 (J7y Jdo (pv 0) (Jb4 Ja) Jb5) (J0 (pv 4) (J0 (pv 2) (J0 (pv 3) J3))))))
  (J1 (Jf (i:=6) J5t.nd rfl (Or.inl rfl) (pmk bv B Jg (J0 (Jp Jj (pv 5) Ja) (J0 (Jp Jj (pv 5) Ja) (J0 (Jp Jj (pv 5) Ja) J3)))))
  (J1 (Jf (i:=7) J5t.nd rfl (Or.inl rfl) (Jl J2u (Jl J8o (Jw (J4d rfl) (by rfl) T.sum boot_sum (J0 (pv 0) J3)) Ja) (J8 (pv 6))))
  (J1 (Jf (i:=8) J5t.nd rfl (Or.inl rfl) (Jl J1u (Jl J2u (Jl J8l (Jw (J4d rfl) (by rfl) T.sum boot_sum (J0 (pv 0) J3)) Ja) (Jl J8l Ja (Jl Jc8 Ja Ja))) (Jl Jc8 Ja Ja)))
  (J1 (Jf (i:=9) J5t.nd rfl (Or.inl rfl) (pmk as B Jg (J0 (pv 6) J3)))
  (J1 (Jf (i:=10) J5t.nd rfl (Or.inl rfl) (pcl ar B Jg (J0 (pv 9) J3)))
  (J1 (Jf (i:=11) J5t.nd rfl (Or.inl rfl) (pmk as B Jg (J0 (pcl b4 B Jg (J0 (pv 6) J3)) J3)))
  (J1 (J24 (PW.pt (Jgt (Jq (Jj9 a8) (pcl ar B Jg (J0 (pv 11) J3)) (pv 10) (Jv _)) (Ja7 (Jq J9t (pcl ae B Jg (J0 (pv 11) (J0 (pv 7) (J0 (pv 8) J3)))) (pcl ae B Jg (J0 (pv 9) (J0 (pv 7) (J0 (Jl J8l (J9s J5p Ja) (pv 8)) J3)))) (Jv _))))) (J7 (Jh J70)) J13)
  (J1 (Jf (i:=12) J5t.nd rfl (Or.inl rfl) (Jl J1b Ja (Jl J2u (Jl J8o (pv 1) Ja) Ja)))
  (J1 (Jf (i:=13) J5t.nd rfl (Or.inl rfl) (pmk as B Jg (J0 (pcl bu B Jg (J0 (pv 6) (J0 (pv 12) J3))) J3)))
  (J1 (J24 (Jq (Jj9 a8) (pcl ar B Jg (J0 (pv 13) J3)) (pcl bx B Jg (J0 (pv 10) (J0 (pv 12) J3))) (Jv _)) (J7 (Jh J70)) J13)
  (J1 (J24 (Jq J9t (pcl ae B Jg (J0 (pv 13) (J0 (pv 7) (J0 (pv 8) J3)))) (pcl ae B Jg (J0 (pv 9) (J0 (pv 7) (J0 (Jl J8l (pv 12) (pv 8)) J3)))) (Jv _)) (J7 (Jh J70)) J13)
  (J1 (Jf (i:=14) J5t.nd rfl (Or.inl rfl) (pcl bw B Jg (J0 (pv 6) (J0 (J8 (pv 11)) J3))))
  (J7 (Jh (Jps (J4u (Jpu B.units0) (J8 (pv 14)) (J30 (J0 (J8 (pv 6)) J3)) (Jv _)) (Jpq (J4u (Jpu B.units0) (J8 (pv 14)) (J30 (J0 J70 J3)) (Jv _))))))))))))))))))))))),?_⟩
 have sm:=J14 (n:=100) (by decide);refine ⟨_,rfl,a,ns,0,rfl,hS,?_⟩;have bR:0<=J7p ns 0 % 5:=Int.emod_nonneg _ (by decide);have bQ:J7p ns 0 % 5 < 5:=Int.emod_lt_of_pos _ (by decide);obtain ⟨aa,em⟩:∃ aa:Nat,(aa:Int)=1 + J7p ns 0 % 5:=⟨(1 + J7p ns 0 % 5).toNat,by lia⟩;refine ⟨_,rfl,_,_,rfl,rfl,(by show (0:Int) < 5;decide),_,_,rfl,rfl,?_⟩;obtain ⟨ax,at1,t1,t2⟩:=pick3 (fun v=>0 < v/\v<=10 ^ 28) (m:=J7p ns 0 / 5 % 3) (Int.emod_nonneg _ (by decide)) (Int.emod_lt_of_pos _ (by decide)) (a:=60) (b:=10 ^ (9:Int).toNat) (c:=10 ^ (28:Int).toNat) ⟨by decide,by decide⟩ ⟨by decide,by decide⟩ ⟨by decide,by decide⟩;rw [<- em];refine ⟨_,_,rfl,rfl,⟨by decide,by decide,by decide⟩,_,_,rfl,rfl,⟨by decide,by decide,by decide⟩,(by show 3<=sizeLine;lia),fun lp bh=>?_⟩;have s0:=J9 (o:=.lst [V.int 60,V.int (10 ^ (9:Int).toNat),V.int (10 ^ (28:Int).toNat)]) bh;refine ⟨_,rfl,_,_,rfl,rfl,⟨by decide,by decide⟩,_,_,rfl,rfl,(by show (0:Int) < 3;decide),lp,_,_,_,rfl,rfl,SqL.of J6,at1,?_⟩;generalize upd H lp _=H0 at *;refine ⟨_,rfl,_,_,rfl,rfl,(by show (0:Int) < 1000003;decide),_,_,rfl,rfl,_,_,rfl,rfl,.inr ⟨by decide,by decide⟩,_,_,rfl,rfl,(by show (0:Int) < 2147483647;decide),_,_,rfl,rfl,⟨by decide,by decide⟩,_,_,rfl,rfl,(by show (0:Int) < 64;decide),?_⟩;obtain ⟨ca,bp,bU⟩:=cut1 ns;refine ⟨_,rfl,_,rfl,a,_,rfl,s0.seq hS,fun p hp=>?_⟩;rw [bp];have s1:=J9 (o:=.lst (iV ca)) hp;refine ⟨_,rfl,_,rfl,_,rfl,p,ca,_,aa,ax,rfl,SqL.of J6,by lia,by lia,by lia,t1,t2,fun dr ls os ts H2 s2 D lm=>?_⟩;have al:=(s0.trans s1).trans s2;have aE:=al.seq hS;have T2:=T3.same al;clear s0 s1 s2 al;obtain ⟨d1,d2,d3,e0,e1,e2,e3⟩:=D.at_.ex;refine ⟨_,rfl,dr,_,_,_,rfl,rfl,SqT.of e0,Jc (j:=0) rfl,_,rfl,dr,_,_,_,rfl,rfl,SqT.of e0,Jc (j:=1) rfl,_,rfl,dr,_,_,_,rfl,rfl,SqT.of e0,Jc (j:=2) rfl,?_⟩;intro x dx hx bm bg;have s6:=(J9 (o:=.own x) bm).trans (J9 (l:=x) (o:=.ins C dx []) (by rw [Jm (Ne.symm bg)];exact hx));refine ⟨x,dx,d1,d2,.ref d3,ls,os,ts,rfl,J6,.inl (s6 _ _ e1),.inl (s6 _ _ e2),D.good,⟨D.len,.inr ⟨d3,rfl,.inl (s6 _ _ e3)⟩⟩,fun H3 L3 k3=>⟨rfl,?_⟩⟩;have s3:Same H2 H3:=J1n.mk s6 hx k3;have ao:=s3.seq aE;have b5:=T2.same s3;clear s3 s6 k3 aE T2 e0 e1 e2 e3;have O:=D.good.ord;have p1:=D.good.pos_sum;have sl:=D.good.sum;have bj:=J3h (ts:=ts) O;have ok0:=J63 D.good.perm D.good.pos D.len D.good.hi;have z0:(J2c ls os ts).size<=10 ^ 30:=by rw [ok0.size_sum];exact sl
 obtain ⟨dl,fl,pl,po,pt,ps,pd,h0,⟨k1,k2,k3,k4,k5,k6⟩,-⟩:=L3.ex;refine ⟨_,rfl,a,_,rfl,.inl ao,_,_,rfl,rfl,⟨by decide,by decide⟩,_,rfl,x,C,dl,fl,_,rfl,h0,TC.cl,TC.nZ,k6,_,_,rfl,rfl,p1,?_⟩;have hX:0<=ns.sum / 3 % ls.sum/\ns.sum / 3 % ls.sum < ls.sum:=⟨Int.emod_nonneg _ (by lia),Int.emod_lt_of_pos _ (by lia)⟩;generalize ns.sum / 3 % ls.sum=X at *;refine ⟨_,rfl,a,_,rfl,.inl ao,_,_,rfl,rfl,.inr ⟨by decide,by decide⟩,_,_,rfl,rfl,⟨by decide,by decide,by decide⟩,_,_,rfl,rfl,.inl ⟨by decide,by decide⟩,_,_,rfl,rfl,(by decide),_,_,rfl,rfl,⟨by decide,by decide,by decide⟩,_,_,rfl,rfl,?_⟩;generalize ns.sum * 48271 % _ - _=g;clear ao;refine ⟨_,rfl,?_⟩;intro y dy hy bi bf;have u1:=(J9 (o:=.own y) bi).trans (J9 (l:=y) (o:=.ins CH dy []) (by rw [Jm (Ne.symm bf)];exact hy));have l1:=D.good.lo;refine ⟨y,dy,x,ls,os,ts,rfl,J6,L3.same u1,ok0,z0,l1,fun m H4 lg tp CA k4=>⟨rfl,?_⟩⟩;have s4:Same H3 H4:=J1n.mk u1 hy k4;have cp:ChP ls os ts m:=⟨D.good,D.len,lg,tp⟩;have L4:=L3.same s4;have T4:=b5.same s4;clear u1 k4 s4;refine ⟨_,rfl,y,ls,os,ts,m,rfl,⟨x,CA,L4⟩,cp,fun lf ys ks H5 s5 hf rf R=>?_⟩;have L5:=L4.same s5;have C5:=CA.same s5;have T5:=T4.same s5;refine ⟨_,rfl,x,ls,os,ts,rfl,L5,D.good,D.len,T5,fun z l2 o2 t2 H6 sT T6 P2 ll G2 L6=>?_⟩;intro y2 aG a7 aD aA;have u2:=(J9 (o:=.own y2) aD).trans (J9 (l:=y2) (o:=.ins CH aG []) (by rw [Jm (Ne.symm aA)];exact a7));have a4:=J63 G2.perm G2.pos P2.len G2.hi;refine ⟨y2,aG,z,l2,o2,t2,rfl,J6,L6.same u2,a4,(by rw [a4.size_sum];exact G2.sum),G2.lo,fun m2 H7 bb aT av k7=>⟨rfl,?_⟩⟩;have s7:Same H6 H7:=J1n.mk u2 a7 k7;have aq:ChP l2 o2 t2 m2:=⟨G2,P2.len,bb,aT⟩;have Y:J22 H5 H7:=fun b u e o=>s7 _ _ (sT _ _ e o);have af:=L6.same s7;have T7:=T6.same s7;clear u2 k7 s7 sT;have an:=Y _ _ hf rfl;have am:=rf.mono fun q L e=>Y _ _ e rfl;have L7:=L5.kp (Kp.t Y);have C7:=C5.kp (Kp.t Y);clear Y;have S:=Jka (f:=gL ls os ts) rfl (fun _ _ _=>rfl) cp;have S2:=Jka P2.sum (P2.goes bj.symm) aq;refine ⟨_,rfl,y2,l2,o2,t2,m2,rfl,⟨z,av,af⟩,aq,fun l8 zs bP H8 s8 h8 aX R8=>?_⟩;rw [S.size] at R;rw [S2.size] at R8;have ro:∀ x,0<=x/\x < ls.sum->rOf (kL ls os ts) x=rOf (gL ls os ts) x:=fun x hx=>Jfg (Jn1 (fun x h=>bj.inn x h.1 h.2) (fun x h=>bj.ink x h.1 h.2) (fun x h=>bj.kg x h.1 h.2) (fun x h=>bj.gk x h.1 h.2) hx (S.sys.has hx));obtain ⟨rfl,ec⟩:=rds_eq S.sys S2.sys ro R R8;refine ⟨_,rfl,l8,lf,zs,ys,rfl,rfl,.inl ⟨SqL.of h8,SqL.of (s8 _ _ an)⟩,Jpo aX (am.mono fun q L e=>s8 _ _ e) ec,_,rfl,iteF ?_⟩;have sz:=S.size;have aw:=S2.size;refine ⟨_,rfl,_,rfl,_,rfl,y2,l2,o2,t2,m2,X,g,rfl,⟨z,av.same s8,af.same s8⟩,aq,fun z1 H9 s9 b1 U W=>?_,by rw [aw];exact hX⟩;have ac:=s8.trans s9;refine ⟨_,rfl,_,rfl,_,rfl,_,rfl,_,_,rfl,rfl,.inl ⟨by decide,by decide⟩,y,ls,os,ts,m,X,-1 * g,rfl,⟨x,C7.same ac,L7.same ac⟩,cp,fun z2 bA az b2 M N=>?_,by rw [sz];exact hX⟩;rw [aw] at b1;rw [sz] at b2;rw [show -1 * g=-g by lia] at M N;simp only [S.it hX,S.it b2] at M N;simp only [S2.it hX,S2.it b1] at U W;have bt:z1=z2:=Jhp bj hX b1 b2 U W M N;refine ⟨rfl,_,rfl,Jkq (by rw [bt]) ?_⟩;clear U W M N;have ab:=ac.trans az;have aN:=L7.same ab;have aH:=T7.same ab;have bT:0<=J7p ns 0 / 960 % 4:=Int.emod_nonneg _ (by decide);have bS:J7p ns 0 / 960 % 4 < 4:=Int.emod_lt_of_pos _ (by decide);obtain ⟨t,et⟩:∃ t:Nat,(t:Int)=1 + J7p ns 0 / 960 % 4:=⟨(1 + J7p ns 0 / 960 % 4).toNat,by lia⟩;refine ⟨_,rfl,_,_,rfl,rfl,⟨by decide,by decide⟩,_,_,rfl,rfl,(by show (0:Int) < 4;decide),_,_,rfl,rfl,?_⟩;rw [<- et];have tl:t * ls.length<=4 * 5:=Nat.mul_le_mul (by lia) (by lia);refine ⟨_,rfl,_,rfl,x,ls,os,ts,t,rfl,aN,D.good,D.len,(by rw [Int.natAbs_natCast];lia),aH,fun z3 l3 o3 t3 b9 ag b7 P3 G3 aM=>?_⟩;have e3:itF (rpF ls os ts t) (t:Int).natAbs=itN (gL ls os ts) t:=by
  rw [Int.natAbs_natCast];unfold rpF;rw [if_pos (by lia)];funext v;exact itFN _ t v
 rw [e3] at P3;obtain ⟨k',b3⟩:=Jea bj t;rw [show itF (gL ls os ts) t=itN (gL ls os ts) t from funext fun v=>itFN _ t v] at b3;intro y3 aF a6 aC a9;have u3:=(J9 (o:=.own y3) aC).trans (J9 (l:=y3) (o:=.ins CH aF []) (by rw [Jm (Ne.symm a9)];exact a6));have a3:=J63 G3.perm G3.pos P3.len G3.hi;refine ⟨y3,aF,z3,l3,o3,t3,rfl,J6,aM.same u3,a3,(by rw [a3.size_sum];exact G3.sum),G3.lo,fun m3 au ba aS aO a5=>⟨rfl,?_⟩⟩;have ad:Same b9 au:=J1n.mk u3 a6 a5;have ap:ChP l3 o3 t3 m3:=⟨G3,P3.len,ba,aS⟩;have Z:J22 bA au:=fun b u e o=>ad _ _ (ag _ _ e o);have r:J22 H7 au:=fun b u e o=>Z _ _ (ab _ _ e) o;have ah:=aM.same ad;have b6:=b7.same ad;have aB:=r _ _ an rfl;have a2:=am.mono fun q L e=>r _ _ e rfl;have aL:=L7.kp (Kp.t r);have bB:=C7.kp (Kp.t r);have aJ:=af.kp (Kp.t r);have aP:=av.kp (Kp.t r);clear u3 a5 ad ag Z r ab ac az s9 s8 an am L7 C7 af aN aH T7;have S3:=Jka P3.sum (P3.goes b3) ap;have ai:=S3.size;refine ⟨_,rfl,y3,l3,o3,t3,m3,rfl,⟨z3,aO,ah⟩,ap,fun bd aR bO cb ak bo a1 aI=>?_⟩;rw [ai] at aI;have nb:(bsC ls os ts m).length<=24:=by
  have h1:(bsC ls os ts m).length + _<=_:=cp.cok.bands cp.lg;have h2:(J1f ls os ts).1.top.length=ls.length:=length_range;have h3:=cp.good.hi;lia
 have few:=R.base.few;refine ⟨_,rfl,_,rfl,lf,t,_,cntL (conB (bsC ls os ts m)),ys,rfl,(by lia),ak _ _ aB,a2.mono (fun q L e=>ak _ _ e),rds_bd R sl,(by lia),(by lia),fun bc aQ bN bZ aj bn a0 inc hm=>?_⟩;obtain ⟨rfl,bq⟩:=pow_eq S.sys S3.sys (by lia) R aI inc hm;refine ⟨bd,bc,aR,aQ,rfl,rfl,.inl ⟨SqL.of (aj _ _ bo),SqL.of bn⟩,Jpo (a1.mono fun q L e=>aj _ _ e) a0 bq,_,rfl,iteF ?_⟩;have J:=ak.trans aj;refine ⟨_,rfl,_,rfl,_,rfl,y3,l3,o3,t3,m3,X,g,rfl,⟨z3,aO.same J,ah.same J⟩,ap,fun w1 bY aW c1 U W=>?_,by rw [ai];exact hX⟩;have I:=J.trans aW;refine ⟨_,rfl,_,rfl,_,rfl,_,rfl,_,_,rfl,rfl,.inl ⟨by lia,by lia⟩,y,ls,os,ts,m,X,t * g,rfl,⟨x,bB.same I,aL.same I⟩,cp,fun w2 bX aV c2 M N=>?_,by rw [sz];exact hX⟩;rw [ai] at c1;rw [sz] at c2;simp only [S.it hX,S.it c2] at M N;simp only [S3.it hX,S3.it c1] at U W;have br:w1=w2:=Jm0 S.sys c1 c2 U W M N;refine ⟨rfl,_,rfl,Jkq (by rw [br]) ?_⟩;have G:=I.trans aV;obtain ⟨dq,fs,pr,bH,bE,pb,xr,xs,xt,xb,q0,⟨lL,-⟩,-⟩:=(aP.same G).ex;have aK:=aL.same G;refine ⟨_,rfl,_,rfl,y2,CH,dq,fs,_,rfl,q0,TH.cl,TH.nL,lL,x,z,ls,l2,os,o2,ts,t2,rfl,aK,aJ.same G,D.good,G2,D.len,P2.len,P2.sum,(by lia),b6.same G,fun z5 l5 o5 t5 bW ay _ P5 _ G5 b8=>?_⟩;obtain ⟨rfl,rfl⟩:=still O (by lia) P2 P5;obtain ⟨d5,f5,aZ,bJ,aY,bG,bM,r0,⟨r1,r2,r3,r4,r5,r6⟩,v1,v2,v3,v4,v5⟩:=b8.ex;obtain ⟨d6,f6,bK,bI,bD,bF,bL,g0,⟨g1,g2,g3,g4,g5,g6⟩,-⟩:=(aK.kp (Kp.t ay)).ex;refine ⟨_,rfl,z5,C,d5,f5,_,rfl,r0,TC.cl,TC.nL,r1,_,rfl,x,C,d6,f6,_,rfl,g0,TC.cl,TC.nZ,g6,(by show 1<=sizeLine;lia),fun q hq=>?_⟩;have sq:=J9 (o:=.tup [V.int ls.sum]) hq;refine ⟨aZ,q,_,_,rfl,rfl,SqT.of (sq _ _ v1),SqT.of J6,Kin.ints [ls.sum] [ls.sum],_,rfl,?_⟩;rw [if_pos (by exact decide_eq_true rfl)];refine ⟨_,rfl,z5,C,d5,f5,_,rfl,sq _ _ r0,TC.cl,TC.nT,r3,(by show 1<=sizeLine;lia),fun q2 be=>?_⟩;have aU:=J9 (o:=.tup [V.bl false]) be;refine ⟨aY,q2,_,_,rfl,rfl,SqT.of (aU _ _ (sq _ _ v3)),SqT.of J6,Kin.bls [false] [false],?_⟩;exact k _
end
end R74
namespace L2
open PySem PySem.Spec PyProof.Rows
section
variable(K:Frag)(mg:Str->Option Value)(C T:Addr)(x m q:Str)(st:Stmt)(ps:List Str)
noncomputable abbrev FX:Prop:=∃ f fd,Fun K x x st f fd/\J2t K fd ps []/\mg x=some (.ref f)
noncomputable abbrev FXT:Prop:=∃ f fd,Fun K x x st f fd/\J2t K fd ps []/\mg x=some (.ref f)/\∃ a,fd.code=.ref a/\PySem.W.codeHdIn K a T=true
noncomputable abbrev FXL:Prop:=∃ f fd,Fun K "law" "law" st f fd/\(∀ (s:Shared) (v:Value),BindsTo s fd ⟨[v],[]⟩ [("script",v)])/\mg "law"=some (.ref f)
noncomputable abbrev MX:Prop:=∃ f fd,Fun K m q st f fd/\J2t K fd ps []/\Meth K C m f
noncomputable abbrev BX:Prop:=∃ f fd,Fun K m q st f fd/\J2t K fd ps []/\Jsr K C m f
noncomputable abbrev MKf:Prop:=makesIn K C=true/\keepIn K (.ref C)=true
end
section
variable{K:Frag}{h:Heap}{mg:Str->Option Value}{x q m:Str}{st:Stmt}{ps:List Str}{f C T cc:Addr}{oc:Value}{od an:Option Addr}{osl:Array (Option Value)}{kV doc pm cdv ct:Value}
theorem ftk(X:K.In h)(G:h.Ns mainGlobals mg)(a:nsIn K mainGlobals x=some (some (.ref f)))(l:K.lookup f=some ⟨oc,od,.func (fnOf x x (J2i st) (J1j st) (Je st) .none kV doc pm an (.ref cc) ct),osl⟩)(c:codeIn K (.ref cc) x=true)(k:keepIn K (.ref f)=true)(b:∀ us ,us.length=ps.length->bindArgs (fnOf x x (J2i st) (J1j st) (Je st) .none kV doc pm an (.ref cc) ct) ⟨us,[]⟩=pure (ps.zip us))(hd:PySem.W.codeHdIn K cc T=true):FXT K mg T x st ps:=
 ⟨f,_,Jcj l c k,.all b,mg_of X G a,cc,rfl,hd⟩
theorem flk(X:K.In h)(G:h.Ns mainGlobals mg)(a:nsIn K mainGlobals "law"=some (some (.ref f)))(l:K.lookup f=some ⟨oc,od,.func (fnOf "law" "law" (J2i st) (J1j st) (Je st) .none kV doc pm an cdv ct),osl⟩)(c:codeIn K cdv "law"=true)(k:keepIn K (.ref f)=true)(b:∀ v ,bindArgs (fnOf "law" "law" (J2i st) (J1j st) (Je st) .none kV doc pm an cdv ct) ⟨[v],[]⟩=pure [(("script":Str),v)]):FXL K mg st :=
 ⟨f,_,Jcj l c k,fun _ v=>.of_eq (b v),mg_of X G a⟩
theorem bsk(s:PySem.W.specialIn K (.ref C) "__getattribute__"=some (some (.builtin "type.__getattribute__")))(r:readsIn K C (.type "type")=true)(d:findCls K (.ref C) (.type "type") m=some (.val (.ref f)))(l:K.lookup f=some ⟨oc,od,.func (fnOf m q (J2i st) (J1j st) (Je st) .none kV doc pm an cdv ct),osl⟩)(c:codeIn K cdv q=true)(k:keepIn K (.ref f)=true)(b:∀ us ,us.length=ps.length->bindArgs (fnOf m q (J2i st) (J1j st) (Je st) .none kV doc pm an cdv ct) ⟨us,[]⟩=pure (ps.zip us)):BX K C m q st ps:=⟨f,_,Jcj l c k,.all b,s,r,d,k⟩
end
end L2
namespace R74
open PySem L2 Rl
structure TxtK(K:Frag)(C:Addr):Prop where
 cl:Cls K C
 nW:J19 K C "winner"
 nL:J19 K C "loser"
 nT:J19 K C "times"
noncomputable abbrev LX(K:Frag)(C:Addr)(st:Stmt):Prop:=∃ f fd a,FunD K "__init__" "Line.__init__" st f fd a/\J2t K fd ["self","lengths","order","turned"] []/\Meth K C "__init__" f
theorem law_ok{P:Program}{w:World}{K:Frag}{mg:Str->Option Value}{fa C CR CH CW CA aZ o p l j n i Q O N:Addr}{ba:Tok}(bl:mg "law"=some (.ref fa))(aC:mg "Line"=some (.ref C))(cX:mg "Rest"=some (.ref CR))(cY:mg "Chart"=some (.ref CH))(cW:mg "Stretch"=some (.ref CW))(cZ:mg "Part"=some (.ref CA))(aU:mg "Step"=some (.ref aZ))(aX:mg "Home"=some (.ref o))(aY:mg "Even"=some (.ref p))(aV:mg "Over"=some (.ref l))(aT:mg "Under"=some (.ref j))(aW:mg "Overs"=some (.ref n))(aS:mg "Unders"=some (.ref i))(bm:mg "MOST_PIECES"=some (.int 24 ba))(y:mg "abs"=none)(d:mg "enumerate"=none)(aa:mg "max"=none)(q:mg "min"=none)(a:mg "sorted"=none)(T:TxtR mg)(T0:Txt K mg)(TC:TxtC K mg C)(g:J17 K CR)(u:J7a K CH)(TW:Jbo K CW)(TP:Jp5 K CA)(G:TxtK K o)(H:TxtK K p)(D:TxtK K l)(B:TxtK K j)(E:TxtK K n)(A:TxtK K i)(kC:MKf K C)(al:MKf K CR)(am:MKf K CH)(ak:MKf K CW)(an:MKf K CA)(Y:MKf K o)(Z:MKf K p)(U:MKf K l)(S:MKf K j)(X:MKf K n)(R:MKf K i)(d0:FX1 K mg Jak)(d1:FX1 K mg Jct)(d2:FX1 K mg Jl7)(d3:FX1 K mg Jl6)(d4:FX1 K mg Jl5)(d5:FX1 K mg Jl2)(d6:FX1 K mg J7j)(d7:FX1 K mg J9d)(d8:FX1 K mg Jaj)(d9:FX1 K mg J9h)(cr:FX1 K mg Jhg)(cq:FX1 K mg J9f)(cp:FX1 K mg J4c)(co:FX1 K mg Jaf)(cm:FX1 K mg Jcr)(ck:FX1 K mg J99)(cj:FX1 K mg Jl9)(ci:FX1 K mg J4a)(ch:FX1 K mg fPut)(cg:FX1 K mg J3i)(cf:FX1 K mg J7i)(ce:FX1 K mg J60)(cd:FX1 K mg J9j)(cc:FX1 K mg Jl1)(cb:FX1 K mg J9l)(ca:FX1 K mg Jag)(bZ:FX1 K mg Jd0)(bY:FX1 K mg Jlb)(bX:FX1 K mg Jcs)(bW:FX1 K mg J9k)(bU:FX1 K mg Jcv)(bT:FX1 K mg Jcy)(bS:FX1 K mg Jcu)(bR:FX1 K mg J9a)(bQ:FX1 K mg J4b)(bP:FX1 K mg J9g)(bO:FX1 K mg Jai)(bN:FX1 K mg J9i)(bM:FX1 K mg J9e)(bK:FX1 K mg J9c)(bJ:FX1 K mg Jla)(bI:FX1 K mg J9b)(bH:FX1 K mg Jcm)(bG:FX1 K mg Jcw)(bF:FX1 K mg Jcq)(bE:FX1 K mg Jcp)(bD:FX1 K mg Jco)(bC:FX1 K mg Jl8)(bB:FX1 K mg Jcx)(bA:FX1 K mg Jcn)(b9:FX1 K mg Jlc)(b8:FX1 K mg Jd2)(b7:FX1 K mg Jd1)(b6:FX1 K mg J52)(b5:FX1 K mg Jl3)(b4:FX1 K mg Jcz)(b3:FX1 K mg J6q)(eR:MX K CR "__init__" "Rest.__init__" (Jb (top 37) 0) ["self","top","bottom","lengths","turned"])(eH:MX K CH "__init__" "Chart.__init__" (Jb (top 67) 0) ["self","line"])(eW:MX K CW "__init__" "Stretch.__init__" (Jb (top 18) 0) ["self","first","length","laid","turned"])(eP:MX K CA "__init__" "Part.__init__" (Jb (top 73) 0) ["self","own","times","letter","due"])(aB:MX K o "__init__" "Home.__init__" (Jb (top 53) 0) ["self","winner"])(aD:MX K p "__init__" "Even.__init__" (Jb (top 54) 0) ["self","winner","loser"])(a9:MX K l "__init__" "Over.__init__" (Jb (top 55) 0) ["self","winner","loser"])(a8:MX K j "__init__" "Under.__init__" (Jb (top 56) 0) ["self","winner","loser"])(aA:MX K n "__init__" "Overs.__init__" (Jb (top 57) 0) ["self","winner","times"])(a7:MX K i "__init__" "Unders.__init__" (Jb (top 58) 0) ["self","winner","times"])(as:MX K o "word" "Home.word" (Jb (top 53) 1) ["self"])(au:MX K p "word" "Even.word" (Jb (top 54) 1) ["self"])(aq:MX K l "word" "Over.word" (Jb (top 55) 1) ["self"])(ap:MX K j "word" "Under.word" (Jb (top 56) 1) ["self"])(ar:MX K n "word" "Overs.word" (Jb (top 57) 1) ["self"])(ao:MX K i "word" "Unders.word" (Jb (top 58) 1) ["self"])(a5:MX K o "losers" "Home.losers" (Jb (top 53) 2) ["self","rest"])(a6:MX K p "losers" "Step.losers" (Jb (top 52) 2) ["self","rest"])(a3:MX K l "losers" "Step.losers" (Jb (top 52) 2) ["self","rest"])(a2:MX K j "losers" "Step.losers" (Jb (top 52) 2) ["self","rest"])(a4:MX K n "losers" "Overs.losers" (Jb (top 57) 2) ["self","rest"])(a1:MX K i "losers" "Unders.losers" (Jb (top 58) 2) ["self","rest"])(aI:MX K o "behind" "Home.behind" (Jb (top 53) 3) ["self","rest"])(aJ:MX K p "behind" "Even.behind" (Jb (top 54) 3) ["self","rest"])(aG:MX K l "behind" "Over.behind" (Jb (top 55) 3) ["self","rest"])(aF:MX K j "behind" "Under.behind" (Jb (top 56) 2) ["self","rest"])(aH:MX K n "behind" "Overs.behind" (Jb (top 57) 4) ["self","rest"])(aE:MX K i "behind" "Unders.behind" (Jb (top 58) 3) ["self","rest"])(az:MX K o "own_first" "Step.own_first" (Jb (top 52) 3) ["self"])(a0:MX K p "own_first" "Even.own_first" (Jb (top 54) 2) ["self"])(ax:MX K l "own_first" "Over.own_first" (Jb (top 55) 2) ["self"])(aw:MX K j "own_first" "Step.own_first" (Jb (top 52) 3) ["self"])(ay:MX K n "own_first" "Overs.own_first" (Jb (top 57) 3) ["self"])(av:MX K i "own_first" "Step.own_first" (Jb (top 52) 3) ["self"])(eS:BX K aZ "__init__" "Step.__init__" (Jb (top 52) 0) ["self","winner","loser","times"])(eC:LX K C (Jb (top 16) 0))(dB:FXT K mg Q "line_of" (top 25) ["stretches"])(dJ:FXT K mg O "joined_stretches" (top 28) ["ones","twos"])(dK:FXT K mg N "back_stretches" (top 29) ["line"])(dL:FXL K mg (top 93))(bd:(Q != O)=true)(bc:(Q != N)=true)(bb:(O != N)=true):
  (∀ P∈[N,Q,O],∃ c,PySem.W.codeHdIn K c P=true)/\∃ fd:FuncData,(∀ (s:Shared) (v:Value),BindsTo s fd ⟨[v],[]⟩ [("script",v)])/\∀ base:Heap,K.In base->base.Ns mainGlobals mg->(∀ P∈[N,Q,O],J9y base mg P)->FnOk P w K mg base CX0 8 fa fd ["script"] (Jma K Q O N):=by
 obtain ⟨_,fd,F,bL,mL⟩:=dL;cases bl.symm.trans mL;refine ⟨fun P hP=>?_,fd,bL,fun base _ _ ab=>?_⟩
 ·simp only [mem_cons,not_mem_nil,or_false] at hP;rcases hP with rfl | rfl | rfl
  ·exact by obtain ⟨_,_,_,_,_,c,_,h⟩:=dK;exact ⟨c,h⟩
  ·exact by obtain ⟨_,_,_,_,_,c,_,h⟩:=dB;exact ⟨c,h⟩
  ·exact by obtain ⟨_,_,_,_,_,c,_,h⟩:=dJ;exact ⟨c,h⟩
 letI:En:=⟨P,w,K,mg,base⟩
 obtain ⟨cs,rfl,rfl,rfl,rfl,rfl,rfl⟩:∃ cs:Kd->Addr,cs .ho=o/\cs .ev=p/\cs .ov=l/\cs .un=j/\cs .os=n/\cs .us=i:=⟨fun k=>match k with | .ho=>o | .ev=>p | .ov=>l | .un=>j | .os=>n | .us=>i,rfl,rfl,rfl,rfl,rfl,rfl⟩;have M:∀ k,TxtK K (cs k):=fun k=>match k with | .ho=>G | .ev=>H | .ov=>D | .un=>B | .os=>E | .us=>A
 have TS:TxtS K cs:=⟨fun k=>(M k).cl,fun k=>(M k).nW,fun k=>(M k).nL,fun k=>(M k).nT⟩;have c0:=Jo9 d0 T;have c1:=Jjr d1;have c2:=Jrp d2 T0;have c3:=Jro d3 T0;have c4:=Jrn d4 T0;have c5:=Jrl d5 T0 c4;have c6:Mak CX0 3 "Line" C ["self","lengths","order","turned"] [] (Jf8 C):=by obtain ⟨_,_,_,F,b,e⟩:=eC;exact ⟨_,_,⟨kC.1,e.at_,e.fn,kC.2⟩,Jrt F T0 TC c2 c3 c5 c0,b,aC⟩
 have c7:=Jo3 d6 T;have c8:=makm cX al.1 al.2 eR fun f fd F=>Jnq F T g c7;have c9:=Jjk d7 T TC c8;have aR:=Jo2 d8 g;have cP:=Jjt d9 g aR;have aQ:=Jru cr g aR c0 c1;have cO:=Jjl cq g aQ;have aj:=Jh0 cp;have r:Bas CX0 1 "Step" "__init__" ["self","winner","loser","times"] (J4n cs):=by obtain ⟨_,_,F,b,e⟩:=eS;exact ⟨_,_,_,e,aU,Jnn F TS,b⟩
 have cN:=makm aX Y.1 Y.2 aB fun f fd F=>Jjw F r;have cM:=makm aY Z.1 Z.2 aD fun f fd F=>Jk0 F r;have cL:=makm aV U.1 U.2 a9 fun f fd F=>Jjo F r;have cK:=makm aT S.1 S.2 a8 fun f fd F=>Jjf F r;have cJ:=makm aW X.1 X.2 aA fun f fd F=>Jjq F r;have cI:=makm aS R.1 R.2 a7 fun f fd F=>Jjd F r;have ai:∀ k,HasM P w K mg base CX0 1 "word" ["self"] (J3n k) (cs k):=fun k=>match k with | .ho=>hasm G.cl as fun f fd F=>Jjv F | .ev=>hasm H.cl au fun f fd F=>Jjz F | .ov=>hasm D.cl aq fun f fd F=>Jjn F | .un=>hasm B.cl ap fun f fd F=>Jje F | .os=>hasm E.cl ar fun f fd F=>Jjp F | .us=>hasm A.cl ao fun f fd F=>Jjc F
 have L:∀ k,HasM P w K mg base CX0 2 "losers" ["self","rest"] (J28 cs CR k) (cs k):=fun k=>match k with | .ho=>hasm G.cl a5 fun f fd F=>Je1 F | .ev=>hasm H.cl a6 fun f fd F=>J5w F TS (by decide) | .ov=>hasm D.cl a3 fun f fd F=>J5w F TS (by decide) | .un=>hasm B.cl a2 fun f fd F=>J5w F TS (by decide) | .os=>hasm E.cl a4 fun f fd F=>Jdz F TS g aj | .us=>hasm A.cl a1 fun f fd F=>Jdu F TS g aj
 have ah:∀ k,HasM P w K mg base CX0 1 "own_first" ["self"] (J8f k) (cs k):=fun k=>match k with | .ho=>hasm G.cl az fun f fd F=>Jba F rfl | .ev=>hasm H.cl a0 fun f fd F=>Joa F | .ov=>hasm D.cl ax fun f fd F=>Jnw F | .un=>hasm B.cl aw fun f fd F=>Jba F rfl | .os=>hasm E.cl ay fun f fd F=>Jnz F | .us=>hasm A.cl av fun f fd F=>Jba F rfl
 have aP:=Jnl co g c7 aj;obtain ⟨dw,dq,dd,dj,cT,bh⟩:=cJ;obtain ⟨du,dn,dc,di,cS,bg⟩:=cL;have cH:=Jnx cm g aP dd dj cT bh dc di cS bg;obtain ⟨dv,dp,da,dg,cQ,be⟩:=cI;obtain ⟨dt,dm,db,dh,cR,bf⟩:=cK;have cG:=Jjg ck g aP da dg cQ be db dh cR bf;obtain ⟨dx,dr,de,dk,cU,bi⟩:=cN;obtain ⟨dy,ds,df,dl,cV,bj⟩:=cM;have cF:=Jrs cj g de dk cU bi df dl cV bj cH cG;have ag:=Jgw ci;have af:=ok_put ch ag;have J:=Jgz cg T;have I:=Jno cf g J;have ae:=Jjh ce g J;have cE:∀ k,HasM P w K mg base CX0 4 "behind" ["self","rest"] (J36 cs CR k) (cs k):=fun k=>match k with | .ho=>hasm G.cl aI fun f fd F=>Je2 F TS g ag J c8 | .ev=>hasm H.cl aJ fun f fd F=>Je3 F TS g ag af J ae c8 | .ov=>hasm D.cl aG fun f fd F=>Jdy F TS g af I ae c8 | .un=>hasm B.cl aF fun f fd F=>Jdw F TS g af I ae c8 | .os=>hasm E.cl aH fun f fd F=>Je0 F TS g c7 I c8 L | .us=>hasm A.cl aE fun f fd F=>Jdv F TS g c7 I c8 L
 have cD:=Jjx cd T TC;have cC:=Jrk cc T d g TS L;have cB:=Jk2 cb g TS ai;have cA:=makm cY am.1 am.2 eH fun f fd F=>Job F T g TS u c9 cD cF cE cB cC;have aO:=Jnp (C:=C) ca g TS u;have cz:=Jrv bZ g TS u aO ah cO cP;have cy:=Jrx bY TC g TS u cz ai;have z:=makm cW ak.1 ak.2 eW fun f fd F=>ok_sr F TW;have cx:=Jjy bW TW;have cw:=Jo4 bU TW;have cv:=Jo8 bT y cx cw;have cu:=Jo0 bS TW q z;have ad:=Jnm bR TC d z;have ac:=Jgx bQ cv cu;have aN:Cal CX0 5 "line_of" ["stretches"] (J7t C CW Q "line_of.<locals>.<lambda>"):=by obtain ⟨_,_,F,b,m,_,e,h⟩:=dB;exact ⟨_,_,Jjs F T a TW e h (ab Q (by simp)) c6,b,m,F.kp⟩
 have ct:=Jjm bP TW aa q z;have aM:Cal CX0 5 "joined_stretches" ["ones","twos"] (Jau CW O):=by obtain ⟨_,_,F,b,m,_,e,h⟩:=dJ;exact ⟨_,_,Jo5 F T a TW e h (ab O (by simp)) ct ac,b,m,F.kp⟩
 have TN:TNe Q O N:=⟨by simpa using bd,by simpa using bc,by simpa using bb⟩;have e1:=Jnr bH g aQ;have e2:=Jo6 (C:=C) (CR:=CR) bG TS u d ai;have e3:=makm cZ an.1 an.2 eP fun f fd F=>Jrr F TP;have e4:=Jnv bF TS e3;have e5:=Jnu bE q TS e3;have e6:=Jnt (C:=C) bD g TS u L ah e3 e4 e5;have e7:=Jrq (C:=C) (CR:=CR) (cs:=cs) bC T u;have e8:=Jo7 (CO:=0) bB g TS u TP e1 ah aO;have e9:=Jns bA T g TS u TP e7 e2 e6 e8;have b2:=Jny bX;have b1:=Jry (C:=C) (CR:=CR) (cs:=cs) b9 u b2;have b0:=Joe b8 cy b1 e9;have aL:Cal CX0 4 "back_stretches" ["line"] (Jav C CW N):=by obtain ⟨_,_,F,b,m,_,e,h⟩:=dK;exact ⟨_,_,Joc F T a TW e h (ab N (by simp)) ad z,b,m,F.kp⟩
 have aK:=Jo1 bO T bm aN;have bx:=Jju bN TC TN aK aM ad;have bw:=Jod b7 TN aN ac aL;have bv:=Jdx b6 TC TN T y aK aM ac ad aL z;have bu:=ok_rob bM;have bt:=Jjj (C:=C) (CR:=CR) (cs:=cs) bK T a u bu;have br:=Jrw bJ T;have bq:=Jrm b5 T;have bp:=Jk1 b4 T bq;have bo:=Jji bI;have bn:=Jgy b3 a bo;exact ok_law F T TC u br bp bt b0 bw bv bx bn c6 cA
theorem lnk{K:Frag}{f C j:Addr}{p:Value}{o q:Option Addr}{g:Array (Option Value)}{kV h n e ct w:Value}{v:Option Addr}{nT:Nat}{m:Array (Option Value)}(a:findIn K (.ref C) "__init__"=some (some (.ref f)))(i:isFn K (.ref f)=true)(l:K.lookup f=some ⟨p,o,.func (fnOf "__init__" "Line.__init__" (J2i (Jb (top 16) 0)) (J1j (Jb (top 16) 0)) (Je (Jb (top 16) 0)) (.ref j) kV h n q e ct),g⟩)(c:codeIn K e "Line.__init__"=true)(k:keepIn K (.ref f)=true)(r:K.lookup j=some ⟨w,v,.seq #[.none] nT,m⟩):LX K C (Jb (top 16) 0) :=
 ⟨f,_,j,⟨⟨p,o,kV,h,n,q,e,ct,g,rfl,l,c⟩,k⟩,fun s us X u=>by
  rw [append_nil] at u ⊢
  revert us
  exact usOf4 fun a b c d=>BindsTo.of_defaults (T:=j) rfl (X _ _ r) rfl rfl rfl,a,i,k⟩
theorem walk{l:PySem.W.OpenLaw}{q:Program}{i:List Str}{C:(Str->Option Value)->Heap->Prop}{p:World->Heap->Prop}{d:DefRec}{K:Params->Frag}{g e b:Addr}(r:l.most=some 63)(j:d.params.defaults=[])(y:∀ (w:World) (h:Heap),p w h->(K w.params).In h/\∀ P∈[b,g,e],h.get? P=some (PySem.W.tabObj #[]))(B:∀ (w:World),∀ P∈[b,g,e],(K w.params).lookup P=none)(F:∀ (w:World) (mg:Str->Option Value) (o:Addr) (h:Heap),(K w.params).In h->h.Ns mainGlobals mg->mg d.name=some (.ref o)->
   (∀ P∈[b,g,e],∃ c,PySem.W.codeHdIn (K w.params) c P=true)/\∃ fd:FuncData,(∀ (s:Shared) (u:Value),BindsTo s fd ⟨[u],[]⟩ [("script",u)])/\∀ base:Heap,(K w.params).In base->base.Ns mainGlobals mg->(∀ P∈[b,g,e],J9y base mg P)->FnOk l.prog w (K w.params) mg base CX0 8 o fd ["script"] (Jma (K w.params) g e b)):
  PySem.W.WalkO q i C p l.row.toRowW d [] (fun f vs=>PySem.call f vs):=
 L2.walk_ofU (n:=63) (k:=8) (x:="script") (CX:=fun _=>CX0) (sp:=fun w=>Jma (K w.params) g e b) (Ps:=[b,g,e]) r (by decide) j ⟨rfl,by decide,by decide⟩ y B F (fun _ _ a ns v m A=>⟨a,ns,rfl,A,v,⟨J2j.empty (m g (by simp)),J2j.empty (m e (by simp)),J2j.empty (m b (by simp))⟩,fun _=>rfl⟩) fun _ _ _ _ _ z=>z
end R74
open PySem PySem.W PyProof.Rows
structure PySem.W.Fast:Prop where(tw8890664495352939209 tw6656400919151008395 tw8081090600444327671 tw17034078340030630689 tw12462415827930584186 tw2464734627655502803 tw11720610228005732429 tw14313705100801816998 tw7576744990971110670 tw17313829429054454554 tw5273204813147120325 tw5853714228994449753 tw7696719250058883889 tw11085054572160028409 tw17490755824001735724 tw1129330276234939419 tw8221853220691177045 tw12752813723815500099 tw9051699246097692036 tw3780624441929328523 tw11772213083258364114 tw3825369910299527721 tw2771568005454858282 tw11360375422839070056 tw6041184089317747480 tw10376647415083027311 tw12338994082403846373 tw5758574457402621664 tw10857778087338536326 tw12395480478368852423 tw10463351207866346841 tw2196040767703109551 tw17488763298036920882 tw12469187042470375367 tw9074213782407754248 tw902525583314643287 tw17153561372842625274 tw13298443139677166385 tw9367236469653735211 tw2784930533780379362 tw13376472142946010046 tw17321096575681218976 tw4348302752769901195 tw15258820033578229617 tw4265412422101737623 tw2968836825149792568 tw16497254738982916487 tw14768951667964375387 tw16226780358617137431 tw6326778078936706855 tw15706501908705899498 tw13110902719238947163 tw8165073004528821978 tw17745549149177182946 tw6220710111779098985 tw2015086566057396801 tw11115658172942161643 tw129639278010916820 tw10448940737310936345 tw12484143833258878798 tw12939270413729806102 tw14330341062311089481 tw17416218823354952920 tw11315773459941320195 tw9754495601300197790 tw16126199911708389279 tw2708813139757943974 tw16731346741669217134 tw7904469107246247292 tw11510361857904271321 tw3631362724936607955 tw11074511148000165643 tw11523440088444507141 tw14527606877573163459 tw7734618755132463419 tw4240328271718937861 tw4091520106693873535 tw11111316156597724471 tw17350248870734398202 tw8705081367374534602 tw14170719535605575972 tw10749997574392338495 tw7690092426773146444 tw3539516916965360307 tw14404935415694945693 tw6514371404861213111 tw8370162858928599787 tw9348379951608623817 tw9790910737860818827 tw18347332548181002305 tw12158412176218196279 tw9335876147956954692 tw8723147956574315016 tw18252334578755375943 tw14574121188014933305 tw1996030306544000170 tw4641732021584593742 tw6770077140764767769 tw15651229869118120569 tw6431034773481951400 tw5137494659826516615 tw9446745074531298134 tw10707851728404070432 tw290432916251920493 tw4055056317608270334 tw15964971174176259446 tw13503871108848144649 tw14590746643454683625 tw11410663765665577370 tw10787542242337378762 tw747782700061270385 tw17972235898014523172 tw11037143206795416143 tw13299545087886712252 tw4472524396035743570 tw749140714586021019 tw982531452445895668 tw14650484609936868631 tw8006512944029769427 tw9325273924119213197 tw8161796431304096324 tw12700750469229864957 tw16271167470448635534 tw10599617086368715619 tw6316913972895004311 tw4448151501136017863 tw11089354338765409813 tw12833836589225966047 tw13071823667679850961 tw10260533309642004678 tw14447809179360644511 tw11468528206865752751 tw10949112694329442134 tw13841168339474995548 tw12505630774003622784 tw6090238360604294763 tw4132210178050078321 tw7794994652422108375 tw1777859187508281322 tw7356793147109576456 tw770273059941727680 tw8457395469439843012 tw6691411871533470972 tw13853987888178687068 tw12183849446499250976 tw18399610297242708134 tw9693199289706494599 tw14086896416362050228 tw9452536791323810785 tw8649911129593059081 tw17758873544437883344 tw5680775476159685947 tw18256772166435676776 tw5677242766349232139 tw18014273291081470384 tw6951841306653073636 tw8440652638884161487 tw4041712453678848847 tw16716294125396000644 tw4434079336324714986 tw8533076544199529936 tw15639149282098219823 tw18314230345375529228 tw10094582241289766275 tw9182796896589018452 tw7792749210622713446 tw12885781522578884272 tw11899878093169095503 tw16386678753139064645 tw2442036868349390970 tw13688063981898242973 tw9259205899853386334 tw8103536273951413273 tw14685206531542654241 tw1264578173205022599 tw7039894754146691417 tw15753146644024156057 tw9750209101158873630 tw14745380505130868842 tw8730796354050455703 tw224495309364438661 tw7057964635376200193 tw2466867358097195258 tw10436026405845099148 tw14427935689587784155 tw623949549939977403 tw6330916816836763261 tw5509265736360379986 tw6465564691227907251 tw9880194826273305568 tw5060054853779623122 tw15769004809001204643 tw10451610602933812424 tw18369781611971562570 tw83038641319932781 tw11564809622916725049 tw309041082093156771 tw16461602387205692569 tw17509110578290546052 tw5091521302702282182 tw5727200745731937764 tw12648569724918472518 tw6865731059545315748 tw9156995923016613535 tw2856200085191491646 tw18406464837722807331 tw4083820038877398930 tw13854475100279043354 tw2049083394419515811 tw1475015139339106201 tw17315132146749397361 tw15733670946751417388 tw6835752542844724297 tw10233187356047720520 tw2162970057920992273 tw2502286478058604897 tw3799512256236725000 tw1478088050936527251 tw9266102152098996132 tw12014729964186182366 tw12087045918421205786 tw11594629652343319995 tw2774001158082058373 tw1655398162775261798 tw9276446994691489711 tw3325313512162620256 tw3222891231393579286 tw3882504010157196931 tw3206296486748451417 tw13289295095437370484 tw13353750977246476517 tw4935027758285824731 tw10310183271455471159 tw6781404129450691625 tw4930010987664550557 tw11969464612594001258 tw2317272560464383217 tw2610484034381843742 tw12110849664281833806 tw7487218245917261722 tw720246558028275217 tw15372654185324977083 tw14850831379606289728 tw10538843991146596644 tw1580122584770400583 tw18313031945037259518 tw16584549530759035570 tw7339424859862687171 tw9692479977873859330 tw14915751772026952368 tw2915440386468018368 tw10823419607563085397 tw1157565137707588919 tw12672988438864557252 tw135158821909396374 tw11885657927651499664 tw13049497203654931867 tw8055864847112348596 tw17415345157661374142 tw10803765287645769364 tw8970203201708854552 tw8681944370312292305 tw2351304283887925561 tw7280036876881373793 tw1325275360343900147 tw10747067580711924063 tw14351497596337055802 tw14822849091827847273 tw7316789613430875562 tw820184035050013305 tw302030251979614777 tw344806132778708521 tw15366955539781456287 tw1803899910676536894 tw12134279261598395945 tw1205135587130084141 tw6962349691269188471 tw11778680705607041733 tw16417451382512513380 tw14899693410034984435 tw8691721104895845688 tw6069572740077484670 tw14099831449370506769 tw13535139092160661691 tw12633207621308621140 tw12324289960790146059 tw4048491914333385210 tw11415587559482900220 tw8497158981680537033 tw1187517604807841488 tw12687091017430303988 tw10996218410063661388 tw3795561783210893550 tw14893643007869033250 tw6251521937664919259 tw924757661941108078 tw7581471489410104786 tw3392186475088827247 tw1663672196992917305 tw8886075360505358866 tw8833280787419546861 tw12402081688843003540 tw12491874072294196580 tw4809990029335537044 tw4453082599658518319 tw3806404999445347088 tw13383977351026214230 tw16062677960497437703 tw8765646230682214007 tw8106256030107715612 tw5779454437558419569 tw14756479970949819833 tw17747970247599662437 tw980293302071810913 tw1641692257012913028 tw4981258831724662639 tw5786588077668763631 tw8714948439175319810 tw12362608835428329241 tw16234777691896850639 tw9829549617834259250 tw10304979064448663680 tw17669654569725885089 tw6871056026021041371 tw6569475576601530738 tw2303326585436407673 tw11768888389081532783 tw11021659381394378602 tw7649656621795929289 tw11511302103748702102 tw1241525001384019380 tw3255718503259203865 tw982979595053659610 tw16795664261056340435 tw5054024869506173032 tw12580172637267572740 tw16062114442135447494 tw13850794372816628448 tw5255276260602144278 tw16529931176507834193 tw13019031888180423307 tw1035636039753466726 tw9340631220138205174 tw7082598795510933299 tw9175953829247300408 tw6793525390259660133 tw3135437483113722757 tw12603733769993865664 tw12090854413007038635 tw10558934181571962080 tw12185239808165734016 tw6997979480917851306 tw9772222750065628866 tw9794864088453089992 tw8902532017976146595 tw6492365100084634972 tw17277038901885200935 tw9110594791326760697 tw16285339213078697144 tw15175279658720664933 tw5219268226816874340 tw1448370253445506515 tw4398955957415077866 tw14835346771155574813 tw7940624467108638691 tw10235971201974935911 tw4296576608320600927 tw15199611787376317836 tw9855668785635602545 tw6184182950971369979 tw1544223775480182917 tw15594043201564428987 tw10643838076659814366 tw11058864521708727593 tw5069921575907300045 tw4605096127587540875 tw16122129408753194633 tw1105007300275608837 tw17344290373668612975 tw9020821989930126910 tw15135055903500294883 tw4010026897352838493 tw9464156875847235647 tw14711846128657317170 tw11276463443601683257 tw17106861218236890341 tw2680254423885694746 tw3039086770364069578 tw3868042236113267784 tw3701184846519862214 tw6870678505508775757 tw3584871650254750326 tw15353449223486616160 tw9742438922457509648 tw8672964873548745767 tw2733871618664667118 tw1190992530579563254 tw8247180296650856726 tw14486468764689700737 tw7547873253664639942 tw7333586941198822566 tw137067286688008997 tw9437878312838924633 tw17955167659656476933 tw12780342628994718889 tw7191473396365072463 tw13302160701010898664 tw13440801369247340645 tw17780096632964524563 tw468409395820272281 tw14723801682515548281 tw15497979831754511423 tw6300704370012612645 tw5461084260245105377 tw17894809505886660497 tw18335241877791919446 tw4945714475024477981 tw7294813799194973843 tw10302134184105025186 tw12974083898594311476 tw13234045951018862268 tw10177362490492239668 tw1641686374294114319 tw6029137204588104463 tw10325831379831233387 tw8435049367196504909 tw15858403746632817635 tw3579886898143357810 tw8085351054913069357 tw12276964394878630822 tw3739817323338367831 tw5749282329341227509 tw18345404841422159588 tw17650129017458364692 tw13425994125818743062 tw396714852204263218 tw3947244328399345420 tw12410782618940791982 tw10293377316832380792 tw12712981753278389216 tw1349447446178202341 tw4322838698233570394 tw4237212130335349578 tw2608603539538780510 tw6135182815493298546 tw2654607304529707815 tw17355150260114674162 tw6410789295801142064 tw15796416458548908454 tw16048066445167353846 tw16305413312966653440 tw5945103099122782559 tw3513181198542388152 tw8327228568250143359 tw14375832475485175993 tw4451039871899093048 tw3583860872902921494 tw2568032822500895455 tw3470628731429630996 tw6233753847114627754 tw12638742619232561160 tw556207265200057719 tw13365819934861010598 tw9832712537307242698 tw12946698644236941352 tw1323407965005985286 tw15296866952930434469 tw3241036798074392528 tw8710990673533693416 tw1636315905056031130 tw4377581948849828392 tw18281123936778887463 tw12755051831522976829 tw999160219832538669 tw860169500093933928 tw4500991235116762804 tw14138772839707670553 tw7832548012382442339 tw16238933295881958542 tw10870169374174014109 tw15949515177819544899 tw10499651852917647448 tw7586513133652741148 tw13145155181031730851 tw17319765541034761191 tw8268071903991812691 tw9304405158675092359 tw6619545364591833273 tw2251914452822415331 tw4698175098147961372 tw17734549391080472066 tw3222801359283746796 tw4993550947991222408 tw13396111180290294090 tw14272392015443298973 tw4597416555369250906 tw6029509883913861382 tw14913859206133800160 tw16649432447848483427 tw18280798455507422785 tw9506725150861027951 tw16150070752370171049 tw9725640299855714751 tw18214447618156220526 tw9988857305602256128 tw12371499143072002046 tw15422879288744982267 tw4769335946311439443 tw925748586228094648 tw16150429046157699695 tw10495537641401469160 tw9250775299461815577 tw14168961405092315545 tw8990375409953167364 tw7910088291036392812 tw9672587265423022288 tw7964918582844642654 tw683762507447419166 tw14334533539572387446 tw12404664554334637884 tw9786131006547902467 tw12072609057492579980 tw1124683169300883747 tw4887838271926744420 tw7545469596669413357 tw6908050942623457451 tw900132547749656850 tw12397507337320662535 tw13019442587836435340 tw16953666956858194224 tw17922576583104761463 tw14323092125980196730 tw8768117650112702523 tw11376968666169158845 tw4226462386400138725 tw4445704762520493686 tw15220501522871276435 tw11723418666216672484 tw4663530862669027509 tw7082569167007622282 tw16164206126589558655 tw13761701612701417098 tw7652216187450296513 tw7011934167981690682 tw15376484335857300191 tw14008476211109249770 tw16769795788027560719 tw11804744613622932158 tw6198760705754641840 tw10672301659311134718 tw6456377998945576337 tw13964541354727440691 tw7972715886585644381 tw6230281004056162333 tw16071730637137729254 tw5789882698808221697 tw2866871171790884825 tw13373688616696365074 tw16857450947592394704 tw1369557137183913917 tw17255858643759553341 tw2736868578139624045 tw371008767879549238 tw6480294236605439873 tw5030938197046792481 tw16970639027244120421 tw8571800865677614814 tw2908311599711563991 tw12148622632730275116 tw11947624348598842929 tw12636518556160582940 tw319864509729469061 tw14123332301360694384 tw341886099228839579 tw7724019098938608487 tw11585463438663294551 tw906686944056939957 tw9305318567583186145 tw6038081114571446670 tw445730997520257399 tw339006266833330947 tw5226572023477371022 tw11133071209892839706 tw1813740908709933566 tw12197547883552323588 tw11445387743054257681 tw11463032197391702859 tw4374936318603038105 tw17655411927312422932 tw16367596195041669347 tw712521089654241925 tw17325993326078189058 tw13727479510666359583 tw12481615122774687878 tw15292028983685874532 tw3718329287083510594 tw4200697883688753478 tw18244272714938390166 tw12824315782186216513 tw13036438930952068554:True)
set_option maxRecDepth 100000 in
set_option maxHeartbeats 0 in
theorem PySem.Challenge.cw_relaid_k74_whole_back_and_forth_holds : PySem.Challenge.rw_relaid_k74_whole_back_and_forth.Holds := by
  w_on; o_law; k_head; (case hw => w_witness2)
  k_fill
  refine R74.walk (l:= PySem.Challenge.rw_relaid_k74_whole_back_and_forth) rfl rfl (fun w h Y => ⟨PySem.W.km_in_of Y, PySem.W.km_tabs_of Y⟩) ?P ?F
  case P =>
    intro w P hP;simp only [List.mem_cons, List.not_mem_nil, or_false] at hP;rcases hP with rfl | rfl | rfl
    all_goals kernel_rfl
  case F =>
    intro w mg fa h KX G hmg;apply R74.law_ok hmg
    iterate 13 exact PySem.W.mg_of KX G (by k_is)
    iterate 5 exact PySem.W.mg_none_of KX G (by k_is)
    · constructor <;> exact PySem.W.mg_none_of KX G (by k_is)
    · exact ⟨PySem.W.mg_none_of KX G (by k_is), PySem.W.mg_none_of KX G (by k_is), PySem.W.mg_none_of KX G (by k_is), PySem.W.mg_none_of KX G (by k_is), PySem.W.mg_none_of KX G (by k_is), PySem.W.mg_none_of KX G (by k_is), PySem.W.mg_none_of KX G (by k_is), _, PySem.W.mg_of KX G (by k_is)⟩
    iterate 11 focus (constructor; exact L2.clk (by k_is) (by k_is) (by k_is) (by k_is); all_goals (show _ = _; k_is))
    iterate 11 exact ⟨by k_is, by k_is⟩
    iterate 57 exact L2.fnk KX G (by k_is) (by k_is) (by k_is) (by k_is) (by first | exact L2.usOf1 fun _ => rfl | exact L2.usOf2 fun _ _ => rfl | exact L2.usOf3 fun _ _ _ => rfl | exact L2.usOf4 fun _ _ _ _ => rfl)
    iterate 34 exact L2.mek (by k_is) (by k_is) (by k_is) (by k_is) (by k_is) (by first | exact L2.usOf1 fun _ => rfl | exact L2.usOf2 fun _ _ => rfl | exact L2.usOf3 fun _ _ _ => rfl | exact L2.usOf4 fun _ _ _ _ => rfl | exact L2.usOf5 fun _ _ _ _ _ => rfl)
    · exact L2.bsk (by k_is) (by k_is) (by k_is) (by k_is) (by k_is) (by k_is) (L2.usOf4 fun _ _ _ _ => rfl)
    · exact R74.lnk (by k_is) (by k_is) (by k_is) (by k_is) (by k_is) (by k_is)
    · exact L2.ftk KX G (by k_is) (by k_is) (by k_is) (by k_is) (L2.usOf1 fun _ => rfl) (by kernel_rfl)
    · exact L2.ftk KX G (by k_is) (by k_is) (by k_is) (by k_is) (L2.usOf2 fun _ _ => rfl) (by kernel_rfl)
    · exact L2.ftk KX G (by k_is) (by k_is) (by k_is) (by k_is) (L2.usOf1 fun _ => rfl) (by kernel_rfl)
    · exact L2.flk KX G (by k_is) (by k_is) (by k_is) (by k_is) fun _ => rfl
    iterate 3 rfl
#print axioms PySem.Challenge.cw_relaid_k74_whole_back_and_forth_holds
